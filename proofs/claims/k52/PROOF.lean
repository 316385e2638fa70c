import PyProof.Rows.All
import Wide.All
import OpenK.AllK
import Wide.FinOn
import HandS.ForMost
import HandS.Codes
import HandS.Conv
import HandS.IsInst
import HandS.NamedTupSort
import HandS.ForExc
import HandS.WideBits
import HandS.ClsMeth
import HandS.IterVal
import HandS.Words
import HandS.SortKw
import HandS.SetFor
import HandS.DictComp
import HandS.Strs
import HandS.TryMany
import HandS.ExcField
import HandS.ExcInit
import HandS.SlotsOwn
import HandS.Style
import HandS.TupAny
import HandS.Walk
import HandS.SortInts
import HandS.ExcOwn
import PySem.Challenge.RW_lotsayings_k52_even_by_held_numbers
set_option Elab.async false
set_option linter.all false
set_option maxRecDepth 100000
set_option maxHeartbeats 4000000
/-! The law's own part of the row by places. -/
namespace Fam
open PySem
def top (i : Nat) : Stmt := PySem.Challenge.pw_lotsayings_k52_even_by_held_numbers.main.body.getD i (.Pass ⟨0, 0, 0, 0⟩)

abbrev sDraws : Stmt := top 46
abbrev sTake : Stmt := top 47
abbrev sLawInt : Stmt := top 48
abbrev sFull : Stmt := top 49
abbrev sOnes : Stmt := top 50
abbrev sLot : Stmt := top 51
abbrev sMask : Stmt := top 52
abbrev sFamily : Stmt := top 53
abbrev sAllLots : Stmt := top 54
abbrev sDrawnMasks : Stmt := top 55
abbrev sOrder : Stmt := top 56
abbrev sLotsOf : Stmt := top 57
abbrev sShown : Stmt := top 58
abbrev sTripleDue : Stmt := top 59
abbrev sGoodNumber : Stmt := top 60
abbrev sLHeld : Stmt := top 61
abbrev sAllNumbers : Stmt := top 62
abbrev sLotsOk : Stmt := top 63
abbrev sAgainstOk : Stmt := top 64
abbrev sAskedOk : Stmt := top 65
abbrev sLargeOk : Stmt := top 66
abbrev sWord : Stmt := top 67
abbrev sJoinedOk : Stmt := top 68
abbrev sLaw : Stmt := top 69
end Fam

/-! The tape and the numbers of the families' laws. -/
namespace Fam
open PySem L2
open C8 (pss_cut tCut)

/-- built-in names that the top leaves as they are -/
structure Bare (mg : Str → Option Value) : Prop where
  len : mg "len" = none
  int : mg "int" = none
  range : mg "range" = none
  min : mg "min" = none
  bool : mg "bool" = none
  isi : mg "isinstance" = none
  tuple : mg "tuple" = none
  list : mg "list" = none
  abs : mg "abs" = none
  sorted : mg "sorted" = none

theorem ixN_at {n j : Nat} (h : j < n) : ixN n (j : Int) = some j := by
  unfold ixN
  rw [if_pos (Int.natCast_nonneg j), if_pos (by omega)]
  rfl
theorem small {n m : Nat} (h : n ≤ m) (hm : m ≤ 16777216 := by decide) : n ≤ sizeLine := by
  rw [sizeLine_eq]
  omega
theorem below {n m : Nat} (h : n ≤ m) (hm : m < 16777216 := by decide) : n < sizeLine := by
  rw [sizeLine_eq]
  omega
/-- a new address: all that stood stands -/
theorem same_new {H : Hp} {p : Addr} {o : HO} (h : H p = none) : Same H (upd H p o) := fun b x e => by
  rw [upd_ne (ne_of_none e h)]
  exact e

theorem fm {x b : Int} (h : 0 < b) (h2 : b ≤ 2147483648) : 0 ≤ x.fmod b ∧ x.fmod b < 2147483648 := ⟨Int.fmod_nonneg_of_pos _ h, Int.lt_of_lt_of_le (Int.fmod_lt_of_pos _ h) h2⟩

/-! ### the tape -/
/-- the tape at a: its cursor c and the numbers behind it -/
def TapeAt (H : Hp) (a : Addr) (c : Nat) (ts : List Int) : Prop := H a = some (.lst (V.int (c : Int) :: ts.map V.int))
/-- what one draw gives, and the cursor behind it -/
def drawn (c : Nat) (ts : List Int) (m : Int) : Int := if c < ts.length then (ts.getD c 0).fmod m else 0
def after (c : Nat) (ts : List Int) : Nat := if c < ts.length then c + 1 else c
theorem drawn_lt {c : Nat} {ts : List Int} {m : Int} (hm : 0 < m) : 0 ≤ drawn c ts m ∧ drawn c ts m < m := by
  unfold drawn
  split
  · exact ⟨Int.fmod_nonneg_of_pos _ hm, Int.fmod_lt_of_pos _ hm⟩
  · exact ⟨Int.le_refl _, hm⟩

def spTake : Sp := fun vs H Q _ => ∃ (a : Addr) (c : Nat) (ts : List Int) (m : Int), vs = [.ref a, .int m] ∧ TapeAt H a c ts ∧ m ≠ 0 ∧
  ∀ H' : Hp, (∀ b, b ≠ a → H' b = H b) → TapeAt H' a (after c ts) ts → Q (.int (drawn c ts m)) H'
/-- the numbers of a tape, laid from a script -/
def spDraws (K : PySem.W.Frag) : Sp := fun vs H Q _ => ∃ (a : Addr) (ns : List Int), vs = [.ref a] ∧ SqL K H a (ns.map V.int) ∧ ns.length ≤ 63 ∧
  ∀ (H' : Hp) (p : Addr) (ts : List Int), Same H H' → H p = none → TapeAt H' p 0 ts → Q (.ref p) H'

section
variable {P : Program} {w : World} {K : PySem.W.Frag} {mg : Str → Option Value} {base : Heap}
theorem scT : FnScope ["_law_tape", "_law_many", "_law_at"] ["_law_tape", "_law_many"] (defScope sTake) := ⟨rfl, rfl, rfl, by decide +kernel, rfl, by decide +kernel, by decide +kernel⟩
theorem ok_take {f : Addr} {fd : FuncData} (F : Fun K "_law_take" "_law_take" sTake f fd) (T : Bare mg) : FnOk P w K mg base CX0 1 f fd ["_law_tape", "_law_many"] spTake := by
  refine F.ok scT (fun vs H Q E h => ?_) (fun cdv A outer s H vs Q E hr h => ?_)
  · obtain ⟨a, c, ts, m, rfl, _⟩ := h
    rfl
  · obtain ⟨a, c, ts, m, rfl, hT, hm, k⟩ := h
    refine ⟨_, pss_cons (ps_set (i := 2) scT.nd rfl (Or.inl rfl) (pe_op op_add (pe_ix ix_list (pv 0) pe_int (fun _ _ => rfl)) pe_int))
      (pss_cons (ps_if (pt_cmpR op_ge (pv 2) (pe_callB call_len_seq (by rfl) T.len PySem.boot_len (pa_cons (pv 0) pa_nil)) (nomark _)) (pss_one (ps_ret pe_int)) pss_nil)
      (pss_cons (ps_asg (pv 2) (pg_sub (pv 0) pe_int set_list))
      (pss_one (ps_ret (pe_op op_modN (pe_callTy call_int1 (by rfl) T.int (by decide +kernel) (pa_cons (pe_ix ix_list (pv 0) (pv 2) (fun _ _ => rfl)) pa_nil)) (pv 1)))))), ?_⟩
    refine ⟨_, rfl, a, _, _, _, rfl, rfl, SqL.of hT, atI_nat (j := 0) rfl, _, _, rfl, rfl, ?_⟩
    refine ⟨_, rfl, _, rfl, a, _, rfl, .inl (SqL.of hT), _, _, rfl, rfl, _, rfl, ?_⟩
    have el : ((V.int (c : Int) :: ts.map V.int).length : Int) = (ts.length : Int) + 1 := by
      rw [List.length_cons, List.length_map]
      omega
    refine ite2 (fun z => ?_) (fun z => ?_)
    · have z' := of_decide_eq_true z
      have hc : ¬ c < ts.length := by omega
      have e1 : drawn c ts m = 0 := if_neg hc
      have e2 : after c ts = c := if_neg hc
      have q := k H (fun _ _ => rfl) (by rw [e2]; exact hT)
      rw [e1] at q
      exact q
    · have z' := fun q => z (decide_eq_true q)
      have hc : c < ts.length := by
        have z2 : ¬ (((V.int (c : Int) :: ts.map V.int).length : Int) ≤ (c : Int) + 1) := z'
        omega
      have e1 : drawn c ts m = (ts.getD c 0).fmod m := if_pos hc
      have e2 : after c ts = c + 1 := if_pos hc
      have hi : (V.int (c : Int) :: ts.map V.int)[c + 1]? = some (V.int (ts.getD c 0)) := by
        rw [List.getElem?_cons_succ, List.getElem?_map, List.getD_eq_getElem?_getD, List.getElem?_eq_getElem hc]
        rfl
      refine ⟨_, rfl, _, rfl, a, _, _, 0, rfl, rfl, hT, ixN_at (j := 0) (by rw [List.length_cons]; omega), ?_⟩
      have eu : (V.int (c : Int) :: ts.map V.int).set 0 (V.int ((c : Int) + 1)) = V.int (((c + 1 : Nat)) : Int) :: ts.map V.int := rfl
      have hi2 : ((V.int (c : Int) :: ts.map V.int).set 0 (V.int ((c : Int) + 1)))[c + 1]? = some (V.int (ts.getD c 0)) := hi
      refine ⟨_, rfl, _, rfl, a, _, _, V.int (ts.getD c 0), rfl, rfl, SqL.of upd_same, atI_nat (j := c + 1) hi2, .inl ⟨_, rfl, _, rfl, _, _, rfl, rfl, hm, ?_⟩⟩
      have q := k (upd H a (.lst (V.int ((c + 1 : Nat) : Int) :: ts.map V.int))) (fun b hb => upd_ne hb) (by rw [e2]; exact upd_same)
      rw [e1] at q
      exact q

theorem scD : FnScope ["_law_script", "_law_tape", "_law_place", "_law_cell", "_law_k", "_law_mixed"] ["_law_script"] (defScope sDraws) := ⟨rfl, rfl, rfl, by decide +kernel, rfl, by decide +kernel, by decide +kernel⟩
theorem ok_draws {f : Addr} {fd : FuncData} (F : Fun K "_law_draws" "_law_draws" sDraws f fd) (T : Bare mg) : FnOk P w K mg base CX0 1 f fd ["_law_script"] (spDraws K) := by
  refine F.ok scD (fun vs H Q E h => ?_) (fun cdv A outer s H vs Q E hr h => ?_)
  · obtain ⟨a, ns, rfl, _⟩ := h
    rfl
  · obtain ⟨a, ns, rfl, hS, hl, k⟩ := h
    refine ⟨_, pss_cons (ps_set (i := 1) scD.nd rfl (Or.inl rfl) (pe_lst (pa_cons pe_int pa_nil)))
      (pss_cons (ps_for PassesOwn.never rfl (pi_range1 rfl T.range (pa_cons (pe_callB (call_min2 rfl) (by rfl) T.min (by decide +kernel) (pa_cons (pe_callB call_len_seq (by rfl) T.len PySem.boot_len (pa_cons (pv 0) pa_nil)) (pa_cons pe_int pa_nil))) pa_nil))
          (pg_name (i := 2) scD.nd rfl (Or.inl rfl))
        (pss_cons (ps_set (i := 3) scD.nd rfl (Or.inl rfl) (pe_callTy call_int1 (by rfl) T.int (by decide +kernel) (pa_cons (pe_ix ix_list (pv 0) (pv 2) (fun _ _ => rfl)) pa_nil)))
        (pss_cut (ps_if (pt_cmpR op_lt (pv 3) pe_int (nomark _)) (pss_one (ps_set (i := 3) scD.nd rfl (Or.inl rfl) (pe_op op_sub pe_int (pv 3)))) pss_nil)
        (pss_one (ps_if (pt_cmpR op_ge (pv 3) (pe_op op_pow pe_int pe_int) (nomark _))
          (pss_one (ps_for PassesOwn.never rfl (pi_range1 rfl T.range (pa_cons pe_int pa_nil)) (pg_name (i := 4) scD.nd rfl (Or.inl rfl))
            (pss_one (ps_if (pt_cmpR op_gt (pv 3) pe_int (nomark _))
              (pss_cons (ps_expr (pe_bm PySem.F.plainAttrs_list PySem.F.slot_list_append PySem.F.type_list_append mt_append (pv 1) (pa_cons (pe_op op_modN (pe_callTy call_int1 (by rfl) T.int (by decide +kernel) (pa_cons (pv 3) pa_nil)) pe_int) pa_nil)))
              (pss_one (ps_set (i := 3) scD.nd rfl (Or.inl rfl) (pe_op op_fdivN (pv 3) pe_int)))) pss_nil))))
          (pss_cons (ps_set (i := 5) scD.nd rfl (Or.inl rfl) (pe_op op_modN (pe_callTy call_int1 (by rfl) T.int (by decide +kernel) (pa_cons (pe_op op_add (pe_op op_add (pe_op op_mul (pv 3) pe_int) (pe_op op_mul (pv 2) pe_int)) pe_int) pa_nil)) pe_int))
          (pss_one (ps_for PassesOwn.never rfl (pi_range1 rfl T.range (pa_cons pe_int pa_nil)) (pg_name (i := 4) scD.nd rfl (Or.inl rfl))
            (pss_cons (ps_set (i := 5) scD.nd rfl (Or.inl rfl) (pe_op op_modN (pe_callTy call_int1 (by rfl) T.int (by decide +kernel) (pa_cons (pe_op op_add (pe_op op_add (pe_op op_add (pe_op op_mul (pv 5) (pv 5)) (pe_op op_mul (pv 4) pe_int)) (pe_op op_mul (pv 2) pe_int)) pe_int) pa_nil)) pe_int))
            (pss_one (ps_expr (pe_bm PySem.F.plainAttrs_list PySem.F.slot_list_append PySem.F.type_list_append mt_append (pv 1) (pa_cons (pv 5) pa_nil)))))))))))))
      (pss_one (ps_ret (pv 1)))), ?_⟩
    refine ⟨small (m := 1) (Nat.le_refl _), fun p hp => ?_⟩
    have s1 : Same H (upd H p (.lst [V.int 0])) := same_new hp
    refine ⟨_, rfl, a, _, rfl, .inl (s1.seq hS), _, _, rfl, ?_⟩
    obtain ⟨j, hj⟩ : ∃ j : Nat, (if (63 : Int) < ((ns.map V.int).length : Int) then (63 : Int) else ((ns.map V.int).length : Int)) = (j : Int) ∧ j ≤ ns.length := by
      rw [List.length_map]
      by_cases q : (63 : Int) < (ns.length : Int)
      · exact ⟨63, by rw [if_pos q]; rfl, by omega⟩
      · exact ⟨ns.length, by rw [if_neg q], Nat.le_refl _⟩
    rw [hj.1]
    refine ⟨_, rfl, by omega, by omega, for_range (lo := 0) (n := j) (fun i σ H' => ∃ (ts : List Int) (y2 y3 y4 y5 : Option V), σ = [some (.ref a), some (.ref p), y2, y3, y4, y5] ∧ Same H H' ∧ TapeAt H' p 0 ts ∧ ts.length ≤ 48 * i)
      ⟨[], none, none, none, none, rfl, s1, upd_same, by simp⟩ ?_ ?_⟩
    · rintro i σ H1 hi ⟨ts, y2, y3, y4, y5, rfl, sm, hT, hlen⟩
      have hin : i < ns.length := by omega
      have gi : (ns.map V.int)[i]? = some (V.int ns[i]) := by
        rw [List.getElem?_map, List.getElem?_eq_getElem hin]
        rfl
      refine ⟨_, rfl, _, rfl, a, _, _, V.int ns[i], rfl, rfl, sm.seq hS, by rw [Int.zero_add]; exact atI_nat gi, .inl ⟨_, rfl, ?_⟩⟩
      refine ⟨fun σ' H' => H' = H1 ∧ ∃ c : Int, σ' = [some (.ref a), some (.ref p), some (.int (0 + (i : Int))), some (.int c), y4, y5], ⟨_, rfl, _, _, rfl, rfl, _, rfl, ite2 (fun _ => ⟨_, rfl, _, _, rfl, rfl, rfl, _, rfl⟩) fun _ => ⟨rfl, _, rfl⟩⟩, ?_⟩
      rintro _ _ ⟨rfl, c, rfl⟩
      -- the word of both loops within
      refine ⟨_, rfl, _, _, rfl, rfl, ⟨by decide, by decide, by decide⟩, _, _, rfl, rfl, _, rfl, ite2 (fun z => ?_) (fun z => ?_)⟩
      · refine ⟨_, rfl, by decide, by decide, for_range (lo := 0) (n := 48) (fun q σ' H' => ∃ (ts' : List Int) (c : Int) (y4 : Option V), σ' = [some (.ref a), some (.ref p), some (.int (0 + (i : Int))), some (.int c), y4, y5] ∧ Same H H' ∧ TapeAt H' p 0 ts' ∧ ts'.length ≤ 48 * i + q)
          ⟨ts, c, y4, rfl, sm, hT, hlen⟩ ?_ ?_⟩
        · rintro q σ H2 hq ⟨ts', c, y4, rfl, sm, hT, hlen⟩
          refine ⟨_, rfl, _, _, rfl, rfl, _, rfl, ite2 (fun z => ?_) (fun z => ⟨ts', c, _, rfl, sm, hT, by omega⟩)⟩
          refine ⟨_, rfl, .inl ⟨rfl, _, SqL.of hT⟩, _, rfl, .inl ⟨_, rfl, _, _, rfl, rfl, (by show (30 : Int) ≠ 0; decide), p, _, _, rfl, rfl, hT, ?_, ?_⟩⟩
          · rw [List.length_cons, List.length_map]
            exact below (m := 4000) (by omega)
          · refine ⟨_, rfl, _, _, rfl, rfl, ⟨by decide, by decide⟩, ts' ++ [c.fmod 30], _, _, rfl, fun b o e => ?_, ?_, ?_⟩
            · rw [upd_ne (ne_of_none e hp)]
              exact sm _ _ e
            · unfold TapeAt
              rw [upd_same, List.map_append]
              rfl
            · rw [List.length_append]
              show ts'.length + 1 ≤ _
              omega
        · rintro σ H2 ⟨ts', c, y4, rfl, sm, hT, hlen⟩
          exact ⟨ts', _, _, _, _, rfl, sm, hT, by omega⟩
      · refine ⟨_, rfl, _, _, rfl, rfl, .inr ⟨by decide, by decide⟩, _, rfl, _, _, rfl, rfl, .inr ⟨by decide, by decide⟩, _, _, rfl, rfl, _, _, rfl, rfl, .inl ⟨_, rfl, _, _, rfl, rfl, (by show (2147483629 : Int) ≠ 0; decide), ?_⟩⟩
        refine ⟨_, rfl, by decide, by decide, for_range (lo := 0) (n := 5) (fun q σ' H' => ∃ (ts' : List Int) (m : Int) (y4 : Option V), σ' = [some (.ref a), some (.ref p), some (.int (0 + (i : Int))), some (.int c), y4, some (.int m)] ∧ Same H H' ∧ TapeAt H' p 0 ts' ∧ ts'.length ≤ 48 * i + q ∧ 0 ≤ m ∧ m < 2147483648)
          ⟨ts, _, y4, rfl, sm, hT, by omega, fm (by decide) (by decide)⟩ ?_ ?_⟩
        · rintro q σ H2 hq ⟨ts', m, y4, rfl, sm, hT, hlen, hm0, hm1⟩
          refine ⟨_, rfl, _, rfl, _, _, rfl, rfl, .inl ⟨by omega, by omega⟩, _, rfl, _, _, rfl, rfl, .inr ⟨by decide, by decide⟩, _, _, rfl, rfl, _, rfl, _, _, rfl, rfl, .inr ⟨by decide, by decide⟩, _, _, rfl, rfl, _, _, rfl, rfl, .inl ⟨_, rfl, _, _, rfl, rfl, (by show (2147483587 : Int) ≠ 0; decide), ?_⟩⟩
          refine ⟨_, rfl, .inl ⟨rfl, _, SqL.of hT⟩, _, rfl, p, _, _, rfl, rfl, hT, ?_, ts' ++ [(m * m + (0 + (q : Int)) * 48611 + (0 + (i : Int)) * 31 + 11).fmod 2147483587], _, _, rfl, fun b o e => ?_, ?_, ?_, fm (by decide) (by decide)⟩
          · rw [List.length_cons, List.length_map]
            exact below (m := 4000) (by omega)
          · rw [upd_ne (ne_of_none e hp)]
            exact sm _ _ e
          · unfold TapeAt
            rw [upd_same, List.map_append]
            rfl
          · rw [List.length_append]
            show ts'.length + 1 ≤ _
            omega
        · rintro σ H2 ⟨ts', m, y4, rfl, sm, hT, hlen, _⟩
          exact ⟨ts', _, _, _, _, rfl, sm, hT, by omega⟩
    · rintro σ H1 ⟨ts, y2, y3, y4, y5, rfl, sm, hT, hlen⟩
      exact ⟨_, rfl, k H1 p ts sm hp hT⟩
end
end Fam

/-! Masks and lots of the families' laws. -/
namespace Fam
open PySem L2
open C8 (pss_cut tCut)

/-! ### the law's words, told by whole numbers -/
/-- how many of the lower n places the mask m has -/
def onesN (m : Nat) : Nat → Nat
  | 0 => 0
  | n + 1 => onesN m n + m / 2 ^ n % 2
/-- the places among the lower n that the mask m has -/
def lotN (m : Nat) : Nat → List Nat
  | 0 => []
  | n + 1 => if m / 2 ^ n % 2 = 1 then lotN m n ++ [n] else lotN m n
/-- the mask of a lot -/
def maskN (l : List Nat) : Nat := (l.map (fun i => 2 ^ i)).sum
abbrev vInt (n : Nat) : V := .int (n : Int)
abbrev lotV (m : Nat) : List V := (lotN m 12).map vInt

theorem fmod2 (n : Nat) : ((n : Int).fmod 2) = ((n % 2 : Nat) : Int) := by
  rw [Int.fmod_eq_emod_of_nonneg _ (by decide)]
  rfl
theorem fdiv2 (n : Nat) : ((n : Int).fdiv 2) = ((n / 2 : Nat) : Int) := by
  rw [Int.fdiv_eq_ediv_of_nonneg _ (by decide)]
  rfl
theorem half (m i : Nat) : m / 2 ^ i / 2 = m / 2 ^ (i + 1) := by rw [Nat.div_div_eq_div_mul, Nat.pow_succ]

def spFull : Sp := fun vs H Q _ => ∃ n : Nat, vs = [vInt n] ∧ n ≤ 60 ∧ Q (vInt (2 ^ n)) H
def spOnes : Sp := fun vs H Q _ => ∃ m : Nat, vs = [vInt m] ∧ Q (vInt (onesN m 12)) H
def spLot : Sp := fun vs H Q _ => ∃ m : Nat, vs = [vInt m] ∧ ∀ (H' : Hp) (p : Addr), Same H H' → H p = none → H' p = some (.tup (lotV m)) → Q (.ref p) H'

section
variable {P : Program} {w : World} {K : PySem.W.Frag} {mg : Str → Option Value} {base : Heap}
theorem scF : FnScope ["_law_size", "_law_full_here", "_law_k"] ["_law_size"] (defScope sFull) := ⟨rfl, rfl, rfl, by decide +kernel, rfl, by decide +kernel, by decide +kernel⟩
theorem ok_full {f : Addr} {fd : FuncData} (F : Fun K "_law_full" "_law_full" sFull f fd) (T : Bare mg) : FnOk P w K mg base CX0 1 f fd ["_law_size"] spFull := by
  refine F.ok scF (fun vs H Q E h => ?_) (fun cdv A outer s H vs Q E hr h => ?_)
  · obtain ⟨n, rfl, _⟩ := h
    rfl
  · obtain ⟨n, rfl, hn, k⟩ := h
    refine ⟨_, pss_cons (ps_set (i := 1) scF.nd rfl (Or.inl rfl) pe_int)
      (pss_cons (ps_for PassesOwn.never rfl (pi_range1 rfl T.range (pa_cons (pv 0) pa_nil)) (pg_name (i := 2) scF.nd rfl (Or.inl rfl))
        (pss_one (ps_set (i := 1) scF.nd rfl (Or.inl rfl) (pe_op op_mul (pv 1) pe_int))))
      (pss_one (ps_ret (pv 1)))), ?_⟩
    refine ⟨_, rfl, ?_⟩
    refine ⟨_, rfl, by omega, by omega, for_range (lo := 0) (n := n) (fun i σ H' => ∃ y : Option V, σ = [some (vInt n), some (vInt (2 ^ i)), y] ∧ H' = H) ⟨none, rfl, rfl⟩ ?_ ?_⟩
    · rintro i σ H1 hi ⟨y, rfl, rfl⟩
      refine ⟨_, rfl, _, _, rfl, rfl, .inr ⟨by decide, by decide⟩, ⟨some (.int (0 + (i : Int))), ?_, rfl⟩⟩
      show [_, some (V.int (((2 ^ i : Nat) : Int) * 2)), _] = _
      rw [show ((2 ^ i : Nat) : Int) * 2 = ((2 ^ (i + 1) : Nat) : Int) by rw [Nat.pow_succ]; omega]
    · rintro σ H1 ⟨y, rfl, rfl⟩
      exact ⟨_, rfl, k⟩

theorem scO : FnScope ["_law_mask_here", "_law_ones_here", "_law_k"] ["_law_mask_here"] (defScope sOnes) := ⟨rfl, rfl, rfl, by decide +kernel, rfl, by decide +kernel, by decide +kernel⟩
theorem ok_ones {f : Addr} {fd : FuncData} (F : Fun K "_law_ones" "_law_ones" sOnes f fd) (T : Bare mg) : FnOk P w K mg base CX0 1 f fd ["_law_mask_here"] spOnes := by
  refine F.ok scO (fun vs H Q E h => ?_) (fun cdv A outer s H vs Q E hr h => ?_)
  · obtain ⟨n, rfl, _⟩ := h
    rfl
  · obtain ⟨m, rfl, k⟩ := h
    refine ⟨_, pss_cons (ps_set (i := 1) scO.nd rfl (Or.inl rfl) pe_int)
      (pss_cons (ps_for PassesOwn.never rfl (pi_range1 rfl T.range (pa_cons pe_int pa_nil)) (pg_name (i := 2) scO.nd rfl (Or.inl rfl))
        (pss_cons (ps_aug (i := 1) scO.nd rfl (Or.inl rfl) (pe_op op_modN (pe_callTy call_int1 (by rfl) T.int (by decide +kernel) (pa_cons (pv 0) pa_nil)) pe_int) ip_add)
        (pss_one (ps_set (i := 0) scO.nd rfl (Or.inl rfl) (pe_op op_fdivN (pv 0) pe_int)))))
      (pss_one (ps_ret (pv 1)))), ?_⟩
    refine ⟨_, rfl, by decide, by decide, for_range (lo := 0) (n := 12) (fun i σ H' => ∃ y : Option V, σ = [some (vInt (m / 2 ^ i)), some (vInt (onesN m i)), y] ∧ H' = H) ⟨none, by rw [Nat.pow_zero, Nat.div_one]; rfl, rfl⟩ ?_ ?_⟩
    · rintro i σ H1 hi ⟨y, rfl, rfl⟩
      refine ⟨_, rfl, _, rfl, .inl ⟨_, rfl, _, _, rfl, rfl, (by show (2 : Int) ≠ 0; decide), _, _, rfl, rfl, _, rfl, _, _, rfl, rfl, ⟨by decide, by decide⟩, ⟨some (.int (0 + (i : Int))), ?_, rfl⟩⟩⟩
      show [some (V.int (((m / 2 ^ i : Nat) : Int).fdiv 2)), some (V.int (((onesN m i : Nat) : Int) + ((m / 2 ^ i : Nat) : Int).fmod 2)), _] = _
      rw [fdiv2, fmod2, half]
      rfl
    · rintro σ H1 ⟨y, rfl, rfl⟩
      exact ⟨_, rfl, k⟩

theorem scL : FnScope ["_law_mask_here", "_law_lot_here", "_law_place"] ["_law_mask_here"] (defScope sLot) := ⟨rfl, rfl, rfl, by decide +kernel, rfl, by decide +kernel, by decide +kernel⟩
theorem lotN_yes {m n : Nat} (h : m / 2 ^ n % 2 = 1) : lotN m (n + 1) = lotN m n ++ [n] := if_pos h
theorem lotN_no {m n : Nat} (h : ¬ m / 2 ^ n % 2 = 1) : lotN m (n + 1) = lotN m n := if_neg h
theorem lotN_len (m : Nat) : ∀ n, (lotN m n).length ≤ n
  | 0 => Nat.le_refl _
  | n + 1 => by
    unfold lotN
    have := lotN_len m n
    split
    · rw [List.length_append]
      show _ + 1 ≤ _
      omega
    · omega
theorem none_new {H : Hp} {p q : Addr} {o : HO} (h : upd H p o q = none) : H q = none := by
  by_cases e : q = p
  · subst e
    rw [upd_same] at h
    cases h
  · rw [upd_ne e] at h
    exact h
theorem ok_lot {f : Addr} {fd : FuncData} (F : Fun K "_law_lot" "_law_lot" sLot f fd) (T : Bare mg) : FnOk P w K mg base CX0 1 f fd ["_law_mask_here"] spLot := by
  refine F.ok scL (fun vs H Q E h => ?_) (fun cdv A outer s H vs Q E hr h => ?_)
  · obtain ⟨n, rfl, _⟩ := h
    rfl
  · obtain ⟨m, rfl, k⟩ := h
    refine ⟨_, pss_cons (ps_set (i := 1) scL.nd rfl (Or.inl rfl) (pe_lst pa_nil))
      (pss_cons (ps_for PassesOwn.never rfl (pi_range1 rfl T.range (pa_cons pe_int pa_nil)) (pg_name (i := 2) scL.nd rfl (Or.inl rfl))
        (pss_cut (ps_if (pt_cmpR op_eq (pe_op op_modN (pe_callTy call_int1 (by rfl) T.int (by decide +kernel) (pa_cons (pv 0) pa_nil)) pe_int) pe_int (nomark _))
          (pss_one (ps_expr (pe_bm PySem.F.plainAttrs_list PySem.F.slot_list_append PySem.F.type_list_append mt_append (pv 1) (pa_cons (pv 2) pa_nil)))) pss_nil)
        (pss_one (ps_set (i := 0) scL.nd rfl (Or.inl rfl) (pe_op op_fdivN (pv 0) pe_int)))))
      (pss_one (ps_ret (pe_tupleOf rfl T.tuple (pv 1))))), ?_⟩
    refine ⟨small (m := 1) (Nat.zero_le _), fun p hp => ?_⟩
    refine ⟨_, rfl, by decide, by decide, for_range (lo := 0) (n := 12) (fun i σ H' => ∃ y : Option V, σ = [some (vInt (m / 2 ^ i)), some (.ref p), y] ∧ Same H H' ∧ H' p = some (.lst ((lotN m i).map vInt))) ⟨none, by rw [Nat.pow_zero, Nat.div_one]; rfl, same_new hp, upd_same⟩ ?_ ?_⟩
    · rintro i σ H1 hi ⟨y, rfl, sm, hT⟩
      refine ⟨fun σ' H' => σ' = [some (vInt (m / 2 ^ i)), some (.ref p), some (.int (0 + (i : Int)))] ∧ Same H H' ∧ H' p = some (.lst ((lotN m (i + 1)).map vInt)), ?_, ?_⟩
      · refine ⟨_, rfl, .inl ⟨_, rfl, _, _, rfl, rfl, (by show (2 : Int) ≠ 0; decide), rfl, _, rfl, ?_⟩⟩
        have e0 : (((m / 2 ^ i : Nat) : Int).fmod 2) = ((m / 2 ^ i % 2 : Nat) : Int) := fmod2 _
        refine ite2 (fun z => ?_) (fun z => ?_)
        · have z1 : m / 2 ^ i % 2 = 1 := by
            have z2 := of_decide_eq_true z
            have z3 := V.int.inj z2
            omega
          refine ⟨_, rfl, .inl ⟨rfl, _, SqL.of hT⟩, _, rfl, p, _, _, rfl, rfl, hT, ?_, rfl, fun b o e => ?_, ?_⟩
          · rw [List.length_map]
            have := lotN_len m i
            exact below (m := 12) (by omega)
          · rw [upd_ne (ne_of_none e hp)]
            exact sm _ _ e
          · rw [upd_same, lotN_yes z1, List.map_append, Int.zero_add]
            rfl
        · have z1 : ¬ m / 2 ^ i % 2 = 1 := fun q => z (by rw [decide_eq_true_iff]; show V.int _ = V.int _; rw [e0, q]; rfl)
          exact ⟨rfl, sm, by rw [lotN_no z1]; exact hT⟩
      · rintro _ H2 ⟨rfl, sm, hT⟩
        refine ⟨_, rfl, _, _, rfl, rfl, ⟨by decide, by decide⟩, ⟨some (.int (0 + (i : Int))), ?_, sm, hT⟩⟩
        show [some (V.int (((m / 2 ^ i : Nat) : Int).fdiv 2)), _, _] = _
        rw [fdiv2, half]
    · rintro σ H1 ⟨y, rfl, sm, hT⟩
      refine ⟨_, rfl, .inl ⟨p, _, rfl, SqL.of hT, fun q hq => ?_⟩⟩
      refine k _ q (fun b o e => ?_) ?_ upd_same
      · rw [upd_ne (ne_of_none (sm _ _ e) hq)]
        exact sm _ _ e
      · cases e : H q with
        | none => rfl
        | some o => rw [sm _ _ e] at hq; cases hq
end
end Fam

/-! Calls of the law's own defs; rows of lots. -/
namespace Fam
open PySem L2
open C8 (pss_cut tCut)

/-- a def of the top that keeps its promise, with all that a call of it wants -/
structure Cal (P : Program) (w : World) (K : PySem.W.Frag) (mg : Str → Option Value) (base : Heap) (k : Nat) (x : Str) (ps : List Str) (sp : Sp) : Prop where
  ex : ∃ (g : Addr) (gd : FuncData), FnOk P w K mg base CX0 k g gd ps sp ∧ Binds K gd ps [] ∧ PySem.W.keepIn K (.ref g) = true ∧ mg x = some (.ref g)

/-- a row: a list or a tuple -/
def Row (K : PySem.W.Frag) (H : Hp) (a : Addr) (xs : List V) : Prop := SqL K H a xs ∨ SqT K H a xs
theorem same_rd {H H' : Hp} {a : Addr} {o : HO} (s : Same H H') : Rd H a o → Rd H' a o
  | .inl h => .inl (s _ _ h)
  | .inr ⟨p, h⟩ => .inr ⟨p, s _ _ h⟩
theorem same_seqT {K : PySem.W.Frag} {H H' : Hp} {a : Addr} {xs : List V} (s : Same H H') : SqT K H a xs → SqT K H' a xs
  | .inl h => .inl (same_rd s h)
  | .inr h => .inr h
theorem Row.same {K : PySem.W.Frag} {H H' : Hp} {a : Addr} {xs : List V} (s : Same H H') : Row K H a xs → Row K H' a xs
  | .inl h => .inl (s.seq h)
  | .inr h => .inr (same_seqT s h)
/-- a walk over a row that a name of the def holds -/
def iRow (K : PySem.W.Frag) (j : Nat) : TI := fun σ H R => iList K (tVar j) σ H R ∨ iTup K (tVar j) σ H R
theorem pi_row {X : Cx} {tg l : Expr} {j : Nat} (h : PE X l (tVar j)) : PI X tg l (iRow X.K j) := PI.mk fun pins s σ H R hi hw => by
  rcases hw with hw | hw
  · exact (pi_list (tg := tg) h).run pins s σ H R hi hw
  · exact (pi_tup (tg := tg) h).run pins s σ H R hi hw
theorem row_for {K : PySem.W.Frag} {b : Addr} {xs : List V} {j : Nat} {g : TG} {tb : TS} {D : Ends} {σ : St} {H : Hp} (e : σ[j]? = some (some (.ref b))) (hW : Row K H b xs)
    (Pv : Nat → St → Hp → Prop) (h0 : Pv 0 σ H) (hl : ∀ i σ' H', i ≤ xs.length → Pv i σ' H' → Same H H')
    (hs : ∀ i x σ H, xs[i]? = some x → Pv i σ H → g x σ H fun σ2 H2 => tb { nx := Pv (i + 1), rt := D.rt, bk := D.nx, ct := Pv (i + 1) } σ2 H2)
    (hd : ∀ σ H, Pv xs.length σ H → D.nx σ H) : tFor (iRow K j) g tb D σ H := by
  rcases hW with hW | hW
  · exact .inl ⟨_, e, b, rfl, ⟨_, hW⟩, for_list (xs := xs) Pv h0 (fun i σ' H' hi h => (hl i σ' H' hi h).seq hW) hs hd⟩
  · exact .inr ⟨_, e, b, rfl, ⟨_, hW⟩, for_tup (xs := xs) Pv h0 (fun i σ' H' hi h => same_seqT (hl i σ' H' hi h) hW) hs hd⟩
/-- a comprehension over such a row -/
theorem row_lc {K : PySem.W.Frag} {b : Addr} {xs : List V} {j : Nat} {g : TG} {tt : TT} {te : TE} {vs : List Nat} {σ : St} {H : Hp} {Q : VK} (e : σ[j]? = some (some (.ref b))) (hW : Row K H b xs)
    (h : ∀ D, H D = none → ∃ Pv : Nat → Hp → Prop, Pv 0 (upd H D (.lst [])) ∧ (∀ i H', i ≤ xs.length → Pv i H' → Same H H') ∧
      (∀ i x H, xs[i]? = some x → Pv i H → g x (wipe σ vs) H fun σ2 H2 => wipe σ2 vs = wipe σ vs ∧ tt σ2 H2 fun c H3 =>
        if c = true then te σ2 H3 fun y H4 => ∃ acc, H4 D = some (.lst acc) ∧ acc.length < sizeLine ∧ Pv (i + 1) (upd H4 D (.lst (acc ++ [y]))) else Pv (i + 1) H3) ∧
      (∀ H, Pv xs.length H → Q (.ref D) H)) : tLc (iRow K j) g tt te vs σ H Q := by
  rcases hW with hW | hW
  · refine .inl ⟨_, e, b, rfl, ⟨_, hW⟩, fun D hD => ?_⟩
    obtain ⟨Pv, h0, hl, hs, hd⟩ := h D hD
    exact lc_list (xs := xs) Pv h0 (fun i H' hi h => (hl i H' hi h).seq hW) hs hd
  · refine .inr ⟨_, e, b, rfl, ⟨_, hW⟩, fun D hD => ?_⟩
    obtain ⟨Pv, h0, hl, hs, hd⟩ := h D hD
    exact lc_tup (xs := xs) Pv h0 (fun i H' hi h => same_seqT (hl i H' hi h) hW) hs hd

def spMask (K : PySem.W.Frag) : Sp := fun vs H Q _ => ∃ (a : Addr) (l : List Nat), vs = [.ref a] ∧ SqT K H a (l.map vInt) ∧ (∀ i ∈ l, i ≤ 60) ∧ Q (vInt (maskN l)) H
/-- rows of lots: ps are addresses of tuples, one for each mask -/
def LotsAt (H : Hp) : List V → List Nat → Prop
  | [], [] => True
  | v :: vs, m :: ms => (∃ p, v = .ref p ∧ H p = some (.tup (lotV m))) ∧ LotsAt H vs ms
  | _, _ => False
theorem LotsAt.same {H H' : Hp} (s : Same H H') : ∀ {vs : List V} {ms : List Nat}, LotsAt H vs ms → LotsAt H' vs ms
  | [], [], h => h
  | v :: vs, m :: ms, h => by
    obtain ⟨⟨p, e, h1⟩, h2⟩ := h
    exact ⟨⟨p, e, s _ _ h1⟩, h2.same s⟩
theorem LotsAt.add {H : Hp} : ∀ {vs : List V} {ms : List Nat} {p : Addr} {m : Nat}, LotsAt H vs ms → H p = some (.tup (lotV m)) → LotsAt H (vs ++ [.ref p]) (ms ++ [m])
  | [], [], p, m, _, h1 => ⟨⟨p, rfl, h1⟩, trivial⟩
  | v :: vs, n :: ms, p, m, h, h1 => ⟨h.1, h.2.add h1⟩
theorem LotsAt.len {H : Hp} : ∀ {vs : List V} {ms : List Nat}, LotsAt H vs ms → vs.length = ms.length
  | [], [], _ => rfl
  | v :: vs, n :: ms, h => by rw [List.length_cons, List.length_cons, h.2.len]

theorem LotsAt.upd {H : Hp} {D : Addr} {xs : List V} {o : HO} (hD : H D = some (.lst xs)) : ∀ {vs : List V} {ms : List Nat}, LotsAt H vs ms → LotsAt (upd H D o) vs ms
  | [], [], h => h
  | v :: vs, m :: ms, h => by
    obtain ⟨⟨p, e, h1⟩, h2⟩ := h
    exact ⟨⟨p, e, by rw [upd_ne (ne_of h1 hD (by intro z; cases z))]; exact h1⟩, h2.upd hD⟩
/-- all that stood ahead of the new D stands, D written again -/
theorem same_upd {H H' : Hp} {D : Addr} {o : HO} (s : Same H H') (hD : H D = none) : Same H (upd H' D o) := fun b x e => by
  rw [upd_ne (ne_of_none e hD)]
  exact s _ _ e

def spLotsOf (K : PySem.W.Frag) : Sp := fun vs H Q _ => ∃ (a : Addr) (ms : List Nat), vs = [.ref a] ∧ SqL K H a (ms.map vInt) ∧ ms.length ≤ 100000 ∧
  ∀ (H' : Hp) (p : Addr) (xs : List V), Same H H' → H p = none → H' p = some (.lst xs) → LotsAt H' xs ms → Q (.ref p) H'

theorem maskN_snoc (l : List Nat) (i : Nat) : maskN (l ++ [i]) = maskN l + 2 ^ i := by
  unfold maskN
  rw [List.map_append, List.sum_append]
  rfl
theorem take_more {α : Type} {l : List α} {i : Nat} (h : i < l.length) : l.take (i + 1) = l.take i ++ [l[i]] := (List.take_append_getElem h).symm

section
variable {P : Program} {w : World} {K : PySem.W.Frag} {mg : Str → Option Value} {base : Heap}
theorem scM : FnScope ["_law_lot_here", "_law_mask_here", "_law_place"] ["_law_lot_here"] (defScope sMask) := ⟨rfl, rfl, rfl, by decide +kernel, rfl, by decide +kernel, by decide +kernel⟩
theorem ok_mask {f : Addr} {fd : FuncData} (F : Fun K "_law_mask" "_law_mask" sMask f fd) (T : Bare mg) (G : Cal P w K mg base 1 "_law_full" ["_law_size"] spFull) : FnOk P w K mg base CX0 2 f fd ["_law_lot_here"] (spMask K) := by
  obtain ⟨g, gd, ok, b, kp, mf⟩ := G.ex
  refine F.ok scM (fun vs H Q E h => ?_) (fun cdv A outer s H vs Q E hr h => ?_)
  · obtain ⟨a, l, rfl, _⟩ := h
    rfl
  · obtain ⟨a, l, rfl, hS, hl, k⟩ := h
    refine ⟨_, pss_cons (ps_set (i := 1) scM.nd rfl (Or.inl rfl) pe_int)
      (pss_cons (ps_for PassesOwn.never rfl (pi_tup (pv 0)) (pg_name (i := 2) scM.nd rfl (Or.inl rfl))
        (pss_one (ps_aug (i := 1) scM.nd rfl (Or.inl rfl) (pe_call ok hr rfl mf kp b .nil pass0 (pa_cons (pv 2) pa_nil)) ip_add)))
      (pss_one (ps_ret (pv 1)))), ?_⟩
    refine ⟨_, rfl, a, rfl, ⟨_, hS⟩, for_tup (xs := l.map vInt) (fun i σ H' => ∃ y : Option V, σ = [some (.ref a), some (vInt (maskN (l.take i))), y] ∧ H' = H) ⟨none, rfl, rfl⟩ ?_ ?_ ?_⟩
    · rintro i σ H1 hi ⟨y, rfl, rfl⟩
      exact hS
    · rintro i x σ H1 hx ⟨y, rfl, rfl⟩
      have hi : i < l.length := by
        have := (List.getElem?_eq_some_iff.mp hx).1
        rwa [List.length_map] at this
      have ex : x = vInt l[i] := by
        rw [List.getElem?_map, List.getElem?_eq_getElem hi] at hx
        exact (Option.some.inj hx).symm
      subst ex
      refine ⟨_, rfl, _, rfl, l[i], rfl, hl _ (List.getElem_mem hi), _, _, rfl, rfl, ⟨some (vInt l[i]), ?_, rfl⟩⟩
      show [_, some (V.int (((maskN (l.take i) : Nat) : Int) + ((2 ^ l[i] : Nat) : Int))), _] = _
      rw [take_more hi, maskN_snoc]
      rfl
    · rintro σ H1 ⟨y, rfl, rfl⟩
      rw [List.length_map, List.take_length]
      exact ⟨_, rfl, k⟩

abbrev nLO : List Str := ["_law_masks", "_law_mask_here"]
theorem scLO : FnScope nLO ["_law_masks"] (defScope sLotsOf) := ⟨rfl, rfl, rfl, by decide +kernel, rfl, by decide +kernel, by decide +kernel⟩
theorem ok_lots_of {f : Addr} {fd : FuncData} (F : Fun K "_law_lots_of" "_law_lots_of" sLotsOf f fd) (T : Bare mg) (G : Cal P w K mg base 1 "_law_lot" ["_law_mask_here"] spLot) : FnOk P w K mg base CX0 2 f fd ["_law_masks"] (spLotsOf K) := by
  obtain ⟨g, gd, ok, b, kp, mf⟩ := G.ex
  refine F.ok scLO (fun vs H Q E h => ?_) (fun cdv A outer s H vs Q E hr h => ?_)
  · obtain ⟨a, l, rfl, _⟩ := h
    rfl
  · obtain ⟨a, ms, rfl, hS, hl, k⟩ := h
    refine ⟨_, pss_one (ps_ret (pe_lc (own := [("_law_mask_here", 1)]) (g := gName 1) (tt := tYes) rfl scLO.nd (pi_list (pv 0)) (blkOk_by (own := [("_law_mask_here", 1)]) (N := nLO) (sc := defScope sLotsOf) (by decide +kernel)) (fun _ _ _ _ _ => pg_name (i := 1) scLO.nd rfl (Or.inl rfl)) (fun _ _ _ _ _ => pts_nil)
      (fun _ _ _ _ _ => pe_call ok hr rfl mf kp b .nil pass0 (pa_cons (pv 1) pa_nil)))), ?_⟩
    refine ⟨_, rfl, a, rfl, ⟨_, hS⟩, fun D hD => ?_⟩
    have s1 : Same H (upd H D (.lst [])) := same_new hD
    refine lc_list (K := K) (a := a) (xs := ms.map vInt) (fun i H' => Same H H' ∧ ∃ xs, H' D = some (.lst xs) ∧ LotsAt H' xs (ms.take i)) ⟨s1, [], upd_same, trivial⟩ ?_ ?_ ?_
    · rintro i H1 hi ⟨sm, _⟩
      exact sm.seq hS
    · rintro i x H1 hx ⟨sm, xs, hT, hL⟩
      have hi : i < ms.length := by
        have := (List.getElem?_eq_some_iff.mp hx).1
        rwa [List.length_map] at this
      have ex : x = vInt ms[i] := by
        rw [List.getElem?_map, List.getElem?_eq_getElem hi] at hx
        exact (Option.some.inj hx).symm
      subst ex
      refine ⟨rfl, _, rfl, ms[i], rfl, fun H2 p s2 hp ht => ?_⟩
      refine ⟨_, s2 _ _ hT, ?_, same_upd (sm.trans s2) hD, _, upd_same, ?_⟩
      · rw [hL.len, List.length_take]
        exact below (m := 100000) (by omega)
      · rw [take_more hi]
        exact ((hL.same s2).add ht).upd (s2 _ _ hT)
    · rintro H1 ⟨sm, xs, hT, hL⟩
      rw [List.length_map, List.take_length] at hL
      exact k H1 D xs sm hD hT hL
end
end Fam

/-! The best of a family by weights; what is shown of a find. -/
namespace Fam
open PySem L2
open C8 (pss_cut tCut)

/-- the weight of a mask's first n places -/
def wsN (m : Nat) (ws : List Int) : Nat → Int
  | 0 => 0
  | n + 1 => if m / 2 ^ n % 2 = 1 then wsN m ws n + ws.getD n 0 else wsN m ws n
theorem wsN_yes {m n : Nat} {ws : List Int} (h : m / 2 ^ n % 2 = 1) : wsN m ws (n + 1) = wsN m ws n + ws.getD n 0 := if_pos h
theorem wsN_no {m n : Nat} {ws : List Int} (h : ¬ m / 2 ^ n % 2 = 1) : wsN m ws (n + 1) = wsN m ws n := if_neg h
abbrev wsum (m : Nat) (ws : List Int) : Int := wsN m ws ws.length
/-- the greater one of what was found and t -/
def better (b : Option Int) (t : Int) : Option Int :=
  match b with
  | none => some t
  | some x => if t > x then some t else some x
def bestOf (ws : List Int) (ms : List Nat) : Option Int := ms.foldl (fun b m => better b (wsum m ws)) none
def optV : Option Int → V
  | none => .non
  | some i => .int i

theorem bestOf_snoc (ws : List Int) (ms : List Nat) (m : Nat) : bestOf ws (ms ++ [m]) = better (bestOf ws ms) (wsum m ws) := by
  unfold bestOf
  rw [List.foldl_append]
  rfl

def spBest (K : PySem.W.Frag) : Sp := fun vs H Q _ => ∃ (a b : Addr) (ms : List Nat) (ws : List Int), vs = [.ref a, .ref b] ∧ SqL K H a (ms.map vInt) ∧ Row K H b (ws.map V.int) ∧ Q (optV (bestOf ws ms)) H

theorem item {α : Type} {l : List α} {g : α → V} {i : Nat} {x : V} (h : (l.map g)[i]? = some x) : ∃ hi : i < l.length, x = g l[i] := by
  have hi : i < l.length := by
    have := (List.getElem?_eq_some_iff.mp h).1
    rwa [List.length_map] at this
  refine ⟨hi, ?_⟩
  rw [List.getElem?_map, List.getElem?_eq_getElem hi] at h
  exact (Option.some.inj h).symm

end Fam

/-! Rows of whole numbers; what is shown of a find. -/
namespace Fam
open PySem L2
open C8 (pss_cut tCut)

def spLawInt : Sp := fun vs H Q _ => ∃ i : Int, vs = [.int i] ∧ Q (.bl true) H
def spInts (K : PySem.W.Frag) : Sp := fun vs H Q _ => ∃ (a : Addr) (ws : List Int) (n : Nat), vs = [.ref a, vInt n] ∧ SqT K H a (ws.map V.int) ∧ ws.length < 100000 ∧ ∀ H', Same H H' → Q (.bl (decide (ws.length = n))) H'
def spShown (K : PySem.W.Frag) : Sp := fun vs H Q _ => (vs = [.non] ∧ Q .non H) ∨ ∃ (a : Addr) (ms : List Nat), vs = [.ref a] ∧ SqT K H a (ms.map vInt) ∧ ms.length ≤ 100000 ∧
  ∀ (H' : Hp) (p : Addr) (xs : List V), Same H H' → H p = none → H' p = some (.tup xs) → LotsAt H' xs ms → Q (.ref p) H'

theorem ty_tup {K : PySem.W.Frag} {H : Hp} {a : Addr} {xs : List V} : SqT K H a xs → TyX K H (.ref a) (.type "tuple")
  | .inl (.inl h) => .base (.tup h)
  | .inl (.inr ⟨_, h⟩) => .fTuple h
  | .inr ⟨o, _, _, h, c, _⟩ => .kTuple h c

theorem pe_ty {X : Cx} {x : Str} {pos : Pos} {n : String} (hg : Gl X x) (hm : X.mg x = none) (hv : bootBuiltins x = some (.type n)) (h1 : x ≠ "__name__" := by decide +kernel) (h2 : (x == ("__debug__" : Str)) = false := by decide +kernel) : PE X (.Name x pos) (tC (.ty n)) := pe_bltn hg hm hv rfl (hn := h1) (hd := h2)
def spWhole (K : PySem.W.Frag) : Sp := fun vs H Q _ => ∃ (a : Addr) (ws : List Int) (n : Nat), vs = [.ref a, vInt n] ∧ SqT K H a (ws.map V.int) ∧ ws.length < 100000 ∧ (∀ x ∈ ws, x.natAbs < 10 ^ 60) ∧ ∀ H', Same H H' → Q (.bl (decide (ws.length = n))) H'

section
variable {P : Program} {w : World} {K : PySem.W.Frag} {mg : Str → Option Value} {base : Heap}
abbrev nSH : List Str := ["_law_found", "_law_mask_here"]
theorem scSH : FnScope nSH ["_law_found"] (defScope sShown) := ⟨rfl, rfl, rfl, by decide +kernel, rfl, by decide +kernel, by decide +kernel⟩
theorem ok_shown {f : Addr} {fd : FuncData} (F : Fun K "_law_shown" "_law_shown" sShown f fd) (T : Bare mg) (G : Cal P w K mg base 1 "_law_lot" ["_law_mask_here"] spLot) : FnOk P w K mg base CX0 2 f fd ["_law_found"] (spShown K) := by
  obtain ⟨g, gd, ok, b, kp, mf⟩ := G.ex
  refine F.ok scSH (fun vs H Q E h => ?_) (fun cdv A outer s H vs Q E hr h => ?_)
  · rcases h with ⟨rfl, _⟩ | ⟨a, ms, rfl, _⟩
    all_goals rfl
  · refine ⟨_, pss_cons (ps_if (pt_cmpR op_isN (pv 0) pe_non (nomark _)) (pss_one (ps_ret pe_non)) pss_nil)
      (pss_one (ps_ret (pe_tupleOf rfl T.tuple (pe_lc (own := [("_law_mask_here", 1)]) (g := gName 1) (tt := tYes) rfl scSH.nd (pi_tup (pv 0)) (blkOk_by (own := [("_law_mask_here", 1)]) (N := nSH) (sc := defScope sShown) (by decide +kernel)) (fun _ _ _ _ _ => pg_name (i := 1) scSH.nd rfl (Or.inl rfl)) (fun _ _ _ _ _ => pts_nil)
      (fun _ _ _ _ _ => pe_call ok hr rfl mf kp b .nil pass0 (pa_cons (pv 1) pa_nil)))))), ?_⟩
    rcases h with ⟨rfl, k⟩ | ⟨a, ms, rfl, hS, hl, k⟩
    · exact ⟨_, rfl, rfl, _, rfl, iteT k⟩
    · refine ⟨_, rfl, rfl, _, rfl, iteF ⟨_, rfl, a, rfl, ⟨_, hS⟩, fun D hD => ?_⟩⟩
      refine lc_tup (K := K) (a := a) (xs := ms.map vInt) (fun i H' => Same H H' ∧ ∃ xs, H' D = some (.lst xs) ∧ LotsAt H' xs (ms.take i)) ⟨same_new hD, [], upd_same, trivial⟩ ?_ ?_ ?_
      · rintro i H1 hi ⟨sm, _⟩
        exact same_seqT sm hS
      · rintro i x H1 hx ⟨sm, xs, hT, hL⟩
        obtain ⟨hi, rfl⟩ := item hx
        refine ⟨rfl, _, rfl, ms[i], rfl, fun H2 p s2 hp ht => ?_⟩
        refine ⟨_, s2 _ _ hT, ?_, same_upd (sm.trans s2) hD, _, upd_same, ?_⟩
        · rw [hL.len, List.length_take]
          exact below (m := 100000) (by omega)
        · rw [take_more hi]
          exact ((hL.same s2).add ht).upd (s2 _ _ hT)
      · rintro H1 ⟨sm, xs, hT, hL⟩
        rw [List.length_map, List.take_length] at hL
        refine .inl ⟨D, _, rfl, SqL.of hT, fun q hq => k _ q xs (fun b o e => ?_) (sm.free hq) upd_same (hL.same (same_new hq))⟩
        rw [upd_ne (ne_of_none (sm _ _ e) hq)]
        exact sm _ _ e

end
end Fam

/-! A drawn family of masks. -/
namespace Fam
open PySem L2
open C8 (pss_cut tCut)

/-! ### and, or, not of masks -/
theorem bitAnd_nat (a b : Nat) : Builtin.bitAnd (a : Int) (b : Int) = ((a &&& b : Nat) : Int) := by
  unfold Builtin.bitAnd
  rw [decide_eq_true (Int.natCast_nonneg a), decide_eq_true (Int.natCast_nonneg b)]
  rfl
theorem bitOr_nat (a b : Nat) : Builtin.bitOr (a : Int) (b : Int) = ((a ||| b : Nat) : Int) := by
  have n1 : ∀ c : Nat, decide ((0 : Int) ≤ Builtin.bitNot (c : Int)) = false := fun c => decide_eq_false (by unfold Builtin.bitNot; omega)
  have n2 : ∀ c : Nat, (Builtin.bitNot (Builtin.bitNot (c : Int))).toNat = c := fun c => by unfold Builtin.bitNot; omega
  unfold Builtin.bitOr Builtin.bitAnd
  rw [n1 a, n1 b]
  show Builtin.bitNot (Builtin.bitNot _) = _
  rw [n2 a, n2 b]
  unfold Builtin.bitNot
  omega
theorem and_le_or (a b : Nat) : a &&& b ≤ a ||| b := Nat.le_trans Nat.and_le_left Nat.left_le_or
/-- the one or the other, not both: as the law's ^ tells it -/
def xorN (a b : Nat) : Nat := (a ||| b) - (a &&& b)
theorem bitXor_nat (a b : Nat) : Builtin.bitXor (a : Int) (b : Int) = ((xorN a b : Nat) : Int) := by
  unfold Builtin.bitXor xorN
  rw [bitOr_nat, bitAnd_nat]
  have := and_le_or a b
  omega
theorem xorN_lt {a b n : Nat} (ha : a < 2 ^ n) (hb : b < 2 ^ n) : xorN a b < 2 ^ n := Nat.lt_of_le_of_lt (Nat.sub_le _ _) (Nat.or_lt_two_pow ha hb)

/-! ### the heap but for the tape -/
/-- all that stood but the tape at a stands -/
def Kp (a : Addr) (H H' : Hp) : Prop := ∀ b o, b ≠ a → H b = some o → H' b = some o
theorem Kp.refl (a : Addr) (H : Hp) : Kp a H H := fun _ _ _ h => h
theorem Kp.trans {a : Addr} {H H1 H2 : Hp} (h1 : Kp a H H1) (h2 : Kp a H1 H2) : Kp a H H2 := fun b o hb h => h2 b o hb (h1 b o hb h)
theorem Kp.of {a : Addr} {H H' : Hp} (h : ∀ b, b ≠ a → H' b = H b) : Kp a H H' := fun b o hb e => by rw [h b hb]; exact e
theorem kp_same {a : Addr} {H H' : Hp} (s : Same H H') : Kp a H H' := fun b o _ e => s b o e
/-- D, new since H, written again -/
theorem Kp.upd {a D : Addr} {H H' : Hp} {o : HO} (h : Kp a H H') (hD : H D = none) : Kp a H (upd H' D o) := fun b u hb e => by
  rw [upd_ne (ne_of_none e hD)]
  exact h b u hb e
theorem TapeAt.same {H H' : Hp} {a : Addr} {c : Nat} {ts : List Int} (h : TapeAt H a c ts) (s : Same H H') : TapeAt H' a c ts := s _ _ h
theorem TapeAt.upd {H : Hp} {a D : Addr} {c : Nat} {ts : List Int} {o : HO} (h : TapeAt H a c ts) (hD : D ≠ a) : TapeAt (upd H D o) a c ts := by
  unfold TapeAt
  rw [upd_ne (Ne.symm hD)]
  exact h

/-- a draw below m: any number below m -/
def spDraw : Sp := fun vs H Q _ => ∃ (a : Addr) (c : Nat) (ts : List Int) (m : Nat), vs = [.ref a, vInt m] ∧ TapeAt H a c ts ∧ 0 < m ∧
  ∀ (H' : Hp) (c' n : Nat), n < m → (∀ b, b ≠ a → H' b = H b) → TapeAt H' a c' ts → Q (vInt n) H'
/-- masks of n places, told once each -/
structure Masks (n : Nat) (ms : List Nat) : Prop where
  lt : ∀ m ∈ ms, m < 2 ^ n
  nd : ms.Nodup
def spFamily : Sp := fun vs H Q _ => ∃ (a : Addr) (c : Nat) (ts : List Int) (n : Nat), vs = [.ref a, vInt n] ∧ TapeAt H a c ts ∧ n ≤ 10 ∧
  ∀ (H' : Hp) (c' : Nat) (p : Addr) (ms : List Nat), Masks n ms → Kp a H H' → TapeAt H' a c' ts → H p = none → H' p = some (.lst (ms.map vInt)) → Q (.ref p) H'

theorem pow_le10 {n : Nat} (h : n ≤ 10) : 2 ^ n ≤ 1024 := Nat.pow_le_pow_right (by decide) h
theorem tape_ne {H : Hp} {a D : Addr} {c : Nat} {ts : List Int} (h : TapeAt H a c ts) (hD : H D = none) : D ≠ a := fun e => by
  subst e
  rw [h] at hD
  cases hD

section
variable {P : Program} {w : World} {K : PySem.W.Frag} {mg : Str → Option Value} {base : Heap}
theorem ok_draw {k : Nat} {f : Addr} {fd : FuncData} (G : FnOk P w K mg base CX0 k f fd ["_law_tape", "_law_many"] spTake) : FnOk P w K mg base CX0 k f fd ["_law_tape", "_law_many"] spDraw :=
  G.imp fun vs H Q E h => by
    obtain ⟨a, c, ts, m, rfl, hT, hm, k⟩ := h
    refine ⟨a, c, ts, m, rfl, hT, by omega, fun H' hH hT' => ?_⟩
    have q := drawn_lt (c := c) (ts := ts) (m := (m : Int)) (by omega)
    have e : drawn c ts (m : Int) = ((drawn c ts (m : Int)).toNat : Int) := by omega
    rw [e]
    exact k H' _ _ (by omega) hH hT'

/-- the slots of _law_family -/
abbrev faS (a p : Addr) (n w : Nat) (y4 y6 y7 y8 y9 : Option V) : St := [some (.ref a), some (vInt n), some (vInt (2 ^ n)), some (vInt w), y4, some (.ref p), y6, y7, y8, y9]
theorem lc_map {K : PySem.W.Frag} {te : TE} {H : Hp} {a p : Addr} {n w : Nat} {y4 y6 y7 y8 y9 : Option V} {ms : List Nat} {Q : VK} (hp : H p = some (.lst (ms.map vInt))) (hl : ms.length ≤ 100000)
    (hte : ∀ m ∈ ms, ∀ (H' : Hp) (Q' : VK), Same H H' → (∀ r : Nat, r < 2 ^ n → Q' (vInt r) H') → te (faS a p n w y4 (some (vInt m)) y7 y8 y9) H' Q')
    (k : ∀ (D : Addr) (H' : Hp) (rs : List Nat), H D = none → Same H H' → H' D = some (.lst (rs.map vInt)) → rs.length = ms.length → (∀ r ∈ rs, r < 2 ^ n) → Q (.ref D) H') :
    tLc (iList K (tVar 5)) (gName 6) tYes te [6] (faS a p n w y4 y6 y7 y8 y9) H Q := by
  refine ⟨_, rfl, p, rfl, ⟨_, SqL.of hp⟩, fun D hD => ?_⟩
  refine lc_list (K := K) (a := p) (xs := ms.map vInt) (fun i H' => Same H H' ∧ ∃ rs : List Nat, H' D = some (.lst (rs.map vInt)) ∧ rs.length = i ∧ ∀ r ∈ rs, r < 2 ^ n) ⟨same_new hD, [], upd_same, rfl, fun r hr => by cases hr⟩ ?_ ?_ ?_
  · rintro i H1 hi ⟨sm, _⟩
    exact SqL.of (sm _ _ hp)
  · rintro i x H1 hx ⟨sm, rs, hT, hlen, hr⟩
    obtain ⟨hi, rfl⟩ := item hx
    refine ⟨rfl, ?_⟩
    refine hte _ (List.getElem_mem hi) H1 _ sm (fun r hr2 => ⟨_, hT, ?_, same_upd sm hD, rs ++ [r], ?_, ?_, ?_⟩)
    · rw [List.length_map]
      exact below (m := 100000) (by omega)
    · rw [upd_same, List.map_append]
      rfl
    · rw [List.length_append, hlen]
      rfl
    · intro q hq
      rcases List.mem_append.mp hq with hq | hq
      · exact hr q hq
      · rw [List.mem_singleton.mp hq]
        exact hr2
  · rintro H1 ⟨sm, rs, hT, hlen, hr⟩
    rw [List.length_map] at hlen
    exact k D H1 rs hD sm hT hlen hr
theorem lc_filter {tt : TT} {H : Hp} {a p : Addr} {n w : Nat} {y4 y6 y7 y8 y9 : Option V} {Q : VK} (hn : n ≤ 10)
    (htt : ∀ m : Nat, ∀ (H' : Hp) (Q' : Bool → Hp → Prop), Same H H' → (∀ b, Q' b H') → tt (faS a p n w y4 (some (.int (0 + (m : Int)))) y7 y8 y9) H' Q')
    (k : ∀ (D : Addr) (H' : Hp) (rs : List Nat), H D = none → Same H H' → H' D = some (.lst (rs.map vInt)) → rs.length ≤ 2 ^ n → (∀ r ∈ rs, r < 2 ^ n) → Q (.ref D) H') :
    tLc (iRng1 (tCons (tVar 2) tNil)) (gName 6) tt (tVar 6) [6] (faS a p n w y4 y6 y7 y8 y9) H Q := by
  have h10 := pow_le10 hn
  refine ⟨_, rfl, _, rfl, Int.le_trans (by decide) (Int.natCast_nonneg _), Int.lt_of_le_of_lt (Int.ofNat_le.mpr h10) (by decide), fun D hD => ?_⟩
  refine lc_range (lo := 0) (n := 2 ^ n) (fun i H' => Same H H' ∧ ∃ rs : List Nat, H' D = some (.lst (rs.map vInt)) ∧ rs.length ≤ i ∧ ∀ r ∈ rs, r < 2 ^ n) ⟨same_new hD, [], upd_same, Nat.le_refl _, fun r hr => by cases hr⟩ ?_ ?_
  · rintro i H1 hi ⟨sm, rs, hT, hlen, hr⟩
    refine ⟨rfl, htt i H1 _ sm (fun b => ?_)⟩
    cases b with
    | false => exact iteF ⟨sm, rs, hT, by omega, hr⟩
    | true =>
      refine iteT ⟨_, rfl, _, hT, ?_, same_upd sm hD, rs ++ [i], ?_, ?_, ?_⟩
      · rw [List.length_map]
        exact below (m := 100000) (by omega)
      · rw [upd_same, List.map_append, Int.zero_add]
        rfl
      · rw [List.length_append]
        show rs.length + 1 ≤ _
        omega
      · intro q hq
        rcases List.mem_append.mp hq with hq | hq
        · exact hr q hq
        · rw [List.mem_singleton.mp hq]
          exact hi
  · rintro H1 ⟨sm, rs, hT, hlen, hr⟩
    exact k D H1 rs hD sm hT hlen hr
theorem first_at {ms : List Nat} (h : ms ≠ []) : ∃ m, m ∈ ms ∧ atI (ms.map vInt) 0 = some (vInt m) := by
  cases ms with
  | nil => exact absurd rfl h
  | cons m ms => exact ⟨m, List.mem_cons_self, atI_nat (j := 0) rfl⟩
theorem last_at {ms : List Nat} (h : ms ≠ []) : ∃ m, m ∈ ms ∧ atI (ms.map vInt) (-1) = some (vInt m) := by
  have hl : 0 < ms.length := List.length_pos_iff.mpr h
  refine ⟨ms[ms.length - 1], List.getElem_mem _, ?_⟩
  have e : ixN (ms.map vInt).length (-1) = some (ms.length - 1) := by
    unfold ixN
    rw [if_neg (by decide), List.length_map, if_pos (by omega)]
    congr 1
    omega
  unfold atI
  rw [e]
  show (ms.map vInt)[ms.length - 1]? = _
  rw [List.getElem?_map, List.getElem?_eq_getElem (by omega)]
  rfl

theorem Kp.free {a D : Addr} {H H' : Hp} {c : Nat} {ts : List Int} (h : Kp a H H') (hT : TapeAt H' a c ts) (hD : H' D = none) : H D = none := by
  cases e : H D with
  | none => rfl
  | some o =>
    rw [h D o (tape_ne hT hD) e] at hD
    cases hD
theorem inV_nat (m : Nat) (rs : List Nat) : inV (vInt m) (rs.map vInt) = decide (m ∈ rs) := by
  induction rs with
  | nil => rfl
  | cons r rs ih =>
    unfold inV at ih ⊢
    rw [List.map_cons, List.any_cons, ih]
    show (((r : Int) == (m : Int)) || _) = _
    by_cases e : r = m
    · subst e
      simp
    · have e2 : ((r : Int) == (m : Int)) = false := beq_eq_false_iff_ne.mpr (by omega)
      rw [e2, Bool.false_or, decide_eq_decide, List.mem_cons]
      exact ⟨Or.inr, fun h => h.resolve_left (fun q => e q.symm)⟩
theorem flat_all (rs : List Nat) : (rs.map vInt).all flatV = true := by
  rw [List.all_map, List.all_eq_true]
  intro x _
  rfl
/-- what holds between the words of _law_family -/
def FaInv (H : Hp) (a : Addr) (n w : Nat) (ts : List Int) (b : Nat) (ne : Bool) (σ : St) (H' : Hp) : Prop := ∃ (c : Nat) (p : Addr) (ms : List Nat) (y4 y6 y7 y8 y9 : Option V),
  σ = faS a p n w y4 y6 y7 y8 y9 ∧ Kp a H H' ∧ TapeAt H' a c ts ∧ H p = none ∧ H' p = some (.lst (ms.map vInt)) ∧ (∀ m ∈ ms, m < 2 ^ n) ∧ ms.length ≤ b ∧ (ne = true → ms ≠ [])
theorem FaInv.cat {H H1 : Hp} {a p2 : Addr} {n w c b : Nat} {ts : List Int} {ms rs : List Nat} {y4 y6 y7 y8 y9 : Option V} (kp : Kp a H H1) (hT : TapeAt H1 a c ts) (hp2 : H1 p2 = none) (hr : ∀ m ∈ ms, m < 2 ^ n) (hr2 : ∀ m ∈ rs, m < 2 ^ n)
    (hb : ms.length + rs.length ≤ b) (ne : ms ≠ []) : FaInv H a n w ts b true (faS a p2 n w y4 y6 y7 y8 y9) (upd H1 p2 (.lst (ms.map vInt ++ rs.map vInt))) := by
  refine ⟨c, p2, ms ++ rs, _, _, _, _, _, rfl, kp.upd (kp.free hT hp2), hT.upd (tape_ne hT hp2), kp.free hT hp2, by rw [upd_same, List.map_append], fun m hm => ?_, by rw [List.length_append]; exact hb, fun _ e => ne (List.append_eq_nil_iff.mp e).1⟩
  rcases List.mem_append.mp hm with q | q
  · exact hr m q
  · exact hr2 m q
abbrev nFA : List Str := ["_law_tape", "_law_size", "_law_full_here", "_law_word_here", "_law_k", "_law_masks", "_law_mask_here", "_law_low", "_law_high", "_law_different"]
theorem scFA : FnScope nFA ["_law_tape", "_law_size"] (defScope sFamily) := ⟨rfl, rfl, rfl, by decide +kernel, rfl, by decide +kernel, by decide +kernel⟩
theorem ok_family {f : Addr} {fd : FuncData} (F : Fun K "_law_family" "_law_family" sFamily f fd) (T : Bare mg) (GT : Cal P w K mg base 1 "_law_take" ["_law_tape", "_law_many"] spDraw)
    (GF : Cal P w K mg base 1 "_law_full" ["_law_size"] spFull) (GO : Cal P w K mg base 1 "_law_ones" ["_law_mask_here"] spOnes) : FnOk P w K mg base CX0 2 f fd ["_law_tape", "_law_size"] spFamily := by
  obtain ⟨gt, gtd, okt, bt, kt, mt⟩ := GT.ex
  obtain ⟨gf, gfd, okf, bf, kf, mf⟩ := GF.ex
  obtain ⟨go, god, oko, bo, ko, mo⟩ := GO.ex
  refine F.ok scFA (fun vs H Q E h => ?_) (fun cdv A outer s H vs Q E hr h => ?_)
  · obtain ⟨a, c, ts, n, rfl, _⟩ := h
    rfl
  · obtain ⟨a, c, ts, n, rfl, hT, hn, k⟩ := h
    refine ⟨_, pss_cons (ps_set (i := 2) scFA.nd rfl (Or.inr rfl) (pe_call okf hr rfl mf kf bf .nil pass0 (pa_cons (pv 1) pa_nil)))
      (pss_cons (ps_set (i := 3) scFA.nd rfl (Or.inl rfl) (pe_call okt hr rfl mt kt bt .nil pass0 (pa_cons (pv 0) (pa_cons pe_int pa_nil))))
      (pss_cons (ps_set (i := 5) scFA.nd rfl (Or.inr rfl) (pe_lc (own := [("_law_k", 4)]) (g := gName 4) (tt := tYes) rfl scFA.nd (pi_range1 rfl T.range (pa_cons (pe_op op_add pe_int (pe_call okt hr rfl mt kt bt .nil pass0 (pa_cons (pv 0) (pa_cons pe_int pa_nil)))) pa_nil))
          (blkOk_by (own := [("_law_k", 4)]) (N := nFA) (sc := defScope sFamily) (by decide +kernel)) (fun _ _ _ _ _ => pg_name (i := 4) scFA.nd rfl (Or.inl rfl)) (fun _ _ _ _ _ => pts_nil)
          (fun _ _ _ _ _ => pe_call okt hr rfl mt kt bt .nil pass0 (pa_cons (pv 0) (pa_cons (pv 2) pa_nil)))))
      (pss_cut (ps_if (pt_cmpR op_eq (pv 3) pe_int (nomark _))
          (pss_one (ps_for PassesOwn.never rfl (pi_range1 rfl T.range (pa_cons pe_int pa_nil)) (pg_name (i := 4) scFA.nd rfl (Or.inl rfl))
            (pss_one (ps_set (i := 5) scFA.nd rfl (Or.inr rfl) (pe_op op_cat (pv 5) (pe_lc (own := [("_law_mask_here", 6)]) (g := gName 6) (tt := tYes) rfl scFA.nd (pi_list (pv 5))
              (blkOk_by (own := [("_law_mask_here", 6)]) (N := nFA) (sc := defScope sFamily) (by decide +kernel)) (fun _ _ _ _ _ => pg_name (i := 6) scFA.nd rfl (Or.inl rfl)) (fun _ _ _ _ _ => pts_nil)
              (fun _ _ _ _ _ => pe_op op_or (pe_ix (ix_list : IxR _ (rIxL K)) (pv 5) pe_int (fun _ _ => rfl)) (pv 6)))))))) pss_nil)
      (pss_cut (ps_if (pt_cmpR op_eq (pv 3) pe_int (nomark _))
            (pss_one (ps_set (i := 5) scFA.nd rfl (Or.inr rfl) (pe_op op_cat (pv 5) (pe_lc (own := [("_law_mask_here", 6)]) (g := gName 6) (tt := tYes) rfl scFA.nd (pi_list (pv 5))
              (blkOk_by (own := [("_law_mask_here", 6)]) (N := nFA) (sc := defScope sFamily) (by decide +kernel)) (fun _ _ _ _ _ => pg_name (i := 6) scFA.nd rfl (Or.inl rfl)) (fun _ _ _ _ _ => pts_nil)
              (fun _ _ _ _ _ => pe_op op_xor (pe_op op_xor (pe_ix (ix_list : IxR _ (rIxL K)) (pv 5) pe_int (fun _ _ => rfl)) (pe_ix (ix_list : IxR _ (rIxL K)) (pv 5) (pe_un un_neg pe_int) (fun _ _ => rfl))) (pv 6)))))) pss_nil)
      (pss_cut (ps_if (pt_cmpR op_eq (pv 3) pe_int (nomark _))
            (pss_cons (ps_set (i := 7) scFA.nd rfl (Or.inr rfl) (pe_op op_and (pe_ix ix_list (pv 5) pe_int (fun _ _ => rfl)) (pe_ix ix_list (pv 5) (pe_un un_neg pe_int) (fun _ _ => rfl))))
            (pss_cons (ps_set (i := 8) scFA.nd rfl (Or.inr rfl) (pe_op op_or (pe_ix ix_list (pv 5) pe_int (fun _ _ => rfl)) (pe_ix ix_list (pv 5) (pe_un un_neg pe_int) (fun _ _ => rfl))))
            (pss_one (ps_set (i := 5) scFA.nd rfl (Or.inr rfl) (pe_lc (own := [("_law_mask_here", 6)]) (g := gName 6) rfl scFA.nd (pi_range1 rfl T.range (pa_cons (pv 2) pa_nil))
              (blkOk_by (own := [("_law_mask_here", 6)]) (N := nFA) (sc := defScope sFamily) (by decide +kernel)) (fun _ _ _ _ _ => pg_name (i := 6) scFA.nd rfl (Or.inl rfl))
              (fun _ _ _ _ _ => pts_one (PW.pt (pw_and (pt_cmpR op_eq (pe_op op_and (pv 6) (pv 7)) (pv 7) (nomark _)) (pw_and1 (pt_cmpR op_eq (pe_op op_or (pv 6) (pv 8)) (pv 8) (nomark _))))))
              (fun _ _ _ _ _ => pv 6)))))) pss_nil)
      (pss_cut (ps_if (pt_cmpR op_eq (pv 3) pe_int (nomark _))
            (pss_one (ps_set (i := 5) scFA.nd rfl (Or.inr rfl) (pe_lc (own := [("_law_mask_here", 6)]) (g := gName 6) rfl scFA.nd (pi_range1 rfl T.range (pa_cons (pv 2) pa_nil))
              (blkOk_by (own := [("_law_mask_here", 6)]) (N := nFA) (sc := defScope sFamily) (by decide +kernel)) (fun _ _ _ _ _ => pg_name (i := 6) scFA.nd rfl (Or.inl rfl))
              (fun _ _ _ _ _ => pts_one (pt_cmpR op_eq (pe_call oko hr rfl mo ko bo .nil pass0 (pa_cons (pv 6) pa_nil)) pe_int (nomark _)))
              (fun _ _ _ _ _ => pv 6)))) pss_nil)
      (pss_cons (ps_set (i := 9) scFA.nd rfl (Or.inl rfl) (pe_lst pa_nil))
      (pss_cons (ps_for PassesOwn.never rfl (pi_list (pv 5)) (pg_name (i := 6) scFA.nd rfl (Or.inl rfl))
        (pss_one (ps_if (pt_cmpR op_notIn_seq (pv 6) (pv 9) (by rfl))
          (pss_one (ps_expr (pe_bm PySem.F.plainAttrs_list PySem.F.slot_list_append PySem.F.type_list_append mt_append (pv 9) (pa_cons (pv 6) pa_nil)))) pss_nil)))
      (pss_one (ps_ret (pv 9)))))))))))
      , ?_⟩
    have h10 := pow_le10 hn
    refine ⟨_, rfl, n, rfl, by omega, ?_⟩
    refine ⟨_, rfl, a, c, ts, 6, rfl, hT, by decide, fun H1 c1 w hw h1 hT1 => ?_⟩
    refine ⟨_, rfl, a, c1, ts, 6, rfl, hT1, by decide, fun H2 c2 m0 hm0 h2 hT2 => ⟨_, _, rfl, rfl, _, rfl, by omega, by omega, fun D hD => ?_⟩⟩
    have kp2 : Kp a H H2 := (Kp.of h1).trans (Kp.of h2)
    have hDa := tape_ne hT2 hD
    have hD0 := kp2.free hT2 hD
    refine lc_range (lo := 0) (n := ((1 : Int) + m0).toNat) (fun i H' => Kp a H H' ∧ (∃ c, TapeAt H' a c ts) ∧ ∃ ms : List Nat, H' D = some (.lst (ms.map vInt)) ∧ ms.length = i ∧ ∀ m ∈ ms, m < 2 ^ n)
      ⟨kp2.upd hD0, ⟨_, hT2.upd hDa⟩, [], upd_same, rfl, fun m hm => by cases hm⟩ ?_ ?_
    · rintro i H3 hi ⟨kp, ⟨c3, hT3⟩, ms, hM, hl, hr⟩
      refine ⟨rfl, _, rfl, _, rfl, a, c3, ts, 2 ^ n, rfl, hT3, Nat.two_pow_pos n, fun H4 c4 r hr4 h4 hT4 => ?_⟩
      refine ⟨_, by rw [h4 D hDa]; exact hM, ?_, (kp.trans (Kp.of h4)).upd hD0, ⟨_, hT4.upd hDa⟩, ms ++ [r], ?_, ?_, ?_⟩
      · rw [List.length_map]
        exact below (m := 100000) (by omega)
      · rw [upd_same, List.map_append]
        rfl
      · rw [List.length_append, hl]
        rfl
      · intro q hq
        rcases List.mem_append.mp hq with hq | hq
        · exact hr q hq
        · rw [List.mem_singleton.mp hq]
          exact hr4
    · rintro H3 ⟨kp, ⟨c3, hT3⟩, ms, hM, hl, hr⟩
      have ne : ms ≠ [] := by
        intro e
        rw [e] at hl
        have : ((1 : Int) + m0).toNat = 0 := hl.symm
        omega
      have b0 : ms.length ≤ 6 := by omega
      have inv0 : FaInv H a n w ts 6 true [some (.ref a), some (vInt n), some (vInt (2 ^ n)), some (vInt w), none, some (.ref D), none, none, none, none] H3 := ⟨c3, D, ms, _, _, _, _, _, rfl, kp, hT3, hD0, hM, hr, b0, fun _ => ne⟩
      -- the first word
      refine ⟨FaInv H a n w ts 24 true, ?_, ?_⟩
      · refine ⟨_, rfl, rfl, _, rfl, ite2 (fun z => ?_) (fun z => ?_)⟩
        · refine ⟨_, rfl, by decide, by decide, for_range (lo := 0) (n := 2) (fun i σ H' => FaInv H a n w ts (6 * 2 ^ i) true σ H') inv0 ?_ (fun σ H' h => h)⟩
          rintro i σ H4 hi ⟨c4, p4, ms4, y4, y6, y7, y8, y9, rfl, kp4, hT4, hp4, hM4, hr4, b4, ne4⟩
          obtain ⟨m1, hm1, e1⟩ := first_at (ne4 rfl)
          have bb : 6 * 2 ^ i ≤ 24 := by
            have : 2 ^ i ≤ 2 ^ 2 := Nat.pow_le_pow_right (by decide) (by omega)
            omega
          refine ⟨_, rfl, lc_map hM4 (by omega) (fun m hm H5 Q' s5 q => ?_) (fun D5 H5 rs hD5 s5 hM5 hl5 hr5 => ?_)⟩
          · refine ⟨_, rfl, p4, _, _, _, rfl, rfl, SqL.of (s5 _ _ hM4), e1, _, rfl, _, _, rfl, rfl, ?_⟩
            show Q' (V.int (Builtin.bitOr (m1 : Int) (m : Int))) H5
            rw [bitOr_nat]
            exact q _ (Nat.or_lt_two_pow (hr4 _ hm1) (hr4 _ hm))
          · refine ⟨p4, D5, _, _, rfl, rfl, s5 _ _ hM4, hM5, ?_, fun p6 hp6 => ?_⟩
            · rw [List.length_map, List.length_map]
              exact small (m := 100000) (by omega)
            · refine FaInv.cat (kp4.trans (kp_same s5)) (hT4.same s5) hp6 hr4 hr5 ?_ (ne4 rfl)
              rw [Nat.pow_succ]
              omega
        · exact ⟨c3, D, ms, _, _, _, _, _, rfl, kp, hT3, hD0, hM, hr, by omega, fun _ => ne⟩
      rintro _ H4 ⟨c4, p4, ms4, y4, y6, y7, y8, y9, rfl, kp4, hT4, hp4, hM4, hr4, b4, ne4⟩
      -- the second
      refine ⟨FaInv H a n w ts 48 true, ?_, ?_⟩
      · refine ⟨_, rfl, rfl, _, rfl, ite2 (fun z => ?_) (fun z => ?_)⟩
        · obtain ⟨m1, hm1, e1⟩ := first_at (ne4 rfl)
          obtain ⟨m2, hm2, e2⟩ := last_at (ne4 rfl)
          refine ⟨_, rfl, lc_map hM4 (by omega) (fun m hm H5 Q' s5 q => ?_) (fun D5 H5 rs hD5 s5 hM5 hl5 hr5 => ?_)⟩
          · refine ⟨_, rfl, p4, _, _, _, rfl, rfl, SqL.of (s5 _ _ hM4), e1, _, rfl, _, rfl, p4, _, _, _, rfl, rfl, SqL.of (s5 _ _ hM4), e2, _, _, rfl, rfl, _, rfl, _, _, rfl, rfl, ?_⟩
            show Q' (V.int (Builtin.bitXor (Builtin.bitXor (m1 : Int) (m2 : Int)) (m : Int))) H5
            rw [bitXor_nat, bitXor_nat]
            exact q _ (xorN_lt (xorN_lt (hr4 _ hm1) (hr4 _ hm2)) (hr4 _ hm))
          · refine ⟨p4, D5, _, _, rfl, rfl, s5 _ _ hM4, hM5, ?_, fun p6 hp6 => ?_⟩
            · rw [List.length_map, List.length_map]
              exact small (m := 100000) (by omega)
            · exact FaInv.cat (kp4.trans (kp_same s5)) (hT4.same s5) hp6 hr4 hr5 (by omega) (ne4 rfl)
        · exact ⟨c4, p4, ms4, _, _, _, _, _, rfl, kp4, hT4, hp4, hM4, hr4, by omega, ne4⟩
      rintro _ H5 ⟨c5, p5, ms5, y4, y6, y7, y8, y9, rfl, kp5, hT5, hp5, hM5, hr5, b5, ne5⟩
      -- the third
      refine ⟨FaInv H a n w ts 1024 false, ?_, ?_⟩
      · refine ⟨_, rfl, rfl, _, rfl, ite2 (fun z => ?_) (fun z => ?_)⟩
        · obtain ⟨m1, hm1, e1⟩ := first_at (ne5 rfl)
          obtain ⟨m2, hm2, e2⟩ := last_at (ne5 rfl)
          refine ⟨_, rfl, p5, _, _, _, rfl, rfl, SqL.of hM5, e1, _, rfl, _, rfl, p5, _, _, _, rfl, rfl, SqL.of hM5, e2, _, _, rfl, rfl, ?_⟩
          refine ⟨_, rfl, p5, _, _, _, rfl, rfl, SqL.of hM5, e1, _, rfl, _, rfl, p5, _, _, _, rfl, rfl, SqL.of hM5, e2, _, _, rfl, rfl, ?_⟩
          show tAsg (tLc (iRng1 (tCons (tVar 2) tNil)) (gName 6) _ (tVar 6) [6]) (gName 5) _ (faS a p5 n w y4 y6 (some (.int (Builtin.bitAnd (m1 : Int) (m2 : Int)))) (some (.int (Builtin.bitOr (m1 : Int) (m2 : Int)))) y9) H5
          refine lc_filter hn (fun m H6 Q' s6 q => ?_) (fun D6 H6 rs hD6 s6 hM6 hl6 hr6 => ?_)
          · refine ⟨_, rfl, _, rfl, _, _, rfl, rfl, _, rfl, rfl, _, rfl, ite2 (fun _ => ?_) (fun _ => q _)⟩
            exact ⟨_, rfl, _, rfl, _, _, rfl, rfl, _, rfl, rfl, _, rfl, q _⟩
          · exact ⟨c5, D6, rs, _, _, _, _, _, rfl, kp5.trans (kp_same s6), hT5.same s6, kp5.free hT5 hD6, hM6, hr6, by omega, fun q => by cases q⟩
        · exact ⟨c5, p5, ms5, _, _, _, _, _, rfl, kp5, hT5, hp5, hM5, hr5, by omega, fun q => by cases q⟩
      rintro _ H6 ⟨c6, p6, ms6, y4, y6, y7, y8, y9, rfl, kp6, hT6, hp6, hM6, hr6, b6, ne6⟩
      -- the fourth
      refine ⟨FaInv H a n w ts 1024 false, ?_, ?_⟩
      · refine ⟨_, rfl, rfl, _, rfl, ite2 (fun z => ?_) (fun z => ?_)⟩
        · refine lc_filter hn (fun m H6 Q' s7 q => ?_) (fun D7 H7 rs hD7 s7 hM7 hl7 hr7 => ?_)
          · exact ⟨_, rfl, m, by rw [Int.zero_add]; rfl, rfl, _, rfl, q _⟩
          · exact ⟨c6, D7, rs, _, _, _, _, _, rfl, kp6.trans (kp_same s7), hT6.same s7, kp6.free hT6 hD7, hM7, hr7, by omega, fun q => by cases q⟩
        · exact ⟨c6, p6, ms6, _, _, _, _, _, rfl, kp6, hT6, hp6, hM6, hr6, b6, ne6⟩
      rintro _ H7 ⟨c7, p7, ms7, y4, y6, y7, y8, y9, rfl, kp7, hT7, hp7, hM7, hr7, b7, ne7⟩
      -- each mask once
      refine ⟨small (m := 1) (Nat.zero_le _), fun q hq => ?_⟩
      have hqa := tape_ne hT7 hq
      have hq0 := kp7.free hT7 hq
      have hqp : p7 ≠ q := ne_of_none hM7 hq
      refine ⟨_, rfl, p7, rfl, ⟨_, SqL.of (by rw [upd_ne hqp]; exact hM7)⟩, for_list (K := K) (xs := ms7.map vInt) (fun i σ H' => ∃ (rs : List Nat) (y6 : Option V), σ = faS a p7 n w y4 y6 y7 y8 (some (.ref q)) ∧ Kp a H H' ∧ TapeAt H' a c7 ts ∧ H' p7 = some (.lst (ms7.map vInt)) ∧ H' q = some (.lst (rs.map vInt)) ∧ rs.Nodup ∧ (∀ r ∈ rs, r < 2 ^ n) ∧ rs.length ≤ i)
        ⟨[], y6, rfl, kp7.upd hq0, hT7.upd hqa, by rw [upd_ne hqp]; exact hM7, upd_same, List.nodup_nil, (fun r hr => by cases hr), Nat.le_refl _⟩ ?_ ?_ ?_⟩
      · rintro i σ H8 hi ⟨rs, y6, rfl, kp, hT, hM, hR, _⟩
        exact SqL.of hM
      · rintro i x σ H8 hx ⟨rs, y6, rfl, kp, hT, hM, hR, nd, hr, hl⟩
        obtain ⟨hi, rfl⟩ := item hx
        refine ⟨_, rfl, _, rfl, q, _, rfl, .inl (SqL.of hR), rfl, flat_all rs, _, rfl, ?_⟩
        rw [inV_nat]
        refine ite2 (fun z => ?_) (fun z => ?_)
        · have z1 : ¬ ms7[i] ∈ rs := by
            intro q
            rw [decide_eq_true q] at z
            cases z
          refine ⟨_, rfl, .inl ⟨rfl, _, SqL.of hR⟩, _, rfl, q, _, _, rfl, rfl, hR, ?_, rs ++ [ms7[i]], _, rfl, kp.upd hq0, hT.upd hqa, ?_, ?_, ?_, ?_, ?_⟩
          · rw [List.length_map]
            exact below (m := 100000) (by omega)
          · rw [upd_ne hqp]
            exact hM
          · rw [upd_same, List.map_append]
            rfl
          · exact List.nodup_append.mpr ⟨nd, List.pairwise_singleton _ _, fun x hx y hy e => z1 (by rw [List.mem_singleton.mp hy] at e; rw [← e]; exact hx)⟩
          · intro x hx
            rcases List.mem_append.mp hx with q | q
            · exact hr x q
            · rw [List.mem_singleton.mp q]
              exact hr7 _ (List.getElem_mem hi)
          · rw [List.length_append]
            show rs.length + 1 ≤ _
            omega
        · exact ⟨rs, _, rfl, kp, hT, hM, hR, nd, hr, by omega⟩
      · rintro σ H8 ⟨rs, y6, rfl, kp, hT, hM, hR, nd, hr, hl⟩
        exact ⟨_, rfl, k H8 c7 q rs ⟨hr, nd⟩ kp hT hq0 hR⟩
end
end Fam

/-! Masks as drawn; the sum place by place. -/
namespace Fam
open PySem L2
open C8 (pss_cut tCut)

/-- an item of a row -/
def rIxRow (K : PySem.W.Frag) : R2 := fun x y H Q => ∃ p xs i v, x = .ref p ∧ y = .int i ∧ Row K H p xs ∧ atI xs i = some v ∧ Q v H
theorem ix_row {X : Cx} : IxR X (rIxRow X.K) := fun value slice pins s σ H x y v u Q hi rv ru h e => by
  obtain ⟨p, xs, i, w, e1, e2, hS | hS, ha, q⟩ := h
  · exact ix_list value slice pins s σ H x y v u Q hi rv ru ⟨p, xs, i, w, e1, e2, hS, ha, q⟩ e
  · exact ix_tup value slice pins s σ H x y v u Q hi rv ru ⟨p, xs, i, w, e1, e2, hS, ha, q⟩ e

def lowOf (ms : List Nat) : Nat := ms.foldl (· &&& ·) (ms.headD 0)
def highOf (ms : List Nat) : Nat := ms.foldl (· ||| ·) (ms.headD 0)
/-- the sum place by place: what all masks have, and what some mask has if its weight is above 0 -/
def placeN (low high : Nat) (ws : List Int) : Nat → Int
  | 0 => 0
  | n + 1 => if 0 < low &&& 2 ^ n ∨ (0 < high &&& 2 ^ n ∧ 0 < ws.getD n 0) then placeN low high ws n + ws.getD n 0 else placeN low high ws n
theorem placeN_yes {low high n : Nat} {ws : List Int} (h : 0 < low &&& 2 ^ n ∨ (0 < high &&& 2 ^ n ∧ 0 < ws.getD n 0)) : placeN low high ws (n + 1) = placeN low high ws n + ws.getD n 0 := if_pos h
theorem placeN_no {low high n : Nat} {ws : List Int} (h : ¬ (0 < low &&& 2 ^ n ∨ (0 < high &&& 2 ^ n ∧ 0 < ws.getD n 0))) : placeN low high ws (n + 1) = placeN low high ws n := if_neg h
abbrev placeSum (ms : List Nat) (ws : List Int) : Int := placeN (lowOf ms) (highOf ms) ws ws.length


section
variable {P : Program} {w : World} {K : PySem.W.Frag} {mg : Str → Option Value} {base : Heap}
abbrev nDM : List Str := ["_law_tape", "_law_size", "_law_masks"]
theorem scDM : FnScope nDM ["_law_tape", "_law_size"] (defScope sDrawnMasks) := ⟨rfl, rfl, rfl, by decide +kernel, rfl, by decide +kernel, by decide +kernel⟩
theorem ok_drawn_masks {f : Addr} {fd : FuncData} (F : Fun K "_law_drawn_masks" "_law_drawn_masks" sDrawnMasks f fd) (T : Bare mg) (GT : Cal P w K mg base 1 "_law_take" ["_law_tape", "_law_many"] spDraw)
    (GF : Cal P w K mg base 2 "_law_family" ["_law_tape", "_law_size"] spFamily) : FnOk P w K mg base CX0 3 f fd ["_law_tape", "_law_size"] spFamily := by
  obtain ⟨gt, gtd, okt, bt, kt, mt⟩ := GT.ex
  obtain ⟨gf, gfd, okf, bf, kf, mf⟩ := GF.ex
  refine F.ok scDM (fun vs H Q E h => ?_) (fun cdv A outer s H vs Q E hr h => ?_)
  · obtain ⟨a, c, ts, n, rfl, _⟩ := h
    rfl
  · obtain ⟨a, c, ts, n, rfl, hT, hn, k⟩ := h
    refine ⟨_, pss_cons (ps_set (i := 2) scDM.nd rfl (Or.inl rfl) (pe_call okf hr rfl mf kf bf .nil pass0 (pa_cons (pv 0) (pa_cons (pv 1) pa_nil))))
      (pss_cons (ps_if (pt_cmpR op_eq (pe_call okt (hr.mono (by decide)) rfl mt kt bt .nil pass0 (pa_cons (pv 0) (pa_cons pe_int pa_nil))) pe_int (nomark _)) (pss_one (ps_ret (pe_lst pa_nil))) pss_nil)
      (pss_one (ps_ret (pv 2)))), ?_⟩
    refine ⟨_, rfl, _, rfl, a, c, ts, n, rfl, hT, hn, fun H1 c1 p ms hms kp hT1 hp hM => ?_⟩
    refine ⟨_, rfl, a, c1, ts, 8, rfl, hT1, by decide, fun H2 c2 d hd h2 hT2 => ⟨rfl, _, rfl, ite2 (fun z => ?_) (fun z => ?_)⟩⟩
    · refine ⟨small (m := 1) (Nat.zero_le _), fun q hq => ?_⟩
      have kp2 := kp.trans (Kp.of h2)
      exact k _ c2 q [] ⟨(fun m hm => by cases hm), List.nodup_nil⟩ (kp2.upd (kp2.free hT2 hq)) (hT2.upd (tape_ne hT2 hq)) (kp2.free hT2 hq) upd_same
    · have hpa : p ≠ a := fun e => by
        subst e
        rw [hT] at hp
        cases hp
      exact ⟨_, rfl, k H2 c2 p ms hms (kp.trans (Kp.of h2)) hT2 hp (by rw [h2 p hpa]; exact hM)⟩

end
end Fam

/-! sorted of a list of tuples of ints, of any lengths, the first of them empty. -/
namespace TSort
open PySem PySem.W PySem.Calls PyProof.Rows Builtin

/-- v is a tuple of these numbers -/
def IsTI (h : Heap) (v : Value) (ns : List Int) : Prop :=
  ∃ (a : Addr) (dd : Option Addr) (items : Array Value) (n : Nat) (sl : Array (Option Value)), v = .ref a ∧ h.get? a = some { cls := .type "tuple", dict := dd, data := .seq items n, slots := sl } ∧ IntsAre items.toList ns
theorem IsTI.keeps {h h' : Heap} {v : Value} {ns : List Int} (x : IsTI h v ns) (k : ∀ b o, v = .ref b → h.get? b = some o → h'.get? b = some o) : IsTI h' v ns := by
  obtain ⟨a, dd, items, n, sl, e, g, i⟩ := x
  exact ⟨a, dd, items, n, sl, e, k _ _ e g, i⟩
theorem IsTI.type {M : Model} {h : Heap} {v : Value} {ns : List Int} (x : IsTI h v ns) : Looks M h (typeOf v) (.type "tuple") := by
  obtain ⟨a, dd, items, n, sl, rfl, g, i⟩ := x
  exact (Looks.ld g).andThen .now
section
variable {prog : Program} {w : World} {A : Around} {E : Value → Shared → Prop} {s : Shared}
theorem lt_ti {v u : Value} {ns ms : List Int} {Q : Bool → Shared → Prop} (hu : A.units < cLine) (hv : IsTI s.heap v ns) (hw : IsTI s.heap u ms) (h : Q (HT.lexLt ns ms) s) : wpAny (model prog w) A (keyLt' oneType' v u) Q E s := by
  obtain ⟨a, dd, items, n, sl, rfl, ga, ia⟩ := hv
  obtain ⟨b, dd2, items2, n2, sl2, rfl, gb, ib⟩ := hw
  rw [keyLt'_oneType, oneLt'_eq]
  simp only [if_true]
  refine wpAny_bind (wpAny_cRoomFor hu ?_)
  refine wpAny_bind (wpAny_callSpecialIfBound?_slot (T := "tuple") ⟨_, ga, rfl⟩ PySem.F.slot_tuple_lt (call_meets PySem.F.slot_tuple_lt ⟨_, ga, rfl⟩ PySem.F.entry_tuple_lt (PySem.F.args_tuple_lt_2 _ _) (HT.tuple_lt_ints a b items items2 n n2 dd dd2 sl sl2 ns ms ia ib) ⟨ga, gb, ?_⟩))
  exact wpAny_truthy_bool h
theorem ti_cmp {vs : List Value} {k : Value → List Int} (hu : A.units < cLine) (hv : ∀ v ∈ vs, IsTI s.heap v (k v)) : SrtO.Cmp prog w A s oneType' (fun p => p.1 ∈ vs) (SrtO.lt2 fun v u => HT.lexLt (k v) (k u)) := by
  intro p q hp hq
  exact lt_ti (Q := fun r s' => s' = s ∧ r = HT.lexLt (k p.1) (k q.1)) (E := fun _ _ => False) hu (hv p.1 hp) (hv q.1 hq) ⟨rfl, rfl⟩
theorem ti_firsts {M : Model} {k : Value → List Int} : ∀ (vs : List Value), (∀ v ∈ vs, IsTI s.heap v (k v)) → ∃ fs : List (Option Value), fs.length = vs.length ∧ (∀ v r, vs = v :: r → k v = [] → ∃ fr, fs = none :: fr) ∧
    ∀ (Q : List (Option Value) → Shared → Prop), Q fs s → wpAny M A (vs.mapM firstOfTuple') Q E s
  | [], _ => ⟨[], rfl, (fun v r e => by cases e), (fun Q h => by rw [List.mapM_nil]; exact wpAny_pure h)⟩
  | v :: vs, hv => by
    obtain ⟨fs, hl, _, hw⟩ := ti_firsts vs fun u hu => hv u (.tail _ hu)
    have hv0 := hv v (.head _)
    have ty := hv0.type (M := M)
    obtain ⟨a, dd, items, n, sl, rfl, ga, ia⟩ := hv0
    refine ⟨items[0]? :: fs, by rw [List.length_cons, List.length_cons, hl], fun u r e h0 => ?_, fun Q h => ?_⟩
    · cases e
      rw [h0] at ia
      have z : items.toList = [] := by
        cases hi : items.toList with
        | nil => rfl
        | cons x y => rw [hi] at ia; cases ia
      refine ⟨fs, ?_⟩
      have z2 : items = #[] := Array.toList_eq_nil_iff.mp z
      rw [z2]
      rfl
    · rw [List.mapM_cons]
      refine wpAny_bind ?_
      rw [kas_first_eq]
      refine wpAny_bind (ty.here ?_)
      rw [if_neg (by first | decide | simp)]
      refine wpAny_bind (listItems_at ga rfl (wpAny_pure ?_))
      exact wpAny_bind (hw (fun bs s' => wpAny M A (pure (items[0]? :: bs)) Q E s') (wpAny_pure h))
theorem ti_kind {M : Model} {v₁ v₂ : Value} {vs : List Value} {k : Value → List Int} {Q : SortKind → Shared → Prop} (hv : ∀ v ∈ v₁ :: v₂ :: vs, IsTI s.heap v (k v)) (h0 : k v₁ = []) (h : Q oneType' s) : wpAny M A (keyKind' (v₁ :: v₂ :: vs).toArray) Q E s := by
  obtain ⟨fs, hl, hf, hw⟩ := ti_firsts (M := M) (A := A) (E := E) (v₁ :: v₂ :: vs) hv
  obtain ⟨fr, rfl⟩ := hf _ _ rfl h0
  rw [keyKind'_eq, List.mapM_toArray, map_eq_pure_bind]
  refine wpAny_bind (wpAny_bind (hw _ (wpAny_pure ?_)))
  rw [if_neg (by simp), if_neg (by simp)]
  rw [oneTypeOnly'_eq, List.mapM_toArray, map_eq_pure_bind]
  refine wpAny_bind (wpAny_bind (wpAny_bind (kas_mapM (r := .type "tuple") _ (fun v hm Q' hq => ((hv v hm).type (M := M)).here hq) (wpAny_pure ?_))))
  have hall : ((List.map (fun _ => Value.type "tuple") (v₁ :: v₂ :: vs)).toArray.all fun x => x == Value.type "tuple") = true := by
    simp only [List.all_toArray, List.all_map, List.all_eq_true]
    intro _ _
    rfl
  have hx : (List.map (fun _ => Value.type "tuple") (v₁ :: v₂ :: vs)).toArray[0]? = some (Value.type "tuple") := by simp
  rw [hx]
  simp only [hall, if_true]
  exact wpAny_pure (wpAny_pure h)
theorem ti_sortable {a : Addr} {v₁ v₂ : Value} {vs : List Value} {k : Value → List Int} (hu : A.units < cLine) (hv : ∀ v ∈ v₁ :: v₂ :: vs, IsTI s.heap v (k v)) (h0 : k v₁ = []) (ha : ∀ v ∈ v₁ :: v₂ :: vs, v ≠ .ref a) :
    SrtO.SortableO prog w A s a (v₁ :: v₂ :: vs) fun v u => HT.lexLt (k v) (k u) := by
  intro h' keep
  have hv' : ∀ v ∈ v₁ :: v₂ :: vs, IsTI h' v (k v) := fun v hm => (hv v hm).keeps fun b o e g => keep b o (fun z => ha v hm (by rw [e, z])) g
  exact ⟨oneType', fun Q E hq => ti_kind (s := { s with heap := h' }) hv' h0 hq, ti_cmp (s := { s with heap := h' }) hu hv'⟩
end
end TSort
namespace L2
open PySem PySem.Spec PyProof.Rows
/-- sorted(xs), xs tuples of ints (k says which), the first of them empty: a new list, sorted -/
def rSortedTI (K : PySem.W.Frag) : List V → Hp → VK → Prop := fun vs H Q => ∃ (a : Addr) (t0 t1 : Addr) (ts : List Addr) (k : Addr → List Int), vs = [V.ref a] ∧ SqL K H a ((t0 :: t1 :: ts).map V.ref) ∧ (∀ t ∈ t0 :: t1 :: ts, H t = some (.tup ((k t).map V.int))) ∧ k t0 = [] ∧
  ∀ (ts' : List Addr) (p : Addr), ts'.Perm (t0 :: t1 :: ts) → ts'.Pairwise (fun p q => HT.lexLt (k q) (k p) = false) → H p = none → Q (.ref p) (upd H p (.lst (ts'.map V.ref)))
section
variable {X : Cx}
theorem cr_sortedTI (hu : X.A.units + 64 < cLine) : CallR X (.builtin "sorted") (rSortedTI X.K) := by
  intro pins s σ H vs us Q I r h
  obtain ⟨a, t0, t1, ts, k, rfl, hs, hx, h0, q⟩ := h
  obtain ⟨its, rv, hl, hz⟩ := I.list hs
  obtain ⟨u, rfl, ru⟩ := vals1 r
  obtain rfl : u = Value.ref a := ru
  have ei := nts_of rv
  have hzs : its.length ≤ sizeLine := by rw [← rv.length]; exact hz
  have hv : ∀ u ∈ its, TSort.IsTI s.heap u (k (adO u)) := fun u hm => by
    rw [ei] at hm
    obtain ⟨t, ht, rfl⟩ := List.mem_map.mp hm
    obtain ⟨_, its2, r2, o, ho, hc, n, hd⟩ := I.hok _ _ (hx t ht)
    obtain ⟨cls, dd, data, sl⟩ := o
    simp only at hc hd
    subst hc hd
    exact ⟨t, dd, its2.toArray, n, sl, rfl, ho, intsAre_of r2⟩
  have hm0 : ∀ t ∈ t0 :: t1 :: ts, TSort.IsTI s.heap (.ref t) (k t) := fun t ht => hv (.ref t) (by rw [ei]; exact List.mem_map.mpr ⟨t, ht, rfl⟩)
  subst ei
  refine SrtO.sorted_ord (NtL.swo_lexL fun u => k (adO u)) hl.isList hzs (fun h2 h₁ b hb kk => ?_) fun out h1 h2 => ?_
  · refine TSort.ti_sortable (s := { s with heap := h₁ }) (by show X.A.units + 1 + 1 < cLine; omega) (fun v hm => (hv v hm).keeps fun b o e g => (kk b o g).2) h0 (fun v hm z => ?_)
    obtain ⟨c, dd, items, n, sl, e, g, i⟩ := hv v hm
    rw [e] at z
    exact (kk _ _ g).1 (Value.ref.inj z)
  · have eo : out = (out.map adO).map Value.ref := ref_map fun u hm => by
      obtain ⟨t, _, e⟩ := List.mem_map.mp (h2.perm.mem_iff.mp hm)
      exact ⟨t, e.symm⟩
    have hp : (out.map adO).Perm (t0 :: t1 :: ts) := by
      have p1 := h2.perm.map adO
      rw [ad_map] at p1
      exact p1
    have hs2 : (out.map adO).Pairwise (fun p q => HT.lexLt (k q) (k p) = false) := List.pairwise_map.mpr (h1.imp fun {x y} z => z)
    have rvo : Vals ((out.map adO).map V.ref) out := by
      have z := of_nts (out.map adO)
      rw [← eo] at z
      exact z
    have hd : s.heap.objs.size ≤ s.heap.objs.size + 1 := Nat.le_succ _
    obtain ⟨n, hn⟩ := sortedAll_at s.heap ((t0 :: t1 :: ts).map Value.ref) out.toArray
    refine ⟨.ref _, upd H (s.heap.objs.size + 1) (.lst ((out.map adO).map V.ref)), I.laid (t' := s.toks) (fun b o e => sortedAll_old e) hd ⟨?_, out, n, rvo, hn⟩, rfl, q _ _ hp hs2 (I.hok.fresh hd)⟩
    rw [List.length_map, hp.length_eq]
    rw [List.length_map] at hz
    exact hz
end
end L2

/-! All lots in their order. -/
namespace Fam
open PySem L2
open C8 (pss_cut tCut)

abbrev lotI (m : Nat) : List Int := (lotN m 12).map (fun n : Nat => (n : Int))
theorem lotV_eq (m : Nat) : lotV m = (lotI m).map V.int := by
  unfold lotV lotI
  rw [List.map_map]
  rfl
/-- a stands ahead of b, or they are one -/
def lotLe (a b : Nat) : Prop := HT.lexLt (lotI b) (lotI a) = false
/-- all masks of n places in the order of their lots -/
structure OrderOf (n : Nat) (ms : List Nat) : Prop where
  perm : ms.Perm (List.range (2 ^ n))
  srt : ms.Pairwise lotLe
theorem maskN_lotN (m : Nat) : ∀ n, maskN (lotN m n) = m % 2 ^ n
  | 0 => by rw [Nat.pow_zero, Nat.mod_one]; rfl
  | n + 1 => by
    rw [Nat.mod_pow_succ, ← maskN_lotN m n]
    by_cases h : m / 2 ^ n % 2 = 1
    · rw [lotN_yes h, maskN_snoc, h, Nat.mul_one]
    · have h0 : m / 2 ^ n % 2 = 0 := by omega
      rw [lotN_no h, h0, Nat.mul_zero, Nat.add_zero]
theorem lotN_lt (m : Nat) : ∀ n, ∀ i ∈ lotN m n, i < n
  | 0, i, h => by cases h
  | n + 1, i, h => by
    by_cases e : m / 2 ^ n % 2 = 1
    · rw [lotN_yes e] at h
      rcases List.mem_append.mp h with q | q
      · have := lotN_lt m n i q
        omega
      · rw [List.mem_singleton.mp q]
        omega
    · rw [lotN_no e] at h
      have := lotN_lt m n i h
      omega

/-! ### rows of lots, rearranged -/
theorem LotsAt.refs {H : Hp} : ∀ {vs : List V} {ms : List Nat}, LotsAt H vs ms → ∃ ts : List Addr, vs = ts.map V.ref
  | [], [], _ => ⟨[], rfl⟩
  | v :: vs, m :: ms, h => by
    obtain ⟨⟨p, rfl, _⟩, h2⟩ := h
    obtain ⟨ts, rfl⟩ := h2.refs
    exact ⟨p :: ts, rfl⟩
theorem LotsAt.get {H : Hp} : ∀ {vs : List V} {ms : List Nat} {i : Nat} {x : V}, LotsAt H vs ms → vs[i]? = some x → ∃ (hi : i < ms.length) (p : Addr), x = .ref p ∧ H p = some (.tup (lotV ms[i]))
  | [], [], i, x, _, e => by cases e
  | v :: vs, m :: ms, 0, x, h, e => by
    obtain ⟨⟨p, rfl, h1⟩, _⟩ := h
    cases e
    exact ⟨Nat.succ_pos _, p, rfl, h1⟩
  | v :: vs, m :: ms, i + 1, x, h, e => by
    obtain ⟨hi, p, e1, e2⟩ := h.2.get (i := i) e
    exact ⟨Nat.succ_lt_succ hi, p, e1, e2⟩
theorem LotsAt.mem {H : Hp} : ∀ {ts : List Addr} {ms : List Nat}, LotsAt H (ts.map V.ref) ms → (∀ m ∈ ms, ∃ t ∈ ts, H t = some (.tup (lotV m))) ∧ (∀ t ∈ ts, ∃ m ∈ ms, H t = some (.tup (lotV m)))
  | [], [], _ => ⟨(fun m h => by cases h), (fun m h => by cases h)⟩
  | t :: ts, m :: ms, h => by
    obtain ⟨⟨p, e, h1⟩, h2⟩ := h
    cases e
    obtain ⟨a, b⟩ := LotsAt.mem h2
    refine ⟨fun x hx => ?_, fun x hx => ?_⟩
    · rcases List.mem_cons.mp hx with e | q
      · rw [e]
        exact ⟨_, List.mem_cons_self, h1⟩
      · obtain ⟨u, hu, hh⟩ := a x q
        exact ⟨u, List.mem_cons_of_mem _ hu, hh⟩
    · rcases List.mem_cons.mp hx with e | q
      · rw [e]
        exact ⟨m, List.mem_cons_self, h1⟩
      · obtain ⟨u, hu, hh⟩ := b x q
        exact ⟨u, List.mem_cons_of_mem _ hu, hh⟩
theorem LotsAt.perm {H : Hp} {ts ts' : List Addr} (p : ts.Perm ts') : ∀ {ms : List Nat}, LotsAt H (ts.map V.ref) ms → ∃ ms' : List Nat, ms.Perm ms' ∧ LotsAt H (ts'.map V.ref) ms' := by
  induction p with
  | nil => exact fun h => ⟨_, List.Perm.refl _, h⟩
  | cons x p ih =>
    intro ms h
    cases ms with
    | nil => exact h.elim
    | cons m ms =>
      obtain ⟨ms', p2, h2⟩ := ih h.2
      exact ⟨m :: ms', p2.cons m, h.1, h2⟩
  | swap x y l =>
    intro ms h
    match ms, h with
    | [], h => exact h.elim
    | [_], h => exact h.2.elim
    | m :: m' :: ms, h => exact ⟨m' :: m :: ms, List.Perm.swap _ _ _, h.2.1, h.1, h.2.2⟩
  | trans p q ih1 ih2 =>
    intro ms h
    obtain ⟨ms1, p1, h1⟩ := ih1 h
    obtain ⟨ms2, p2, h2⟩ := ih2 h1
    exact ⟨ms2, p1.trans p2, h2⟩
def unI : V → Int
  | .int i => i
  | _ => 0
/-- the numbers of the tuple at t -/
def kOf (H : Hp) (t : Addr) : List Int :=
  match H t with
  | some (.tup xs) => xs.map unI
  | _ => []
theorem kOf_lot {H : Hp} {t : Addr} {m : Nat} (h : H t = some (.tup (lotV m))) : kOf H t = lotI m := by
  unfold kOf
  rw [h]
  show (lotV m).map unI = _
  rw [lotV_eq, List.map_map]
  exact (List.map_congr_left fun _ _ => rfl).trans (List.map_id _)
theorem LotsAt.srt {H : Hp} : ∀ {ts : List Addr} {ms : List Nat}, LotsAt H (ts.map V.ref) ms → ts.Pairwise (fun p q => HT.lexLt (kOf H q) (kOf H p) = false) → ms.Pairwise lotLe
  | [], [], _, _ => List.Pairwise.nil
  | t :: ts, m :: ms, h, hp => by
    obtain ⟨⟨p, e, h1⟩, h2⟩ := h
    cases e
    obtain ⟨q1, q2⟩ := List.pairwise_cons.mp hp
    refine List.pairwise_cons.mpr ⟨fun x hx => ?_, LotsAt.srt h2 q2⟩
    obtain ⟨u, hu, hh⟩ := (LotsAt.mem h2).1 x hx
    have := q1 u hu
    rw [kOf_lot hh, kOf_lot h1] at this
    exact this

def spAllLots : Sp := fun vs H Q _ => ∃ n : Nat, vs = [vInt n] ∧ 1 ≤ n ∧ n ≤ 10 ∧ ∀ (H' : Hp) (p : Addr) (ms : List Nat) (xs : List V), OrderOf n ms → Same H H' → H p = none → H' p = some (.lst xs) → LotsAt H' xs ms → Q (.ref p) H'
def spOrder : Sp := fun vs H Q _ => ∃ n : Nat, vs = [vInt n] ∧ 1 ≤ n ∧ n ≤ 10 ∧ ∀ (H' : Hp) (p : Addr) (ms : List Nat), OrderOf n ms → Same H H' → H p = none → H' p = some (.lst (ms.map vInt)) → Q (.ref p) H'

section
variable {P : Program} {w : World} {K : PySem.W.Frag} {mg : Str → Option Value} {base : Heap}
abbrev nAL : List Str := ["_law_size", "_law_mask_here"]
theorem scAL : FnScope nAL ["_law_size"] (defScope sAllLots) := ⟨rfl, rfl, rfl, by decide +kernel, rfl, by decide +kernel, by decide +kernel⟩
theorem ok_all_lots {f : Addr} {fd : FuncData} (F : Fun K "_law_all_lots" "_law_all_lots" sAllLots f fd) (T : Bare mg) (GL : Cal P w K mg base 1 "_law_lot" ["_law_mask_here"] spLot)
    (GF : Cal P w K mg base 1 "_law_full" ["_law_size"] spFull) : FnOk P w K mg base CX0 2 f fd ["_law_size"] spAllLots := by
  obtain ⟨gl, gld, okl, bl, kl, ml⟩ := GL.ex
  obtain ⟨gf, gfd, okf, bf, kf, mf⟩ := GF.ex
  refine F.ok scAL (fun vs H Q E h => ?_) (fun cdv A outer s H vs Q E hr h => ?_)
  · obtain ⟨n, rfl, _⟩ := h
    rfl
  · obtain ⟨n, rfl, h1, h2, k⟩ := h
    have h10 := pow_le10 h2
    refine ⟨_, pss_one (ps_ret (pe_callB (cr_sortedTI hr.units) (by rfl) T.sorted (by decide +kernel) (pa_cons (pe_lc (own := [("_law_mask_here", 1)]) (g := gName 1) (tt := tYes) rfl scAL.nd
      (pi_range1 rfl T.range (pa_cons (pe_call okf hr rfl mf kf bf .nil pass0 (pa_cons (pv 0) pa_nil)) pa_nil)) (blkOk_by (own := [("_law_mask_here", 1)]) (N := nAL) (sc := defScope sAllLots) (by decide +kernel)) (fun _ _ _ _ _ => pg_name (i := 1) scAL.nd rfl (Or.inl rfl)) (fun _ _ _ _ _ => pts_nil)
      (fun _ _ _ _ _ => pe_call okl hr rfl ml kl bl .nil pass0 (pa_cons (pv 1) pa_nil))) pa_nil))), ?_⟩
    refine ⟨_, rfl, n, rfl, by omega, _, rfl, Int.le_trans (by decide) (Int.natCast_nonneg _), Int.lt_of_le_of_lt (Int.ofNat_le.mpr h10) (by decide), fun D hD => ?_⟩
    refine lc_range (lo := 0) (n := 2 ^ n) (fun i H' => Same H H' ∧ ∃ xs, H' D = some (.lst xs) ∧ LotsAt H' xs (List.range i)) ⟨same_new hD, [], upd_same, trivial⟩ ?_ ?_
    · rintro i H1 hi ⟨sm, xs, hT, hL⟩
      refine ⟨rfl, _, rfl, i, by rw [Int.zero_add]; rfl, fun H2 p s2 hp ht => ?_⟩
      refine ⟨_, s2 _ _ hT, ?_, same_upd (sm.trans s2) hD, _, upd_same, ?_⟩
      · rw [hL.len, List.length_range]
        exact below (m := 100000) (by omega)
      · rw [List.range_succ]
        exact ((hL.same s2).add ht).upd (s2 _ _ hT)
    · rintro H1 ⟨sm, xs, hT, hL⟩
      obtain ⟨ts, rfl⟩ := hL.refs
      have hlen := hL.len
      rw [List.length_map, List.length_range] at hlen
      have h2n : 2 ≤ 2 ^ n := by
        have : 2 ^ 1 ≤ 2 ^ n := Nat.pow_le_pow_right (by decide) h1
        omega
      obtain ⟨t0, t1, tr, rfl⟩ : ∃ t0 t1 tr, ts = t0 :: t1 :: tr := by
        match ts, hlen with
        | [], e => simp at e; omega
        | [_], e => simp at e; omega
        | t0 :: t1 :: tr, _ => exact ⟨t0, t1, tr, rfl⟩
      have e0 : kOf H1 t0 = [] := by
        have er : List.range (2 ^ n) = 0 :: (List.range (2 ^ n - 1)).map Nat.succ := by
          have : 2 ^ n = (2 ^ n - 1) + 1 := by omega
          rw [this, List.range_succ_eq_map]
          rfl
        rw [er] at hL
        obtain ⟨⟨p, e, hp⟩, _⟩ := hL
        cases e
        rw [kOf_lot hp]
        decide +kernel
      refine ⟨D, t0, t1, tr, kOf H1, rfl, SqL.of hT, fun t ht => ?_, e0, fun ts' p hp hs hpn => ?_⟩
      · obtain ⟨m, _, hm⟩ := (LotsAt.mem hL).2 t ht
        rw [kOf_lot hm, ← lotV_eq]
        exact hm
      · obtain ⟨ms', pm, hL'⟩ := LotsAt.perm hp.symm hL
        exact k _ p ms' _ ⟨pm.symm, LotsAt.srt hL' hs⟩ (sm.trans (same_new hpn)) (sm.free hpn) upd_same (hL'.same (same_new hpn))

abbrev nOR : List Str := ["_law_size", "_law_lot_here"]
theorem scOR : FnScope nOR ["_law_size"] (defScope sOrder) := ⟨rfl, rfl, rfl, by decide +kernel, rfl, by decide +kernel, by decide +kernel⟩
theorem ok_order {f : Addr} {fd : FuncData} (F : Fun K "_law_order" "_law_order" sOrder f fd) (T : Bare mg) (GM : Cal P w K mg base 2 "_law_mask" ["_law_lot_here"] (spMask K))
    (GA : Cal P w K mg base 2 "_law_all_lots" ["_law_size"] spAllLots) : FnOk P w K mg base CX0 3 f fd ["_law_size"] spOrder := by
  obtain ⟨gm, gmd, okm, bm, km, mm⟩ := GM.ex
  obtain ⟨ga, gad, oka, ba, ka, ma⟩ := GA.ex
  refine F.ok scOR (fun vs H Q E h => ?_) (fun cdv A outer s H vs Q E hr h => ?_)
  · obtain ⟨n, rfl, _⟩ := h
    rfl
  · obtain ⟨n, rfl, h1, h2, k⟩ := h
    have h10 := pow_le10 h2
    refine ⟨_, pss_one (ps_ret (pe_lc (own := [("_law_lot_here", 1)]) (g := gName 1) (tt := tYes) rfl scOR.nd
      (pi_list (pe_call oka hr rfl ma ka ba .nil pass0 (pa_cons (pv 0) pa_nil))) (blkOk_by (own := [("_law_lot_here", 1)]) (N := nOR) (sc := defScope sOrder) (by decide +kernel)) (fun _ _ _ _ _ => pg_name (i := 1) scOR.nd rfl (Or.inl rfl)) (fun _ _ _ _ _ => pts_nil)
      (fun _ _ _ _ _ => pe_call okm hr rfl mm km bm .nil pass0 (pa_cons (pv 1) pa_nil)))), ?_⟩
    refine ⟨_, rfl, n, rfl, h1, h2, fun H1 p ms xs ho s1 hp hT hL => ⟨p, rfl, ⟨_, SqL.of hT⟩, fun D hD => ?_⟩⟩
    have hD0 : H D = none := s1.free hD
    have hlm : ms.length = 2 ^ n := by rw [ho.perm.length_eq, List.length_range]
    refine lc_list (K := K) (a := p) (xs := xs) (fun i H' => Same H1 H' ∧ H' D = some (.lst ((ms.take i).map vInt))) ⟨same_new hD, upd_same⟩ ?_ ?_ ?_
    · rintro i H2 hi ⟨sm, _⟩
      exact SqL.of (sm _ _ hT)
    · rintro i x H2 hx ⟨sm, hR⟩
      obtain ⟨hi, q, rfl, hq⟩ := hL.get hx
      have hm : ms[i] < 2 ^ n := List.mem_range.mp (ho.perm.mem_iff.mp (List.getElem_mem hi))
      have e1 : maskN (lotN ms[i] 12) = ms[i] := by
        rw [maskN_lotN]
        exact Nat.mod_eq_of_lt (by omega)
      refine ⟨rfl, _, rfl, q, lotN ms[i] 12, rfl, SqT.of (sm _ _ hq), fun j hj => by have := lotN_lt _ _ j hj; omega, ?_⟩
      rw [e1]
      refine ⟨_, hR, ?_, same_upd sm hD, ?_⟩
      · rw [List.length_map, List.length_take]
        exact below (m := 100000) (by omega)
      · rw [upd_same, take_more hi, List.map_append]
        rfl
    · rintro H2 ⟨sm, hR⟩
      rw [hL.len, List.take_length] at hR
      exact k H2 D ms ho (s1.trans sm) hD0 hR
end
end Fam

/-! What k49's texts hold that is of use here. -/
namespace Fam
open PySem L2
open C8 (pss_cut tCut)
theorem find_at {α : Type} {p : α → Bool} : ∀ {l : List α} {k : Nat} (hk : k < l.length), (∀ z ∈ l.take k, p z = false) → p l[k] = true → l.find? p = some l[k]
  | x :: l, 0, _, _, hp => List.find?_cons_of_pos (p := p) (a := x) (l := l) hp
  | x :: l, k + 1, hk, h, hp => by
    rw [List.find?_cons_of_neg (by rw [h x (by rw [List.take_succ_cons]; exact List.mem_cons_self)]; decide)]
    exact find_at (Nat.lt_of_succ_lt_succ hk) (fun z hz => h z (by rw [List.take_succ_cons]; exact List.mem_cons_of_mem _ hz)) hp
theorem findSome_at {α β : Type} {f : α → Option β} {r : β} : ∀ {l : List α} {k : Nat} (hk : k < l.length), (∀ z ∈ l.take k, f z = none) → f l[k] = some r → l.findSome? f = some r
  | x :: l, 0, _, _, hp => by
    rw [List.findSome?_cons]
    show (match f x with | some b => some b | none => _) = _
    have : f x = some r := hp
    rw [this]
  | x :: l, k + 1, hk, h, hp => by
    rw [List.findSome?_cons, h x (by rw [List.take_succ_cons]; exact List.mem_cons_self)]
    exact findSome_at (Nat.lt_of_succ_lt_succ hk) (fun z hz => h z (by rw [List.take_succ_cons]; exact List.mem_cons_of_mem _ hz)) hp

def insideOf (ms os : List Nat) : List Nat := os.filter fun m => decide (m ∈ ms)
theorem bit_iff (m n : Nat) : m / 2 ^ n % 2 = 1 ↔ m.testBit n = true := by
  rw [Nat.testBit_eq_decide_div_mod_eq, decide_eq_true_eq]
theorem and_pow (m n : Nat) : (0 < m &&& 2 ^ n) ↔ m.testBit n = true := by
  constructor
  · intro h
    cases e : m.testBit n with
    | true => rfl
    | false =>
      exfalso
      have z : m &&& 2 ^ n = 0 := by
        apply Nat.eq_of_testBit_eq
        intro i
        rw [Nat.testBit_and, Nat.testBit_two_pow, Nat.zero_testBit]
        by_cases q : n = i
        · subst q
          rw [e, Bool.false_and]
        · rw [decide_eq_false q, Bool.and_false]
      omega
  · intro h
    apply Nat.pos_of_ne_zero
    intro z
    have q : (m &&& 2 ^ n).testBit n = true := by rw [Nat.testBit_and, h, Nat.testBit_two_pow_self] <;> rfl
    rw [z, Nat.zero_testBit] at q
    cases q
def In (a b : Nat) : Prop := ∀ i, a.testBit i = true → b.testBit i = true
theorem In.refl (a : Nat) : In a a := fun _ h => h
theorem In.trans {a b c : Nat} (h : In a b) (k : In b c) : In a c := fun i q => k i (h i q)
theorem and_in {a z : Nat} : a &&& z = a ↔ In a z := by
  constructor
  · intro h i q
    have e : (a &&& z).testBit i = true := by rw [h]; exact q
    rw [Nat.testBit_and, q] at e
    simpa using e
  · intro h
    apply Nat.eq_of_testBit_eq
    intro i
    rw [Nat.testBit_and]
    cases e : a.testBit i with
    | false => rfl
    | true => rw [h i e] <;> rfl
theorem or_in {a z : Nat} : a ||| z = a ↔ In z a := by
  constructor
  · intro h i q
    have e : (a ||| z).testBit i = true := by rw [Nat.testBit_or, q, Bool.or_true]
    rw [h] at e
    exact e
  · intro h
    apply Nat.eq_of_testBit_eq
    intro i
    rw [Nat.testBit_or]
    cases e : z.testBit i with
    | false => rw [Bool.or_false]
    | true => rw [h i e] <;> rfl
theorem in_lt {z m n : Nat} (h : In z m) (hm : m < 2 ^ n) : z < 2 ^ n := by
  have e : z &&& m = z := and_in.mpr h
  rw [← e]
  exact Nat.lt_of_le_of_lt Nat.and_le_right hm
theorem in_and_l (a b : Nat) : In (a &&& b) a := fun i h => by rw [Nat.testBit_and, Bool.and_eq_true] at h; exact h.1
theorem in_and_r (a b : Nat) : In (a &&& b) b := fun i h => by rw [Nat.testBit_and, Bool.and_eq_true] at h; exact h.2
theorem in_or_l (a b : Nat) : In a (a ||| b) := fun i h => by rw [Nat.testBit_or, h] <;> rfl
theorem in_or_r (a b : Nat) : In b (a ||| b) := fun i h => by rw [Nat.testBit_or, h, Bool.or_true]
theorem wsN_bit (m : Nat) (ws : List Int) (n : Nat) : wsN m ws (n + 1) = wsN m ws n + (if m.testBit n = true then ws.getD n 0 else 0) := by
  by_cases h : m / 2 ^ n % 2 = 1
  · rw [wsN_yes h, if_pos ((bit_iff m n).mp h)]
  · rw [wsN_no h, if_neg (fun q => h ((bit_iff m n).mpr q)), Int.add_zero]
theorem better_max (b : Option Int) (t : Int) : ∃ v, better b t = some v ∧ t ≤ v ∧ (∀ x, b = some x → x ≤ v) ∧ (v = t ∨ b = some v) := by
  cases b with
  | none => exact ⟨t, rfl, Int.le_refl _, (fun x h => by cases h), .inl rfl⟩
  | some x =>
    by_cases h : t > x
    · exact ⟨t, if_pos h, Int.le_refl _, (fun y e => by cases e; omega), .inl rfl⟩
    · exact ⟨x, if_neg h, by omega, (fun y e => by cases e; omega), .inr rfl⟩
theorem snoc_ind {α : Type} {p : List α → Prop} (h0 : p []) (h : ∀ l a, p l → p (l ++ [a])) : ∀ l, p l := by
  have q : ∀ n (l : List α), l.length = n → p l := by
    intro n
    induction n with
    | zero => exact fun l e => by rw [List.length_eq_zero_iff.mp e]; exact h0
    | succ n ih =>
      intro l e
      rcases List.eq_nil_or_concat l with r | ⟨k, b, r⟩
      · rw [r] at e
        cases e
      · rw [r, List.concat_eq_append] at e ⊢
        rw [List.length_append] at e
        exact h k b (ih k (by simpa using e))
  exact fun l => q _ l rfl
theorem best_spec (ws : List Int) : ∀ ms : List Nat, ms ≠ [] → ∃ v, bestOf ws ms = some v ∧ (∀ m ∈ ms, wsum m ws ≤ v) ∧ ∃ m ∈ ms, wsum m ws = v := by
  refine snoc_ind (fun h => absurd rfl h) fun l m ih => ?_
  · intro _
    rw [bestOf_snoc]
    by_cases e : l = []
    · subst e
      exact ⟨_, rfl, fun x hx => by rw [List.mem_singleton.mp hx]; exact Int.le_refl _, m, List.mem_singleton.mpr rfl, rfl⟩
    · obtain ⟨v, h1, h2, x, hx, h3⟩ := ih e
      rw [h1]
      obtain ⟨u, g1, g2, g3, g4⟩ := better_max (some v) (wsum m ws)
      refine ⟨u, g1, fun y hy => ?_, ?_⟩
      · rcases List.mem_append.mp hy with q | q
        · exact Int.le_trans (h2 y q) (g3 v rfl)
        · rw [List.mem_singleton.mp q]
          exact g2
      · rcases g4 with g | g
        · exact ⟨m, List.mem_append.mpr (.inr (List.mem_singleton.mpr rfl)), g.symm⟩
        · cases g
          exact ⟨x, List.mem_append.mpr (.inl hx), h3⟩
theorem bit_apart {m z n : Nat} (hm : m < 2 ^ n) (hz : z < 2 ^ n) (h : m ≠ z) : ∃ i, i < n ∧ m.testBit i ≠ z.testBit i := by
  refine Classical.byContradiction fun q => h (Nat.eq_of_testBit_eq fun i => ?_)
  by_cases hi : i < n
  · exact Classical.byContradiction fun e => q ⟨i, hi, e⟩
  · have le : 2 ^ n ≤ 2 ^ i := Nat.pow_le_pow_right (by decide) (by omega)
    rw [Nat.testBit_lt_two_pow (by omega), Nat.testBit_lt_two_pow (by omega)]
def DefAt (K : PySem.W.Frag) (x : Str) (st : Stmt) (f : Addr) : Prop :=
  ∃ (od an : Option Addr) (sl : Array (Option Value)) (oc kV dc pm cd ct : Value), PySem.W.nsIn K mainGlobals x = some (some (.ref f)) ∧
    K.lookup f = some ⟨oc, od, .func (PySem.W.fnOf x x (defArgs st) (defBody st) (defScope st) .none kV dc pm an cd ct), sl⟩ ∧ PySem.W.codeIn K cd x = true ∧ PySem.W.keepIn K (.ref f) = true
theorem def_at {K : PySem.W.Frag} {x : Str} {st : Stmt} {f : Addr} {od an : Option Addr} {sl : Array (Option Value)} {oc kV dc pm cd ct : Value} (a : PySem.W.nsIn K mainGlobals x = some (some (.ref f)))
    (l : K.lookup f = some ⟨oc, od, .func (PySem.W.fnOf x x (defArgs st) (defBody st) (defScope st) .none kV dc pm an cd ct), sl⟩) (c : PySem.W.codeIn K cd x = true) (k : PySem.W.keepIn K (.ref f) = true) : ∃ f, DefAt K x st f := ⟨f, od, an, sl, oc, kV, dc, pm, cd, ct, a, l, c, k⟩
theorem cal {P : Program} {w : World} {K : PySem.W.Frag} {mg : Str → Option Value} {base : Heap} {h : Heap} {k : Nat} {x : Str} {st : Stmt} {ps : List Str} {sp : Sp} (X : K.In h) (G : h.Ns mainGlobals mg) (D : ∃ f, DefAt K x st f)
    (hb : ∀ (kV doc pm : Value) (an : Option Addr) (cdv ct : Value) (us : List Value), us.length = ps.length → bindArgs (PySem.W.fnOf x x (defArgs st) (defBody st) (defScope st) .none kV doc pm an cdv ct) ⟨us, []⟩ = pure (ps.zip us))
    (ok : ∀ f fd, Fun K x x st f fd → FnOk P w K mg base CX0 k f fd ps sp) : Cal P w K mg base k x ps sp := by
  obtain ⟨f, od, an, sl, oc, kV, dc, pm, cd, ct, a, l, c, kk⟩ := D
  have F := fun_mk (st := st) l c kk
  exact ⟨f, _, ok f _ F, F.binds hb, kk, PySem.W.mg_of X G a⟩
structure Bares (K : PySem.W.Frag) : Prop where
  len : PySem.W.nsIn K mainGlobals "len" = some none
  int : PySem.W.nsIn K mainGlobals "int" = some none
  range : PySem.W.nsIn K mainGlobals "range" = some none
  min : PySem.W.nsIn K mainGlobals "min" = some none
  bool : PySem.W.nsIn K mainGlobals "bool" = some none
  isi : PySem.W.nsIn K mainGlobals "isinstance" = some none
  tuple : PySem.W.nsIn K mainGlobals "tuple" = some none
  list : PySem.W.nsIn K mainGlobals "list" = some none
  abs : PySem.W.nsIn K mainGlobals "abs" = some none
  sorted : PySem.W.nsIn K mainGlobals "sorted" = some none
theorem Bares.bare {K : PySem.W.Frag} {h : Heap} {mg : Str → Option Value} (X : K.In h) (G : h.Ns mainGlobals mg) (b : Bares K) : Bare mg :=
  ⟨PySem.W.mg_none_of X G b.len, PySem.W.mg_none_of X G b.int, PySem.W.mg_none_of X G b.range, PySem.W.mg_none_of X G b.min, PySem.W.mg_none_of X G b.bool, PySem.W.mg_none_of X G b.isi, PySem.W.mg_none_of X G b.tuple, PySem.W.mg_none_of X G b.list, PySem.W.mg_none_of X G b.abs, PySem.W.mg_none_of X G b.sorted⟩
theorem passE0 {P : Program} {w : World} {X : Cx} : Passes (L2.CX P w) X E0 := fun _ _ _ _ _ _ _ h => by
  obtain ⟨_, _, _, _, _, _, _, _, _, _, _, _, h⟩ := h
  exact h.elim
section
variable (K : PySem.W.Frag) (C B : Addr) (At : Hp → Addr → Nat → List Nat → Prop)
def spInit : Sp := fun vs H Q _ => ∃ (x dx a : Addr) (n : Nat) (xs : List V) (ms : List Nat), vs = [.ref x, vInt n, .ref a] ∧ H x = some (.ins C dx []) ∧ H dx = some (.own x) ∧ Row K H a xs ∧ LotsAt H xs ms ∧ 1 ≤ n ∧ n ≤ 10 ∧ Masks n ms ∧
  ∀ H' : Hp, (∀ b o, b ≠ x → b ≠ dx → H b = some o → H' b = some o) → At H' x n ms → Q .non H'
def spTop : Sp := fun vs H Q _ => ∃ (f b : Addr) (n : Nat) (ms : List Nat) (ws : List Int), vs = [.ref f, .ref b] ∧ At H f n ms ∧ Row K H b (ws.map V.int) ∧ ws.length = n ∧ ∀ H', Same H H' → Q (optV (bestOf ws ms)) H'
end
structure CalX (P : Program) (w : World) (K : PySem.W.Frag) (mg : Str → Option Value) (base : Heap) (k : Nat) (x : Str) (ps : List Str) (sp : Sp) : Prop where
  ex : ∃ (g : Addr) (gd : FuncData), FnOk P w K mg base CX0 k g gd ps sp ∧ Binds K gd ps [] ∧ PySem.W.keepIn K (.ref g) = true ∧ mg x = some (.ref g)
theorem made_same {H H' : Hp} {x dx C : Addr} (hx : H x = none) (hdx : H dx = none) (k : ∀ b o, b ≠ x → b ≠ dx → upd (upd H dx (.own x)) x (.ins C dx []) b = some o → H' b = some o) : Same H H' := fun b o e => by
  have h1 : b ≠ x := ne_of_none e hx
  have h2 : b ≠ dx := ne_of_none e hdx
  refine k b o h1 h2 ?_
  rw [upd_ne h1, upd_ne h2]
  exact e
theorem made_new {H : Hp} {x dx C : Addr} (hx : H x = none) (hdx : H dx = none) : Same H (upd (upd H dx (.own x)) x (.ins C dx [])) := fun b o e => by
  rw [upd_ne (ne_of_none e hx), upd_ne (ne_of_none e hdx)]
  exact e

theorem uniq_of {R : Nat → Nat → Prop} : ∀ {l m : List Nat}, (∀ a b, a ∈ l → b ∈ l → R a b → R b a → a = b) → l.Pairwise R → m.Pairwise R → l.Perm m → l = m
  | [], m, _, _, _, p => (List.Perm.eq_nil p.symm).symm
  | a :: l, [], _, _, _, p => absurd p.length_eq (by simp)
  | a :: l, b :: m, anti, hl, hm, p => by
    obtain ⟨hl1, hl2⟩ := List.pairwise_cons.mp hl
    obtain ⟨hm1, hm2⟩ := List.pairwise_cons.mp hm
    have hb : b ∈ a :: l := p.mem_iff.mpr List.mem_cons_self
    have ha : a ∈ b :: m := p.mem_iff.mp List.mem_cons_self
    have e : a = b := by
      rcases List.mem_cons.mp ha with e | h1
      · exact e
      · rcases List.mem_cons.mp hb with e | h2
        · exact e.symm
        · exact anti a b List.mem_cons_self hb (hl1 b h2) (hm1 a h1)
    subst e
    rw [uniq_of (fun x y hx hy => anti x y (List.mem_cons_of_mem _ hx) (List.mem_cons_of_mem _ hy)) hl2 hm2 p.cons_inv]
theorem lex_tot : ∀ xs ys : List Int, HT.lexLt xs ys = false → HT.lexLt ys xs = false → xs = ys
  | [], [], _, _ => rfl
  | [], y :: ys, h, _ => by rw [HT.lexLt_nil_cons] at h; cases h
  | x :: xs, [], _, h => by rw [HT.lexLt_nil_cons] at h; cases h
  | x :: xs, y :: ys, h1, h2 => by
    rw [HT.lexLt_cons] at h1 h2
    by_cases e : x = y
    · rw [if_pos e] at h1
      rw [if_pos e.symm] at h2
      rw [e, lex_tot xs ys h1 h2]
    · rw [if_neg e] at h1
      rw [if_neg (Ne.symm e)] at h2
      have a := of_decide_eq_false h1
      have b := of_decide_eq_false h2
      omega
theorem lotI_inj {a b n : Nat} (hn : n ≤ 10) (ha : a < 2 ^ n) (hb : b < 2 ^ n) (h : lotI a = lotI b) : a = b := by
  have le : 2 ^ n ≤ 2 ^ 12 := Nat.pow_le_pow_right (by decide) (by omega)
  have e : lotN a 12 = lotN b 12 := List.map_inj_right (fun _ _ q => Int.ofNat.inj q) |>.mp h
  have e2 := congrArg maskN e
  rw [maskN_lotN, maskN_lotN, Nat.mod_eq_of_lt (by omega), Nat.mod_eq_of_lt (by omega)] at e2
  exact e2
theorem order_uniq {n : Nat} {os os' : List Nat} (hn : n ≤ 10) (h : OrderOf n os) (h' : OrderOf n os') : os = os' := by
  have lt : ∀ a ∈ os, a < 2 ^ n := fun a ha => List.mem_range.mp (h.perm.mem_iff.mp ha)
  exact uniq_of (fun a b ha hb h1 h2 => lotI_inj hn (lt a ha) (lt b hb) (lex_tot _ _ h2 h1)) h.srt h'.srt (h.perm.trans h'.perm.symm)

/-! ### what is compared, as data -/
abbrev dLot (m : Nat) : PyData := .tuple ((lotI m).map PyData.int)
def dTold : Option (Nat × Nat × Nat) → PyData
  | none => .none
  | some (x, y, z) => .tuple [dLot x, dLot y, dLot z]
theorem can_ints (l : List Int) : PyData.canLayAll0 (l.map PyData.int) = true := by
  induction l with
  | nil => rfl
  | cons x l ih => simp [PyData.canLayAll0, PyData.canLay0, ih]
theorem depth_ints (l : List Int) : PyData.depthAll (l.map PyData.int) ≤ 1 := by
  induction l with
  | nil => simp [PyData.depthAll]
  | cons x l ih =>
    simp only [List.map_cons, PyData.depthAll, PyData.depth]
    omega
theorem can_lot (m : Nat) : (dLot m).canLay0 = true := by
  simp only [PyData.canLay0]
  exact can_ints _
theorem depth_lot (m : Nat) : (dLot m).depth ≤ 3 := by
  simp only [PyData.depth]
  have := depth_ints (lotI m)
  omega
theorem can_lots (ms : List Nat) : PyData.canLayAll0 (ms.map dLot) = true := by
  induction ms with
  | nil => rfl
  | cons x l ih =>
    rw [List.map_cons]
    simp only [PyData.canLayAll0, ih, can_lot, Bool.and_self]
theorem depth_lots (ms : List Nat) : PyData.depthAll (ms.map dLot) ≤ 3 := by
  induction ms with
  | nil => simp [PyData.depthAll]
  | cons x l ih =>
    rw [List.map_cons]
    simp only [PyData.depthAll]
    have := depth_lot x
    omega
theorem shaped_lots (ms : List Nat) : SeqAt.shaped (.list (ms.map dLot)) = true := by
  unfold SeqAt.shaped
  have := depth_lots ms
  rw [Bool.and_eq_true]
  exact ⟨by simp only [PyData.canLay0]; exact can_lots ms, decide_eq_true (by simp only [PyData.depth]; omega)⟩
theorem shaped_told (o : Option (Nat × Nat × Nat)) : SeqAt.shaped (dTold o) = true := by
  match o with
  | none => rfl
  | some (x, y, z) =>
    have c := can_lots [x, y, z]
    have d := depth_lots [x, y, z]
    show SeqAt.shaped (.tuple ([x, y, z].map dLot)) = true
    unfold SeqAt.shaped
    rw [Bool.and_eq_true]
    exact ⟨by simp only [PyData.canLay0]; exact c, decide_eq_true (by simp only [PyData.depth]; omega)⟩
theorem dp_ints {K : PySem.W.Frag} {H : Hp} : ∀ l : List Int, DpAll K H (l.map V.int) (l.map PyData.int)
  | [] => .nil
  | _ :: l => .cons (.int _) (dp_ints l)
theorem dp_lot {K : PySem.W.Frag} {H : Hp} {p : Addr} {m : Nat} (h : H p = some (.tup (lotV m))) : Dp K H (.ref p) (dLot m) := by
  rw [lotV_eq] at h
  exact .tup (SqT.of h) (dp_ints _)
theorem dp_lots {K : PySem.W.Frag} {H : Hp} : ∀ {xs : List V} {ms : List Nat}, LotsAt H xs ms → DpAll K H xs (ms.map dLot)
  | [], [], _ => .nil
  | v :: vs, m :: ms, h => by
    obtain ⟨⟨p, rfl, h1⟩, h2⟩ := h
    exact .cons (dp_lot h1) (dp_lots h2)
def ToldBy (H : Hp) (o : Option (Nat × Nat × Nat)) (v : V) : Prop :=
  match o with
  | none => v = .non
  | some (x, y, z) => ∃ p q1 q2 q3, v = .ref p ∧ H p = some (.tup [.ref q1, .ref q2, .ref q3]) ∧ H q1 = some (.tup (lotV x)) ∧ H q2 = some (.tup (lotV y)) ∧ H q3 = some (.tup (lotV z))
theorem ToldBy.same {H H' : Hp} {o : Option (Nat × Nat × Nat)} {v : V} (h : ToldBy H o v) (s : Same H H') : ToldBy H' o v := by
  match o, h with
  | none, h => exact h
  | some (x, y, z), ⟨p, q1, q2, q3, e, h0, h1, h2, h3⟩ => exact ⟨p, q1, q2, q3, e, s _ _ h0, s _ _ h1, s _ _ h2, s _ _ h3⟩
theorem ToldBy.keep {H H' : Hp} {a : Addr} {xs : List V} {o : Option (Nat × Nat × Nat)} {v : V} (h : ToldBy H o v) (ha : H a = some (.lst xs)) (k : Kp a H H') : ToldBy H' o v := by
  match o, h with
  | none, h => exact h
  | some (x, y, z), ⟨p, q1, q2, q3, e, h0, h1, h2, h3⟩ => exact ⟨p, q1, q2, q3, e, k _ _ (ne_of h0 ha (by intro z; cases z)) h0, k _ _ (ne_of h1 ha (by intro z; cases z)) h1, k _ _ (ne_of h2 ha (by intro z; cases z)) h2, k _ _ (ne_of h3 ha (by intro z; cases z)) h3⟩
theorem ToldBy.dp {K : PySem.W.Frag} {H : Hp} {o : Option (Nat × Nat × Nat)} {v : V} (h : ToldBy H o v) : Dp K H v (dTold o) := by
  match o, h with
  | none, h =>
    rw [show v = .non from h]
    exact .non
  | some (x, y, z), ⟨p, q1, q2, q3, e, h0, h1, h2, h3⟩ =>
    rw [e]
    exact .tup (SqT.of h0) (.cons (dp_lot h1) (.cons (dp_lot h2) (.cons (dp_lot h3) .nil)))
theorem eqv_same {d : PyData} (h : SeqAt.shaped d = true) : PyData.eqv d d = true := by
  unfold SeqAt.shaped at h
  rw [Bool.and_eq_true] at h
  exact PySem.SeqAt.eqv_refl d h.1
theorem nodup_len : ∀ (N : Nat) (l : List Nat), l.Nodup → (∀ m ∈ l, m < N) → l.length ≤ N
  | 0, l, _, h => by
    cases l with
    | nil => exact Nat.le_refl _
    | cons x l => exact absurd (h x List.mem_cons_self) (Nat.not_lt_zero x)
  | N + 1, l, nd, h => by
    by_cases e : N ∈ l
    · have q := nodup_len N (l.erase N) (nd.erase N) (fun m hm => by
        have := nd.mem_erase_iff.mp hm
        have := h m this.2
        omega)
      rw [List.length_erase_of_mem e] at q
      omega
    · have q := nodup_len N l nd (fun m hm => by
        have h1 := h m hm
        have h2 : m ≠ N := fun z => e (by rw [← z]; exact hm)
        omega)
      omega
theorem LotsAt.keep {H H' : Hp} {a : Addr} {ys : List V} (ha : H a = some (.lst ys)) (k : Kp a H H') : ∀ {vs : List V} {ms : List Nat}, LotsAt H vs ms → LotsAt H' vs ms
  | [], [], h => h
  | v :: vs, m :: ms, h => by
    obtain ⟨⟨p, e, h1⟩, h2⟩ := h
    exact ⟨⟨p, e, k _ _ (ne_of h1 ha (by intro z; cases z)) h1⟩, h2.keep ha k⟩
end Fam

/-! cuts.is_int, cuts.check_number where the number is good. -/
namespace Fam
open PySem L2
abbrev sIsInt : Stmt := top 9
abbrev sCheckNumber : Stmt := top 11
def spIsInt (K : PySem.W.Frag) : Sp := fun vs H Q _ => ∃ v : V, vs = [v] ∧ ((∃ i : Int, v = .int i ∧ Q (.bl true) H) ∨ (∃ b : Bool, v = .bl b ∧ Q (.bl false) H) ∨ (∃ T : String, TyX K H v (.type T) ∧ kitB T "int" = some false ∧ Q (.bl false) H))
/-- an integer within its bounds; none: no bound -/
def spGood : Sp := fun vs H Q _ => ∃ (i : Int) (n lo hi : V), vs = [.int i, n, lo, hi] ∧ (lo = .non ∨ ∃ a : Int, lo = .int a ∧ a ≤ i) ∧ (hi = .non ∨ ∃ b : Int, hi = .int b ∧ i ≤ b) ∧ Q (.int i) H
section
variable {P : Program} {w : World} {K : PySem.W.Frag} {mg : Str → Option Value} {base : Heap} {B : Addr}
theorem scII : FnScope ["value"] ["value"] (defScope sIsInt) := ⟨rfl, rfl, rfl, by decide +kernel, rfl, by decide +kernel, by decide +kernel⟩
theorem ok_is_int {f : Addr} {fd : FuncData} (F : Fun K "is_int" "is_int" sIsInt f fd) (T : Bare mg) : FnOk P w K mg base CX0 1 f fd ["value"] (spIsInt K) := by
  refine F.ok scII (fun vs H Q E h => ?_) (fun cdv A outer s H vs Q E hr h => ?_)
  · obtain ⟨v, rfl, _⟩ := h
    rfl
  · obtain ⟨v, rfl, h⟩ := h
    refine ⟨_, pss_one (ps_ret (pe_and (pe_callB call_isi (by rfl) T.isi (by decide +kernel) (pa_cons (pv 0) (pa_cons (pe_ty (n := "int") (by rfl) T.int (by decide +kernel)) pa_nil)))
      (pe_one (pe_not (pe_callB call_isi (by rfl) T.isi (by decide +kernel) (pa_cons (pv 0) (pa_cons (pe_ty (n := "bool") (by rfl) T.bool (by decide +kernel)) pa_nil))))))), ?_⟩
    rcases h with ⟨i, rfl, k⟩ | ⟨b, rfl, k⟩ | ⟨t, ht, hk, k⟩
    · exact ⟨_, rfl, _, _, _, _, true, rfl, .ty _, .base (.int i), kit_ty (by decide +kernel), _, rfl, iteT ⟨_, rfl, _, _, _, _, false, rfl, .ty _, .base (.int i), kit_ty (by decide +kernel), _, rfl, k⟩⟩
    · exact ⟨_, rfl, _, _, _, _, true, rfl, .ty _, .base (.bl b), kit_ty (by decide +kernel), _, rfl, iteT ⟨_, rfl, _, _, _, _, true, rfl, .ty _, .base (.bl b), kit_ty (by decide +kernel), _, rfl, k⟩⟩
    · exact ⟨_, rfl, _, _, _, _, false, rfl, .ty _, ht, kit_ty hk, _, rfl, iteF k⟩
abbrev nCN : List Str := ["value", "which", "low", "high"]
theorem scCN : FnScope nCN nCN (defScope sCheckNumber) := ⟨rfl, rfl, rfl, by decide +kernel, rfl, by decide +kernel, by decide +kernel⟩
theorem ok_check_number {f : Addr} {fd : FuncData} (F : Fun K "check_number" "check_number" sCheckNumber f fd) (G : Cal P w K mg base 1 "is_int" ["value"] (spIsInt K)) : FnOk P w K mg base CX0 2 f fd nCN spGood := by
  obtain ⟨gi, gid, oki, bi, ki, mi⟩ := G.ex
  refine F.ok scCN (fun vs H Q E h => ?_) (fun cdv A outer s H vs Q E hr h => ?_)
  · obtain ⟨i, n, lo, hi, rfl, _⟩ := h
    rfl
  · obtain ⟨i, n, lo, hi, rfl, hlo, hhi, k⟩ := h
    refine ⟨_, pss_cons (ps_if (pt_not (pt_val (pe_call oki (hr.mono (by decide)) rfl mi ki bi .nil pass0 (pa_cons (pv 0) pa_nil))))
        (pss_one ps_never) pss_nil)
      (pss_cons (ps_if (PW.pt (pw_and (pt_cmpR op_notN (pv 2) pe_non (nomark _)) (pw_and1 (pt_cmpR op_lt (pv 0) (pv 2) (nomark _)))))
        (pss_one ps_never) pss_nil)
      (pss_cons (ps_if (PW.pt (pw_and (pt_cmpR op_notN (pv 3) pe_non (nomark _)) (pw_and1 (pt_cmpR op_gt (pv 0) (pv 3) (nomark _)))))
        (pss_one ps_never) pss_nil)
      (pss_one (ps_ret (pv 0))))), ?_⟩
    refine ⟨_, rfl, _, rfl, .inl ⟨i, rfl, _, rfl, iteF ?_⟩⟩
    rcases hlo with rfl | ⟨a, rfl, ha⟩
    · refine ⟨_, rfl, rfl, _, rfl, iteF ?_⟩
      rcases hhi with rfl | ⟨c, rfl, hc⟩
      · exact ⟨_, rfl, rfl, _, rfl, iteF ⟨_, rfl, k⟩⟩
      · exact ⟨_, rfl, rfl, _, rfl, iteT ⟨_, rfl, _, rfl, _, _, rfl, rfl, _, rfl, ite2 (fun z => absurd (of_decide_eq_true z) (by show ¬ c < i; omega)) (fun _ => ⟨_, rfl, k⟩)⟩⟩
    · refine ⟨_, rfl, rfl, _, rfl, iteT ⟨_, rfl, _, rfl, _, _, rfl, rfl, _, rfl, ite2 (fun z => absurd (of_decide_eq_true z) (by show ¬ i < a; omega)) (fun _ => ?_)⟩⟩
      rcases hhi with rfl | ⟨c, rfl, hc⟩
      · exact ⟨_, rfl, rfl, _, rfl, iteF ⟨_, rfl, k⟩⟩
      · exact ⟨_, rfl, rfl, _, rfl, iteT ⟨_, rfl, _, rfl, _, _, rfl, rfl, _, rfl, ite2 (fun z => absurd (of_decide_eq_true z) (by show ¬ c < i; omega)) (fun _ => ⟨_, rfl, k⟩)⟩⟩
end
end Fam

/-! sorted of a list of tuples of ints: any lengths, any number, the empty one wherever it stands. -/
namespace TSort
open PySem PySem.W PySem.Calls PyProof.Rows Builtin
section
variable {prog : Program} {w : World} {A : Around} {E : Value → Shared → Prop} {s : Shared}
theorem katlex_ints {b : Bool} {Q : Bool → Shared → Prop} : ∀ {vs ws : List Value} {ns ms : List Int} (i : Nat) (fin : Bool), IntsAre vs ns → IntsAre ws ms → fin = decide (ns.length < ms.length) → Q (HT.lexLt ns ms) s → KatLex prog w A b fin Q (vs.zip ws) i s
  | _, _, _, _, i, fin, .nil, .nil, hf, hq => by
    rw [HT.lexLt_nil_nil] at hq
    rw [hf]
    exact kat_nil hq
  | _, _, _, _, i, fin, .nil, .cons y u hw, hf, hq => by
    rw [HT.lexLt_nil_cons] at hq
    rw [hf, decide_eq_true (by show 0 < _ + 1; omega)]
    exact kat_nil hq
  | _, _, _, _, i, fin, .cons x t hv, .nil, hf, hq => by
    rw [HT.lexLt_cons_nil] at hq
    rw [hf, decide_eq_false (by show ¬ _ + 1 < 0; omega)]
    exact kat_nil hq
  | _, _, _, _, i, fin, .cons x t hv, .cons y u hw, hf, hq => by
    rw [HT.lexLt_cons] at hq
    refine kat_cons (SeqAt.EqAt.int_int x t y u prog w _ _ ?_)
    refine kat_go (fun e1 => ?_) (fun e1 => ?_)
    · have ex : x = y := by simpa using e1
      rw [if_pos ex] at hq
      refine kat_yes (katlex_ints (i + 1) fin hv hw ?_ hq)
      rw [hf, decide_eq_decide]
      show _ + 1 < _ + 1 ↔ _
      omega
    · have ex : ¬ x = y := by simpa using e1
      rw [if_neg ex] at hq
      refine kat_no ?_
      cases (b && i == 0) with
      | true => exact oneLt_int hq
      | false => exact kat_one _ _ (PyProof.Rows.lt_int hq)
/-- all of them hold a number -/
theorem cmp_full {vs : List Value} {k : Value → List Int} (hv : ∀ v ∈ vs, IsTI s.heap v (k v)) : SrtO.Cmp prog w A s (tuples' true) (fun p => p.1 ∈ vs) (SrtO.lt2 fun v u => HT.lexLt (k v) (k u)) := by
  intro p q hp hq
  show wpAny (model prog w) A (keyLt' (tuples' true) p.1 q.1) (fun r s' => s' = s ∧ r = HT.lexLt (k p.1) (k q.1)) (fun _ _ => False) s
  obtain ⟨a, dd, items, n, sl, e, ga, ia⟩ := hv _ hp
  obtain ⟨a2, dd2, items2, n2, sl2, e2, ga2, ia2⟩ := hv _ hq
  generalize k p.1 = ns at ia ⊢
  generalize k q.1 = ms at ia2 ⊢
  rw [e, e2]
  refine kat_lt ga rfl ga2 rfl (katlex_ints 0 _ ia ia2 ?_ ⟨rfl, rfl⟩)
  have z1 : items.size = ns.length := by rw [← ia.length]; simp
  have z2 : items2.size = ms.length := by rw [← ia2.length]; simp
  rw [z1, z2]
theorem tups_of {h : Heap} {k : Value → List Int} : ∀ (vs : List Value), (∀ v ∈ vs, IsTI h v (k v)) → (∀ v ∈ vs, k v ≠ []) → ∃ fs : List Value, KatTups h vs fs ∧ fs.length = vs.length ∧ ∀ f ∈ fs, ∃ x t, f = .int x t
  | [], _, _ => ⟨[], .nil, rfl, (fun f hf => by cases hf)⟩
  | v :: vs, hv, hn => by
    obtain ⟨fs, h1, h2, h3⟩ := tups_of vs (fun u hu => hv u (.tail _ hu)) (fun u hu => hn u (.tail _ hu))
    obtain ⟨a, dd, items, n, sl, rfl, ga, ia⟩ := hv v (.head _)
    have ne := hn _ (.head _)
    generalize k (.ref a) = ns at ia ne
    cases hi : items.toList with
    | nil =>
      rw [hi] at ia
      cases ia
      exact absurd rfl ne
    | cons f r =>
      rw [hi] at ia
      have hf : items[0]? = some f := by rw [← Array.getElem?_toList, hi]; rfl
      cases ia with
      | cons x t ir => exact ⟨.int x t :: fs, .cons ga rfl rfl hf h1, by rw [List.length_cons, List.length_cons, h2], fun g hg => (List.mem_cons.mp hg).elim (fun e => ⟨x, t, e⟩) (h3 g)⟩
/-- general kind: each two by < -/
theorem cmp_gen {vs : List Value} {k : Value → List Int} (hu : A.units < cLine) (hv : ∀ v ∈ vs, IsTI s.heap v (k v)) : SrtO.Cmp prog w A s general' (fun p => p.1 ∈ vs) (SrtO.lt2 fun v u => HT.lexLt (k v) (k u)) := by
  intro p q hp hq
  show wpAny (model prog w) A (oneLt' false p.1 q.1) (fun r s' => s' = s ∧ r = HT.lexLt (k p.1) (k q.1)) (fun _ _ => False) s
  obtain ⟨a, dd, items, n, sl, e, ga, ia⟩ := hv _ hp
  obtain ⟨a2, dd2, items2, n2, sl2, e2, ga2, ia2⟩ := hv _ hq
  generalize k p.1 = ns at ia ⊢
  generalize k q.1 = ms at ia2 ⊢
  rw [e, e2]
  exact kat_one _ _ (HT.lt_tupInts ⟨_, ga, rfl, n, rfl⟩ ⟨_, ga2, rfl, n2, rfl⟩ ia ia2 hu ⟨rfl, rfl⟩)
/-- the firsts of all: there where the tuple is not empty -/
theorem firsts_all {M : Model} {k : Value → List Int} : ∀ (vs : List Value), (∀ v ∈ vs, IsTI s.heap v (k v)) → ∃ fs : List (Option Value), fs.map Option.isSome = vs.map (fun v => !(k v).isEmpty) ∧ ∀ (Q : List (Option Value) → Shared → Prop), Q fs s → wpAny M A (vs.mapM firstOfTuple') Q E s
  | [], _ => ⟨[], rfl, (fun Q h => by rw [List.mapM_nil]; exact wpAny_pure h)⟩
  | v :: vs, hv => by
    obtain ⟨fs, hm, hw⟩ := firsts_all vs fun u hu => hv u (.tail _ hu)
    have hv0 := hv v (.head _)
    have ty := hv0.type (M := M)
    obtain ⟨a, dd, items, n, sl, rfl, ga, ia⟩ := hv0
    refine ⟨items[0]? :: fs, ?_, fun Q h => ?_⟩
    · rw [List.map_cons, List.map_cons, hm]
      congr 1
      generalize k (.ref a) = ns at ia
      rw [← Array.getElem?_toList]
      cases hi : items.toList with
      | nil =>
        rw [hi] at ia
        cases ia
        rfl
      | cons f r =>
        rw [hi] at ia
        cases ia
        rfl
    · rw [List.mapM_cons]
      refine wpAny_bind ?_
      rw [kas_first_eq]
      refine wpAny_bind (ty.here ?_)
      rw [if_neg (by first | decide | simp)]
      refine wpAny_bind (listItems_at ga rfl (wpAny_pure ?_))
      exact wpAny_bind (hw (fun bs s' => wpAny M A (pure (items[0]? :: bs)) Q E s') (wpAny_pure h))
theorem gen_kind {M : Model} {v₁ v₂ : Value} {vs : List Value} {k : Value → List Int} {Q : SortKind → Shared → Prop} (hv : ∀ v ∈ v₁ :: v₂ :: vs, IsTI s.heap v (k v)) (h1 : k v₁ ≠ []) (h2 : ∃ v ∈ v₁ :: v₂ :: vs, k v = []) (h : Q general' s) :
    wpAny M A (keyKind' (v₁ :: v₂ :: vs).toArray) Q E s := by
  obtain ⟨fs, hm, hw⟩ := firsts_all (M := M) (A := A) (E := E) (v₁ :: v₂ :: vs) hv
  rw [keyKind'_eq, List.mapM_toArray, map_eq_pure_bind]
  refine wpAny_bind (wpAny_bind (hw _ (wpAny_pure ?_)))
  obtain ⟨f, fr, rfl⟩ : ∃ f fr, fs = f :: fr := by
    cases fs with
    | nil => cases hm
    | cons f fr => exact ⟨f, fr, rfl⟩
  have e1 : f.isSome = true := by
    have q := (List.cons.inj hm).1
    rw [q]
    cases hk : k v₁ with
    | nil => exact absurd hk h1
    | cons x y =>
      show (!(k v₁).isEmpty) = true
      rw [hk]
      rfl
  have e2 : ((f :: fr).toArray.all fun x => x.isSome) = false := by
    rw [List.all_toArray]
    obtain ⟨v, hvm, hk⟩ := h2
    have hmem : false ∈ (f :: fr).map Option.isSome := by
      rw [hm]
      exact List.mem_map.mpr ⟨v, hvm, by rw [hk]; rfl⟩
    obtain ⟨g, hg, eg⟩ := List.mem_map.mp hmem
    exact List.all_eq_false.mpr ⟨g, hg, by rw [eg]; decide⟩
  rw [if_neg (by rw [e2]; decide)]
  have e3 : (((f :: fr).toArray[0]?).bind id).isSome = true := by
    show f.isSome = true
    exact e1
  rw [if_pos e3]
  exact wpAny_pure h
/-- sortable, however the empty ones stand -/
theorem any_sortable {a : Addr} {v₁ v₂ : Value} {vs : List Value} {k : Value → List Int} (hu : A.units < cLine) (hv : ∀ v ∈ v₁ :: v₂ :: vs, IsTI s.heap v (k v)) (ha : ∀ v ∈ v₁ :: v₂ :: vs, v ≠ .ref a) :
    SrtO.SortableO prog w A s a (v₁ :: v₂ :: vs) fun v u => HT.lexLt (k v) (k u) := by
  by_cases h0 : k v₁ = []
  · exact ti_sortable hu hv h0 ha
  · intro h' keep
    have hv' : ∀ v ∈ v₁ :: v₂ :: vs, IsTI h' v (k v) := fun v hm => (hv v hm).keeps fun b o e g => keep b o (fun z => ha v hm (by rw [e, z])) g
    by_cases hn : ∃ v ∈ v₁ :: v₂ :: vs, k v = []
    · exact ⟨general', fun Q E hq => gen_kind (s := { s with heap := h' }) hv' h0 hn hq, cmp_gen (s := { s with heap := h' }) hu hv'⟩
    · obtain ⟨fs, f1, f2, f3⟩ := tups_of (h := h') _ hv' (fun v hm e => hn ⟨v, hm, e⟩)
      refine ⟨tuples' true, fun Q E hq => ?_, cmp_full (s := { s with heap := h' }) hv'⟩
      refine kat_kind (s := { s with heap := h' }) (T := .type "int") f1 (by rw [f2]; exact Nat.succ_pos _) (fun f hm => ?_) (by rfl) ?_
      · obtain ⟨x, t, rfl⟩ := f3 f hm
        exact PySem.W.Looks.now
      · have e : (Value.type "int" != Value.type "tuple") = true := by decide +kernel
        rw [e]
        exact hq
end
end TSort
namespace L2
open PySem PySem.Spec PyProof.Rows
/-- sorted(xs), xs tuples of ints (k says which), of any lengths and any number: a new list, sorted -/
def rSortedTA (K : PySem.W.Frag) : List V → Hp → VK → Prop := fun vs H Q => ∃ (a : Addr) (ts : List Addr) (k : Addr → List Int), vs = [V.ref a] ∧ SqL K H a (ts.map V.ref) ∧ (∀ t ∈ ts, H t = some (.tup ((k t).map V.int))) ∧
  ∀ (ts' : List Addr) (p : Addr), ts'.Perm ts → ts'.Pairwise (fun p q => HT.lexLt (k q) (k p) = false) → H p = none → Q (.ref p) (upd H p (.lst (ts'.map V.ref)))
section
variable {X : Cx}
theorem cr_sortedTA (hu : X.A.units + 64 < cLine) : CallR X (.builtin "sorted") (rSortedTA X.K) := by
  intro pins s σ H vs us Q I r h
  obtain ⟨a, ts, k, rfl, hs, hx, q⟩ := h
  obtain ⟨its, rv, hl, hz⟩ := I.list hs
  obtain ⟨u, rfl, ru⟩ := vals1 r
  obtain rfl : u = Value.ref a := ru
  have ei := nts_of rv
  have hzs : its.length ≤ sizeLine := by rw [← rv.length]; exact hz
  have hv : ∀ u ∈ its, TSort.IsTI s.heap u (k (adO u)) := fun u hm => by
    rw [ei] at hm
    obtain ⟨t, ht, rfl⟩ := List.mem_map.mp hm
    obtain ⟨_, its2, r2, o, ho, hc, n, hd⟩ := I.hok _ _ (hx t ht)
    obtain ⟨cls, dd, data, sl⟩ := o
    simp only at hc hd
    subst hc hd
    exact ⟨t, dd, its2.toArray, n, sl, rfl, ho, intsAre_of r2⟩
  subst ei
  refine SrtO.sorted_ord (NtL.swo_lexL fun u => k (adO u)) hl.isList hzs (fun h2 h₁ b hb kk => ?_) fun out h1 h2 => ?_
  · obtain ⟨v₁, v₂, rest, ev⟩ : ∃ v₁ v₂ rest, ts.map Value.ref = v₁ :: v₂ :: rest := by
      match ts.map Value.ref, h2 with
      | [], h2 => exact absurd h2 (by decide)
      | [_], h2 => exact absurd h2 (by show ¬ 2 ≤ 1; decide)
      | v₁ :: v₂ :: rest, _ => exact ⟨v₁, v₂, rest, rfl⟩
    rw [ev] at hv ⊢
    refine TSort.any_sortable (s := { s with heap := h₁ }) (by show X.A.units + 1 + 1 < cLine; omega) (fun v hm => (hv v hm).keeps fun b o e g => (kk b o g).2) (fun v hm z => ?_)
    obtain ⟨c, dd, items, n, sl, e, g, i⟩ := hv v hm
    rw [e] at z
    exact (kk _ _ g).1 (Value.ref.inj z)
  · have eo : out = (out.map adO).map Value.ref := ref_map fun u hm => by
      obtain ⟨t, _, e⟩ := List.mem_map.mp (h2.perm.mem_iff.mp hm)
      exact ⟨t, e.symm⟩
    have hp : (out.map adO).Perm ts := by
      have p1 := h2.perm.map adO
      rw [ad_map] at p1
      exact p1
    have hs2 : (out.map adO).Pairwise (fun p q => HT.lexLt (k q) (k p) = false) := List.pairwise_map.mpr (h1.imp fun {x y} z => z)
    have rvo : Vals ((out.map adO).map V.ref) out := by
      have z := of_nts (out.map adO)
      rw [← eo] at z
      exact z
    have hd : s.heap.objs.size ≤ s.heap.objs.size + 1 := Nat.le_succ _
    obtain ⟨n, hn⟩ := sortedAll_at s.heap (ts.map Value.ref) out.toArray
    refine ⟨.ref _, upd H (s.heap.objs.size + 1) (.lst ((out.map adO).map V.ref)), I.laid (t' := s.toks) (fun b o e => sortedAll_old e) hd ⟨?_, out, n, rvo, hn⟩, rfl, q _ _ hp hs2 (I.hok.fresh hd)⟩
    rw [List.length_map, hp.length_eq]
    rw [List.length_map] at hz
    exact hz
end
end L2

/-! for x in o, o an object of a class whose __iter__ returns iter(self.f), f a tuple. -/
namespace OwnX
open PySem PySem.Spec PyProof.Rows L2 ItX
abbrev tItObj (t : Addr) : Obj := { cls := .type "tuple_iterator", data := .fields #[.ref t, .int 0 0] }
/-- the iterator at it over the tuple at t, nothing taken yet -/
def ItT (t it : Addr) : HO := .ext fun h => h.get? it = some (tItObj t)
theorem itT_ok {P : Program} {w : World} {H : Hp} {h : Heap} {t it : Addr} (e : h.get? it = some (tItObj t)) : ObjOk P w H h it (ItT t it) := ⟨e, ⟨_, e⟩, fun h1 h2 q k => k _ q⟩
/-- iter(t): a new object, younger than the def's entry -/
def rIterT (K : PySem.W.Frag) (n : Nat) : List V → Hp → VK → Prop := fun xs H Q => ∃ (l : Addr) (zs : List V), xs = [.ref l] ∧ SqT K H l zs ∧ ∀ it, H it = Option.none → n ≤ it → Q (.ref it) (upd H it (ItT l it))
theorem call_iterT {X : Cx} : CallR X (.builtin "iter") (rIterT X.K X.s_0.heap.objs.size) := by
  intro pins s σ H xs us Q I r h
  obtain ⟨l, zs, rfl, hq, q⟩ := h
  obtain ⟨u, rfl, ru⟩ := vals1 r
  cases ru
  obtain ⟨its, rv, pl, hz⟩ := I.tuple hq
  refine Calls.call_function_entry (by decide +kernel) (by decide +kernel) PySem.W.kdk_entry_iter (PySem.W.kdk_args_iter _) (?_ : wpAny _ _ (Builtin.«iter» ⟨[.ref l], []⟩) _ _ _)
  unfold Builtin.«iter»
  refine wpAny_bind (m := someArgs "iter" 1 2 _) (wpAny_of_eq (a := [Value.ref l]) (by first | rfl | kernel_rfl!) ?_); show wpAny _ _ (pyIter (.ref l) >>= fun _ => _) _ _ _
  refine wpAny_bind (wpAny_pyIter_tuple (show s.heap.IsTuple l its.toArray from pl) (wpAny_pure ⟨_, rfl, ?_⟩))
  exact ⟨.ref s.heap.objs.size, _, I.laid (t' := s.toks) (fun b u e => Heap.get?_push_of_some _ e) (Nat.le_refl _) (itT_ok (Heap.get?_push_size _ rfl)), rfl, q _ (I.hok.fresh (Nat.le_refl _)) I.sz⟩

/-- a def whose promise speaks of the heap's size at the call -/
theorem fn_sized {CX : CXT} {P : Program} {w : World} {K : PySem.W.Frag} {mg : Str → Option Value} {base : Heap} {k : Nat} {x qual : Str} {st : Stmt} {f : Addr} {fd : FuncData} {N ps : List Str} {sp : Nat → Sp} (F : Fun K x qual st f fd) (S : FnScope N ps (defScope st)) (len : ∀ n vs H Q E, sp n vs H Q E → vs.length = ps.length)
    (body : ∀ (cdv : Value) (A : Around) (outer : List Env) (s : Shared) (H : Hp) (vs : List V) (Q : VK) (E : XK), Room k (A.deeper (envOfC qual (defScope st) s.heap.objs.size f cdv)) → sp s.heap.objs.size vs H Q E →
      ∃ t, PSs (cxOf CX P w K mg base N qual (defScope st) f cdv A outer s H E) (defBody st) t ∧ t { nx := fun _ H' => Q .non H', rt := Q } (start N vs) H)
    {A : Around} {outer : List Env} {s : Shared} {H : Hp} {args : Args} {us : List Value} {vs : List V} {Q : VK} {E : XK} (hr : Room (k + 1) A) (e0 : Env0 P w K mg base A outer s H) (hb : BindsTo s fd args (ps.zip us)) (r : Vals vs us) (hsp : sp s.heap.objs.size vs H Q E) :
    codeAny (model P w) A (.call (.ref f) args) (CR CX outer P w H s Q E) s := by
  obtain ⟨oc, od, kV, doc, pm, an, cdv, ct, osl, rfl, lk, hcd⟩ := F.ex
  have hl := len _ _ _ _ _ hsp
  have KX : K.In s.heap := e0.mod.kin.keeps (fun b o e => (e0.bs b o e).1)
  have lim : s.heap.NoLimit := e0.mod.nolimit.keeps (fun b o e => (e0.bs b o e).1)
  have kinds : ∀ y ∈ ps.zip us, (defScope st).names.lookup y.1 = some .local ∨ ((defScope st).names.lookup y.1 = some .cell ∧ ((cellsFrom (s.heap.objs.size + 1) (defScope st).names []).lookup y.1).isSome = true) := by
    rintro ⟨n, v⟩ hy
    rcases S.par n (List.of_mem_zip hy).1 with q | q
    · exact .inl q
    · exact .inr ⟨q, PySem.W.cellsFrom_some _ _ _ (.inl q)⟩
  refine codeAny_call_function hr.depth (KX _ _ lk) rfl S.co S.gen rfl (PySem.W.codeRec_of KX hcd) (hb _ _ _ _ (wpAny_newFunctionEnv_cells S.kind kinds fun env he s1 x => ?_))
  subst he; refine ⟨lim.keeps x.toInCall.keep, codeAny_func ?_⟩
  obtain ⟨t, ht, hq⟩ := body cdv A outer s H vs Q E (hr.deeper _) hsp
  refine wpAny_mono (ht.run [] s1 (start N vs) H _ (inv_start S hr.hd e0 hl r x) hq) (fun fl s' hs => ?_) (fun e s' hs => hs)
  cases fl with
  | ret u => exact (let ⟨v, _, H', J, rv, q⟩ := hs; ⟨v, H', J.os, J.bare, J.base, J.hok, rv, q⟩)
  | next => exact (let ⟨_, H', J, q⟩ := hs; ⟨V.non, H', J.os, J.bare, J.base, J.hok, rfl, q⟩)
  | brk => exact (let ⟨_, _, _, q⟩ := hs; q.elim)
  | cont => exact (let ⟨_, _, _, q⟩ := hs; q.elim)
end OwnX

namespace OwnX
open PySem PySem.Spec PyProof.Rows L2 ItX Fam
abbrev sFamIter : Stmt := inClass (top 36) 4
theorem scFI : FnScope ["self"] ["self"] (defScope sFamIter) := ⟨rfl, rfl, rfl, by decide +kernel, rfl, by decide +kernel, by decide +kernel⟩
/-- a class whose __iter__ at f gives iter(self.lots) -/
structure OwnIt (P : Program) (w : World) (K : PySem.W.Frag) (mg : Str → Option Value) (base : Heap) (C f : Addr) (fl : Str) : Prop where
  find : PySem.W.findIn K (.ref C) "__iter__" = some (some (.ref f))
  fn : PySem.W.isFn K (.ref f) = true
  run : ∀ (A : Around) (outer : List Env) (s : Shared) (H : Hp) (x dx l : Addr) (fs : List (Str × V)) (xs : List V) (Q : VK), Room 1 A → Env0 P w K mg base A outer s H → H x = some (.ins C dx fs) → fs.lookup fl = some (.ref l) → SqT K H l xs →
    (∀ it, H it = Option.none → s.heap.objs.size ≤ it → Q (.ref it) (upd H it (ItT l it))) → codeAny (model P w) A (.call (.ref f) ⟨[.ref x], []⟩) (CR L2.CX0 outer P w H s Q L2.E0) s
theorem fam_iter {P : Program} {w : World} {K : PySem.W.Frag} {mg : Str → Option Value} {base : Heap} {C f : Addr} {fd : FuncData} (F : Fun K "__iter__" "Family.__iter__" sFamIter f fd) (mi : mg "iter" = Option.none) (c : Cls K C) (n : NoAttr K C "lots")
    (find : PySem.W.findIn K (.ref C) "__iter__" = some (some (.ref f))) (fn : PySem.W.isFn K (.ref f) = true) : OwnIt P w K mg base C f "lots" := by
  refine ⟨find, fn, fun A outer s H x dx l fs xs Q hr e0 hx hl hq k => ?_⟩
  have b : BindsTo s fd ⟨[.ref x], []⟩ ((["self"] : List Str).zip [Value.ref x]) := F.binds (ps := ["self"]) (fun _ _ _ _ _ _ us hl => match us, hl with | [_], _ => rfl) s [Value.ref x] (e0.mod.kin.keeps (fun b o e => (e0.bs b o e).1)) rfl
  refine fn_sized (k := 0) (sp := fun n vs H Q _ => ∃ (x dx l : Addr) (fs : List (Str × V)) (xs : List V), vs = [.ref x] ∧ H x = some (.ins C dx fs) ∧ fs.lookup ("lots" : Str) = some (.ref l) ∧ SqT K H l xs ∧ ∀ it, H it = Option.none → n ≤ it → Q (.ref it) (upd H it (ItT l it)))
    F scFI ?_ ?_ hr e0 b (show Vals [V.ref x] [Value.ref x] from .cons rfl .nil) ⟨x, dx, l, fs, xs, rfl, hx, hl, hq, k⟩
  · rintro n vs H Q E ⟨x, _, _, _, _, rfl, _⟩
    rfl
  · rintro cdv A outer s H vs Q E hr ⟨x, dx, l, fs, xs, rfl, hx, hl, hq, k⟩
    refine ⟨_, pss_one (ps_ret (pe_callB call_iterT (by rfl) mi (by decide +kernel) (pa_cons (pe_fld (pv 0) rfl) pa_nil))), ?_⟩
    exact ⟨_, rfl, x, C, dx, fs, _, rfl, hx, c, n, hl, l, xs, rfl, hq, fun it h1 h2 => k it h1 h2⟩
/-- for v in e, e such an object -/
def iOwn (K : PySem.W.Frag) (C : Addr) (fl : Str) (tl : TE) : TI := fun σ H R => tl σ H fun x H1 => ∃ (a dx l : Addr) (fs : List (Str × V)), x = .ref a ∧ H1 a = some (.ins C dx fs) ∧ fs.lookup fl = some (.ref l) ∧ (∃ xs, SqT K H1 l xs) ∧ R (Itt K l) H1
theorem pi_own {X : Cx} {tg e : Expr} {te : TE} {C f : Addr} {fl : Str} (O : OwnIt X.prog X.w X.K X.mg X.base C f fl) (hr : Room 1 X.A) (he : PE X e te) : PI X tg e (iOwn X.K C fl te) := by
  refine ⟨fun pins s σ H R I h => ?_⟩
  refine thn (he.run pins s σ H _ I h) fun v s1 ⟨x, H1, I1, r1, q1⟩ => ?_
  obtain ⟨a, dx, l, fs, e, ha, hfl, ⟨xs, hq⟩, q⟩ := q1
  subst e
  cases r1
  obtain ⟨mA, J, _⟩ := ins_get I1.hok ha
  obtain ⟨od, J, _⟩ := J.look
  obtain ⟨m, hF⟩ := I1.fr
  refine PySem.W.owit_iter hF I1.ok.mod.kin J O.find O.fn ?_
  refine wpAny_call (codeAny_mono (O.run X.A X.stack s1 H1 a dx l fs xs (fun v H' => ∃ it, v = .ref it ∧ s1.heap.objs.size ≤ it ∧ H1 it = Option.none ∧ H' = upd H1 it (ItT l it)) hr I1.env0 ha hfl hq fun it h1 h2 => ⟨it, rfl, h2, h1, rfl⟩) fun r s' hr' => ?_)
  cases r with
  | error e => exact False.elim hr'
  | ok fl' =>
    cases fl' with
    | next => exact False.elim hr'
    | brk => exact False.elim hr'
    | cont => exact False.elim hr'
    | ret u =>
      obtain ⟨v, H', I', rv, it, rfl, hsz, hn, rfl⟩ := I1.after hr'
      cases rv
      have hu : (upd H1 it (ItT l it)) it = some (.ext fun h => h.get? it = some (tItObj l)) := upd_same
      have hi : s'.heap.get? it = some (tItObj l) := (I'.hok it _ hu).1
      have hT : s'.TypeIs (.ref it) "tuple_iterator" := ⟨_, hi, rfl⟩
      show wpAny _ _ (specialOf (.ref it) "__next__") _ _ _
      refine wpAny_specialOf hT F.slot_tuple_iterator_next.lookup ?_
      have I2 := inv_drop I' hu
      have hf := inv_fp I' hu (Nat.le_trans I1.sz hsz)
      rw [dropH_upd hn] at I2 hf
      refine ⟨it, [it], _, _, H1, rfl, I2, turn_tuple l it, ⟨_, hi, rfl, rfl⟩, fun b hb => ?_, q⟩
      have e : b = it := by simpa using hb
      rw [e]
      exact hf
end OwnX

/-! max(xs, default=None) of a list of ints. -/
namespace MaxD
open PySem PySem.Spec PyProof.Rows L2
abbrev kwD : List (Str × Value) := [(Str.ofString "default", .none)]
theorem ok_args (a : Value) : argsOk "max" ⟨[a], kwD⟩ := by unfold argsOk; kernel_rfl
theorem loop_name : (toString "max" ++ toString ".loop" : String) = "max.loop" := by decide
section
variable {prog : Program} {w : World} {A : Around} {R : Result → Shared → Prop} {I S : Addr} {fp wr : List Addr} {n : Nat} {P : Nat → Value → Prop} {St : Nat → Heap → Prop}
/-- the pair of the best item so far -/
abbrev two (v : Value) (c : Nat) : Obj := { cls := .type "list", dict := none, data := .seq #[v, v] c, slots := #[] }

theorem rest_loop (W : Walks prog w A.in1 I fp wr n P St) (gt : Nat → Nat → Bool) (G : CmpOf prog w A.in1 .Gt P gt) (hS : S ∉ fp)
    (k : Nat) : ∀ (j : Nat) (s : Shared) (b : Value) (c : Nat), n - (j + 1) = k → j + 1 ≤ n → St (j + 1) s.heap → P (argBest gt j) b → s.heap.get? S = some (two b c) →
    (∀ v h' tk, P (argBest gt (n - 1)) v → (∀ x o, x ∉ wr → x ≠ S → s.heap.get? x = some o → h'.get? x = some o) → R (.ok (.ret v)) { s with heap := h', toks := tk }) →
      codeAny (model prog w) A (.builtin "max.loop" ⟨[.ref I, .none, .ref S], kwD⟩) R s := by
  have hw : S ∉ wr := fun h => hS (W.sub _ h)
  induction k with
  | zero =>
    intro j s b c hk hj hst hb hs hR
    have e : j + 1 = n := by omega
    refine codeAny_builtin F.entry_max_loop ?_; rw [Around.under_plainId F.plain_max_loop _]
    show wpAny _ A.in1 (seqItems? (.ref S) >>= fun _ => _) _ _ s
    refine wpAny_bind (wpAny_seqItems hs rfl ?_); show wpAny _ A.in1 (tryCatch (pyNext (.ref I)) _ >>= fun _ => _) _ _ s
    refine wpAny_bind (wpAny_tryCatch (W.done s _ _ (e ▸ hst) fun h' tk hk' => ?_)); have hs' := hk' S _ hw hs
    show wpAny _ A.in1 (updateSeq S (fun _ => #[]) >>= fun _ => _) _ _ _
    refine wpAny_bind (wpAny_updateSeq hs' rfl (wpAny_bind (wpAny_letGo (wpAny_pure ?_))))
    exact hR b _ tk (by rw [← e]; exact hb) fun x o hx hxS q => (Heap.get?_update_other _ _ (Ne.symm hxS)).trans (hk' x o hx q)
  | succ k ih =>
    intro j s b c hk hj hst hb hs hR
    have lt : j + 1 < n := by omega
    refine codeAny_builtin F.entry_max_loop ?_; rw [Around.under_plainId F.plain_max_loop _]
    show wpAny _ A.in1 (seqItems? (.ref S) >>= fun _ => _) _ _ s
    refine wpAny_bind (wpAny_seqItems hs rfl ?_); show wpAny _ A.in1 (tryCatch (pyNext (.ref I)) _ >>= fun _ => _) _ _ s
    refine wpAny_bind (wpAny_tryCatch (W.item (j + 1) s _ _ lt hst fun v h' tk hv hst' hk' => ?_)); have hs' := hk' S _ hw hs
    show wpAny _ A.in1 (tryCatch (holding [v, v] (richCompare .Gt v b >>= fun _ => _)) _ >>= fun _ => _) _ _ _
    refine wpAny_bind (wpAny_tryCatch (wpAny_holding (wpAny_bind (G (j + 1) (argBest gt j) v b _ _ _ hv hb ?_)))); refine wpAny_bind (wpAny_holding (wpAny_truthy_bool ?_))
    refine wpAny_bind (wpAny_letGo (wpAny_pure ?_)); cases hb2 : gt (j + 1) (argBest gt j) with
    | true =>
      simp only [if_true]
      refine wpAny_bind (wpAny_updateSeq hs' rfl (wpAny_bind (wpAny_letGo ?_))); rw [loop_name]
      refine wpAny_pure ⟨plainId_quiet F.plain_max_loop _, ih (j + 1) _ v _ (by omega) lt (W.frame _ _ _ hst' fun x hx o q => ?_) (by simp only [argBest, hb2, if_true]; exact hv) (Heap.get?_update_self _ hs' rfl) fun v' h2 t2 hv' hk2 => ?_⟩
      · exact (Heap.get?_update_other _ _ (fun z : S = x => hS (by rw [z]; exact hx))).trans q
      · exact hR v' h2 t2 hv' fun x o hx hxS q => hk2 x o hx hxS ((Heap.get?_update_other _ _ (Ne.symm hxS)).trans (hk' x o hx q))
    | false =>
      simp only [Bool.false_eq_true, if_false]
      refine wpAny_bind (wpAny_letGo ?_); rw [loop_name]
      refine wpAny_pure ⟨plainId_quiet F.plain_max_loop _, ih (j + 1) _ b c (by omega) lt hst' (by simp only [argBest, hb2, Bool.false_eq_true, if_false]; exact hb) hs' fun v' h2 t2 hv' hk2 => ?_⟩
      exact hR v' h2 t2 hv' fun x o hx hxS q => hk2 x o hx hxS (hk' x o hx q)

/-- from the empty list: the first item, or the default -/
theorem first_loop (W : Walks prog w A.in1 I fp wr n P St) (gt : Nat → Nat → Bool) (G : CmpOf prog w A.in1 .Gt P gt) (hS : S ∉ fp) {s : Shared} {c : Nat} (hst : St 0 s.heap) (hs : s.heap.get? S = some { cls := .type "list", dict := none, data := .seq #[] c, slots := #[] })
    (hR : ∀ v h' tk, ((n = 0 ∧ v = .none) ∨ (0 < n ∧ P (argBest gt (n - 1)) v)) → (∀ x o, x ∉ wr → x ≠ S → s.heap.get? x = some o → h'.get? x = some o) → R (.ok (.ret v)) { s with heap := h', toks := tk }) :
      codeAny (model prog w) A (.builtin "max.loop" ⟨[.ref I, .none, .ref S], kwD⟩) R s := by
  have hw : S ∉ wr := fun h => hS (W.sub _ h)
  refine codeAny_builtin F.entry_max_loop ?_; rw [Around.under_plainId F.plain_max_loop _]
  show wpAny _ A.in1 (seqItems? (.ref S) >>= fun _ => _) _ _ s
  refine wpAny_bind (wpAny_seqItems hs rfl ?_); show wpAny _ A.in1 (tryCatch (pyNext (.ref I)) _ >>= fun _ => _) _ _ s
  by_cases hn : n = 0
  · refine wpAny_bind (wpAny_tryCatch (W.done s _ _ (hn ▸ hst) fun h' tk hk' => ?_))
    show wpAny _ A.in1 (rule _ >>= fun _ => _) _ _ _
    refine wpAny_bind (wpAny_rule (wpAny_pure ?_))
    exact hR .none h' tk (.inl ⟨hn, rfl⟩) fun x o hx _ q => hk' x o hx q
  · have lt : 0 < n := by omega
    refine wpAny_bind (wpAny_tryCatch (W.item 0 s _ _ lt hst fun v h' tk hv hst' hk' => ?_)); have hs' := hk' S _ hw hs
    show wpAny _ A.in1 (updateSeq S (fun _ => #[v, v]) >>= fun _ => _) _ _ _
    refine wpAny_bind (wpAny_updateSeq hs' rfl ?_); rw [loop_name]
    refine wpAny_pure ⟨plainId_quiet F.plain_max_loop _, rest_loop W gt G hS _ 0 _ v _ rfl lt (W.frame _ _ _ hst' fun x hx o q => ?_) hv (Heap.get?_update_self _ hs' rfl) fun v' h2 t2 hv' hk2 => ?_⟩
    · exact (Heap.get?_update_other _ _ (fun z : S = x => hS (by rw [z]; exact hx))).trans q
    · exact hR v' h2 t2 (.inr ⟨lt, hv'⟩) fun x o hx hxS q => hk2 x o hx hxS ((Heap.get?_update_other _ _ (Ne.symm hxS)).trans (hk' x o hx q))
end
section
variable {prog : Program} {w : World} {A : Around} {E : Value → Shared → Prop} {s : Shared} {l : Addr} {xs : Array (Int × Tok)}
theorem call_maxD {Q : Value → Shared → Prop} (hh : A.handled = none) (hl : s.heap.IsList l (intItems xs))
    (h : ∀ v h' tk, ((xs.size = 0 ∧ v = .none) ∨ (0 < xs.size ∧ (intItems xs)[argBest (fun i j => decide (numAt xs i > numAt xs j)) (xs.size - 1)]? = some v)) → (∀ b o, s.heap.get? b = some o → h'.get? b = some o) → Q v { s with heap := h', toks := tk }) :
    wpAny (model prog w) A (call (.builtin "max") [.ref l] kwD) Q E s := by
  refine wpAny_call (codeAny_call_builtin F.plain_max F.entry_max ?_)
  have hc : wpAny (model prog w) A.in1 (Builtin.«max» ⟨[.ref l], kwD⟩) (fun fin s' => match fin with
      | .done f => (match (Except.ok f : Result) with | .ok (.ret v) => Q v s' | .ok _ => False | .error e => E e s')
      | .again c' => c'.quiet = true ∧ codeAny (model prog w) A c' (fun r s' => match r with | .ok (.ret v) => Q v s' | .ok _ => False | .error e => E e s') s') E s := by
    show wpAny _ A.in1 (Builtin.Builtins.bindParams "max" ["key", "default"] 0 ⟨[], kwD⟩ >>= fun _ => _) _ _ s
    refine wpAny_bind (wpAny_of_eq (show Builtin.Builtins.bindParams "max" ["key", "default"] 0 ⟨[], kwD⟩ = pure [none, some .none] from by first | rfl | kernel_rfl) ?_)
    refine wpAny_bind (wpAny_pure ?_)
    refine wpAny_bind (iter_intList hl fun s₂ e st hfp hlI => ?_)
    subst e
    refine wpAny_bind (wpAny_newObj_type ?_)
    rw [loop_name]
    have hS : (s.heap.push { cls := .type "list_iterator", data := .fields #[.ref l, .int 0 0] }).objs.size ∉ [s.heap.objs.size, l] := fun hm => Nat.lt_irrefl _ (hfp _ hm)
    refine wpAny_pure ⟨plainId_quiet F.plain_max_loop _, ?_⟩
    refine first_loop (A := A) (Walks.list (A := A.in1) hh _ l hlI (intItems xs)) _ (CmpOf.ints_gt (numAt xs) (fun _ _ => intItems_at)) hS ?_ (Heap.get?_push_size _ rfl) fun v h' tk hv hk => ?_
    · exact (Walks.list (A := A.in1) (prog := prog) (w := w) hh _ l hlI (intItems xs)).frame _ _ _ st fun b _ o q => Heap.get?_push_of_some _ q
    · refine h v h' tk (by simpa [intItems] using hv) fun b o q => ?_
      have lt := Heap.lt_size q
      refine hk b o (fun hm => ?_) (fun z => ?_) (Heap.get?_push_of_some _ (Heap.get?_push_of_some _ q))
      · rcases List.mem_cons.mp hm with z | z
        · exact absurd (z ▸ lt) (Nat.lt_irrefl _)
        · cases z
      · rw [z, Heap.size_push] at lt
        exact absurd (Nat.lt_of_succ_lt lt) (Nat.lt_irrefl _)
  simp only [checkBuiltinCall, F.kind_max]
  cases hsig : Manifest.signature? "max" with
  | none => exact wpAny_pure hc
  | some sig =>
    have ha' : Bind.checkArgs "max" sig ⟨[.ref l], kwD⟩ = pure () := by simpa only [argsOk, hsig] using ok_args (.ref l)
    simp only [ha']
    exact wpAny_pure hc
end
/-- max(xs, default=None) -/
def rMaxD (K : PySem.W.Frag) : List V → List V → Hp → VK → Prop := fun vs zs H Q => ∃ (a : Addr) (ns : List Int), vs = [V.ref a] ∧ zs = [.non] ∧ SqL K H a (ns.map V.int) ∧
  ((ns = [] ∧ Q .non H) ∨ (ns ≠ [] ∧ ∀ M : Int, M ∈ ns → (∀ a, a ∈ ns → a ≤ M) → Q (.int M) H))
theorem cr_maxD {X : Cx} (hc : X.calm = true) : CallRK X (.builtin "max") [Str.ofString "default"] (rMaxD X.K) := by
  intro pins s σ H vs zs us ws Q I r rz h
  obtain ⟨a, ns, rfl, rfl, hs, q⟩ := h
  obtain ⟨its, rv, hl, _⟩ := I.list hs
  obtain rfl := Vals.ref1 r
  obtain ⟨w1, rfl, e1⟩ := vals1 rz
  obtain rfl : w1 = Value.none := e1
  have hi := rv.ints
  obtain ⟨xs, e⟩ := hi.allInts.items
  have hn : numsOf (intItems xs).toList = ns := by rw [← e]; exact hi.numsOf
  rw [nums_intItems] at hn
  subst hn
  have hl2 := hl.isList
  rw [e] at hl2
  refine call_maxD (I.ok.hd hc) hl2 fun v h' tk hv hk => ?_
  have J : Inv X pins σ H { s with heap := h', toks := tk } := I.kept hk
  rcases hv with ⟨h0, rfl⟩ | ⟨h0, hv⟩
  · rcases q with ⟨_, q⟩ | ⟨ne, _⟩
    · exact ⟨.non, H, J, rfl, q⟩
    · refine absurd ?_ ne
      rw [Array.size_eq_zero_iff] at h0
      rw [h0]
      rfl
  · obtain ⟨t, rfl⟩ := intItems_at hv
    obtain ⟨h1, h2⟩ := argBest_gt (numAt xs) (xs.size - 1)
    rcases q with ⟨e0, _⟩ | ⟨_, q⟩
    · have z := congrArg List.length e0
      rw [List.length_map, Array.length_toList] at z
      exact absurd h0 (by rw [z]; exact Nat.lt_irrefl _)
    · refine ⟨.int _, H, J, ⟨_, rfl⟩, q _ ?_ fun a ha => ?_⟩
      · rw [numAt_eq]; exact PySem.getD_mem (by rw [List.length_map, Array.length_toList]; omega)
      · obtain ⟨j, hj, rfl⟩ := mem_getD ha
        rw [List.length_map, Array.length_toList] at hj
        rw [← numAt_eq]; exact h2 j (by omega)
end MaxD

/-! The program's small defs: numbers, masks, lots. -/
namespace Fam
open PySem L2
open C8 (pss_cut tCut)
abbrev sIsBetween : Stmt := top 10
abbrev sLotOf : Stmt := top 13
abbrev sMaskOf : Stmt := top 15
abbrev sLotOfMask : Stmt := top 16
abbrev sAllOf : Stmt := top 33
/-- more built-in names that the top leaves as they are -/
structure Bare2 (mg : Str → Option Value) : Prop where
  set : mg "set" = none
  iter : mg "iter" = none
  max : mg "max" = none
  sum : mg "sum" = none
  any : mg "any" = none
  all : mg "all" = none
  enumerate : mg "enumerate" = none
  str : mg "str" = none

/-! ### masks and lots by numbers -/
theorem or_pow {a n : Nat} (h : a < 2 ^ n) : a ||| 2 ^ n = a + 2 ^ n := by
  have e := Nat.two_pow_add_eq_or_of_lt h 1
  rw [Nat.mul_one] at e
  rw [Nat.or_comm, ← e, Nat.add_comm]
theorem fold_lot (m : Nat) : ∀ n, (lotN m n).foldl (fun a x => a ||| 2 ^ x) 0 = m % 2 ^ n
  | 0 => by rw [Nat.pow_zero, Nat.mod_one]; rfl
  | n + 1 => by
    have hlt : m % 2 ^ n < 2 ^ n := Nat.mod_lt _ (Nat.pow_pos (by decide))
    rw [Nat.mod_pow_succ]
    by_cases h : m / 2 ^ n % 2 = 1
    · rw [lotN_yes h, List.foldl_append, fold_lot m n, h, Nat.mul_one]
      exact or_pow hlt
    · have h0 : m / 2 ^ n % 2 = 0 := by omega
      rw [lotN_no h, fold_lot m n, h0, Nat.mul_zero, Nat.add_zero]
theorem lotN_more {m n : Nat} (h : m < 2 ^ n) : ∀ k, lotN m (n + k) = lotN m n
  | 0 => rfl
  | k + 1 => by
    have e : m / 2 ^ (n + k) = 0 := Nat.div_eq_of_lt (Nat.lt_of_lt_of_le h (Nat.pow_le_pow_right (by decide) (Nat.le_add_right _ _)))
    show lotN m (n + k + 1) = _
    rw [lotN_no (by rw [e]; decide), lotN_more h k]
theorem lotN_top {m n : Nat} (h : m < 2 ^ n) (hn : n ≤ 12) : lotN m 12 = lotN m n := by
  have e := lotN_more h (12 - n)
  rwa [show n + (12 - n) = 12 by omega] at e
theorem lotN_asc (m : Nat) : ∀ n, (lotN m n).Pairwise (· < ·)
  | 0 => List.Pairwise.nil
  | n + 1 => by
    by_cases h : m / 2 ^ n % 2 = 1
    · rw [lotN_yes h]
      refine List.pairwise_append.mpr ⟨lotN_asc m n, List.pairwise_singleton _ _, fun a ha b hb => ?_⟩
      rw [List.mem_singleton.mp hb]
      exact lotN_lt m n a ha
    · rw [lotN_no h]
      exact lotN_asc m n
theorem ty_lst {K : PySem.W.Frag} {H : Hp} {a : Addr} {xs : List V} (h : SqL K H a xs) : TyX K H (.ref a) (.type "list") := by
  rcases h with (h | ⟨o, h⟩) | ⟨o, _, _, h, c, _⟩
  · exact .base (.lst h)
  · exact .base (.frz h)
  · exact .kList h c
theorem any_lst {K : PySem.W.Frag} : PySem.W.kitAny K (.type "list") [.type "list", .type "tuple"] = some true := kitAny_cons (b := true) (kit_ty (by decide +kernel)) (fun z => nomatch z) fun _ => rfl
theorem any_tup {K : PySem.W.Frag} : PySem.W.kitAny K (.type "tuple") [.type "list", .type "tuple"] = some true := kitAny_cons (b := false) (kit_ty (by decide +kernel)) (fun _ => kitAny_cons (b := true) (kit_ty (by decide +kernel)) (fun z => nomatch z) fun _ => rfl) (fun z => nomatch z)
/-- isinstance(x, (list, tuple)) of a row -/
theorem isi_row {K : PySem.W.Frag} {H : Hp} {a : Addr} {xs : List V} (h : Row K H a xs) : ∃ ty, TyX K H (.ref a) ty ∧ PySem.W.kitAny K ty [.type "list", .type "tuple"] = some true := by
  rcases h with h | h
  · exact ⟨_, ty_lst h, any_lst⟩
  · exact ⟨_, ty_tup h, any_tup⟩
/-- the truth of an int -/
def tInt (ta : TE) : TT := fun σ H Q => ta σ H fun x H' => ∃ i : Int, x = .int i ∧ Q (i != 0) H'
theorem pt_int {X : Cx} {a : Expr} {ta : TE} (ha : PE X a ta) (he : ∀ whole, isTrue a X.env whole = (do let v ← whole; standAt a.pos; holding [v] (truthy v))) : PT X a (tInt ta) := by
  refine ⟨fun pins s σ H Q I h => PyProof.Rows.isTrue_plain (thn (ha.run pins s σ H _ I h) fun v s1 ⟨x, H1, I1, r1, q1⟩ => ?_) (he _)⟩
  obtain ⟨i, rfl, q⟩ := q1
  exact tru_ok pins s1 σ H1 _ v Q I1 r1 ⟨_, rfl, q⟩

def spBetween : Sp := fun vs H Q _ => ∃ i lo hi : Int, vs = [.int i, .int lo, .int hi] ∧ lo ≤ i ∧ i ≤ hi ∧ Q (.bl true) H
def spAreInts (K : PySem.W.Frag) : Sp := fun vs H Q _ => ∃ (b : Addr) (ws : List Int), vs = [.ref b, vInt ws.length] ∧ Row K H b (ws.map V.int) ∧ ws.length ≤ 100 ∧ ∀ H', Same H H' → Q (.bl true) H'
def spMaskOf : Sp := fun vs H Q _ => ∃ (p : Addr) (m : Nat), vs = [.ref p] ∧ H p = some (.tup (lotV m)) ∧ m < 2 ^ 12 ∧ Q (vInt m) H
def spLotOfMask : Sp := fun vs H Q _ => ∃ m n : Nat, vs = [vInt m, vInt n] ∧ m < 2 ^ n ∧ n ≤ 10 ∧ ∀ (H' : Hp) (p : Addr), Same H H' → H p = none → H' p = some (.tup (lotV m)) → Q (.ref p) H'
def spLotOf : Sp := fun vs H Q _ => ∃ (p : Addr) (m n : Nat), vs = [.ref p, vInt n] ∧ H p = some (.tup (lotV m)) ∧ m < 2 ^ n ∧ n ≤ 10 ∧ ∀ (H' : Hp) (q : Addr), Same H H' → H q = none → H' q = some (.tup (lotV m)) → Q (.ref q) H'
def spWeightOf (K : PySem.W.Frag) : Sp := fun vs H Q _ => ∃ (p b : Addr) (m : Nat) (ws : List Int), vs = [.ref p, .ref b] ∧ H p = some (.tup (lotV m)) ∧ Row K H b (ws.map V.int) ∧ m < 2 ^ ws.length ∧ ws.length ≤ 10 ∧ ∀ H', Same H H' → Q (.int (wsum m ws)) H'

section
variable {P : Program} {w : World} {K : PySem.W.Frag} {mg : Str → Option Value} {base : Heap} {B : Addr}
theorem scIB : FnScope ["value", "low", "high"] ["value", "low", "high"] (defScope sIsBetween) := ⟨rfl, rfl, rfl, by decide +kernel, rfl, by decide +kernel, by decide +kernel⟩
theorem ok_between {f : Addr} {fd : FuncData} (F : Fun K "is_between" "is_between" sIsBetween f fd) (G : Cal P w K mg base 1 "is_int" ["value"] (spIsInt K)) : FnOk P w K mg base CX0 2 f fd ["value", "low", "high"] spBetween := by
  obtain ⟨g, gd, ok, b, kp, mf⟩ := G.ex
  refine F.ok scIB (fun vs H Q E h => ?_) (fun cdv A outer s H vs Q E hr h => ?_)
  · obtain ⟨i, lo, hi, rfl, _⟩ := h
    rfl
  · obtain ⟨i, lo, hi, rfl, h1, h2, k⟩ := h
    refine ⟨_, pss_one (ps_ret (pe_and (pe_call ok hr rfl mf kp b .nil pass0 (pa_cons (pv 0) pa_nil)) (pe_one (pe_chain op_le op_le (pv 1) (pv 0) (pv 2))))), ?_⟩
    refine ⟨_, rfl, _, rfl, .inl ⟨i, rfl, _, rfl, iteT ⟨_, rfl, _, rfl, _, _, rfl, rfl, _, rfl, ?_⟩⟩⟩
    refine ite2 (fun _ => ⟨_, rfl, _, _, rfl, rfl, ?_⟩) (fun z => absurd (decide_eq_true h1) z)
    show Q (.bl (decide (i ≤ hi))) H
    rw [decide_eq_true h2]
    exact k
theorem scMO : FnScope ["lot", "mask", "place"] ["lot"] (defScope sMaskOf) := ⟨rfl, rfl, rfl, by decide +kernel, rfl, by decide +kernel, by decide +kernel⟩
theorem ok_mask_of {f : Addr} {fd : FuncData} (F : Fun K "mask_of" "mask_of" sMaskOf f fd) : FnOk P w K mg base CX0 1 f fd ["lot"] spMaskOf := by
  refine F.ok scMO (fun vs H Q E h => ?_) (fun cdv A outer s H vs Q E hr h => ?_)
  · obtain ⟨p, m, rfl, _⟩ := h
    rfl
  · obtain ⟨p, m, rfl, hp, hm, k⟩ := h
    refine ⟨_, pss_cons (ps_set (i := 1) scMO.nd rfl (Or.inl rfl) pe_int)
      (pss_cons (ps_for PassesOwn.never rfl (pi_tup (pv 0)) (pg_name (i := 2) scMO.nd rfl (Or.inl rfl)) (pss_one (ps_set (i := 1) scMO.nd rfl (Or.inl rfl) (pe_op op_or (pv 1) (pe_op op_shl pe_int (pv 2))))))
      (pss_one (ps_ret (pv 1)))), ?_⟩
    refine ⟨_, rfl, p, rfl, ⟨_, SqT.of hp⟩, for_tup (K := K) (a := p) (xs := lotV m) (fun i σ H' => H' = H ∧ ∃ y2, σ = [some (.ref p), some (vInt (((lotN m 12).take i).foldl (fun a x => a ||| 2 ^ x) 0)), y2]) ⟨rfl, none, rfl⟩ ?_ ?_ ?_⟩
    · rintro i σ H' _ ⟨rfl, _⟩
      exact SqT.of hp
    · rintro i x σ H' hx ⟨rfl, y2, rfl⟩
      obtain ⟨hi, rfl⟩ := item hx
      have h12 := lotN_lt m 12 _ (List.getElem_mem hi)
      refine ⟨_, rfl, _, rfl, _, _, rfl, rfl, ⟨by omega, by omega, by decide⟩, _, _, rfl, rfl, rfl, some (vInt ((lotN m 12)[i])), ?_⟩
      have e : (1 : Int) * 2 ^ ((((lotN m 12)[i] : Nat) : Int)).toNat = ((2 ^ (lotN m 12)[i] : Nat) : Int) := by
        rw [Int.toNat_natCast, Int.one_mul, Int.natCast_pow]
        rfl
      show [some (V.ref p), some (V.int (Builtin.bitOr _ ((1 : Int) * 2 ^ ((((lotN m 12)[i] : Nat) : Int)).toNat))), _] = _
      rw [e, bitOr_nat, List.take_add_one, List.getElem?_eq_getElem hi, List.foldl_append]
      rfl
    · rintro σ H' ⟨rfl, y2, rfl⟩
      refine ⟨_, rfl, ?_⟩
      rw [List.length_map, List.take_length, fold_lot, Nat.mod_eq_of_lt hm]
      exact k

abbrev nLM : List Str := ["mask", "size", "place"]
theorem scLM : FnScope nLM ["mask", "size"] (defScope sLotOfMask) := ⟨rfl, rfl, rfl, by decide +kernel, rfl, by decide +kernel, by decide +kernel⟩
theorem ok_lot_of_mask {f : Addr} {fd : FuncData} (F : Fun K "lot_of_mask" "lot_of_mask" sLotOfMask f fd) (T : Bare mg) : FnOk P w K mg base CX0 1 f fd ["mask", "size"] spLotOfMask := by
  refine F.ok scLM (fun vs H Q E h => ?_) (fun cdv A outer s H vs Q E hr h => ?_)
  · obtain ⟨m, n, rfl, _⟩ := h
    rfl
  · obtain ⟨m, n, rfl, hm, hn, k⟩ := h
    refine ⟨_, pss_one (ps_ret (pe_tupleOf rfl T.tuple (pe_lc (own := [("place", 2)]) (g := gName 2) rfl scLM.nd (pi_range1 rfl T.range (pa_cons (pv 1) pa_nil)) (blkOk_by (own := [("place", 2)]) (N := nLM) (sc := defScope sLotOfMask) (by decide +kernel)) (fun _ _ _ _ _ => pg_name (i := 2) scLM.nd rfl (Or.inl rfl))
      (fun _ _ _ _ _ => pts_one (pt_int (pe_op op_and (pe_op op_shr (pv 0) (pv 2)) pe_int) (by intro _; rfl))) (fun _ _ _ _ _ => pv 2)))), ?_⟩
    refine ⟨_, rfl, _, rfl, by omega, by omega, fun D hD => ?_⟩
    refine lc_range (lo := 0) (n := n) (fun i H' => Same H H' ∧ H' D = some (.lst ((lotN m i).map vInt))) ⟨same_new hD, upd_same⟩ ?_ ?_
    · rintro i H1 hi ⟨sm, hT⟩
      have e : Builtin.bitAnd ((m : Int) / 2 ^ ((0 + (i : Int))).toNat) 1 = ((m / 2 ^ i % 2 : Nat) : Int) := by
        have e1 : ((m : Int) / 2 ^ ((0 + (i : Int))).toNat) = ((m / 2 ^ i : Nat) : Int) := by
          rw [Int.zero_add, Int.toNat_natCast, Int.natCast_ediv, Int.natCast_pow]
          rfl
        rw [e1, show (1 : Int) = ((1 : Nat) : Int) from rfl, bitAnd_nat, Nat.and_one_is_mod]
      refine ⟨rfl, _, rfl, _, rfl, _, _, rfl, rfl, (by omega), _, _, rfl, rfl, _, rfl, ?_⟩
      rw [e]
      by_cases h : m / 2 ^ i % 2 = 1
      · rw [h]
        refine iteT ⟨_, rfl, _, hT, ?_, same_upd sm hD, ?_⟩
        · have := lotN_len m i
          rw [List.length_map]
          exact below (m := 100) (by omega)
        · rw [upd_same, lotN_yes h, List.map_append, Int.zero_add]
          rfl
      · have h0 : m / 2 ^ i % 2 = 0 := by omega
        rw [h0]
        refine iteF ⟨sm, ?_⟩
        rw [lotN_no h]
        exact hT
    · rintro H1 ⟨sm, hT⟩
      refine .inl ⟨D, _, rfl, SqL.of hT, fun q hq => k _ q (fun b o e => ?_) (sm.free hq) ?_⟩
      · rw [upd_ne (ne_of_none (sm _ _ e) hq)]
        exact sm _ _ e
      · rw [upd_same, ← lotN_top hm (by omega)]
end
end Fam

/-! all_lots_of, weight_of, lot_of. -/
namespace Fam
open PySem L2
open C8 (pss_cut tCut)
theorem sum_lot (m : Nat) (ws : List Int) : ∀ n, ((lotN m n).map fun x => ws.getD x 0).sum = wsN m ws n
  | 0 => rfl
  | n + 1 => by
    by_cases h : m / 2 ^ n % 2 = 1
    · rw [lotN_yes h, wsN_yes h, List.map_append, List.sum_append, sum_lot m ws n]
      show _ + (ws.getD n 0 + 0) = _
      rw [Int.add_zero]
    · rw [lotN_no h, wsN_no h, sum_lot m ws n]
theorem lot_lt {m n : Nat} (hm : m < 2 ^ n) (hn : n ≤ 12) : ∀ x ∈ lotN m 12, x < n := fun x hx => lotN_lt m n x (by rw [← lotN_top hm hn]; exact hx)
/-- ascending lists with the same members are one -/
theorem asc_uniq : ∀ {l m : List Int}, l.Pairwise (· < ·) → m.Pairwise (· < ·) → (∀ k, k ∈ l ↔ k ∈ m) → l = m
  | [], [], _, _, _ => rfl
  | [], b :: m, _, _, h => by cases (h b).mpr List.mem_cons_self
  | a :: l, [], _, _, h => by cases (h a).mp List.mem_cons_self
  | a :: l, b :: m, h1, h2, h => by
    obtain ⟨q1, p1⟩ := List.pairwise_cons.mp h1
    obtain ⟨q2, p2⟩ := List.pairwise_cons.mp h2
    have e : a = b := by
      rcases List.mem_cons.mp ((h a).mp List.mem_cons_self) with e | e
      · exact e
      · rcases List.mem_cons.mp ((h b).mpr List.mem_cons_self) with z | z
        · exact z.symm
        · have := q2 a e
          have := q1 b z
          omega
    subst e
    rw [asc_uniq p1 p2 fun k => ⟨fun hk => ?_, fun hk => ?_⟩]
    · rcases List.mem_cons.mp ((h k).mp (List.mem_cons_of_mem _ hk)) with z | z
      · have := q1 k hk
        omega
      · exact z
    · rcases List.mem_cons.mp ((h k).mpr (List.mem_cons_of_mem _ hk)) with z | z
      · have := q2 k hk
        omega
      · exact z
theorem lotI_asc (m : Nat) : (lotI m).Pairwise (· < ·) := by
  unfold lotI
  refine List.pairwise_map.mpr ((lotN_asc m 12).imp fun {a b} h => Int.ofNat_lt.mpr h)

/-! ### set(t) of a tuple of ints -/
def rSetI (K : PySem.W.Frag) (w : World) : List V → Hp → VK → Prop := fun xs H Q => ∃ (p : Addr) (ns : List Int), xs = [.ref p] ∧ SqT K H p (ns.map V.int) ∧ ns.length ≤ 1000 ∧ ∀ (q : Addr) (c : Nat), H q = none → c ≤ ns.length → Q (.ref q) (upd H q (SetO w q (fun j => decide (j ∈ ns)) c))
theorem cr_setI {X : Cx} (hc : X.calm = true) : CallR X (.type "set") (rSetI X.K X.w) := by
  intro pins s σ H xs us Q I r h
  obtain ⟨p, ns, rfl, hq, hl, q⟩ := h
  obtain ⟨its, rv, pt, hz⟩ := I.tuple hq
  rw [Vals.ref1 r]
  refine call_set_tupI ns (I.ok.hd hc) (show s.heap.IsTuple p its.toArray from pt) (ints_of_vals rv) (by unfold scanBound; omega) fun h' tk c R hcn k => ?_
  exact ⟨.ref _, upd H s.heap.objs.size (SetO X.w s.heap.objs.size (fun j => decide (j ∈ ns)) c), I.laid (t' := tk) (fun b u e => k b u e) (Nat.le_refl _) (setO_new R), rfl, q _ c (I.hok.fresh (Nat.le_refl _)) hcn⟩

section
variable {P : Program} {w : World} {K : PySem.W.Frag} {mg : Str → Option Value} {base : Heap} {B : Addr}
abbrev nAO : List Str := ["size", "mask"]
theorem scAO : FnScope nAO ["size"] (defScope sAllOf) := ⟨rfl, rfl, rfl, by decide +kernel, rfl, by decide +kernel, by decide +kernel⟩
theorem ok_all_of {f : Addr} {fd : FuncData} (F : Fun K "all_lots_of" "all_lots_of" sAllOf f fd) (T : Bare mg) (GL : Cal P w K mg base 1 "lot_of_mask" ["mask", "size"] spLotOfMask) : FnOk P w K mg base CX0 2 f fd ["size"] spAllLots := by
  obtain ⟨gl, gld, okl, bl, kl, ml⟩ := GL.ex
  refine F.ok scAO (fun vs H Q E h => ?_) (fun cdv A outer s H vs Q E hr h => ?_)
  · obtain ⟨n, rfl, _⟩ := h
    rfl
  · obtain ⟨n, rfl, h1, h2, k⟩ := h
    have h10 := pow_le10 h2
    refine ⟨_, pss_one (ps_ret (pe_callB (cr_sortedTA hr.units) (by rfl) T.sorted (by decide +kernel) (pa_cons (pe_lc (own := [("mask", 1)]) (g := gName 1) (tt := tYes) rfl scAO.nd
      (pi_range1 rfl T.range (pa_cons (pe_op op_shl pe_int (pv 0)) pa_nil)) (blkOk_by (own := [("mask", 1)]) (N := nAO) (sc := defScope sAllOf) (by decide +kernel)) (fun _ _ _ _ _ => pg_name (i := 1) scAO.nd rfl (Or.inl rfl)) (fun _ _ _ _ _ => pts_nil)
      (fun _ _ _ _ _ => pe_call okl hr rfl ml kl bl .nil pass0 (pa_cons (pv 1) (pa_cons (pv 0) pa_nil)))) pa_nil))), ?_⟩
    have e : (1 : Int) * 2 ^ ((n : Int)).toNat = ((2 ^ n : Nat) : Int) := by
      rw [Int.toNat_natCast, Int.one_mul, Int.natCast_pow]
      rfl
    refine ⟨_, rfl, _, _, rfl, rfl, ⟨by omega, by omega, by decide⟩, ((2 ^ n : Nat) : Int), congrArg (fun z => [V.int z]) e, Int.le_trans (by decide) (Int.natCast_nonneg _), Int.lt_of_le_of_lt (Int.ofNat_le.mpr h10) (by decide), fun D hD => ?_⟩
    refine lc_range (lo := 0) (n := 2 ^ n) (fun i H' => Same H H' ∧ ∃ xs, H' D = some (.lst xs) ∧ LotsAt H' xs (List.range i)) ⟨same_new hD, [], upd_same, trivial⟩ ?_ ?_
    · rintro i H1 hi ⟨sm, xs, hT, hL⟩
      refine ⟨rfl, _, rfl, _, rfl, i, n, by rw [Int.zero_add]; rfl, hi, h2, fun H2 p s2 hp ht => ?_⟩
      refine ⟨_, s2 _ _ hT, ?_, same_upd (sm.trans s2) hD, _, upd_same, ?_⟩
      · rw [hL.len, List.length_range]
        exact below (m := 100000) (by omega)
      · rw [List.range_succ]
        exact ((hL.same s2).add ht).upd (s2 _ _ hT)
    · rintro H1 ⟨sm, xs, hT, hL⟩
      obtain ⟨ts, rfl⟩ := hL.refs
      refine ⟨D, ts, kOf H1, rfl, SqL.of hT, fun t ht => ?_, fun ts' p hp hs hpn => ?_⟩
      · obtain ⟨m, _, hm⟩ := (LotsAt.mem hL).2 t ht
        rw [kOf_lot hm, ← lotV_eq]
        exact hm
      · obtain ⟨ms', pm, hL'⟩ := LotsAt.perm hp.symm hL
        exact k _ p ms' _ ⟨pm.symm, LotsAt.srt hL' hs⟩ (sm.trans (same_new hpn)) (sm.free hpn) upd_same (hL'.same (same_new hpn))

abbrev nLF : List Str := ["value", "size", "place", "lot"]
theorem scLF : FnScope nLF ["value", "size"] (defScope sLotOf) := ⟨rfl, rfl, rfl, by decide +kernel, rfl, by decide +kernel, by decide +kernel⟩
theorem ok_lot_of {f : Addr} {fd : FuncData} (F : Fun K "lot_of" "lot_of" sLotOf f fd) (T : Bare mg) (T2 : Bare2 mg) (GB : Cal P w K mg base 2 "is_between" ["value", "low", "high"] spBetween) : FnOk P w K mg base CX0 3 f fd ["value", "size"] spLotOf := by
  obtain ⟨gb, gbd, okb, bb, kb, mb⟩ := GB.ex
  refine F.ok scLF (fun vs H Q E h => ?_) (fun cdv A outer s H vs Q E hr h => ?_)
  · obtain ⟨p, m, n, rfl, _⟩ := h
    rfl
  · obtain ⟨p, m, n, rfl, hp, hm, hn, k⟩ := h
    refine ⟨_, pss_cons (ps_if (pt_not (pt_val (pe_callB call_isiT (by rfl) T.isi (by decide +kernel) (pa_cons (pv 0) (pa_cons (pe_tup (pa_cons (pe_ty (n := "list") (by rfl) T.list (by decide +kernel)) (pa_cons (pe_ty (n := "tuple") (by rfl) T.tuple (by decide +kernel)) pa_nil))) pa_nil))))) (pss_one ps_never) pss_nil)
      (pss_cons (ps_for PassesOwn.never rfl (pi_tup (pv 0)) (pg_name (i := 2) scLF.nd rfl (Or.inl rfl))
        (pss_one (ps_if (pt_not (pt_val (pe_call okb hr rfl mb kb bb .nil pass0 (pa_cons (pv 2) (pa_cons pe_int (pa_cons (pe_op op_sub (pv 1) pe_int) pa_nil)))))) (pss_one ps_never) pss_nil)))
      (pss_cons (ps_set (i := 3) scLF.nd rfl (Or.inl rfl) (pe_tupleOf rfl T.tuple (pe_callB (cr_sortedSet rfl) (by rfl) T.sorted (by decide +kernel) (pa_cons (pe_callTy (cr_setI rfl) (by rfl) T2.set (by decide +kernel) (pa_cons (pv 0) pa_nil)) pa_nil))))
      (pss_cons (ps_if (pt_cmpR op_ne (pe_callB call_len_seq (by rfl) T.len PySem.boot_len (pa_cons (pv 3) pa_nil)) (pe_callB call_len_seq (by rfl) T.len PySem.boot_len (pa_cons (pv 0) pa_nil)) (nomark _)) (pss_one ps_never) pss_nil)
      (pss_one (ps_ret (pv 3)))))), ?_⟩
    refine ⟨_, rfl, (by show 2 ≤ sizeLine; exact small (m := 2) (Nat.le_refl _)), fun t ht => ?_⟩
    have s1 : Same H (upd H t (.tup [.ty "list", .ty "tuple"])) := same_new ht
    refine ⟨_, t, _, _, _, true, rfl, upd_same, .cons (.ty _) (.cons (.ty _) .nil), ty_tup (SqT.of (s1 _ _ hp)), any_tup, _, rfl, iteF ?_⟩
    have top := lotN_top hm (by omega)
    refine ⟨_, rfl, p, rfl, ⟨_, SqT.of (s1 _ _ hp)⟩, for_tup (K := K) (a := p) (xs := lotV m) (fun i σ H' => Same H H' ∧ ∃ y2, σ = [some (.ref p), some (vInt n), y2, none]) ⟨s1, none, rfl⟩ (fun i σ H' _ h => SqT.of (h.1 _ _ hp)) ?_ ?_⟩
    · rintro i x σ H1 hx ⟨sm, y2, rfl⟩
      obtain ⟨hi, rfl⟩ := item hx
      have hlt := lot_lt hm (by omega) _ (List.getElem_mem hi)
      refine ⟨_, rfl, _, rfl, _, _, rfl, rfl, _, _, _, rfl, by omega, by omega, _, rfl, iteF ⟨sm, _, rfl⟩⟩
    · rintro σ H1 ⟨sm, y2, rfl⟩
      have hp1 := sm _ _ hp
      have hlen := lotN_len m 12
      have eI := lotV_eq m
      refine ⟨_, rfl, p, lotI m, rfl, by rw [← eI]; exact SqT.of hp1, by rw [List.length_map]; omega, fun q c hq hc => ?_⟩
      rw [List.length_map] at hc
      refine ⟨q, _, c, rfl, upd_same, by omega, fun ns r h1 h2 h3 hr' => .inl ⟨r, _, rfl, SqL.of upd_same, fun u hu => ?_⟩⟩
      have e : ns = lotI m := asc_uniq h1 (lotI_asc m) fun k => by rw [h2 k, decide_eq_true_eq]
      subst e
      have s2 : Same H1 (upd (upd (upd H1 q _) r _) u (.tup ((lotI m).map V.int))) := ((same_new hq).trans (same_new hr')).trans (same_new hu)
      refine ⟨_, rfl, u, _, rfl, .inr (SqT.of upd_same), _, rfl, p, _, rfl, .inr (SqT.of (s2 _ _ hp1)), rfl, _, rfl, ?_⟩
      refine iteNS (by rw [eI]) ⟨_, rfl, k _ u (sm.trans s2) ?_ (by rw [eI]; exact upd_same)⟩
      exact sm.free (((same_new hq).trans (same_new hr')).free hu)
end
end Fam

/-! Family: what stands in the heap, __init__, check_weights, top_weight. -/
namespace Fam
open PySem L2
open C8 (pss_cut tCut)
abbrev sFInit : Stmt := inClass (top 36) 1
abbrev sCheckW : Stmt := inClass (top 36) 11
abbrev sTopW : Stmt := inClass (top 36) 12
theorem lk_same {f : Str} {v : V} {fs : List (Str × V)} : (putF f v fs).lookup f = some v := by rw [lookup_putF, if_pos rfl]
theorem lk_ne {f g : Str} {v : V} {fs : List (Str × V)} (h : g ≠ f) : (putF f v fs).lookup g = fs.lookup g := by rw [lookup_putF, if_neg h]
theorem putF_len (f : Str) (v : V) : ∀ fs : List (Str × V), (putF f v fs).length ≤ fs.length + 1
  | [] => Nat.le_refl _
  | (g, x) :: r => by
    unfold putF
    split
    · exact Nat.le_succ _
    · exact Nat.succ_le_succ (putF_len f v r)
/-- the dict of the masks -/
def mK (ms : List Nat) : List (Key × V) := ms.map fun (m : Nat) => ((Sum.inl (m : Int) : Key), V.bl true)
theorem valV_mK (x : Nat) : ∀ ms : List Nat, valV (mK ms) (Sum.inl (x : Int) : Key) = if x ∈ ms then some (.bl true) else none
  | [] => rfl
  | m :: ms => by
    show valV (((Sum.inl (m : Int) : Key), V.bl true) :: mK ms) _ = _
    by_cases h : m = x
    · subst h
      rw [valV_pos rfl, if_pos List.mem_cons_self]
    · rw [valV_neg (fun z => h (Int.ofNat.inj (Sum.inl.inj z))), valV_mK x ms]
      by_cases q : x ∈ ms
      · rw [if_pos q, if_pos (List.mem_cons_of_mem _ q)]
      · rw [if_neg q, if_neg (fun z => (List.mem_cons.mp z).elim (fun e => h e.symm) q)]
theorem some_mK (x : Nat) (ms : List Nat) : (valV (mK ms) (Sum.inl (x : Int) : Key)).isSome = decide (x ∈ ms) := by
  rw [valV_mK]
  by_cases q : x ∈ ms
  · rw [if_pos q, decide_eq_true q]
    rfl
  · rw [if_neg q, decide_eq_false q]
    rfl
theorem mK_snoc (ms : List Nat) (m : Nat) (h : m ∉ ms) : putK (mK ms) (Sum.inl (m : Int) : Key) (.bl true) = mK (ms ++ [m]) := by
  rw [putK_new (V.bl true) (by rw [valV_mK, if_neg h])]
  unfold mK
  rw [List.map_append]
  rfl
def NoM (fs : List (Str × V)) : Prop := ∀ g : Str, g ≠ "size" → g ≠ "lots" → g ≠ "masks" → fs.lookup g = none
/-- a family of n places with the masks ms stands at f -/
structure FAt (C : Addr) (H : Hp) (f : Addr) (n : Nat) (ms : List Nat) : Prop where
  ex : ∃ (dx l d : Addr) (fs : List (Str × V)) (ts : List V) (ms0 : List Nat), H f = some (.ins C dx fs) ∧ fs.lookup ("size" : Str) = some (vInt n) ∧ fs.lookup ("lots" : Str) = some (.ref l) ∧ fs.lookup ("masks" : Str) = some (.ref d) ∧
    fs.lookup ("top_weight" : Str) = none ∧ NoM fs ∧ H l = some (.tup ts) ∧ LotsAt H ts ms0 ∧ ms0.Perm ms ∧ ms0.Pairwise lotLe ∧ H d = some (.dK (mK ms0))
  ms : Masks n ms
  h1 : 1 ≤ n
  h2 : n ≤ 10
theorem LotsAt.tups {H H' : Hp} (k : ∀ p xs, H p = some (.tup xs) → H' p = some (.tup xs)) : ∀ {vs : List V} {ms : List Nat}, LotsAt H vs ms → LotsAt H' vs ms
  | [], [], h => h
  | v :: vs, m :: ms, h => by
    obtain ⟨⟨p, e, h1⟩, h2⟩ := h
    exact ⟨⟨p, e, k _ _ h1⟩, h2.tups k⟩
theorem FAt.same {C : Addr} {H H' : Hp} {f : Addr} {n : Nat} {ms : List Nat} (h : FAt C H f n ms) (s : Same H H') : FAt C H' f n ms := by
  obtain ⟨⟨dx, l, d, fs, ts, ms0, a1, a2, a3, a4, a5, a6, a7, a8, a9, a10, a11⟩, h1, h2, h3⟩ := h
  exact ⟨⟨dx, l, d, fs, ts, ms0, s _ _ a1, a2, a3, a4, a5, a6, s _ _ a7, a8.same s, a9, a10, s _ _ a11⟩, h1, h2, h3⟩
theorem FAt.keep {C : Addr} {H H' : Hp} {a f : Addr} {n : Nat} {ms : List Nat} {xs : List V} (h : FAt C H f n ms) (ha : H a = some (.lst xs)) (k : Kp a H H') : FAt C H' f n ms := by
  obtain ⟨⟨dx, l, d, fs, ts, ms0, a1, a2, a3, a4, a5, a6, a7, a8, a9, a10, a11⟩, h1, h2, h3⟩ := h
  exact ⟨⟨dx, l, d, fs, ts, ms0, k _ _ (ne_of a1 ha (by intro z; cases z)) a1, a2, a3, a4, a5, a6, k _ _ (ne_of a7 ha (by intro z; cases z)) a7, a8.keep ha k, a9, a10, k _ _ (ne_of a11 ha (by intro z; cases z)) a11⟩, h1, h2, h3⟩
theorem FAt.perm {C : Addr} {H : Hp} {f : Addr} {n : Nat} {ms ms' : List Nat} (h : FAt C H f n ms) (p : ms.Perm ms') : FAt C H f n ms' := by
  obtain ⟨⟨dx, l, d, fs, ts, ms0, a1, a2, a3, a4, a5, a6, a7, a8, a9, a10, a11⟩, h1, h2, h3⟩ := h
  exact ⟨⟨dx, l, d, fs, ts, ms0, a1, a2, a3, a4, a5, a6, a7, a8, a9.trans p, a10, a11⟩, ⟨fun m hm => h1.lt m (p.mem_iff.mpr hm), p.nodup_iff.mp h1.nd⟩, h2, h3⟩
/-- the class Family -/
structure FamC (K : PySem.W.Frag) (C : Addr) : Prop where
  cl : Cls K C
  size : NoAttr K C "size"
  lots : NoAttr K C "lots"
  masks : NoAttr K C "masks"
def spCheckW (K : PySem.W.Frag) (C : Addr) : Sp := fun vs H Q _ => ∃ (f b : Addr) (n : Nat) (ms : List Nat) (ws : List Int), vs = [.ref f, .ref b] ∧ FAt C H f n ms ∧ Row K H b (ws.map V.int) ∧ ws.length = n ∧ ∀ H', Same H H' → Q .non H'

section
variable {P : Program} {w : World} {K : PySem.W.Frag} {mg : Str → Option Value} {base : Heap} {C : Addr}
abbrev nFI : List Str := ["self", "size", "lots", "told", "lot"]
theorem scFIn : FnScope nFI ["self", "size", "lots"] (defScope sFInit) := ⟨rfl, rfl, rfl, by decide +kernel, rfl, by decide +kernel, by decide +kernel⟩
theorem ok_fam_init {f : Addr} {fd : FuncData} (F : Fun K "__init__" "Family.__init__" sFInit f fd) (T : Bare mg) (T2 : Bare2 mg) (FC : FamC K C) (mp : ∃ t, mg "MOST_PLACES" = some (.int 10 t)) {qs : Addr}
    (GC : Cal P w K mg base 2 "check_number" ["value", "which", "low", "high"] spGood) (GL : Cal P w K mg base 3 "lot_of" ["value", "size"] spLotOf) (GM : Cal P w K mg base 1 "mask_of" ["lot"] spMaskOf) :
    FnOk P w K mg base CX0 4 f fd ["self", "size", "lots"] (spInit K C (FAt C)) := by
  obtain ⟨gc, gcd, okc, bc, kc, mc⟩ := GC.ex
  obtain ⟨gl, gld, okl, bl, kl, ml⟩ := GL.ex
  obtain ⟨gm, gmd, okm, bm, km, mm⟩ := GM.ex
  obtain ⟨tm, mp⟩ := mp
  refine F.ok scFIn (fun vs H Q E h => ?_) (fun cdv A outer s H vs Q E hr h => ?_)
  · obtain ⟨x, dx, a, n, xs, ms, rfl, _⟩ := h
    rfl
  · obtain ⟨x, dx, a, n, xs, ms, rfl, hx, hdx, hS, hL, h1, h2, hms, k⟩ := h
    have hr1 := hr.mono (j := 1) (by decide)
    refine ⟨_, pss_cons (ps_expr (pe_call okc (hr.mono (by decide)) rfl mc kc bc .nil pass0 (pa_cons (pv 1) (pa_cons pe_str (pa_cons pe_int (pa_cons (pe_glob (v := .int 10) rfl mp ⟨_, rfl⟩) pa_nil))))))
      (pss_cons (ps_if (pt_not (pt_val (pe_callB call_isiT (by rfl) T.isi (by decide +kernel) (pa_cons (pv 2) (pa_cons (pe_tup (pa_cons (pe_ty (n := "list") (by rfl) T.list (by decide +kernel)) (pa_cons (pe_ty (n := "tuple") (by rfl) T.tuple (by decide +kernel)) pa_nil))) pa_nil))))) (pss_one ps_never) pss_nil)
      (pss_cons (ps_setLc (i := 3) (own := [("lot", 4)]) (g := gName 4) (tt := tYes) (by rfl) scFIn.nd rfl rfl (sw_true rfl rfl rfl (by decide +kernel)) (pi_row (pv 2)) (blkOk_by (own := [("lot", 4)]) (N := nFI) (sc := defScope sFInit) (by decide +kernel)) (fun _ _ _ _ _ => pg_name (i := 4) scFIn.nd rfl (Or.inl rfl))
          (fun _ _ _ _ _ => pts_nil) (fun _ _ _ _ _ => pe_call okl hr rfl ml kl bl .nil pass0 (pa_cons (pv 4) (pa_cons (pv 1) pa_nil))))
      (pss_cons (ps_fld (pv 0) (pv 1) rfl)
      (pss_cons (ps_fld (pv 0) (pe_tupleOf rfl T.tuple (pe_callB (cr_sortedTA hr.units) (by rfl) T.sorted (by decide +kernel) (pa_cons (pv 3) pa_nil))) rfl)
      (pss_cons (ps_fld (pv 0) (pe_dc (own := [("lot", 4)]) (g := gName 4) (tt := tYes) rfl scFIn.nd (pi_tup (pe_fld (pv 0) rfl)) (blkOk_by (own := [("lot", 4)]) (N := nFI) (sc := defScope sFInit) (by decide +kernel)) (fun _ _ _ _ _ => pg_name (i := 4) scFIn.nd rfl (Or.inl rfl))
          (fun _ _ _ _ _ => pts_nil) (fun _ _ _ _ _ => pe_call okm hr1 rfl mm km bm .nil pass0 (pa_cons (pv 4) pa_nil)) (fun _ _ _ _ _ => pe_bl)) rfl)
      (pss_one (ps_if (pt_cmpR op_ne (pe_callB call_lenD (by rfl) T.len PySem.boot_len (pa_cons (pe_fld (pv 0) rfl) pa_nil)) (pe_callB call_len_seq (by rfl) T.len PySem.boot_len (pa_cons (pe_fld (pv 0) rfl) pa_nil)) (nomark _)) (pss_one ps_never) pss_nil))))))), ?_⟩
    refine ⟨_, rfl, (n : Int), _, _, _, rfl, .inr ⟨1, rfl, by omega⟩, .inr ⟨10, rfl, by omega⟩, ?_⟩
    refine ⟨_, rfl, (by show 2 ≤ sizeLine; exact small (m := 2) (Nat.le_refl _)), fun t ht => ?_⟩
    have s1 : Same H (upd H t (.tup [.ty "list", .ty "tuple"])) := same_new ht
    obtain ⟨tyx, hty, hany⟩ := isi_row (hS.same s1)
    refine ⟨_, t, _, _, _, true, rfl, upd_same, .cons (.ty _) (.cons (.ty _) .nil), hty, hany, _, rfl, iteF ?_⟩
    have hl := hL.len
    have hle : ms.length ≤ 1024 := Nat.le_trans (nodup_len _ ms hms.nd hms.lt) (pow_le10 h2)
    delta tNext tSeq tAsg
    dsimp only
    refine row_lc (K := K) (j := 2) (σ := [some (.ref x), some (vInt n), some (.ref a), none, none]) (b := a) (xs := xs) rfl (hS.same s1) (fun D hD => ⟨fun i H' => Same (upd H t (.tup [.ty "list", .ty "tuple"])) H' ∧ ∃ ys, H' D = some (.lst ys) ∧ LotsAt H' ys (ms.take i), ⟨same_new hD, [], upd_same, trivial⟩, (fun i H' _ h => h.1), ?_, ?_⟩)
    · rintro i x H1 hx ⟨sm, ys, hT, hY⟩
      obtain ⟨hi, p, rfl, hp⟩ := hL.get hx
      refine ⟨rfl, _, rfl, _, rfl, p, ms[i], n, rfl, (s1.trans sm) _ _ hp, hms.lt _ (List.getElem_mem hi), h2, fun H2 q s2 hq hq' => ?_⟩
      refine ⟨_, s2 _ _ hT, ?_, same_upd (sm.trans s2) hD, _, upd_same, ?_⟩
      · rw [hY.len, List.length_take]
        exact below (m := 100000) (by omega)
      · rw [take_more hi]
        exact ((hY.same s2).add hq').upd (s2 _ _ hT)
    · rintro H2 ⟨sm, ys, hT, hY⟩
      rw [hl, List.take_length] at hY
      have s2 : Same H H2 := s1.trans sm
      obtain ⟨ts, rfl⟩ := hY.refs
      have hx2 := s2 _ _ hx
      -- self.size = size
      refine ⟨_, rfl, _, rfl, x, C, dx, _, rfl, hx2, FC.cl, FC.size, (by show 0 < 1000; decide), ?_⟩
      have hDx : D ≠ x := ne_of hT hx2 (by intro z; cases z)
      have hT3 : (upd H2 x (.ins C dx (putF "size" (vInt n) []))) D = some (.lst (ts.map V.ref)) := by rw [upd_ne hDx]; exact hT
      have tk3 : ∀ p xs, H2 p = some (.tup xs) → (upd H2 x (.ins C dx (putF "size" (vInt n) []))) p = some (.tup xs) := fun p xs e => by
        rw [upd_ne (ne_of e hx2 (by intro z; cases z))]
        exact e
      have hY3 := hY.tups tk3
      -- self.lots = tuple(sorted(told))
      refine ⟨_, rfl, D, ts, kOf (upd H2 x (.ins C dx (putF "size" (vInt n) []))), rfl, SqL.of hT3, fun u hu => ?_, fun ts' p hp hs hpn => .inl ⟨p, _, rfl, SqL.of upd_same, fun l hln => ?_⟩⟩
      · obtain ⟨m, _, hm⟩ := (LotsAt.mem hY3).2 u hu
        rw [kOf_lot hm, ← lotV_eq]
        exact hm
      obtain ⟨ms0, pm, hY4⟩ := LotsAt.perm hp.symm hY3
      have srt := LotsAt.srt hY4 hs
      have s4 : Same (upd H2 x (.ins C dx (putF "size" (vInt n) []))) (upd (upd (upd H2 x (.ins C dx (putF "size" (vInt n) []))) p (.lst (ts'.map V.ref))) l (.tup (ts'.map V.ref))) := (same_new hpn).trans (same_new hln)
      have hx4 := s4 _ _ (upd_same (H := H2) (a := x))
      have hY5 := hY4.same s4
      refine ⟨_, rfl, x, C, dx, _, rfl, hx4, FC.cl, FC.lots, (by show 1 < 1000; decide), ?_⟩
      generalize hH5 : (upd (upd (upd H2 x (.ins C dx (putF "size" (vInt n) []))) p (.lst (ts'.map V.ref))) l (.tup (ts'.map V.ref))) = H5 at *
      have hl5 : H5 l = some (.tup (ts'.map V.ref)) := by rw [← hH5]; exact upd_same
      have tk6 : ∀ q ys, H5 q = some (.tup ys) → (upd H5 x (.ins C dx (putF "lots" (.ref l) (putF "size" (vInt n) [])))) q = some (.tup ys) := fun q ys e => by
        rw [upd_ne (ne_of e hx4 (by intro z; cases z))]
        exact e
      have hl6 := tk6 _ _ hl5
      have hY6 := hY5.tups tk6
      have nd0 : ms0.Nodup := pm.nodup_iff.mp hms.nd
      have hlen0 : ms0.length = ms.length := pm.length_eq.symm
      -- self.masks = {..}
      refine ⟨_, rfl, x, C, dx, _, _, rfl, upd_same, FC.cl, FC.lots, lk_same, l, rfl, ⟨_, SqT.of hl6⟩, fun d hd => ?_⟩
      refine dc_tup (K := K) (a := l) (xs := ts'.map V.ref) (fun i H' => Same (upd H5 x (.ins C dx (putF "lots" (.ref l) (putF "size" (vInt n) [])))) H' ∧ H' d = some (.dK (mK (ms0.take i)))) ⟨same_new hd, upd_same⟩ (fun i H' _ h => SqT.of (h.1 _ _ hl6)) ?_ ?_
      · rintro i y H7 hy ⟨sm7, hK⟩
        obtain ⟨hi, q, rfl, hq⟩ := hY6.get hy
        have hlt : ms0[i] < 2 ^ n := hms.lt _ (pm.mem_iff.mpr (List.getElem_mem hi))
        have h10 := pow_le10 h2
        refine ⟨rfl, _, rfl, q, ms0[i], rfl, sm7 _ _ hq, by omega, _, (Sum.inl ((ms0[i] : Nat) : Int) : Key), rfl, hK, ?_, same_upd sm7 hd, ?_⟩
        · show ((ms0.take i).map _).length < _
          rw [List.length_map, List.length_take]
          exact below (m := 100000) (by omega)
        · rw [upd_same, take_more hi]
          refine congrArg (fun z => some (HO.dK z)) (mK_snoc _ _ fun hm => ?_)
          obtain ⟨j, hj, e⟩ := List.getElem_of_mem hm
          rw [List.length_take] at hj
          rw [List.getElem_take] at e
          have := (List.getElem_inj nd0).mp e
          omega
      · rintro H7 ⟨sm7, hK⟩
        have lts : (ts'.map V.ref).length = ms0.length := hY6.len
        rw [lts, List.take_length] at hK
        have hx7 := sm7 _ _ (upd_same (H := H5) (a := x))
        refine ⟨_, rfl, x, C, dx, _, rfl, hx7, FC.cl, FC.masks, (by show 2 < 1000; decide), ?_⟩
        have hdx : d ≠ x := ne_of hK hx7 (by intro z; cases z)
        have hlx : l ≠ x := ne_of (sm7 _ _ hl6) hx7 (by intro z; cases z)
        refine ⟨_, rfl, x, C, dx, _, _, rfl, upd_same, FC.cl, FC.masks, lk_same, d, _, rfl, by rw [upd_ne hdx]; exact hK, ?_⟩
        refine ⟨_, rfl, x, C, dx, _, _, rfl, upd_same, FC.cl, FC.lots, ?_, l, _, rfl, .inr (SqT.of (by rw [upd_ne hlx]; exact sm7 _ _ hl6)), rfl, _, rfl, ?_⟩
        · exact (lk_ne (by decide +kernel)).trans lk_same
        refine iteNS ?_ ?_
        · show V.int ((mK ms0).length : Int) = V.int ((ts'.map V.ref).length : Int)
          rw [lts]
          unfold mK
          rw [List.length_map]
        · refine k _ (fun b o nb1 nb2 e => ?_) ⟨⟨dx, l, d, _, ts'.map V.ref, ms0, upd_same, ?_, ?_, lk_same, ?_, ?_, ?_, ?_, pm.symm, srt, ?_⟩, hms, h1, h2⟩
          · rw [upd_ne nb1]
            refine sm7 _ _ ?_
            rw [upd_ne nb1]
            refine s4 _ _ ?_
            rw [upd_ne nb1]
            exact s2 _ _ e
          · exact (lk_ne (by decide +kernel)).trans ((lk_ne (by decide +kernel)).trans lk_same)
          · exact (lk_ne (by decide +kernel)).trans lk_same
          · exact (lk_ne (by decide +kernel)).trans ((lk_ne (by decide +kernel)).trans ((lk_ne (by decide +kernel)).trans rfl))
          · exact fun g h1 h2 h3 => (lk_ne h3).trans ((lk_ne h2).trans ((lk_ne h1).trans rfl))
          · rw [upd_ne hlx]
            exact sm7 _ _ hl6
          · refine (hY6.same sm7).tups fun q ys e => ?_
            rw [upd_ne (ne_of e hx7 (by intro z; cases z))]
            exact e
          · rw [upd_ne hdx]
            exact hK
end
end Fam

/-! The first lots that break "even". -/
namespace Fam
open PySem L2
def wdS : Bool → Str := fun _ => "even"
theorem add_disj : ∀ a b : Nat, a &&& b = 0 → a + b = a ||| b := by
  intro a
  induction a using Nat.strongRecOn with
  | _ a ih =>
    intro b h
    by_cases ha : a = 0
    · rw [ha, Nat.zero_add, Nat.zero_or]
    · have h2 : a / 2 &&& b / 2 = 0 := by rw [← Nat.and_div_two, h]
      have i2 := ih (a / 2) (by omega) (b / 2) h2
      have e1 : (a ||| b) / 2 = a / 2 + b / 2 := by rw [Nat.or_div_two, i2]
      have e2 : (a ||| b) % 2 = a % 2 ||| b % 2 := Nat.or_mod_two_pow (n := 1)
      have e3 : a % 2 &&& b % 2 = 0 := by
        have : (a &&& b) % 2 = a % 2 &&& b % 2 := Nat.and_mod_two_pow (n := 1)
        rw [← this, h]
      have ca : a % 2 = 0 ∨ a % 2 = 1 := by omega
      have cb : b % 2 = 0 ∨ b % 2 = 1 := by omega
      have e4 : (a ||| b) % 2 = a % 2 + b % 2 := by
        rw [e2]
        rcases ca with ca | ca <;> rcases cb with cb | cb <;> rw [ca, cb] at e3 ⊢ <;> first | rfl | exact absurd e3 (by decide)
      omega
theorem xorN_eq (a b : Nat) : xorN a b = a ^^^ b := by
  have d : (a ^^^ b) &&& (a &&& b) = 0 := Nat.eq_of_testBit_eq fun i => by
    rw [Nat.testBit_and, Nat.testBit_xor, Nat.testBit_and, Nat.zero_testBit]
    cases a.testBit i <;> cases b.testBit i <;> rfl
  have s := add_disj _ _ d
  have o : (a ^^^ b) ||| (a &&& b) = a ||| b := Nat.eq_of_testBit_eq fun i => by
    rw [Nat.testBit_or, Nat.testBit_xor, Nat.testBit_and, Nat.testBit_or]
    cases a.testBit i <;> cases b.testBit i <;> rfl
  unfold xorN
  omega
theorem sub_and (z s : Nat) : z - (z &&& s) = z ^^^ (z &&& s) := by
  have d : (z ^^^ (z &&& s)) &&& (z &&& s) = 0 := Nat.eq_of_testBit_eq fun i => by
    rw [Nat.testBit_and, Nat.testBit_xor, Nat.testBit_and, Nat.zero_testBit]
    cases z.testBit i <;> cases s.testBit i <;> rfl
  have t := add_disj _ _ d
  have o : (z ^^^ (z &&& s)) ||| (z &&& s) = z := Nat.eq_of_testBit_eq fun i => by
    rw [Nat.testBit_or, Nat.testBit_xor, Nat.testBit_and]
    cases z.testBit i <;> cases s.testBit i <;> rfl
  omega
theorem bit_less (z s : Nat) : Builtin.bitAnd (z : Int) (Builtin.bitNot (s : Int)) = ((z ^^^ (z &&& s) : Nat) : Int) := by
  have n1 : decide ((0 : Int) ≤ Builtin.bitNot (s : Int)) = false := decide_eq_false (by unfold Builtin.bitNot; omega)
  have n2 : (Builtin.bitNot (Builtin.bitNot (s : Int))).toNat = s := by unfold Builtin.bitNot; omega
  rw [← sub_and]
  unfold Builtin.bitAnd
  rw [n1, decide_eq_true (Int.natCast_nonneg z)]
  show (z : Int) - (((z : Int).toNat &&& (Builtin.bitNot (Builtin.bitNot (s : Int))).toNat : Nat) : Int) = _
  rw [n2, Int.toNat_natCast]
  have : z &&& s ≤ z := Nat.and_le_left
  omega
/-- two of three -/
def maj (x y z : Nat) : Nat := x &&& y ||| (x &&& z) ||| (y &&& z)
/-- x, y and z make a lot that is missed -/
def thP (ms : List Nat) (b s z : Nat) : Bool := !decide (xorN z s ∈ ms)
/-- what a Closing looks up -/
def brk (_ : Bool) (ms : List Nat) (b s : Nat) : Bool := ms.any (thP ms b s)
def thL (_ : Bool) (ms : List Nat) (b s : Nat) : List Nat := (ms.find? (thP ms b s)).toList
theorem x3_eq (x y z : Nat) : xorN z (xorN x y) = x ^^^ y ^^^ z := by
  rw [xorN_eq, xorN_eq, Nat.xor_comm]
/-- a pair that breaks the word -/
def bad2 (o : Bool) (ms : List Nat) (x y : Nat) : Bool := brk o ms (x &&& y) (xorN x y)
theorem bad2_comm (o : Bool) (ms : List Nat) (x y : Nat) : bad2 o ms x y = bad2 o ms y x := by
  unfold bad2
  rw [xorN_eq, xorN_eq, Nat.and_comm x y, Nat.xor_comm x y]
def pd2 (bad : Nat → Nat → Bool) (x y : Nat) : Option (Nat × Nat) := if bad x y = true then some (x, y) else none
def pd1 (bad : Nat → Nat → Bool) (ins : List Nat) (x : Nat) : Option (Nat × Nat) := ins.findSome? (pd2 bad x)
def pairD (bad : Nat → Nat → Bool) (ins : List Nat) : Option (Nat × Nat) := ins.findSome? (pd1 bad ins)
/-- the first two, in the order os, that break the word -/
def pairDue (o : Bool) (ms os : List Nat) : Option (Nat × Nat) := pairD (bad2 o ms) (insideOf ms os)
theorem pd2_none {bad : Nat → Nat → Bool} {x y : Nat} : pd2 bad x y = none ↔ bad x y = false := by
  unfold pd2
  cases bad x y
  · exact ⟨fun _ => rfl, fun _ => if_neg (fun z => Bool.noConfusion z)⟩
  · rw [if_pos rfl]
    constructor
    · intro z
      cases z
    · intro z
      cases z
/-- no pair ahead of (i, j) is bad -/
def NoBad (bad : Nat → Nat → Bool) (ins : List Nat) (i j : Nat) : Prop := ∀ i' j', i' ≤ j' → j' < ins.length → (i' < i ∨ (i' = i ∧ j' < j)) → bad (ins.getD i' 0) (ins.getD j' 0) = false
theorem NoBad.next {bad : Nat → Nat → Bool} {ins : List Nat} {i : Nat} (h : NoBad bad ins i ins.length) : NoBad bad ins (i + 1) (i + 1) := fun i' j' h1 h2 h3 => by
  refine h i' j' h1 h2 ?_
  rcases h3 with h3 | ⟨h3, h4⟩
  · by_cases e : i' = i
    · exact .inr ⟨e, h2⟩
    · exact .inl (by omega)
  · omega
theorem NoBad.step {bad : Nat → Nat → Bool} {ins : List Nat} {i j : Nat} (h : NoBad bad ins i j) (hd : bad (ins.getD i 0) (ins.getD j 0) = false) : NoBad bad ins i (j + 1) := fun i' j' h1 h2 h3 => by
  by_cases e : i' = i ∧ j' = j
  · rw [e.1, e.2]
    exact hd
  · exact h i' j' h1 h2 (by omega)
theorem getD_at {l : List Nat} {i : Nat} (h : i < l.length) : l.getD i 0 = l[i] := by rw [List.getD_eq_getElem?_getD, List.getElem?_eq_getElem h]; rfl
theorem nobad_all {bad : Nat → Nat → Bool} {ins : List Nat} (hc : ∀ x y, bad x y = bad y x) (h : NoBad bad ins ins.length ins.length) : pairD bad ins = none := by
  refine List.findSome?_eq_none_iff.mpr fun x hx => List.findSome?_eq_none_iff.mpr fun y hy => pd2_none.mpr ?_
  obtain ⟨i, hi, rfl⟩ := List.getElem_of_mem hx
  obtain ⟨j, hj, rfl⟩ := List.getElem_of_mem hy
  by_cases le : i ≤ j
  · have := h i j le hj (.inl hi)
    rwa [getD_at hi, getD_at hj] at this
  · have := h j i (by omega) hi (.inl hj)
    rw [getD_at hi, getD_at hj] at this
    rw [hc]
    exact this
theorem nobad_at {bad : Nat → Nat → Bool} {ins : List Nat} {i j : Nat} (hc : ∀ x y, bad x y = bad y x) (hi : i < ins.length) (hj : j < ins.length) (hij : i ≤ j) (h : NoBad bad ins i j) (hd : bad ins[i] ins[j] = true) : pairD bad ins = some (ins[i], ins[j]) := by
  refine findSome_at hi (fun x hx => List.findSome?_eq_none_iff.mpr fun y hy => pd2_none.mpr ?_) (findSome_at hj (fun y hy => pd2_none.mpr ?_) (if_pos hd))
  · obtain ⟨i', hi', rfl⟩ := List.getElem_of_mem hx
    obtain ⟨j', hj', rfl⟩ := List.getElem_of_mem hy
    rw [List.length_take] at hi'
    rw [List.getElem_take]
    by_cases le : i' ≤ j'
    · have := h i' j' le hj' (.inl (by omega))
      rwa [getD_at (by omega), getD_at hj'] at this
    · have := h j' i' (by omega) (by omega) (.inl (by omega))
      rw [getD_at hj', getD_at (by omega)] at this
      rw [hc]
      exact this
  · obtain ⟨j', hj', rfl⟩ := List.getElem_of_mem hy
    rw [List.length_take] at hj'
    rw [List.getElem_take]
    by_cases le : i ≤ j'
    · have := h i j' le (by omega) (.inr ⟨rfl, by omega⟩)
      rwa [getD_at hi, getD_at (by omega)] at this
    · have := h j' i (by omega) hi (.inl (by omega))
      rw [getD_at (by omega), getD_at hi] at this
      rw [hc]
      exact this
theorem pairD_none {bad : Nat → Nat → Bool} {ins : List Nat} : pairD bad ins = none ↔ ∀ x ∈ ins, ∀ y ∈ ins, bad x y = false := by
  unfold pairD pd1
  rw [List.findSome?_eq_none_iff]
  exact ⟨fun h x hx y hy => pd2_none.mp (List.findSome?_eq_none_iff.mp (h x hx) y hy), fun h x hx => List.findSome?_eq_none_iff.mpr fun y hy => pd2_none.mpr (h x hx y hy)⟩
theorem inside_mem {n : Nat} {ms os : List Nat} (hm : ∀ m ∈ ms, m < 2 ^ n) (ho : OrderOf n os) {z : Nat} : z ∈ insideOf ms os ↔ z ∈ ms := by
  unfold insideOf
  rw [List.mem_filter, decide_eq_true_eq, ho.perm.mem_iff, List.mem_range]
  exact ⟨fun h => h.2, fun h => ⟨hm z h, h⟩⟩
theorem inside_eq {n : Nat} {ms ms0 os : List Nat} (hn : n ≤ 10) (hm : Masks n ms) (p : ms0.Perm ms) (hs : ms0.Pairwise lotLe) (ho : OrderOf n os) : insideOf ms os = ms0 := by
  have mem : ∀ z, z ∈ insideOf ms os ↔ z ∈ ms0 := fun z => by rw [inside_mem hm.lt ho, p.mem_iff]
  refine uniq_of (R := lotLe) (fun a b ha hb h1 h2 => ?_) (ho.srt.filter _) hs ?_
  · have la := hm.lt a (p.mem_iff.mp ((mem a).mp ha))
    have lb := hm.lt b (p.mem_iff.mp ((mem b).mp hb))
    exact lotI_inj hn la lb (lex_tot _ _ h2 h1)
  · refine (List.perm_ext_iff_of_nodup ?_ (p.nodup_iff.mpr hm.nd)).mpr mem
    exact (ho.perm.nodup_iff.mpr List.nodup_range).filter _
theorem any_perm {p : Nat → Bool} {a b : List Nat} (h : a.Perm b) : a.any p = b.any p := by
  rw [Bool.eq_iff_iff, List.any_eq_true, List.any_eq_true]
  exact ⟨fun ⟨x, hx, e⟩ => ⟨x, h.mem_iff.mp hx, e⟩, fun ⟨x, hx, e⟩ => ⟨x, h.mem_iff.mpr hx, e⟩⟩
theorem thP_perm {ms ms0 : List Nat} (p : ms0.Perm ms) : thP ms = thP ms0 := by
  funext b s z
  unfold thP
  rw [show decide (xorN z s ∈ ms) = decide (xorN z s ∈ ms0) from decide_eq_decide.mpr p.mem_iff.symm]
theorem bad2_perm {o : Bool} {ms ms0 : List Nat} (p : ms0.Perm ms) : bad2 o ms = bad2 o ms0 := by
  funext x y
  unfold bad2
  show ms.any _ = ms0.any _
  rw [thP_perm p]
  exact (any_perm p).symm
end Fam

/-! try with several clauses, the first one with a name, where the first one takes all that the body raises. -/
namespace Fam
open PySem L2 PyProof.Rows
/-- what is wished of an exception of the body: the clause's class takes it, and the suite goes on from there -/
def wFirst (K : PySem.W.Frag) (c : Value) (i : Nat) (ts : Addr → Value → Option Addr → TS) (D : Ends) : WX := fun cls d σ H => PySem.W.exmOne K cls c = some true ∧
  ∀ a, H a = none → ts a cls d ⟨fun g h => D.nx (g.set i none) h, D.rt, fun g h => D.bk (g.set i none) h, fun g h => D.ct (g.set i none) h⟩ (σ.set i (some (.ref a))) H
section
variable {X : Cx} {x n : Str} {c : Value} {i : Nat} {body su : List Stmt} {b : Stmt} {np p1 p2 : Pos} {tb : WX → TS} {ts : Addr → Value → Option Addr → TS} {rest : List ExceptHandler}
theorem ps_try_first (st : X.stack = X.env :: X.outer) (fr : X.env.frame = some X.env.locals) (nd : X.N.Nodup) (at_ : X.N[i]? = some n) (lc : X.env.kindOf n = some .local) (nm : Names X x c)
    (bd : ∀ (W : WX) (pn : List (Addr × Obj)) (xe : Value → Shared → Prop), Takes (X.tr pn xe) W → PassesOwn (model X.prog X.w) X.A X.env xe → PSs (X.tr pn xe) body (tb W))
    (ss : ∀ (a : Addr) (o : Obj) (cls : Value) (d : Option Addr) (pn : List (Addr × Obj)), Zc cls d o → (∃ fs, o.data = .fields fs) → PSs (X.suite a ((a, o) :: pn)) (b :: su) (ts a cls d)) :
    PS X (.Try body (.ExceptHandler (some (.Name x np)) (some n) (b :: su) p1 :: rest) [] [] p2) (fun D σ H => tb (wFirst X.K c i ts D) D σ H) := PS.mk fun pins s σ H D inv rd => by
  have ctx := inv.ok
  have fs0 : X.A.frames = some (X.env :: X.outer) := by rw [ctx.frames, st]
  apply wpAny_Try_except
  have run := (bd (wFirst X.K c i ts D) (X.pn ++ pins)
    (fun e t1 => wpAny (model X.prog X.w) X.A (noteFrame e X.env) (fun _ t2 => wpAny (model X.prog X.w) X.A (setFlight e none)
      (fun _ t3 => wpAny (model X.prog X.w) X.A (handleBy e X.env (.ExceptHandler (some (.Name x np)) (some n) (b :: su) p1 :: rest)) (SP X pins D) X.xe t3) X.xe t2) X.xe t1)
    (fun u t cat => ?caught) PassesOwn.looking).run [] s σ H D (inv.toTry _) rd
  case caught =>
    obtain ⟨a, B, tI, pn, g, G, cls, d, rfl, j, nb, up, sky, na, os, ag, yes, on⟩ := cat
    have jI : L2.Inv X pins g G tI := j.ofTry ctx
    show wpAny (model X.prog X.w) X.A (noteFrame (.ref a) X.env) _ _ _
    have sky1 : Sky B (X.env :: X.outer) a (Zc cls d) X.env.locals t.heap := st ▸ sky
    refine Sky.land Zc.steady fs0 fr sky1 fun k fly upk => ?_
    have jk : L2.Inv X pins g G { t with heap := k } := jI.landed nb fly.1 (up.trans upk) os ag
    obtain ⟨o, fv, ho, hz, hd⟩ := fly.there
    -- no frame of the stack is the exception
    have off : a ∉ frs (X.env :: X.outer) := fun hm => by
      obtain ⟨_, o1, e1, nf⟩ := fly.2.2.1.mem hm
      have e2 : o = o1 := Option.some.inj (ho.symm.trans e1)
      exact nf _ (e2 ▸ hd)
    have offL : a ≠ X.env.locals := fun z => off (List.mem_filterMap.mpr ⟨X.env, List.mem_cons_self, by rw [fr, z]⟩)
    have offF : a ∉ X.fs := fun hm => by
      obtain ⟨e, he, q⟩ := List.mem_filterMap.mp hm
      exact off (List.mem_filterMap.mpr ⟨e, .tail _ he, q⟩)
    have inS := jk.suite ho hd na offL offF
    refine wpAny_handleBy_cons (codeAny_handlers_test ?_) (fun q => by cases q)
    have ty : PySem.W.Looks (model X.prog X.w) k (typeOf (.ref a)) cls := fun _ _ _ _ kk q => wpAny_typeOf_ref (kk _ _ ho) (by rw [hz.1]; exact q)
    have named : ∀ {R : Value → Shared → Prop} {E1 : Value → Shared → Prop}, R c { t with heap := k } → wpAny (model X.prog X.w) (X.A.mark (some (.ref a))) (eval (.Name x np) X.env) R E1 { t with heap := k } := fun q => by
      obtain ⟨gl, db, w1 | ⟨w1, w2, w3⟩⟩ := nm
      · exact ld_glob (X := X.suite a ((a, o) :: (X.pn ++ pins))) inS gl w1 q db
      · exact ld_blt (X := X.suite a ((a, o) :: (X.pn ++ pins))) inS gl w1 w2 q w3 db
    refine named ((PySem.W.exm_one (M := model X.prog X.w) jk.kIn ty yes).here ?_)
    refine codeAny_handlers_suite_as (HandSPX.lands_againZ fly fun k2 fly2 up2 => ?_)
    obtain ⟨o2, fv2, ho2, hz2, hd2⟩ := fly2.there
    have jk2 : L2.Inv X pins g G { t with heap := k2 } := jI.landed nb fly2.1 ((up.trans upk).trans up2) os ag
    have in2 := jk2.suite ho2 hd2 na offL offF
    refine store_ok (X := X.suite a ((a, o2) :: (X.pn ++ pins))) (v := .ref a) in2 nd at_ (.inl lc) rfl (fun t5 in5 => ?_) (.inr lc)
    refine wpAny_mono ((ss a o2 cls d (X.pn ++ pins) hz2 ⟨_, hd2⟩).run [] t5 _ G _ in5 (on a na)) (fun r t6 out => ?_) (fun _ _ no => no.elim)
    -- the name goes again
    have gone : ∀ {g6 : L2.St} {G6 : Hp} {R : Shared → Prop}, L2.Inv (X.suite a ((a, o2) :: (X.pn ++ pins))) [] g6 G6 t6 → (∀ t7, L2.Inv X pins (g6.set i none) G6 t7 → R t7) →
        wpAny (model X.prog X.w) X.A (do bindName X.env n .none; unbindBehindTheSuite X.env n p1) (fun _ t7 => R t7) X.xe t6 := fun in6 q => gone_ok (in6.unsuite ctx) nd at_ lc q
    match r, out with
    | .next, ⟨_, _, in6, q6⟩ => exact gone in6 fun t7 j7 => ⟨_, _, j7, q6⟩
    | .brk, ⟨_, _, in6, q6⟩ => exact gone in6 fun t7 j7 => ⟨_, _, j7, q6⟩
    | .cont, ⟨_, _, in6, q6⟩ => exact gone in6 fun t7 j7 => ⟨_, _, j7, q6⟩
    | .ret u, ⟨_, _, _, in6, rv, q6⟩ => exact gone in6 fun t7 j7 => ⟨_, _, _, j7, rv, q6⟩
  refine wpAny_mono run (fun r t1 out => ?_) (fun _ _ q => q)
  match r, out with
  | .next, ⟨_, _, j1, q1⟩ => exact wpAny_execs_nil ⟨_, _, j1.ofTry ctx, q1⟩
  | .brk, ⟨_, _, j1, q1⟩ => exact ⟨_, _, j1.ofTry ctx, q1⟩
  | .cont, ⟨_, _, j1, q1⟩ => exact ⟨_, _, j1.ofTry ctx, q1⟩
  | .ret u, ⟨_, _, _, j1, rv, q1⟩ => exact ⟨_, _, _, j1.ofTry ctx, rv, q1⟩
end
end Fam

/-! raise BadNumber(..) in a def of the program. -/
namespace Fam
open PySem L2
structure BadFacts (K : PySem.W.Frag) (mg : Str → Option Value) (B : Addr) : Prop where
  gB : mg "BadNumber" = some (.ref B)
  xf : XfC K B
  no : PySem.W.findIn K (.ref B) "which" = some none
  te : PySem.W.exmOne K (.ref B) (.ref B) = some true
theorem te_of {K : PySem.W.Frag} {B : Addr} (b : PySem.W.subIn K (.ref B) (.type "BaseException") = some true) (i : PySem.W.isClsIn K B = true) (t : PySem.W.typeIn K (.ref B) = some (.type "type")) (o : PySem.W.subIn K (.ref B) (.ref B) = some true) : PySem.W.exmOne K (.ref B) (.ref B) = some true := by
  have i2 : (PySem.W.clsIn K B).isSome = true := i
  unfold PySem.W.exmOne PySem.W.kitCls
  simp only [b, i2, t, o]
  rfl
theorem bad_mk {K : PySem.W.Frag} {h : Heap} {mg : Str → Option Value} {B : Addr} (X : K.In h) (G : h.Ns mainGlobals mg) (a : PySem.W.nsIn K mainGlobals "BadNumber" = some (some (.ref B)))
    (ga : PySem.W.findIn K (.ref B) "__getattribute__" = some (some (.builtin "BaseException.__getattribute__"))) (gg : PySem.W.findIn K (.ref B) "__getattr__" = some none) (e : PySem.W.subIn K (.ref B) (.type "BaseException") = some true) (d : PySem.W.hasDictIn K B = true)
    (no : PySem.W.findIn K (.ref B) "which" = some none) (i : PySem.W.isClsIn K B = true) (t : PySem.W.typeIn K (.ref B) = some (.type "type")) (o : PySem.W.subIn K (.ref B) (.ref B) = some true) : BadFacts K mg B := ⟨PySem.W.mg_of X G a, ⟨ga, gg, e, d⟩, no, te_of e i t o⟩
open PySem L2
abbrev sBadInit : Stmt := inClass (top 3) 0
/-- BadNumber.__init__: the exception at a gets its own dict -/
def spBadInit (K : PySem.W.Frag) (B : Addr) : Sp := fun vs H Q _ => ∃ (a : Addr) (v : V), vs = [.ref a, v] ∧ H a = some (exo a B none) ∧ OexC K B ∧ PySem.W.findIn K (.ref B) "which" = some none ∧
  ∀ dx, H dx = none → dx ≠ a → Q .non (upd (upd H dx (exd dx [("which", v)])) a (exo a B (some dx)))
section
variable {P : Program} {w : World} {K : PySem.W.Frag} {mg : Str → Option Value} {base : Heap} {B : Addr}
theorem scBI : FnScope ["self", "which"] ["self", "which"] (defScope sBadInit) := ⟨rfl, rfl, rfl, by decide +kernel, rfl, by decide +kernel, by decide +kernel⟩
theorem ok_bad_init {f : Addr} {fd : FuncData} (F : Fun K "__init__" "BadNumber.__init__" sBadInit f fd) : FnOk P w K mg base CX0 1 f fd ["self", "which"] (spBadInit K B) := by
  refine F.ok scBI (fun vs H Q E h => ?_) (fun cdv A outer s H vs Q E hr h => ?_)
  · obtain ⟨a, v, rfl, _⟩ := h
    rfl
  · obtain ⟨a, v, rfl, ha, T, no, k⟩ := h
    refine ⟨_, pss_one (ps_ost (pv 0) (pv 1)), ?_⟩
    exact ⟨_, rfl, _, rfl, a, B, rfl, T, no, .inl ⟨ha, fun dx h1 h2 => k dx h1 h2⟩⟩
/-- all that raise BadNumber(..) wants -/
structure BadRaise (P : Program) (w : World) (K : PySem.W.Frag) (mg : Str → Option Value) (base : Heap) (B : Addr) : Prop where
  oex : OexC K B
  no : PySem.W.findIn K (.ref B) "which" = some none
  gB : mg "BadNumber" = some (.ref B)
  init : ∃ (g : Addr) (gd : FuncData), PySem.W.findIn K (.ref B) "__init__" = some (some (.ref g)) ∧ PySem.W.typeIn K (.ref g) = some (.type "function") ∧ FnOk P w K mg base CX0 1 g gd ["self", "which"] (spBadInit K B) ∧ Binds K gd ["self", "which"] []
theorem bad_read {ta : TA} {σ : L2.St} {H : Hp} {Q : XK} {v : V} (N : BadRaise P w K mg base B) (hv : ∀ Q' : List V → Hp → Prop, Q' [v] H → ta σ H Q')
    (k : ∀ (d : Addr) (H' : Hp), Same H H' → H d = none → H' d = some (.xd [("which", v)]) → Q (.ref B) (some d) H') : tMkO B (spBadInit K B) [] ta σ H Q := by
  refine hv _ ⟨(by show 1 ≤ 1000; decide), fun a ha => ⟨a, v, rfl, upd_same, N.oex, N.no, fun dx hdx hne => ⟨rfl, dx, [("which", v)], upd_same, ?_, none_new hdx, ?_⟩⟩⟩
  · rw [upd_ne hne]
    exact upd_same
  · refine k dx _ (fun b o e => ?_) (none_new hdx) upd_same
    have h1 : b ≠ a := ne_of_none e ha
    have h2 : b ≠ dx := ne_of_none e (none_new hdx)
    rw [upd_ne h2, del_ne h1, upd_ne h1, upd_ne h2, upd_ne h1]
    exact e
theorem bad_raise_mk {h : Heap} {f : Addr} {nm q : Str} {N : Addr} {bs bm : List Value} {sn : List Str} {sub : List Value} {ab : Bool} {col : Option Bool} {dd : Option Addr} {m0 m1 m2 m3 m5 : Option Value} {od an : Option Addr} {sl : Array (Option Value)} {oc kV dc pm cd ct : Value}
    (X : K.In h) (G : h.Ns mainGlobals mg) (aB : PySem.W.nsIn K mainGlobals "BadNumber" = some (some (.ref B))) (x : K.lookup B = some (excClassObj nm q B N bs bm true sn sub ab col dd m0 m1 m2 m3 m5 "ValueError.__new__")) (xb : PySem.HandSPX.refsVE bm = true)
    (sa : PySem.W.findIn K (.ref B) "__setattr__" = some (some (.builtin "object.__setattr__"))) (e : PySem.W.subIn K (.ref B) (.type "BaseException") = some true) (t : PySem.W.typeIn K (.ref B) = some (.type "type")) (kB : PySem.W.keepIn K (.ref B) = true) (no : PySem.W.findIn K (.ref B) "which" = some none)
    (iB : PySem.W.findIn K (.ref B) "__init__" = some (some (.ref f))) (tf : PySem.W.typeIn K (.ref f) = some (.type "function"))
    (l : K.lookup f = some ⟨oc, od, .func (PySem.W.fnOf "__init__" "BadNumber.__init__" (defArgs sBadInit) (defBody sBadInit) (defScope sBadInit) .none kV dc pm an cd ct), sl⟩) (c : PySem.W.codeIn K cd "BadNumber.__init__" = true) (kf : PySem.W.keepIn K (.ref f) = true) : BadRaise P w K mg base B := by
  have F := fun_mk (st := sBadInit) l c kf
  exact ⟨⟨⟨nm, q, N, bs, bm, sn, sub, ab, col, dd, m0, m1, m2, m3, m5, x, xb⟩, sa, e, t, kB⟩, no, PySem.W.mg_of X G aB, ⟨f, _, iB, tf, ok_bad_init F, F.binds (ps := ["self", "which"]) fun _ _ _ _ _ _ us hl => match us, hl with | [_, _], _ => rfl⟩⟩

end
/-- a def of the program that may raise -/
structure CalE (P : Program) (w : World) (K : PySem.W.Frag) (mg : Str → Option Value) (base : Heap) (k : Nat) (x : Str) (ps : List Str) (sp : Sp) : Prop where
  ex : ∃ (g : Addr) (gd : FuncData), FnOk P w K mg base (L2.CX P w) k g gd ps sp ∧ Binds K gd ps [] ∧ PySem.W.keepIn K (.ref g) = true ∧ mg x = some (.ref g)
end Fam

/-! check_word; Closing by "and" and by "two": parts_in. -/
namespace Fam
open PySem L2 OwnX
open C8 (pss_cut tCut)
abbrev sCheckWord : Stmt := top 40
abbrev sClInit : Stmt := inClass (top 41) 0
abbrev sPartsIn : Stmt := inClass (top 41) 1
abbrev sIsBroken : Stmt := inClass (top 41) 2
abbrev sMisses : Stmt := inClass (top 41) 3
abbrev sThird : Stmt := inClass (top 41) 4
def wdV (o : Bool) : V := .str (wdS o)
/-- words that broken does not take -/
def badAll (v : V) : Prop := v = .str "three" ∨ v = .non ∨ v = .str "" ∨ v = .int 2
def spCheckWord (B : Addr) : Sp := fun vs H Q E => ∃ word : V, vs = [word] ∧ ((∃ o : Bool, word = wdV o ∧ Q .non H) ∨ (badAll word ∧ ∀ (d : Addr) (H' : Hp), Same H H' → H d = none → H' d = some (.xd [("which", .str "word")]) → E (.ref B) (some d) H'))
structure Words (K : PySem.W.Frag) (C : Addr) : Prop where
  ex : ∃ (mc u : Value) (t : Addr), ClX.CRead K C mc ∧ ClX.CVal K C mc "WORDS" (.ref t) u ∧ ∀ H, SqT K H t [.str "box", .str "or", .str "and", .str "two", .str "even"]
theorem words_mk {K : PySem.W.Frag} {C t : Addr} {mc : Value} {od : Option Addr} {its : Array Value} {n : Nat} {sl : Array (Option Value)} (_ : PySem.W.nsIn K mainGlobals "Family" = some (some (.ref C))) (r : PySem.W.readsIn K C mc = true) (g : PySem.W.specialIn K (.ref C) "__getattribute__" = some (some (.builtin "type.__getattribute__")))
    (f : PySem.W.findCls K (.ref C) mc "WORDS" = some (.val (.ref t))) (l : K.lookup t = some ⟨.type "tuple", od, .seq its n, sl⟩) (z : its.size ≤ 100) (v : Vals [.str "box", .str "or", .str "and", .str "two", .str "even"] its.toList) : Words K C :=
  ⟨mc, .ref t, t, ⟨r, g⟩, ⟨f, rfl⟩, fun H => .inr ⟨_, its, n, l, rfl, rfl, small z, v⟩⟩
/-- a dict comprehension over a list -/
theorem dc_lst {K : PySem.W.Frag} {a : Addr} {xs : List V} {g : TG} {tt : TT} {tk tv : TE} {vs : List Nat} {σ : L2.St} {H1 : Hp} {D : Addr} {Qd : Hp → Prop} (Pv : Nat → Hp → Prop) (h0 : Pv 0 (upd H1 D (.dK []))) (hl : ∀ i H, i ≤ xs.length → Pv i H → SqL K H a xs)
    (hs : ∀ i x H, xs[i]? = some x → Pv i H → g x (wipe σ vs) H fun σ2 H2 => wipe σ2 vs = wipe σ vs ∧ tt σ2 H2 fun b H3 =>
      if b = true then tk σ2 H3 fun y H4 => tv σ2 H4 fun z H5 => ∃ kvs k, y = kV k ∧ H5 D = some (.dK kvs) ∧ kvs.length < sizeLine ∧ Pv (i + 1) (upd H5 D (.dK (putK kvs k z))) else Pv (i + 1) H3) (hd : ∀ H, Pv xs.length H → Qd H) :
    ∃ W : Nat → Nat → Hp → Prop, (∃ m, W 0 m (upd H1 D (.dK []))) ∧ ∀ i m H, W i m H →
      ((Itl K a).stop i H ∧ Qd H) ∨ ((Itl K a).go i H ∧ ∃ Nx : Hp → Prop, (∀ H', Nx H' → ∃ m', m' < m ∧ W (i + 1) m' H') ∧ ∀ x H', (Itl K a).yld i H x H' → g x (wipe σ vs) H' fun σ2 H2 => wipe σ2 vs = wipe σ vs ∧ tt σ2 H2 fun b H3 =>
        if b = true then tk σ2 H3 fun y H4 => tv σ2 H4 fun z H5 => ∃ kvs k, y = kV k ∧ H5 D = some (.dK kvs) ∧ kvs.length < sizeLine ∧ Nx (upd H5 D (.dK (putK kvs k z))) else Nx H3) := by
  refine ⟨fun i m H => m = xs.length - i ∧ i ≤ xs.length ∧ Pv i H, ⟨xs.length, rfl, Nat.zero_le _, h0⟩, ?_⟩
  rintro i _ H ⟨rfl, hi, p⟩
  have q := hl i H hi p
  rcases Nat.lt_or_ge i xs.length with lt | ge
  · exact .inr ⟨⟨xs, xs[i], q, List.getElem?_eq_getElem lt⟩, Pv (i + 1), fun H' p' => ⟨xs.length - (i + 1), by omega, rfl, lt, p'⟩, fun x H' ⟨e, y⟩ => by subst e; exact hs i x _ (y xs q) p⟩
  · have e : i = xs.length := Nat.le_antisymm hi ge
    subst e
    exact .inl ⟨⟨xs, q, Nat.le_refl _⟩, hd H p⟩
theorem mK_old {ms : List Nat} {m : Nat} (h : m ∈ ms) : putK (mK ms) (Sum.inl (m : Int) : Key) (.bl true) = mK ms := by
  have ha : ((mK ms).any fun kv => decide (kv.1 = (Sum.inl (m : Int) : Key))) = true := by
    refine List.any_eq_true.mpr ⟨(Sum.inl (m : Int), .bl true), List.mem_map.mpr ⟨m, h, rfl⟩, decide_eq_true rfl⟩
  unfold putK
  rw [if_pos ha]
  unfold mK
  rw [List.map_map]
  refine List.map_congr_left fun x _ => ?_
  show (if (Sum.inl (x : Int) : Key) = Sum.inl (m : Int) then ((Sum.inl (x : Int) : Key), V.bl true) else _) = _
  by_cases e : (Sum.inl (x : Int) : Key) = Sum.inl (m : Int)
  · rw [if_pos e]
  · rw [if_neg e]
/-- the class Closing -/
structure CloC (K : PySem.W.Frag) (CC : Addr) : Prop where
  cl : Cls K CC
  family : NoAttr K CC "family"
  how : NoAttr K CC "how"
  order : NoAttr K CC "order"
  others : NoAttr K CC "others"
  parts : NoAttr K CC "parts"
  known : NoAttr K CC "known"
/-- the heap without two addresses -/
def hide (H : Hp) (dp dk : Addr) : Hp := fun b => if b = dp ∨ b = dk then none else H b
theorem hide_some {H : Hp} {dp dk b : Addr} {o : HO} (h : hide H dp dk b = some o) : b ≠ dp ∧ b ≠ dk ∧ H b = some o := by
  unfold hide at h
  split at h
  · cases h
  · rename_i n
    exact ⟨fun e => n (.inl e), fun e => n (.inr e), h⟩
theorem hide_of {H : Hp} {dp dk b : Addr} {o : HO} (h1 : b ≠ dp) (h2 : b ≠ dk) (h : H b = some o) : hide H dp dk b = some o := by
  unfold hide
  rw [if_neg (fun z => z.elim h1 h2)]
  exact h
theorem hide_same (H : Hp) (dp dk : Addr) : Same (hide H dp dk) H := fun _ _ h => (hide_some h).2.2
/-- all that stood but the dicts at dp, dk stands -/
def KpD (dp dk : Addr) (H H' : Hp) : Prop := ∀ b o, b ≠ dp → b ≠ dk → H b = some o → H' b = some o
theorem KpD.hide {dp dk : Addr} {H H' : Hp} (k : KpD dp dk H H') : Same (hide H dp dk) (hide H' dp dk) := fun b o h => by
  obtain ⟨h1, h2, h3⟩ := hide_some h
  exact hide_of h1 h2 (k _ _ h1 h2 h3)
theorem KpD.of {dp dk : Addr} {H H' : Hp} (s : Same H H') : KpD dp dk H H' := fun b o _ _ e => s b o e
theorem KpD.trans {dp dk : Addr} {H H1 H2 : Hp} (a : KpD dp dk H H1) (b : KpD dp dk H1 H2) : KpD dp dk H H2 := fun x o h1 h2 e => b x o h1 h2 (a x o h1 h2 e)
/-- a Closing by "two" or "and" of the family at f stands at c -/
structure CAt (C CC : Addr) (H : Hp) (c f lo dp dk : Addr) (n : Nat) (ms : List Nat) (o : Bool) (tp tk : Nat) : Prop where
  fam : FAt C (hide H dp dk) f n ms
  ob : ∃ (dx : Addr) (fs : List (Str × V)), H c = some (.ins CC dx fs) ∧ fs.lookup ("family" : Str) = some (.ref f) ∧ fs.lookup ("how" : Str) = some (wdV o) ∧ fs.lookup ("order" : Str) = some (.ref lo) ∧ fs.lookup ("others" : Str) = some (.ref lo) ∧
    fs.lookup ("parts" : Str) = some (.ref dp) ∧ fs.lookup ("known" : Str) = some (.ref dk) ∧ fs.lookup ("parts_in" : Str) = none ∧ fs.lookup ("misses" : Str) = none ∧ fs.lookup ("is_broken" : Str) = none ∧ fs.lookup ("third" : Str) = none
  row : H lo = some (.lst (ms.map vInt))
  pa : ∃ kp, H dp = some (.dK kp) ∧ kp.length ≤ tp ∧ ∀ (s : Nat) (v : V), valV kp (Sum.inl (s : Int) : Key) = some v → ∃ (p : Addr) (ps : List Nat), v = .ref p ∧ H p = some (.lst (ps.map vInt)) ∧ ps.length ≤ 1024 ∧ ∀ q, q ∈ ps ↔ ∃ o ∈ ms, o &&& s = q
  kn : ∃ kk, H dk = some (.dT kk) ∧ kk.length ≤ tk ∧ ∀ (s : Nat) (v : V), valV kk [(Sum.inl (0 : Int) : Key), Sum.inl (s : Int)] = some v → v = .bl (brk o ms 0 s)
theorem CAt.same {C CC : Addr} {H H' : Hp} {c f lo dp dk : Addr} {n : Nat} {ms : List Nat} {o : Bool} {tp tk : Nat} (h : CAt C CC H c f lo dp dk n ms o tp tk) (s : Same H H') : CAt C CC H' c f lo dp dk n ms o tp tk := by
  obtain ⟨h1, ⟨dx, fs, a1, a2⟩, h3, ⟨kp, p1, p2, p3⟩, ⟨kk, k1, k2, k3⟩⟩ := h
  refine ⟨h1.same (KpD.of s).hide, ⟨dx, fs, s _ _ a1, a2⟩, s _ _ h3, ⟨kp, s _ _ p1, p2, fun x v e => ?_⟩, ⟨kk, s _ _ k1, k2, k3⟩⟩
  obtain ⟨p, ps, q1, q2, q3⟩ := p3 x v e
  exact ⟨p, ps, q1, s _ _ q2, q3⟩
def spPartsIn (C CC : Addr) : Sp := fun vs H Q _ => ∃ (c f lo dp dk : Addr) (n : Nat) (ms : List Nat) (o : Bool) (tp tk s : Nat), vs = [.ref c, vInt s] ∧ CAt C CC H c f lo dp dk n ms o tp tk ∧ tp < 4000000 ∧
  ∀ (H' : Hp) (p : Addr) (ps : List Nat), CAt C CC H' c f lo dp dk n ms o (tp + 1) tk → KpD dp dk H H' → H' p = some (.lst (ps.map vInt)) → ps.length ≤ 1024 → (∀ q, q ∈ ps ↔ ∃ o ∈ ms, o &&& s = q) → Q (.ref p) H'
def spMisses (C CC : Addr) : Sp := fun vs H Q _ => ∃ (c f lo dp dk : Addr) (n : Nat) (ms : List Nat) (o : Bool) (tp tk b s : Nat), vs = [.ref c, vInt b, vInt s] ∧ CAt C CC H c f lo dp dk n ms o tp tk ∧ tp < 4000000 ∧
  ∀ H', CAt C CC H' c f lo dp dk n ms o (tp + 1) tk → KpD dp dk H H' → Q (.bl (brk o ms b s)) H'
def spIsBroken (C CC : Addr) : Sp := fun vs H Q _ => ∃ (c f lo dp dk : Addr) (n : Nat) (ms : List Nat) (o : Bool) (tp tk b s : Nat), vs = [.ref c, vInt b, vInt s] ∧ CAt C CC H c f lo dp dk n ms o tp tk ∧ tp < 4000000 ∧ tk < 4000000 ∧
  ∀ H', CAt C CC H' c f lo dp dk n ms o (tp + 1) (tk + 1) → KpD dp dk H H' → Q (.bl (brk o ms b s)) H'
def spThird (C CC : Addr) : Sp := fun vs H Q _ => ∃ (c f lo dp dk : Addr) (n : Nat) (ms : List Nat) (o : Bool) (tp tk b s : Nat), vs = [.ref c, vInt b, vInt s] ∧ CAt C CC H c f lo dp dk n ms o tp tk ∧
  ∀ (H' : Hp) (p : Addr), Same H H' → H p = none → H' p = some (.tup ((thL o ms b s).map vInt)) → Q (.ref p) H'
section
variable {P : Program} {w : World} {K : PySem.W.Frag} {mg : Str → Option Value} {base : Heap} {C CC B : Addr}
theorem scCWd : FnScope ["word"] ["word"] (defScope sCheckWord) := ⟨rfl, rfl, rfl, by decide +kernel, rfl, by decide +kernel, by decide +kernel⟩
theorem ok_check_word {f : Addr} {fd : FuncData} (F : Fun K "check_word" "check_word" sCheckWord f fd) (T : Bare mg) (T2 : Bare2 mg) (N : BadRaise P w K mg base B) (mC : mg "Family" = some (.ref C)) (Wd : Words K C) : FnOk P w K mg base (L2.CX P w) 3 f fd ["word"] (spCheckWord B) := by
  obtain ⟨g, gd, iC, tI, ok, b⟩ := N.init
  obtain ⟨mc, wu, wt, wr, wv, wS⟩ := Wd.ex
  refine F.okX scCWd (fun vs H Q E h => ?_) (fun cdv A outer s H vs Q E hr h => ?_)
  · obtain ⟨v, rfl, _⟩ := h
    rfl
  · obtain ⟨v, rfl, hv⟩ := h
    refine ⟨_, pss_one (ps_if (PW.pt (pw_or (pt_not (pt_val (pe_callB call_isi (by rfl) T.isi (by decide +kernel) (pa_cons (pv 0) (pa_cons (pe_ty (n := "str") (by rfl) T2.str (by decide +kernel)) pa_nil)))))
        (pw_or1 (pt_cmpR op_notIn_seq (pv 0) (ClX.pe_cval (pe_glob (v := .ref C) rfl mC rfl)) (by rfl)))))
        (pss_one (ps_raise rfl (takes_of rfl rfl rfl rfl) (pmk_oex N.oex iC tI ok hr b .nil pass0 rfl N.gB (pa_cons pe_str pa_nil)))) pss_nil), ?_⟩
    rcases hv with ⟨o, rfl, k⟩ | ⟨hb, k⟩
    · refine ⟨_, rfl, _, _, _, _, true, rfl, .ty _, .base (.str _), kit_ty (by decide +kernel), _, rfl, iteF ?_⟩
      cases o
      · exact ⟨_, rfl, C, mc, .ref wt, wu, rfl, wr, wv, wt, _, rfl, .inr (wS H), rfl, by decide +kernel, _, rfl, iteF k⟩
      · exact ⟨_, rfl, C, mc, .ref wt, wu, rfl, wr, wv, wt, _, rfl, .inr (wS H), rfl, by decide +kernel, _, rfl, iteF k⟩
    · rcases hb with rfl | rfl | rfl | rfl
      · refine ⟨_, rfl, _, _, _, _, true, rfl, .ty _, .base (.str _), kit_ty (by decide +kernel), _, rfl, iteF ?_⟩
        refine ⟨_, rfl, C, mc, .ref wt, wu, rfl, wr, wv, wt, _, rfl, .inr (wS H), rfl, by decide +kernel, _, rfl, iteT ?_⟩
        exact bad_read N (fun Q' q => q) k
      · refine ⟨_, rfl, _, _, _, _, false, rfl, .ty _, .base .non, kit_ty (by decide +kernel), _, rfl, iteT (iteT ?_)⟩
        exact bad_read N (fun Q' q => q) k
      · refine ⟨_, rfl, _, _, _, _, true, rfl, .ty _, .base (.str _), kit_ty (by decide +kernel), _, rfl, iteF ?_⟩
        refine ⟨_, rfl, C, mc, .ref wt, wu, rfl, wr, wv, wt, _, rfl, .inr (wS H), rfl, by decide +kernel, _, rfl, iteT ?_⟩
        exact bad_read N (fun Q' q => q) k
      · refine ⟨_, rfl, _, _, _, _, false, rfl, .ty _, .base (.int _), kit_ty (by decide +kernel), _, rfl, iteT (iteT ?_)⟩
        exact bad_read N (fun Q' q => q) k
abbrev nPI : List Str := ["self", "single", "other"]
theorem scPI : FnScope nPI ["self", "single"] (defScope sPartsIn) := ⟨rfl, rfl, rfl, by decide +kernel, rfl, by decide +kernel, by decide +kernel⟩
theorem ok_parts_in {f : Addr} {fd : FuncData} (F : Fun K "parts_in" "Closing.parts_in" sPartsIn f fd) (T : Bare mg) (CL : CloC K CC) : FnOk P w K mg base CX0 1 f fd ["self", "single"] (spPartsIn C CC) := by
  refine F.ok scPI (fun vs H Q E h => ?_) (fun cdv A outer s H vs Q E hr h => ?_)
  · obtain ⟨c, fa, lo, dp, dk, n, ms, o, tp, tk, x, rfl, _⟩ := h
    rfl
  · obtain ⟨c, fa, lo, dp, dk, n, ms, oo, tp, tk, x, rfl, hC, ht, k⟩ := h
    have hu := hu_of hr
    obtain ⟨hF, ⟨dx, fs, a1, a2, a3, a4, a5, a6, a7, a8, a9, b1, b2⟩, b3, ⟨kp, p1, p2, p3⟩, hkn⟩ := id hC
    obtain ⟨kk, k1, k2, k3⟩ := id hkn
    refine ⟨_, pss_cons (ps_if (pt_cmp (pc_dnotin hu (pv 1) (pe_fld (pv 0) rfl)))
        (pss_one (ps_dput hu (pe_fld (pv 0) rfl) (pv 1) (pe_callTy (call_list_dK rfl) (by rfl) T.list (by decide +kernel) (pa_cons (pe_dc (own := [("other", 2)]) (g := gName 2) (tt := tYes) rfl scPI.nd (pi_list (pe_fld (pv 0) rfl)) (blkOk_by (own := [("other", 2)]) (N := nPI) (sc := defScope sPartsIn) (by decide +kernel)) (fun _ _ _ _ _ => pg_name (i := 2) scPI.nd rfl (Or.inl rfl)) (fun _ _ _ _ _ => pts_nil)
          (fun _ _ _ _ _ => pe_op op_and (pv 2) (pv 1)) (fun _ _ _ _ _ => pe_bl)) pa_nil)) rfl)) pss_nil)
      (pss_one (ps_ret (pe_dget hu (pe_fld (pv 0) rfl) (pv 1) (fun _ _ => rfl)))), ?_⟩
    refine ⟨_, rfl, _, rfl, c, CC, dx, fs, _, rfl, a1, CL.cl, CL.parts, a6, dp, _, rfl, DGet.k (k := (Sum.inl (x : Int) : Key)) p1, _, rfl, ?_⟩
    cases e : valV kp (Sum.inl (x : Int) : Key) with
    | some v =>
      obtain ⟨p, ps, rfl, q2, q4, q3⟩ := p3 x v e
      refine iteF ⟨_, rfl, c, CC, dx, fs, _, rfl, a1, CL.cl, CL.parts, a6, _, rfl, dp, _, rfl, (by have z := DGet.k (k := (Sum.inl (x : Int) : Key)) p1; rw [e] at z; exact z), ?_⟩
      exact k H p ps ⟨hF, ⟨dx, fs, a1, a2, a3, a4, a5, a6, a7, a8, a9, b1, b2⟩, b3, ⟨kp, p1, by omega, p3⟩, hkn⟩ (KpD.of (Same.refl _)) q2 q4 q3
    | none =>
      refine iteT ⟨_, rfl, c, CC, dx, fs, _, rfl, a1, CL.cl, CL.others, a5, lo, rfl, ⟨_, SqL.of b3⟩, fun D hD => ?_⟩
      have h1024 : ms.length ≤ 1024 := by
        exact Nat.le_trans (nodup_len _ ms hF.ms.nd hF.ms.lt) (pow_le10 hF.h2)
      refine dc_lst (K := K) (a := lo) (xs := ms.map vInt) (fun i H' => Same H H' ∧ ∃ ks : List Nat, H' D = some (.dK (mK ks)) ∧ ks.length ≤ i ∧ ∀ q, q ∈ ks ↔ ∃ o ∈ ms.take i, o &&& x = q) ⟨same_new hD, [], upd_same, Nat.le_refl _, fun q => ⟨fun z => (by cases z), fun ⟨_, z, _⟩ => (by cases z)⟩⟩ (fun i H' _ h => SqL.of (h.1 _ _ b3)) ?_ ?_
      · rintro i y H1 hy ⟨sm, ks, hT, hl, hm⟩
        obtain ⟨hi, rfl⟩ := item hy
        refine ⟨rfl, _, rfl, _, rfl, _, _, rfl, rfl, mK ks, (Sum.inl ((ms[i] &&& x : Nat) : Int) : Key), congrArg V.int (bitAnd_nat _ _), hT, ?_, same_upd sm hD, ?_⟩
        · unfold mK
          rw [List.length_map]
          exact below (m := 100000) (by omega)
        · have hm2 : ∀ ks' : List Nat, (∀ q, q ∈ ks' ↔ q ∈ ks ∨ q = ms[i] &&& x) → ∀ q, q ∈ ks' ↔ ∃ o ∈ ms.take (i + 1), o &&& x = q := fun ks' h q => by
            rw [h, hm, take_more hi]
            constructor
            · rintro (⟨o, ho, e⟩ | e)
              · exact ⟨o, List.mem_append_left _ ho, e⟩
              · exact ⟨ms[i], List.mem_append_right _ List.mem_cons_self, e.symm⟩
            · rintro ⟨o, ho, e⟩
              rcases List.mem_append.mp ho with z | z
              · exact .inl ⟨o, z, e⟩
              · rw [List.mem_singleton.mp z] at e
                exact .inr e.symm
          by_cases hin : (ms[i] &&& x) ∈ ks
          · refine ⟨ks, by rw [upd_same, mK_old hin], by omega, hm2 ks fun q => ⟨.inl, fun z => z.elim id fun e => e ▸ hin⟩⟩
          · refine ⟨ks ++ [ms[i] &&& x], by rw [upd_same, mK_snoc _ _ hin], by rw [List.length_append]; exact Nat.succ_le_succ hl, hm2 _ fun q => ?_⟩
            rw [List.mem_append, List.mem_singleton]
      · rintro H1 ⟨sm, ks, hT, hl, hm⟩
        rw [List.length_map, List.take_length] at hm
        rw [List.length_map] at hl
        have hl2 : ks.length ≤ 1024 := Nat.le_trans hl h1024
        refine ⟨D, mK ks, rfl, hT, fun p hp => ?_⟩
        have ek : ((mK ks).map fun kv => kV kv.1) = ks.map vInt := by
          unfold mK
          rw [List.map_map]
          rfl
        rw [ek]
        have s2 : Same H (upd H1 p (.lst (ks.map vInt))) := sm.trans (same_new hp)
        have a1' := s2 _ _ a1
        have p1' := s2 _ _ p1
        refine ⟨_, rfl, c, CC, dx, fs, _, rfl, a1', CL.cl, CL.parts, a6, _, rfl, dp, _, rfl, DPut.k (k := (Sum.inl (x : Int) : Key)) p1' (below (m := 4000000) (by omega)), ?_⟩
        have hne : ∀ b o, b ≠ dp → H b = some o → (upd (upd H1 p (.lst (ks.map vInt))) dp (.dK (putK kp (Sum.inl (x : Int) : Key) (.ref p)))) b = some o := fun b o nb e => by
          rw [upd_ne nb]
          exact s2 _ _ e
        have npd : p ≠ dp := ne_of (upd_same (H := H1) (a := p)) p1' (by intro z; cases z)
        have hp' : (upd (upd H1 p (.lst (ks.map vInt))) dp (.dK (putK kp (Sum.inl (x : Int) : Key) (.ref p)))) p = some (.lst (ks.map vInt)) := by
          rw [upd_ne npd]
          exact upd_same
        have kd : KpD dp dk H (upd (upd H1 p (.lst (ks.map vInt))) dp (.dK (putK kp (Sum.inl (x : Int) : Key) (.ref p)))) := fun b o h1 _ e => hne b o h1 e
        have hcd : c ≠ dp := ne_of a1 p1 (by intro z; cases z)
        have hC' : CAt C CC (upd (upd H1 p (.lst (ks.map vInt))) dp (.dK (putK kp (Sum.inl (x : Int) : Key) (.ref p)))) c fa lo dp dk n ms oo (tp + 1) tk := by
          refine ⟨hF.same kd.hide, ⟨dx, fs, hne _ _ hcd a1, a2, a3, a4, a5, a6, a7, a8, a9, b1, b2⟩, hne _ _ (ne_of b3 p1 (by intro z; cases z)) b3,
            ⟨_, upd_same, Nat.le_trans (length_putK _ _ _) (Nat.succ_le_succ p2), fun s' v hv => ?_⟩, ⟨kk, hne _ _ (ne_of k1 p1 (by intro z; cases z)) k1, k2, k3⟩⟩
          rw [valV_put] at hv
          by_cases es : (Sum.inl (s' : Int) : Key) = Sum.inl (x : Int)
          · rw [if_pos es] at hv
            cases hv
            rw [Int.ofNat.inj (Sum.inl.inj es)]
            exact ⟨p, ks, rfl, hp', hl2, hm⟩
          · rw [if_neg es] at hv
            obtain ⟨p', ps, q1, q2, q4, q3⟩ := p3 s' v hv
            exact ⟨p', ps, q1, hne _ _ (ne_of q2 p1 (by intro z; cases z)) q2, q4, q3⟩
        refine ⟨_, rfl, c, CC, dx, fs, _, rfl, hne _ _ hcd a1, CL.cl, CL.parts, a6, _, rfl, dp, _, rfl, (by have z := DGet.k (H := (upd (upd H1 p (.lst (ks.map vInt))) dp (.dK (putK kp (Sum.inl (x : Int) : Key) (.ref p))))) (k := (Sum.inl (x : Int) : Key)) upd_same; rw [valV_put, if_pos rfl] at z; exact z), ?_⟩
        exact k _ p ks hC' kd hp' hl2 hm
end
end Fam

/-! Closing by "even": misses, is_broken, third. -/
namespace Fam
open PySem L2 OwnX
open C8 (pss_cut tCut)
section
variable {P : Program} {w : World} {K : PySem.W.Frag} {mg : Str → Option Value} {base : Heap} {C CC B : Addr}
abbrev nMI : List Str := ["self", "both", "single", "masks", "other", "part"]
theorem scMI : FnScope nMI ["self", "both", "single"] (defScope sMisses) := ⟨rfl, rfl, rfl, by decide +kernel, rfl, by decide +kernel, by decide +kernel⟩
theorem ok_misses {f : Addr} {fd : FuncData} (F : Fun K "misses" "Closing.misses" sMisses f fd) (T2 : Bare2 mg) (CL : CloC K CC) (FC : FamC K C) :
    FnOk P w K mg base CX0 1 f fd ["self", "both", "single"] (spMisses C CC) := by
  refine F.ok scMI (fun vs H Q E h => ?_) (fun cdv A outer s H vs Q E hr h => ?_)
  · obtain ⟨c, fa, lo, dp, dk, n, ms, o, tp, tk, b, x, rfl, _⟩ := h
    rfl
  · obtain ⟨c, fa, lo, dp, dk, n, ms, o, tp, tk, b, x, rfl, hC, ht, k⟩ := h
    have hu := hu_of hr
    obtain ⟨hF, ⟨dx, fs, a1, a2, a3, a4, a5, a6, a7, a8, a9, b1, b2⟩, hrow, hpa, hkn⟩ := id hC
    obtain ⟨dy, l, d, gs, ts, ms0, f1, f2, f3, f4, f5, f6, f7, f8, f9, f10, f11⟩ := hF.ex
    have f1' := hide_same _ _ _ _ _ f1
    have d0 := hide_same _ _ _ _ _ f11
    have hms0 : ∀ q, decide (q ∈ ms0) = decide (q ∈ ms) := fun q => decide_eq_decide.mpr f9.mem_iff
    have lms : ms.length ≤ 1024 := Nat.le_trans (nodup_len _ ms hF.ms.nd hF.ms.lt) (pow_le10 hF.h2)
    refine ⟨_, (pss_cons (ps_set (i := 3) scMI.nd rfl (Or.inr rfl) (pe_fld (pe_fld (pv 0) rfl) rfl))
      (pss_cons (ps_if (pt_cmpR op_eq (pe_fld (pv 0) rfl) pe_str (nomark _)) (pss_one ps_never) pss_nil)
      (pss_cons (ps_if (pt_cmpR op_eq (pe_fld (pv 0) rfl) pe_str (nomark _)) (pss_one ps_never) pss_nil)
      (pss_cons (ps_if (pt_cmpR op_eq (pe_fld (pv 0) rfl) pe_str (nomark _)) (pss_one (ps_ret (pe_callB (cr_any rfl : CallR _ _ (rAny K)) (by rfl) T2.any PyProof.Rows.boot_any (pa_cons (pe_lc (own := [("other", 4)]) (g := gName 4) (tt := tYes) rfl scMI.nd (pi_list (pe_fld (pv 0) rfl)) (blkOk_by (own := [("other", 4)]) (N := nMI) (sc := defScope sMisses) (by decide +kernel)) (fun _ _ _ _ _ => pg_name (i := 4) scMI.nd rfl (Or.inl rfl)) (fun _ _ _ _ _ => pts_nil) (fun _ _ _ _ _ => pe_cmp (pc_dnotin hu (pe_op op_xor (pv 4) (pv 2)) (pv 3)) rfl)) pa_nil)))) pss_nil)
      (pss_one ps_never))))), ?_⟩
    refine ⟨_, rfl, c, CC, dx, fs, _, rfl, a1, CL.cl, CL.family, a2, fa, C, dy, gs, _, rfl, f1', FC.cl, FC.masks, f4, ?_⟩
    refine ⟨_, rfl, c, CC, dx, fs, _, rfl, a1, CL.cl, CL.how, a3, rfl, _, rfl, ite2 (fun z => absurd (of_decide_eq_true z) (by cases o <;> decide +kernel)) fun _ => ?_⟩
    refine ⟨_, rfl, c, CC, dx, fs, _, rfl, a1, CL.cl, CL.how, a3, rfl, _, rfl, ite2 (fun z => absurd (of_decide_eq_true z) (by cases o <;> decide +kernel)) fun _ => ?_⟩
    refine ⟨_, rfl, c, CC, dx, fs, _, rfl, a1, CL.cl, CL.how, a3, rfl, _, rfl, ite2 (fun _ => ?_) fun z => absurd (decide_eq_true rfl) z⟩
    refine ⟨_, rfl, c, CC, dx, fs, _, rfl, a1, CL.cl, CL.order, a4, lo, rfl, ⟨_, SqL.of hrow⟩, fun D hD => ?_⟩
    refine lc_list (K := K) (a := lo) (xs := ms.map vInt) (fun i H' => Same H H' ∧ H' D = some (.lst (((ms.take i).map (thP ms b x)).map V.bl))) ⟨same_new hD, upd_same⟩ (fun i H' _ h => SqL.of (h.1 _ _ hrow)) ?_ ?_
    · rintro i y H2 hy ⟨sm, hT⟩
      obtain ⟨hi, rfl⟩ := item hy
      refine ⟨rfl, _, rfl, _, rfl, _, _, rfl, rfl, _, rfl, d, _, rfl, (by show DGet _ _ (V.int (Builtin.bitXor ((ms[i] : Nat) : Int) ((x : Nat) : Int))) _; rw [bitXor_nat]; exact DGet.k (k := (Sum.inl ((xorN ms[i] x : Nat) : Int) : Key)) (sm _ _ d0)), ?_⟩
      rw [some_mK, hms0]
      refine ⟨_, hT, ?_, same_upd sm hD, ?_⟩
      · rw [List.length_map, List.length_map, List.length_take]
        exact below (m := 100000) (by omega)
      · rw [upd_same, take_more hi, List.map_append, List.map_append]
        rfl
    · rintro H2 ⟨sm, hT⟩
      rw [List.length_map, List.take_length] at hT
      refine ⟨D, _, rfl, SqL.of hT, ?_⟩
      rw [List.any_map]
      obtain ⟨h1, h2, h3, ⟨kp', q5, q6, q7⟩, h5⟩ := hC.same sm
      exact k H2 ⟨h1, h2, h3, ⟨kp', q5, by omega, q7⟩, h5⟩ (KpD.of sm)
abbrev nIBr : List Str := ["self", "both", "single", "key"]
theorem scIBr : FnScope nIBr ["self", "both", "single"] (defScope sIsBroken) := ⟨rfl, rfl, rfl, by decide +kernel, rfl, by decide +kernel, by decide +kernel⟩
theorem ok_is_broken {f g : Addr} {fd gd : FuncData} (F : Fun K "is_broken" "Closing.is_broken" sIsBroken f fd) (CL : CloC K CC) (Mm : Meth K CC "misses" g) (okm : FnOk P w K mg base CX0 1 g gd ["self", "both", "single"] (spMisses C CC)) (bm : Binds K gd ["self", "both", "single"] []) :
    FnOk P w K mg base CX0 2 f fd ["self", "both", "single"] (spIsBroken C CC) := by
  refine F.ok scIBr (fun vs H Q E h => ?_) (fun cdv A outer s H vs Q E hr h => ?_)
  · obtain ⟨c, fa, lo, dp, dk, n, ms, o, tp, tk, b, x, rfl, _⟩ := h
    rfl
  · obtain ⟨c, fa, lo, dp, dk, n, ms, o, tp, tk, b, x, rfl, hC, ht, ht2, k⟩ := h
    have hu := hu_of hr
    obtain ⟨hF, ⟨dx, fs, a1, a2, a3, a4, a5, a6, a7, a8, a9, b1, b2⟩, hrow, ⟨kp, p1, _⟩, ⟨kk, k1, k2, k3⟩⟩ := id hC
    refine ⟨_, pss_cons (ps_set (i := 3) scIBr.nd rfl (Or.inl rfl) (pe_tup (pa_cons (pe_ifExp (pt_cmpR op_eq (pe_fld (pv 0) rfl) pe_str (nomark _)) pe_int (pv 1)) (pa_cons (pv 2) pa_nil))))
      (pss_cons (ps_if (pt_cmp (pc_dnotin hu (pv 3) (pe_fld (pv 0) rfl))) (pss_one (ps_dput hu (pe_fld (pv 0) rfl) (pv 3) (pe_meth (pv 0) CL.cl Mm okm hr bm .nil pass0 (pa_cons (pv 1) (pa_cons (pv 2) pa_nil))) rfl)) pss_nil)
      (pss_one (ps_ret (pe_dget hu (pe_fld (pv 0) rfl) (pv 3) (fun _ _ => rfl))))), ?_⟩
    refine ⟨_, rfl, c, CC, dx, fs, _, rfl, a1, CL.cl, CL.how, a3, rfl, _, rfl, ite2 (fun _ => ?_) fun z => absurd (decide_eq_true rfl) z⟩
    refine ⟨_, rfl, small (m := 2) (Nat.le_refl _), fun t ht' => ?_⟩
    have s1 : Same H (upd H t (.tup [V.int 0, vInt x])) := same_new ht'
    have hC1 := hC.same s1
    have tT : (upd H t (.tup [V.int 0, vInt x])) t = some (.tup ([(Sum.inl (0 : Int) : Key), Sum.inl (x : Int)].map kV)) := upd_same
    have k1' := s1 _ _ k1
    have a1' := s1 _ _ a1
    refine ⟨_, rfl, _, rfl, c, CC, dx, fs, _, rfl, a1', CL.cl, CL.known, a7, dk, _, rfl, DGet.t k1' tT, _, rfl, ?_⟩
    cases e : valV kk [(Sum.inl (0 : Int) : Key), Sum.inl (x : Int)] with
    | some v =>
      refine iteF ⟨_, rfl, c, CC, dx, fs, _, rfl, a1', CL.cl, CL.known, a7, _, rfl, dk, _, rfl, (by have z := DGet.t k1' tT; rw [e] at z; exact z), ?_⟩
      rw [k3 x v e]
      refine k _ ?_ (KpD.of s1)
      obtain ⟨q1, q2, q3, ⟨kp', q5, q6, q7⟩, ⟨kk', q8, q9, q10⟩⟩ := hC1
      exact ⟨q1, q2, q3, ⟨kp', q5, by omega, q7⟩, ⟨kk', q8, by omega, q10⟩⟩
    | none =>
      refine iteT ⟨_, rfl, c, dx, fs, rfl, a1', a9, _, rfl, _, rfl, c, fa, lo, dp, dk, n, ms, o, tp, tk, b, x, rfl, hC1, ht, fun H1 hC2 kd => ?_⟩
      have tdp : t ≠ dp := ne_of tT (s1 _ _ p1) (by intro z; cases z)
      have tdk : t ≠ dk := ne_of tT k1' (by intro z; cases z)
      have tT1 := kd _ _ tdp tdk tT
      obtain ⟨hF2, ⟨dx2, fs2, c1, c2, c3, c4, c5, c6, c7, c8, c9, d1, d2⟩, hrow2, ⟨kp2, p1', p2', p3'⟩, ⟨kk2, kk1, kk2', kk3⟩⟩ := id hC2
      refine ⟨_, rfl, c, CC, dx2, fs2, _, rfl, c1, CL.cl, CL.known, c7, _, rfl, dk, _, rfl, DPut.t kk1 tT1 (below (m := 4000000) (by omega)), ?_⟩
      have hne : ∀ y u, y ≠ dk → H1 y = some u → (upd H1 dk (.dT (putK kk2 [(Sum.inl (0 : Int) : Key), Sum.inl (x : Int)] (.bl (brk o ms b x))))) y = some u := fun y u ny e => by
        rw [upd_ne ny]
        exact e
      have kd2 : KpD dp dk H1 (upd H1 dk (.dT (putK kk2 [(Sum.inl (0 : Int) : Key), Sum.inl (x : Int)] (.bl (brk o ms b x))))) := fun y u _ h2 e => hne y u h2 e
      have hcd : c ≠ dk := ne_of c1 kk1 (by intro z; cases z)
      refine ⟨_, rfl, c, CC, dx2, fs2, _, rfl, hne _ _ hcd c1, CL.cl, CL.known, c7, _, rfl, dk, _, rfl, (by
        have z := DGet.t (H := (upd H1 dk (.dT (putK kk2 [(Sum.inl (0 : Int) : Key), Sum.inl (x : Int)] (.bl (brk o ms b x)))))) upd_same (hne _ _ tdk tT1)
        rw [valV_put, if_pos rfl] at z
        exact z), ?_⟩
      refine k _ ⟨hF2.same kd2.hide, ⟨dx2, fs2, hne _ _ hcd c1, c2, c3, c4, c5, c6, c7, c8, c9, d1, d2⟩, hne _ _ (ne_of hrow2 kk1 (by intro z; cases z)) hrow2,
        ⟨kp2, hne _ _ (ne_of p1' kk1 (by intro z; cases z)) p1', p2', fun y v hv => ?_⟩, ⟨_, upd_same, Nat.le_trans (length_putK _ _ _) (Nat.succ_le_succ kk2'), fun x' v hv => ?_⟩⟩ ((KpD.of s1).trans (kd.trans kd2))
      · obtain ⟨p, ps, q1, q2, q3, q4⟩ := p3' y v hv
        exact ⟨p, ps, q1, hne _ _ (ne_of q2 kk1 (by intro z; cases z)) q2, q3, q4⟩
      · rw [valV_put] at hv
        by_cases es : [(Sum.inl (0 : Int) : Key), Sum.inl (x' : Int)] = [(Sum.inl (0 : Int) : Key), Sum.inl (x : Int)]
        · rw [if_pos es] at hv
          cases hv
          have e2 := (List.cons.inj (List.cons.inj es).2).1
          rw [Int.ofNat.inj (Sum.inl.inj e2)]
          rfl
        · rw [if_neg es] at hv
          exact kk3 x' v hv
abbrev nTH : List Str := ["self", "both", "single", "masks", "other"]
theorem scTH : FnScope nTH ["self", "both", "single"] (defScope sThird) := ⟨rfl, rfl, rfl, by decide +kernel, rfl, by decide +kernel, by decide +kernel⟩
theorem ok_third {f : Addr} {fd : FuncData} (F : Fun K "third" "Closing.third" sThird f fd) (CL : CloC K CC) (FC : FamC K C) : FnOk P w K mg base CX0 1 f fd ["self", "both", "single"] (spThird C CC) := by
  refine F.ok scTH (fun vs H Q E h => ?_) (fun cdv A outer s H vs Q E hr h => ?_)
  · obtain ⟨c, fa, lo, dp, dk, n, ms, o, tp, tk, b, x, rfl, _⟩ := h
    rfl
  · obtain ⟨c, fa, lo, dp, dk, n, ms, o, tp, tk, b, x, rfl, hC, k⟩ := h
    have hu := hu_of hr
    obtain ⟨hF, ⟨dx, fs, a1, a2, a3, a4, a5, a6, a7, a8, a9, b1, b2⟩, hrow, _, _⟩ := id hC
    obtain ⟨dy, l, d, gs, ts, ms0, f1, f2, f3, f4, f5, f6, f7, f8, f9, f10, f11⟩ := hF.ex
    have f1' := hide_same _ _ _ _ _ f1
    have d1 := hide_same _ _ _ _ _ f11
    have hms0 : ∀ q, decide (q ∈ ms0) = decide (q ∈ ms) := fun q => decide_eq_decide.mpr f9.mem_iff
    refine ⟨_, (pss_cons (ps_set (i := 3) scTH.nd rfl (Or.inl rfl) (pe_fld (pe_fld (pv 0) rfl) rfl))
      (pss_cons (ps_if (PW.pt (pw_or (pt_cmpR op_eq (pe_fld (pv 0) rfl) pe_str (nomark _)) (pw_or1 (pt_cmpR op_eq (pe_fld (pv 0) rfl) pe_str (nomark _))))) (pss_one (ps_ret (pe_tup pa_nil))) pss_nil)
      (pss_cons (ps_for PassesOwn.never rfl (pi_list (pe_fld (pv 0) rfl)) (pg_name (i := 4) scTH.nd rfl (Or.inl rfl))
          (pss_cons (ps_if (PW.pt (pw_and (pt_cmpR op_eq (pe_fld (pv 0) rfl) pe_str (nomark _)) (pw_and1 (pt_cmp (pc_dnotin hu (pe_op op_xor (pv 4) (pv 2)) (pv 3)))))) (pss_one (ps_ret (pe_tup (pa_cons (pv 4) pa_nil)))) pss_nil)
          (pss_cons (ps_if (PW.pt (pw_and (pt_cmpR op_eq (pe_fld (pv 0) rfl) pe_str (nomark _)) (pw_and1 (pt_cmp (pc_dnotin hu (pe_op op_or (pv 1) (pe_op op_and (pv 4) (pv 2))) (pv 3)))))) (pss_one ps_never) pss_nil)
          (pss_one (ps_if (PW.pt (pw_and (pt_cmpR op_eq (pe_fld (pv 0) rfl) pe_str (nomark _)) (pw_and (pt_cmp (pc_dnotin hu (pv 4) (pv 3))) (pw_and1 (pt_cmpR op_eq (pe_op op_and (pv 4) (pe_un un_inv (pv 2))) (pv 1) (nomark _)))))) (pss_one ps_never) pss_nil)))))
      (pss_one (ps_ret (pe_tup pa_nil)))))), ?_⟩
    refine ⟨_, rfl, c, CC, dx, fs, _, rfl, a1, CL.cl, CL.family, a2, fa, C, dy, gs, _, rfl, f1', FC.cl, FC.masks, f4, ?_⟩
    refine ⟨_, rfl, c, CC, dx, fs, _, rfl, a1, CL.cl, CL.how, a3, rfl, _, rfl, ite2 (fun z => absurd (of_decide_eq_true z) (by cases o <;> decide +kernel)) fun _ => ?_⟩
    refine ⟨_, rfl, c, CC, dx, fs, _, rfl, a1, CL.cl, CL.how, a3, rfl, _, rfl, ite2 (fun z => absurd (of_decide_eq_true z) (by cases o <;> decide +kernel)) fun _ => ?_⟩
    refine ⟨_, rfl, c, CC, dx, fs, _, rfl, a1, CL.cl, CL.others, a5, lo, rfl, ⟨_, SqL.of hrow⟩, ?_⟩
    refine for_list (xs := ms.map vInt) (fun i σ H' => H' = H ∧ (∃ y, σ = [some (.ref c), some (vInt b), some (vInt x), some (.ref d), y]) ∧ ∀ z ∈ ms.take i, thP ms b x z = false) ⟨rfl, ⟨none, rfl⟩, fun z hz => by cases hz⟩ (fun i σ H' _ h => by rw [h.1]; exact SqL.of hrow) ?_ ?_
    · rintro i y σ H' hy ⟨rfl, ⟨y4, rfl⟩, hno⟩
      obtain ⟨hi, rfl⟩ := item hy
      refine ⟨_, rfl, c, CC, dx, fs, _, rfl, a1, CL.cl, CL.how, a3, rfl, _, rfl, ite2 (fun _ => ?_) fun z => absurd (decide_eq_true rfl) z⟩
      have edg : DGet H' d (V.int (Builtin.bitXor ((ms[i] : Nat) : Int) ((x : Nat) : Int))) (valV (mK ms0) (Sum.inl ((xorN ms[i] x : Nat) : Int) : Key)) := by
        rw [bitXor_nat]
        exact DGet.k (k := (Sum.inl ((xorN ms[i] x : Nat) : Int) : Key)) d1
      refine ⟨_, rfl, _, rfl, _, _, rfl, rfl, _, rfl, d, _, rfl, edg, ?_⟩
      rw [some_mK, hms0]
      cases ht : thP ms b x ms[i] with
      | true =>
        have ht' : (!decide (xorN ms[i] x ∈ ms)) = true := ht
        rw [ht']
        refine ⟨_, rfl, iteT ⟨_, rfl, small (m := 1) (Nat.le_refl _), fun p hp => k _ p (same_new hp) hp ?_⟩⟩
        rw [upd_same]
        show _ = some (HO.tup (((ms.find? (thP ms b x)).toList).map vInt))
        rw [find_at hi hno ht]
        rfl
      | false =>
        have ht' : (!decide (xorN ms[i] x ∈ ms)) = false := ht
        rw [ht']
        refine ⟨_, rfl, iteF ?_⟩
        refine ⟨_, rfl, c, CC, dx, fs, _, rfl, a1, CL.cl, CL.how, a3, rfl, _, rfl, ite2 (fun z => absurd (of_decide_eq_true z) (by cases o <;> decide +kernel)) fun _ => ?_⟩
        refine ⟨_, rfl, c, CC, dx, fs, _, rfl, a1, CL.cl, CL.how, a3, rfl, _, rfl, ite2 (fun z => absurd (of_decide_eq_true z) (by cases o <;> decide +kernel)) fun _ => ?_⟩
        refine ⟨rfl, ⟨_, rfl⟩, fun z hz => ?_⟩
        rw [take_more hi] at hz
        rcases List.mem_append.mp hz with q | q
        · exact hno z q
        · rw [List.mem_singleton.mp q]
          exact ht
    · rintro σ H' ⟨rfl, ⟨y4, rfl⟩, hno⟩
      rw [List.length_map, List.take_length] at hno
      refine ⟨small (m := 1) (Nat.zero_le _), fun p hp => k _ p (same_new hp) hp ?_⟩
      rw [upd_same]
      show _ = some (HO.tup (((ms.find? (thP ms b x)).toList).map vInt))
      rw [List.find?_eq_none.mpr fun z hz => by rw [hno z hz]; decide]
      rfl
end
end Fam

/-! Closing.__init__. -/
namespace Fam
open PySem L2 OwnX
open C8 (pss_cut tCut)
def tNo : TE := fun _ _ _ => False
theorem pe_no {X : Cx} {e : Expr} : PE X e tNo := ⟨fun _ _ _ _ _ _ h => h.elim⟩
/-- all that stood but x stands -/
def But (x : Addr) (H H' : Hp) : Prop := ∀ b o, b ≠ x → H b = some o → H' b = some o
theorem But.refl (x : Addr) (H : Hp) : But x H H := fun _ _ _ e => e
theorem But.trans {x : Addr} {H H1 H2 : Hp} (a : But x H H1) (b : But x H1 H2) : But x H H2 := fun y o n e => b y o n (a y o n e)
theorem But.of {x : Addr} {H H' : Hp} (s : Same H H') : But x H H' := fun b o _ e => s b o e
theorem But.put {x : Addr} {H : Hp} {o : HO} : But x H (upd H x o) := fun b u n e => by
  rw [upd_ne n]
  exact e
theorem FAt.but {C CC : Addr} {H H' : Hp} {x dx f : Addr} {fs : List (Str × V)} {n : Nat} {ms : List Nat} (h : FAt C H f n ms) (hx : H x = some (.ins CC dx fs)) (hf : f ≠ x) (k : But x H H') : FAt C H' f n ms := by
  obtain ⟨⟨dy, l, d, gs, ts, ms0, a1, a2, a3, a4, a5, a6, a7, a8, a9, a10, a11⟩, h1, h2, h3⟩ := h
  refine ⟨⟨dy, l, d, gs, ts, ms0, k _ _ hf a1, a2, a3, a4, a5, a6, k _ _ (ne_of a7 hx (by intro z; cases z)) a7, a8.tups fun p ys e => k _ _ (ne_of e hx (by intro z; cases z)) e, a9, a10, k _ _ (ne_of a11 hx (by intro z; cases z)) a11⟩, h1, h2, h3⟩
theorem FAt.ne {C CC : Addr} {H : Hp} {x dx f : Addr} {n : Nat} {ms : List Nat} (h : FAt C H f n ms) (hx : H x = some (.ins CC dx [])) : f ≠ x := by
  obtain ⟨⟨dy, l, d, gs, ts, ms0, a1, a2, _⟩, _⟩ := h
  intro e
  rw [e, hx] at a1
  cases a1
  cases a2
def spClInit (C CC : Addr) : Sp := fun vs H Q _ => ∃ (x dx f : Addr) (n : Nat) (ms : List Nat) (o : Bool), vs = [.ref x, .ref f, wdV o] ∧ H x = some (.ins CC dx []) ∧ FAt C H f n ms ∧
  ∀ (H' : Hp) (lo dp dk : Addr) (ms0 : List Nat), But x H H' → H dp = none → H dk = none → dp ≠ x → dk ≠ x → ms0.Perm ms → ms0.Pairwise lotLe → CAt C CC H' x f lo dp dk n ms0 o 0 0 → Q .non H'
section
variable {P : Program} {w : World} {K : PySem.W.Frag} {mg : Str → Option Value} {base : Heap} {C CC : Addr}
abbrev nCI : List Str := ["self", "family", "word", "lot"]
theorem scCI : FnScope nCI ["self", "family", "word"] (defScope sClInit) := ⟨rfl, rfl, rfl, by decide +kernel, rfl, by decide +kernel, by decide +kernel⟩
theorem ok_cl_init {f fi : Addr} {fd : FuncData} (F : Fun K "__init__" "Closing.__init__" sClInit f fd) (CL : CloC K CC) (FC : FamC K C) (O : OwnIt P w K mg base C fi "lots") (GM : Cal P w K mg base 1 "mask_of" ["lot"] spMaskOf) :
    FnOk P w K mg base CX0 2 f fd ["self", "family", "word"] (spClInit C CC) := by
  obtain ⟨gm, gmd, okm, bm, km, mm⟩ := GM.ex
  refine F.ok scCI (fun vs H Q E h => ?_) (fun cdv A outer s H vs Q E hr h => ?_)
  · obtain ⟨x, dx, fa, n, ms, o, rfl, _⟩ := h
    rfl
  · obtain ⟨x, dx, fa, n, ms, o, rfl, hx, hF, k⟩ := h
    have hr1 := hr.mono (j := 1) (by decide)
    have hfx := hF.ne hx
    have h10 := pow_le10 hF.h2
    refine ⟨_, pss_cons (ps_fld (pv 0) (pv 1) rfl)
      (pss_cons (ps_fld (pv 0) (pv 2) rfl)
      (pss_cons (ps_fld (pv 0) (pe_lc (own := [("lot", 3)]) (g := gName 3) (tt := tYes) rfl scCI.nd (pi_own O hr1 (pv 1)) (blkOk_by (own := [("lot", 3)]) (N := nCI) (sc := defScope sClInit) (by decide +kernel)) (fun _ _ _ _ _ => pg_name (i := 3) scCI.nd rfl (Or.inl rfl)) (fun _ _ _ _ _ => pts_nil)
        (fun _ _ _ _ _ => pe_call okm hr1 rfl mm km bm .nil pass0 (pa_cons (pv 3) pa_nil))) rfl)
      (pss_cons (ps_fld (pv 0) (pe_ifExp (pt_cmpR op_eq (pv 2) pe_str (nomark _)) pe_no (pe_fld (pv 0) rfl)) rfl)
      (pss_cons (ps_fld (pv 0) pe_dnewK rfl)
      (pss_one (ps_fld (pv 0) pe_dnewT rfl)))))), ?_⟩
    -- self.family, self.how
    refine ⟨_, rfl, _, rfl, x, CC, dx, _, rfl, hx, CL.cl, CL.family, (by show 0 < 1000; decide), ?_⟩
    refine ⟨_, rfl, _, rfl, x, CC, dx, _, rfl, upd_same, CL.cl, CL.how, (by show 1 < 1000; decide), ?_⟩
    obtain ⟨F2, hF2⟩ : ∃ F2, F2 = putF "how" (wdV o) (putF "family" (.ref fa) []) := ⟨_, rfl⟩
    obtain ⟨H2, hH2⟩ : ∃ H2, H2 = upd (upd H x (.ins CC dx (putF "family" (.ref fa) []))) x (.ins CC dx F2) := ⟨_, rfl⟩
    rw [← hF2, ← hH2]
    have but2 : But x H H2 := by rw [hH2]; exact But.put.trans But.put
    have hx2 : H2 x = some (.ins CC dx F2) := by rw [hH2]; exact upd_same
    have fam2 := hF.but hx hfx but2
    obtain ⟨⟨dy, l, d, gs, ts, ms0, f1, f2, f3, f4, f5, f6, f7, f8, f9, f10, f11⟩, _⟩ := id fam2
    have hlen : ms0.length ≤ 1024 := by
      rw [f9.length_eq]
      exact Nat.le_trans (nodup_len _ ms hF.ms.nd hF.ms.lt) h10
    -- self.order
    refine ⟨_, rfl, fa, dy, l, gs, rfl, f1, f3, ⟨_, SqT.of f7⟩, fun D hD => ?_⟩
    refine lc_tup (K := K) (a := l) (xs := ts) (fun i H' => Same H2 H' ∧ H' D = some (.lst ((ms0.take i).map vInt))) ⟨same_new hD, upd_same⟩ (fun i H' _ h => SqT.of (h.1 _ _ f7)) ?_ ?_
    · rintro i y H3 hy ⟨sm, hT⟩
      obtain ⟨hi, p, rfl, hp⟩ := f8.get hy
      have hlt := hF.ms.lt _ (f9.mem_iff.mp (List.getElem_mem hi))
      refine ⟨rfl, _, rfl, p, ms0[i], rfl, sm _ _ hp, by omega, _, hT, ?_, same_upd sm hD, ?_⟩
      · rw [List.length_map, List.length_take]
        exact below (m := 100000) (by omega)
      · rw [upd_same, take_more hi, List.map_append]
        rfl
    rintro H3 ⟨sm3, hT3⟩
    rw [f8.len, List.take_length] at hT3
    have hx3 := sm3 _ _ hx2
    refine ⟨_, rfl, x, CC, dx, _, rfl, hx3, CL.cl, CL.order, (by rw [hF2]; show 2 < 1000; decide), ?_⟩
    obtain ⟨F3, hF3⟩ : ∃ F3, F3 = putF "order" (.ref D) F2 := ⟨_, rfl⟩
    obtain ⟨H4, hH4⟩ : ∃ H4, H4 = upd H3 x (.ins CC dx F3) := ⟨_, rfl⟩
    rw [← hF3, ← hH4]
    have but4 : But x H2 H4 := by rw [hH4]; exact (But.of sm3).trans But.put
    have hx4 : H4 x = some (.ins CC dx F3) := by rw [hH4]; exact upd_same
    have hDx : D ≠ x := ne_of hT3 hx3 (by intro z; cases z)
    have hT4 : H4 D = some (.lst (ms0.map vInt)) := by rw [hH4, upd_ne hDx]; exact hT3
    -- self.others
    refine ⟨_, rfl, rfl, _, rfl, ite2 (fun z => absurd (of_decide_eq_true z) (by cases o <;> decide +kernel)) fun _ => ?_⟩
    refine ⟨_, rfl, x, CC, dx, _, _, rfl, hx4, CL.cl, CL.order, by rw [hF3]; exact lk_same, ?_⟩
    refine ⟨_, rfl, x, CC, dx, _, rfl, hx4, CL.cl, CL.others, (by rw [hF3, hF2]; show 3 < 1000; decide), ?_⟩
    obtain ⟨F4, hF4⟩ : ∃ F4, F4 = putF "others" (.ref D) F3 := ⟨_, rfl⟩
    obtain ⟨H7, hH7⟩ : ∃ H7, H7 = upd H4 x (.ins CC dx F4) := ⟨_, rfl⟩
    rw [← hF4, ← hH7]
    have but7 : But x H4 H7 := by rw [hH7]; exact But.put
    have hx7 : H7 x = some (.ins CC dx F4) := by rw [hH7]; exact upd_same
    have hT7' := but7 _ _ hDx hT4
    have but07 : But x H H7 := but2.trans (but4.trans but7)
    -- self.parts, self.known
    intro d1 hd1
    have hd1x : d1 ≠ x := (ne_of_none hx7 hd1).symm
    refine ⟨_, rfl, x, CC, dx, _, rfl, by rw [upd_ne hd1x.symm]; exact hx7, CL.cl, CL.parts, (by rw [hF4, hF3, hF2]; show 4 < 1000; decide), ?_⟩
    intro d2 hd2
    have hd2x : d2 ≠ x := (ne_of_none (upd_same (H := upd H7 d1 (.dK [])) (a := x)) hd2).symm
    have hd21 : d2 ≠ d1 := by
      intro e
      rw [e, upd_ne hd1x, upd_same] at hd2
      cases hd2
    have hd27 : H7 d2 = none := by
      rw [upd_ne hd2x, upd_ne hd21] at hd2
      exact hd2
    refine ⟨_, rfl, x, CC, dx, _, rfl, by rw [upd_ne hd2x.symm]; exact upd_same, CL.cl, CL.known, (by rw [hF4, hF3, hF2]; show 5 < 1000; decide), ?_⟩
    have free0 : ∀ {e : Addr}, H7 e = none → e ≠ x → H e = none := fun {e} h1 h2 => by
      cases q : H e with
      | none => rfl
      | some o => rw [but07 _ _ h2 q] at h1; cases h1
    obtain ⟨H9, hH9⟩ : ∃ H9, H9 = upd (upd (upd (upd H7 d1 (.dK [])) x (.ins CC dx (putF "parts" (.ref d1) F4))) d2 (.dT [])) x (.ins CC dx (putF "known" (.ref d2) (putF "parts" (.ref d1) F4))) := ⟨_, rfl⟩
    rw [← hH9]
    have but9 : But x H7 H9 := by
      rw [hH9]
      intro b o hb e
      rw [upd_ne hb, upd_ne (ne_of_none e hd27), upd_ne hb, upd_ne (ne_of_none e hd1)]
      exact e
    have h9d1 : H9 d1 = some (.dK []) := by rw [hH9, upd_ne hd1x, upd_ne hd21.symm, upd_ne hd1x]; exact upd_same
    have h9d2 : H9 d2 = some (.dT []) := by rw [hH9, upd_ne hd2x]; exact upd_same
    have but09 := but07.trans but9
    have fam9 : FAt C (hide H9 d1 d2) fa n ms := by
      refine hF.but hx hfx fun b o hb e => hide_of ?_ ?_ (but09 _ _ hb e)
      · intro z
        rw [z, free0 hd1 hd1x] at e
        cases e
      · intro z
        rw [z, free0 hd27 hd2x] at e
        cases e
    refine k H9 D d1 d2 ms0 but09 (free0 hd1 hd1x) (free0 hd27 hd2x) hd1x hd2x f9 f10 ⟨fam9.perm f9.symm, ⟨dx, _, by rw [hH9]; exact upd_same, ?_, ?_, ?_, ?_, ?_, ?_, ?_, ?_, ?_, ?_⟩, but9 _ _ hDx hT7', ⟨[], h9d1, Nat.le_refl _, fun s v z => by cases z⟩, ⟨[], h9d2, Nat.le_refl _, fun s v z => by cases z⟩⟩
    all_goals
      rw [hF4, hF3, hF2]
      repeat (first | exact lk_same | exact rfl | refine (lk_ne (by decide +kernel)).trans ?_)
end
end Fam

/-! broken. -/
namespace Fam
open PySem L2 OwnX
open C8 (pss_cut tCut)
abbrev sBroken : Stmt := top 42
theorem for_enum {K : PySem.W.Frag} {a : Addr} {xs : List V} {g : TG} {tb : TS} {D : Ends} {σ : L2.St} {H : Hp} (Pv : Nat → L2.St → Hp → Prop) (h0 : Pv 0 σ H) (hl : ∀ i σ H, i ≤ xs.length → Pv i σ H → SqL K H a xs)
    (hs : ∀ i x σ H T, xs[i]? = some x → Pv i σ H → H T = none → g (.ref T) σ (upd H T (.tup [.int (i : Nat), x])) fun σ2 H2 => tb { D with nx := Pv (i + 1), ct := Pv (i + 1), bk := D.nx } σ2 H2) (hd : ∀ σ H, Pv xs.length σ H → D.nx σ H) :
    ∃ W : Nat → Nat → L2.St → Hp → Prop, (∃ m, W 0 m σ H) ∧ ∀ i m σ H, W i m σ H →
      ((Ite K a).stop i H ∧ D.nx σ H) ∨ ((Ite K a).go i H ∧ ∃ N : L2.St → Hp → Prop, (∀ σ' H', N σ' H' → ∃ m', m' < m ∧ W (i + 1) m' σ' H') ∧ ∀ x H', (Ite K a).yld i H x H' → g x σ H' fun σ2 H2 => tb { D with nx := N, ct := N, bk := D.nx } σ2 H2) := by
  refine ⟨fun i m σ H => m = xs.length - i ∧ i ≤ xs.length ∧ Pv i σ H, ⟨xs.length, rfl, Nat.zero_le _, h0⟩, ?_⟩
  rintro i _ σ H ⟨rfl, hi, p⟩
  have q := hl i σ H hi p
  rcases Nat.lt_or_ge i xs.length with lt | ge
  · refine .inr ⟨⟨xs, xs[i], q, List.getElem?_eq_getElem lt⟩, Pv (i + 1), fun σ' H' p' => ⟨xs.length - (i + 1), by omega, rfl, lt, p'⟩, ?_⟩
    rintro y H' ⟨T, x, rfl, hT, rfl, hx⟩
    exact hs i x σ H T (hx xs q) p hT
  · have e : i = xs.length := Nat.le_antisymm hi ge
    subst e
    exact .inl ⟨⟨xs, q, Nat.le_refl _⟩, hd σ H p⟩
theorem cut_drop (xs : List V) {i : Nat} (h : i ≤ xs.length) : cutV xs (some (i : Int)) none = xs.drop i := by
  unfold cutV
  rw [HT.sIx_nat, HT.sIx_none, Nat.min_eq_left h]
  exact List.take_of_length_le (by rw [List.length_drop]; exact Nat.le_refl _)
theorem kpd_old {dp dk : Addr} {H H1 H2 : Hp} (s : Same H H1) (k : KpD dp dk H1 H2) (h1 : H dp = none) (h2 : H dk = none) : Same H H2 := fun b o e => k b o (ne_of_none e h1) (ne_of_none e h2) (s b o e)
def spBroken (B C : Addr) : Sp := fun vs H Q E => ∃ (f : Addr) (n : Nat) (ms : List Nat) (word : V), vs = [.ref f, word] ∧ FAt C H f n ms ∧
  ((∃ o : Bool, word = wdV o ∧ ∀ (H' : Hp) (ms0 : List Nat), ms0.Perm ms → ms0.Pairwise lotLe → Same H H' → (pairD (bad2 o ms) ms0 = none → Q .non H') ∧
      (∀ x y ps p, pairD (bad2 o ms) ms0 = some (x, y) → H' p = some (.tup ps) → LotsAt H' ps ([x, y] ++ thL o ms0 (x &&& y) (xorN x y)) → Q (.ref p) H'))
    ∨ (badAll word ∧ ∀ (d : Addr) (H' : Hp), Same H H' → H d = none → H' d = some (.xd [("which", .str "word")]) → E (.ref B) (some d) H'))
section
variable {P : Program} {w : World} {K : PySem.W.Frag} {mg : Str → Option Value} {base : Heap} {C CC B : Addr}
abbrev nBR : List Str := ["family", "word", "closing", "at", "one", "two", "masks", "mask"]
theorem scBR : FnScope nBR ["family", "word"] (defScope sBroken) := ⟨rfl, rfl, rfl, by decide +kernel, rfl, by decide +kernel, by decide +kernel⟩
theorem ok_broken {f gi gb gt : Addr} {fd gid gbd gtd : FuncData} (F : Fun K "broken" "broken" sBroken f fd) (T : Bare mg) (T2 : Bare2 mg) (CL : CloC K CC) (FC : FamC K C) (mCC : mg "Closing" = some (.ref CC))
    (GW : CalE P w K mg base 3 "check_word" ["word"] (spCheckWord B)) (GL : Cal P w K mg base 1 "lot_of_mask" ["mask", "size"] spLotOfMask)
    (MK : Mk K CC gi) (oki : FnOk P w K mg base CX0 2 gi gid ["self", "family", "word"] (spClInit C CC)) (bi : Binds K gid ["self", "family", "word"] [])
    (Mb : Meth K CC "is_broken" gb) (okb : FnOk P w K mg base CX0 3 gb gbd ["self", "both", "single"] (spIsBroken C CC)) (bb : Binds K gbd ["self", "both", "single"] [])
    (Mt : Meth K CC "third" gt) (okt : FnOk P w K mg base CX0 1 gt gtd ["self", "both", "single"] (spThird C CC)) (bt : Binds K gtd ["self", "both", "single"] []) :
    FnOk P w K mg base (L2.CX P w) 5 f fd ["family", "word"] (spBroken B C) := by
  obtain ⟨gw, gwd, okw, bw, kw, mw⟩ := GW.ex
  obtain ⟨gl, gld, okl, bl, kl, ml⟩ := GL.ex
  refine F.okX scBR (fun vs H Q E h => ?_) (fun cdv A outer s H vs Q E hr h => ?_)
  · obtain ⟨fa, n, ms, word, rfl, _⟩ := h
    rfl
  · obtain ⟨fa, n, ms, word, rfl, hF, hw⟩ := h
    obtain ⟨hms, h1, h2⟩ : Masks n ms ∧ 1 ≤ n ∧ n ≤ 10 := ⟨hF.ms, hF.h1, hF.h2⟩
    have hr3 := hr.mono (j := 3) (by decide)
    have hr1 := hr.mono (j := 1) (by decide)
    refine ⟨_, pss_cons (ps_expr (pe_call okw hr3 rfl mw kw bw .nil (passes_call (takes_of rfl rfl rfl rfl) (fun _ _ _ _ h => h)) (pa_cons (pv 1) pa_nil)))
      (PSs.nox (pss_cons (ps_set (i := 2) scBR.nd rfl (Or.inl rfl) (pe_make MK oki hr3 rfl mCC bi .nil pass0 (pa_cons (pv 0) (pa_cons (pv 1) pa_nil))))
      (pss_cons (ps_for PassesOwn.never rfl (pi_enum (by rfl) T2.enumerate (pa_cons (pe_fld (pv 2) rfl) pa_nil)) (pg_tup rfl (pgs_cons (pg_name (i := 3) scBR.nd rfl (Or.inl rfl)) (pgs_cons (pg_name (i := 4) scBR.nd rfl (Or.inl rfl)) pgs_nil)))
        (pss_one (ps_for PassesOwn.never rfl (pi_list (pe_slice sl_list (pe_fld (pv 2) rfl) (po_some (pv 3)) po_none)) (pg_name (i := 5) scBR.nd rfl (Or.inl rfl))
          (pss_one (ps_if (pt_val (pe_meth (pv 2) CL.cl Mb okb hr3 bb .nil pass0 (pa_cons (pe_op op_and (pv 4) (pv 5)) (pa_cons (pe_op op_xor (pv 4) (pv 5)) pa_nil))))
            (pss_cons (ps_set (i := 6) scBR.nd rfl (Or.inl rfl) (pe_op op_catT (pe_tup (pa_cons (pv 4) (pa_cons (pv 5) pa_nil))) (pe_meth (pv 2) CL.cl Mt okt hr1 bt .nil pass0 (pa_cons (pe_op op_and (pv 4) (pv 5)) (pa_cons (pe_op op_xor (pv 4) (pv 5)) pa_nil)))))
            (pss_one (ps_ret (pe_tupleOf rfl T.tuple (pe_lc (own := [("mask", 7)]) (g := gName 7) (tt := tYes) rfl scBR.nd (pi_tup (pv 6)) (blkOk_by (own := [("mask", 7)]) (N := nBR) (sc := defScope sBroken) (by decide +kernel)) (fun _ _ _ _ _ => pg_name (i := 7) scBR.nd rfl (Or.inl rfl)) (fun _ _ _ _ _ => pts_nil)
              (fun _ _ _ _ _ => pe_call okl hr1 rfl ml kl bl .nil pass0 (pa_cons (pv 7) (pa_cons (pe_fld (pv 0) rfl : PE _ _ (tFld K (tVar 0) "size")) pa_nil))))))))
            pss_nil)))))
      (pss_one (ps_ret pe_non))))), ?_⟩
    rcases hw with ⟨o, rfl, kb⟩ | ⟨hb, kb⟩
    rotate_left
    · exact ⟨_, rfl, word, rfl, .inr ⟨hb, kb⟩⟩
    refine ⟨_, rfl, _, rfl, .inl ⟨o, rfl, ?_⟩⟩
    refine ⟨_, rfl, _, rfl, fun x dx hx hdx hne => ?_⟩
    have sm0 : Same H (upd (upd H dx (.own x)) x (.ins CC dx [])) := made_new hx hdx
    refine ⟨x, dx, fa, n, ms, o, rfl, upd_same, hF.same sm0, fun H1 lo dp dk ms0 but hdp hdk hdpx hdkx pm srt hC => ⟨rfl, ?_⟩⟩
    have od : H dp = none := sm0.free hdp
    have ok_ : H dk = none := sm0.free hdk
    have s1 : Same H H1 := fun b o e => but b o (ne_of_none e hx) (sm0 b o e)
    have hbad : bad2 o ms = bad2 o ms0 := bad2_perm pm
    have hbc := bad2_comm o ms0
    have hlen : ms0.length ≤ 1024 := by
      rw [pm.length_eq]
      exact Nat.le_trans (nodup_len _ ms hms.nd hms.lt) (pow_le10 h2)
    have hlt : ∀ {i : Nat} (hi : i < ms0.length), ms0[i] < 2 ^ n := fun hi => hms.lt _ (pm.mem_iff.mp (List.getElem_mem hi))
    obtain ⟨dx1, fs, a1, a2, a3, a4, _⟩ := hC.ob
    refine ⟨_, rfl, x, CC, dx1, fs, _, rfl, a1, CL.cl, CL.order, a4, lo, ms0.map vInt, rfl, SqL.of hC.row, ?_⟩
    refine for_enum (xs := ms0.map vInt) (fun i σ H' => (∃ y3 y4 y5, σ = [some (.ref fa), some (wdV o), some (.ref x), y3, y4, y5, none, none]) ∧ (∃ tp tk, tp ≤ i * 1025 ∧ tk ≤ i * 1025 ∧ CAt C CC H' x fa lo dp dk n ms0 o tp tk) ∧ Same H H' ∧ NoBad (bad2 o ms0) ms0 i i)
      ⟨⟨none, none, none, rfl⟩, ⟨0, 0, Nat.zero_le _, Nat.zero_le _, hC⟩, s1, fun i' j' _ _ h => by omega⟩ (fun i σ H' _ h => by obtain ⟨_, ⟨_, _, _, _, hc⟩, _⟩ := h; exact SqL.of hc.row) ?_ ?_
    · rintro i y σ H2 t hy ⟨⟨y3, y4, y5, rfl⟩, ⟨tp, tk, t1, t2, hC2⟩, s2, nb⟩ hT
      obtain ⟨hi, rfl⟩ := item hy
      have sT : Same H2 (upd H2 t (.tup [.int (i : Nat), vInt ms0[i]])) := same_new hT
      have hC3 := hC2.same sT
      refine ⟨t, _, rfl, SqT.of upd_same, rfl, _, _, rfl, _, _, rfl, rfl, ?_⟩
      obtain ⟨dx3, fs3, c1, c2, c3, c4, _⟩ := hC3.ob
      refine ⟨_, rfl, x, CC, dx3, fs3, _, rfl, c1, CL.cl, CL.order, c4, _, rfl, _, rfl, lo, ms0.map vInt, rfl, SqL.of hC3.row, fun p hp => ?_⟩
      have ec : cutV (ms0.map vInt) (some (i : Int)) none = (ms0.drop i).map vInt := by
        rw [cut_drop _ (by rw [List.length_map]; omega), List.map_drop]
      have hp4 : (upd (upd H2 t (.tup [.int (i : Nat), vInt ms0[i]])) p (.lst (cutV (ms0.map vInt) (some (i : Int)) none))) p = some (.lst ((ms0.drop i).map vInt)) := by rw [upd_same, ec]
      have s4 : Same H (upd (upd H2 t (.tup [.int (i : Nat), vInt ms0[i]])) p (.lst (cutV (ms0.map vInt) (some (i : Int)) none))) := (s2.trans sT).trans (same_new hp)
      have hC4 := hC3.same (same_new (o := .lst (cutV (ms0.map vInt) (some (i : Int)) none)) hp)
      refine ⟨p, rfl, ⟨_, SqL.of hp4⟩, ?_⟩
      refine for_list (xs := (ms0.drop i).map vInt) (fun j σ H' => (∃ y5, σ = [some (.ref fa), some (wdV o), some (.ref x), some (.int (i : Nat)), some (vInt ms0[i]), y5, none, none]) ∧ (∃ tp tk, tp ≤ i * 1025 + j ∧ tk ≤ i * 1025 + j ∧ CAt C CC H' x fa lo dp dk n ms0 o tp tk) ∧ Same H H' ∧ H' p = some (.lst ((ms0.drop i).map vInt)) ∧ NoBad (bad2 o ms0) ms0 i (i + j))
        ⟨⟨y5, rfl⟩, ⟨tp, tk, t1, t2, hC4⟩, s4, hp4, nb⟩ (fun j σ H' _ h => SqL.of h.2.2.2.1) ?_ ?_
      · rintro j y σ H5 hy ⟨⟨y5, rfl⟩, ⟨tp, tk, t1, t2, hC5⟩, s5, hp5, nb⟩
        obtain ⟨hj, rfl⟩ := item hy
        rw [List.length_drop] at hj
        have hij : i + j < ms0.length := by omega
        have ej : (ms0.drop i)[j]'(by rw [List.length_drop]; exact hj) = ms0[i + j] := List.getElem_drop
        rw [ej]
        obtain ⟨dx5, fs5, e1, e2, e3, e4, e5, e6, e7, e8, e9, g1, g2⟩ := hC5.ob
        have ev : ∀ (v : V), [v, V.int (Builtin.bitAnd ((ms0[i] : Nat) : Int) ((ms0[i + j] : Nat) : Int)), V.int (Builtin.bitXor ((ms0[i] : Nat) : Int) ((ms0[i + j] : Nat) : Int))] = [v, vInt (ms0[i] &&& ms0[i + j]), vInt (xorN ms0[i] ms0[i + j])] := fun v => by
          rw [bitAnd_nat, bitXor_nat]
        refine ⟨_, rfl, x, dx5, fs5, rfl, e1, g1, _, rfl, _, rfl, _, _, rfl, rfl, _, rfl, _, rfl, _, _, rfl, rfl, x, fa, lo, dp, dk, n, ms0, o, tp, tk, _, _, ev _, hC5, by omega, by omega, fun H6 hC6 kd => ⟨_, rfl, ?_⟩⟩
        have s6 : Same H H6 := kpd_old s5 kd od ok_
        have hpd : p ≠ dp := by
          obtain ⟨kp, q, _⟩ := hC5.pa
          exact ne_of hp5 q (by intro z; cases z)
        have hpk : p ≠ dk := by
          obtain ⟨kk, q, _⟩ := hC5.kn
          exact ne_of hp5 q (by intro z; cases z)
        have hp6 := kd _ _ hpd hpk hp5
        show if bad2 o ms0 ms0[i] ms0[i + j] = true then _ else _
        cases hb : bad2 o ms0 ms0[i] ms0[i + j] with
        | false =>
          refine iteF ⟨⟨_, rfl⟩, ⟨tp + 1, tk + 1, by omega, by omega, hC6⟩, s6, hp6, ?_⟩
          refine nb.step ?_
          rw [getD_at hi, getD_at hij]
          exact hb
        | true =>
          have hdue : pairD (bad2 o ms) ms0 = some (ms0[i], ms0[i + j]) := by
            rw [hbad]
            exact nobad_at hbc hi hij (Nat.le_add_right _ _) nb hb
          refine iteT ⟨_, rfl, _, rfl, small (m := 2) (Nat.le_refl _), fun u hu => ?_⟩
          have sU : Same H6 (upd H6 u (.tup [vInt ms0[i], vInt ms0[i + j]])) := same_new hu
          have hC7 := hC6.same sU
          obtain ⟨dx7, fs7, k1, k2, k3, k4, k5, k6, k7, k8, k9, m1, m2⟩ := hC7.ob
          refine ⟨_, rfl, x, dx7, fs7, rfl, k1, m2, _, rfl, _, rfl, _, _, rfl, rfl, _, rfl, _, rfl, _, _, rfl, rfl, x, fa, lo, dp, dk, n, ms0, o, _, _, _, _, ev _, hC7, fun H8 q s8 hq hq' => ?_⟩
          have hu8 := s8 _ _ (upd_same (H := H6) (a := u))
          obtain ⟨th, hth⟩ : ∃ th, th = thL o ms0 (ms0[i] &&& ms0[i + j]) (xorN ms0[i] ms0[i + j]) := ⟨_, rfl⟩
          rw [← hth] at hq'
          have thl : th.length ≤ 1 := by
            rw [hth]
            show ((ms0.find? _).toList).length ≤ 1
            cases ms0.find? (thP ms0 (ms0[i] &&& ms0[i + j]) (xorN ms0[i] ms0[i + j])) with
            | none => exact Nat.zero_le _
            | some z => exact Nat.le_refl _
          have thm : ∀ z ∈ th, z < 2 ^ n := fun z hz => by
            rw [hth] at hz
            · have hz2 : z ∈ (ms0.find? (thP ms0 (ms0[i] &&& ms0[i + j]) (xorN ms0[i] ms0[i + j]))).toList := hz
              exact hms.lt z (pm.mem_iff.mp (List.mem_of_find?_eq_some (Option.mem_toList.mp hz2)))
          have s9 : Same H H8 := (s6.trans sU).trans s8
          have hall : ∀ z ∈ [ms0[i], ms0[i + j]] ++ th, z < 2 ^ n := fun z hz => by
            rcases List.mem_append.mp hz with q | q
            · rcases List.mem_cons.mp q with rfl | q
              · exact hlt hi
              · rw [List.mem_singleton.mp q]
                exact hlt hij
            · exact thm z q
          obtain ⟨W, hWd⟩ : ∃ W, W = [ms0[i], ms0[i + j]] ++ th := ⟨_, rfl⟩
          have wl : W.length ≤ 3 := by
            rw [hWd, List.length_append]
            show 2 + th.length ≤ 3
            omega
          rw [← hWd] at hall
          rw [hth] at hWd
          refine ⟨u, q, _, _, rfl, rfl, SqT.of hu8, SqT.of hq', (by intro z; cases z), (by rw [List.length_map]; show 2 + th.length ≤ sizeLine; exact small (m := 3) (by omega)), (fun z => ?_), fun z v hv => ?_⟩
          · have z' : th = [] := List.map_eq_nil_iff.mp z
            have huW : H8 u = some (.tup (W.map vInt)) := by
              rw [hWd, ← hth, z', List.append_nil]
              exact hu8
            refine ⟨_, rfl, u, rfl, ⟨_, SqT.of huW⟩, fun D hD => ?_⟩
            obtain ⟨⟨dy, l, d, gs, ts, ms1, f1, f2, _⟩, _⟩ := hF.same s9
            refine lc_tup (K := K) (a := u) (xs := W.map vInt) (fun r H' => Same H8 H' ∧ ∃ ys, H' D = some (.lst ys) ∧ LotsAt H' ys (W.take r)) ⟨same_new hD, [], upd_same, trivial⟩ (fun r H' _ h => SqT.of (h.1 _ _ huW)) ?_ ?_
            · rintro r y H9 hy ⟨sm, ys, hY, hL⟩
              obtain ⟨hr', rfl⟩ := item hy
              have hmr : W[r] < 2 ^ n := hall _ (List.getElem_mem hr')
              refine ⟨rfl, _, rfl, _, rfl, fa, C, dy, gs, _, rfl, sm _ _ f1, FC.cl, FC.size, f2, _, n, rfl, hmr, h2, fun H10 q' s10 hq1 hq2 => ?_⟩
              refine ⟨_, s10 _ _ hY, ?_, same_upd (sm.trans s10) hD, _, upd_same, ?_⟩
              · rw [hL.len, List.length_take]
                exact below (m := 100) (by omega)
              · rw [take_more hr']
                exact ((hL.same s10).add hq2).upd (s10 _ _ hY)
            · rintro H9 ⟨sm, ys, hY, hL⟩
              rw [List.length_map, List.take_length] at hL
              refine .inl ⟨D, _, rfl, SqL.of hY, fun e he => ?_⟩
              have sE := same_new (o := .tup ys) he
              exact (kb _ ms0 pm srt ((s9.trans sm).trans sE)).2 _ _ ys e hdue upd_same (by rw [hWd] at hL; exact hL.same sE)
          · have hvW : (upd H8 v (.tup ([vInt ms0[i], vInt ms0[i + j]] ++ th.map vInt))) v = some (.tup (W.map vInt)) := by
              rw [upd_same, hWd, ← hth, List.map_append]
              rfl
            have s9b : Same H (upd H8 v (.tup ([vInt ms0[i], vInt ms0[i + j]] ++ th.map vInt))) := s9.trans (same_new hv)
            refine ⟨_, rfl, v, rfl, ⟨_, SqT.of hvW⟩, fun D hD => ?_⟩
            obtain ⟨⟨dy, l, d, gs, ts, ms1, f1, f2, _⟩, _⟩ := hF.same s9b
            refine lc_tup (K := K) (a := v) (xs := W.map vInt) (fun r H' => Same (upd H8 v (.tup ([vInt ms0[i], vInt ms0[i + j]] ++ th.map vInt))) H' ∧ ∃ ys, H' D = some (.lst ys) ∧ LotsAt H' ys (W.take r)) ⟨same_new hD, [], upd_same, trivial⟩ (fun r H' _ h => SqT.of (h.1 _ _ hvW)) ?_ ?_
            · rintro r y H9 hy ⟨sm, ys, hY, hL⟩
              obtain ⟨hr', rfl⟩ := item hy
              have hmr : W[r] < 2 ^ n := hall _ (List.getElem_mem hr')
              refine ⟨rfl, _, rfl, _, rfl, fa, C, dy, gs, _, rfl, sm _ _ f1, FC.cl, FC.size, f2, _, n, rfl, hmr, h2, fun H10 q' s10 hq1 hq2 => ?_⟩
              refine ⟨_, s10 _ _ hY, ?_, same_upd (sm.trans s10) hD, _, upd_same, ?_⟩
              · rw [hL.len, List.length_take]
                exact below (m := 100) (by omega)
              · rw [take_more hr']
                exact ((hL.same s10).add hq2).upd (s10 _ _ hY)
            · rintro H9 ⟨sm, ys, hY, hL⟩
              rw [List.length_map, List.take_length] at hL
              refine .inl ⟨D, _, rfl, SqL.of hY, fun e he => ?_⟩
              have sE := same_new (o := .tup ys) he
              exact (kb _ ms0 pm srt ((s9b.trans sm).trans sE)).2 _ _ ys e hdue upd_same (by rw [hWd] at hL; exact hL.same sE)
      · rintro σ H5 ⟨⟨y5, rfl⟩, ⟨tp, tk, t1, t2, hC5⟩, s5, hp5, nb⟩
        rw [List.length_map, List.length_drop] at nb t1 t2
        refine ⟨⟨_, _, _, rfl⟩, ⟨tp, tk, by omega, by omega, hC5⟩, s5, ?_⟩
        rw [show i + (ms0.length - i) = ms0.length by omega] at nb
        exact nb.next
    · rintro σ H2 ⟨⟨y3, y4, y5, rfl⟩, ⟨tp, tk, t1, t2, hC2⟩, s2, nb⟩
      rw [List.length_map] at nb
      refine (kb H2 ms0 pm srt s2).1 ?_
      rw [hbad]
      exact nobad_all hbc nb
end
end Fam

/-! set(xs) of a list of ints, as a set whose items can be sorted. -/
namespace L2
open PySem PySem.Spec PyProof.Rows
/-- the object that set() lays first -/
abbrev emptySet (w : World) : Obj := { cls := .type "set", dict := none, data := .set #[] 0 (.fresh 0 0 (!w.params.followText "set-order")) }
section
variable {P : Program} {w : World} {A : Around} {E : Value → Shared → Prop} {s : Shared}
set_option maxRecDepth 100000 in
set_option maxHeartbeats 6000000 in
theorem call_set_lstI {l : Addr} {its : Array Value} (ns : List Int) {Q : Value → Shared → Prop} (calm : A.handled = none) (hl : s.heap.IsList l its) (iv : IntsAre its.toList ns) (room : ns.length + 1 < scanBound)
    (k : ∀ (g : Heap) (tk c : Nat), SetR w g s.heap.objs.size (fun j => decide (j ∈ ns)) c → c ≤ ns.length → (∀ b o, s.heap.get? b = some o → g.get? b = some o) → Q (.ref s.heap.objs.size) { s with heap := g, toks := tk }) : wpAny (model P w) A (call (.type "set") [.ref l]) Q E s := by
  have len : its.size = ns.length := by
    have z := IntsAre.length iv
    rwa [Array.length_toList] at z
  obtain ⟨cc, tt, mro⟩ := F.called_set.mro
  have made := F.called_set.made
  have sub := F.called_set.sub
  refine wpAny_call (codeAny_of_tree ?_)
  show wpAny _ _ (callAny (.type "set") _) _ _ _
  refine wpAny_pure ⟨Code.quiet_builtin _ (by decide +kernel), codeAny_builtin F.entry_type_call ?_⟩
  rw [Around.under_plain (weight_type_call_type "set" [.ref l] []) rfl]
  have n1 := F.called_set.notType
  have n2 := F.called_set.canCreate
  have n3 := F.typeCall_set_1 (.ref l)
  repeat (any_goals (first | assumption | wp_step))
  refine codeAny_mono (code_set_led1 (.ref l) (E := E) (Q₁ := fun obj s1 => obj = .ref s.heap.objs.size ∧ s1 = { s with heap := s.heap.push (emptySet w) }) ⟨rfl, rfl⟩) fun r s1 hr => ?_
  match r, hr with
  | .error e, hr => exact hr
  | .ok .next, hr => exact hr.elim
  | .ok .brk, hr => exact hr.elim
  | .ok .cont, hr => exact hr.elim
  | .ok (.ret obj), ⟨eo, es⟩ =>
    subst eo es
    have hS : (s.heap.push (emptySet w)).get? s.heap.objs.size = some (emptySet w) := Heap.get?_push_size _ rfl
    have hT : Shared.TypeIs { s with heap := s.heap.push (emptySet w) } (.ref s.heap.objs.size) "set" := ⟨_, hS, rfl⟩
    have look := F.called_set.init.lookup
    have bind := F.called_set.init.bind (.ref s.heap.objs.size)
    repeat (any_goals (first | assumption | wp_step))
    refine codeAny_mono (codeAny_call_builtin (R := wants (fun r s2 => r = .none ∧ ∃ g tk c, s2 = { s with heap := g, toks := tk } ∧ SetR w g s.heap.objs.size (fun j => decide (j ∈ ns)) c ∧ c ≤ ns.length ∧ (∀ b o, s.heap.get? b = some o → g.get? b = some o)) E)
      F.called_set.init.plain F.entry_set_init (check_set_init_1 hT ?_)) fun r2 s2 hr2 => ?_
    · obtain ⟨ol, hol, hcl, hne, hdl⟩ := hl
      obtain ⟨ocls, odict, odata, oslots⟩ := ol
      simp only at hcl hdl
      subst hcl; subst hdl
      have old : l < s.heap.objs.size := Heap.lt_size hol
      have hol2 := Heap.get?_push_of_some (emptySet w) hol
      have isub := F.sub_list_set
      have isubf := F.sub_list_frozenset
      have ned : (Value.type "list" == Value.type "dict") = false := by decide
      have hl1 : (s.heap.push (emptySet w)).IsList l its := ⟨_, hol2, rfl, hne, rfl⟩
      unfold Builtin.«set.__init__» noKeywords Builtin.Frozenset.updateFrom
      generalize hPI : pyIter = PI
      wp_walk
      subst hPI
      refine wpAny_pyIter_list hl1 (wpAny_bind (wpAny_runValue ?_))
      have calm3 : A.in1.in1.in1.handled = none := by simp [calm]
      have z1 : (s.heap.push (emptySet w)).objs.size = s.heap.objs.size + 1 := Heap.size_push ..
      have off : l ≠ (s.heap.push (emptySet w)).objs.size := by
        rw [Heap.size_push]; exact Nat.ne_of_lt (Nat.lt_succ_of_lt old)
      have offS : s.heap.objs.size ∉ [(s.heap.push (emptySet w)).objs.size, l] := by
        rw [Heap.size_push]
        simp only [List.mem_cons, List.mem_singleton, List.not_mem_nil, or_false, not_or]
        exact ⟨Nat.ne_of_lt (Nat.lt_succ_self _), Nat.ne_of_gt old⟩
      have vals : ∀ (i : Nat) (v : Value), its[i]? = some v → ∃ k t, ns[i]? = some k ∧ v = .int k t := fun i v hv => by
        have hi : i < ns.length := by rw [← len]; exact (Array.getElem?_eq_some_iff.mp hv).1
        obtain ⟨t, e⟩ := IntsAre.int_at iv i v (by rw [Array.getElem?_toList]; exact hv)
        refine ⟨ns[i], t, List.getElem?_eq_getElem hi, ?_⟩
        rw [e, List.getD_eq_getElem?_getD, List.getElem?_eq_getElem hi] <;> rfl
      refine set_update_ints ((Walks.list calm3 _ l off its).toS) s.heap.objs.size offS ns len room vals (its.size - 0) 0 _ (by omega) (Nat.zero_le _) ⟨⟨_, Heap.get?_push_size _ rfl, rfl, rfl⟩, (hl1.push _)⟩ ⟨0, Nat.le_refl 0, setR_new_at (Heap.get?_push_of_some _ hS)⟩ ?_
      intro s' c hm hc hR
      obtain ⟨g, g2, d2, tk, os2⟩ := s'
      have e1 : g2 = s.gens := hm.gens
      have e2 : d2 = s.drawn := hm.drawn
      have e3 : os2 = s.os := hm.os
      subst e1; subst e2; subst e3
      show wpAny _ _ _ _ _ _
      refine wpAny_pure ?_
      show wpAny _ _ (ret Value.none) _ _ _
      rw [len] at hc
      refine wpAny_pure ⟨rfl, g, tk, c, rfl, hR, hc, fun b o e => ?_⟩
      have b0 : b < s.heap.objs.size := Heap.lt_size e
      have b2 : b ≠ (s.heap.push (emptySet w)).objs.size := by rw [Heap.size_push]; exact Nat.ne_of_lt (Nat.lt_succ_of_lt b0)
      exact hm.heap b o (by simp only [List.mem_cons, List.mem_singleton, List.not_mem_nil, or_false, not_or]; exact ⟨Nat.ne_of_lt b0, b2⟩) (Heap.get?_push_of_some _ (Heap.get?_push_of_some _ e))
    · match r2, hr2 with
      | .error e, hr2 => exact hr2
      | .ok .next, hr2 => exact hr2.elim
      | .ok .brk, hr2 => exact hr2.elim
      | .ok .cont, hr2 => exact hr2.elim
      | .ok (.ret r), ⟨er, g, tk, c, es, hR, hc, keep⟩ =>
        subst er es
        repeat (any_goals (first | assumption | wp_step))
        exact k _ _ _ hR hc keep
end
/-- set(xs), xs a list or a tuple of ints -/
def rSetRow (K : PySem.W.Frag) (w : World) : List V → Hp → VK → Prop := fun xs H Q => ∃ (p : Addr) (ns : List Int), xs = [.ref p] ∧ (SqL K H p (ns.map V.int) ∨ SqT K H p (ns.map V.int)) ∧ ns.length ≤ 1000 ∧ ∀ (q : Addr) (c : Nat), H q = none → c ≤ ns.length → Q (.ref q) (upd H q (SetO w q (fun j => decide (j ∈ ns)) c))
theorem cr_setRow {X : Cx} (hc : X.calm = true) : CallR X (.type "set") (rSetRow X.K X.w) := by
  intro pins s σ H xs us Q I r h
  obtain ⟨p, ns, rfl, hq, hl, q⟩ := h
  rw [Vals.ref1 r]
  have fin : ∀ (g : Heap) (tk c : Nat), SetR X.w g s.heap.objs.size (fun j => decide (j ∈ ns)) c → c ≤ ns.length → (∀ b o, s.heap.get? b = some o → g.get? b = some o) → EP X pins σ Q (.ref s.heap.objs.size) { s with heap := g, toks := tk } := fun g tk c R hcn k =>
    ⟨.ref _, upd H s.heap.objs.size (SetO X.w s.heap.objs.size (fun j => decide (j ∈ ns)) c), I.laid (t' := tk) (fun b u e => k b u e) (Nat.le_refl _) (setO_new R), rfl, q _ c (I.hok.fresh (Nat.le_refl _)) hcn⟩
  rcases hq with hq | hq
  · obtain ⟨its, rv, pl, hz⟩ := I.list hq
    exact call_set_lstI ns (I.ok.hd hc) pl.isList (by simpa using ints_of_vals rv) (by unfold scanBound; omega) fin
  · obtain ⟨its, rv, pt, hz⟩ := I.tuple hq
    exact call_set_tupI ns (I.ok.hd hc) (show s.heap.IsTuple p its.toArray from pt) (ints_of_vals rv) (by unfold scanBound; omega) fin
end L2

/-! x & y, x == y, len(x), where x is an instance whose class has a def for it. -/
namespace L2
open PySem PySem.Spec PyProof.Rows
section
variable {X : Cx} {CX : CXT} {k : Nat} {g C : Addr} {gd : FuncData} {ps : List Str} {sp : Sp} {E : XK}
/-- two instances of one class -/
def rBinO (C : Addr) (sp : Sp) (E : XK) : R2 := fun x y H Q => ∃ a dx fs b dy gs, x = V.ref a ∧ y = V.ref b ∧ H a = some (.ins C dx fs) ∧ H b = some (.ins C dy gs) ∧ sp [x, y] H Q E
theorem op_binO {op : Operator} (first : PySem.W.selfFirst X.K C = true) (at_ : PySem.W.findIn X.K (.ref C) (PySem.dunder op.info.2) = some (some (.ref g))) (fn : PySem.W.isFn X.K (.ref g) = true)
    (F : FnOk X.prog X.w X.K X.mg X.base CX k g gd ps sp) (room : Room k X.A) (bi : Binds X.K gd ps []) (pass : Passes CX X E) : OpR X (binaryOp op) (rBinO C sp E) := by
  intro pins s σ H x y v u Q inv rx ry h
  obtain ⟨a, dx, fs, b, dy, gs, rfl, rfl, ha, hb, q⟩ := h
  have ev : v = Value.ref a := rx
  have eu : u = Value.ref b := ry
  subst ev eu
  obtain ⟨mA, O, _⟩ := ins_get inv.hok ha
  obtain ⟨mB, O2, _⟩ := ins_get inv.hok hb
  obtain ⟨od, J, _⟩ := O.look
  obtain ⟨od2, J2, _⟩ := O2.look
  obtain ⟨m, fr⟩ := inv.fr
  refine PySem.W.binop_K fr inv.ok.mod.kin J J2.type first at_ fn (wpAny_mono (run_fn (us := [.ref a, .ref b]) (vs := [.ref a, .ref b]) F room bi .nil pass inv (.cons rfl (.cons rfl .nil)) q) (fun r t z => ?_) fun _ _ z => z)
  obtain ⟨z', H', I', rz, qz⟩ := z
  exact SlX.cmpback rz ⟨z', H', I', rz, qz⟩
/-- x == y, y any value whose class is told -/
def rEqO (K : PySem.W.Frag) (C : Addr) (sp : Sp) (E : XK) : R2 := fun x y H Q => ∃ a dx fs t, x = V.ref a ∧ H a = some (.ins C dx fs) ∧ TyX K H y t ∧ PySem.W.notFirst K C t = true ∧ sp [x, y] H Q E
theorem op_eqO (at_ : PySem.W.findIn X.K (.ref C) "__eq__" = some (some (.ref g))) (fn : PySem.W.isFn X.K (.ref g) = true) (F : FnOk X.prog X.w X.K X.mg X.base CX k g gd ps sp) (room : Room k X.A) (bi : Binds X.K gd ps []) (pass : Passes CX X E) : OpR X (compareOp .Eq) (rEqO X.K C sp E) := by
  intro pins s σ H x y v u Q inv rx ry h
  obtain ⟨a, dx, fs, t, rfl, ha, ty, nf, q⟩ := h
  have ev : v = Value.ref a := rx
  subst ev
  obtain ⟨mA, O, _⟩ := ins_get inv.hok ha
  obtain ⟨od, J, _⟩ := O.look
  obtain ⟨m, fr⟩ := inv.fr
  obtain ⟨PP, Z, zp, _⟩ := kit_of inv ry ty
  show wpAny (model X.prog X.w) X.A (richCompare .Eq (.ref a) u) _ _ _
  refine PySem.W.cmp_K (op := .Eq) (tb := t) room.units0 fr inv.ok.mod.kin J (Z.ty _ _ inv.kIn zp) nf at_ fn (wpAny_mono (run_fn (us := [.ref a, u]) (vs := [.ref a, y]) F room bi .nil pass inv (.cons rfl (.cons ry .nil)) q) (fun r t z => ?_) fun _ _ z => z)
  obtain ⟨z', H', I', rz, qz⟩ := z
  exact SlX.cmpback rz ⟨z', H', I', rz, qz⟩
/-- len(x) -/
def rLenO (C : Addr) (sp : Sp) (E : XK) : List V → Hp → VK → Prop := fun vs H Q => ∃ a dx fs, vs = [V.ref a] ∧ H a = some (.ins C dx fs) ∧ sp [.ref a] H (fun v H' => ∃ n : Nat, v = .int (n : Int) ∧ (n : Int) < 2 ^ 63 ∧ Q v H') E
theorem cr_lenO (at_ : PySem.W.findIn X.K (.ref C) "__len__" = some (some (.ref g))) (fn : PySem.W.isFn X.K (.ref g) = true) (F : FnOk X.prog X.w X.K X.mg X.base CX k g gd ps sp) (room : Room (k + 1) X.A) (bi : Binds X.K gd ps []) (pass : Passes CX X E) : CallR X (.builtin "len") (rLenO C sp E) := by
  intro pins s σ H vs us Q inv r h
  obtain ⟨a, dx, fs, rfl, ha, q⟩ := h
  rw [Vals.ref1 r]
  obtain ⟨mA, O, _⟩ := ins_get inv.hok ha
  obtain ⟨od, J, _⟩ := O.look
  obtain ⟨m, fr⟩ := inv.fr
  have hl : ([Value.ref a] ++ []).length = ps.length := (F.len _ _ _ _ q : [V.ref a].length = ps.length)
  refine PySem.W.len_K fr inv.ok.mod.kin J at_ fn (wpAny_call (codeAny_mono (F.run X.A.in1 X.stack s H ⟨[.ref a], []⟩ [.ref a] [.ref a] _ E room.in1 inv.env0.in1 (bi s [.ref a] inv.kIn hl) (.cons rfl .nil) q) fun z t hz => ?_))
  cases z with
  | error e => exact pass pins σ H s e t inv hz
  | ok fl =>
    cases fl with
    | ret u =>
      obtain ⟨v, H', i2, rv, n, ev, hn, qv⟩ := inv.after hz
      subst ev
      obtain ⟨tk, eu⟩ := (show ∃ tk, u = Value.int (n : Int) tk from rv)
      subst eu
      exact ⟨⟨Int.natCast_nonneg n, hn⟩, .int (n : Int), H', i2.tok _, ⟨_, rfl⟩, qv⟩
    | next => exact False.elim hz
    | brk => exact False.elim hz
    | cont => exact False.elim hz
end
end L2

/-! t[::-1] of a tuple. -/
namespace TupRev
open PySem PySem.Spec PyProof.Rows HT
section
variable {prog : Program} {w : World} {A : Around} {E : Value → Shared → Prop} {s : Shared}
theorem adj (n : Nat) : Builtin.Slice.sliceAdjust none none (-1) (n : Int) = ((n : Int) - 1, -1) := by
  unfold Builtin.Slice.sliceAdjust
  simp
theorem plc (n : Nat) : Builtin.Slice.slicePlaces ((n : Int) - 1) (-1) (-1) = n := by
  unfold Builtin.Slice.slicePlaces
  by_cases h : n = 0
  · subst h
    rfl
  · simp
    omega
theorem picks (xs : Array Value) : ((List.range xs.size).filterMap fun (m : Nat) => xs[(((xs.size : Int) - 1) + (m : Int) * (-1)).toNat]?) = xs.toList.reverse := by
  have e : (fun (m : Nat) => xs[(((xs.size : Int) - 1) + (m : Int) * (-1)).toNat]?) = (fun k => xs[k]?) ∘ fun m => xs.size - 1 - m := by
    funext m
    have e1 : (((xs.size : Int) - 1) + (m : Int) * (-1)).toNat = xs.size - 1 - m := by omega
    rw [e1]
    rfl
  rw [e, ← List.filterMap_map, PySem.W.krv_range, List.filterMap_reverse, PySem.W.krv_all]
theorem applied {sl : Addr} {u1 u2 : Value} {t : Tok} {n : Nat} {Q : Int × Int × Nat → Shared → Prop} (hs : s.heap.IsSliceOf sl u1 u2 (.int (-1) t)) (p1 : IsPart u1 none) (p2 : IsPart u2 none) (h : Q ((n : Int) - 1, -1, n) s) :
    wpAny (model prog w) A (Builtin.Slice.sliceApplied (.ref sl) (pure (n : Int))) Q E s := by
  obtain ⟨ob, g1, g2, g3⟩ := id hs
  unfold Builtin.Slice.sliceApplied Builtin.Slice.sliceFields
  refine wpAny_bind (wpAny_bind (wpAny_field g1 g3 (x := u1) rfl (wpAny_bind (wpAny_field g1 g3 (x := u2) rfl (wpAny_bind (wpAny_field g1 g3 (x := .int (-1) t) rfl (wpAny_pure ?_)))))))
  refine wpAny_bind (slicePart_int ?_)
  show wpAny _ _ (if ((-1 : Int) == 0) = true then _ else _) _ _ s
  rw [if_neg (by decide)]
  refine wpAny_bind (slicePart_ p1 (wpAny_bind (slicePart_ p2 (wpAny_bind (wpAny_pure ?_)))))
  show wpAny _ _ (match Builtin.Slice.sliceAdjust none none (-1) (n : Int) with | (x, y) => pure (x, (-1 : Int), Builtin.Slice.slicePlaces x y (-1))) _ _ s
  rw [adj n]
  show wpAny _ _ (pure ((n : Int) - 1, (-1 : Int), Builtin.Slice.slicePlaces ((n : Int) - 1) (-1) (-1))) _ _ s
  rw [plc]
  exact wpAny_pure h
theorem getRev {t sl : Addr} {xs : Array Value} {u1 u2 : Value} {tk : Tok} {Q : Value → Shared → Prop} (ht : IsTup s.heap t xs) (hs : s.heap.IsSliceOf sl u1 u2 (.int (-1) tk)) (p1 : IsPart u1 none) (p2 : IsPart u2 none)
    (h : Q (.ref s.heap.objs.size) { s with heap := s.heap.push { cls := .type "tuple", data := .seq xs.toList.reverse.toArray } }) (z : xs.size ≤ sizeLine) : wpAny (model prog w) A (getItem (.ref t) (.ref sl)) Q E s := by
  have ok : sizeOk (.seq xs.toList.reverse.toArray) := by
    show xs.toList.reverse.toArray.size ≤ sizeLine
    rw [List.size_toArray, List.length_reverse, Array.length_toList]
    exact z
  obtain ⟨ob, g1, g2, g3⟩ := id hs
  have ts : s.TypeIs (.ref sl) "slice" := ⟨ob, g1, g2⟩
  unfold getItem
  try with_reducible refine wpAny_holding ?_
  refine wpAny_bind (wpAny_sequenceKey ht.typeIs (by decide) (wpAny_bind (wpAny_callSpecial?_slot (name := Str.ofString "__getitem__") ht.typeIs PyProof.Rows.slot_tuple_getitem (wpAny_call_entry PyProof.Rows.slot_tuple_getitem ht.typeIs entry_tuple_getitem ?_ (args_tuple_getitem _ _)))))
  show wpAny _ _ (Builtin.Tuple.tupleItemsOf (.ref t) >>= _) _ _ s
  refine wpAny_bind (tupleItemsOf_ ht (wpAny_bind (wpAny_typeOf ts ?_)))
  rw [if_pos (by decide)]
  refine wpAny_bind (applied (n := xs.size) hs p1 p2 ?_)
  have no : ¬ ((((xs.size : Int) - 1) == 0 && (-1 : Int) == 1 && xs.size == xs.size) = true) := by
    rw [show ((-1 : Int) == 1) = false from rfl, Bool.and_false, Bool.false_and]
    exact Bool.false_ne_true
  show wpAny _ _ (if (((xs.size : Int) - 1) == 0 && (-1 : Int) == 1 && xs.size == xs.size) = true then _ else _) _ _ s
  rw [if_neg no, picks]
  first | exact wpAny_bind (m := Builtin.Tuple.tupleExact _) (wpAny_newObj_type (wpAny_pure ⟨_, rfl, wpAny_pure h⟩) ok) | exact wpAny_bind (m := Builtin.Tuple.tupleExact _) (wpAny_newObj_type (wpAny_bind (wpAny_pure (wpAny_pure ⟨_, rfl, wpAny_pure h⟩))) ok) | exact wpAny_bind (wpAny_bind (m := Builtin.Tuple.tupleExact _) (wpAny_newObj_type (wpAny_pure (wpAny_pure ⟨_, rfl, wpAny_pure h⟩)) ok)) | exact wpAny_bind (wpAny_bind (m := Builtin.Tuple.tupleExact _) (wpAny_newObj_type (wpAny_pure ⟨_, rfl, wpAny_pure h⟩) ok))
end
end TupRev
namespace L2
open PySem PySem.Spec PyProof.Rows
section
variable {X : Cx}
def tRevT (K : PySem.W.Frag) (te : TE) : TE := fun σ H Q => te σ H fun x H1 => ∃ a xs, x = V.ref a ∧ SqT K H1 a xs ∧ ∀ p, H1 p = none → Q (.ref p) (upd H1 p (.tup xs.reverse))
theorem pe_revT {e : Expr} {te : TE} {k : Nat} {p1 p2 p3 pos : Pos} (he : PE X e te) : PE X (.Subscript e (.Slice none none (some (.UnaryOp .USub (.Constant (.int 1) k p1) p2)) p3) pos) (tRevT X.K te) := ⟨fun pins s σ H Q inv h => by
  refine Subscript_ (thn (he.run pins s σ H _ inv h) fun v s1 ⟨x, H1, i1, r1, a, xs, ex, hx, q⟩ => ?_)
  subst ex
  cases r1
  have step : PO X (some (.UnaryOp .USub (.Constant (.int 1) k p1) p2)) (tPart (tUn (rU fun i => .int (-i)) (tC (.int 1)))) := po_some (pe_un un_neg pe_int)
  refine wpAny_Slice (thn (po_none.run pins s1 σ H1 (fun o G => o = none ∧ G = H1) i1 ⟨rfl, rfl⟩) fun v1 s2 ⟨o1, H2, i2, q1, z1, z2⟩ => ?_)
  subst z1 z2
  refine thn (po_none.run pins s2 σ H2 (fun o G => o = none ∧ G = H2) i2 ⟨rfl, rfl⟩) fun v2 s3 ⟨o2, H3, i3, q2, z1, z2⟩ => ?_
  subst z1 z2
  refine thn (step.run pins s3 σ H3 (fun o G => o = some (-1) ∧ G = H3) i3 ⟨1, rfl, -1, rfl, rfl, rfl⟩) fun v3 s4 ⟨o3, H4, i4, q3, z1, z2⟩ => ?_
  subst z1 z2
  cases q3 with
  | int i tk =>
  have i5 : L2.Inv X pins σ H4 { s4 with heap := s4.heap.push { cls := .type "slice", data := .fields #[v1, v2, .int (-1) tk] } } := i4.kept (t' := s4.toks) fun b ob g => Heap.get?_push_of_some _ g
  obtain ⟨its, r, ht, hz⟩ := i5.tuple hx
  have len := r.length
  show wpAny (model X.prog X.w) X.A (subscriptTail e (.Slice none none (some (.UnaryOp .USub (.Constant (.int 1) k p1) p2)) p3) (.ref a) (.ref s4.heap.objs.size)) (EP X pins σ Q) X.xe { s4 with heap := s4.heap.push { cls := .type "slice", data := .fields #[v1, v2, .int (-1) tk] } }
  refine tail_any (ops := [.ref a, .ref s4.heap.objs.size]) ht.typeIs (PyProof.Rows.slot_tuple_getitem.lookup) ?_ (by with_unfolding_all rfl)
  refine TupRev.getRev ht (Heap.IsSliceOf.new _ v1 v2 (.int (-1) tk)) q1 q2 ?_ (by rw [List.size_toArray]; omega)
  refine ⟨.ref _, _, i5.laid (t' := s4.toks) (o := .tup xs.reverse) (fun b ob g => Heap.get?_push_of_some _ g) (Nat.le_refl _) ?_, rfl, q _ (i5.hok.fresh (Nat.le_refl _))⟩
  exact ⟨by rw [List.length_reverse]; exact hz, _, r.reverse, IsTup.new _ _⟩⟩
end
end L2

/-! lot_of of rows in any order; Family's held, __len__, __eq__, __and__, __or__. -/
namespace Fam
open PySem L2 OwnX
open C8 (pss_cut tCut)
abbrev sFLen : Stmt := inClass (top 36) 3
abbrev sFEq : Stmt := inClass (top 36) 5
abbrev sFAnd : Stmt := inClass (top 36) 6
abbrev sFOr : Stmt := inClass (top 36) 7
abbrev sFHeld : Stmt := inClass (top 36) 14
abbrev sCheckSizes : Stmt := top 37
theorem nodup_sub_len : ∀ {a b : List Int}, a.Nodup → (∀ k ∈ a, k ∈ b) → a.length ≤ b.length
  | [], _, _, _ => Nat.zero_le _
  | x :: a, b, hn, h => by
    obtain ⟨hx, ha⟩ := List.nodup_cons.mp hn
    have q := nodup_sub_len (b := b.erase x) ha fun k hk => (List.mem_erase_of_ne fun e => hx (by rw [← e]; exact hk)).mpr (h k (List.mem_cons_of_mem _ hk))
    have hm := h x List.mem_cons_self
    rw [List.length_erase_of_mem hm] at q
    have := List.length_pos_of_mem hm
    rw [List.length_cons]
    omega
theorem nodup_same_len {a b : List Int} (ha : a.Nodup) (hb : b.Nodup) (h : ∀ k, k ∈ a ↔ k ∈ b) : a.length = b.length :=
  Nat.le_antisymm (nodup_sub_len ha fun k hk => (h k).mp hk) (nodup_sub_len hb fun k hk => (h k).mpr hk)
/-- a row of the places of the lot m, in any order -/
def LotRow (K : PySem.W.Frag) (H : Hp) (p : Addr) (m : Nat) : Prop := ∃ is : List Int, Row K H p (is.map V.int) ∧ is.Nodup ∧ ∀ k, k ∈ is ↔ k ∈ lotI m
theorem LotRow.same {K : PySem.W.Frag} {H H' : Hp} {p : Addr} {m : Nat} (h : LotRow K H p m) (s : Same H H') : LotRow K H' p m := by
  obtain ⟨is, h1, h2, h3⟩ := h
  exact ⟨is, h1.same s, h2, h3⟩
theorem lotI_nodup (m : Nat) : (lotI m).Nodup := (lotI_asc m).imp fun {a b} q => by omega
theorem LotRow.tup {K : PySem.W.Frag} {H : Hp} {p : Addr} {m : Nat} (h : H p = some (.tup (lotV m))) : LotRow K H p m := ⟨lotI m, .inr (SqT.of (by rw [← lotV_eq]; exact h)), lotI_nodup m, fun _ => Iff.rfl⟩
def spLotOfR (K : PySem.W.Frag) : Sp := fun vs H Q _ => ∃ (p : Addr) (n m : Nat), vs = [.ref p, vInt n] ∧ LotRow K H p m ∧ m < 2 ^ n ∧ n ≤ 10 ∧ ∀ (H' : Hp) (q : Addr), Same H H' → H q = none → H' q = some (.tup (lotV m)) → Q (.ref q) H'
/-- the lots with all places of a, and none of b -/
def heldM (a b : Nat) (ms : List Nat) : List Nat := ms.filter fun m => decide (m &&& a = a) && decide (m &&& b = 0)
theorem heldM_masks {n a b : Nat} {ms : List Nat} (h : Masks n ms) : Masks n (heldM a b ms) := ⟨fun m hm => h.lt m (List.mem_filter.mp hm).1, h.nd.filter _⟩
theorem held_none {a b : Nat} {ms : List Nat} (h : a &&& b ≠ 0) : heldM a b ms = [] := by
  refine List.filter_eq_nil_iff.mpr fun m _ q => h ?_
  rw [Bool.and_eq_true, decide_eq_true_eq, decide_eq_true_eq] at q
  refine Nat.eq_of_testBit_eq fun i => ?_
  have e1 := congrArg (fun z => z.testBit i) q.1
  have e2 := congrArg (fun z => z.testBit i) q.2
  simp only [Nat.testBit_and, Nat.zero_testBit] at e1 e2 ⊢
  revert e1 e2
  cases m.testBit i <;> cases a.testBit i <;> cases b.testBit i <;> decide
theorem held_test {a b m : Nat} (h : a &&& b = 0) : (m &&& (a ||| b) = a) ↔ (m &&& a = a ∧ m &&& b = 0) := by
  constructor
  · intro q
    refine ⟨Nat.eq_of_testBit_eq fun i => ?_, Nat.eq_of_testBit_eq fun i => ?_⟩
    all_goals
      have e1 := congrArg (fun z => z.testBit i) q
      have e2 := congrArg (fun z => z.testBit i) h
      simp only [Nat.testBit_and, Nat.testBit_or, Nat.zero_testBit] at e1 e2 ⊢
      revert e1 e2
      cases m.testBit i <;> cases a.testBit i <;> cases b.testBit i <;> decide
  · rintro ⟨q1, q2⟩
    refine Nat.eq_of_testBit_eq fun i => ?_
    have e1 := congrArg (fun z => z.testBit i) q1
    have e2 := congrArg (fun z => z.testBit i) q2
    simp only [Nat.testBit_and, Nat.testBit_or, Nat.zero_testBit] at e1 e2 ⊢
    revert e1 e2
    cases m.testBit i <;> cases a.testBit i <;> cases b.testBit i <;> decide
def spHeldG (K : PySem.W.Frag) (C : Addr) : Sp := fun vs H Q _ => ∃ (f p q : Addr) (n a b : Nat) (ms : List Nat), vs = [.ref f, .ref p, .ref q] ∧ FAt C H f n ms ∧ LotRow K H p a ∧ LotRow K H q b ∧ a < 2 ^ n ∧ b < 2 ^ n ∧
  ∀ (H' : Hp) (g : Addr), Same H H' → FAt C H' g n (heldM a b ms) → Q (.ref g) H'
def spFLen (C : Addr) : Sp := fun vs H Q _ => ∃ (f : Addr) (n : Nat) (ms : List Nat), vs = [.ref f] ∧ FAt C H f n ms ∧ Q (vInt ms.length) H
def spFAnd (B C : Addr) : Sp := fun vs H Q E => ∃ (f g : Addr) (n n' : Nat) (ms ms' : List Nat), vs = [.ref f, .ref g] ∧ FAt C H f n ms ∧ FAt C H g n' ms' ∧
  ((n = n' ∧ ∀ (H' : Hp) (x : Addr), Same H H' → FAt C H' x n (ms.filter fun m => decide (m ∈ ms')) → Q (.ref x) H') ∨ (n ≠ n' ∧ ∀ (d : Addr) (H' : Hp), Same H H' → H d = none → H' d = some (.xd [("which", .str "size")]) → E (.ref B) (some d) H'))
def spFOr (B C : Addr) : Sp := fun vs H Q E => ∃ (f g : Addr) (n n' : Nat) (ms ms' : List Nat), vs = [.ref f, .ref g] ∧ FAt C H f n ms ∧ FAt C H g n' ms' ∧
  ((n = n' ∧ ∀ (H' : Hp) (x : Addr), Same H H' → FAt C H' x n (ms ++ ms'.filter fun m => !decide (m ∈ ms)) → Q (.ref x) H') ∨ (n ≠ n' ∧ ∀ (d : Addr) (H' : Hp), Same H H' → H d = none → H' d = some (.xd [("which", .str "size")]) → E (.ref B) (some d) H'))
def spSizes (B C : Addr) : Sp := fun vs H Q E => ∃ (f g : Addr) (n n' : Nat) (ms ms' : List Nat), vs = [.ref f, .ref g] ∧ FAt C H f n ms ∧ FAt C H g n' ms' ∧
  ((n = n' ∧ Q .non H) ∨ (n ≠ n' ∧ ∀ (d : Addr) (H' : Hp), Same H H' → H d = none → H' d = some (.xd [("which", .str "size")]) → E (.ref B) (some d) H'))
/-- what isinstance(x, Family) asks -/
structure FamIs (K : PySem.W.Frag) (C : Addr) : Prop where
  ca : PySem.W.findIn K (.ref C) "__class__" = some (some (.builtin "object.__class__"))
  cn : PySem.W.specialIn K (.builtin "object.__class__") "__get__" = some (some (.builtin "getset_descriptor.__get__"))
  ct : PySem.W.takesIn K (.builtin "object.__class__") = some true
  cm : PySem.W.mroIn K C (.type "object") = some true
  ki : PySem.W.kitOne K (.type "int") (.ref C) = some false
  kt : PySem.W.kitOne K (.type "tuple") (.ref C) = some false
theorem FAt.ty {K : PySem.W.Frag} {C : Addr} {H : Hp} {f : Addr} {n : Nat} {ms : List Nat} (h : FAt C H f n ms) (c : Cls K C) (i : FamIs K C) : TyX K H (.ref f) (.ref C) := by
  obtain ⟨⟨dx, l, d, fs, ls, ms0, a1, _⟩, _⟩ := h
  exact .base (.ins a1 c i.ca i.cn i.ct i.cm)
theorem kit_self {K : PySem.W.Frag} {C : Addr} : PySem.W.kitOne K (.ref C) (.ref C) = some true := by
  unfold PySem.W.kitOne
  rw [if_pos (beq_self_eq_true _)]
theorem eqv_ints : ∀ a b : List Int, PyData.eqvAll (a.map PyData.int) (b.map PyData.int) = decide (a = b)
  | [], [] => rfl
  | [], y :: b => rfl
  | x :: a, [] => rfl
  | x :: a, y :: b => by
    rw [List.map_cons, List.map_cons]
    show ((x == y) && PyData.eqvAll _ _) = _
    rw [eqv_ints a b, Bool.eq_iff_iff, Bool.and_eq_true, beq_iff_eq, decide_eq_true_eq, decide_eq_true_eq, List.cons.injEq]
theorem eqv_lots : ∀ a b : List Nat, PyData.eqvAll (a.map dLot) (b.map dLot) = decide (a.map lotI = b.map lotI)
  | [], [] => rfl
  | [], y :: b => rfl
  | x :: a, [] => rfl
  | x :: a, y :: b => by
    rw [List.map_cons, List.map_cons, List.map_cons, List.map_cons]
    show (PyData.eqvAll _ _ && PyData.eqvAll _ _) = _
    rw [eqv_ints, eqv_lots a b, Bool.eq_iff_iff, Bool.and_eq_true, decide_eq_true_eq, decide_eq_true_eq, decide_eq_true_eq, List.cons.injEq]
theorem shaped_tups (ms : List Nat) : SeqAt.shaped (.tuple (ms.map dLot)) = true := by
  have c := can_lots ms
  have d := depth_lots ms
  unfold SeqAt.shaped
  rw [Bool.and_eq_true]
  exact ⟨by simp only [PyData.canLay0]; exact c, decide_eq_true (by simp only [PyData.depth]; omega)⟩
theorem lots_same {n : Nat} {a b : List Nat} (hn : n ≤ 10) (ha : ∀ m ∈ a, m < 2 ^ n) (nd : a.Nodup) (p : a.Perm b) (sa : a.Pairwise lotLe) (sb : b.Pairwise lotLe) : a = b :=
  uniq_of (R := lotLe) (fun x y hx hy h1 h2 => lotI_inj hn (ha x hx) (ha y hy) (lex_tot _ _ h2 h1)) sa sb p
theorem map_lotI_inj {n : Nat} (hn : n ≤ 10) : ∀ {a b : List Nat}, (∀ m ∈ a, m < 2 ^ n) → (∀ m ∈ b, m < 2 ^ n) → a.map lotI = b.map lotI → a = b
  | [], [], _, _, _ => rfl
  | [], y :: b, _, _, h => by cases h
  | x :: a, [], _, _, h => by cases h
  | x :: a, y :: b, ha, hb, h => by
    obtain ⟨h1, h2⟩ := List.cons.inj h
    rw [lotI_inj hn (ha x List.mem_cons_self) (hb y List.mem_cons_self) h1, map_lotI_inj hn (fun m hm => ha m (List.mem_cons_of_mem _ hm)) (fun m hm => hb m (List.mem_cons_of_mem _ hm)) h2]
def spFEq (K : PySem.W.Frag) (C : Addr) : Sp := fun vs H Q _ => ∃ (f : Addr) (n : Nat) (ms : List Nat) (v : V), vs = [.ref f, v] ∧ FAt C H f n ms ∧
  ((∃ (g : Addr) (n' : Nat) (ms' : List Nat), v = .ref g ∧ FAt C H g n' ms' ∧ ∀ b : Bool, (b = true ↔ (n = n' ∧ ms.Perm ms')) → Q (.bl b) H)
    ∨ ((∃ i : Int, v = .int i) ∧ Q (.bl false) H) ∨ ((∃ p xs, v = .ref p ∧ H p = some (.tup xs)) ∧ Q (.bl false) H))
section
variable {P : Program} {w : World} {K : PySem.W.Frag} {mg : Str → Option Value} {base : Heap} {C B : Addr}
theorem ok_lot_ofR {f : Addr} {fd : FuncData} (F : Fun K "lot_of" "lot_of" sLotOf f fd) (T : Bare mg) (T2 : Bare2 mg) (GB : Cal P w K mg base 2 "is_between" ["value", "low", "high"] spBetween) : FnOk P w K mg base CX0 3 f fd ["value", "size"] (spLotOfR K) := by
  obtain ⟨gb, gbd, okb, bb, kb, mb⟩ := GB.ex
  refine F.ok scLF (fun vs H Q E h => ?_) (fun cdv A outer s H vs Q E hr h => ?_)
  · obtain ⟨p, n, m, rfl, _⟩ := h
    rfl
  · obtain ⟨p, n, m, rfl, ⟨is, hrow, nd, hmem⟩, hm, hn, k⟩ := h
    refine ⟨_, pss_cons (ps_if (pt_not (pt_val (pe_callB call_isiT (by rfl) T.isi (by decide +kernel) (pa_cons (pv 0) (pa_cons (pe_tup (pa_cons (pe_ty (n := "list") (by rfl) T.list (by decide +kernel)) (pa_cons (pe_ty (n := "tuple") (by rfl) T.tuple (by decide +kernel)) pa_nil))) pa_nil))))) (pss_one ps_never) pss_nil)
      (pss_cons (ps_for PassesOwn.never rfl (pi_row (pv 0)) (pg_name (i := 2) scLF.nd rfl (Or.inl rfl))
        (pss_one (ps_if (pt_not (pt_val (pe_call okb hr rfl mb kb bb .nil pass0 (pa_cons (pv 2) (pa_cons pe_int (pa_cons (pe_op op_sub (pv 1) pe_int) pa_nil)))))) (pss_one ps_never) pss_nil)))
      (pss_cons (ps_set (i := 3) scLF.nd rfl (Or.inl rfl) (pe_tupleOf rfl T.tuple (pe_callB (cr_sortedSet rfl) (by rfl) T.sorted (by decide +kernel) (pa_cons (pe_callTy (cr_setRow rfl) (by rfl) T2.set (by decide +kernel) (pa_cons (pv 0) pa_nil)) pa_nil))))
      (pss_cons (ps_if (pt_cmpR op_ne (pe_callB call_len_seq (by rfl) T.len PySem.boot_len (pa_cons (pv 3) pa_nil)) (pe_callB call_len_seq (by rfl) T.len PySem.boot_len (pa_cons (pv 0) pa_nil)) (nomark _)) (pss_one ps_never) pss_nil)
      (pss_one (ps_ret (pv 3)))))), ?_⟩
    refine ⟨_, rfl, (by show 2 ≤ sizeLine; exact small (m := 2) (Nat.le_refl _)), fun t ht => ?_⟩
    have s1 : Same H (upd H t (.tup [.ty "list", .ty "tuple"])) := same_new ht
    obtain ⟨ty, hty, hany⟩ := isi_row (hrow.same s1)
    refine ⟨_, t, _, _, _, true, rfl, upd_same, .cons (.ty _) (.cons (.ty _) .nil), hty, hany, _, rfl, iteF ?_⟩
    have el : is.length = (lotI m).length := nodup_same_len nd (lotI_nodup m) hmem
    have el2 : (lotI m).length = (lotN m 12).length := List.length_map _
    have hlen := lotN_len m 12
    refine row_for (K := K) (b := p) (xs := is.map V.int) rfl (hrow.same s1) (fun i σ H' => Same (upd H t (.tup [.ty "list", .ty "tuple"])) H' ∧ ∃ y2, σ = [some (.ref p), some (vInt n), y2, none]) ⟨Same.refl _, none, rfl⟩ (fun i σ H' _ h => h.1) ?_ ?_
    · rintro i x σ H1 hx ⟨sm, y2, rfl⟩
      obtain ⟨hi, rfl⟩ : ∃ hi : i < is.length, x = .int is[i] := by
        rw [List.getElem?_map] at hx
        by_cases hi : i < is.length
        · rw [List.getElem?_eq_getElem hi] at hx
          exact ⟨hi, (Option.some.inj hx).symm⟩
        · rw [List.getElem?_eq_none (by omega)] at hx
          cases hx
      obtain ⟨z, hz, ez⟩ := List.mem_map.mp ((hmem _).mp (List.getElem_mem hi))
      have := lot_lt hm (by omega) z hz
      have ez : (z : Int) = is[i] := ez
      refine ⟨_, rfl, _, rfl, _, _, rfl, rfl, _, _, _, rfl, by omega, by omega, _, rfl, iteF ⟨sm, _, rfl⟩⟩
    · rintro σ H1 ⟨sm, y2, rfl⟩
      have hrow1 := hrow.same (s1.trans sm)
      refine ⟨_, rfl, p, is, rfl, hrow1, by omega, fun q c hq hc => ?_⟩
      refine ⟨q, _, c, rfl, upd_same, by omega, fun ns r h1 h2 h3 hr' => .inl ⟨r, _, rfl, SqL.of upd_same, fun u hu => ?_⟩⟩
      have s2 : Same H1 (upd (upd (upd H1 q _) r _) u (.tup (ns.map V.int))) := ((same_new hq).trans (same_new hr')).trans (same_new hu)
      have s3 := s1.trans (sm.trans s2)
      have fu : H u = none := (s1.trans sm).free (((same_new hq).trans (same_new hr')).free hu)
      have e : ns = lotI m := asc_uniq h1 (lotI_asc m) fun j => by rw [h2 j, decide_eq_true_eq, hmem j]
      subst e
      have hrow3 := hrow.same s3
      refine ⟨_, rfl, u, _, rfl, .inr (SqT.of upd_same), _, rfl, p, is.map V.int, rfl, hrow3, rfl, _, rfl, ?_⟩
      refine iteNS ?_ ⟨_, rfl, k _ u s3 fu (by rw [lotV_eq]; exact upd_same)⟩
      refine congrArg (fun z : Nat => V.int (z : Int)) ?_
      simp only [List.length_map]
      omega
theorem lot_of_asc {f : Addr} {fd : FuncData} (ok : FnOk P w K mg base CX0 3 f fd ["value", "size"] (spLotOfR K)) : FnOk P w K mg base CX0 3 f fd ["value", "size"] spLotOf :=
  ok.imp fun vs H Q E h => by
    obtain ⟨p, m, n, rfl, hp, hm, hn, k⟩ := h
    exact ⟨p, n, m, rfl, .tup hp, hm, hn, k⟩
abbrev nLN : List Str := ["self"]
theorem scLN : FnScope nLN ["self"] (defScope sFLen) := ⟨rfl, rfl, rfl, by decide +kernel, rfl, by decide +kernel, by decide +kernel⟩
theorem ok_f_len {f : Addr} {fd : FuncData} (F : Fun K "__len__" "Family.__len__" sFLen f fd) (T : Bare mg) (FC : FamC K C) : FnOk P w K mg base CX0 1 f fd ["self"] (spFLen C) := by
  refine F.ok scLN (fun vs H Q E h => ?_) (fun cdv A outer s H vs Q E hr h => ?_)
  · obtain ⟨f, n, ms, rfl, _⟩ := h
    rfl
  · obtain ⟨f, n, ms, rfl, hF, k⟩ := h
    refine ⟨_, (pss_one (ps_ret (pe_callB call_len_seq (by rfl) T.len PySem.boot_len (pa_cons (pe_fld (pv 0) rfl) pa_nil)))), ?_⟩
    obtain ⟨⟨dx, l, d, fs, ls, ms0, a1, a2, a3, a4, a5, a6, a7, a8, a9, a10, a11⟩, _⟩ := id hF
    refine ⟨_, rfl, f, C, dx, fs, _, rfl, a1, FC.cl, FC.lots, a3, l, _, rfl, .inr (SqT.of a7), ?_⟩
    rw [a8.len, a9.length_eq]
    exact k
abbrev nEQ : List Str := ["self", "other"]
theorem scEQ : FnScope nEQ ["self", "other"] (defScope sFEq) := ⟨rfl, rfl, rfl, by decide +kernel, rfl, by decide +kernel, by decide +kernel⟩
theorem ok_f_eq {f : Addr} {fd : FuncData} (F : Fun K "__eq__" "Family.__eq__" sFEq f fd) (T : Bare mg) (FC : FamC K C) (FI : FamIs K C) (mC : mg "Family" = some (.ref C)) : FnOk P w K mg base CX0 1 f fd ["self", "other"] (spFEq K C) := by
  refine F.ok scEQ (fun vs H Q E h => ?_) (fun cdv A outer s H vs Q E hr h => ?_)
  · obtain ⟨f, n, ms, v, rfl, _⟩ := h
    rfl
  · obtain ⟨f, n, ms, v, rfl, hF, h⟩ := h
    refine ⟨_, (pss_one (ps_ret (pe_and (pe_callB call_isi (by rfl) T.isi (by decide +kernel) (pa_cons (pv 1) (pa_cons (pe_glob (v := .ref C) rfl mC rfl) pa_nil))) (pe_and (pe_cmpR op_eq (pe_fld (pv 0) rfl) (pe_fld (pv 1) rfl) (nomark _)) (pe_one (pe_cmpR (op_eqD hr.units) (pe_fld (pv 0) rfl) (pe_fld (pv 1) rfl) (nomark _))))))), ?_⟩
    rcases h with ⟨g, n', ms', rfl, hG, k⟩ | ⟨⟨i, rfl⟩, k⟩ | ⟨⟨p, xs, rfl, hp⟩, k⟩
    · refine ⟨_, rfl, _, _, _, _, true, rfl, .own _, hG.ty FC.cl FI, kit_self, _, rfl, iteT ?_⟩
      obtain ⟨⟨dx, l, d, fs, ls, ms0, a1, a2, a3, a4, a5, a6, a7, a8, a9, a10, a11⟩, hms, h1, h2⟩ := id hF
      obtain ⟨⟨dy, l', d', gs, ls', ms1, c1, c2, c3, c4, c5, c6, c7, c8, c9, c10, c11⟩, hms', h1', h2'⟩ := id hG
      refine ⟨_, rfl, f, C, dx, fs, _, rfl, a1, FC.cl, FC.size, a2, _, rfl, g, C, dy, gs, _, rfl, c1, FC.cl, FC.size, c2, rfl, _, rfl, ?_⟩
      have en : decide (vInt n = vInt n') = decide (n = n') := decide_eq_decide.mpr ⟨fun z => Int.ofNat.inj (V.int.inj z), fun z => by rw [z]⟩
      rw [en]
      refine ite2 (fun z => ?_) (fun z => ?_)
      · have e : n = n' := of_decide_eq_true z
        subst e
        refine ⟨_, rfl, f, C, dx, fs, _, rfl, a1, FC.cl, FC.lots, a3, _, rfl, g, C, dy, gs, _, rfl, c1, FC.cl, FC.lots, c3, .tuple (ms0.map dLot), .tuple (ms1.map dLot), .tup (SqT.of a7) (dp_lots a8), .tup (SqT.of c7) (dp_lots c8), shaped_tups _, shaped_tups _, ?_⟩
        show Q (.bl (PyData.eqvAll (ms0.map dLot) (ms1.map dLot))) H
        rw [eqv_lots]
        refine k _ ?_
        rw [decide_eq_true_eq]
        constructor
        · intro e
          have e2 := map_lotI_inj h2 (fun m hm => hms.lt m (a9.mem_iff.mp hm)) (fun m hm => hms'.lt m (c9.mem_iff.mp hm)) e
          exact ⟨rfl, a9.symm.trans (by rw [e2]; exact c9)⟩
        · rintro ⟨_, p⟩
          rw [lots_same h2 (fun m hm => hms.lt m (a9.mem_iff.mp hm)) (a9.nodup_iff.mpr hms.nd) (a9.trans (p.trans c9.symm)) a10 c10]
      · have e : ¬ n = n' := fun q => z (decide_eq_true q)
        exact k false ⟨fun z => (by cases z), fun z => absurd z.1 e⟩
    · exact ⟨_, rfl, _, _, _, _, false, rfl, .own _, .base (.int i), FI.ki, _, rfl, iteF k⟩
    · exact ⟨_, rfl, _, _, _, _, false, rfl, .own _, .base (.tup hp), FI.kt, _, rfl, iteF k⟩
end
end Fam

/-! check_sizes; Family's held, __and__, __or__. -/
namespace Fam
open PySem L2 OwnX
open C8 (pss_cut tCut)
section
variable {P : Program} {w : World} {K : PySem.W.Frag} {mg : Str → Option Value} {base : Heap} {C B : Addr}
abbrev nCS : List Str := ["one", "two"]
theorem scCS : FnScope nCS ["one", "two"] (defScope sCheckSizes) := ⟨rfl, rfl, rfl, by decide +kernel, rfl, by decide +kernel, by decide +kernel⟩
theorem ok_sizes {f : Addr} {fd : FuncData} (F : Fun K "check_sizes" "check_sizes" sCheckSizes f fd) (FC : FamC K C) (N : BadRaise P w K mg base B) : FnOk P w K mg base (L2.CX P w) 3 f fd ["one", "two"] (spSizes B C) := by
  obtain ⟨g, gd, iC, tI, ok, b⟩ := N.init
  refine F.okX scCS (fun vs H Q E h => ?_) (fun cdv A outer s H vs Q E hr h => ?_)
  · obtain ⟨f, g, n, n', ms, ms', rfl, _⟩ := h
    rfl
  · obtain ⟨f, g, n, n', ms, ms', rfl, hF, hG, h⟩ := h
    refine ⟨_, (pss_one (ps_if (pt_cmpR op_ne (pe_fld (pv 0) rfl) (pe_fld (pv 1) rfl) (nomark _)) (pss_one (ps_raise rfl (takes_of rfl rfl rfl rfl) (pmk_oex N.oex iC tI ok hr b .nil pass0 rfl N.gB (pa_cons pe_str pa_nil)))) pss_nil)), ?_⟩
    obtain ⟨⟨dx, l, d, fs, ls, ms0, a1, a2, _⟩, _⟩ := id hF
    obtain ⟨⟨dy, l', d', gs, ls', ms1, c1, c2, _⟩, _⟩ := id hG
    refine ⟨_, rfl, f, C, dx, fs, _, rfl, a1, FC.cl, FC.size, a2, _, rfl, g, C, dy, gs, _, rfl, c1, FC.cl, FC.size, c2, rfl, _, rfl, ?_⟩
    have en : decide (vInt n = vInt n') = decide (n = n') := decide_eq_decide.mpr ⟨fun z => Int.ofNat.inj (V.int.inj z), fun z => by rw [z]⟩
    rw [en]
    rcases h with ⟨e, k⟩ | ⟨e, k⟩
    · rw [decide_eq_true e]
      exact iteF k
    · rw [decide_eq_false e]
      exact iteT (bad_read N (fun Q' q => q) k)
abbrev nHD : List Str := ["self", "inside", "outside", "wanted", "barred", "kept", "lot"]
theorem scHD : FnScope nHD ["self", "inside", "outside"] (defScope sFHeld) := ⟨rfl, rfl, rfl, by decide +kernel, rfl, by decide +kernel, by decide +kernel⟩
theorem ok_f_heldG {f gi : Addr} {fd gid : FuncData} (F : Fun K "held" "Family.held" sFHeld f fd) (T : Bare mg) (FC : FamC K C) (m_F : mg "Family" = some (.ref C)) (MK_F : Mk K C gi) (ok_F : FnOk P w K mg base CX0 4 gi gid ["self", "size", "lots"] (spInit K C (FAt C))) (b_F : Binds K gid ["self", "size", "lots"] [])
    (GL : Cal P w K mg base 3 "lot_of" ["value", "size"] (spLotOfR K)) (GM : Cal P w K mg base 1 "mask_of" ["lot"] spMaskOf) : FnOk P w K mg base CX0 6 f fd ["self", "inside", "outside"] (spHeldG K C) := by
  obtain ⟨_, _, ok_l, b_l, k_l, m_l⟩ := GL.ex
  obtain ⟨_, _, ok_m, b_m, k_m, m_m⟩ := GM.ex
  refine F.ok scHD (fun vs H Q E h => ?_) (fun cdv A outer s H vs Q E hr h => ?_)
  · obtain ⟨f, p, q, n, a, b, ms, rfl, _⟩ := h
    rfl
  · obtain ⟨f, p, q, n, a, b, ms, rfl, hF, hp, hq, ha, hb, k⟩ := h
    have hr_l := hr.mono (j := 3) (by decide)
    have hr_m := hr.mono (j := 1) (by decide)
    refine ⟨_, (pss_cons (ps_set (i := 3) scHD.nd rfl (Or.inr rfl) (pe_call ok_m hr_m rfl m_m k_m b_m .nil pass0 (pa_cons (pe_call ok_l hr_l rfl m_l k_l b_l .nil pass0 (pa_cons (pv 1) (pa_cons (pe_fld (pv 0) rfl) pa_nil))) pa_nil)))
      (pss_cons (ps_set (i := 4) scHD.nd rfl (Or.inr rfl) (pe_call ok_m hr_m rfl m_m k_m b_m .nil pass0 (pa_cons (pe_call ok_l hr_l rfl m_l k_l b_l .nil pass0 (pa_cons (pv 2) (pa_cons (pe_fld (pv 0) rfl) pa_nil))) pa_nil)))
      (pss_cons (ps_setLc (i := 5) (own := [("lot", 6)]) (g := gName 6) (by rfl) scHD.nd rfl rfl (sw_true rfl rfl rfl (by decide +kernel)) (pi_tup (pe_fld (pv 0) rfl)) (blkOk_by (own := [("lot", 6)]) (N := nHD) (sc := defScope sFHeld) (by decide +kernel)) (fun _ _ _ _ _ => pg_name (i := 6) scHD.nd rfl (Or.inl rfl)) (fun _ _ _ _ _ => pts_one (pt_cmpR op_eq (pe_op op_and (pe_call ok_m hr_m rfl m_m k_m b_m .nil pass0 (pa_cons (pv 6) pa_nil)) (pe_op op_or (pv 3) (pv 4))) (pv 3) (nomark _))) (fun _ _ _ _ _ => pv 6))
      (pss_one (ps_ret (pe_make MK_F ok_F hr rfl m_F b_F .nil pass0 (pa_cons (pe_fld (pv 0) rfl) (pa_cons (pe_ifExp (pt_int (pe_op op_and (pv 3) (pv 4)) (by intro _; rfl)) (pe_lst pa_nil) (pv 5)) pa_nil)))))))), ?_⟩
    obtain ⟨⟨dx, l, d, fs, ls, ms0, a1, a2, a3, a4, a5, a6, a7, a8, a9, a10, a11⟩, hms, h1, h2⟩ := id hF
    have h10 := pow_le10 h2
    have lms : ms0.length ≤ 1024 := by
      rw [a9.length_eq]
      exact Nat.le_trans (nodup_len _ ms hms.nd hms.lt) h10
    refine ⟨_, rfl, _, rfl, f, C, dx, fs, _, rfl, a1, FC.cl, FC.size, a2, p, n, a, rfl, hp, ha, h2, fun H1 u1 s1 hu1 hu1' => ⟨u1, a, rfl, hu1', by omega, ?_⟩⟩
    refine ⟨_, rfl, _, rfl, f, C, dx, fs, _, rfl, s1 _ _ a1, FC.cl, FC.size, a2, q, n, b, rfl, hq.same s1, hb, h2, fun H2 u2 s2 hu2 hu2' => ⟨u2, b, rfl, hu2', by omega, ?_⟩⟩
    have s02 := s1.trans s2
    refine ⟨_, rfl, f, C, dx, fs, _, rfl, s02 _ _ a1, FC.cl, FC.lots, a3, l, rfl, ⟨_, SqT.of (s02 _ _ a7)⟩, fun D hD => ?_⟩
    refine lc_tup (K := K) (a := l) (xs := ls) (fun i H' => Same H2 H' ∧ ∃ ys, H' D = some (.lst ys) ∧ LotsAt H' ys ((ms0.take i).filter fun m => decide (m &&& (a ||| b) = a)) ∧ ys.length ≤ i) ⟨same_new hD, [], upd_same, trivial, Nat.le_refl _⟩ (fun i H' _ h => SqT.of ((s02.trans h.1) _ _ a7)) ?_ ?_
    · rintro i y H3 hy ⟨sm, ys, hY, hL, hl⟩
      obtain ⟨hi, r, rfl, hr1⟩ := a8.get hy
      have hlt := hms.lt _ (a9.mem_iff.mp (List.getElem_mem hi))
      refine ⟨rfl, _, rfl, r, ms0[i], rfl, (s02.trans sm) _ _ hr1, by omega, _, rfl, _, rfl, _, _, rfl, rfl, _, _, rfl, rfl, _, rfl, rfl, _, rfl, ?_⟩
      have ed : decide (V.int (Builtin.bitAnd ((ms0[i] : Nat) : Int) (Builtin.bitOr ((a : Nat) : Int) ((b : Nat) : Int))) = vInt a) = decide (ms0[i] &&& (a ||| b) = a) := by
        rw [bitOr_nat, bitAnd_nat]
        exact decide_eq_decide.mpr ⟨fun z => Int.ofNat.inj (V.int.inj z), fun z => by rw [z]⟩
      show if decide (V.int (Builtin.bitAnd ((ms0[i] : Nat) : Int) (Builtin.bitOr ((a : Nat) : Int) ((b : Nat) : Int))) = vInt a) = true then _ else _
      rw [ed]
      refine ite2 (fun z => ?_) (fun z => ?_)
      · refine ⟨_, rfl, _, hY, below (m := 100000) (by omega), same_upd sm hD, _, upd_same, ?_, ?_⟩
        · rw [take_more hi, List.filter_append, List.filter_cons_of_pos (by exact z)]
          exact (hL.add ((s02.trans sm) _ _ hr1)).upd hY
        · rw [List.length_append]
          show ys.length + 1 ≤ _
          omega
      · refine ⟨sm, ys, hY, ?_, by omega⟩
        rw [take_more hi, List.filter_append, List.filter_cons_of_neg (by exact z), List.filter_nil, List.append_nil]
        exact hL
    rintro H3 ⟨sm, ys, hY, hL, _⟩
    rw [a8.len, List.take_length] at hL
    have s03 := s02.trans sm
    have fin : ∀ {H4 : Hp} {r : Addr} {xs : List V} {mm : List Nat}, Same H3 H4 → Row K H4 r xs → LotsAt H4 xs mm → mm.Perm (heldM a b ms) → ∀ x dz, H4 x = none → H4 dz = none → x ≠ dz → Same H4 (upd (upd H4 dz (.own x)) x (.ins C dz [])) ∧ (∀ H5, (∀ y o, y ≠ x → y ≠ dz → upd (upd H4 dz (.own x)) x (.ins C dz []) y = some o → H5 y = some o) → FAt C H5 x n mm → Q (.ref x) H5) := fun s4 hrow hL4 pm x dz hx hdz hne =>
      ⟨made_new hx hdz, fun H5 k5 hA => k H5 x (s03.trans (s4.trans (made_same hx hdz k5))) (hA.perm pm)⟩
    refine ⟨_, rfl, f, C, dx, fs, _, rfl, s03 _ _ a1, FC.cl, FC.size, a2, _, rfl, _, rfl, _, _, rfl, rfl, _, rfl, ?_⟩
    have ei : Builtin.bitAnd ((a : Nat) : Int) ((b : Nat) : Int) = ((a &&& b : Nat) : Int) := bitAnd_nat a b
    rw [ei]
    by_cases hab : a &&& b = 0
    · rw [hab]
      have pm : (ms0.filter fun m => decide (m &&& (a ||| b) = a)).Perm (heldM a b ms) := by
        have e : (fun m => decide (m &&& (a ||| b) = a)) = fun m => decide (m &&& a = a) && decide (m &&& b = 0) := by
          funext m
          rw [Bool.eq_iff_iff, Bool.and_eq_true, decide_eq_true_eq, decide_eq_true_eq, decide_eq_true_eq]
          exact held_test hab
        rw [e]
        exact a9.filter _
      refine iteF ⟨_, rfl, fun x dz hx hdz hne => ?_⟩
      obtain ⟨g1, g2⟩ := fin (Same.refl _) (.inl (SqL.of hY)) hL pm x dz hx hdz hne.symm
      exact ⟨x, dz, D, n, ys, _, rfl, upd_same, by rw [upd_ne hne]; exact upd_same, .inl (SqL.of (g1 _ _ hY)), hL.same g1, h1, h2, ⟨fun m hm => hms.lt m (a9.mem_iff.mp (List.mem_filter.mp hm).1), (a9.nodup_iff.mpr hms.nd).filter _⟩, fun H5 k5 hA => ⟨rfl, g2 H5 k5 hA⟩⟩
    · have ne : (((a &&& b : Nat) : Int) != 0) = true := by
        rw [bne_iff_ne]
        omega
      rw [ne]
      refine iteT ⟨small (m := 1) (Nat.zero_le _), fun r hr2 x dz hx hdz hne => ?_⟩
      have s4 := same_new (o := .lst []) hr2
      obtain ⟨g1, g2⟩ := fin (mm := []) (xs := []) s4 (.inl (SqL.of upd_same)) trivial (by rw [held_none hab]) x dz hx hdz hne.symm
      exact ⟨x, dz, r, n, [], [], rfl, upd_same, by rw [upd_ne hne]; exact upd_same, .inl (SqL.of (g1 _ _ upd_same)), trivial, h1, h2, ⟨fun m hm => (by cases hm), List.nodup_nil⟩, fun H5 k5 hA => ⟨rfl, g2 H5 k5 hA⟩⟩
abbrev nAN : List Str := ["self", "other", "lot"]
theorem scAN : FnScope nAN ["self", "other"] (defScope sFAnd) := ⟨rfl, rfl, rfl, by decide +kernel, rfl, by decide +kernel, by decide +kernel⟩
theorem ok_f_and {f gi : Addr} {fd gid : FuncData} (F : Fun K "__and__" "Family.__and__" sFAnd f fd) (FC : FamC K C) (m_F : mg "Family" = some (.ref C)) (MK_F : Mk K C gi) (ok_F : FnOk P w K mg base CX0 4 gi gid ["self", "size", "lots"] (spInit K C (FAt C))) (b_F : Binds K gid ["self", "size", "lots"] [])
    (GS : CalE P w K mg base 3 "check_sizes" ["one", "two"] (spSizes B C)) (GM : Cal P w K mg base 1 "mask_of" ["lot"] spMaskOf) : FnOk P w K mg base (L2.CX P w) 6 f fd ["self", "other"] (spFAnd B C) := by
  obtain ⟨_, _, ok_cs, b_cs, k_cs, m_cs⟩ := GS.ex
  obtain ⟨_, _, ok_m, b_m, k_m, m_m⟩ := GM.ex
  refine F.okX scAN (fun vs H Q E h => ?_) (fun cdv A outer s H vs Q E hr h => ?_)
  · obtain ⟨f, g, n, n', ms, ms', rfl, _⟩ := h
    rfl
  · obtain ⟨f, g, n, n', ms, ms', rfl, hF, hG, h⟩ := h
    have hr_cs := hr.mono (j := 3) (by decide)
    have hr_m := hr.mono (j := 1) (by decide)
    have hu := hu_of hr
    refine ⟨_, (pss_cons (ps_expr (pe_call ok_cs hr_cs rfl m_cs k_cs b_cs .nil (passes_call (takes_of rfl rfl rfl rfl) (fun _ _ _ _ h => h)) (pa_cons (pv 0) (pa_cons (pv 1) pa_nil))))
      (pss_one (ps_ret (pe_make MK_F ok_F hr rfl m_F b_F .nil pass0 (pa_cons (pe_fld (pv 0) rfl) (pa_cons (pe_lc (own := [("lot", 2)]) (g := gName 2) rfl scAN.nd (pi_tup (pe_fld (pv 0) rfl)) (blkOk_by (own := [("lot", 2)]) (N := nAN) (sc := defScope sFAnd) (by decide +kernel)) (fun _ _ _ _ _ => pg_name (i := 2) scAN.nd rfl (Or.inl rfl)) (fun _ _ _ _ _ => pts_one (pt_cmp (pc_din hu (pe_call ok_m hr_m rfl m_m k_m b_m .nil pass0 (pa_cons (pv 2) pa_nil)) (pe_fld (pv 1) rfl : PE _ _ (tFld K (tVar 1) "masks"))))) (fun _ _ _ _ _ => pv 2)) pa_nil)))))), ?_⟩
    refine ⟨_, rfl, _, rfl, f, g, n, n', ms, ms', rfl, hF, hG, ?_⟩
    rcases h with ⟨e, k⟩ | ⟨e, k⟩
    rotate_left
    · exact .inr ⟨e, k⟩
    refine .inl ⟨e, ?_⟩
    obtain ⟨⟨dx, l, d, fs, ls, ms0, a1, a2, a3, a4, a5, a6, a7, a8, a9, a10, a11⟩, hms, h1, h2⟩ := id hF
    obtain ⟨⟨dy, l', d', gs, ls', ms1, c1, c2, c3, c4, c5, c6, c7, c8, c9, c10, c11⟩, hms', _, _⟩ := id hG
    have h10 := pow_le10 h2
    have lms : ms0.length ≤ 1024 := by
      rw [a9.length_eq]
      exact Nat.le_trans (nodup_len _ ms hms.nd hms.lt) h10
    refine ⟨_, rfl, f, C, dx, fs, _, rfl, a1, FC.cl, FC.size, a2, _, rfl, f, C, dx, fs, _, rfl, a1, FC.cl, FC.lots, a3, l, rfl, ⟨_, SqT.of a7⟩, fun D hD => ?_⟩
    refine lc_tup (K := K) (a := l) (xs := ls) (fun i H' => Same H H' ∧ ∃ ys, H' D = some (.lst ys) ∧ LotsAt H' ys ((ms0.take i).filter fun m => decide (m ∈ ms')) ∧ ys.length ≤ i) ⟨same_new hD, [], upd_same, trivial, Nat.le_refl _⟩ (fun i H' _ h => SqT.of (h.1 _ _ a7)) ?_ ?_
    · rintro i y H3 hy ⟨sm, ys, hY, hL, hl⟩
      obtain ⟨hi, r, rfl, hr1⟩ := a8.get hy
      have hlt := hms.lt _ (a9.mem_iff.mp (List.getElem_mem hi))
      have hm1 : decide (ms0[i] ∈ ms1) = decide (ms0[i] ∈ ms') := decide_eq_decide.mpr c9.mem_iff
      refine ⟨rfl, _, rfl, r, ms0[i], rfl, sm _ _ hr1, by omega, _, rfl, g, C, dy, gs, _, rfl, sm _ _ c1, FC.cl, FC.masks, c4, d', _, rfl, DGet.k (k := (Sum.inl ((ms0[i] : Nat) : Int) : Key)) (sm _ _ c11), _, rfl, ?_⟩
      rw [some_mK, hm1]
      refine ite2 (fun z => ?_) (fun z => ?_)
      · refine ⟨_, rfl, _, hY, below (m := 100000) (by omega), same_upd sm hD, _, upd_same, ?_, ?_⟩
        · rw [take_more hi, List.filter_append, List.filter_cons_of_pos (by exact z)]
          exact (hL.add (sm _ _ hr1)).upd hY
        · rw [List.length_append]
          show ys.length + 1 ≤ _
          omega
      · refine ⟨sm, ys, hY, ?_, by omega⟩
        rw [take_more hi, List.filter_append, List.filter_cons_of_neg (by exact z), List.filter_nil, List.append_nil]
        exact hL
    rintro H3 ⟨sm, ys, hY, hL, _⟩
    rw [a8.len, List.take_length] at hL
    intro x dz hx hdz hne
    have g1 : Same H3 (upd (upd H3 dz (.own x)) x (.ins C dz [])) := made_new hx hdz
    exact ⟨x, dz, D, n, ys, _, rfl, upd_same, by rw [upd_ne hne]; exact upd_same, .inl (SqL.of (g1 _ _ hY)), hL.same g1, h1, h2, ⟨fun m hm => hms.lt m (a9.mem_iff.mp (List.mem_filter.mp hm).1), (a9.nodup_iff.mpr hms.nd).filter _⟩, fun H5 k5 hA => ⟨rfl, k H5 x (sm.trans (made_same hx hdz k5)) (hA.perm (a9.filter _))⟩⟩
abbrev nFOr : List Str := ["self", "other", "lot"]
theorem scFOr : FnScope nFOr ["self", "other"] (defScope sFOr) := ⟨rfl, rfl, rfl, by decide +kernel, rfl, by decide +kernel, by decide +kernel⟩
theorem LotsAt.append {H : Hp} : ∀ {xs ys : List V} {a b : List Nat}, LotsAt H xs a → LotsAt H ys b → LotsAt H (xs ++ ys) (a ++ b)
  | [], _, [], _, _, h => h
  | x :: xs, _, m :: a, _, ⟨h1, h2⟩, h => ⟨h1, LotsAt.append h2 h⟩
theorem ok_f_or {f gi : Addr} {fd gid : FuncData} (F : Fun K "__or__" "Family.__or__" sFOr f fd) (T : Bare mg) (FC : FamC K C) (m_F : mg "Family" = some (.ref C)) (MK_F : Mk K C gi) (ok_F : FnOk P w K mg base CX0 4 gi gid ["self", "size", "lots"] (spInit K C (FAt C))) (b_F : Binds K gid ["self", "size", "lots"] [])
    (GS : CalE P w K mg base 3 "check_sizes" ["one", "two"] (spSizes B C)) (GM : Cal P w K mg base 1 "mask_of" ["lot"] spMaskOf) : FnOk P w K mg base (L2.CX P w) 6 f fd ["self", "other"] (spFOr B C) := by
  obtain ⟨_, _, ok_cs, b_cs, k_cs, m_cs⟩ := GS.ex
  obtain ⟨_, _, ok_m, b_m, k_m, m_m⟩ := GM.ex
  refine F.okX scFOr (fun vs H Q E h => ?_) (fun cdv A outer s H vs Q E hr h => ?_)
  · obtain ⟨f, g, n, n', ms, ms', rfl, _⟩ := h
    rfl
  · obtain ⟨f, g, n, n', ms, ms', rfl, hF, hG, h⟩ := h
    have hr_cs := hr.mono (j := 3) (by decide)
    have hr_m := hr.mono (j := 1) (by decide)
    have hu := hu_of hr
    refine ⟨_, (pss_cons (ps_expr (pe_call ok_cs hr_cs rfl m_cs k_cs b_cs .nil (passes_call (takes_of rfl rfl rfl rfl) (fun _ _ _ _ h => h)) (pa_cons (pv 0) (pa_cons (pv 1) pa_nil))))
      (pss_one (ps_ret (pe_make MK_F ok_F hr rfl m_F b_F .nil pass0 (pa_cons (pe_fld (pv 0) rfl) (pa_cons (pe_op op_cat (pe_callTy call_list_of (by rfl) T.list (by decide +kernel) (pa_cons (pe_fld (pv 0) rfl) pa_nil)) (pe_lc (own := [("lot", 2)]) (g := gName 2) rfl scFOr.nd (pi_tup (pe_fld (pv 1) rfl)) (blkOk_by (own := [("lot", 2)]) (N := nFOr) (sc := defScope sFOr) (by decide +kernel)) (fun _ _ _ _ _ => pg_name (i := 2) scFOr.nd rfl (Or.inl rfl)) (fun _ _ _ _ _ => pts_one (pt_cmp (pc_dnotin hu (pe_call ok_m hr_m rfl m_m k_m b_m .nil pass0 (pa_cons (pv 2) pa_nil)) (pe_fld (pv 0) rfl : PE _ _ (tFld K (tVar 0) "masks"))))) (fun _ _ _ _ _ => pv 2))) pa_nil)))))), ?_⟩
    refine ⟨_, rfl, _, rfl, f, g, n, n', ms, ms', rfl, hF, hG, ?_⟩
    rcases h with ⟨e, k⟩ | ⟨e, k⟩
    rotate_left
    · exact .inr ⟨e, k⟩
    refine .inl ⟨e, ?_⟩
    subst e
    obtain ⟨⟨dx, l, d, fs, ls, ms0, a1, a2, a3, a4, a5, a6, a7, a8, a9, a10, a11⟩, hms, h1, h2⟩ := id hF
    obtain ⟨⟨dy, l', d', gs, ls', ms1, c1, c2, c3, c4, c5, c6, c7, c8, c9, c10, c11⟩, hms', _, _⟩ := id hG
    have h10 := pow_le10 h2
    have lms : ms0.length ≤ 1024 := by
      rw [a9.length_eq]
      exact Nat.le_trans (nodup_len _ ms hms.nd hms.lt) h10
    have lms1 : ms1.length ≤ 1024 := by
      rw [c9.length_eq]
      exact Nat.le_trans (nodup_len _ ms' hms'.nd hms'.lt) h10
    refine ⟨_, rfl, f, C, dx, fs, _, rfl, a1, FC.cl, FC.size, a2, _, rfl, f, C, dx, fs, _, rfl, a1, FC.cl, FC.lots, a3, l, _, rfl, .inr (SqT.of a7), fun q hq => ?_⟩
    have sq := same_new (o := .lst ls) hq
    refine ⟨_, rfl, g, C, dy, gs, _, rfl, sq _ _ c1, FC.cl, FC.lots, c3, l', rfl, ⟨_, SqT.of (sq _ _ c7)⟩, fun D hD => ?_⟩
    refine lc_tup (K := K) (a := l') (xs := ls') (fun i H' => Same (upd H q (.lst ls)) H' ∧ ∃ ys, H' D = some (.lst ys) ∧ LotsAt H' ys ((ms1.take i).filter fun m => !decide (m ∈ ms)) ∧ ys.length ≤ i) ⟨same_new hD, [], upd_same, trivial, Nat.le_refl _⟩ (fun i H' _ h => SqT.of ((sq.trans h.1) _ _ c7)) ?_ ?_
    · rintro i y H3 hy ⟨sm, ys, hY, hL, hl⟩
      obtain ⟨hi, r, rfl, hr1⟩ := c8.get hy
      have hlt := hms'.lt _ (c9.mem_iff.mp (List.getElem_mem hi))
      have s3 := sq.trans sm
      have hm1 : decide (ms1[i] ∈ ms0) = decide (ms1[i] ∈ ms) := decide_eq_decide.mpr a9.mem_iff
      refine ⟨rfl, _, rfl, r, ms1[i], rfl, s3 _ _ hr1, by omega, _, rfl, f, C, dx, fs, _, rfl, s3 _ _ a1, FC.cl, FC.masks, a4, d, _, rfl, DGet.k (k := (Sum.inl ((ms1[i] : Nat) : Int) : Key)) (s3 _ _ a11), _, rfl, ?_⟩
      rw [some_mK, hm1]
      refine ite2 (fun z => ?_) (fun z => ?_)
      · refine ⟨_, rfl, _, hY, below (m := 100000) (by omega), same_upd sm hD, _, upd_same, ?_, ?_⟩
        · rw [take_more hi, List.filter_append, List.filter_cons_of_pos (by exact z)]
          exact (hL.add (s3 _ _ hr1)).upd hY
        · rw [List.length_append]
          show ys.length + 1 ≤ _
          omega
      · refine ⟨sm, ys, hY, ?_, by omega⟩
        rw [take_more hi, List.filter_append, List.filter_cons_of_neg (by exact z), List.filter_nil, List.append_nil]
        exact hL
    rintro H3 ⟨sm, ys, hY, hL, hyl⟩
    rw [c8.len, List.take_length] at hL
    have s3 := sq.trans sm
    have hll : ls.length = ms0.length := a8.len
    have hyl2 : ys.length ≤ ms1.length := by
      rw [hL.len]
      exact List.length_filter_le _ _
    refine ⟨q, D, _, _, rfl, rfl, sm _ _ upd_same, hY, small (m := 100000) (by omega), fun r hr2 => ?_⟩
    have s4 := same_new (o := .lst (ls ++ ys)) hr2
    intro x dz hx hdz hne
    have g1 : Same (upd H3 r (.lst (ls ++ ys))) (upd (upd (upd H3 r (.lst (ls ++ ys))) dz (.own x)) x (.ins C dz [])) := made_new hx hdz
    have hLL : LotsAt (upd H3 r (.lst (ls ++ ys))) (ls ++ ys) (ms0 ++ ms1.filter fun m => !decide (m ∈ ms)) := ((a8.same (s3.trans s4)).append (hL.same s4))
    refine ⟨x, dz, r, n, ls ++ ys, _, rfl, upd_same, by rw [upd_ne hne]; exact upd_same, .inl (SqL.of (g1 _ _ upd_same)), hLL.same g1, h1, h2, ⟨fun m hm => ?_, ?_⟩, fun H5 k5 hA => ⟨rfl, k H5 x (s3.trans (s4.trans (made_same hx hdz k5))) (hA.perm (a9.append (c9.filter _)))⟩⟩
    · rcases List.mem_append.mp hm with z | z
      · exact hms.lt m (a9.mem_iff.mp z)
      · exact hms'.lt m (c9.mem_iff.mp (List.mem_filter.mp z).1)
    · refine List.nodup_append.mpr ⟨a9.nodup_iff.mpr hms.nd, (c9.nodup_iff.mpr hms'.nd).filter _, fun y hy z hz e => ?_⟩
      have q2 := (List.mem_filter.mp hz).2
      rw [← e, decide_eq_true (a9.mem_iff.mp hy)] at q2
      cases q2
end
end Fam

/-! Sets of numbers closed by the sum of three (xor), and the numbers of their sections. -/
namespace XM
def GoodN (c : Nat) : Prop := c = 0 ∨ ∃ j, c = 2 ^ j
def sat (cs : List (Nat × Bool)) (m : Nat) : Bool := cs.all fun c => m.testBit c.1 == c.2
def Agree (F : List Nat) (a b : Nat) : Prop := ∀ i ∈ F, a.testBit i = b.testBit i
theorem len_le : ∀ {a b : List Nat}, a.Nodup → (∀ k ∈ a, k ∈ b) → a.length ≤ b.length
  | [], _, _, _ => Nat.zero_le _
  | x :: a, b, hn, h => by
    obtain ⟨hx, ha⟩ := List.nodup_cons.mp hn
    have q := len_le (b := b.erase x) ha fun k hk => (List.mem_erase_of_ne fun e => hx (by rw [← e]; exact hk)).mpr (h k (List.mem_cons_of_mem _ hk))
    have hm := h x List.mem_cons_self
    rw [List.length_erase_of_mem hm] at q
    have := List.length_pos_of_mem hm
    rw [List.length_cons]
    omega
theorem len_range {a : List Nat} {n : Nat} (h : a.Nodup) (lt : ∀ k ∈ a, k < n) : a.length ≤ n := by
  have := len_le (b := List.range n) h fun k hk => List.mem_range.mpr (lt k hk)
  rwa [List.length_range] at this
/-- the bits of a number at the places F, as a number -/
def code : List Nat → Nat → Nat
  | [], _ => 0
  | i :: F, s => 2 * code F s + (if s.testBit i = true then 1 else 0)
theorem code_lt : ∀ (F : List Nat) (s : Nat), code F s < 2 ^ F.length
  | [], _ => by show 0 < 2 ^ 0; decide
  | i :: F, s => by
    have := code_lt F s
    rw [List.length_cons, Nat.pow_succ]
    unfold code
    split <;> omega
theorem code_inj : ∀ {F : List Nat} {a b : Nat}, code F a = code F b → Agree F a b
  | [], _, _, _ => fun i hi => by cases hi
  | i :: F, a, b, h => by
    unfold code at h
    have e : code F a = code F b ∧ a.testBit i = b.testBit i := by
      cases ha : a.testBit i <;> cases hb : b.testBit i <;> rw [ha, hb] at h <;> simp at h <;> first | omega | exact ⟨by omega, rfl⟩
    intro k hk
    rcases List.mem_cons.mp hk with q | q
    · rw [q]; exact e.2
    · exact code_inj e.1 k q
theorem sat_cons (i : Nat) (b : Bool) (cs : List (Nat × Bool)) (m : Nat) : sat ((i, b) :: cs) m = ((m.testBit i == b) && sat cs m) := rfl
theorem bnot {a b : Bool} (h : a ≠ b) : a = !b := by cases a <;> cases b <;> first | rfl | exact absurd rfl h
theorem nodup_erase_mem {F : List Nat} (nd : F.Nodup) {i k : Nat} : k ∈ F.erase i ↔ k ≠ i ∧ k ∈ F := nd.mem_erase_iff
theorem pow_small : ∀ j, 2 ^ j ≤ 7 → 3 ≤ 2 ^ j → 2 ^ j = 4
  | 0, _, h => by exact absurd h (by decide)
  | 1, _, h => by exact absurd h (by decide)
  | 2, _, _ => rfl
  | j + 3, h, _ => by
    have : 2 ^ 3 ≤ 2 ^ (j + 3) := Nat.pow_le_pow_right (by decide) (by omega)
    omega
theorem not_three : ¬ GoodN 3 := by
  rintro (h | ⟨j, h⟩)
  · cases h
  · have := pow_small j (by omega) (by omega)
    omega
/-- four numbers of which each place has two of each kind -/
theorem four {F S : List Nat} {x y z u : Nat} (p : S.Perm [x, y, z, u]) (good : ∀ i ∈ F, ∀ b, GoodN (S.filter fun m => m.testBit i == b).length)
    (odd : ∀ i ∈ F, ¬ (x.testBit i = y.testBit i ∧ y.testBit i = z.testBit i)) : ∀ i ∈ F, u.testBit i = (x.testBit i ^^ y.testBit i ^^ z.testBit i) := by
  intro i hi
  have c : ∀ b, (S.filter fun m => m.testBit i == b).length = ([x, y, z, u].filter fun m => m.testBit i == b).length := fun b => (p.filter _).length_eq
  have g0 := good i hi false
  have g1 := good i hi true
  rw [c] at g0 g1
  have o := odd i hi
  revert g0 g1 o
  simp only [List.filter]
  cases x.testBit i <;> cases y.testBit i <;> cases z.testBit i <;> cases u.testBit i <;> intro g0 g1 o <;> first | rfl | exact absurd g0 not_three | exact absurd g1 not_three | exact absurd ⟨rfl, rfl⟩ o
theorem aff : ∀ (k : Nat) (F : List Nat), F.Nodup → F.length = k → ∀ S : List Nat, S.Nodup → (∀ a ∈ S, ∀ b ∈ S, Agree F a b → a = b) →
    (∀ cs : List (Nat × Bool), (∀ c ∈ cs, c.1 ∈ F) → (cs.map (·.1)).Nodup → GoodN (S.filter (sat cs)).length) →
    ∀ x ∈ S, ∀ y ∈ S, ∀ z ∈ S, ∃ s ∈ S, ∀ i ∈ F, s.testBit i = (x.testBit i ^^ y.testBit i ^^ z.testBit i) := by
  intro k
  induction k with
  | zero =>
    intro F _ hF S _ _ _ x hx y _ z _
    rw [List.length_eq_zero_iff.mp hF]
    exact ⟨x, hx, fun i hi => by cases hi⟩
  | succ k ih =>
    intro F nd hF S ndS inj good x hx y hy z hz
    have lenE : ∀ {i}, i ∈ F → (F.erase i).length = k := fun {i} hi => by rw [List.length_erase_of_mem hi, hF]; rfl
    -- three that agree at a place
    have sec : ∀ i ∈ F, ∀ a ∈ S, ∀ b ∈ S, ∀ c ∈ S, a.testBit i = b.testBit i → b.testBit i = c.testBit i → ∃ s ∈ S, ∀ l ∈ F, s.testBit l = (a.testBit l ^^ b.testBit l ^^ c.testBit l) := by
      intro i hi a ha b hb c hc e1 e2
      have mem : ∀ {m}, m ∈ S.filter (fun m => m.testBit i == a.testBit i) ↔ m ∈ S ∧ m.testBit i = a.testBit i := fun {m} => by rw [List.mem_filter, beq_iff_eq]
      obtain ⟨s, hs, q⟩ := ih (F.erase i) (nd.erase i) (lenE hi) (S.filter fun m => m.testBit i == a.testBit i) (ndS.filter _) (fun p hp r hr ag => by
          obtain ⟨p1, p2⟩ := mem.mp hp
          obtain ⟨r1, r2⟩ := mem.mp hr
          refine inj p p1 r r1 fun l hl => ?_
          by_cases el : l = i
          · rw [el, p2, r2]
          · exact ag l ((nodup_erase_mem nd).mpr ⟨el, hl⟩))
        (fun cs h1 h2 => by
          have e : (S.filter fun m => m.testBit i == a.testBit i).filter (sat cs) = S.filter (sat ((i, a.testBit i) :: cs)) := by
            rw [List.filter_filter]
            refine List.filter_congr fun m _ => ?_
            rw [sat_cons, Bool.and_comm]
          rw [e]
          refine good _ (fun c hc => ?_) ?_
          · rcases List.mem_cons.mp hc with q | q
            · rw [q]; exact hi
            · exact ((nodup_erase_mem nd).mp (h1 c q)).2
          · refine List.nodup_cons.mpr ⟨fun hm => ?_, h2⟩
            obtain ⟨c, hc, ec⟩ := List.mem_map.mp hm
            have := ((nodup_erase_mem nd).mp (h1 c hc)).1
            exact this ec)
        a (mem.mpr ⟨ha, rfl⟩) b (mem.mpr ⟨hb, e1.symm⟩) c (mem.mpr ⟨hc, (e1.trans e2).symm⟩)
      obtain ⟨s1, s2⟩ := mem.mp hs
      refine ⟨s, s1, fun l hl => ?_⟩
      by_cases el : l = i
      · rw [el, s2, ← e2, ← e1]
        cases a.testBit i <;> rfl
      · exact q l ((nodup_erase_mem nd).mpr ⟨el, hl⟩)
    -- two places at which the same one is odd
    have two : ∀ x ∈ S, ∀ y ∈ S, ∀ z ∈ S, ∀ i ∈ F, ∀ j ∈ F, i ≠ j → y.testBit i = z.testBit i → y.testBit j = z.testBit j → x.testBit i ≠ y.testBit i → x.testBit j ≠ y.testBit j → ∃ s ∈ S, ∀ l ∈ F, s.testBit l = (x.testBit l ^^ y.testBit l ^^ z.testBit l) := by
      intro x hx y hy z hz i hi j hj ij e1 e2 n1 n2
      have half : ∀ i ∈ F, ∀ j ∈ F, y.testBit i = z.testBit i → y.testBit j = z.testBit j → x.testBit i ≠ y.testBit i → (∃ q ∈ S, q.testBit j = y.testBit j ∧ q.testBit i ≠ y.testBit i) → ∃ s ∈ S, ∀ l ∈ F, s.testBit l = (x.testBit l ^^ y.testBit l ^^ z.testBit l) := by
        rintro i hi j hj e1 e2 n1 ⟨q, hq, q1, q2⟩
        obtain ⟨s1, hs1, r1⟩ := sec j hj q hq y hy z hz q1 e2
        have qx : q.testBit i = x.testBit i := (bnot q2).trans (bnot n1).symm
        have s1i : s1.testBit i = q.testBit i := by
          rw [r1 i hi, ← e1]
          cases q.testBit i <;> cases y.testBit i <;> rfl
        obtain ⟨s2, hs2, r2⟩ := sec i hi q hq s1 hs1 x hx s1i.symm (s1i.trans qx)
        refine ⟨s2, hs2, fun l hl => ?_⟩
        rw [r2 l hl, r1 l hl]
        cases q.testBit l <;> cases y.testBit l <;> cases z.testBit l <;> cases x.testBit l <;> rfl
      by_cases h1 : ∃ q ∈ S, q.testBit j = y.testBit j ∧ q.testBit i ≠ y.testBit i
      · exact half i hi j hj e1 e2 n1 h1
      by_cases h2 : ∃ q ∈ S, q.testBit i = y.testBit i ∧ q.testBit j ≠ y.testBit j
      · exact half j hj i hi e2 e1 n2 h2
      -- the places are linked
      have link : ∀ q ∈ S, q.testBit j = y.testBit j ↔ q.testBit i = y.testBit i := fun q hq =>
        ⟨fun g => Classical.byContradiction fun g2 => h1 ⟨q, hq, g, g2⟩, fun g => Classical.byContradiction fun g2 => h2 ⟨q, hq, g, g2⟩⟩
      have iE : i ∈ F.erase j := (nodup_erase_mem nd).mpr ⟨ij, hi⟩
      obtain ⟨s, hs, r⟩ := ih (F.erase j) (nd.erase j) (lenE hj) S ndS (fun a ha b hb ag => inj a ha b hb fun l hl => by
          by_cases el : l = j
          · rw [el]
            have ei := ag i iE
            by_cases g : a.testBit i = y.testBit i
            · rw [(link a ha).mpr g, (link b hb).mpr (ei ▸ g)]
            · have g2 : ¬ b.testBit i = y.testBit i := ei ▸ g
              rw [bnot fun z => g ((link a ha).mp z), bnot fun z => g2 ((link b hb).mp z)]
          · exact ag l ((nodup_erase_mem nd).mpr ⟨el, hl⟩))
        (fun cs g1 g2 => good cs (fun c hc => ((nodup_erase_mem nd).mp (g1 c hc)).2) g2) x hx y hy z hz
      refine ⟨s, hs, fun l hl => ?_⟩
      by_cases el : l = j
      · rw [el]
        have si : s.testBit i = x.testBit i := by
          rw [r i iE, ← e1]
          cases x.testBit i <;> cases y.testBit i <;> rfl
        have sj : s.testBit j ≠ y.testBit j := fun g => n1 (si.symm.trans ((link s hs).mp g))
        rw [bnot sj, ← e2, bnot n2]
        cases y.testBit j <;> rfl
      · exact r l ((nodup_erase_mem nd).mpr ⟨el, hl⟩)
    by_cases ag : ∃ i ∈ F, x.testBit i = y.testBit i ∧ y.testBit i = z.testBit i
    · obtain ⟨i, hi, e1, e2⟩ := ag
      exact sec i hi x hx y hy z hz e1 e2
    have odd : ∀ i ∈ F, ¬ (x.testBit i = y.testBit i ∧ y.testBit i = z.testBit i) := fun i hi h => ag ⟨i, hi, h⟩
    by_cases tx : ∃ i ∈ F, ∃ j ∈ F, i ≠ j ∧ y.testBit i = z.testBit i ∧ y.testBit j = z.testBit j
    · obtain ⟨i, hi, j, hj, ij, e1, e2⟩ := tx
      exact two x hx y hy z hz i hi j hj ij e1 e2 (fun h => odd i hi ⟨h, e1⟩) (fun h => odd j hj ⟨h, e2⟩)
    by_cases ty : ∃ i ∈ F, ∃ j ∈ F, i ≠ j ∧ x.testBit i = z.testBit i ∧ x.testBit j = z.testBit j
    · obtain ⟨i, hi, j, hj, ij, e1, e2⟩ := ty
      obtain ⟨s, hs, r⟩ := two y hy x hx z hz i hi j hj ij e1 e2 (fun h => odd i hi ⟨h.symm, h.trans e1⟩) (fun h => odd j hj ⟨h.symm, h.trans e2⟩)
      exact ⟨s, hs, fun l hl => by rw [r l hl]; cases x.testBit l <;> cases y.testBit l <;> cases z.testBit l <;> rfl⟩
    by_cases tz : ∃ i ∈ F, ∃ j ∈ F, i ≠ j ∧ x.testBit i = y.testBit i ∧ x.testBit j = y.testBit j
    · obtain ⟨i, hi, j, hj, ij, e1, e2⟩ := tz
      obtain ⟨s, hs, r⟩ := two z hz x hx y hy i hi j hj ij e1 e2 (fun h => odd i hi ⟨e1, e1.symm.trans h.symm⟩) (fun h => odd j hj ⟨e2, e2.symm.trans h.symm⟩)
      exact ⟨s, hs, fun l hl => by rw [r l hl]; cases x.testBit l <;> cases y.testBit l <;> cases z.testBit l <;> rfl⟩
    -- three places at most
    have kind : ∀ i ∈ F, (y.testBit i = z.testBit i) ∨ (x.testBit i = z.testBit i) ∨ (x.testBit i = y.testBit i) := fun i _ => by
      cases x.testBit i <;> cases y.testBit i <;> cases z.testBit i <;> simp
    have F3 : F.length ≤ 3 := by
      have nd3 : (F.map fun i => if y.testBit i = z.testBit i then 0 else if x.testBit i = z.testBit i then 1 else 2).Nodup := by
        refine List.Pairwise.map _ ?_ (List.Pairwise.and_mem.mp nd)
        rintro i j ⟨hi, hj, ij⟩ e
        by_cases a1 : y.testBit i = z.testBit i
        · rw [if_pos a1] at e
          by_cases b1 : y.testBit j = z.testBit j
          · exact tx ⟨i, hi, j, hj, ij, a1, b1⟩
          · rw [if_neg b1] at e
            split at e <;> cases e
        · rw [if_neg a1] at e
          by_cases a2 : x.testBit i = z.testBit i
          · rw [if_pos a2] at e
            by_cases b1 : y.testBit j = z.testBit j
            · rw [if_pos b1] at e; cases e
            · rw [if_neg b1] at e
              by_cases b2 : x.testBit j = z.testBit j
              · exact ty ⟨i, hi, j, hj, ij, a2, b2⟩
              · rw [if_neg b2] at e; cases e
          · rw [if_neg a2] at e
            by_cases b1 : y.testBit j = z.testBit j
            · rw [if_pos b1] at e; cases e
            · rw [if_neg b1] at e
              by_cases b2 : x.testBit j = z.testBit j
              · rw [if_pos b2] at e; cases e
              · refine tz ⟨i, hi, j, hj, ij, ?_, ?_⟩
                · rcases kind i hi with g | g | g
                  · exact absurd g a1
                  · exact absurd g a2
                  · exact g
                · rcases kind j hj with g | g | g
                  · exact absurd g b1
                  · exact absurd g b2
                  · exact g
      have := len_range nd3 (n := 3) fun k hk => by
        obtain ⟨i, _, e⟩ := List.mem_map.mp hk
        rw [← e]
        split <;> (try split) <;> omega
      rwa [List.length_map] at this
    refine Classical.byContradiction fun no => ?_
    have xy : x ≠ y := fun e => no ⟨z, hz, fun i _ => by rw [e]; cases y.testBit i <;> cases z.testBit i <;> rfl⟩
    have xz : x ≠ z := fun e => no ⟨y, hy, fun i _ => by rw [e]; cases y.testBit i <;> cases z.testBit i <;> rfl⟩
    have yz : y ≠ z := fun e => no ⟨x, hx, fun i _ => by rw [e]; cases x.testBit i <;> cases z.testBit i <;> rfl⟩
    have ndc : (code F (x ^^^ y ^^^ z) :: S.map (code F)).Nodup := by
      refine List.nodup_cons.mpr ⟨fun hm => ?_, List.Pairwise.map _ ?_ (List.Pairwise.and_mem.mp ndS)⟩
      · obtain ⟨s, hs, e⟩ := List.mem_map.mp hm
        refine no ⟨s, hs, fun i hi => ?_⟩
        rw [code_inj e i hi, Nat.testBit_xor, Nat.testBit_xor]
      · rintro a b ⟨ha, hb, ab⟩ e
        exact ab (inj a ha b hb (code_inj e))
    have p8 : 2 ^ F.length ≤ 2 ^ 3 := Nat.pow_le_pow_right (by decide) F3
    have l8 : S.length + 1 ≤ 8 := by
      have := len_range ndc (n := 8) fun k hk => by
        rcases List.mem_cons.mp hk with e | hk
        · rw [e]
          have := code_lt F (x ^^^ y ^^^ z)
          omega
        · obtain ⟨s, _, e⟩ := List.mem_map.mp hk
          rw [← e]
          have := code_lt F s
          omega
      rwa [List.length_cons, List.length_map] at this
    have l3 : 3 ≤ S.length := len_le (a := [x, y, z]) (b := S) (by simp [xy, xz, yz]) fun k hk => by
      rcases List.mem_cons.mp hk with e | hk
      · rw [e]; exact hx
      · rcases List.mem_cons.mp hk with e | hk
        · rw [e]; exact hy
        · rw [List.mem_singleton.mp hk]; exact hz
    have l4 : S.length = 4 := by
      have g := good [] (fun c hc => by cases hc) List.nodup_nil
      have e : S.filter (sat []) = S := List.filter_eq_self.mpr fun _ _ => rfl
      rw [e] at g
      rcases g with g | ⟨j, g⟩
      · omega
      · rw [g] at l8 l3 ⊢
        exact pow_small j (by omega) l3
    obtain ⟨u, hu, ux, uy, uz⟩ : ∃ u ∈ S, u ≠ x ∧ u ≠ y ∧ u ≠ z := by
      refine Classical.byContradiction fun h => ?_
      have := len_le (a := S) (b := [x, y, z]) ndS fun k hk => Classical.byContradiction fun q => h ⟨k, hk, fun e => q (by simp [e]), fun e => q (by simp [e]), fun e => q (by simp [e])⟩
      rw [l4] at this
      exact absurd this (by show ¬ 4 ≤ 3; decide)
    have nd4 : [x, y, z, u].Nodup := by simp [xy, xz, yz, ux.symm, uy.symm, uz.symm]
    have perm : S.Perm [x, y, z, u] := by
      refine (List.perm_ext_iff_of_nodup ndS nd4).mpr fun k => ⟨fun hk => ?_, fun hk => ?_⟩
      · refine Classical.byContradiction fun q => ?_
        have := len_le (a := k :: [x, y, z, u]) (b := S) (List.nodup_cons.mpr ⟨q, nd4⟩) fun m hm => by
          rcases List.mem_cons.mp hm with e | hm
          · rw [e]; exact hk
          · simp only [List.mem_cons, List.not_mem_nil, or_false] at hm
            rcases hm with e | e | e | e <;> rw [e] <;> assumption
        rw [l4] at this
        exact absurd this (by show ¬ 5 ≤ 4; decide)
      · simp only [List.mem_cons, List.not_mem_nil, or_false] at hk
        rcases hk with e | e | e | e <;> rw [e] <;> assumption
    refine no ⟨u, hu, four perm (fun i hi b => ?_) odd⟩
    have g := good [(i, b)] (fun c hc => by rw [List.mem_singleton.mp hc]; exact hi) (by simp)
    have e : S.filter (sat [(i, b)]) = S.filter fun m => m.testBit i == b := List.filter_congr fun m _ => by
      unfold sat
      simp
    rwa [e] at g
/-- the other way round: such a set has none or a power of two -/
theorem halves (k : Nat) : ∀ S : List Nat, S.length = (S.filter fun m => m.testBit k == true).length + (S.filter fun m => m.testBit k == false).length
  | [] => rfl
  | m :: S => by
    have := halves k S
    cases h : m.testBit k
    · rw [List.filter_cons_of_neg (by simp [h]), List.filter_cons_of_pos (by simp [h]), List.length_cons, List.length_cons]
      omega
    · rw [List.filter_cons_of_pos (by simp [h]), List.filter_cons_of_neg (by simp [h]), List.length_cons, List.length_cons]
      omega
theorem count : ∀ (k : Nat) (S : List Nat), S.Nodup → (∀ x ∈ S, ∀ y ∈ S, ∀ z ∈ S, x ^^^ y ^^^ z ∈ S) → (∀ a ∈ S, ∀ b ∈ S, (∀ i, i < k → a.testBit i = b.testBit i) → a = b) → GoodN S.length := by
  intro k
  induction k with
  | zero =>
    intro S nd _ inj
    match S, nd, inj with
    | [], _, _ => exact .inl rfl
    | [a], _, _ => exact .inr ⟨0, rfl⟩
    | a :: b :: r, nd, inj =>
      have := inj a List.mem_cons_self b (List.mem_cons_of_mem _ List.mem_cons_self) fun i hi => absurd hi (Nat.not_lt_zero i)
      rw [this] at nd
      exact absurd List.mem_cons_self (List.nodup_cons.mp nd).1
  | succ k ih =>
    intro S nd cl inj
    have part : ∀ b, GoodN (S.filter fun m => m.testBit k == b).length := fun b => by
      refine ih _ (nd.filter _) (fun x hx y hy z hz => ?_) (fun a ha c hc h => ?_)
      · obtain ⟨x1, x2⟩ := List.mem_filter.mp hx
        obtain ⟨y1, y2⟩ := List.mem_filter.mp hy
        obtain ⟨z1, z2⟩ := List.mem_filter.mp hz
        refine List.mem_filter.mpr ⟨cl x x1 y y1 z z1, ?_⟩
        rw [Nat.testBit_xor, Nat.testBit_xor]
        rw [beq_iff_eq] at x2 y2 z2
        rw [x2, y2, z2]
        cases b <;> rfl
      · obtain ⟨a1, a2⟩ := List.mem_filter.mp ha
        obtain ⟨c1, c2⟩ := List.mem_filter.mp hc
        rw [beq_iff_eq] at a2 c2
        refine inj a a1 c c1 fun i hi => ?_
        by_cases e : i = k
        · rw [e, a2, c2]
        · exact h i (by omega)
    have sum := halves k S
    have same : ∀ b, (∃ m ∈ S, m.testBit k = !b) → (S.filter fun m => m.testBit k == b).length ≤ (S.filter fun m => m.testBit k == !b).length := by
      rintro b ⟨y, hy, ey⟩
      cases he : S.filter fun m => m.testBit k == b with
      | nil => exact Nat.zero_le _
      | cons x r =>
        have hx : x ∈ S.filter fun m => m.testBit k == b := by rw [he]; exact List.mem_cons_self
        obtain ⟨x1, x2⟩ := List.mem_filter.mp hx
        rw [← he]
        have nd2 : ((S.filter fun m => m.testBit k == b).map fun m => m ^^^ x ^^^ y).Nodup := by
          refine List.Pairwise.map _ ?_ (nd.filter _)
          intro p q pq e
          refine pq ?_
          have e2 : p ^^^ x ^^^ y ^^^ y ^^^ x = q ^^^ x ^^^ y ^^^ y ^^^ x := by rw [e]
          simpa [Nat.xor_assoc] using e2
        have := len_le (b := S.filter fun m => m.testBit k == !b) nd2 fun m hm => by
          obtain ⟨p, hp, rfl⟩ := List.mem_map.mp hm
          obtain ⟨p1, p2⟩ := List.mem_filter.mp hp
          rw [beq_iff_eq] at p2 x2
          refine List.mem_filter.mpr ⟨cl p p1 x x1 y hy, ?_⟩
          rw [Nat.testBit_xor, Nat.testBit_xor, p2, x2, ey]
          cases b <;> rfl
        rwa [List.length_map] at this
    by_cases h1 : ∃ m ∈ S, m.testBit k = true
    · by_cases h0 : ∃ m ∈ S, m.testBit k = false
      · have e := Nat.le_antisymm (same true h0) (same false h1)
        have e2 : (S.filter fun m => m.testBit k == !true) = S.filter fun m => m.testBit k == false := rfl
        rw [e2] at e
        rw [sum, e]
        rcases part false with g | ⟨j, g⟩
        · exact .inl (by rw [g])
        · refine .inr ⟨j + 1, ?_⟩
          rw [g, Nat.pow_succ]
          omega
      · have e : S.filter (fun m => m.testBit k == false) = [] := List.filter_eq_nil_iff.mpr fun m hm q => h0 ⟨m, hm, by simpa using q⟩
        rw [sum, e]
        exact part true
    · have e : S.filter (fun m => m.testBit k == true) = [] := List.filter_eq_nil_iff.mpr fun m hm q => h1 ⟨m, hm, by simpa using q⟩
      rw [sum, e]
      have := part false
      simpa using this
end XM

/-! holds_against. -/
namespace Fam
open PySem L2 OwnX XM
open C8 (pss_cut tCut)
abbrev sHolds : Stmt := top 44
/-! ### powers of two -/
theorem low_odd (d : Nat) : (2 * d + 1) &&& (2 * d) = 2 * d := by
  have h1 : ((2 * d + 1) &&& (2 * d)) / 2 = d := by
    rw [Nat.and_div_two, show (2 * d + 1) / 2 = d by omega, show 2 * d / 2 = d by omega, Nat.and_self]
  have h2 : ((2 * d + 1) &&& (2 * d)) % 2 = 0 := by
    have : ((2 * d + 1) &&& (2 * d)) % 2 ^ 1 = (2 * d + 1) % 2 ^ 1 &&& (2 * d) % 2 ^ 1 := Nat.and_mod_two_pow
    rw [Nat.pow_one] at this
    rw [this, show (2 * d + 1) % 2 = 1 by omega, show 2 * d % 2 = 0 by omega]
    rfl
  omega
theorem low_even (d : Nat) (h : 0 < d) : (2 * d) &&& (2 * d - 1) = 2 * (d &&& (d - 1)) := by
  have h1 : ((2 * d) &&& (2 * d - 1)) / 2 = d &&& (d - 1) := by
    rw [Nat.and_div_two, show 2 * d / 2 = d by omega, show (2 * d - 1) / 2 = d - 1 by omega]
  have h2 : ((2 * d) &&& (2 * d - 1)) % 2 = 0 := by
    have : ((2 * d) &&& (2 * d - 1)) % 2 ^ 1 = (2 * d) % 2 ^ 1 &&& (2 * d - 1) % 2 ^ 1 := Nat.and_mod_two_pow
    rw [Nat.pow_one] at this
    rw [this, show 2 * d % 2 = 0 by omega, Nat.zero_and]
  omega
theorem pow_test : ∀ c : Nat, 0 < c → (c &&& (c - 1) = 0 ↔ ∃ j, c = 2 ^ j) := by
  intro c
  induction c using Nat.strongRecOn with
  | _ c ih =>
    intro hc
    rcases (⟨c / 2, by omega⟩ : ∃ d, c = 2 * d ∨ c = 2 * d + 1) with ⟨d, e | e⟩
    · subst e
      have hd : 0 < d := by omega
      rw [low_even d hd]
      have i := ih d (by omega) hd
      constructor
      · intro h
        obtain ⟨j, e⟩ := i.mp (by omega)
        exact ⟨j + 1, by rw [Nat.pow_succ, ← e]; omega⟩
      · rintro ⟨j, e⟩
        cases j with
        | zero => rw [Nat.pow_zero] at e; omega
        | succ j =>
          rw [Nat.pow_succ] at e
          rw [i.mpr ⟨j, by omega⟩]
    · subst e
      rw [show 2 * d + 1 - 1 = 2 * d by omega, low_odd]
      constructor
      · intro h
        exact ⟨0, by rw [Nat.pow_zero]; omega⟩
      · rintro ⟨j, e⟩
        cases j with
        | zero => rw [Nat.pow_zero] at e; omega
        | succ j => rw [Nat.pow_succ] at e; omega
theorem good_test (c : Nat) : (Builtin.bitAnd (c : Int) ((c : Int) - 1) != 0) = true ↔ ¬ GoodN c := by
  by_cases h : c = 0
  · subst h
    constructor
    · intro z
      exact absurd z (by decide)
    · intro z
      exact absurd (.inl rfl) z
  · have e : (c : Int) - 1 = ((c - 1 : Nat) : Int) := by omega
    rw [e, bitAnd_nat, bne_iff_ne]
    have := pow_test c (by omega)
    constructor
    · rintro z (g | g)
      · exact h g
      · exact z (by rw [this.mpr g]; rfl)
    · intro z q
      refine z (.inr (this.mp ?_))
      omega
/-! ### the stack -/
def AllGoodE (n : Nat) (ms : List Nat) : Prop := ∀ a b, a < 2 ^ n → b < 2 ^ n → a &&& b = 0 → GoodN (heldM a b ms).length
/-- (a', b') goes on from the places below pl -/
def Ext (n pl a b a' b' : Nat) : Prop := a' < 2 ^ n ∧ b' < 2 ^ n ∧ a' &&& b' = 0 ∧ a' % 2 ^ pl = a ∧ b' % 2 ^ pl = b
def Bad (ms : List Nat) (a b : Nat) : Prop := ¬ GoodN (heldM a b ms).length
theorem lotN_low {a b n : Nat} (h : ∀ i, i < n → a.testBit i = b.testBit i) : lotN a n = lotN b n := by
  induction n with
  | zero => rfl
  | succ n ih =>
    have i2 := ih fun i hi => h i (by omega)
    have e := h n (Nat.lt_succ_self n)
    by_cases q : a / 2 ^ n % 2 = 1
    · have q2 : b / 2 ^ n % 2 = 1 := (bit_iff b n).mpr (e ▸ (bit_iff a n).mp q)
      rw [lotN_yes q, lotN_yes q2, i2]
    · have q2 : ¬ b / 2 ^ n % 2 = 1 := fun z => q ((bit_iff a n).mpr (e ▸ (bit_iff b n).mp z))
      rw [lotN_no q, lotN_no q2, i2]
theorem lot_add {a pl : Nat} (h : a < 2 ^ pl) (hp : pl < 12) : lotV (a + 2 ^ pl) = lotV a ++ [vInt pl] := by
  have lt : a + 2 ^ pl < 2 ^ (pl + 1) := by rw [Nat.pow_succ]; omega
  have e1 : lotN (a + 2 ^ pl) 12 = lotN (a + 2 ^ pl) (pl + 1) := lotN_top lt (by omega)
  have e2 : lotN a 12 = lotN a pl := lotN_top h (by omega)
  have yes : (a + 2 ^ pl) / 2 ^ pl % 2 = 1 := by
    rw [Nat.add_div_right _ (Nat.pow_pos (by decide)), Nat.div_eq_of_lt h]
  have e3 : lotN (a + 2 ^ pl) pl = lotN a pl := lotN_low fun i hi => by
    rw [← or_pow h, Nat.testBit_or, Nat.testBit_two_pow, decide_eq_false (by omega), Bool.or_false]
  show (lotN (a + 2 ^ pl) 12).map vInt = (lotN a 12).map vInt ++ [vInt pl]
  rw [e1, e2, lotN_yes yes, e3, List.map_append]
  rfl
theorem and_bits {m a : Nat} : m &&& a = a ↔ ∀ i, a.testBit i = true → m.testBit i = true := by
  constructor
  · intro h i hi
    rw [← h, Nat.testBit_and, Bool.and_eq_true] at hi
    exact hi.1
  · intro h
    refine Nat.eq_of_testBit_eq fun i => ?_
    rw [Nat.testBit_and]
    cases e : a.testBit i with
    | false => rw [Bool.and_false]
    | true => rw [h i e]; rfl
theorem and_zero {m b : Nat} : m &&& b = 0 ↔ ∀ i, b.testBit i = true → m.testBit i = false := by
  constructor
  · intro h i hi
    have := congrArg (fun z => z.testBit i) h
    simp only [Nat.testBit_and, Nat.zero_testBit, hi, Bool.and_true] at this
    exact this
  · intro h
    refine Nat.eq_of_testBit_eq fun i => ?_
    rw [Nat.testBit_and, Nat.zero_testBit]
    cases e : b.testBit i with
    | false => rw [Bool.and_false]
    | true => rw [h i e]; rfl
theorem held_in {a b pl : Nat} {ms : List Nat} (h : a < 2 ^ pl) : heldM (a + 2 ^ pl) b ms = (heldM a b ms).filter fun m => m.testBit pl := by
  unfold heldM
  rw [List.filter_filter]
  refine List.filter_congr fun m _ => ?_
  rw [Bool.eq_iff_iff]
  simp only [Bool.and_eq_true, decide_eq_true_eq]
  rw [← or_pow h, and_bits, and_bits]
  constructor
  · rintro ⟨h1, h2⟩
    exact ⟨h1 pl (by rw [Nat.testBit_or, Nat.testBit_two_pow_self, Bool.or_true]), fun i hi => h1 i (by rw [Nat.testBit_or, hi]; rfl), h2⟩
  · rintro ⟨h0, h1, h2⟩
    refine ⟨fun i hi => ?_, h2⟩
    rw [Nat.testBit_or, Bool.or_eq_true, Nat.testBit_two_pow, decide_eq_true_eq] at hi
    rcases hi with q | q
    · exact h1 i q
    · rw [← q]; exact h0
theorem held_out {a b pl : Nat} {ms : List Nat} (h : b < 2 ^ pl) : heldM a (b + 2 ^ pl) ms = (heldM a b ms).filter fun m => !m.testBit pl := by
  unfold heldM
  rw [List.filter_filter]
  refine List.filter_congr fun m _ => ?_
  rw [Bool.eq_iff_iff]
  simp only [Bool.and_eq_true, decide_eq_true_eq, Bool.not_eq_true']
  rw [← or_pow h, and_zero, and_zero]
  constructor
  · rintro ⟨h1, h2⟩
    exact ⟨h2 pl (by rw [Nat.testBit_or, Nat.testBit_two_pow_self, Bool.or_true]), h1, fun i hi => h2 i (by rw [Nat.testBit_or, hi]; rfl)⟩
  · rintro ⟨h0, h1, h2⟩
    refine ⟨h1, fun i hi => ?_⟩
    rw [Nat.testBit_or, Bool.or_eq_true, Nat.testBit_two_pow, decide_eq_true_eq] at hi
    rcases hi with q | q
    · exact h2 i q
    · rw [← q]; exact h0
theorem Ext.next {n pl a b a' b' : Nat} (h : Ext n pl a b a' b') (ha : a < 2 ^ pl) (hb : b < 2 ^ pl) : Ext n (pl + 1) a b a' b' ∨ Ext n (pl + 1) a (b + 2 ^ pl) a' b' ∨ Ext n (pl + 1) (a + 2 ^ pl) b a' b' := by
  obtain ⟨h1, h2, h3, h4, h5⟩ := h
  have pa := Nat.mod_pow_succ (x := a') (b := 2) (k := pl)
  have pb := Nat.mod_pow_succ (x := b') (b := 2) (k := pl)
  rw [h4] at pa
  rw [h5] at pb
  have ca : a' / 2 ^ pl % 2 = 0 ∨ a' / 2 ^ pl % 2 = 1 := by omega
  have cb : b' / 2 ^ pl % 2 = 0 ∨ b' / 2 ^ pl % 2 = 1 := by omega
  rcases ca with ca | ca <;> rcases cb with cb | cb
  · rw [ca, Nat.mul_zero, Nat.add_zero] at pa
    rw [cb, Nat.mul_zero, Nat.add_zero] at pb
    exact .inl ⟨h1, h2, h3, pa, pb⟩
  · rw [ca, Nat.mul_zero, Nat.add_zero] at pa
    rw [cb, Nat.mul_one] at pb
    exact .inr (.inl ⟨h1, h2, h3, pa, pb⟩)
  · rw [ca, Nat.mul_one] at pa
    rw [cb, Nat.mul_zero, Nat.add_zero] at pb
    exact .inr (.inr ⟨h1, h2, h3, pa, pb⟩)
  · have e1 := (bit_iff a' pl).mp ca
    have e2 := (bit_iff b' pl).mp cb
    have := and_zero.mp h3 pl e2
    rw [e1] at this
    cases this
theorem Ext.sub {n pl a b a' b' : Nat} {ms : List Nat} (h : Ext n pl a b a' b') (e : heldM a b ms = []) : heldM a' b' ms = [] := by
  obtain ⟨_, _, _, h4, h5⟩ := h
  refine List.filter_eq_nil_iff.mpr fun m hm q => ?_
  have z := List.filter_eq_nil_iff.mp e m hm
  refine z ?_
  rw [Bool.and_eq_true, decide_eq_true_eq, decide_eq_true_eq] at q ⊢
  refine ⟨and_bits.mpr fun i hi => and_bits.mp q.1 i ?_, and_zero.mpr fun i hi => and_zero.mp q.2 i ?_⟩
  · rw [← h4, Nat.testBit_mod_two_pow, Bool.and_eq_true] at hi
    exact hi.2
  · rw [← h5, Nat.testBit_mod_two_pow, Bool.and_eq_true] at hi
    exact hi.2
/-- an entry of the stack: places below pl are told -/
def ItemAt (H : Hp) (D : Addr) (n : Nat) (ms0 : List Nat) (t : Addr) (it : Nat × Nat × Nat) : Prop := ∃ p q m, H t = some (.tup [vInt it.1, .ref p, .ref q, .ref m]) ∧ H p = some (.tup (lotV it.2.1)) ∧ H q = some (.tup (lotV it.2.2)) ∧ H m = some (.lst ((heldM it.2.1 it.2.2 ms0).map vInt)) ∧ m ≠ D ∧
  it.1 ≤ n ∧ it.2.1 < 2 ^ it.1 ∧ it.2.2 < 2 ^ it.1 ∧ it.2.1 &&& it.2.2 = 0
def StackAt (H : Hp) (D : Addr) (n : Nat) (ms0 : List Nat) : List V → List (Nat × Nat × Nat) → Prop
  | [], [] => True
  | v :: vs, it :: its => (∃ t, v = .ref t ∧ ItemAt H D n ms0 t it) ∧ StackAt H D n ms0 vs its
  | _, _ => False
theorem ItemAt.kp {H H' : Hp} {n : Nat} {ms0 : List Nat} {t D : Addr} {it : Nat × Nat × Nat} {xs : List V} (h : ItemAt H D n ms0 t it) (hD : H D = some (.lst xs)) (k : Kp D H H') : ItemAt H' D n ms0 t it := by
  obtain ⟨p, q, m, h1, h2, h3, h4, h5, h6⟩ := h
  exact ⟨p, q, m, k _ _ (ne_of h1 hD (by intro z; cases z)) h1, k _ _ (ne_of h2 hD (by intro z; cases z)) h2, k _ _ (ne_of h3 hD (by intro z; cases z)) h3, k _ _ h5 h4, h5, h6⟩
theorem StackAt.kp {H H' : Hp} {n : Nat} {ms0 : List Nat} {D : Addr} {xs : List V} (hD : H D = some (.lst xs)) (k : Kp D H H') : ∀ {vs : List V} {its : List (Nat × Nat × Nat)}, StackAt H D n ms0 vs its → StackAt H' D n ms0 vs its
  | [], [], h => h
  | v :: vs, it :: its, ⟨⟨t, e, h1⟩, h2⟩ => ⟨⟨t, e, h1.kp hD k⟩, h2.kp hD k⟩
theorem StackAt.push {H : Hp} {n : Nat} {ms0 : List Nat} {D t : Addr} {it : Nat × Nat × Nat} : ∀ {vs : List V} {its : List (Nat × Nat × Nat)}, StackAt H D n ms0 vs its → ItemAt H D n ms0 t it → StackAt H D n ms0 (vs ++ [.ref t]) (its ++ [it])
  | [], [], _, h => ⟨⟨t, rfl, h⟩, trivial⟩
  | v :: vs, i :: its, ⟨h1, h2⟩, h => ⟨h1, StackAt.push h2 h⟩
theorem StackAt.pop {H : Hp} {n : Nat} {ms0 : List Nat} {D : Addr} {v : V} : ∀ {vs : List V} {its : List (Nat × Nat × Nat)}, StackAt H D n ms0 (vs ++ [v]) its → ∃ its' it t, its = its' ++ [it] ∧ v = .ref t ∧ ItemAt H D n ms0 t it ∧ StackAt H D n ms0 vs its'
  | [], [it], ⟨⟨t, e, h⟩, _⟩ => ⟨[], it, t, rfl, e, h, trivial⟩
  | [], it :: i2 :: its, ⟨_, h⟩ => h.elim
  | w :: vs, it :: its, ⟨h1, h2⟩ => by
    obtain ⟨its', i, t, e1, e2, h3, h4⟩ := StackAt.pop (vs := vs) h2
    exact ⟨it :: its', i, t, by rw [e1]; rfl, e2, h3, h1, h4⟩
  | [], [], h => h.elim
  | w :: vs, [], h => h.elim
theorem StackAt.len {H : Hp} {n : Nat} {ms0 : List Nat} {D : Addr} : ∀ {vs : List V} {its : List (Nat × Nat × Nat)}, StackAt H D n ms0 vs its → vs.length = its.length
  | [], [], _ => rfl
  | v :: vs, it :: its, ⟨_, h⟩ => by rw [List.length_cons, List.length_cons, h.len]
/-- the cost of what is on the stack -/
def mu (n : Nat) (its : List (Nat × Nat × Nat)) : Nat := (its.map fun it => 4 ^ (n - it.1)).sum
theorem mu_app (n : Nat) (a b : List (Nat × Nat × Nat)) : mu n (a ++ b) = mu n a + mu n b := by
  unfold mu
  rw [List.map_append, List.sum_append]
theorem mu_one (n : Nat) (it : Nat × Nat × Nat) : mu n [it] = 4 ^ (n - it.1) := by
  unfold mu
  simp
theorem mu_len (n : Nat) : ∀ its : List (Nat × Nat × Nat), its.length ≤ mu n its
  | [] => Nat.zero_le _
  | it :: its => by
    have := mu_len n its
    have p : 0 < 4 ^ (n - it.1) := Nat.pow_pos (by decide)
    unfold mu at this ⊢
    rw [List.map_cons, List.sum_cons, List.length_cons]
    omega
theorem mu_three {n pl : Nat} (h : pl < n) {a b a1 b1 a2 b2 : Nat} {x y : Nat} : mu n [(pl + 1, a, b), (pl + 1, a1, b1), (pl + 1, a2, b2)] < mu n [(pl, x, y)] := by
  have e : n - pl = (n - (pl + 1)) + 1 := by omega
  have p : 0 < 4 ^ (n - (pl + 1)) := Nat.pow_pos (by decide)
  rw [mu_one]
  show _ < 4 ^ (n - pl)
  rw [e, Nat.pow_succ]
  unfold mu
  simp only [List.map_cons, List.map_nil, List.sum_cons, List.sum_nil]
  omega
def Covers (n : Nat) (ms : List Nat) (its : List (Nat × Nat × Nat)) : Prop := ∀ a b, a < 2 ^ n → b < 2 ^ n → a &&& b = 0 → Bad ms a b → ∃ it ∈ its, Ext n it.1 it.2.1 it.2.2 a b
theorem catA_one {K : PySem.W.Frag} {H : Hp} {a b : Addr} {xs ys : List V} {Q : VK} (ha : H a = some (.tup xs)) (hb : H b = some (.tup ys)) (hy : ys ≠ []) (hl : xs.length + ys.length ≤ sizeLine) (k : ∀ (H' : Hp) (r : Addr), Same H H' → H' r = some (.tup (xs ++ ys)) → Q (.ref r) H') : rCatA K (.ref a) (.ref b) H Q := by
  refine ⟨a, b, xs, ys, rfl, rfl, SqT.of ha, SqT.of hb, hl, fun e => ?_, fun _ e => absurd e hy, fun _ _ p hp => k _ p (same_new hp) upd_same⟩
  exact k H b (Same.refl _) (by rw [hb, e]; rfl)
def spHolds (C : Addr) : Sp := fun vs H Q _ => ∃ (f : Addr) (n : Nat) (ms : List Nat), vs = [.ref f] ∧ FAt C H f n ms ∧ ∀ H' : Hp, Same H H' → (AllGoodE n ms → Q .non H') ∧
  (∀ t p q a b, H' t = some (.tup [.ref p, .ref q]) → H' p = some (.tup (lotV a)) → H' q = some (.tup (lotV b)) → a < 2 ^ n → b < 2 ^ n → a &&& b = 0 → Bad ms a b → Q (.ref t) H')
theorem held_perm {a b : Nat} {ms0 ms : List Nat} (p : ms0.Perm ms) : (heldM a b ms0).length = (heldM a b ms).length := (p.filter _).length_eq
section
variable {P : Program} {w : World} {K : PySem.W.Frag} {mg : Str → Option Value} {base : Heap} {C : Addr}
abbrev nHA : List Str := ["family", "todo", "place", "inside", "outside", "masks", "mask"]
theorem scHA : FnScope nHA ["family"] (defScope sHolds) := ⟨rfl, rfl, rfl, by decide +kernel, rfl, by decide +kernel, by decide +kernel⟩
theorem ok_holds {f : Addr} {fd : FuncData} (F : Fun K "holds_against" "holds_against" sHolds f fd) (T : Bare mg) (FC : FamC K C) : FnOk P w K mg base CX0 1 f fd ["family"] (spHolds C) := by
  refine F.ok scHA (fun vs H Q E h => ?_) (fun cdv A outer s H vs Q E hr h => ?_)
  · obtain ⟨f, n, ms, rfl, _⟩ := h
    rfl
  · obtain ⟨f, n, ms, rfl, hF, k⟩ := h
    refine ⟨_, (pss_cons (ps_set (i := 1) scHA.nd rfl (Or.inl rfl) (pe_lst (pa_cons (pe_tup (pa_cons pe_int (pa_cons (pe_tup pa_nil) (pa_cons (pe_tup pa_nil) (pa_cons (pe_callTy (call_list_dK rfl) (by rfl) T.list (by decide +kernel) (pa_cons (pe_fld (pv 0) rfl) pa_nil)) pa_nil))))) pa_nil)))
      (pss_cons (ps_while PassesOwn.never (pt_truth (pv 1) (by intro _; rfl))
          (pss_cons (ps_asg (pe_bm0 PySem.F.plainAttrs_list PySem.F.slot_list_pop PySem.F.type_list_pop mt_pop (pv 1)) (pg_tup rfl (pgs_cons (pg_name (i := 2) scHA.nd rfl (Or.inr rfl)) (pgs_cons (pg_name (i := 3) scHA.nd rfl (Or.inl rfl)) (pgs_cons (pg_name (i := 4) scHA.nd rfl (Or.inl rfl)) (pgs_cons (pg_name (i := 5) scHA.nd rfl (Or.inl rfl)) pgs_nil))))))
          (pss_one (ps_if (PW.pt (pw_and (pt_cmpR op_lt (pv 2) (pe_fld (pv 0) rfl) (nomark _)) (pw_and1 (pt_truth (pv 5) (by intro _; rfl))))) (pss_cons (ps_expr (pe_bm PySem.F.plainAttrs_list PySem.F.slot_list_append PySem.F.type_list_append mt_append (pv 1) (pa_cons (pe_tup (pa_cons (pe_op op_add (pv 2) pe_int) (pa_cons (pv 3) (pa_cons (pv 4) (pa_cons (pv 5) pa_nil))))) pa_nil)))
              (pss_cons (ps_expr (pe_bm PySem.F.plainAttrs_list PySem.F.slot_list_append PySem.F.type_list_append mt_append (pv 1) (pa_cons (pe_tup (pa_cons (pe_op op_add (pv 2) pe_int) (pa_cons (pv 3) (pa_cons (pe_op op_catA (pv 4) (pe_tup (pa_cons (pv 2) pa_nil))) (pa_cons (pe_lc (own := [("mask", 6)]) (g := gName 6) rfl scHA.nd (pi_list (pv 5)) (blkOk_by (own := [("mask", 6)]) (N := nHA) (sc := defScope sHolds) (by decide +kernel)) (fun _ _ _ _ _ => pg_name (i := 6) scHA.nd rfl (Or.inl rfl)) (fun _ _ _ _ _ => pts_one (pt_not (pt_int (pe_op op_and (pe_op op_shr (pv 6) (pv 2)) pe_int) (by intro _; rfl)))) (fun _ _ _ _ _ => pv 6)) pa_nil))))) pa_nil)))
              (pss_one (ps_expr (pe_bm PySem.F.plainAttrs_list PySem.F.slot_list_append PySem.F.type_list_append mt_append (pv 1) (pa_cons (pe_tup (pa_cons (pe_op op_add (pv 2) pe_int) (pa_cons (pe_op op_catA (pv 3) (pe_tup (pa_cons (pv 2) pa_nil))) (pa_cons (pv 4) (pa_cons (pe_lc (own := [("mask", 6)]) (g := gName 6) rfl scHA.nd (pi_list (pv 5)) (blkOk_by (own := [("mask", 6)]) (N := nHA) (sc := defScope sHolds) (by decide +kernel)) (fun _ _ _ _ _ => pg_name (i := 6) scHA.nd rfl (Or.inl rfl)) (fun _ _ _ _ _ => pts_one (pt_int (pe_op op_and (pe_op op_shr (pv 6) (pv 2)) pe_int) (by intro _; rfl))) (fun _ _ _ _ _ => pv 6)) pa_nil))))) pa_nil)))))) (pss_one (ps_if (pt_int (pe_op op_and (pe_callB call_len_seq (by rfl) T.len PySem.boot_len (pa_cons (pv 5) pa_nil)) (pe_op op_sub (pe_callB call_len_seq (by rfl) T.len PySem.boot_len (pa_cons (pv 5) pa_nil)) pe_int)) (by intro _; rfl)) (pss_one (ps_ret (pe_tup (pa_cons (pv 3) (pa_cons (pv 4) pa_nil))))) pss_nil))))))
      (pss_one (ps_ret pe_non)))), ?_⟩
    obtain ⟨⟨dx, l, d, fs, ls, ms0, a1, a2, a3, a4, a5, a6, a7, a8, a9, a10, a11⟩, hms, h1, h2⟩ := id hF
    have h10 := pow_le10 h2
    have lms : ms0.length ≤ 1024 := by
      rw [a9.length_eq]
      exact Nat.le_trans (nodup_len _ ms hms.nd hms.lt) h10
    have hml : ∀ a b, (heldM a b ms0).length ≤ 1024 := fun a b => Nat.le_trans (List.length_filter_le _ _) lms
    -- the first entry
    refine ⟨small (m := 1) (Nat.zero_le _), fun p1 hp1 => ⟨small (m := 1) (Nat.zero_le _), fun p2 hp2 => ?_⟩⟩
    have e1 := same_new (o := .tup []) hp1
    have e2 := same_new (o := .tup []) hp2
    refine ⟨_, rfl, f, C, dx, fs, _, rfl, (e1.trans e2) _ _ a1, FC.cl, FC.masks, a4, d, _, rfl, (e1.trans e2) _ _ a11, fun p3 hp3 => ?_⟩
    have ek : ((mK ms0).map fun kv => kV kv.1) = ms0.map vInt := by
      unfold mK
      rw [List.map_map]
      rfl
    rw [ek]
    have e3 := same_new (o := .lst (ms0.map vInt)) hp3
    refine ⟨small (m := 4) (Nat.le_refl _), fun t0 ht0 => ⟨small (m := 1) (Nat.le_refl _), fun D hD => ?_⟩⟩
    have e4 := same_new (o := .tup [V.int 0, V.ref p1, V.ref p2, V.ref p3]) ht0
    have e5 := same_new (o := .lst [V.ref t0]) hD
    have e05 : Same H _ := e1.trans (e2.trans (e3.trans (e4.trans e5)))
    have hDn : H D = none := (e1.trans (e2.trans (e3.trans e4))).free hD
    have all0 : heldM 0 0 ms0 = ms0 := List.filter_eq_self.mpr fun m _ => by
      rw [Nat.and_zero]
      rfl
    have it0 : ItemAt _ D n ms0 t0 (0, 0, 0) := ⟨p1, p2, p3, e5 _ _ upd_same, (e2.trans (e3.trans (e4.trans e5))) _ _ upd_same, (e3.trans (e4.trans e5)) _ _ upd_same, (by
      rw [all0]
      exact (e4.trans e5) _ _ upd_same), (fun e => by
        have := e4 _ _ (upd_same (H := upd (upd H p1 (.tup [])) p2 (.tup [])) (a := p3) (o := .lst (ms0.map vInt)))
        rw [e] at this
        rw [e] at hD
        rw [hD] at this
        cases this), Nat.zero_le _, Nat.pow_pos (by decide), Nat.pow_pos (by decide), rfl⟩
    refine ⟨fun m σ H' => ∃ (ts : List V) (its : List (Nat × Nat × Nat)) (y2 y3 y4 y5 : Option V), σ = [some (.ref f), some (.ref D), y2, y3, y4, y5, none] ∧ m = mu n its ∧ Kp D H H' ∧ H' D = some (.lst ts) ∧ StackAt H' D n ms0 ts its ∧ Covers n ms its ∧ mu n its ≤ 4 ^ n,
      ⟨mu n [(0, 0, 0)], [.ref t0], [(0, 0, 0)], none, none, none, none, rfl, rfl, fun b o _ e => e05 b o e, upd_same, ⟨⟨t0, rfl, it0⟩, trivial⟩, fun a b ha hb hab _ => ⟨(0, 0, 0), List.mem_singleton.mpr rfl, ha, hb, hab, by rw [Nat.pow_zero, Nat.mod_one], by rw [Nat.pow_zero, Nat.mod_one]⟩, by rw [mu_one]; exact Nat.le_refl _⟩, ?_⟩
    rintro m σ H1 ⟨ts, its, y2, y3, y4, y5, rfl, rfl, kp, hT, hSt, hcov, hmu⟩
    have s1 : Same H H1 := fun b o e => kp b o (ne_of_none e hDn) e
    refine ⟨_, rfl, _, .inl ⟨ts, SqL.of hT, rfl⟩, ?_⟩
    rcases List.eq_nil_or_concat ts with rfl | ⟨ts', v, rfl⟩
    · -- nothing is left
      refine iteF ((k H1 s1).1 fun a b ha hb hab => Classical.byContradiction fun bad => ?_)
      obtain ⟨it, hit, _⟩ := hcov a b ha hb hab bad
      have : its = [] := List.length_eq_zero_iff.mp hSt.len.symm
      rw [this] at hit
      cases hit
    rw [List.concat_eq_append] at hT hSt ⊢
    obtain ⟨its', it, t, rfl, rfl, hIt, hSt'⟩ := hSt.pop
    obtain ⟨pl, a, b⟩ := it
    obtain ⟨p, q, mm, i1, i2, i3, i4, i5, i6, i7, i8, i9⟩ := id hIt
    have i6 : pl ≤ n := i6
    have i7 : a < 2 ^ pl := i7
    have i8 : b < 2 ^ pl := i8
    have i9 : a &&& b = 0 := i9
    have ne : (!(ts' ++ [V.ref t]).isEmpty) = true := by
      cases ts' <;> rfl
    rw [ne]
    refine iteT ⟨fun σ' H' => ∃ m', m' < mu n (its' ++ [(pl, a, b)]) ∧ ∃ (ts : List V) (its : List (Nat × Nat × Nat)) (y2 y3 y4 y5 : Option V), σ' = [some (.ref f), some (.ref D), y2, y3, y4, y5, none] ∧ m' = mu n its ∧ Kp D H H' ∧ H' D = some (.lst ts) ∧ StackAt H' D n ms0 ts its ∧ Covers n ms its ∧ mu n its ≤ 4 ^ n, fun σ' H' h => h, ?_⟩
    have elast : (ts' ++ [V.ref t])[(ts' ++ [V.ref t]).length - 1]? = some (V.ref t) := by
      rw [List.length_append]
      show (ts' ++ [V.ref t])[ts'.length + 1 - 1]? = _
      rw [Nat.add_sub_cancel, List.getElem?_append_right (Nat.le_refl _), Nat.sub_self]
      rfl
    have htD : t ≠ D := ne_of i1 hT (by intro z; cases z)
    have hpD : p ≠ D := ne_of i2 hT (by intro z; cases z)
    have hqD : q ≠ D := ne_of i3 hT (by intro z; cases z)
    refine ⟨_, rfl, .inl ⟨rfl, _, SqL.of hT⟩, D, _, _, rfl, rfl, hT, elast, ?_⟩
    rw [List.dropLast_concat]
    obtain ⟨H2, eH2⟩ : ∃ H2, H2 = upd H1 D (.lst ts') := ⟨_, rfl⟩
    rw [← eH2]
    have hT2 : H2 D = some (.lst ts') := by rw [eH2]; exact upd_same
    have kp12 : Kp D H1 H2 := fun x o hx e => by rw [eH2, upd_ne hx]; exact e
    have kp2 : Kp D H H2 := kp.trans kp12
    have s2 : Same H H2 := fun x o e => kp2 x o (ne_of_none e hDn) e
    have hSt2 := hSt'.kp hT kp12
    have j1 := kp12 _ _ htD i1
    have j2 := kp12 _ _ hpD i2
    have j3 := kp12 _ _ hqD i3
    have j4 := kp12 _ _ i5 i4
    have lts : ts'.length ≤ 4 ^ 10 := by
      rw [hSt'.len]
      have h3 := mu_len n its'
      rw [mu_app] at hmu
      have h4 : 4 ^ n ≤ 4 ^ 10 := Nat.pow_le_pow_right (by decide) h2
      omega
    have l10 : (4 : Nat) ^ 10 = 1048576 := rfl
    refine ⟨t, _, rfl, SqT.of j1, rfl, _, _, rfl, _, _, rfl, _, _, rfl, _, _, rfl, rfl, ?_⟩
    refine ⟨_, rfl, _, rfl, f, C, dx, fs, _, rfl, s2 _ _ a1, FC.cl, FC.size, a2, _, _, rfl, rfl, _, rfl, ?_⟩
    -- what a step leaves
    have back : ∀ {σ' : L2.St} {H' : Hp} {ts2 : List V} {its2 : List (Nat × Nat × Nat)} {y2 y3 y4 y5 : Option V}, σ' = [some (.ref f), some (.ref D), y2, y3, y4, y5, none] → Kp D H2 H' → H' D = some (.lst ts2) → StackAt H' D n ms0 ts2 its2 → Covers n ms its2 → mu n its2 < mu n (its' ++ [(pl, a, b)]) →
        ∃ m', m' < mu n (its' ++ [(pl, a, b)]) ∧ ∃ (ts : List V) (its : List (Nat × Nat × Nat)) (y2 y3 y4 y5 : Option V), σ' = [some (.ref f), some (.ref D), y2, y3, y4, y5, none] ∧ m' = mu n its ∧ Kp D H H' ∧ H' D = some (.lst ts) ∧ StackAt H' D n ms0 ts its ∧ Covers n ms its ∧ mu n its ≤ 4 ^ n := fun e kk hT' hS' hc hlt =>
      ⟨_, hlt, _, _, _, _, _, _, e, rfl, kp2.trans kk, hT', hS', hc, by omega⟩
    have lt1 : mu n its' < mu n (its' ++ [(pl, a, b)]) := by
      rw [mu_app, mu_one]
      have : 0 < 4 ^ (n - pl) := Nat.pow_pos (by decide)
      show _ < _ + 4 ^ (n - pl)
      omega
    -- an entry that is told
    have leaf : (heldM a b ms0 = [] ∨ pl = n) → GoodN (heldM a b ms0).length → Covers n ms its' := fun hc hg a' b' ha hb hab bad => by
      obtain ⟨it, hit, he⟩ := hcov a' b' ha hb hab bad
      rcases List.mem_append.mp hit with z | z
      · exact ⟨it, z, he⟩
      · have e := List.mem_singleton.mp z
        subst e
        refine absurd ?_ bad
        rw [← held_perm a9]
        rcases hc with hc | hc
        · rw [he.sub hc]
          exact .inl rfl
        · subst hc
          obtain ⟨h3, h4, h5, h6, h7⟩ := he
          rw [Nat.mod_eq_of_lt h3] at h6
          rw [Nat.mod_eq_of_lt h4] at h7
          show GoodN (heldM a' b' ms0).length
          rw [h6, h7]
          exact hg
    refine ite2 (fun z => ⟨_, rfl, _, .inl ⟨_, SqL.of j4, rfl⟩, ite2 (fun z2 => ?main) (fun z2 => ?stop1)⟩) (fun z => ?stop2)
    case stop1 =>
      have hc : heldM a b ms0 = [] ∨ pl = n := by
        refine .inl ?_
        cases e : heldM a b ms0 with
        | nil => rfl
        | cons y ys => rw [e] at z2; exact absurd rfl z2
      have hab : a < 2 ^ n ∧ b < 2 ^ n := ⟨Nat.lt_of_lt_of_le i7 (Nat.pow_le_pow_right (by decide) i6), Nat.lt_of_lt_of_le i8 (Nat.pow_le_pow_right (by decide) i6)⟩
      refine ⟨_, rfl, mm, _, rfl, .inl (SqL.of j4), _, rfl, mm, _, rfl, .inl (SqL.of j4), _, _, rfl, rfl, _, _, rfl, rfl, _, rfl, ?_⟩
      rw [List.length_map]
      by_cases g : GoodN (heldM a b ms0).length
      · rw [Bool.eq_false_iff.mpr fun q => (good_test _).mp q g]
        exact iteF (back rfl (Kp.refl _ _) hT2 hSt2 (leaf hc g) lt1)
      · rw [(good_test _).mpr g]
        refine iteT ⟨_, rfl, _, rfl, small (m := 2) (Nat.le_refl _), fun t9 ht9 => ?_⟩
        have s9 := same_new (o := .tup [V.ref p, V.ref q]) ht9
        exact (k _ (s2.trans s9)).2 t9 p q a b upd_same (s9 _ _ j2) (s9 _ _ j3) hab.1 hab.2 i9 fun z => g (by rw [held_perm a9]; exact z)
    case stop2 =>
      have hc : heldM a b ms0 = [] ∨ pl = n := .inr (by
        have z1 : ¬ (pl : Int) < (n : Int) := fun q => z (decide_eq_true q)
        have i6 : pl ≤ n := i6
        omega)
      have hab : a < 2 ^ n ∧ b < 2 ^ n := ⟨Nat.lt_of_lt_of_le i7 (Nat.pow_le_pow_right (by decide) i6), Nat.lt_of_lt_of_le i8 (Nat.pow_le_pow_right (by decide) i6)⟩
      refine ⟨_, rfl, mm, _, rfl, .inl (SqL.of j4), _, rfl, mm, _, rfl, .inl (SqL.of j4), _, _, rfl, rfl, _, _, rfl, rfl, _, rfl, ?_⟩
      rw [List.length_map]
      by_cases g : GoodN (heldM a b ms0).length
      · rw [Bool.eq_false_iff.mpr fun q => (good_test _).mp q g]
        exact iteF (back rfl (Kp.refl _ _) hT2 hSt2 (leaf hc g) lt1)
      · rw [(good_test _).mpr g]
        refine iteT ⟨_, rfl, _, rfl, small (m := 2) (Nat.le_refl _), fun t9 ht9 => ?_⟩
        have s9 := same_new (o := .tup [V.ref p, V.ref q]) ht9
        exact (k _ (s2.trans s9)).2 t9 p q a b upd_same (s9 _ _ j2) (s9 _ _ j3) hab.1 hab.2 i9 fun z => g (by rw [held_perm a9]; exact z)
    case main =>
      have hpl : pl < n := by
        have z1 : (pl : Int) < (n : Int) := of_decide_eq_true z
        omega
      have hbit : ∀ m : Nat, Builtin.bitAnd ((m : Int) / 2 ^ ((pl : Int)).toNat) 1 = ((m / 2 ^ pl % 2 : Nat) : Int) := fun m => by
        have e1 : ((m : Int) / 2 ^ ((pl : Int)).toNat) = ((m / 2 ^ pl : Nat) : Int) := by
          rw [Int.toNat_natCast, Int.natCast_ediv, Int.natCast_pow]
          rfl
        rw [e1, show (1 : Int) = ((1 : Nat) : Int) from rfl, bitAnd_nat, Nat.and_one_is_mod]
      have a1lt : a < 2 ^ (pl + 1) := by rw [Nat.pow_succ]; omega
      have b1lt : b < 2 ^ (pl + 1) := by rw [Nat.pow_succ]; omega
      have a2lt : a + 2 ^ pl < 2 ^ (pl + 1) := by rw [Nat.pow_succ]; omega
      have b2lt : b + 2 ^ pl < 2 ^ (pl + 1) := by rw [Nat.pow_succ]; omega
      have ab1 : a &&& (b + 2 ^ pl) = 0 := by
        rw [← or_pow i8, and_zero]
        intro i hi
        rw [Nat.testBit_or, Bool.or_eq_true, Nat.testBit_two_pow, decide_eq_true_eq] at hi
        rcases hi with q | q
        · exact and_zero.mp i9 i q
        · rw [← q]; exact Nat.testBit_lt_two_pow i7
      have ab2 : (a + 2 ^ pl) &&& b = 0 := by
        rw [← or_pow i7, and_zero]
        intro i hi
        rw [Nat.testBit_or, and_zero.mp i9 i hi, Nat.testBit_two_pow, Bool.false_or, decide_eq_false_iff_not]
        intro e
        subst e
        rw [Nat.testBit_lt_two_pow i8] at hi
        cases hi
      -- the first
      refine ⟨_, rfl, .inl ⟨rfl, _, SqL.of hT2⟩, _, rfl, _, _, rfl, rfl, _, rfl, _, rfl, _, rfl, small (m := 4) (Nat.le_refl _), fun t1 ht1 => ?_⟩
      have e1 := same_new (o := .tup [V.int ((pl : Int) + 1), V.ref p, V.ref q, V.ref mm]) ht1
      refine ⟨D, _, _, rfl, rfl, e1 _ _ hT2, below (m := 2000000) (by omega), ?_⟩
      obtain ⟨H4, eH4⟩ : ∃ H4, H4 = upd (upd H2 t1 (.tup [V.int ((pl : Int) + 1), V.ref p, V.ref q, V.ref mm])) D (.lst (ts' ++ [V.ref t1])) := ⟨_, rfl⟩
      rw [← eH4]
      have hT4 : H4 D = some (.lst (ts' ++ [V.ref t1])) := by rw [eH4]; exact upd_same
      have k24 : Kp D H2 H4 := fun x o hx e => by rw [eH4, upd_ne hx]; exact e1 _ _ e
      have ht1D : t1 ≠ D := (ne_of_none hT2 ht1).symm
      have it1 : ItemAt H4 D n ms0 t1 (pl + 1, a, b) := ⟨p, q, mm, by rw [eH4, upd_ne ht1D]; exact upd_same, k24 _ _ hpD j2, k24 _ _ hqD j3, k24 _ _ i5 j4, i5, hpl, a1lt, b1lt, i9⟩
      have St4 := (hSt2.kp hT2 k24).push it1
      have m4 := k24 _ _ i5 j4
      -- the second
      refine ⟨_, rfl, .inl ⟨rfl, _, SqL.of hT4⟩, _, rfl, _, _, rfl, rfl, _, rfl, _, rfl, _, rfl, small (m := 1) (Nat.le_refl _), fun u hu => ?_⟩
      have e2 := same_new (o := .tup [vInt pl]) hu
      have lenb : (lotV b).length ≤ 12 := by
        show ((lotN b 12).map vInt).length ≤ 12
        rw [List.length_map]
        exact lotN_len b 12
      have lena : (lotV a).length ≤ 12 := by
        show ((lotN a 12).map vInt).length ≤ 12
        rw [List.length_map]
        exact lotN_len a 12
      refine catA_one (xs := lotV b) (ys := [vInt pl]) ((k24.trans (fun x o _ e => e2 x o e)) _ _ hqD j3) upd_same (by intro z; cases z) (small (m := 20) (by show (lotV b).length + 1 ≤ 20; omega)) fun H6 r s6 hr6 => ?_
      rw [← lot_add i8 (by omega)] at hr6
      have s46 := e2.trans s6
      refine ⟨_, rfl, mm, rfl, ⟨_, SqL.of (s46 _ _ m4)⟩, fun D2 hD2 => ?_⟩
      refine lc_list (K := K) (a := mm) (xs := (heldM a b ms0).map vInt) (fun i H' => Same H6 H' ∧ H' D2 = some (.lst ((((heldM a b ms0).take i).filter fun m => !m.testBit pl).map vInt))) ⟨same_new hD2, upd_same⟩ (fun i H' _ h => SqL.of ((s46.trans h.1) _ _ m4)) ?_ ?_
      · rintro i x H7 hx ⟨sm, hR⟩
        obtain ⟨hi, rfl⟩ := item hx
        refine ⟨rfl, _, rfl, _, rfl, _, _, rfl, rfl, (by omega), _, _, rfl, rfl, _, rfl, ?_⟩
        rw [hbit]
        have hl : ((List.take i (heldM a b ms0)).filter fun m => !m.testBit pl).length ≤ 1024 := Nat.le_trans (List.length_filter_le _ _) (by rw [List.length_take]; have := hml a b; omega)
        cases e : (heldM a b ms0)[i].testBit pl with
        | true =>
          rw [(bit_iff _ _).mpr e]
          refine iteF ⟨sm, ?_⟩
          rw [take_more hi, List.filter_append, List.filter_cons_of_neg (by rw [e]; decide), List.filter_nil, List.append_nil]
          exact hR
        | false =>
          have e0 : (heldM a b ms0)[i] / 2 ^ pl % 2 = 0 := by
            have : ¬ (heldM a b ms0)[i] / 2 ^ pl % 2 = 1 := fun q => by rw [(bit_iff _ _).mp q] at e; cases e
            omega
          rw [e0]
          refine iteT ⟨_, rfl, _, hR, ?_, same_upd sm hD2, ?_⟩
          · rw [List.length_map]
            exact below (m := 100000) (by omega)
          · rw [upd_same, take_more hi, List.filter_append, List.filter_cons_of_pos (by rw [e]; rfl), List.map_append]
            rfl
      rintro H7 ⟨s7, hR7⟩
      rw [List.length_map, List.take_length, ← held_out i8] at hR7
      have s47 := s46.trans s7
      refine ⟨small (m := 4) (Nat.le_refl _), fun t2 ht2 => ?_⟩
      have e3 := same_new (o := .tup [V.int ((pl : Int) + 1), V.ref p, V.ref r, V.ref D2]) ht2
      have s48 := s47.trans e3
      refine ⟨D, _, _, rfl, rfl, s48 _ _ hT4, below (m := 2000000) (by rw [List.length_append]; show ts'.length + 1 ≤ _; omega), ?_⟩
      obtain ⟨H9, eH9⟩ : ∃ H9, H9 = upd (upd H7 t2 (.tup [V.int ((pl : Int) + 1), V.ref p, V.ref r, V.ref D2])) D (.lst (ts' ++ [V.ref t1] ++ [V.ref t2])) := ⟨_, rfl⟩
      rw [← eH9]
      have hT9 : H9 D = some (.lst (ts' ++ [V.ref t1] ++ [V.ref t2])) := by rw [eH9]; exact upd_same
      have k49 : Kp D H4 H9 := fun x o hx e => by rw [eH9, upd_ne hx]; exact s48 _ _ e
      have ht2D : t2 ≠ D := (ne_of_none (s47 _ _ hT4) ht2).symm
      have hrD : r ≠ D := ne_of hr6 (s46 _ _ hT4) (by intro z; cases z)
      have hD2D : D2 ≠ D := (ne_of_none (s46 _ _ hT4) hD2).symm
      have it2 : ItemAt H9 D n ms0 t2 (pl + 1, a, b + 2 ^ pl) := ⟨p, r, D2, by rw [eH9, upd_ne ht2D]; exact upd_same, k49 _ _ hpD (k24 _ _ hpD j2), by rw [eH9, upd_ne hrD]; exact (s7.trans e3) _ _ hr6, by rw [eH9, upd_ne hD2D]; exact e3 _ _ hR7, hD2D, hpl, a1lt, b2lt, ab1⟩
      have St9 := (St4.kp hT4 k49).push it2
      have m9 := k49 _ _ i5 m4
      have k29 := k24.trans k49
      -- the third
      refine ⟨_, rfl, .inl ⟨rfl, _, SqL.of hT9⟩, _, rfl, _, _, rfl, rfl, _, rfl, _, rfl, small (m := 1) (Nat.le_refl _), fun u3 hu3 => ?_⟩
      have e4 := same_new (o := .tup [vInt pl]) hu3
      refine catA_one (xs := lotV a) (ys := [vInt pl]) ((k29.trans (fun x o _ e => e4 x o e)) _ _ hpD j2) upd_same (by intro z; cases z) (small (m := 20) (by show (lotV a).length + 1 ≤ 20; omega)) fun H11 r2 s11 hr11 => ?_
      rw [← lot_add i7 (by omega)] at hr11
      have s911 := e4.trans s11
      refine ⟨_, rfl, _, rfl, mm, rfl, ⟨_, SqL.of (s911 _ _ m9)⟩, fun D3 hD3 => ?_⟩
      refine lc_list (K := K) (a := mm) (xs := (heldM a b ms0).map vInt) (fun i H' => Same H11 H' ∧ H' D3 = some (.lst ((((heldM a b ms0).take i).filter fun m => m.testBit pl).map vInt))) ⟨same_new hD3, upd_same⟩ (fun i H' _ h => SqL.of ((s911.trans h.1) _ _ m9)) ?_ ?_
      · rintro i x H12 hx ⟨sm, hR⟩
        obtain ⟨hi, rfl⟩ := item hx
        refine ⟨rfl, _, rfl, _, rfl, _, _, rfl, rfl, (by omega), _, _, rfl, rfl, _, rfl, ?_⟩
        rw [hbit]
        have hl : ((List.take i (heldM a b ms0)).filter fun m => m.testBit pl).length ≤ 1024 := Nat.le_trans (List.length_filter_le _ _) (by rw [List.length_take]; have := hml a b; omega)
        cases e : (heldM a b ms0)[i].testBit pl with
        | true =>
          rw [(bit_iff _ _).mpr e]
          refine iteT ⟨_, rfl, _, hR, ?_, same_upd sm hD3, ?_⟩
          · rw [List.length_map]
            exact below (m := 100000) (by omega)
          · rw [upd_same, take_more hi, List.filter_append, List.filter_cons_of_pos (by exact e), List.map_append]
            rfl
        | false =>
          have e0 : (heldM a b ms0)[i] / 2 ^ pl % 2 = 0 := by
            have : ¬ (heldM a b ms0)[i] / 2 ^ pl % 2 = 1 := fun q => by rw [(bit_iff _ _).mp q] at e; cases e
            omega
          rw [e0]
          refine iteF ⟨sm, ?_⟩
          rw [take_more hi, List.filter_append, List.filter_cons_of_neg (by rw [e]; decide), List.filter_nil, List.append_nil]
          exact hR
      rintro H12 ⟨s12, hR12⟩
      rw [List.length_map, List.take_length, ← held_in i7] at hR12
      have s912 := s911.trans s12
      refine ⟨small (m := 4) (Nat.le_refl _), fun t3 ht3 => ?_⟩
      have e5 := same_new (o := .tup [V.int ((pl : Int) + 1), V.ref r2, V.ref q, V.ref D3]) ht3
      have s913 := s912.trans e5
      refine ⟨D, _, _, rfl, rfl, s913 _ _ hT9, below (m := 2000000) (by rw [List.length_append, List.length_append]; show ts'.length + 1 + 1 ≤ _; omega), ?_⟩
      obtain ⟨H14, eH14⟩ : ∃ H14, H14 = upd (upd H12 t3 (.tup [V.int ((pl : Int) + 1), V.ref r2, V.ref q, V.ref D3])) D (.lst (ts' ++ [V.ref t1] ++ [V.ref t2] ++ [V.ref t3])) := ⟨_, rfl⟩
      rw [← eH14]
      have hT14 : H14 D = some (.lst (ts' ++ [V.ref t1] ++ [V.ref t2] ++ [V.ref t3])) := by rw [eH14]; exact upd_same
      have k914 : Kp D H9 H14 := fun x o hx e => by rw [eH14, upd_ne hx]; exact s913 _ _ e
      have ht3D : t3 ≠ D := (ne_of_none (s912 _ _ hT9) ht3).symm
      have hr2D : r2 ≠ D := ne_of hr11 (s911 _ _ hT9) (by intro z; cases z)
      have hD3D : D3 ≠ D := (ne_of_none (s911 _ _ hT9) hD3).symm
      have it3 : ItemAt H14 D n ms0 t3 (pl + 1, a + 2 ^ pl, b) := ⟨r2, q, D3, by rw [eH14, upd_ne ht3D]; exact upd_same, by rw [eH14, upd_ne hr2D]; exact (s12.trans e5) _ _ hr11, k914 _ _ hqD (k29 _ _ hqD j3), by rw [eH14, upd_ne hD3D]; exact e5 _ _ hR12, hD3D, hpl, a2lt, b1lt, ab2⟩
      have St14 := (St9.kp hT9 k914).push it3
      refine back rfl (k29.trans k914) hT14 St14 (fun a' b' ha hb hab bad => ?_) ?_
      · obtain ⟨it, hit, he⟩ := hcov a' b' ha hb hab bad
        rcases List.mem_append.mp hit with z | z
        · exact ⟨it, by simp [z], he⟩
        · have e := List.mem_singleton.mp z
          subst e
          rcases he.next i7 i8 with g | g | g
          · exact ⟨(pl + 1, a, b), by simp, g⟩
          · exact ⟨(pl + 1, a, b + 2 ^ pl), by simp, g⟩
          · exact ⟨(pl + 1, a + 2 ^ pl, b), by simp, g⟩
      · have h3 := mu_three hpl (a := a) (b := b) (a1 := a) (b1 := b + 2 ^ pl) (a2 := a + 2 ^ pl) (b2 := b) (x := a) (y := b)
        rw [List.append_assoc, List.append_assoc, mu_app n its', mu_app n its']
        exact Nat.add_lt_add_left h3 _
end
end Fam
/-! Closed by the sum of three: what the program tells, and the numbers of the held lots. -/
namespace Fam
open PySem L2 XM
open C8 (pss_cut tCut)
theorem ok_noex {P : Program} {w : World} {K : PySem.W.Frag} {mg : Str → Option Value} {base : Heap} {k : Nat} {f : Addr} {fd : FuncData} {ps : List Str} {sp : Sp} (F : FnOk P w K mg base (L2.CX P w) k f fd ps sp) :
    FnOk P w K mg base CX0 k f fd ps (fun vs H Q _ => sp vs H Q E0) :=
  ⟨fun vs H Q _ h => F.len vs H Q E0 h, fun A outer s H args us vs Q E hr he hb hv h => codeAny_mono (F.run A outer s H args us vs Q E0 hr he hb hv h) fun r s' q => by
    match r, q with
    | .ok (.ret u), q => exact q
    | .ok .next, q => exact q
    | .ok .brk, q => exact q
    | .ok .cont, q => exact q
    | .error e, q =>
      obtain ⟨_, _, _, _, _, _, _, _, _, _, _, _, z⟩ := q
      exact z.elim⟩

def ClosedX (ms : List Nat) : Prop := ∀ x ∈ ms, ∀ y ∈ ms, ∀ z ∈ ms, x ^^^ y ^^^ z ∈ ms
theorem bad_x (o : Bool) (ms : List Nat) (x y : Nat) : bad2 o ms x y = ms.any fun z => !decide (x ^^^ y ^^^ z ∈ ms) := by
  unfold bad2 brk
  refine congrArg (fun p => ms.any p) (funext fun z => ?_)
  unfold thP
  rw [x3_eq]
theorem third_x (o : Bool) (ms : List Nat) (x y : Nat) : thL o ms (x &&& y) (xorN x y) = (ms.find? fun z => !decide (x ^^^ y ^^^ z ∈ ms)).toList := by
  unfold thL
  have : thP ms (x &&& y) (xorN x y) = fun z => !decide (x ^^^ y ^^^ z ∈ ms) := funext fun z => by
    unfold thP
    rw [x3_eq]
  rw [this]
/-- the first three that break "even" -/
def tri2 (ms ins : List Nat) (x y : Nat) : Option (Nat × Nat × Nat) := (ins.find? fun z => !decide (x ^^^ y ^^^ z ∈ ms)).map fun z => (x, y, z)
def tri1 (ms ins : List Nat) (x : Nat) : Option (Nat × Nat × Nat) := ins.findSome? (tri2 ms ins x)
def tripleDue (ms os : List Nat) : Option (Nat × Nat × Nat) := (insideOf ms os).findSome? (tri1 ms (insideOf ms os))
theorem triple_pair {ms ins : List Nat} (h : ∀ z, z ∈ ins ↔ z ∈ ms) : ins.findSome? (tri1 ms ins) = (pairD (bad2 true ms) ins).bind fun p => (ins.find? fun z => !decide (p.1 ^^^ p.2 ^^^ z ∈ ms)).map fun z => (p.1, p.2, z) := by
  have t2 : ∀ x y, tri2 ms ins x y = (pd2 (bad2 true ms) x y).bind fun p => (ins.find? fun z => !decide (p.1 ^^^ p.2 ^^^ z ∈ ms)).map fun z => (p.1, p.2, z) := fun x y => by
    unfold pd2 tri2
    cases e : bad2 true ms x y with
    | true => rw [if_pos rfl]; rfl
    | false =>
      rw [if_neg (by decide)]
      rw [bad_x] at e
      rw [List.find?_eq_none.mpr fun z hz => by
        have := List.any_eq_false.mp e z ((h z).mp hz)
        exact this]
      rfl
  have bind1 : ∀ (f : Nat → Option (Nat × Nat)) (g : Nat × Nat → Option (Nat × Nat × Nat)) (l : List Nat), (∀ x ∈ l, ∀ p, f x = some p → (g p).isSome = true) → l.findSome? (fun x => (f x).bind g) = (l.findSome? f).bind g := fun f g l => by
    induction l with
    | nil => intro _; rfl
    | cons a l ih =>
      intro hs
      have i2 := ih fun x hx => hs x (List.mem_cons_of_mem _ hx)
      cases e : f a with
      | none => simp [List.findSome?_cons, e, i2]
      | some p =>
        obtain ⟨q, hq⟩ := Option.isSome_iff_exists.mp (hs a List.mem_cons_self p e)
        simp [List.findSome?_cons, e, hq]
  have good : ∀ x y p, pd2 (bad2 true ms) x y = some p → ((ins.find? fun z => !decide (p.1 ^^^ p.2 ^^^ z ∈ ms)).map fun z => (p.1, p.2, z)).isSome = true := fun x y p e => by
    unfold pd2 at e
    cases eb : bad2 true ms x y with
    | false => rw [eb, if_neg (by decide)] at e; cases e
    | true =>
      rw [eb, if_pos rfl] at e
      cases e
      rw [bad_x] at eb
      obtain ⟨z, hz, q⟩ := List.any_eq_true.mp eb
      cases ef : ins.find? fun z => !decide (x ^^^ y ^^^ z ∈ ms) with
      | none => exact absurd q (List.find?_eq_none.mp ef z ((h z).mpr hz))
      | some w => rfl
  have t1 : tri1 ms ins = fun x => (pd1 (bad2 true ms) ins x).bind fun p => (ins.find? fun z => !decide (p.1 ^^^ p.2 ^^^ z ∈ ms)).map fun z => (p.1, p.2, z) := by
    funext x
    unfold tri1 pd1
    rw [show tri2 ms ins x = fun y => (pd2 (bad2 true ms) x y).bind fun p => (ins.find? fun z => !decide (p.1 ^^^ p.2 ^^^ z ∈ ms)).map fun z => (p.1, p.2, z) from funext (t2 x)]
    exact bind1 _ _ _ fun y _ p e => good x y p e
  rw [t1]
  refine bind1 _ _ _ fun x _ p e => ?_
  unfold pd1 at e
  obtain ⟨y, _, ey⟩ := List.exists_of_findSome?_eq_some e
  exact good x y p ey
theorem cal_noex {P : Program} {w : World} {K : PySem.W.Frag} {mg : Str → Option Value} {base : Heap} {k : Nat} {x : Str} {ps : List Str} {sp : Sp} (G : CalE P w K mg base k x ps sp) : Cal P w K mg base k x ps (fun vs H Q _ => sp vs H Q E0) := by
  obtain ⟨g, gd, ok, b, kp, mf⟩ := G.ex
  exact ⟨g, gd, ok_noex ok, b, kp, mf⟩
theorem cal_imp {P : Program} {w : World} {K : PySem.W.Frag} {mg : Str → Option Value} {base : Heap} {k : Nat} {x : Str} {ps : List Str} {sp sp' : Sp} (G : Cal P w K mg base k x ps sp) (h : ∀ vs H Q E, sp' vs H Q E → sp vs H Q E) : Cal P w K mg base k x ps sp' := by
  obtain ⟨g, gd, ok, b, kp, mf⟩ := G.ex
  exact ⟨g, gd, ok.imp h, b, kp, mf⟩
/-! ### what is told, as data -/
def Told (H : Hp) : Option (List Nat) → V → Prop
  | none, v => v = .non
  | some l, v => ∃ p ps, v = .ref p ∧ H p = some (.tup ps) ∧ LotsAt H ps l ∧ l ≠ []
def dL : Option (List Nat) → PyData
  | none => .none
  | some l => .tuple (l.map dLot)
theorem Told.same {H H' : Hp} (s : Same H H') : ∀ {o : Option (List Nat)} {v : V}, Told H o v → Told H' o v
  | none, _, h => h
  | some _, _, ⟨p, ps, e, hp, hL, ne⟩ => ⟨p, ps, e, s _ _ hp, hL.same s, ne⟩
theorem Told.dp {K : PySem.W.Frag} {H : Hp} : ∀ {o : Option (List Nat)} {v : V}, Told H o v → Dp K H v (dL o)
  | none, _, h => by rw [show _ = V.non from h]; exact .non
  | some _, _, ⟨p, ps, e, hp, hL, ne⟩ => by rw [e]; exact .tup (SqT.of hp) (dp_lots hL)
theorem shaped_dL : ∀ o : Option (List Nat), SeqAt.shaped (dL o) = true
  | none => rfl
  | some l => by
    have c := can_lots l
    have d := depth_lots l
    show SeqAt.shaped (.tuple (l.map dLot)) = true
    unfold SeqAt.shaped
    rw [Bool.and_eq_true]
    exact ⟨by simp only [PyData.canLay0]; exact c, decide_eq_true (by simp only [PyData.depth]; omega)⟩
theorem LotsAt.last {H : Hp} : ∀ {ps : List V} {l : List Nat}, LotsAt H ps l → l ≠ [] → ∃ (xs : List V) (q : Addr) (m : Nat), ps = xs ++ [.ref q] ∧ H q = some (.tup (lotV m))
  | [], [], _, ne => absurd rfl ne
  | [v], [m], ⟨⟨p, e, h⟩, _⟩, _ => ⟨[], p, m, by rw [e]; rfl, h⟩
  | v :: w :: vs, m :: k :: ms, ⟨_, h⟩, _ => by
    obtain ⟨xs, q, m', e, hq⟩ := LotsAt.last (ps := w :: vs) (l := k :: ms) h (by intro z; cases z)
    exact ⟨v :: xs, q, m', by rw [e]; rfl, hq⟩
  | [v], m :: k :: ms, ⟨_, h⟩, _ => h.elim
  | v :: w :: vs, [m], ⟨_, h⟩, _ => h.elim
def foundL (o : Bool) (ms ms0 : List Nat) : Option (List Nat) := (pairD (bad2 o ms) ms0).map fun p => [p.1, p.2] ++ thL o ms0 (p.1 &&& p.2) (xorN p.1 p.2)
theorem pairD_bad {bad : Nat → Nat → Bool} {ins : List Nat} {q : Nat × Nat} (e : pairD bad ins = some q) : bad q.1 q.2 = true := by
  obtain ⟨x, _, ex⟩ := List.exists_of_findSome?_eq_some e
  obtain ⟨y, _, ey⟩ := List.exists_of_findSome?_eq_some ex
  unfold pd2 at ey
  cases hb : bad x y with
  | false => rw [hb, if_neg (by decide)] at ey; cases ey
  | true => rw [hb, if_pos rfl] at ey; cases ey; exact hb
theorem trip_found {ms ms0 : List Nat} (p : ms0.Perm ms) : (ms0.findSome? (tri1 ms ms0)).map (fun t => [t.1, t.2.1, t.2.2]) = foundL true ms ms0 := by
  rw [triple_pair fun z => p.mem_iff]
  unfold foundL
  cases e : pairD (bad2 true ms) ms0 with
  | none => rfl
  | some q =>
    have hb := pairD_bad e
    rw [bad_x] at hb
    obtain ⟨z, hz, qz⟩ := List.any_eq_true.mp hb
    have ep : (fun z => !decide (q.1 ^^^ q.2 ^^^ z ∈ ms0)) = fun z => !decide (q.1 ^^^ q.2 ^^^ z ∈ ms) := by
      funext z
      rw [show decide (q.1 ^^^ q.2 ^^^ z ∈ ms0) = decide (q.1 ^^^ q.2 ^^^ z ∈ ms) from decide_eq_decide.mpr p.mem_iff]
    show Option.map _ (Option.map _ (ms0.find? fun z => !decide (q.1 ^^^ q.2 ^^^ z ∈ ms))) = some ([q.1, q.2] ++ thL true ms0 (q.1 &&& q.2) (xorN q.1 q.2))
    rw [third_x, ep]
    cases ef : ms0.find? fun z => !decide (q.1 ^^^ q.2 ^^^ z ∈ ms) with
    | none => exact absurd qz (List.find?_eq_none.mp ef z (p.mem_iff.mpr hz))
    | some u => rfl
def spBrokenT (C : Addr) : Sp := fun vs H Q _ => ∃ (f : Addr) (n : Nat) (ms : List Nat) (o : Bool), vs = [.ref f, wdV o] ∧ FAt C H f n ms ∧ ∀ (H' : Hp) (ms0 : List Nat) (v : V), ms0.Perm ms → ms0.Pairwise lotLe → Same H H' → Told H' (foundL o ms ms0) v → Q v H'
theorem broken_told {P : Program} {w : World} {K : PySem.W.Frag} {mg : Str → Option Value} {base : Heap} {B C : Addr} (G : CalE P w K mg base 5 "broken" ["family", "word"] (spBroken B C)) : Cal P w K mg base 5 "broken" ["family", "word"] (spBrokenT C) :=
  cal_imp (cal_noex G) fun vs H Q E h => by
    obtain ⟨f, n, ms, o, rfl, hF, k⟩ := h
    refine ⟨f, n, ms, wdV o, rfl, hF, .inl ⟨o, rfl, fun H' ms0 pm srt s => ⟨fun e => k H' ms0 _ pm srt s ?_, fun x y ps p e hp hL => k H' ms0 _ pm srt s ?_⟩⟩⟩
    · unfold foundL
      rw [e]
      exact rfl
    · unfold foundL
      rw [e]
      exact ⟨p, ps, rfl, hp, hL, by intro z; cases z⟩

theorem found_none {o : Bool} {ms ms0 : List Nat} (p : ms0.Perm ms) : foundL o ms ms0 = none ↔ ClosedX ms := by
  have e : foundL o ms ms0 = none ↔ pairD (bad2 o ms) ms0 = none := by
    unfold foundL
    cases pairD (bad2 o ms) ms0 <;> simp
  rw [e, pairD_none]
  constructor
  · intro h x hx y hy z hz
    have := h x (p.mem_iff.mpr hx) y (p.mem_iff.mpr hy)
    rw [bad_x] at this
    have q := List.any_eq_false.mp this z hz
    exact of_decide_eq_true (by simpa using q)
  · intro h x hx y hy
    rw [bad_x]
    refine List.any_eq_false.mpr fun z hz => ?_
    rw [decide_eq_true (h x (p.mem_iff.mp hx) y (p.mem_iff.mp hy) z hz)]
    decide
theorem told_non {H : Hp} : ∀ {o : Option (List Nat)} {v : V}, Told H o v → (decide (v = V.non) = true ↔ o = none)
  | none, v, h => by
    have h : v = .non := h
    subst h
    exact ⟨fun _ => rfl, fun _ => rfl⟩
  | some l, v, ⟨p, ps, e, _⟩ => by
    subst e
    exact ⟨fun z => (by cases (of_decide_eq_true z)), fun z => (by cases z)⟩

/-! ### closed by the sum of three, and the numbers of the held lots -/
def orB (v : Bool) : List (Nat × Bool) → Nat
  | [] => 0
  | (i, b) :: cs => (if b = v then 2 ^ i else 0) ||| orB v cs
theorem orB_bit (v : Bool) : ∀ (cs : List (Nat × Bool)) (j : Nat), (orB v cs).testBit j = true ↔ (j, v) ∈ cs
  | [], j => by
    show (0 : Nat).testBit j = true ↔ _
    rw [Nat.zero_testBit]
    exact ⟨fun z => by (cases z), fun z => by (cases z)⟩
  | (i, b) :: cs, j => by
    show ((if b = v then 2 ^ i else 0) ||| orB v cs).testBit j = true ↔ _
    rw [Nat.testBit_or, Bool.or_eq_true, orB_bit v cs j, List.mem_cons]
    refine or_congr ?_ Iff.rfl
    by_cases e : b = v
    · rw [if_pos e, Nat.testBit_two_pow, decide_eq_true_eq, Prod.mk.injEq]
      exact ⟨fun z => ⟨z.symm, e.symm⟩, fun z => z.1.symm⟩
    · rw [if_neg e, Nat.zero_testBit, Prod.mk.injEq]
      exact ⟨fun z => by (cases z), fun z => absurd z.2.symm e⟩
theorem orB_lt {n : Nat} {v : Bool} {cs : List (Nat × Bool)} (h : ∀ c ∈ cs, c.1 ∈ List.range n) : orB v cs < 2 ^ n := Nat.lt_pow_two_of_testBit _ fun i hi => by
  cases e : (orB v cs).testBit i with
  | false => rfl
  | true =>
    have := List.mem_range.mp (h _ ((orB_bit v cs i).mp e))
    have : i < n := this
    omega
theorem orB_apart {cs : List (Nat × Bool)} (nd : (cs.map (·.1)).Nodup) : orB true cs &&& orB false cs = 0 := and_zero.mpr fun i hi => by
  cases e : (orB true cs).testBit i with
  | false => rfl
  | true =>
    have h1 := (orB_bit true cs i).mp e
    have h2 := (orB_bit false cs i).mp hi
    have : ∀ (cs : List (Nat × Bool)), (cs.map (·.1)).Nodup → ∀ i, (i, true) ∈ cs → (i, false) ∉ cs := by
      intro cs
      induction cs with
      | nil => intro _ i h; cases h
      | cons c cs ih =>
        intro nd i h1 h2
        obtain ⟨n1, n2⟩ := List.nodup_cons.mp nd
        rcases List.mem_cons.mp h1 with a | a <;> rcases List.mem_cons.mp h2 with b | b
        · rw [← a] at b; cases b
        · exact n1 (List.mem_map.mpr ⟨_, b, by rw [← a]⟩)
        · exact n1 (List.mem_map.mpr ⟨_, a, by rw [← b]⟩)
        · exact ih n2 i a b
    exact absurd h2 (this cs nd i h1)
theorem sat_held (cs : List (Nat × Bool)) (ms : List Nat) : ms.filter (sat cs) = heldM (orB true cs) (orB false cs) ms := List.filter_congr fun m _ => by
  rw [Bool.eq_iff_iff, Bool.and_eq_true, decide_eq_true_eq, decide_eq_true_eq, and_bits, and_zero]
  unfold sat
  rw [List.all_eq_true]
  constructor
  · intro h
    exact ⟨fun i hi => beq_iff_eq.mp (h _ ((orB_bit _ _ _).mp hi)), fun i hi => beq_iff_eq.mp (h _ ((orB_bit _ _ _).mp hi))⟩
  · rintro ⟨h1, h2⟩ ⟨i, b⟩ hc
    cases b with
    | true => exact beq_iff_eq.mpr (h1 i ((orB_bit _ _ _).mpr hc))
    | false => exact beq_iff_eq.mpr (h2 i ((orB_bit _ _ _).mpr hc))
theorem all_good {n : Nat} {ms : List Nat} (hm : Masks n ms) : AllGoodE n ms ↔ ClosedX ms := by
  constructor
  · intro g x hx y hy z hz
    obtain ⟨s, hs, e⟩ := aff n (List.range n) List.nodup_range List.length_range ms hm.nd (fun a ha b hb h => Nat.eq_of_testBit_eq fun i => by
        by_cases q : i < n
        · exact h i (List.mem_range.mpr q)
        · have p : 2 ^ n ≤ 2 ^ i := Nat.pow_le_pow_right (by decide) (by omega)
          rw [Nat.testBit_lt_two_pow (Nat.lt_of_lt_of_le (hm.lt a ha) p), Nat.testBit_lt_two_pow (Nat.lt_of_lt_of_le (hm.lt b hb) p)])
      (fun cs h nd => by
        rw [sat_held]
        exact g _ _ (orB_lt h) (orB_lt h) (orB_apart nd)) x hx y hy z hz
    have : s = x ^^^ y ^^^ z := Nat.eq_of_testBit_eq fun i => by
      rw [Nat.testBit_xor, Nat.testBit_xor]
      by_cases q : i < n
      · exact e i (List.mem_range.mpr q)
      · have p : 2 ^ n ≤ 2 ^ i := Nat.pow_le_pow_right (by decide) (by omega)
        rw [Nat.testBit_lt_two_pow (Nat.lt_of_lt_of_le (hm.lt s hs) p), Nat.testBit_lt_two_pow (Nat.lt_of_lt_of_le (hm.lt x hx) p), Nat.testBit_lt_two_pow (Nat.lt_of_lt_of_le (hm.lt y hy) p), Nat.testBit_lt_two_pow (Nat.lt_of_lt_of_le (hm.lt z hz) p)]
        rfl
    rw [← this]
    exact hs
  · intro c a b _ _ _
    refine count n (heldM a b ms) (hm.nd.filter _) ?_ ?_
    · intro x hx y hy z hz
      have f : ∀ {m}, m ∈ heldM a b ms → m ∈ ms ∧ (∀ i, a.testBit i = true → m.testBit i = true) ∧ ∀ i, b.testBit i = true → m.testBit i = false := fun {m} h => by
        obtain ⟨h1, h2⟩ := List.mem_filter.mp h
        rw [Bool.and_eq_true, decide_eq_true_eq, decide_eq_true_eq, and_bits, and_zero] at h2
        exact ⟨h1, h2⟩
      obtain ⟨x1, x2, x3⟩ := f hx
      obtain ⟨y1, y2, y3⟩ := f hy
      obtain ⟨z1, z2, z3⟩ := f hz
      refine List.mem_filter.mpr ⟨c x x1 y y1 z z1, ?_⟩
      rw [Bool.and_eq_true, decide_eq_true_eq, decide_eq_true_eq, and_bits, and_zero]
      refine ⟨fun i hi => ?_, fun i hi => ?_⟩
      · rw [Nat.testBit_xor, Nat.testBit_xor, x2 i hi, y2 i hi, z2 i hi]; rfl
      · rw [Nat.testBit_xor, Nat.testBit_xor, x3 i hi, y3 i hi, z3 i hi]; rfl
    · intro u hu v hv h
      refine Nat.eq_of_testBit_eq fun i => ?_
      by_cases q : i < n
      · exact h i q
      · have p : 2 ^ n ≤ 2 ^ i := Nat.pow_le_pow_right (by decide) (by omega)
        rw [Nat.testBit_lt_two_pow (Nat.lt_of_lt_of_le (hm.lt u (List.mem_filter.mp hu).1) p), Nat.testBit_lt_two_pow (Nat.lt_of_lt_of_le (hm.lt v (List.mem_filter.mp hv).1) p)]
end Fam

/-! The law's own numbers. -/
namespace Fam
open PySem L2 XM
open C8 (pss_cut tCut)
def spTripleDue (K : PySem.W.Frag) : Sp := fun vs H Q _ => ∃ (a : Addr) (ms : List Nat) (n : Nat), vs = [.ref a, vInt n] ∧ SqL K H a (ms.map vInt) ∧ 1 ≤ n ∧ n ≤ 10 ∧ ∀ (H' : Hp) (os : List Nat), OrderOf n os → Same H H' →
  (tripleDue ms os = none → Q .non H') ∧ (∀ x y z p, tripleDue ms os = some (x, y, z) → H p = none → H' p = some (.tup [vInt x, vInt y, vInt z]) → Q (.ref p) H')

def spMaskR (K : PySem.W.Frag) : Sp := fun vs H Q _ => ∃ (a : Addr) (l : List Nat), vs = [.ref a] ∧ Row K H a (l.map vInt) ∧ (∀ i ∈ l, i ≤ 60) ∧ Q (vInt (maskN l)) H
def good8 (c : Nat) : Bool := decide (c = 0) || (List.range 8).any fun j => decide (c = 2 ^ j)
theorem good8_iff {c : Nat} (h : c ≤ 255) : good8 c = true ↔ GoodN c := by
  unfold good8
  rw [Bool.or_eq_true, decide_eq_true_eq, List.any_eq_true]
  refine or_congr Iff.rfl ⟨fun ⟨j, _, e⟩ => ⟨j, of_decide_eq_true e⟩, fun ⟨j, e⟩ => ⟨j, ?_, decide_eq_true e⟩⟩
  refine List.mem_range.mpr ?_
  rcases Nat.lt_or_ge j 8 with q | q
  · exact q
  · have : 2 ^ 8 ≤ 2 ^ j := Nat.pow_le_pow_right (by decide) q
    omega
def spGood8 : Sp := fun vs H Q _ => ∃ c : Nat, vs = [vInt c] ∧ Q (.bl (good8 c)) H
def spLHeld (K : PySem.W.Frag) : Sp := fun vs H Q _ => ∃ (a p q : Addr) (ms : List Nat) (x y : Nat), vs = [.ref a, .ref p, .ref q] ∧ SqL K H a (ms.map vInt) ∧ ms.length ≤ 100000 ∧ Row K H p (lotV x) ∧ Row K H q (lotV y) ∧ x < 2 ^ 12 ∧ y < 2 ^ 12 ∧
  ∀ (H' : Hp) (r : Addr), Same H H' → H r = none → H' r = some (.lst ((heldM x y ms).map vInt)) → Q (.ref r) H'
def spAllN (K : PySem.W.Frag) : Sp := fun vs H Q _ => ∃ (a : Addr) (n : Nat) (ms : List Nat), vs = [.ref a, vInt n] ∧ SqL K H a (ms.map vInt) ∧ ms.length ≤ 255 ∧ n ≤ 10 ∧ ∀ (H' : Hp) (b : Bool), Same H H' → (b = true ↔ AllGoodE n ms) → Q (.bl b) H'
theorem dec_nat (a b : Nat) : decide (vInt a = vInt b) = decide (a = b) := decide_eq_decide.mpr ⟨fun z => Int.ofNat.inj (V.int.inj z), fun z => by rw [z]⟩
section
variable {P : Program} {w : World} {K : PySem.W.Frag} {mg : Str → Option Value} {base : Heap}
theorem scLI : FnScope ["_law_value"] ["_law_value"] (defScope sLawInt) := ⟨rfl, rfl, rfl, by decide +kernel, rfl, by decide +kernel, by decide +kernel⟩
theorem ok_law_int {f : Addr} {fd : FuncData} (F : Fun K "_law_int" "_law_int" sLawInt f fd) (T : Bare mg) : FnOk P w K mg base CX0 1 f fd ["_law_value"] spLawInt := by
  refine F.ok scLI (fun vs H Q E h => ?_) (fun cdv A outer s H vs Q E hr h => ?_)
  · obtain ⟨a, rfl, _⟩ := h
    rfl
  · obtain ⟨i, rfl, k⟩ := h
    refine ⟨_, pss_one (ps_ret (pe_and (pe_callB call_isi (by rfl) T.isi (by decide +kernel) (pa_cons (pv 0) (pa_cons (pe_ty (n := "int") (by rfl) T.int (by decide +kernel)) pa_nil)))
      (pe_one (pe_not (pe_callB call_isi (by rfl) T.isi (by decide +kernel) (pa_cons (pv 0) (pa_cons (pe_ty (n := "bool") (by rfl) T.bool (by decide +kernel)) pa_nil))))))), ?_⟩
    refine ⟨_, rfl, _, _, _, _, true, rfl, .ty _, .base (.int i), kit_ty (by decide +kernel), _, rfl, iteT ?_⟩
    exact ⟨_, rfl, _, _, _, _, false, rfl, .ty _, .base (.int i), kit_ty (by decide +kernel), _, rfl, k⟩


theorem ok_maskR {f : Addr} {fd : FuncData} (F : Fun K "_law_mask" "_law_mask" sMask f fd) (T : Bare mg) (G : Cal P w K mg base 1 "_law_full" ["_law_size"] spFull) : FnOk P w K mg base CX0 2 f fd ["_law_lot_here"] (spMaskR K) := by
  obtain ⟨g, gd, ok, b, kp, mf⟩ := G.ex
  refine F.ok scM (fun vs H Q E h => ?_) (fun cdv A outer s H vs Q E hr h => ?_)
  · obtain ⟨a, l, rfl, _⟩ := h
    rfl
  · obtain ⟨a, l, rfl, hS, hl, k⟩ := h
    refine ⟨_, pss_cons (ps_set (i := 1) scM.nd rfl (Or.inl rfl) pe_int)
      (pss_cons (ps_for PassesOwn.never rfl (pi_row (pv 0)) (pg_name (i := 2) scM.nd rfl (Or.inl rfl))
        (pss_one (ps_aug (i := 1) scM.nd rfl (Or.inl rfl) (pe_call ok hr rfl mf kp b .nil pass0 (pa_cons (pv 2) pa_nil)) ip_add)))
      (pss_one (ps_ret (pv 1)))), ?_⟩
    refine row_for (K := K) (b := a) (xs := l.map vInt) rfl hS (fun i σ H' => ∃ y : Option V, σ = [some (.ref a), some (vInt (maskN (l.take i))), y] ∧ H' = H) ⟨none, rfl, rfl⟩ ?_ ?_ ?_
    · rintro i σ H1 hi ⟨y, rfl, rfl⟩
      exact Same.refl _
    · rintro i x σ H1 hx ⟨y, rfl, rfl⟩
      obtain ⟨hi, rfl⟩ := item hx
      refine ⟨_, rfl, _, rfl, l[i], rfl, hl _ (List.getElem_mem hi), _, _, rfl, rfl, ⟨some (vInt l[i]), ?_, rfl⟩⟩
      show [_, some (V.int (((maskN (l.take i) : Nat) : Int) + ((2 ^ l[i] : Nat) : Int))), _] = _
      rw [take_more hi, maskN_snoc]
      rfl
    · rintro σ H1 ⟨y, rfl, rfl⟩
      rw [List.length_map, List.take_length]
      exact ⟨_, rfl, k⟩
theorem mask_tup {k : Nat} {f : Addr} {fd : FuncData} (ok : FnOk P w K mg base CX0 k f fd ["_law_lot_here"] (spMaskR K)) : FnOk P w K mg base CX0 k f fd ["_law_lot_here"] (spMask K) :=
  ok.imp fun vs H Q E h => by
    obtain ⟨a, l, e, hS, r⟩ := h
    exact ⟨a, l, e, .inr hS, r⟩
abbrev nGN : List Str := ["_law_number", "_law_power", "_law_k"]
theorem scGN : FnScope nGN ["_law_number"] (defScope sGoodNumber) := ⟨rfl, rfl, rfl, by decide +kernel, rfl, by decide +kernel, by decide +kernel⟩
theorem ok_good8 {f : Addr} {fd : FuncData} (F : Fun K "_law_good_number" "_law_good_number" sGoodNumber f fd) (T : Bare mg) : FnOk P w K mg base CX0 1 f fd ["_law_number"] spGood8 := by
  refine F.ok scGN (fun vs H Q E h => ?_) (fun cdv A outer s H vs Q E hr h => ?_)
  · obtain ⟨c, rfl, _⟩ := h
    rfl
  · obtain ⟨c, rfl, k⟩ := h
    refine ⟨_, (pss_cons (ps_set (i := 1) scGN.nd rfl (Or.inl rfl) pe_int)
      (pss_cons (ps_for PassesOwn.never rfl (pi_range1 rfl T.range (pa_cons pe_int pa_nil)) (pg_name (i := 2) scGN.nd rfl (Or.inl rfl))
          (pss_cons (ps_if (pt_cmpR op_eq (pv 0) (pv 1) (nomark _)) (pss_one (ps_ret pe_bl)) pss_nil)
          (pss_one (ps_set (i := 1) scGN.nd rfl (Or.inl rfl) (pe_op op_add (pv 1) (pv 1))))))
      (pss_one (ps_ret (pe_cmpR op_eq (pv 0) pe_int (nomark _)))))), ?_⟩
    refine ⟨8, rfl, by decide, by decide, for_range (lo := 0) (n := 8) (fun i σ H' => ∃ y : Option V, σ = [some (vInt c), some (vInt (2 ^ i)), y] ∧ H' = H ∧ ∀ j, j < i → c ≠ 2 ^ j) ⟨none, rfl, rfl, fun j hj => by omega⟩ ?_ ?_⟩
    · rintro i σ H1 hi ⟨y, rfl, rfl, hn⟩
      refine ⟨_, rfl, _, rfl, rfl, _, rfl, ?_⟩
      show if decide (vInt c = vInt (2 ^ i)) = true then _ else _
      rw [dec_nat]
      refine ite2 (fun z => ?_) (fun z => ?_)
      · have e := of_decide_eq_true z
        have : good8 c = true := by
          unfold good8
          rw [Bool.or_eq_true, List.any_eq_true]
          exact .inr ⟨i, List.mem_range.mpr hi, z⟩
        rw [this] at k
        exact k
      · have hne : c ≠ 2 ^ i := fun e => z (decide_eq_true e)
        refine ⟨_, rfl, _, rfl, _, _, rfl, rfl, some (.int (0 + (i : Int))), ?_, rfl, fun j hj => ?_⟩
        · show [_, some (V.int (((2 ^ i : Nat) : Int) + ((2 ^ i : Nat) : Int))), _] = _
          rw [show ((2 ^ i : Nat) : Int) + ((2 ^ i : Nat) : Int) = ((2 ^ (i + 1) : Nat) : Int) by rw [Nat.pow_succ]; omega]
        · by_cases e : j = i
          · rw [e]; exact hne
          · exact hn j (by omega)
    · rintro σ H1 ⟨y, rfl, rfl, hn⟩
      refine ⟨_, rfl, rfl, ?_⟩
      have : good8 c = decide (vInt c = V.int 0) := by
        unfold good8
        rw [show decide (vInt c = V.int 0) = decide (c = 0) from dec_nat c 0]
        rw [show (List.range 8).any (fun j => decide (c = 2 ^ j)) = false from List.any_eq_false.mpr fun j hj => by
          rw [decide_eq_false (hn j (List.mem_range.mp hj))]
          decide]
        rw [Bool.or_false]
      rw [this] at k
      exact k
abbrev nLH : List Str := ["_law_masks", "_law_inside", "_law_outside", "_law_need", "_law_bar", "_law_mask_here"]
theorem scLH : FnScope nLH ["_law_masks", "_law_inside", "_law_outside"] (defScope sLHeld) := ⟨rfl, rfl, rfl, by decide +kernel, rfl, by decide +kernel, by decide +kernel⟩
theorem ok_l_held {f : Addr} {fd : FuncData} (F : Fun K "_law_held" "_law_held" sLHeld f fd) (GM : Cal P w K mg base 2 "_law_mask" ["_law_lot_here"] (spMaskR K)) : FnOk P w K mg base CX0 3 f fd ["_law_masks", "_law_inside", "_law_outside"] (spLHeld K) := by
  obtain ⟨_, _, ok_m, b_m, k_m, m_m⟩ := GM.ex
  refine F.ok scLH (fun vs H Q E h => ?_) (fun cdv A outer s H vs Q E hr h => ?_)
  · obtain ⟨a, p, q, ms, x, y, rfl, _⟩ := h
    rfl
  · obtain ⟨a, p, q, ms, x, y, rfl, hS, hl, hp, hq, hx, hy, k⟩ := h
    have hr_m := hr.mono (j := 2) (by decide)
    refine ⟨_, (pss_cons (ps_set (i := 3) scLH.nd rfl (Or.inr rfl) (pe_call ok_m hr_m rfl m_m k_m b_m .nil pass0 (pa_cons (pv 1) pa_nil)))
      (pss_cons (ps_set (i := 4) scLH.nd rfl (Or.inr rfl) (pe_call ok_m hr_m rfl m_m k_m b_m .nil pass0 (pa_cons (pv 2) pa_nil)))
      (pss_one (ps_ret (pe_lc (own := [("_law_mask_here", 5)]) (g := gName 5) rfl scLH.nd (pi_list (pv 0)) (blkOk_by (own := [("_law_mask_here", 5)]) (N := nLH) (sc := defScope sLHeld) (by decide +kernel)) (fun _ _ _ _ _ => pg_name (i := 5) scLH.nd rfl (Or.inl rfl)) (fun _ _ _ _ _ => pts_one (PW.pt (pw_and (pt_cmpR op_eq (pe_op op_and (pv 5) (pv 3)) (pv 3) (nomark _)) (pw_and1 (pt_cmpR op_eq (pe_op op_and (pv 5) (pv 4)) pe_int (nomark _)))))) (fun _ _ _ _ _ => pv 5)))))), ?_⟩
    have e1 : ∀ {z : Nat}, z < 2 ^ 12 → maskN (lotN z 12) = z := fun {z} h => by
      rw [maskN_lotN]
      exact Nat.mod_eq_of_lt h
    refine ⟨_, rfl, p, lotN x 12, rfl, hp, fun j hj => by have := lotN_lt _ _ j hj; omega, ?_⟩
    rw [e1 hx]
    refine ⟨_, rfl, q, lotN y 12, rfl, hq, fun j hj => by have := lotN_lt _ _ j hj; omega, ?_⟩
    rw [e1 hy]
    refine ⟨_, rfl, a, rfl, ⟨_, hS⟩, fun D hD => ?_⟩
    refine lc_list (K := K) (a := a) (xs := ms.map vInt) (fun i H' => Same H H' ∧ H' D = some (.lst ((heldM x y (ms.take i)).map vInt))) ⟨same_new hD, upd_same⟩ (fun i H' _ h => h.1.seq hS) ?_ ?_
    · rintro i v H1 hv ⟨sm, hR⟩
      obtain ⟨hi, rfl⟩ := item hv
      have em : heldM x y (ms.take (i + 1)) = heldM x y (ms.take i) ++ [ms[i]].filter fun m => decide (m &&& x = x) && decide (m &&& y = 0) := by
        unfold heldM
        rw [take_more hi, List.filter_append]
      have hle : (heldM x y (ms.take i)).length ≤ i := Nat.le_trans (List.length_filter_le _ _) (by rw [List.length_take]; omega)
      refine ⟨rfl, _, rfl, _, rfl, _, _, rfl, rfl, _, rfl, rfl, _, rfl, ?_⟩
      show if decide (V.int (Builtin.bitAnd ((ms[i] : Nat) : Int) ((x : Nat) : Int)) = vInt x) = true then _ else _
      rw [bitAnd_nat, show V.int ((ms[i] &&& x : Nat) : Int) = vInt (ms[i] &&& x) from rfl, dec_nat]
      refine ite2 (fun z => ?_) (fun z => ?_)
      · refine ⟨_, rfl, _, rfl, _, _, rfl, rfl, rfl, _, rfl, ?_⟩
        show if decide (V.int (Builtin.bitAnd ((ms[i] : Nat) : Int) ((y : Nat) : Int)) = vInt 0) = true then _ else _
        rw [bitAnd_nat, show V.int ((ms[i] &&& y : Nat) : Int) = vInt (ms[i] &&& y) from rfl, dec_nat]
        refine ite2 (fun z2 => ?_) (fun z2 => ?_)
        · refine ⟨_, rfl, _, hR, ?_, same_upd sm hD, ?_⟩
          · rw [List.length_map]
            exact below (m := 200000) (by omega)
          · rw [upd_same, em, List.filter_cons_of_pos (by rw [z, z2]; rfl), List.map_append]
            rfl
        · refine ⟨sm, ?_⟩
          rw [em, List.filter_cons_of_neg (by rw [Bool.and_eq_true]; exact fun q => z2 q.2), List.filter_nil, List.append_nil]
          exact hR
      · refine ⟨sm, ?_⟩
        rw [em, List.filter_cons_of_neg (by rw [Bool.and_eq_true]; exact fun q => z q.1), List.filter_nil, List.append_nil]
        exact hR
    rintro H1 ⟨sm, hR⟩
    rw [List.length_map, List.take_length] at hR
    exact k H1 D sm hD hR
abbrev nALn : List Str := ["_law_masks", "_law_size", "_law_need", "_law_bar"]
theorem scALn : FnScope nALn ["_law_masks", "_law_size"] (defScope sAllNumbers) := ⟨rfl, rfl, rfl, by decide +kernel, rfl, by decide +kernel, by decide +kernel⟩
theorem ok_all_numbers {f : Addr} {fd : FuncData} (F : Fun K "_law_all_numbers" "_law_all_numbers" sAllNumbers f fd) (T : Bare mg) (GF : Cal P w K mg base 1 "_law_full" ["_law_size"] spFull) (GO : Cal P w K mg base 1 "_law_lot" ["_law_mask_here"] spLot) (GG : Cal P w K mg base 1 "_law_good_number" ["_law_number"] spGood8) (GH : Cal P w K mg base 3 "_law_held" ["_law_masks", "_law_inside", "_law_outside"] (spLHeld K)) :
    FnOk P w K mg base CX0 4 f fd ["_law_masks", "_law_size"] (spAllN K) := by
  obtain ⟨_, _, ok_f, b_f, k_f, m_f⟩ := GF.ex
  obtain ⟨_, _, ok_o, b_o, k_o, m_o⟩ := GO.ex
  obtain ⟨_, _, ok_g, b_g, k_g, m_g⟩ := GG.ex
  obtain ⟨_, _, ok_h, b_h, k_h, m_h⟩ := GH.ex
  refine F.ok scALn (fun vs H Q E h => ?_) (fun cdv A outer s H vs Q E hr h => ?_)
  · obtain ⟨a, n, ms, rfl, _⟩ := h
    rfl
  · obtain ⟨a, n, ms, rfl, hS, hl, hn, k⟩ := h
    have hr_h := hr.mono (j := 3) (by decide)
    have hr_f := hr.mono (j := 1) (by decide)
    have hr_o := hr_f
    have hr_g := hr_f
    have h10 := pow_le10 hn
    have h64 : ((2 ^ n : Nat) : Int) < 2 ^ 62 := Int.lt_of_le_of_lt (Int.ofNat_le.mpr h10) (by decide)
    refine ⟨_, (pss_cons (ps_for PassesOwn.never rfl (pi_range1 rfl T.range (pa_cons (pe_call ok_f hr_f rfl m_f k_f b_f .nil pass0 (pa_cons (pv 1) pa_nil)) pa_nil)) (pg_name (i := 2) scALn.nd rfl (Or.inl rfl))
          (pss_one (ps_for PassesOwn.never rfl (pi_range1 rfl T.range (pa_cons (pe_call ok_f hr_f rfl m_f k_f b_f .nil pass0 (pa_cons (pv 1) pa_nil)) pa_nil)) (pg_name (i := 3) scALn.nd rfl (Or.inl rfl))
              (pss_one (ps_if (PW.pt (pw_and (pt_cmpR op_eq (pe_op op_and (pv 2) (pv 3)) pe_int (nomark _)) (pw_and1 (pt_not (pt_val (pe_call ok_g hr_g rfl m_g k_g b_g .nil pass0 (pa_cons (pe_callB call_len_seq (by rfl) T.len PySem.boot_len (pa_cons (pe_call ok_h hr_h rfl m_h k_h b_h .nil pass0 (pa_cons (pv 0) (pa_cons (pe_call ok_o hr_o rfl m_o k_o b_o .nil pass0 (pa_cons (pv 2) pa_nil)) (pa_cons (pe_call ok_o hr_o rfl m_o k_o b_o .nil pass0 (pa_cons (pv 3) pa_nil)) pa_nil)))) pa_nil)) pa_nil))))))) (pss_one (ps_ret pe_bl)) pss_nil)))))
      (pss_one (ps_ret pe_bl))), ?_⟩
    refine ⟨_, rfl, n, rfl, by omega, ((2 ^ n : Nat) : Int), rfl, Int.le_trans (by decide) (Int.natCast_nonneg _), h64, ?_⟩
    refine for_range (lo := 0) (n := 2 ^ n) (fun i σ H' => ∃ y2 y3, σ = [some (.ref a), some (vInt n), y2, y3] ∧ Same H H' ∧ ∀ x, x < i → ∀ y, y < 2 ^ n → x &&& y = 0 → GoodN (heldM x y ms).length) ⟨none, none, rfl, Same.refl _, fun x hx => by omega⟩ ?_ ?_
    · rintro i σ H1 hi ⟨y2, y3, rfl, s1, g1⟩
      rw [Int.zero_add]
      refine ⟨_, rfl, n, rfl, by omega, ((2 ^ n : Nat) : Int), rfl, Int.le_trans (by decide) (Int.natCast_nonneg _), h64, ?_⟩
      refine for_range (lo := 0) (n := 2 ^ n) (fun j σ H' => ∃ y3, σ = [some (.ref a), some (vInt n), some (vInt i), y3] ∧ Same H H' ∧ ∀ y, y < j → i &&& y = 0 → GoodN (heldM i y ms).length) ⟨y3, rfl, s1, fun x hx => by omega⟩ ?_ ?_
      · rintro j σ H2 hj ⟨y3, rfl, s2, g2⟩
        rw [Int.zero_add]
        have more : (i &&& j = 0 → GoodN (heldM i j ms).length) → ∀ y, y < j + 1 → i &&& y = 0 → GoodN (heldM i y ms).length := fun q y hy e => by
          by_cases ey : y = j
          · subst ey; exact q e
          · exact g2 y (by omega) e
        refine ⟨_, rfl, _, rfl, _, _, rfl, rfl, rfl, _, rfl, ?_⟩
        show if decide (V.int (Builtin.bitAnd ((i : Nat) : Int) ((j : Nat) : Int)) = vInt 0) = true then _ else _
        rw [bitAnd_nat, show V.int ((i &&& j : Nat) : Int) = vInt (i &&& j) from rfl, dec_nat]
        refine ite2 (fun z => ?_) (fun z => ⟨_, rfl, s2, more fun q => absurd (decide_eq_true q) z⟩)
        have z := of_decide_eq_true z
        refine ⟨_, rfl, _, rfl, i, rfl, fun H3 p s3 hp hp' => ?_⟩
        refine ⟨_, rfl, j, rfl, fun H4 q s4 hq hq' => ?_⟩
        have s24 := s2.trans (s3.trans s4)
        refine ⟨a, p, q, ms, i, j, rfl, s24.seq hS, by omega, .inr (SqT.of (s4 _ _ hp')), .inr (SqT.of hq'), by omega, by omega, fun H5 r s5 hr5 hr5' => ?_⟩
        refine ⟨r, _, rfl, .inl (SqL.of hr5'), (heldM i j ms).length, by rw [List.length_map]; rfl, ?_⟩
        have hc : (heldM i j ms).length ≤ 255 := Nat.le_trans (List.length_filter_le _ _) hl
        have s25 := s24.trans s5
        refine ⟨_, rfl, ?_⟩
        cases e : good8 (heldM i j ms).length with
        | true => exact iteF ⟨_, rfl, s25, more fun _ => (good8_iff hc).mp e⟩
        | false =>
          refine iteT (k _ false s25 ⟨fun z => (by cases z), fun g => ?_⟩)
          have := g i j hi hj z
          rw [(good8_iff hc).mpr this] at e
          exact e.symm
      · rintro σ H2 ⟨y3, rfl, s2, g2⟩
        refine ⟨_, _, rfl, s2, fun x hx y hy e => ?_⟩
        by_cases ex : x = i
        · subst ex; exact g2 y hy e
        · exact g1 x (by omega) y hy e
    · rintro σ H1 ⟨y2, y3, rfl, s1, g1⟩
      exact k _ true s1 ⟨fun _ x y hx hy e => g1 x hx y hy e, fun _ => rfl⟩
abbrev nTD : List Str := ["_law_masks", "_law_size", "_law_inside", "_law_x", "_law_y", "_law_z", "_law_mask_here"]
theorem scTD : FnScope nTD ["_law_masks", "_law_size"] (defScope sTripleDue) := ⟨rfl, rfl, rfl, by decide +kernel, rfl, by decide +kernel, by decide +kernel⟩
theorem ok_triple_due {f : Addr} {fd : FuncData} (F : Fun K "_law_triple_due" "_law_triple_due" sTripleDue f fd) (T : Bare mg) (GO : Cal P w K mg base 3 "_law_order" ["_law_size"] spOrder) : FnOk P w K mg base CX0 4 f fd ["_law_masks", "_law_size"] (spTripleDue K) := by
  obtain ⟨go, god, oko, bo, ko, mo⟩ := GO.ex
  refine F.ok scTD (fun vs H Q E h => ?_) (fun cdv A outer s H vs Q E hr h => ?_)
  · obtain ⟨a, ms, n, rfl, _⟩ := h
    rfl
  · obtain ⟨a, ms, n, rfl, hS, h1, h2, k⟩ := h
    have h10 := pow_le10 h2
    refine ⟨_, pss_cons (ps_setLc (i := 2) (own := [("_law_mask_here", 6)]) (g := gName 6) (by rfl) scTD.nd rfl rfl (sw_true rfl rfl rfl (by decide +kernel)) (pi_list (pe_call oko hr rfl mo ko bo .nil pass0 (pa_cons (pv 1) pa_nil))) (blkOk_by (own := [("_law_mask_here", 6)]) (N := nTD) (sc := defScope sTripleDue) (by decide +kernel)) (fun _ _ _ _ _ => pg_name (i := 6) scTD.nd rfl (Or.inl rfl))
        (fun _ _ _ _ _ => pts_one (pt_cmpR (op_in_seq : OpR _ _ (rIn K false)) (pv 6) (pv 0) (by rfl))) (fun _ _ _ _ _ => pv 6))
      (pss_cons (ps_for PassesOwn.never rfl (pi_list (pv 2)) (pg_name (i := 3) scTD.nd rfl (Or.inl rfl))
        (pss_one (ps_for PassesOwn.never rfl (pi_list (pv 2)) (pg_name (i := 4) scTD.nd rfl (Or.inl rfl))
          (pss_one (ps_for PassesOwn.never rfl (pi_list (pv 2)) (pg_name (i := 5) scTD.nd rfl (Or.inl rfl))
            (pss_one (ps_if (pt_cmpR op_notIn_seq (pe_op op_xor (pe_op op_xor (pv 3) (pv 4)) (pv 5)) (pv 0) (by rfl))
              (pss_one (ps_ret (pe_tup (pa_cons (pv 3) (pa_cons (pv 4) (pa_cons (pv 5) pa_nil)))))) pss_nil)))))))
      (pss_one (ps_ret pe_non))), ?_⟩
    refine ⟨_, rfl, n, rfl, h1, h2, fun H1 r os ho s1 hpo hO => ⟨r, rfl, ⟨_, SqL.of hO⟩, fun q hq => ?_⟩⟩
    have hlm : os.length ≤ 1024 := by rw [ho.perm.length_eq, List.length_range]; omega
    refine lc_list (K := K) (a := r) (xs := os.map vInt) (fun i H' => Same H1 H' ∧ H' q = some (.lst ((insideOf ms (os.take i)).map vInt))) ⟨same_new hq, upd_same⟩ ?_ ?_ ?_
    · rintro i H2 hi ⟨sm, _⟩
      exact SqL.of (sm _ _ hO)
    · rintro i x H2 hx ⟨sm, hR⟩
      obtain ⟨hi, rfl⟩ := item hx
      refine ⟨rfl, _, rfl, _, rfl, a, _, rfl, .inl ((s1.trans sm).seq hS), rfl, flat_all ms, _, rfl, ?_⟩
      rw [inV_nat]
      have e1 : insideOf ms (os.take (i + 1)) = insideOf ms (os.take i) ++ [os[i]].filter fun m => decide (m ∈ ms) := by
        unfold insideOf
        rw [take_more hi, List.filter_append]
      refine ite2 (fun z => ?_) (fun z => ?_)
      · refine ⟨_, rfl, _, hR, ?_, same_upd sm hq, ?_⟩
        · rw [List.length_map]
          have h3 : (insideOf ms (os.take i)).length ≤ (os.take i).length := List.length_filter_le _ _
          rw [List.length_take] at h3
          exact below (m := 100000) (by omega)
        · rw [upd_same, e1, List.filter_cons_of_pos (by exact z), List.map_append]
          rfl
      · refine ⟨sm, ?_⟩
        rw [e1, List.filter_cons_of_neg (by exact z), List.filter_nil, List.append_nil]
        exact hR
    rintro H2 ⟨sm, hR⟩
    rw [List.length_map, List.take_length] at hR
    have s2 := s1.trans sm
    refine ⟨_, rfl, q, rfl, ⟨_, SqL.of hR⟩, for_list (K := K) (xs := (insideOf ms os).map vInt) (fun i σ H' => ∃ y4 y5 y6 : Option V, σ = [some (.ref a), some (vInt n), some (.ref q), y4, y5, y6, none] ∧ H' = H2 ∧ ∀ x ∈ (insideOf ms os).take i, tri1 ms (insideOf ms os) x = none)
      ⟨none, none, none, rfl, rfl, fun x hx => by cases hx⟩ ?_ ?_ ?_⟩
    · rintro i σ H3 hi ⟨y4, y5, y6, rfl, rfl, _⟩
      exact SqL.of hR
    · rintro i x σ H3 hx ⟨y4, y5, y6, rfl, rfl, nx⟩
      obtain ⟨hi, rfl⟩ := item hx
      generalize ex : (insideOf ms os)[i] = x
      refine ⟨_, rfl, q, rfl, ⟨_, SqL.of hR⟩, for_list (K := K) (xs := (insideOf ms os).map vInt) (fun j σ H' => ∃ y5 y6 : Option V, σ = [some (.ref a), some (vInt n), some (.ref q), some (vInt x), y5, y6, none] ∧ H' = H3 ∧ ∀ y ∈ (insideOf ms os).take j, tri2 ms (insideOf ms os) x y = none)
        ⟨y5, y6, rfl, rfl, fun x hx => by cases hx⟩ ?_ ?_ ?_⟩
      · rintro j σ H4 hj ⟨y5, y6, rfl, rfl, _⟩
        exact SqL.of hR
      · rintro j y σ H4 hy ⟨y5, y6, rfl, rfl, ny⟩
        obtain ⟨hj, rfl⟩ := item hy
        generalize ey : (insideOf ms os)[j] = y
        refine ⟨_, rfl, q, rfl, ⟨_, SqL.of hR⟩, for_list (K := K) (xs := (insideOf ms os).map vInt) (fun l σ H' => ∃ y6 : Option V, σ = [some (.ref a), some (vInt n), some (.ref q), some (vInt x), some (vInt y), y6, none] ∧ H' = H4 ∧ ∀ z ∈ (insideOf ms os).take l, (!decide (x ^^^ y ^^^ z ∈ ms)) = false)
          ⟨y6, rfl, rfl, fun x hx => by cases hx⟩ ?_ ?_ ?_⟩
        · rintro l σ H5 hl ⟨y6, rfl, rfl, _⟩
          exact SqL.of hR
        · rintro l z σ H5 hz ⟨y6, rfl, rfl, nz⟩
          obtain ⟨hl, rfl⟩ := item hz
          generalize ez : (insideOf ms os)[l] = z
          have ein : inV (V.int (Builtin.bitXor (Builtin.bitXor (x : Int) (y : Int)) (z : Int))) (ms.map vInt) = decide (x ^^^ y ^^^ z ∈ ms) := by
            rw [bitXor_nat, bitXor_nat, xorN_eq, xorN_eq]
            exact inV_nat _ _
          refine ⟨_, rfl, _, rfl, _, _, rfl, rfl, _, rfl, _, _, rfl, rfl, _, rfl, a, _, rfl, .inl (s2.seq hS), rfl, flat_all ms, !decide (x ^^^ y ^^^ z ∈ ms), congrArg (fun z => V.bl (!z)) ein, ?_⟩
          cases hb : (!decide (x ^^^ y ^^^ z ∈ ms)) with
          | true =>
            have f1 : (insideOf ms os).find? (fun z => !decide (x ^^^ y ^^^ z ∈ ms)) = some z := by
              have := find_at hl nz (by rw [ez]; exact hb)
              rw [ez] at this
              exact this
            have f2 : tri2 ms (insideOf ms os) x y = some (x, y, z) := by
              unfold tri2
              rw [f1]
              rfl
            have f3 : tri1 ms (insideOf ms os) x = some (x, y, z) := findSome_at hj ny (by rw [ey]; exact f2)
            have f4 : tripleDue ms os = some (x, y, z) := findSome_at hi nx (by rw [ex]; exact f3)
            refine iteT ⟨_, rfl, _, rfl, _, rfl, small (m := 3) (Nat.le_refl _), fun t ht => ?_⟩
            exact (k _ os ho (s2.trans (same_new ht))).2 x y z t f4 (s2.free ht) upd_same
          | false =>
            refine iteF ⟨_, rfl, rfl, fun u hu => ?_⟩
            rw [take_more hl] at hu
            rcases List.mem_append.mp hu with hu | hu
            · exact nz u hu
            · rw [List.mem_singleton.mp hu, ez]
              exact hb
        · rintro σ H5 ⟨y6, rfl, rfl, nz⟩
          rw [List.length_map, List.take_length] at nz
          refine ⟨_, _, rfl, rfl, fun u hu => ?_⟩
          rw [take_more hj] at hu
          rcases List.mem_append.mp hu with hu | hu
          · exact ny u hu
          · rw [List.mem_singleton.mp hu, ey]
            unfold tri2
            rw [List.find?_eq_none.mpr fun z hz => by rw [nz z hz]; decide]
            rfl
      · rintro σ H4 ⟨y5, y6, rfl, rfl, ny⟩
        rw [List.length_map, List.take_length] at ny
        refine ⟨_, _, _, rfl, rfl, fun u hu => ?_⟩
        rw [take_more hi] at hu
        rcases List.mem_append.mp hu with hu | hu
        · exact nx u hu
        · rw [List.mem_singleton.mp hu, ex]
          exact List.findSome?_eq_none_iff.mpr ny
    · rintro σ H3 ⟨y4, y5, y6, rfl, rfl, nx⟩
      rw [List.length_map, List.take_length] at nx
      exact (k _ os ho s2).1 (List.findSome?_eq_none_iff.mpr nx)
end
end Fam

/-! sorted(t) of a tuple of ints, any number of them. -/
namespace SrtTup
open PySem PyProof.Rows Srt SrtO
section
variable {prog : Program} {w : World} {A : Around} {E : Value → Shared → Prop} {s : Shared}
theorem collect_tup {l : Addr} {vs : List Value} {Q : List Value → Shared → Prop} (hl : s.heap.IsTuple l vs.toArray)
    (h : Q vs { s with heap := (s.heap.push (seqObj "list" #[] 0)).update s.heap.objs.size (Obj.mapSeq (· ++ vs.toArray)) }) (hsz : vs.length ≤ sizeLine) :
    wpAny (model prog w) A (collect (.ref l)) Q E s := by
  obtain ⟨o, ho, hc, n, hd⟩ := id hl
  unfold collect
  refine wpAny_bind (wpAny_runValue (codeAny_builtin entry_proto_collect' ?_))
  show wpAny _ _ (do again (.builtin "list.__iadd__" ⟨[← newList [], .ref l], []⟩)) _ _ s
  refine wpAny_bind (wpAny_newList (wpAny_pure ⟨Code.quiet_builtin _ (by decide +kernel), codeAny_builtin entry_list_iadd' ?_⟩))
  show wpAny _ _ (Builtin.List.listExtendWith (.ref s.heap.objs.size) (.ref l) (.ref s.heap.objs.size)) _ _ { s with heap := s.heap.push (seqObj "list" #[] 0) }
  unfold Builtin.List.listExtendWith
  have ho' : (s.heap.push (seqObj "list" #[] 0)).get? l = some o := Heap.get?_push_of_some _ ho
  refine wpAny_bind (wpAny_typeOf (T := "tuple") ⟨o, ho', hc⟩ ?_)
  have ht : (Value.type "tuple" == Value.type "tuple") = true := by rfl
  rw [if_pos (by rw [ht]; simp)]
  refine wpAny_bind (listItems_at ho' hd ?_)
  refine wpAny_bind (listItems_at (xs := #[]) (n := 0) (Heap.get?_push_size _ rfl) rfl ?_)
  rw [if_neg (by simp)]
  refine wpAny_bind (listUpdate_at (xs := #[]) (n := 0) (Heap.get?_push_size _ rfl) rfl ?_ (Nat.zero_le _) (by show (#[] ++ vs.toArray).size ≤ sizeLine + 1; simp only [Array.size_append, List.size_toArray, List.length_nil]; omega))
  refine wpAny_pure ?_
  show wpAny (model prog w) A (do
      let o ← load s.heap.objs.size
      match o.data with
      | .seq xs _ => pure xs.toList
      | _ => unsupported "internal:collect") Q E { s with heap := (s.heap.push (seqObj "list" #[] 0)).update s.heap.objs.size (Obj.mapSeq (· ++ vs.toArray)) }
  refine wpAny_bind (wpAny_load (get?_update_seq (Heap.get?_push_size _ rfl) _) ?_)
  show wpAny _ _ (pure ((#[] : Array Value) ++ vs.toArray).toList) Q E _
  rw [show ((#[] : Array Value) ++ vs.toArray).toList = vs by simp]
  exact wpAny_pure h
theorem sorted_ordT {l : Addr} {vs : List Value} {ltv : Value → Value → Bool} {Q : Value → Shared → Prop} (O : Swo ltv) (hl : s.heap.IsTuple l vs.toArray) (hz : vs.length ≤ sizeLine)
    (hS : 2 ≤ vs.length → ∀ (h₁ : Heap) (a : Addr), h₁.get? a = some (seqObj "list" vs.toArray 0) → (∀ b o, s.heap.get? b = some o → b ≠ a ∧ h₁.get? b = some o) → SortableO prog w A.in1.in1 { s with heap := h₁ } a vs ltv)
    (h : ∀ out : List Value, Srtd ltv out → Stb ltv out vs → Q (.ref (s.heap.objs.size + 1)) { s with heap := sortedAll s.heap vs out.toArray }) :
    wpAny (model prog w) A (call (.builtin "sorted") [.ref l]) Q E s := by
  refine Calls.call_function_entry kind_sorted plain_sorted entry_sorted (args_sorted1 _) ?_
  unfold Builtin.«sorted»
  refine wpAny_bind (m := checkCount "sorted" 1 1 _) (wpAny_pure ?_)
  refine wpAny_bind (collect_tup hl ?_ hz)
  refine wpAny_bind (wpAny_newList ?_ hz)
  have hsz : ((s.heap.push (seqObj "list" #[] 0)).update s.heap.objs.size (Obj.mapSeq (· ++ vs.toArray))).objs.size = s.heap.objs.size + 1 := by
    rw [Heap.size_update, size_push']
  have hoL : (((s.heap.push (seqObj "list" #[] 0)).update s.heap.objs.size (Obj.mapSeq (· ++ vs.toArray))).push (seqObj "list" vs.toArray 0)).get? (s.heap.objs.size + 1) = some (seqObj "list" vs.toArray 0) := by
    rw [← hsz]; exact Heap.get?_push_size _ rfl
  have keep : ∀ b o, s.heap.get? b = some o → b ≠ s.heap.objs.size + 1 ∧ (((s.heap.push (seqObj "list" #[] 0)).update s.heap.objs.size (Obj.mapSeq (· ++ vs.toArray))).push (seqObj "list" vs.toArray 0)).get? b = some o := fun b o q => by
    have hlt : b < s.heap.objs.size := Heap.lt_size q
    refine ⟨Nat.ne_of_lt (Nat.lt_succ_of_lt hlt), Heap.get?_push_of_some _ ?_⟩
    rw [Heap.get?_update_ne _ _ _ _ (Nat.ne_of_lt hlt)]
    exact Heap.get?_push_of_some _ q
  show wpAny _ _ _ _ _ { s with heap := ((s.heap.push (seqObj "list" #[] 0)).update s.heap.objs.size (Obj.mapSeq (· ++ vs.toArray))).push (seqObj "list" vs.toArray 0) }
  rw [hsz]
  refine wpAny_bind (wpAny_holding (wpAny_call_entry slot_list_sort ⟨_, hoL, rfl⟩ entry_list_sort (list_sort_ord O hoL hz (fun h2 => hS h2 _ _ hoL keep) fun out hs hb => ⟨_, rfl, ?_⟩) (args_list_sort _)))
  exact wpAny_pure ⟨_, rfl, h out hs hb⟩
end
end SrtTup
namespace L2
open PySem PySem.Spec PyProof.Rows
/-- sorted(t), t a tuple of ints, any number of them -/
def rSortedIT (K : PySem.W.Frag) : List V → Hp → VK → Prop := fun vs H Q => ∃ (a : Addr) (ns : List Int), vs = [V.ref a] ∧ SqT K H a (ns.map V.int) ∧
  ∀ (ns' : List Int) (p : Addr), ns'.Perm ns → ns'.Pairwise (· ≤ ·) → H p = none → Q (.ref p) (upd H p (.lst (ns'.map V.int)))
theorem cr_sortedIT {X : Cx} : CallR X (.builtin "sorted") (rSortedIT X.K) := by
  intro pins s σ H vs us Q I r h
  obtain ⟨a, ns, rfl, hs, q⟩ := h
  obtain ⟨its, rv, hl, hz⟩ := I.tuple hs
  rw [Vals.ref1 r]
  have hi := rv.ints
  refine SrtTup.sorted_ordT SrtO.swo_int hl (by rw [← rv.length]; exact hz) (fun h2 h₁ a' _ _ => SrtO.ints_sortable hi h2) fun out h1 h2 => ?_
  obtain ⟨k1, k2, k3⟩ := SrtO.ints_out hi h1 h2
  obtain ⟨ep, he'⟩ := PyProof.Rows.sortedAll_at s.heap its out.toArray
  have hlen : ((out.map SrtO.iv).map V.int).length ≤ sizeLine := by
    rw [List.length_map, k2.length_eq]
    rw [List.length_map] at hz
    exact hz
  exact ⟨.ref _, upd H (s.heap.objs.size + 1) (.lst ((out.map SrtO.iv).map V.int)), I.laid (t' := s.toks) (fun _ _ => PyProof.Rows.sortedAll_old) (Nat.le_succ _) ⟨hlen, out, ep, vals_of_ints k1, he'⟩, rfl, q _ _ k2 k3 (I.hok.fresh (Nat.le_succ _))⟩
end L2

/-! The law's lots_ok. -/
namespace Fam
open PySem L2 XM
open C8 (pss_cut tCut)
def rListOf (K : PySem.W.Frag) : List V → Hp → VK → Prop := fun xs H Q => ∃ p ys, xs = [.ref p] ∧ (SqL K H p ys ∨ SqT K H p ys) ∧ ∀ l, H l = none → Q (.ref l) (upd H l (.lst ys))
theorem shaped_ints (l : List Int) : SeqAt.shaped (.list (l.map PyData.int)) = true := by
  have c := can_ints l
  have d := depth_ints l
  unfold SeqAt.shaped
  rw [Bool.and_eq_true]
  exact ⟨by simp only [PyData.canLay0]; exact c, decide_eq_true (by simp only [PyData.depth]; omega)⟩
theorem sorted_asc {a b : List Int} (ha : a.Pairwise (· ≤ ·)) (hb : b.Pairwise (· < ·)) (p : a.Perm b) : a = b := by
  have nb : b.Nodup := hb.imp fun {x y} q => by omega
  have na : a.Nodup := p.nodup_iff.mpr nb
  have sa : a.Pairwise (· < ·) := (ha.and na).imp fun {x y} q => by
    have := q.1
    have := q.2
    omega
  exact asc_uniq sa hb fun k => p.mem_iff
def spLotsOk : Sp := fun vs H Q _ => ∃ (t p q : Addr) (n a b : Nat), vs = [.ref t, vInt n] ∧ H t = some (.tup [.ref p, .ref q]) ∧ H p = some (.tup (lotV a)) ∧ H q = some (.tup (lotV b)) ∧ n ≤ 10 ∧ a < 2 ^ n ∧ b < 2 ^ n ∧ a &&& b = 0 ∧ ∀ H', Same H H' → Q (.bl true) H'
theorem lot_mem {m n : Nat} (h : m < 2 ^ n) (hn : n ≤ 10) {i : Int} (hi : i ∈ lotI m) : 0 ≤ i ∧ i < n := by
  obtain ⟨x, hx, rfl⟩ := List.mem_map.mp hi
  have := lot_lt h (by omega) x hx
  show 0 ≤ (x : Int) ∧ (x : Int) < n
  omega
theorem lotN_bit {m : Nat} : ∀ {n i : Nat}, i ∈ lotN m n ↔ i < n ∧ m.testBit i = true
  | 0, i => ⟨fun h => (by cases h), fun h => absurd h.1 (by omega)⟩
  | n + 1, i => by
    by_cases e : m / 2 ^ n % 2 = 1
    · rw [lotN_yes e, List.mem_append, lotN_bit, List.mem_singleton]
      constructor
      · rintro (⟨h1, h2⟩ | h)
        · exact ⟨by omega, h2⟩
        · subst h; exact ⟨by omega, (bit_iff m i).mp e⟩
      · rintro ⟨h1, h2⟩
        by_cases q : i = n
        · exact .inr q
        · exact .inl ⟨by omega, h2⟩
    · rw [lotN_no e, lotN_bit]
      constructor
      · rintro ⟨h1, h2⟩; exact ⟨by omega, h2⟩
      · rintro ⟨h1, h2⟩
        by_cases q : i = n
        · subst q; exact absurd ((bit_iff m i).mpr h2) e
        · exact ⟨by omega, h2⟩
section
variable {P : Program} {w : World} {K : PySem.W.Frag} {mg : Str → Option Value} {base : Heap}
abbrev nLK : List Str := ["_law_pair", "_law_size", "_law_lot_here", "_law_x"]
theorem scLK : FnScope nLK ["_law_pair", "_law_size"] (defScope sLotsOk) := ⟨rfl, rfl, rfl, by decide +kernel, rfl, by decide +kernel, by decide +kernel⟩
theorem ok_lots_ok {f : Addr} {fd : FuncData} (F : Fun K "_law_lots_ok" "_law_lots_ok" sLotsOk f fd) (T : Bare mg) (GI : Cal P w K mg base 1 "_law_int" ["_law_value"] spLawInt) : FnOk P w K mg base CX0 2 f fd ["_law_pair", "_law_size"] spLotsOk := by
  obtain ⟨_, _, ok_i, b_i, k_i, m_i⟩ := GI.ex
  refine F.ok scLK (fun vs H Q E h => ?_) (fun cdv A outer s H vs Q E hr h => ?_)
  · obtain ⟨t, p, q, n, a, b, rfl, _⟩ := h
    rfl
  · obtain ⟨t, p, q, n, a, b, rfl, ht, hp, hq, hn, ha, hb, hab, k⟩ := h
    have hr_i := hr.mono (j := 1) (by decide)
    refine ⟨_, (pss_cons (ps_if (PW.pt (pw_or (pt_not (pt_val (pe_callB call_isi (by rfl) T.isi (by decide +kernel) (pa_cons (pv 0) (pa_cons (pe_ty (n := "tuple") (by rfl) T.tuple (by decide +kernel)) pa_nil))))) (pw_or1 (pt_cmpR op_ne (pe_callB call_len_seq (by rfl) T.len PySem.boot_len (pa_cons (pv 0) pa_nil)) pe_int (nomark _))))) (pss_one (ps_ret pe_bl)) pss_nil)
      (pss_cons (ps_for PassesOwn.never rfl (pi_tup (pv 0)) (pg_name (i := 2) scLK.nd rfl (Or.inr rfl))
          (pss_cons (ps_if (PW.pt (pw_or (pt_not (pt_val (pe_callB call_isi (by rfl) T.isi (by decide +kernel) (pa_cons (pv 2) (pa_cons (pe_ty (n := "tuple") (by rfl) T.tuple (by decide +kernel)) pa_nil))))) (pw_or1 (pt_cmpR op_gt (pe_callB call_len_seq (by rfl) T.len PySem.boot_len (pa_cons (pe_lc (own := [("_law_x", 3)]) (g := gName 3) rfl scLK.nd (pi_tup (pv 2)) (blkOk_by (own := [("_law_x", 3)]) (N := nLK) (sc := defScope sLotsOk) (by decide +kernel)) (fun _ _ _ _ _ => pg_name (i := 3) scLK.nd rfl (Or.inl rfl)) (fun _ _ _ _ _ => pts_one (PW.pt (pw_or (pt_not (pt_val (pe_call ok_i hr_i rfl m_i k_i b_i .nil pass0 (pa_cons (pv 3) pa_nil)))) (pw_or (pt_cmpR op_lt (pv 3) pe_int (nomark _)) (pw_or1 (pt_cmpR op_ge (pv 3) (pv 1) (nomark _))))))) (fun _ _ _ _ _ => pv 3)) pa_nil)) pe_int (nomark _))))) (pss_one (ps_ret pe_bl)) pss_nil)
          (pss_one (ps_if (PW.pt (pw_or (pt_cmpR (op_neD hr.units) (pe_callTy call_list_of (by rfl) T.list (by decide +kernel) (pa_cons (pv 2) pa_nil)) (pe_callB cr_sortedIT (by rfl) T.sorted (by decide +kernel) (pa_cons (pv 2) pa_nil)) (nomark _)) (pw_or1 (pt_cmpR op_gt (pe_callB call_len_seq (by rfl) T.len PySem.boot_len (pa_cons (pe_lc (own := [("_law_x", 3)]) (g := gName 3) rfl scLK.nd (pi_tup (pv 2)) (blkOk_by (own := [("_law_x", 3)]) (N := nLK) (sc := defScope sLotsOk) (by decide +kernel)) (fun _ _ _ _ _ => pg_name (i := 3) scLK.nd rfl (Or.inl rfl)) (fun _ _ _ _ _ => pts_one (pt_cmpR op_gt (pe_bm PySem.F.plainAttrs_list PySem.F.slot_list_count PySem.F.type_list_count (mt_lcount : MtR _ "list.count" (rCntI K)) (pe_callTy (call_list_of : CallR _ (.type "list") (rListOf K)) (by rfl) T.list (by decide +kernel) (pa_cons (pv 2) pa_nil)) (pa_cons (pv 3) pa_nil) : PE _ _ (tBM K "list" (rCntI K) (tCB (rListOf K) (tCons (tVar 2) tNil)) (tCons (tVar 3) tNil))) pe_int (nomark _))) (fun _ _ _ _ _ => pv 3)) pa_nil)) pe_int (nomark _))))) (pss_one (ps_ret pe_bl)) pss_nil))))
      (pss_one (ps_ret (pe_cmpR op_eq (pe_callB call_len_seq (by rfl) T.len PySem.boot_len (pa_cons (pe_lc (own := [("_law_x", 3)]) (g := gName 3) rfl scLK.nd (pi_tup (pe_ix ix_tup (pv 0) pe_int (fun _ _ => rfl))) (blkOk_by (own := [("_law_x", 3)]) (N := nLK) (sc := defScope sLotsOk) (by decide +kernel)) (fun _ _ _ _ _ => pg_name (i := 3) scLK.nd rfl (Or.inl rfl)) (fun _ _ _ _ _ => pts_one (pt_cmpR (op_in_seq : OpR _ _ (rIn K false)) (pv 3) (pe_ix (ix_tup : IxR _ (rIxT K)) (pv 0) pe_int (fun _ _ => rfl)) (by rfl))) (fun _ _ _ _ _ => pv 3)) pa_nil)) pe_int (nomark _)))))), ?_⟩
    refine ⟨_, rfl, _, _, _, _, true, rfl, .ty _, .base (.tup ht), kit_ty (by decide +kernel), _, rfl, iteF ?_⟩
    refine ⟨_, rfl, t, _, rfl, .inr (SqT.of ht), rfl, _, rfl, ite2 (fun z => by simp at z) (fun _ => ?_)⟩
    refine ⟨_, rfl, t, rfl, ⟨_, SqT.of ht⟩, for_tup (xs := [.ref p, .ref q]) (fun i σ H' => (∃ y, σ = [some (.ref t), some (vInt n), y, none]) ∧ Same H H') ⟨⟨none, rfl⟩, Same.refl _⟩ (fun i σ H' _ h => SqT.of (h.2 _ _ ht)) ?_ ?_⟩
    · rintro i x σ H1 hx ⟨⟨y, rfl⟩, s1⟩
      obtain ⟨r, m, rfl, hr0, hm⟩ : ∃ r m, x = .ref r ∧ H r = some (.tup (lotV m)) ∧ m < 2 ^ n := by
        match i, hx with
        | 0, hx => exact ⟨p, a, (Option.some.inj hx).symm, hp, ha⟩
        | 1, hx => exact ⟨q, b, (Option.some.inj hx).symm, hq, hb⟩
      have hr1 := s1 _ _ hr0
      refine ⟨_, rfl, _, _, _, _, true, rfl, .ty _, .base (.tup hr1), kit_ty (by decide +kernel), _, rfl, iteF ?_⟩
      have litem : ∀ {i : Nat} {v : V}, (lotV m)[i]? = some v → ∃ j : Int, v = .int j ∧ 0 ≤ j ∧ j < n ∧ j ∈ lotI m := fun {i v} hv => by
        have := List.mem_of_getElem? hv
        rw [lotV_eq] at this
        obtain ⟨j, hj, rfl⟩ := List.mem_map.mp this
        exact ⟨j, rfl, (lot_mem hm hn hj).1, (lot_mem hm hn hj).2, hj⟩
      refine ⟨_, rfl, r, rfl, ⟨_, SqT.of hr1⟩, fun D hD => ?_⟩
      refine lc_tup (K := K) (a := r) (xs := lotV m) (fun i H' => Same H1 H' ∧ H' D = some (.lst [])) ⟨same_new hD, upd_same⟩ (fun i H' _ h => SqT.of (h.1 _ _ hr1)) ?_ ?_
      · rintro i v H2 hv ⟨s2, hR⟩
        obtain ⟨j, rfl, h0, h1, _⟩ := litem hv
        refine ⟨rfl, _, rfl, j, rfl, true, rfl, iteF ⟨_, rfl, _, _, rfl, rfl, _, rfl, ite2 (fun z => absurd (of_decide_eq_true z) (by omega)) (fun _ => ⟨_, rfl, _, rfl, _, _, rfl, rfl, _, rfl, ite2 (fun z => absurd (of_decide_eq_true z) (by omega)) (fun _ => ⟨s2, hR⟩)⟩)⟩⟩
      rintro H2 ⟨s2, hR2⟩
      have s12 := s1.trans s2
      have hr2 := s2 _ _ hr1
      refine ⟨D, _, rfl, .inl (SqL.of hR2), _, _, rfl, rfl, _, rfl, ite2 (fun z => absurd z (by decide)) (fun _ => ?_)⟩
      refine ⟨_, rfl, r, _, rfl, .inr (SqT.of hr2), fun l hl => ?_⟩
      have sl := same_new (o := .lst (lotV m)) hl
      refine ⟨_, rfl, r, lotI m, rfl, SqT.of (by rw [← lotV_eq]; exact sl _ _ hr2), fun ns' u pm srt hu => ?_⟩
      have en := sorted_asc srt (lotI_asc m) pm
      subst en
      have su := same_new (o := .lst ((lotI m).map V.int)) hu
      have s3 := s2.trans (sl.trans su)
      refine ⟨.list ((lotI m).map PyData.int), .list ((lotI m).map PyData.int), .lst (SqL.of (su _ _ (by rw [upd_same, lotV_eq]))) (dp_ints _), .lst (SqL.of upd_same) (dp_ints _), shaped_ints _, shaped_ints _, _, rfl, ?_⟩
      rw [eqv_same (shaped_ints _)]
      refine iteF ?_
      have hr3 := s3 _ _ hr1
      refine ⟨_, rfl, r, rfl, ⟨_, SqT.of hr3⟩, fun D3 hD3 => ?_⟩
      refine lc_tup (K := K) (a := r) (xs := lotV m) (fun i H' => Same (upd (upd H2 l (.lst (lotV m))) u (.lst ((lotI m).map V.int))) H' ∧ H' D3 = some (.lst [])) ⟨same_new hD3, upd_same⟩ (fun i H' _ h => SqT.of (h.1 _ _ hr3)) ?_ ?_
      · rintro i v H4 hv ⟨s4, hR⟩
        obtain ⟨j, rfl, h0, h1, hj⟩ := litem hv
        refine ⟨rfl, _, rfl, r, _, rfl, .inr (SqT.of (s4 _ _ hr3)), fun l4 hl4 => ?_⟩
        have sl4 := same_new (o := .lst (lotV m)) hl4
        refine ⟨.inl ⟨rfl, _, SqL.of upd_same⟩, _, rfl, l4, lotI m, j, rfl, rfl, SqL.of (by rw [upd_same, lotV_eq]), _, _, rfl, rfl, _, rfl, ite2 (fun z => ?_) (fun _ => ⟨s4.trans sl4, sl4 _ _ hR⟩)⟩
        have nd : (lotI m).Nodup := (lotI_asc m).imp fun {a b} q => by omega
        have := List.nodup_iff_count.mp nd j
        have := of_decide_eq_true z
        omega
      rintro H4 ⟨s4, hR4⟩
      refine ⟨D3, _, rfl, .inl (SqL.of hR4), _, _, rfl, rfl, _, rfl, ite2 (fun z => absurd z (by decide)) (fun _ => ⟨⟨_, rfl⟩, s1.trans (s3.trans s4)⟩)⟩
    · rintro σ H1 ⟨⟨y, rfl⟩, s1⟩
      have ht1 := s1 _ _ ht
      have hp1 := s1 _ _ hp
      have hq1 := s1 _ _ hq
      refine ⟨_, rfl, t, _, _, .ref p, rfl, rfl, SqT.of ht1, atI_nat (j := 0) rfl, p, rfl, ⟨_, SqT.of hp1⟩, fun D hD => ?_⟩
      refine lc_tup (K := K) (a := p) (xs := lotV a) (fun i H' => Same H1 H' ∧ H' D = some (.lst [])) ⟨same_new hD, upd_same⟩ (fun i H' _ h => SqT.of (h.1 _ _ hp1)) ?_ ?_
      · rintro i v H2 hv ⟨s2, hR⟩
        obtain ⟨x, hx, rfl⟩ := List.mem_map.mp (List.mem_of_getElem? hv)
        refine ⟨rfl, _, rfl, _, rfl, t, _, _, .ref q, rfl, rfl, SqT.of (s2 _ _ ht1), atI_nat (j := 1) rfl, q, _, rfl, .inr (SqT.of (s2 _ _ hq1)), rfl, flat_all (lotN b 12), _, rfl, ?_⟩
        rw [inV_nat]
        refine ite2 (fun z => ?_) (fun _ => ⟨s2, hR⟩)
        have e1 := (lotN_bit.mp hx).2
        have e2 := (lotN_bit.mp (of_decide_eq_true z)).2
        rw [and_zero.mp hab x e2] at e1
        cases e1
      rintro H2 ⟨s2, hR2⟩
      exact ⟨D, _, rfl, .inl (SqL.of hR2), rfl, k _ (s1.trans s2)⟩
end
end Fam

/-! The law's against_ok, asked_ok. -/
namespace Fam
open PySem L2 XM OwnX
open C8 (pss_cut tCut)
def rSortedL (K : PySem.W.Frag) : List V → Hp → VK → Prop := fun vs H Q => ∃ (a : Addr) (xs : List V) (ms : List Nat), vs = [.ref a] ∧ SqL K H a xs ∧ LotsAt H xs ms ∧
  ∀ (ms0 : List Nat) (ys : List V) (p : Addr), ms0.Perm ms → ms0.Pairwise lotLe → H p = none → LotsAt (upd H p (.lst ys)) ys ms0 → Q (.ref p) (upd H p (.lst ys))
theorem cr_sortedL {X : Cx} (hu : X.A.units + 64 < cLine) : CallR X (.builtin "sorted") (rSortedL X.K) := by
  intro pins s σ H vs us Q I r h
  obtain ⟨a, xs, ms, rfl, hs, hL, q⟩ := h
  obtain ⟨ts, rfl⟩ := hL.refs
  refine cr_sortedTA hu pins s σ H _ us Q I r ⟨a, ts, kOf H, rfl, hs, fun t ht => ?_, fun ts' p hp hs2 hpn => ?_⟩
  · obtain ⟨m, _, hm⟩ := (LotsAt.mem hL).2 t ht
    rw [kOf_lot hm, ← lotV_eq]
    exact hm
  · obtain ⟨ms', pm, hL'⟩ := LotsAt.perm hp.symm hL
    exact q ms' _ p pm.symm (LotsAt.srt hL' hs2) hpn (hL'.same (same_new hpn))
structure DunO (K : PySem.W.Frag) (C : Addr) (nm : String) (g : Addr) : Prop where
  at_ : PySem.W.findIn K (.ref C) nm = some (some (.ref g))
  fn : PySem.W.isFn K (.ref g) = true
theorem not_first {K : PySem.W.Frag} {C : Addr} : PySem.W.notFirst K C (.ref C) = true := by
  unfold PySem.W.notFirst
  rw [beq_self_eq_true]
  rfl
/-- the places where a digit stands -/
def digM (v : Nat) (ds : List Nat) : Nat → Nat
  | 0 => 0
  | i + 1 => digM v ds i + if ds.getD i 0 = v then 2 ^ i else 0
theorem digM_lt (v : Nat) (ds : List Nat) : ∀ i, digM v ds i < 2 ^ i
  | 0 => by show 0 < 2 ^ 0; decide
  | i + 1 => by
    have := digM_lt v ds i
    rw [Nat.pow_succ]
    unfold digM
    split <;> omega
theorem digM_yes {v : Nat} {ds : List Nat} {i : Nat} (hi : i < 12) (h : ds.getD i 0 = v) : lotV (digM v ds (i + 1)) = lotV (digM v ds i) ++ [vInt i] := by
  show lotV (digM v ds i + _) = _
  rw [if_pos h]
  exact lot_add (digM_lt v ds i) hi
theorem digM_no {v : Nat} {ds : List Nat} {i : Nat} (h : ¬ ds.getD i 0 = v) : digM v ds (i + 1) = digM v ds i := by
  show digM v ds i + _ = _
  rw [if_neg h, Nat.add_zero]
theorem lotV_zero : lotV 0 = [] := by decide +kernel
theorem lotV_len (m : Nat) : (lotV m).length ≤ 12 := by
  show ((lotN m 12).map vInt).length ≤ 12
  rw [List.length_map]
  exact lotN_len m 12
theorem lt12 {a n : Nat} (h : a < 2 ^ n) (hn : n ≤ 10) : a < 2 ^ 12 := Nat.lt_of_lt_of_le h (Nat.pow_le_pow_right (by decide) (by omega))
theorem held_zero (ms : List Nat) : heldM 0 0 ms = ms := List.filter_eq_self.mpr fun m _ => by
  rw [Nat.and_zero]
  rfl
def spAgainst (K : PySem.W.Frag) (C : Addr) : Sp := fun vs H Q _ => ∃ (f m : Addr) (n : Nat) (ms : List Nat) (cl : Bool), vs = [.ref f, .ref m, .bl cl] ∧ FAt C H f n ms ∧ SqL K H m (ms.map vInt) ∧ ms.length ≤ 255 ∧ (cl = true ↔ ClosedX ms) ∧ ∀ H', Same H H' → Q (.bl true) H'
def spAsked (C : Addr) : Sp := fun vs H Q _ => ∃ (a : Addr) (c : Nat) (ts : List Int) (f m : Addr) (n : Nat) (ms : List Nat) (cl : Bool), vs = [.ref a, .ref f, .ref m, .bl cl] ∧ TapeAt H a c ts ∧ FAt C H f n ms ∧ H m = some (.lst (ms.map vInt)) ∧ m ≠ a ∧ ms.length ≤ 255 ∧ (cl = true → ClosedX ms) ∧
  ∀ (H' : Hp) (c' : Nat), Kp a H H' → TapeAt H' a c' ts → Q (.bl true) H'
section
variable {P : Program} {w : World} {K : PySem.W.Frag} {mg : Str → Option Value} {base : Heap} {C : Addr}
abbrev nAG : List Str := ["_law_family_here", "_law_masks", "_law_closed", "_law_told", "_law_number"]
theorem scAG : FnScope nAG ["_law_family_here", "_law_masks", "_law_closed"] (defScope sAgainstOk) := ⟨rfl, rfl, rfl, by decide +kernel, rfl, by decide +kernel, by decide +kernel⟩
theorem ok_against {f gl gk : Addr} {fd gld gkd : FuncData} (F : Fun K "_law_against_ok" "_law_against_ok" sAgainstOk f fd) (T : Bare mg) (FC : FamC K C)
    (M_held : Meth K C "held" gk) (ok_held : FnOk P w K mg base CX0 6 gk gkd ["self", "inside", "outside"] (spHeldG K C)) (b_held : Binds K gkd ["self", "inside", "outside"] [])
    (LN : DunO K C "__len__" gl) (ok_ln : FnOk P w K mg base CX0 1 gl gld ["self"] (spFLen C)) (b_ln : Binds K gld ["self"] [])
    (GA : Cal P w K mg base 1 "holds_against" ["family"] (spHolds C)) (GK : Cal P w K mg base 2 "_law_lots_ok" ["_law_pair", "_law_size"] spLotsOk) (GH : Cal P w K mg base 3 "_law_held" ["_law_masks", "_law_inside", "_law_outside"] (spLHeld K)) (GG : Cal P w K mg base 1 "_law_good_number" ["_law_number"] spGood8) :
    FnOk P w K mg base CX0 7 f fd ["_law_family_here", "_law_masks", "_law_closed"] (spAgainst K C) := by
  obtain ⟨_, _, ok_ha, b_ha, k_ha, m_ha⟩ := GA.ex
  obtain ⟨_, _, ok_lk, b_lk, k_lk, m_lk⟩ := GK.ex
  obtain ⟨_, _, ok_h, b_h, k_h, m_h⟩ := GH.ex
  obtain ⟨_, _, ok_g, b_g, k_g, m_g⟩ := GG.ex
  refine F.ok scAG (fun vs H Q E h => ?_) (fun cdv A outer s H vs Q E hr h => ?_)
  · obtain ⟨f, m, n, ms, cl, rfl, _⟩ := h
    rfl
  · obtain ⟨f, m, n, ms, cl, rfl, hF, hM, hl, hcl, k⟩ := h
    have hr3 := hr.mono (j := 3) (by decide)
    have hr2 := hr.mono (j := 2) (by decide)
    have hr1 := hr.mono (j := 1) (by decide)
    refine ⟨_, (pss_cons (ps_set (i := 3) scAG.nd rfl (Or.inl rfl) (pe_call ok_ha hr1 rfl m_ha k_ha b_ha .nil pass0 (pa_cons (pv 0) pa_nil)))
      (pss_cons (ps_if (pt_val (pv 2)) (pss_one (ps_ret (pe_cmpR op_isN (pv 3) pe_non (nomark _)))) pss_nil)
      (pss_cons (ps_if (pt_not (pt_val (pe_call ok_lk hr2 rfl m_lk k_lk b_lk .nil pass0 (pa_cons (pv 3) (pa_cons (pe_fld (pv 0) rfl) pa_nil))))) (pss_one (ps_ret pe_bl)) pss_nil)
      (pss_cons (ps_set (i := 4) scAG.nd rfl (Or.inl rfl) (pe_callB call_len_seq (by rfl) T.len PySem.boot_len (pa_cons (pe_call ok_h hr3 rfl m_h k_h b_h .nil pass0 (pa_cons (pv 1) (pa_cons (pe_ix ix_tup (pv 3) pe_int (fun _ _ => rfl)) (pa_cons (pe_ix ix_tup (pv 3) pe_int (fun _ _ => rfl)) pa_nil)))) pa_nil)))
      (pss_one (ps_ret (pe_and (pe_not (pe_call ok_g hr1 rfl m_g k_g b_g .nil pass0 (pa_cons (pv 4) pa_nil))) (pe_one (pe_cmpR op_eq (pe_callB (cr_lenO LN.at_ LN.fn ok_ln hr2 b_ln pass0) (by rfl) T.len PySem.boot_len (pa_cons (pe_meth (pv 0) FC.cl M_held ok_held hr b_held .nil pass0 (pa_cons (pe_ix ix_tup (pv 3) pe_int (fun _ _ => rfl)) (pa_cons (pe_ix ix_tup (pv 3) pe_int (fun _ _ => rfl)) pa_nil))) pa_nil)) (pv 4) (nomark _)))))))))), ?_⟩
    obtain ⟨⟨dx, l, d, fs, ls, ms0, a1, a2, a3, a4, a5, a6, a7, a8, a9, a10, a11⟩, hms, h1, h2⟩ := id hF
    refine ⟨_, rfl, f, n, ms, rfl, hF, fun H1 s1 => ⟨fun good => ?_, fun t p q a b ht hp hq ha hb hab bad => ?_⟩⟩
    · have c : cl = true := hcl.mpr ((all_good hms).mp good)
      subst c
      refine ⟨_, rfl, true, rfl, iteT ⟨_, rfl, rfl, ?_⟩⟩
      rw [decide_eq_true rfl]
      exact k _ s1
    · have c : cl = false := by
        cases e : cl with
        | false => rfl
        | true => exact absurd ((all_good hms).mpr (hcl.mp e) a b ha hb hab) bad
      subst c
      refine ⟨_, rfl, false, rfl, iteF ?_⟩
      refine ⟨_, rfl, _, rfl, f, C, dx, fs, _, rfl, s1 _ _ a1, FC.cl, FC.size, a2, t, p, q, n, a, b, rfl, ht, hp, hq, h2, ha, hb, hab, fun H2 s2 => ⟨true, rfl, iteF ?_⟩⟩
      have s12 := s1.trans s2
      have e8 : good8 (heldM a b ms).length = false := by
        cases e : good8 (heldM a b ms).length with
        | false => rfl
        | true => exact absurd ((good8_iff (Nat.le_trans (List.length_filter_le _ _) hl)).mp e) bad
      refine ⟨_, rfl, _, rfl, t, _, _, .ref p, rfl, rfl, SqT.of (s2 _ _ ht), atI_nat (j := 0) rfl, _, rfl, t, _, _, .ref q, rfl, rfl, SqT.of (s2 _ _ ht), atI_nat (j := 1) rfl, m, p, q, ms, a, b, rfl, s12.seq hM, by omega, .inr (SqT.of (s2 _ _ hp)), .inr (SqT.of (s2 _ _ hq)), lt12 ha h2, lt12 hb h2, fun H3 r s3 hr0 hr3' => ⟨r, _, rfl, .inl (SqL.of hr3'), ?_⟩⟩
      have s13 := s12.trans s3
      have s23 := s2.trans s3
      refine ⟨_, rfl, (heldM a b ms).length, by rw [List.length_map]; rfl, _, rfl, ?_⟩
      rw [e8]
      refine ⟨true, rfl, iteT ?_⟩
      refine ⟨_, rfl, f, dx, fs, rfl, s13 _ _ a1, a6 _ (by decide +kernel) (by decide +kernel) (by decide +kernel), _, rfl, t, _, _, .ref p, rfl, rfl, SqT.of (s23 _ _ ht), atI_nat (j := 0) rfl, _, rfl, t, _, _, .ref q, rfl, rfl, SqT.of (s23 _ _ ht), atI_nat (j := 1) rfl, f, p, q, n, a, b, ms, rfl, hF.same s13, LotRow.tup (s23 _ _ hp), LotRow.tup (s23 _ _ hq), ha, hb, fun H4 g s4 hG => ?_⟩
      obtain ⟨⟨dy, l', d', gs, ls', ms', b1, b2, b3, b4, b5, b6, b7, b8, b9, b10, b11⟩, _⟩ := id hG
      refine ⟨g, dy, gs, rfl, b1, g, n, _, rfl, hG, (heldM a b ms).length, rfl, ?_, _, rfl, rfl, ?_⟩
      · have : (heldM a b ms).length ≤ 255 := Nat.le_trans (List.length_filter_le _ _) hl
        omega
      · rw [List.length_map, decide_eq_true rfl]
        exact k _ (s13.trans s4)
abbrev nAS : List Str := ["_law_tape", "_law_family_here", "_law_masks", "_law_closed", "_law_size", "_law_k", "_law_digits", "_law_inside", "_law_outside", "_law_held_here", "_law_due", "_law_both", "_law_place"]
theorem scAS : FnScope nAS ["_law_tape", "_law_family_here", "_law_masks", "_law_closed"] (defScope sAskedOk) := ⟨rfl, rfl, rfl, by decide +kernel, rfl, by decide +kernel, by decide +kernel⟩
theorem ok_asked {f gl gk gq : Addr} {fd gld gkd gqd : FuncData} (F : Fun K "_law_asked_ok" "_law_asked_ok" sAskedOk f fd) (T : Bare mg) (FC : FamC K C) (FI : FamIs K C)
    (M_held : Meth K C "held" gk) (ok_held : FnOk P w K mg base CX0 6 gk gkd ["self", "inside", "outside"] (spHeldG K C)) (b_held : Binds K gkd ["self", "inside", "outside"] [])
    (LN : DunO K C "__len__" gl) (ok_ln : FnOk P w K mg base CX0 1 gl gld ["self"] (spFLen C)) (b_ln : Binds K gld ["self"] [])
    (EQ : DunO K C "__eq__" gq) (ok_eq : FnOk P w K mg base CX0 1 gq gqd ["self", "other"] (spFEq K C)) (b_eq : Binds K gqd ["self", "other"] [])
    (GT : Cal P w K mg base 1 "_law_take" ["_law_tape", "_law_many"] spDraw) (GO : Cal P w K mg base 2 "_law_lots_of" ["_law_masks"] (spLotsOf K)) (GH : Cal P w K mg base 3 "_law_held" ["_law_masks", "_law_inside", "_law_outside"] (spLHeld K)) (GG : Cal P w K mg base 1 "_law_good_number" ["_law_number"] spGood8) :
    FnOk P w K mg base CX0 7 f fd ["_law_tape", "_law_family_here", "_law_masks", "_law_closed"] (spAsked C) := by
  obtain ⟨_, _, ok_t, b_t, k_t, m_t⟩ := GT.ex
  obtain ⟨_, _, ok_lo, b_lo, k_lo, m_lo⟩ := GO.ex
  obtain ⟨_, _, ok_h, b_h, k_h, m_h⟩ := GH.ex
  obtain ⟨_, _, ok_g, b_g, k_g, m_g⟩ := GG.ex
  refine F.ok scAS (fun vs H Q E h => ?_) (fun cdv A outer s H vs Q E hr h => ?_)
  · obtain ⟨a, c, ts, f, m, n, ms, cl, rfl, _⟩ := h
    rfl
  · obtain ⟨a, c, ts, f, m, n, ms, cl, rfl, hT, hF, hM, hma, hl, hcl, k⟩ := h
    have hr3 := hr.mono (j := 3) (by decide)
    have hr2 := hr.mono (j := 2) (by decide)
    have hr1 := hr.mono (j := 1) (by decide)
    refine ⟨_, (pss_cons (ps_set (i := 4) scAS.nd rfl (Or.inl rfl) (pe_fld (pv 1) rfl))
      (pss_cons (ps_for PassesOwn.never rfl (pi_range1 rfl T.range (pa_cons pe_int pa_nil)) (pg_name (i := 5) scAS.nd rfl (Or.inl rfl))
          (pss_cons (ps_set (i := 6) scAS.nd rfl (Or.inr rfl) (pe_lc (own := [("_law_place", 12)]) (g := gName 12) (tt := tYes) rfl scAS.nd (pi_range1 rfl T.range (pa_cons (pv 4) pa_nil)) (blkOk_by (own := [("_law_place", 12)]) (N := nAS) (sc := defScope sAskedOk) (by decide +kernel)) (fun _ _ _ _ _ => pg_name (i := 12) scAS.nd rfl (Or.inl rfl)) (fun _ _ _ _ _ => pts_nil) (fun _ _ _ _ _ => pe_call ok_t hr1 rfl m_t k_t b_t .nil pass0 (pa_cons (pv 0) (pa_cons pe_int pa_nil)))))
          (pss_cons (ps_setLc (i := 7) (own := [("_law_place", 12)]) (g := gName 12) (by rfl) scAS.nd rfl rfl (sw_true rfl rfl rfl (by decide +kernel)) (pi_range1 rfl T.range (pa_cons (pv 4) pa_nil)) (blkOk_by (own := [("_law_place", 12)]) (N := nAS) (sc := defScope sAskedOk) (by decide +kernel)) (fun _ _ _ _ _ => pg_name (i := 12) scAS.nd rfl (Or.inl rfl)) (fun _ _ _ _ _ => pts_one (pt_cmpR op_eq (pe_ix (ix_list : IxR _ (rIxL K)) (pv 6) (pv 12) (fun _ _ => rfl)) pe_int (nomark _))) (fun _ _ _ _ _ => pv 12))
          (pss_cons (ps_setLc (i := 8) (own := [("_law_place", 12)]) (g := gName 12) (by rfl) scAS.nd rfl rfl (sw_true rfl rfl rfl (by decide +kernel)) (pi_range1 rfl T.range (pa_cons (pv 4) pa_nil)) (blkOk_by (own := [("_law_place", 12)]) (N := nAS) (sc := defScope sAskedOk) (by decide +kernel)) (fun _ _ _ _ _ => pg_name (i := 12) scAS.nd rfl (Or.inl rfl)) (fun _ _ _ _ _ => pts_one (pt_cmpR op_eq (pe_ix (ix_list : IxR _ (rIxL K)) (pv 6) (pv 12) (fun _ _ => rfl)) pe_int (nomark _))) (fun _ _ _ _ _ => pv 12))
          (pss_cons (ps_set (i := 9) scAS.nd rfl (Or.inl rfl) (pe_meth (pv 1) FC.cl M_held ok_held hr b_held .nil pass0 (pa_cons (pe_tupleOf rfl T.tuple (pv 7)) (pa_cons (pe_revL (pv 8)) pa_nil))))
          (pss_cons (ps_set (i := 10) scAS.nd rfl (Or.inl rfl) (pe_call ok_h hr3 rfl m_h k_h b_h .nil pass0 (pa_cons (pv 2) (pa_cons (pv 7) (pa_cons (pv 8) pa_nil)))))
          (pss_cons (ps_if (PW.pt (pw_or (pt_cmpR (op_neD hr.units) (pe_callTy call_list_of (by rfl) T.list (by decide +kernel) (pa_cons (pe_fld (pv 9) rfl) pa_nil)) (pe_callB (cr_sortedL hr.units) (by rfl) T.sorted (by decide +kernel) (pa_cons (pe_call ok_lo hr2 rfl m_lo k_lo b_lo .nil pass0 (pa_cons (pv 10) pa_nil)) pa_nil)) (nomark _)) (pw_or1 (pt_cmpR op_ne (pe_fld (pv 9) rfl) (pv 4) (nomark _))))) (pss_one (ps_ret pe_bl)) pss_nil)
          (pss_one (ps_if (PW.pt (pw_and (pt_val (pv 3)) (pw_and1 (pt_not (pt_val (pe_call ok_g hr1 rfl m_g k_g b_g .nil pass0 (pa_cons (pe_callB (cr_lenO LN.at_ LN.fn ok_ln hr2 b_ln pass0) (by rfl) T.len PySem.boot_len (pa_cons (pv 9) pa_nil)) pa_nil))))))) (pss_one (ps_ret pe_bl)) pss_nil)))))))))
      (pss_cons (ps_set (i := 11) scAS.nd rfl (Or.inl rfl) (pe_meth (pv 1) FC.cl M_held ok_held hr b_held .nil pass0 (pa_cons (pe_tup (pa_cons pe_int pa_nil)) (pa_cons (pe_lst (pa_cons pe_int pa_nil)) pa_nil))))
      (pss_one (ps_ret (pe_and (pe_cmpR op_eq (pe_callB (cr_lenO LN.at_ LN.fn ok_ln hr2 b_ln pass0) (by rfl) T.len PySem.boot_len (pa_cons (pv 11) pa_nil)) pe_int (nomark _)) (pe_one (pe_cmpR (op_eqO EQ.at_ EQ.fn ok_eq hr1 b_eq pass0) (pe_meth (pv 1) FC.cl M_held ok_held hr b_held .nil pass0 (pa_cons (pe_tup pa_nil) (pa_cons (pe_tup pa_nil) pa_nil))) (pv 1) (nomark _))))))))), ?_⟩
    obtain ⟨⟨dx, l, d, fs, ls, ms0, a1, a2, a3, a4, a5, a6, a7, a8, a9, a10, a11⟩, hms, h1, h2⟩ := id hF
    have hfa : f ≠ a := ne_of a1 hT (by intro z; cases z)
    have hheld : ∀ x y, (heldM x y ms).length ≤ 255 := fun x y => Nat.le_trans (List.length_filter_le _ _) hl
    have pw2 : 2 ≤ 2 ^ n := by
      have : 2 ^ 1 ≤ 2 ^ n := Nat.pow_le_pow_right (by decide) h1
      omega
    refine ⟨_, rfl, f, C, dx, fs, _, rfl, a1, FC.cl, FC.size, a2, 3, rfl, by decide, by decide, ?_⟩
    refine for_range (lo := 0) (n := 3) (fun i σ H' => (∃ y5 y6 y7 y8 y9 y10, σ = [some (.ref a), some (.ref f), some (.ref m), some (.bl cl), some (vInt n), y5, y6, y7, y8, y9, y10, none, none]) ∧ Kp a H H' ∧ ∃ c, TapeAt H' a c ts) ⟨⟨none, none, none, none, none, none, rfl⟩, Kp.refl _ _, c, hT⟩ ?_ ?_
    · rintro i σ H1 hi ⟨⟨y5, y6, y7, y8, y9, y10, rfl⟩, kp1, c1, hT1⟩
      refine ⟨_, rfl, _, rfl, by omega, by omega, fun D hD => ?_⟩
      have hDa := tape_ne hT1 hD
      refine lc_range (lo := 0) (n := n) (fun i H' => Kp a H1 H' ∧ (∃ c, TapeAt H' a c ts) ∧ ∃ ds : List Nat, H' D = some (.lst (ds.map vInt)) ∧ ds.length = i) ⟨(Kp.refl _ _).upd hD, ⟨_, hT1.upd hDa⟩, [], upd_same, rfl⟩ ?_ ?_
      · rintro i H2 hi2 ⟨kp, ⟨c2, hT2⟩, ds, hR, hdl⟩
        refine ⟨rfl, _, rfl, a, c2, ts, 3, rfl, hT2, by decide, fun H3 c3 r hr3' h3 hT3 => ?_⟩
        refine ⟨_, by rw [h3 D hDa]; exact hR, ?_, (kp.trans (Kp.of h3)).upd hD, ⟨_, hT3.upd hDa⟩, ds ++ [r], ?_, ?_⟩
        · rw [List.length_map]
          exact below (m := 100000) (by omega)
        · rw [upd_same, List.map_append]
          rfl
        · rw [List.length_append, hdl]
          rfl
      rintro H2 ⟨kp2, ⟨c2, hT2⟩, ds, hDs, hdl⟩
      have kp02 := kp1.trans kp2
      -- inside, outside
      refine ⟨_, rfl, _, rfl, by omega, by omega, fun D7 hD7 => ?_⟩
      refine lc_range (lo := 0) (n := n) (fun i H' => Same H2 H' ∧ H' D7 = some (.lst (lotV (digM 1 ds i)))) ⟨same_new hD7, by rw [upd_same, show digM 1 ds 0 = 0 from rfl, lotV_zero]⟩ ?_ ?_
      · rintro i H3 hi3 ⟨sm, hR⟩
        rw [Int.zero_add]
        have eg : (ds.map vInt)[i]? = some (vInt (ds.getD i 0)) := by
          rw [List.getElem?_map, List.getD_eq_getElem?_getD, List.getElem?_eq_getElem (by omega)]
          rfl
        refine ⟨rfl, _, rfl, _, rfl, D, _, _, _, rfl, rfl, SqL.of (sm _ _ hDs), atI_nat (j := i) eg, rfl, _, rfl, ?_⟩
        show if decide (vInt (ds.getD i 0) = vInt 1) = true then _ else _
        rw [dec_nat]
        refine ite2 (fun z => ?_) (fun z => ?_)
        · refine ⟨_, rfl, _, hR, ?_, same_upd sm hD7, ?_⟩
          · have := lotV_len (digM 1 ds i)
            exact below (m := 100000) (by omega)
          · rw [upd_same, digM_yes (by omega) (of_decide_eq_true z)]
        · refine ⟨sm, ?_⟩
          rw [digM_no fun e => z (decide_eq_true e)]
          exact hR
      rintro H3 ⟨s3, hI3⟩
      refine ⟨_, rfl, _, rfl, by omega, by omega, fun D8 hD8 => ?_⟩
      refine lc_range (lo := 0) (n := n) (fun i H' => Same H3 H' ∧ H' D8 = some (.lst (lotV (digM 2 ds i)))) ⟨same_new hD8, by rw [upd_same, show digM 2 ds 0 = 0 from rfl, lotV_zero]⟩ ?_ ?_
      · rintro i H4 hi4 ⟨sm, hR⟩
        rw [Int.zero_add]
        have eg : (ds.map vInt)[i]? = some (vInt (ds.getD i 0)) := by
          rw [List.getElem?_map, List.getD_eq_getElem?_getD, List.getElem?_eq_getElem (by omega)]
          rfl
        refine ⟨rfl, _, rfl, _, rfl, D, _, _, _, rfl, rfl, SqL.of ((s3.trans sm) _ _ hDs), atI_nat (j := i) eg, rfl, _, rfl, ?_⟩
        show if decide (vInt (ds.getD i 0) = vInt 2) = true then _ else _
        rw [dec_nat]
        refine ite2 (fun z => ?_) (fun z => ?_)
        · refine ⟨_, rfl, _, hR, ?_, same_upd sm hD8, ?_⟩
          · have := lotV_len (digM 2 ds i)
            exact below (m := 100000) (by omega)
          · rw [upd_same, digM_yes (by omega) (of_decide_eq_true z)]
        · refine ⟨sm, ?_⟩
          rw [digM_no fun e => z (decide_eq_true e)]
          exact hR
      rintro H4 ⟨s4, hO4⟩
      have hI4 := s4 _ _ hI3
      have s24 := s3.trans s4
      have kp04 := kp02.trans (kp_same s24)
      have hT4 := hT2.same s24
      have hF4 := hF.keep hT kp04
      have hM4 := kp04 _ _ hma hM
      have a14 := kp04 _ _ hfa a1
      have la := digM_lt 1 ds n
      have lb := digM_lt 2 ds n
      generalize ea : digM 1 ds n = x at *
      generalize eb : digM 2 ds n = y at *
      -- held
      refine ⟨_, rfl, f, dx, fs, rfl, a14, a6 _ (by decide +kernel) (by decide +kernel) (by decide +kernel), _, rfl, .inl ⟨D7, _, rfl, SqL.of hI4, fun p7 hp7 => ?_⟩⟩
      have s5 := same_new (o := .tup (lotV x)) hp7
      refine ⟨_, rfl, D8, _, rfl, SqL.of (s5 _ _ hO4), fun r8 hr8 => ?_⟩
      have s6 := same_new (o := .lst (lotV y).reverse) hr8
      refine ⟨f, p7, r8, n, x, y, ms, rfl, hF4.same (s5.trans s6), LotRow.tup (s6 _ _ upd_same), ⟨(lotI y).reverse, .inl (SqL.of (by rw [upd_same, lotV_eq, List.map_reverse])), List.pairwise_reverse.mpr ((lotI_asc y).imp fun {a b} z => by omega), fun j => List.mem_reverse⟩, la, lb, fun H7 g s7 hG => ?_⟩
      have s47 := s5.trans (s6.trans s7)
      refine ⟨_, rfl, _, rfl, _, rfl, m, D7, D8, ms, x, y, rfl, SqL.of (s47 _ _ hM4), by omega, .inl (SqL.of (s47 _ _ hI4)), .inl (SqL.of (s47 _ _ hO4)), lt12 la h2, lt12 lb h2, fun H8 r s8 hr0 hr8' => ?_⟩
      have hG8 := hG.same s8
      obtain ⟨⟨dy, l', d', gs, ls', ms', b1, b2, b3, b4, b5, b6, b7, b8, b9, b10, b11⟩, hms8, _, _⟩ := id hG8
      refine ⟨_, rfl, g, C, dy, gs, _, rfl, b1, FC.cl, FC.lots, b3, l', _, rfl, .inr (SqT.of b7), fun L hL => ?_⟩
      have s9 := same_new (o := .lst ls') hL
      refine ⟨_, rfl, r, heldM x y ms, rfl, SqL.of (s9 _ _ hr8'), by have := hheld x y; omega, fun H10 u xs s10 hu hu' hLx => ⟨u, xs, heldM x y ms, rfl, SqL.of hu', hLx, fun mz ys pz pm srt hz hLz => ?_⟩⟩
      have s11 := same_new (o := .lst ys) hz
      have s8e := s9.trans (s10.trans s11)
      have em : ms' = mz := lots_same h2 (fun z hz => hms8.lt z (b9.mem_iff.mp hz)) (b9.nodup_iff.mpr hms8.nd) (b9.trans pm.symm) b10 srt
      subst em
      refine ⟨.list (ms'.map dLot), .list (ms'.map dLot), .lst (SqL.of ((s10.trans s11) _ _ upd_same)) (dp_lots (b8.same s8e)), .lst (SqL.of upd_same) (dp_lots hLz), shaped_lots _, shaped_lots _, _, rfl, ?_⟩
      rw [eqv_same (shaped_lots _)]
      refine iteF ?_
      have b1e := s8e _ _ b1
      refine ⟨_, rfl, g, C, dy, gs, _, rfl, b1e, FC.cl, FC.size, b2, _, rfl, rfl, _, rfl, ?_⟩
      rw [decide_eq_true rfl]
      refine iteF ?_
      have s4e := s47.trans (s8.trans s8e)
      have fin : (∃ y5 y6 y7 y8 y9 y10, [some (V.ref a), some (V.ref f), some (V.ref m), some (V.bl cl), some (vInt n), some (V.int (0 + (i : Int))), some (V.ref D), some (V.ref D7), some (V.ref D8), some (V.ref g), some (V.ref r), none, none] = [some (V.ref a), some (V.ref f), some (V.ref m), some (V.bl cl), some (vInt n), y5, y6, y7, y8, y9, y10, none, none]) := ⟨_, _, _, _, _, _, rfl⟩
      refine ⟨_, rfl, cl, rfl, ?_⟩
      cases hc : cl with
      | false => exact iteF ⟨by rw [← hc]; exact fin, kp04.trans (kp_same s4e), _, hT4.same s4e⟩
      | true =>
        refine iteT ⟨_, rfl, g, dy, gs, rfl, b1e, g, n, _, rfl, hG8.same s8e, (heldM x y ms).length, rfl, by have := hheld x y; omega, (heldM x y ms).length, rfl, _, rfl, ?_⟩
        have gd : GoodN (heldM x y ms).length := by
          by_cases e : x &&& y = 0
          · exact (all_good hms).mpr (hcl hc) x y la lb e
          · rw [held_none e]
            exact .inl rfl
        rw [(good8_iff (hheld x y)).mpr gd]
        exact iteF ⟨by rw [← hc]; exact fin, kp04.trans (kp_same s4e), _, hT4.same s4e⟩
    · rintro σ H1 ⟨⟨y5, y6, y7, y8, y9, y10, rfl⟩, kp1, c1, hT1⟩
      have hF1 := hF.keep hT kp1
      have a11' := kp1 _ _ hfa a1
      refine ⟨_, rfl, f, dx, fs, rfl, a11', a6 _ (by decide +kernel) (by decide +kernel) (by decide +kernel), small (m := 1) (Nat.le_refl _), fun p hp => ⟨small (m := 1) (Nat.le_refl _), fun q hq => ?_⟩⟩
      have s2 := same_new (o := .tup [V.int 0]) hp
      have s3 := same_new (o := .lst [V.int 0]) hq
      refine ⟨f, p, q, n, 1, 1, ms, rfl, hF1.same (s2.trans s3), LotRow.tup (by rw [show lotV 1 = [V.int 0] by decide +kernel]; exact s3 _ _ upd_same), ⟨[0], .inl (SqL.of upd_same), by decide, fun k => by rw [show lotI 1 = [0] by decide +kernel]⟩, by omega, by omega, fun H4 g s4 hG => ?_⟩
      rw [held_none (by decide)] at hG
      obtain ⟨⟨dy, l', d', gs, ls', ms', b1, b2, b3, b4, b5, b6, b7, b8, b9, b10, b11⟩, hms8, _, _⟩ := id hG
      refine ⟨_, rfl, g, dy, gs, rfl, b1, g, n, [], rfl, hG, 0, rfl, by decide, rfl, ?_⟩
      refine ⟨_, rfl, iteT ?_⟩
      have s14 := s2.trans (s3.trans s4)
      refine ⟨_, rfl, f, dx, fs, rfl, s14 _ _ a11', a6 _ (by decide +kernel) (by decide +kernel) (by decide +kernel), small (m := 1) (Nat.zero_le _), fun p5 hp5 => ⟨small (m := 1) (Nat.zero_le _), fun p6 hp6 => ?_⟩⟩
      have s5 := same_new (o := .tup []) hp5
      have s6 := same_new (o := .tup []) hp6
      refine ⟨f, p5, p6, n, 0, 0, ms, rfl, hF1.same (s14.trans (s5.trans s6)), LotRow.tup (by rw [lotV_zero]; exact s6 _ _ upd_same), LotRow.tup (by rw [lotV_zero]; exact upd_same), by omega, by omega, fun H7 g2 s7 hG2 => ?_⟩
      rw [held_zero] at hG2
      have s17 := s14.trans (s5.trans (s6.trans s7))
      obtain ⟨⟨dz, l2, d2, gs2, ls2, ms2, c1', _⟩, _⟩ := id hG2
      have hF7 := hF1.same s17
      refine ⟨_, rfl, g2, dz, gs2, .ref C, rfl, c1', hF7.ty FC.cl FI, not_first, g2, n, ms, .ref f, rfl, hG2, .inl ⟨f, n, ms, rfl, hF7, fun b hb => ?_⟩⟩
      rw [hb.mpr ⟨rfl, List.Perm.refl _⟩]
      exact k _ _ (kp1.trans (kp_same s17)) (hT1.same s17)
end
end Fam

/-! The even lots of 7 places. -/
namespace Fam
open PySem L2 XM
abbrev evL : List Nat := [0, 3, 5, 6, 9, 10, 12, 15, 17, 18, 20, 23, 24, 27, 29, 30, 33, 34, 36, 39, 40, 43, 45, 46, 48, 51, 53, 54, 57, 58, 60, 63, 65, 66, 68, 71, 72, 75, 77, 78, 80, 83, 85, 86, 89, 90, 92, 95, 96, 99, 101, 102, 105, 106, 108, 111, 113, 114, 116, 119, 120, 123, 125, 126]
abbrev evS : List Nat := [3, 15, 63, 95, 111, 23, 119, 39, 71, 27, 123, 43, 75, 51, 83, 99, 5, 29, 125, 45, 77, 53, 85, 101, 9, 57, 89, 105, 17, 113, 33, 65, 6, 30, 126, 46, 78, 54, 86, 102, 10, 58, 90, 106, 18, 114, 34, 66, 12, 60, 92, 108, 20, 116, 36, 68, 24, 120, 40, 72, 48, 80, 96]
theorem ev_eq : ((List.range 128).filter fun m => decide (onesN m 12 % 2 = 0)) = evL := by decide +kernel
theorem ev_masks : Masks 7 evL := ⟨by decide +kernel, by decide +kernel⟩
theorem ev_two : (evL.all fun x => evL.all fun y => evL.elem (x ^^^ y)) = true := by decide +kernel
theorem ev_closed : ClosedX evL := fun x hx y hy z hz => by
  have h : ∀ x ∈ evL, ∀ y ∈ evL, x ^^^ y ∈ evL := fun x hx y hy => List.elem_iff.mp (List.all_eq_true.mp (List.all_eq_true.mp ev_two x hx) y hy)
  exact h _ (h x hx y hy) z hz
theorem ev0_masks : Masks 7 evL.tail := ⟨by decide +kernel, by decide +kernel⟩
theorem ev1_masks : Masks 7 evL.dropLast := ⟨by decide +kernel, by decide +kernel⟩
theorem ev2_masks : Masks 7 (evL ++ [1]) := ⟨by decide +kernel, by decide +kernel⟩
theorem ev0_open : ¬ ClosedX evL.tail := fun h => absurd (h 3 (by decide +kernel) 15 (by decide +kernel) 12 (by decide +kernel)) (by decide +kernel)
theorem ev1_open : ¬ ClosedX evL.dropLast := fun h => absurd (h 0 (by decide +kernel) 6 (by decide +kernel) 120 (by decide +kernel)) (by decide +kernel)
theorem ev2_open : ¬ ClosedX (evL ++ [1]) := fun h => absurd (h 0 (by decide +kernel) 1 (by decide +kernel) 3 (by decide +kernel)) (by decide +kernel)
theorem ev0_cut : cutV (evL.map vInt) (some 1) none = evL.tail.map vInt := by decide +kernel
theorem ev1_cut : cutV (evL.map vInt) none (some (-1)) = evL.dropLast.map vInt := by decide +kernel
theorem evS_perm : evS.Perm evL.tail := by decide +kernel
theorem evS_srt : evS.Pairwise lotLe := by
  have : evS.Pairwise fun a b => HT.lexLt (lotI b) (lotI a) = false := by decide +kernel
  exact this
theorem evS_found : foundL true evL.tail evS = some [3, 15, 12] := by decide +kernel
theorem ev0_found {m0 : List Nat} (p : m0.Perm evL.tail) (s : m0.Pairwise lotLe) : foundL true evL.tail m0 = some [3, 15, 12] := by
  have e : m0 = evS := lots_same (n := 7) (by decide) (fun z hz => ev0_masks.lt z (p.mem_iff.mp hz)) (p.nodup_iff.mpr ev0_masks.nd) (p.trans evS_perm.symm) s evS_srt
  rw [e]
  exact evS_found
theorem found_some {o : Bool} {ms ms0 l : List Nat} (p : ms0.Perm ms) (e : foundL o ms ms0 = some l) : ∃ x y z, l = [x, y, z] ∧ x ∈ ms ∧ y ∈ ms ∧ z ∈ ms ∧ x ^^^ y ^^^ z ∉ ms := by
  have e1 : foundL o ms ms0 = foundL true ms ms0 := rfl
  rw [e1, ← trip_found p] at e
  cases h : ms0.findSome? (tri1 ms ms0) with
  | none => rw [h] at e; cases e
  | some t =>
    rw [h] at e
    obtain ⟨x, hx, ex⟩ := List.exists_of_findSome?_eq_some h
    obtain ⟨y, hy, ey⟩ := List.exists_of_findSome?_eq_some ex
    unfold tri2 at ey
    cases hz : ms0.find? (fun z => !decide (x ^^^ y ^^^ z ∈ ms)) with
    | none => rw [hz] at ey; cases ey
    | some z =>
      rw [hz] at ey
      cases ey
      refine ⟨x, y, z, (Option.some.inj e).symm, p.mem_iff.mp hx, p.mem_iff.mp hy, p.mem_iff.mp (List.mem_of_find?_eq_some hz), ?_⟩
      have := List.find?_some hz
      simpa using this
end Fam

/-! x & y, x | y of two families: made, or refused in a try; the law's word. -/
namespace L2
open PySem PySem.Spec PyProof.Rows
def tBinS (C : Addr) (sp : Sp) (E : L2.St → XK) (ta tb : TE) : TE := fun σ H Q => ta σ H fun x H1 => tb σ H1 fun y H2 => ∃ a dx fs b dy gs, x = V.ref a ∧ y = V.ref b ∧ H2 a = some (.ins C dx fs) ∧ H2 b = some (.ins C dy gs) ∧ sp [x, y] H2 Q (E σ)
theorem pe_binOS {X : Cx} {CX : CXT} {k : Nat} {g C : Addr} {gd : FuncData} {ps : List Str} {sp : Sp} {E : L2.St → XK} {op : Operator} {a b : Expr} {pos : Pos} {ta tb : TE} (first : PySem.W.selfFirst X.K C = true) (at_ : PySem.W.findIn X.K (.ref C) (PySem.dunder op.info.2) = some (some (.ref g))) (fn : PySem.W.isFn X.K (.ref g) = true)
    (F : FnOk X.prog X.w X.K X.mg X.base CX k g gd ps sp) (room : Room k X.A) (bi : Binds X.K gd ps []) (pass : ∀ σ, PassesAt CX X σ (E σ)) (ha : PE X a ta) (hb : PE X b tb) : PE X (.BinOp a op b pos) (tBinS C sp E ta tb) := by
  refine ⟨fun pins s σ H Q I h => ?_⟩
  exact wpAny_BinOp (binT ha hb I h fun v u s2 x y H2 inv rx ry q => by
    obtain ⟨a, dx, fs, b, dy, gs, rfl, rfl, ha, hb, q⟩ := q
    have ev : v = Value.ref a := rx
    have eu : u = Value.ref b := ry
    subst ev eu
    obtain ⟨mA, O, _⟩ := ins_get inv.hok ha
    obtain ⟨mB, O2, _⟩ := ins_get inv.hok hb
    obtain ⟨od, J, _⟩ := O.look
    obtain ⟨od2, J2, _⟩ := O2.look
    obtain ⟨m, fr⟩ := inv.fr
    refine PySem.W.binop_K fr inv.ok.mod.kin J J2.type first at_ fn (wpAny_mono (run_fnS (us := [.ref a, .ref b]) (vs := [.ref a, .ref b]) F room bi (pass σ) inv (.cons rfl (.cons rfl .nil)) q) (fun r t z => ?_) fun _ _ z => z)
    obtain ⟨z', H', I', rz, qz⟩ := z
    exact SlX.cmpback rz ⟨z', H', I', rz, qz⟩)
end L2
namespace Fam
open PySem L2 XM OwnX
open C8 (pss_cut tCut)
theorem dun_and : (PySem.dunder PySem.Operator.BitAnd.info.2) = ("__and__" : PySem.Str) := rfl
theorem dun_or : (PySem.dunder PySem.Operator.BitOr.info.2) = ("__or__" : PySem.Str) := rfl
/-- what two families of unlike sizes give -/
def spWordF (C : Addr) : Sp := fun vs H Q _ => ∃ (d : Int) (f g : Addr) (n n' : Nat) (ms ms' : List Nat), vs = [.int d, .ref f, .ref g] ∧ (d = 0 ∨ d = 1) ∧ FAt C H f n ms ∧ FAt C H g n' ms' ∧ n ≠ n' ∧ ∀ H', Same H H' → Q (.str "size") H'
section
variable {P : Program} {w : World} {K : PySem.W.Frag} {mg : Str → Option Value} {base : Heap} {C B : Addr}
abbrev nWD : List Str := ["_law_door", "_law_family_here", "_law_other", "_law_word_here", "_law_made", "refused"]
theorem scWD : FnScope nWD ["_law_door", "_law_family_here", "_law_other"] (defScope sWord) := ⟨rfl, rfl, rfl, by decide +kernel, rfl, by decide +kernel, by decide +kernel⟩
theorem ok_wordF {f gn go : Addr} {fd gnd god : FuncData} (F : Fun K "_law_word" "_law_word" sWord f fd) (N : BadFacts K mg B) (sf : PySem.W.selfFirst K C = true)
    (AN : DunO K C "__and__" gn) (ok_an : FnOk P w K mg base (L2.CX P w) 6 gn gnd ["self", "other"] (spFAnd B C)) (b_an : Binds K gnd ["self", "other"] [])
    (OR : DunO K C "__or__" go) (ok_or : FnOk P w K mg base (L2.CX P w) 6 go god ["self", "other"] (spFOr B C)) (b_or : Binds K god ["self", "other"] []) :
    FnOk P w K mg base CX0 7 f fd ["_law_door", "_law_family_here", "_law_other"] (spWordF C) := by
  refine F.ok scWD (fun vs H Q E h => ?_) (fun cdv A outer s H vs Q E hr h => ?_)
  · obtain ⟨d, f, g, n, n', ms, ms', rfl, _⟩ := h
    rfl
  · obtain ⟨d, f, g, n, n', ms, ms', rfl, hd, hF, hG, hne, k⟩ := h
    refine ⟨_, pss_cons (ps_set (i := 3) scWD.nd rfl (Or.inl rfl) pe_str)
      (pss_cons (ps_set (i := 4) scWD.nd rfl (Or.inl rfl) pe_non)
      (pss_cons (ps_try_first (i := 5) rfl rfl scWD.nd rfl rfl ⟨rfl, by decide +kernel, .inl N.gB⟩
          (fun W pn xe tk _ => pss_one (ps_if (pt_cmpR op_eq (pv 0) pe_int (nomark _))
            (pss_one (ps_set (i := 4) scWD.nd rfl (Or.inl rfl) (pe_binOS sf (dun_and ▸ AN.at_) AN.fn ok_an hr b_an (fun σ => passAt tk σ) (pv 1) (pv 2))))
            (pss_one (ps_set (i := 4) scWD.nd rfl (Or.inl rfl) (pe_binOS sf (dun_or ▸ OR.at_) OR.fn ok_or hr b_or (fun σ => passAt tk σ) (pv 1) (pv 2))))))
          (fun a oe cls d pn hz hf => pss_one (ps_set (i := 3) scWD.nd rfl (Or.inl rfl) (by exact pe_xf N.xf N.no hz hf (pv 5)))))
      (pss_cons (ps_if (pt_cmpR op_notN (pv 4) pe_non (nomark _)) (pss_one (ps_ret pe_str)) pss_nil)
      (pss_one (ps_ret (pv 3)))))), ?_⟩
    obtain ⟨⟨dx, l, d1, fs, ls, ms0, a1, _⟩, _⟩ := id hF
    obtain ⟨⟨dy, l', d1', gs, ls', ms0', b1, _⟩, _⟩ := id hG
    rcases hd with rfl | rfl
    · refine ⟨_, rfl, rfl, _, rfl, iteT ⟨_, rfl, _, rfl, f, dx, fs, g, dy, gs, rfl, rfl, a1, b1, f, g, n, n', ms, ms', rfl, hF, hG, .inr ⟨hne, fun d H' s hd hd' => ⟨N.te, fun a ha => ?_⟩⟩⟩⟩
      exact ⟨_, rfl, rfl, rfl, d, _, _, rfl, hd', rfl, _, rfl, rfl, _, rfl, iteF ⟨_, rfl, k H' s⟩⟩
    · refine ⟨_, rfl, rfl, _, rfl, iteF ⟨_, rfl, _, rfl, f, dx, fs, g, dy, gs, rfl, rfl, a1, b1, f, g, n, n', ms, ms', rfl, hF, hG, .inr ⟨hne, fun d H' s hd hd' => ⟨N.te, fun a ha => ?_⟩⟩⟩⟩
      exact ⟨_, rfl, rfl, rfl, d, _, _, rfl, hd', rfl, _, rfl, rfl, _, rfl, iteF ⟨_, rfl, k H' s⟩⟩
end
end Fam

/-! The law's joined_ok. -/
namespace Fam
open PySem L2 XM OwnX
open C8 (pss_cut tCut)
theorem wordne {A B : Prop} {s : Str} (h : B) : if (!decide (V.str s = V.str s)) = true then A else B := by
  rw [decide_eq_true rfl]
  exact iteF h
def intsOf (ms : List Nat) : List Int := ms.map fun (m : Nat) => Int.ofNat m
theorem ints_map (ms : List Nat) : (intsOf ms).map V.int = ms.map vInt := by
  unfold intsOf
  rw [List.map_map]
  rfl
theorem ints_nodup {ms : List Nat} (h : ms.Nodup) : (intsOf ms).Nodup := List.pairwise_map.mpr (h.imp fun {a b} q e => q (Int.ofNat.inj e))
theorem ints_mem {ms : List Nat} {m : Nat} : Int.ofNat m ∈ intsOf ms ↔ m ∈ ms := by
  unfold intsOf
  rw [List.mem_map]
  constructor
  · rintro ⟨x, hx, e⟩
    rw [← Int.ofNat.inj e]
    exact hx
  · intro h
    exact ⟨m, h, rfl⟩
theorem sorted_same {a b : List Nat} {na nb : List Int} (ha : a.Nodup) (hb : b.Nodup) (pa : na.Perm (intsOf a)) (pb : nb.Perm (intsOf b)) (sa : na.Pairwise (· ≤ ·)) (sb : nb.Pairwise (· ≤ ·)) : na = nb ↔ a.Perm b := by
  constructor
  · intro e
    subst e
    have p : (intsOf a).Perm (intsOf b) := pa.symm.trans pb
    refine (List.perm_ext_iff_of_nodup ha hb).mpr fun m => ?_
    rw [← ints_mem (ms := a), ← ints_mem (ms := b)]
    exact p.mem_iff
  · intro p
    have nd : nb.Nodup := pb.nodup_iff.mpr (ints_nodup hb)
    have st : nb.Pairwise (· < ·) := (sb.and nd).imp fun {x y} q => by
      have := q.1
      have := q.2
      omega
    exact sorted_asc sa st (pa.trans (List.Perm.trans (p.map Int.ofNat) pb.symm))
theorem eqv_lists (a b : List Int) : PyData.eqv (.list (a.map PyData.int)) (.list (b.map PyData.int)) = decide (a = b) := by
  simp only [PyData.eqv]
  exact eqv_ints a b
theorem union_masks {n : Nat} {a b : List Nat} (ha : Masks n a) (hb : Masks n b) : Masks n (a ++ b.filter fun m => !decide (m ∈ a)) := by
  refine ⟨fun m hm => ?_, List.nodup_append.mpr ⟨ha.nd, hb.nd.filter _, fun x hx y hy e => ?_⟩⟩
  · rcases List.mem_append.mp hm with q | q
    · exact ha.lt m q
    · exact hb.lt m (List.mem_filter.mp q).1
  · subst e
    have := (List.mem_filter.mp hy).2
    rw [decide_eq_true hx] at this
    cases this
def spJoined (C : Addr) : Sp := fun vs H Q _ => ∃ (a : Addr) (c : Nat) (ts : List Int) (f m : Addr) (n : Nat) (ms : List Nat), vs = [.ref a, .ref f, .ref m] ∧ TapeAt H a c ts ∧ FAt C H f n ms ∧ H m = some (.lst (ms.map vInt)) ∧ m ≠ a ∧ n ≤ 9 ∧ ∀ H', Q (.bl true) H'
section
variable {P : Program} {w : World} {K : PySem.W.Frag} {mg : Str → Option Value} {base : Heap} {C : Addr}
abbrev nJO : List Str := ["_law_tape", "_law_family_here", "_law_masks", "_law_size", "_law_more", "_law_other", "_law_both", "_law_either", "_law_wide", "_law_far", "_law_mask_here"]
theorem scJO : FnScope nJO ["_law_tape", "_law_family_here", "_law_masks"] (defScope sJoinedOk) := ⟨rfl, rfl, rfl, by decide +kernel, rfl, by decide +kernel, by decide +kernel⟩
theorem ok_joined {f gi gn go gq gw : Addr} {fd gid gnd god gqd : FuncData} (F : Fun K "_law_joined_ok" "_law_joined_ok" sJoinedOk f fd) (T : Bare mg) (FC : FamC K C) (FI : FamIs K C) (m_F : mg "Family" = some (.ref C))
    (MK_F : Mk K C gi) (ok_F : FnOk P w K mg base CX0 4 gi gid ["self", "size", "lots"] (spInit K C (FAt C))) (b_F : Binds K gid ["self", "size", "lots"] [])
    (sf : PySem.W.selfFirst K C = true) (ni : PySem.W.notFirst K C (.type "int") = true) (nt : PySem.W.notFirst K C (.type "tuple") = true)
    (AN : DunO K C "__and__" gn) (ok_an : FnOk P w K mg base CX0 6 gn gnd ["self", "other"] (fun vs H Q _ => spFAnd gw C vs H Q E0)) (b_an : Binds K gnd ["self", "other"] [])
    (OR : DunO K C "__or__" go) (ok_or : FnOk P w K mg base CX0 6 go god ["self", "other"] (fun vs H Q _ => spFOr gw C vs H Q E0)) (b_or : Binds K god ["self", "other"] [])
    (EQ : DunO K C "__eq__" gq) (ok_eq : FnOk P w K mg base CX0 1 gq gqd ["self", "other"] (spFEq K C)) (b_eq : Binds K gqd ["self", "other"] [])
    (GD : Cal P w K mg base 3 "_law_drawn_masks" ["_law_tape", "_law_size"] spFamily) (GO : Cal P w K mg base 2 "_law_lots_of" ["_law_masks"] (spLotsOf K)) (GW : Cal P w K mg base 7 "_law_word" ["_law_door", "_law_family_here", "_law_other"] (spWordF C)) :
    FnOk P w K mg base CX0 8 f fd ["_law_tape", "_law_family_here", "_law_masks"] (spJoined C) := by
  obtain ⟨_, _, ok_dm, b_dm, k_dm, m_dm⟩ := GD.ex
  obtain ⟨_, _, ok_lo, b_lo, k_lo, m_lo⟩ := GO.ex
  obtain ⟨_, _, ok_w, b_w, k_w, m_w⟩ := GW.ex
  refine F.ok scJO (fun vs H Q E h => ?_) (fun cdv A outer s H vs Q E hr h => ?_)
  · obtain ⟨a, c, ts, f, m, n, ms, rfl, _⟩ := h
    rfl
  · obtain ⟨a, c, ts, f, m, n, ms, rfl, hT, hF, hM, hma, hn9, k⟩ := h
    have hr_w := hr
    have hr_an := hr.mono (j := 6) (by decide)
    have hr_F := hr.mono (j := 5) (by decide)
    have hr_dm := hr.mono (j := 3) (by decide)
    have hr_lo := hr.mono (j := 2) (by decide)
    have hr1 := hr.mono (j := 1) (by decide)
    refine ⟨_, (pss_cons (ps_set (i := 3) scJO.nd rfl (Or.inl rfl) (pe_fld (pv 1) rfl))
      (pss_cons (ps_set (i := 4) scJO.nd rfl (Or.inr rfl) (pe_call ok_dm hr_dm rfl m_dm k_dm b_dm .nil pass0 (pa_cons (pv 0) (pa_cons (pv 3) pa_nil))))
      (pss_cons (ps_set (i := 5) scJO.nd rfl (Or.inl rfl) (pe_make MK_F ok_F hr_F rfl m_F b_F .nil pass0 (pa_cons (pv 3) (pa_cons (pe_call ok_lo hr_lo rfl m_lo k_lo b_lo .nil pass0 (pa_cons (pe_revL (pv 4)) pa_nil)) pa_nil))))
      (pss_cons (ps_set (i := 6) scJO.nd rfl (Or.inl rfl) (pe_op (op_binO sf (dun_and ▸ AN.at_) AN.fn ok_an hr_an b_an pass0) (pv 1) (pv 5)))
      (pss_cons (ps_set (i := 7) scJO.nd rfl (Or.inl rfl) (pe_op (op_binO sf (dun_or ▸ OR.at_) OR.fn ok_or hr_an b_or pass0) (pv 1) (pv 5)))
      (pss_cons (ps_if (PW.pt (pw_or (pt_cmpR op_ne (pe_fld (pv 6) rfl) (pv 3) (nomark _)) (pw_or1 (pt_cmpR (op_neD hr.units) (pe_callTy call_list_of (by rfl) T.list (by decide +kernel) (pa_cons (pe_fld (pv 6) rfl) pa_nil)) (pe_callB (cr_sortedL hr.units) (by rfl) T.sorted (by decide +kernel) (pa_cons (pe_call ok_lo hr_lo rfl m_lo k_lo b_lo .nil pass0 (pa_cons (pe_lc (own := [("_law_mask_here", 10)]) (g := gName 10) rfl scJO.nd (pi_list (pv 2)) (blkOk_by (own := [("_law_mask_here", 10)]) (N := nJO) (sc := defScope sJoinedOk) (by decide +kernel)) (fun _ _ _ _ _ => pg_name (i := 10) scJO.nd rfl (Or.inl rfl)) (fun _ _ _ _ _ => pts_one (pt_cmpR (op_in_seq : OpR _ _ (rIn K false)) (pv 10) (pv 4) (by rfl))) (fun _ _ _ _ _ => pv 10)) pa_nil)) pa_nil)) (nomark _))))) (pss_one (ps_ret pe_bl)) pss_nil)
      (pss_cons (ps_set (i := 8) scJO.nd rfl (Or.inl rfl) (pe_op op_cat (pv 2) (pe_lc (own := [("_law_mask_here", 10)]) (g := gName 10) rfl scJO.nd (pi_list (pv 4)) (blkOk_by (own := [("_law_mask_here", 10)]) (N := nJO) (sc := defScope sJoinedOk) (by decide +kernel)) (fun _ _ _ _ _ => pg_name (i := 10) scJO.nd rfl (Or.inl rfl)) (fun _ _ _ _ _ => pts_one (pt_cmpR (op_notIn_seq : OpR _ _ (rIn K true)) (pv 10) (pv 2) (by rfl))) (fun _ _ _ _ _ => pv 10))))
      (pss_cons (ps_if (PW.pt (pw_or (pt_cmpR op_ne (pe_fld (pv 7) rfl) (pv 3) (nomark _)) (pw_or1 (pt_cmpR (op_neD hr.units) (pe_callTy call_list_of (by rfl) T.list (by decide +kernel) (pa_cons (pe_fld (pv 7) rfl) pa_nil)) (pe_callB (cr_sortedL hr.units) (by rfl) T.sorted (by decide +kernel) (pa_cons (pe_call ok_lo hr_lo rfl m_lo k_lo b_lo .nil pass0 (pa_cons (pv 8) pa_nil)) pa_nil)) (nomark _))))) (pss_one (ps_ret pe_bl)) pss_nil)
      (pss_cons (ps_if (PW.pt (pw_or (pt_cmpR op_ne (pe_cmpR (op_eqO EQ.at_ EQ.fn ok_eq hr1 b_eq pass0) (pv 1) (pv 5) (nomark _)) (pe_cmpR (op_eqD hr.units) (pe_callB cr_sortedI (by rfl) T.sorted (by decide +kernel) (pa_cons (pv 2) pa_nil)) (pe_callB cr_sortedI (by rfl) T.sorted (by decide +kernel) (pa_cons (pv 4) pa_nil)) (nomark _)) (nomark _)) (pw_or1 (pt_not (pt_cmpR (op_eqO EQ.at_ EQ.fn ok_eq hr1 b_eq pass0) (pv 1) (pe_op (op_binO sf (dun_or ▸ OR.at_) OR.fn ok_or hr_an b_or pass0) (pe_op (op_binO sf (dun_and ▸ AN.at_) AN.fn ok_an hr_an b_an pass0) (pv 5) (pv 1)) (pv 1)) (nomark _)))))) (pss_one (ps_ret pe_bl)) pss_nil)
      (pss_cons (ps_set (i := 9) scJO.nd rfl (Or.inl rfl) (pe_make MK_F ok_F hr_F rfl m_F b_F .nil pass0 (pa_cons (pe_op op_add (pv 3) pe_int) (pa_cons (pe_call ok_lo hr_lo rfl m_lo k_lo b_lo .nil pass0 (pa_cons (pv 2) pa_nil)) pa_nil))))
      (pss_cons (ps_if (PW.pt (pw_or (pt_cmpR (op_eqO EQ.at_ EQ.fn ok_eq hr1 b_eq pass0) (pv 1) (pv 9) (nomark _)) (pw_or (pt_cmpR (op_eqO EQ.at_ EQ.fn ok_eq hr1 b_eq pass0) (pv 1) pe_int (nomark _)) (pw_or1 (pt_cmpR (op_eqO EQ.at_ EQ.fn ok_eq hr1 b_eq pass0) (pv 1) (pe_fld (pv 1) rfl) (nomark _)))))) (pss_one (ps_ret pe_bl)) pss_nil)
      (pss_cons (ps_if (PW.pt (pw_or (pt_cmpR op_ne (pe_call ok_w hr_w rfl m_w k_w b_w .nil pass0 (pa_cons pe_int (pa_cons (pv 1) (pa_cons (pv 9) pa_nil)))) pe_str (nomark _)) (pw_or1 (pt_cmpR op_ne (pe_call ok_w hr_w rfl m_w k_w b_w .nil pass0 (pa_cons pe_int (pa_cons (pv 1) (pa_cons (pv 9) pa_nil)))) pe_str (nomark _))))) (pss_one (ps_ret pe_bl)) pss_nil)
      (pss_one (ps_ret (pe_and (pe_cmpR op_eq (pe_call ok_w hr_w rfl m_w k_w b_w .nil pass0 (pa_cons pe_int (pa_cons (pv 9) (pa_cons (pv 1) pa_nil)))) pe_str (nomark _)) (pe_one (pe_cmpR op_eq (pe_call ok_w hr_w rfl m_w k_w b_w .nil pass0 (pa_cons pe_int (pa_cons (pv 9) (pa_cons (pv 1) pa_nil)))) pe_str (nomark _)))))))))))))))))), ?_⟩
    obtain ⟨⟨dx, l, d, fs, ls, ms0, a1, a2, a3, a4, a5, a6, a7, a8, a9, a10, a11⟩, hms, h1, h2⟩ := id hF
    have hfa : f ≠ a := ne_of a1 hT (by intro z; cases z)
    have lmax : ∀ {zs : List Nat}, Masks n zs → zs.length ≤ 1024 := fun {zs} h => Nat.le_trans (nodup_len _ _ h.nd h.lt) (pow_le10 h2)
    refine ⟨_, rfl, f, C, dx, fs, _, rfl, a1, FC.cl, FC.size, a2, ?_⟩
    refine ⟨_, rfl, _, rfl, a, c, ts, n, rfl, hT, h2, fun H1 c1 m2 mk hmk kp1 hT1 hm2 hM2 => ?_⟩
    have hF1 := hF.keep hT kp1
    have hM1 := kp1 _ _ hma hM
    -- the other
    refine ⟨_, rfl, _, rfl, m2, _, rfl, SqL.of hM2, fun p2 hp2 => ?_⟩
    have s2 := same_new (o := .lst (mk.map vInt).reverse) hp2
    refine ⟨p2, mk.reverse, rfl, SqL.of (by rw [upd_same, List.map_reverse]), by rw [List.length_reverse]; have := lmax hmk; omega, fun H3 l3 xs3 s3 hl3 hxs3 hL3 => ?_⟩
    intro x dz hx hdz hne
    have sm3 : Same H3 (upd (upd H3 dz (.own x)) x (.ins C dz [])) := made_new hx hdz
    refine ⟨x, dz, l3, n, xs3, mk.reverse, rfl, upd_same, by rw [upd_ne hne]; exact upd_same, .inl (SqL.of (sm3 _ _ hxs3)), hL3.same sm3, h1, h2, ⟨fun z hz => hmk.lt z (List.mem_reverse.mp hz), (List.reverse_perm mk).nodup_iff.mpr hmk.nd⟩, fun H4 k4 hA4 => ⟨rfl, ?_⟩⟩
    have s14 : Same H1 H4 := s2.trans (s3.trans (made_same hx hdz k4))
    have hG4 := hA4.perm (List.reverse_perm mk)
    have hF4 := hF1.same s14
    obtain ⟨⟨dx1, l1, d1, fs1, ls1, ms1, a1, a2, a3, a4, a5, a6, a7, a8, a9, a10, a11⟩, _⟩ := id hF4
    obtain ⟨⟨dx2, l2, d2, fs2, ls2, ms2, g1, _⟩, _⟩ := id hG4
    -- both, either
    refine ⟨_, rfl, _, rfl, f, dx1, fs1, x, dx2, fs2, rfl, rfl, a1, g1, f, x, n, n, ms, mk, rfl, hF4, hG4, .inl ⟨rfl, fun H5 b s5 hB5 => ?_⟩⟩
    refine ⟨_, rfl, _, rfl, f, dx1, fs1, x, dx2, fs2, rfl, rfl, s5 _ _ a1, s5 _ _ g1, f, x, n, n, ms, mk, rfl, hF4.same s5, hG4.same s5, .inl ⟨rfl, fun H6 e s6 hE6 => ?_⟩⟩
    have s46 := s5.trans s6
    have hB6 := hB5.same s6
    have s16 := s14.trans s46
    have hM6 := s16 _ _ hM1
    have hN6 := s16 _ _ hM2
    obtain ⟨⟨dy, l', d', gs, ls', ms', b1, b2, b3, b4, b5, b6, b7, b8, b9, b10, b11⟩, hmsB, _, _⟩ := id hB6
    refine ⟨_, rfl, b, C, dy, gs, _, rfl, b1, FC.cl, FC.size, b2, _, rfl, rfl, _, rfl, ?_⟩
    rw [decide_eq_true rfl]
    refine iteF ?_
    refine ⟨_, rfl, b, C, dy, gs, _, rfl, b1, FC.cl, FC.lots, b3, l', _, rfl, .inr (SqT.of b7), fun L hL => ?_⟩
    have s7 := same_new (o := .lst ls') hL
    have hM7 := s7 _ _ hM6
    have hN7 := s7 _ _ hN6
    refine ⟨_, rfl, m, rfl, ⟨_, SqL.of hM7⟩, fun D hD => ?_⟩
    refine lc_list (K := K) (a := m) (xs := ms.map vInt) (fun i H' => Same (upd H6 L (.lst ls')) H' ∧ H' D = some (.lst (((ms.take i).filter fun z => decide (z ∈ mk)).map vInt))) ⟨same_new hD, upd_same⟩ (fun i H' _ h => SqL.of (h.1 _ _ hM7)) ?_ ?_
    · rintro i v H8 hv ⟨sm, hR⟩
      obtain ⟨hi, rfl⟩ := item hv
      refine ⟨rfl, _, rfl, _, rfl, m2, _, rfl, .inl (SqL.of (sm _ _ hN7)), rfl, flat_all mk, _, rfl, ?_⟩
      rw [inV_nat]
      refine ite2 (fun z => ?_) (fun z => ?_)
      · refine ⟨_, rfl, _, hR, ?_, same_upd sm hD, ?_⟩
        · rw [List.length_map]
          have h3 := List.length_filter_le (fun z => decide (z ∈ mk)) (ms.take i)
          rw [List.length_take] at h3
          have := lmax hms
          exact below (m := 100000) (by omega)
        · rw [upd_same, take_more hi, List.filter_append, List.filter_cons_of_pos (by exact z), List.map_append]
          rfl
      · refine ⟨sm, ?_⟩
        rw [take_more hi, List.filter_append, List.filter_cons_of_neg (by exact z), List.filter_nil, List.append_nil]
        exact hR
    rintro H8 ⟨s8, hD8⟩
    rw [List.length_map, List.take_length] at hD8
    refine ⟨D, _, rfl, SqL.of hD8, by have := lmax hmsB; omega, fun H9 u xs s9 hu hu' hLx => ⟨u, xs, _, rfl, SqL.of hu', hLx, fun mz ys pz pm srt hz hLz => ?_⟩⟩
    have s10 := same_new (o := .lst ys) hz
    have s6a := s7.trans (s8.trans (s9.trans s10))
    have em : ms' = mz := lots_same h2 (fun z hz => hmsB.lt z (b9.mem_iff.mp hz)) (b9.nodup_iff.mpr hmsB.nd) (b9.trans pm.symm) b10 srt
    subst em
    refine ⟨.list (ms'.map dLot), .list (ms'.map dLot), .lst (SqL.of ((s8.trans (s9.trans s10)) _ _ upd_same)) (dp_lots (b8.same s6a)), .lst (SqL.of upd_same) (dp_lots hLz), shaped_lots _, shaped_lots _, _, rfl, ?_⟩
    rw [eqv_same (shaped_lots _)]
    refine iteF ?_
    obtain ⟨Ha, eHa⟩ : ∃ Ha, Ha = upd H9 pz (.lst ys) := ⟨_, rfl⟩
    rw [← eHa] at s6a ⊢
    have hMa := s6a _ _ hM6
    have hNa := s6a _ _ hN6
    -- wide
    refine ⟨_, rfl, _, rfl, m2, rfl, ⟨_, SqL.of hNa⟩, fun D2 hD2 => ?_⟩
    refine lc_list (K := K) (a := m2) (xs := mk.map vInt) (fun i H' => Same Ha H' ∧ H' D2 = some (.lst (((mk.take i).filter fun z => !decide (z ∈ ms)).map vInt))) ⟨same_new hD2, upd_same⟩ (fun i H' _ h => SqL.of (h.1 _ _ hNa)) ?_ ?_
    · rintro i v H8 hv ⟨sm, hR⟩
      obtain ⟨hi, rfl⟩ := item hv
      refine ⟨rfl, _, rfl, _, rfl, m, _, rfl, .inl (SqL.of (sm _ _ hMa)), rfl, flat_all ms, !decide (mk[i] ∈ ms), congrArg (fun z => V.bl (!z)) (inV_nat _ _), ?_⟩
      refine ite2 (fun z => ?_) (fun z => ?_)
      · refine ⟨_, rfl, _, hR, ?_, same_upd sm hD2, ?_⟩
        · rw [List.length_map]
          have h3 := List.length_filter_le (fun z => !decide (z ∈ ms)) (mk.take i)
          rw [List.length_take] at h3
          have := lmax hmk
          exact below (m := 100000) (by omega)
        · rw [upd_same, take_more hi, List.filter_append, List.filter_cons_of_pos (by exact z), List.map_append]
          rfl
      · refine ⟨sm, ?_⟩
        rw [take_more hi, List.filter_append, List.filter_cons_of_neg (by exact z), List.filter_nil, List.append_nil]
        exact hR
    rintro Hb ⟨sb, hDb⟩
    rw [List.length_map, List.take_length] at hDb
    have hU := union_masks hms hmk
    have e0 : ms.map vInt ++ (mk.filter fun z => !decide (z ∈ ms)).map vInt = (ms ++ mk.filter fun z => !decide (z ∈ ms)).map vInt := by rw [List.map_append]
    refine ⟨m, D2, _, _, rfl, rfl, sb _ _ hMa, hDb, ?_, fun p9 hp9 => ?_⟩
    · rw [← List.length_append, e0, List.length_map]
      exact small (m := 1024) (lmax hU)
    rw [e0]
    have sc := same_new (o := .lst ((ms ++ mk.filter fun z => !decide (z ∈ ms)).map vInt)) hp9
    have s6c := s6a.trans (sb.trans sc)
    have hE9 := hE6.same s6c
    obtain ⟨⟨dy3, l3', d3', gs3, ls3, ms3, c1', c2', c3', c4', c5', c6', c7', c8', c9', c10', c11'⟩, hmsE, _, _⟩ := id hE9
    refine ⟨_, rfl, e, C, dy3, gs3, _, rfl, c1', FC.cl, FC.size, c2', _, rfl, rfl, _, rfl, ?_⟩
    rw [decide_eq_true rfl]
    refine iteF ?_
    refine ⟨_, rfl, e, C, dy3, gs3, _, rfl, c1', FC.cl, FC.lots, c3', l3', _, rfl, .inr (SqT.of c7'), fun L2 hL2 => ?_⟩
    have sd := same_new (o := .lst ls3) hL2
    refine ⟨_, rfl, p9, _, rfl, SqL.of (sd _ _ upd_same), by have := lmax hU; omega, fun He u2 xs2 se hu2 hu2' hLx2 => ⟨u2, xs2, _, rfl, SqL.of hu2', hLx2, fun mz2 ys2 pz2 pm2 srt2 hz2 hLz2 => ?_⟩⟩
    have sf2 := same_new (o := .lst ys2) hz2
    have em2 : ms3 = mz2 := lots_same h2 (fun z hz => hmsE.lt z (c9'.mem_iff.mp hz)) (c9'.nodup_iff.mpr hmsE.nd) (c9'.trans pm2.symm) c10' srt2
    subst em2
    refine ⟨.list (ms3.map dLot), .list (ms3.map dLot), .lst (SqL.of ((se.trans sf2) _ _ upd_same)) (dp_lots (c8'.same (sd.trans (se.trans sf2)))), .lst (SqL.of upd_same) (dp_lots hLz2), shaped_lots _, shaped_lots _, _, rfl, ?_⟩
    rw [eqv_same (shaped_lots _)]
    refine iteF ?_
    have s6g := s6c.trans (sd.trans (se.trans sf2))
    obtain ⟨Hg, eHg⟩ : ∃ Hg, Hg = upd He pz2 (.lst ys2) := ⟨_, rfl⟩
    rw [← eHg] at s6g ⊢
    -- equal
    have s1g := s16.trans s6g
    have hFg := hF1.same s1g
    have hGg := hG4.same (s46.trans s6g)
    have hMg := s1g _ _ hM1
    have hNg := s1g _ _ hM2
    have a1g := (s46.trans s6g) _ _ a1
    have g1g := (s46.trans s6g) _ _ g1
    refine ⟨_, rfl, _, rfl, f, dx1, fs1, .ref C, rfl, a1g, hGg.ty FC.cl FI, not_first, f, n, ms, .ref x, rfl, hFg, .inl ⟨x, n, mk, rfl, hGg, fun q hq => ?_⟩⟩
    refine ⟨_, rfl, m, intsOf ms, rfl, SqL.of (by rw [ints_map]; exact hMg), fun na pa hpa hsa hna => ?_⟩
    have sh := same_new (o := .lst (na.map V.int)) hna
    refine ⟨_, rfl, m2, intsOf mk, rfl, SqL.of (by rw [ints_map]; exact sh _ _ hNg), fun nb pb hpb hsb hnb => ?_⟩
    have si := same_new (o := .lst (nb.map V.int)) hnb
    refine ⟨.list (na.map PyData.int), .list (nb.map PyData.int), .lst (SqL.of (si _ _ upd_same)) (dp_ints _), .lst (SqL.of upd_same) (dp_ints _), shaped_ints _, shaped_ints _, rfl, _, rfl, ?_⟩
    have eq1 : q = decide (na = nb) := by
      rw [Bool.eq_iff_iff, hq, decide_eq_true_eq, sorted_same hms.nd hmk.nd hpa hpb hsa hsb]
      exact ⟨fun z => z.2, fun z => ⟨rfl, z⟩⟩
    rw [eqv_lists, ← eq1, decide_eq_true rfl]
    refine iteF ?_
    have s_gi := sh.trans si
    obtain ⟨Hi, eHi⟩ : ∃ Hi, Hi = upd (upd Hg pa (.lst (na.map V.int))) pb (.lst (nb.map V.int)) := ⟨_, rfl⟩
    rw [← eHi] at s_gi ⊢
    have hFi := hFg.same s_gi
    have hGi := hGg.same s_gi
    have a1i := s_gi _ _ a1g
    have g1i := s_gi _ _ g1g
    refine ⟨_, rfl, _, rfl, _, rfl, x, dx2, fs2, f, dx1, fs1, rfl, rfl, g1i, a1i, x, f, n, n, mk, ms, rfl, hGi, hFi, .inl ⟨rfl, fun Hj z sj hZj => ?_⟩⟩
    obtain ⟨⟨dw, _, _, hs, _, _, z1, _⟩, _⟩ := id hZj
    refine ⟨_, rfl, z, dw, hs, f, dx1, fs1, rfl, rfl, z1, sj _ _ a1i, z, f, n, n, _, ms, rfl, hZj, hFi.same sj, .inl ⟨rfl, fun Hk y sk hYk => ?_⟩⟩
    have sik := sj.trans sk
    have hFk := hFi.same sik
    refine ⟨f, dx1, fs1, .ref C, rfl, sik _ _ a1i, hYk.ty FC.cl FI, not_first, f, n, ms, .ref y, rfl, hFk, .inl ⟨y, n, _, rfl, hYk, fun q2 hq2 => ?_⟩⟩
    have e2 : q2 = true := hq2.mpr ⟨rfl, (List.perm_ext_iff_of_nodup hms.nd hYk.ms.nd).mpr fun z => by
      rw [List.mem_append, List.mem_filter, List.mem_filter, decide_eq_true_eq]
      constructor
      · intro h
        by_cases q : z ∈ mk
        · exact .inl ⟨q, h⟩
        · refine .inr ⟨h, ?_⟩
          rw [decide_eq_false fun w => q (List.mem_filter.mp w).1]
          rfl
      · rintro (h | h)
        · exact h.2
        · exact h.1⟩
    subst e2
    refine ⟨_, rfl, iteF ?_⟩
    -- far
    have s1k := s1g.trans (s_gi.trans sik)
    have hMk := s1k _ _ hM1
    have a1k := sik _ _ a1i
    refine ⟨_, rfl, _, _, rfl, rfl, _, rfl, m, ms, rfl, SqL.of hMk, by have := lmax hms; omega, fun Hl l5 xs5 s5' hl5 hxs5 hL5 => ?_⟩
    intro y2 dy2 hy2 hdy2 hne2
    have sm5 : Same Hl (upd (upd Hl dy2 (.own y2)) y2 (.ins C dy2 [])) := made_new hy2 hdy2
    refine ⟨y2, dy2, l5, n + 1, xs5, ms, rfl, upd_same, by rw [upd_ne hne2]; exact upd_same, .inl (SqL.of (sm5 _ _ hxs5)), hL5.same sm5, by omega, by omega, ⟨fun z hz => Nat.lt_of_lt_of_le (hms.lt z hz) (Nat.pow_le_pow_right (by decide) (by omega)), hms.nd⟩, fun Hm km hAm => ⟨rfl, ?_⟩⟩
    have skm : Same Hk Hm := s5'.trans (made_same hy2 hdy2 km)
    have hFm := hFk.same skm
    have a1m := skm _ _ a1k
    obtain ⟨⟨dq, _, _, _, _, _, w1, _⟩, _⟩ := id hAm
    refine ⟨_, rfl, _, rfl, f, dx1, fs1, .ref C, rfl, a1m, hAm.ty FC.cl FI, not_first, f, n, ms, .ref y2, rfl, hFm, .inl ⟨y2, n + 1, ms, rfl, hAm, fun q3 hq3 => ?_⟩⟩
    have e3 : q3 = false := by
      cases q3 with
      | false => rfl
      | true => exact absurd (hq3.mp rfl).1 (by omega)
    subst e3
    refine ⟨_, rfl, iteF ⟨_, rfl, f, dx1, fs1, .type "int", rfl, a1m, .base (.int 3), ni, f, n, ms, .int 3, rfl, hFm, .inr (.inl ⟨⟨3, rfl⟩, _, rfl, iteF ?_⟩)⟩⟩
    have a7m := (s46.trans (s6g.trans (s_gi.trans (sik.trans skm)))) _ _ a7
    refine ⟨_, rfl, _, rfl, f, C, dx1, fs1, _, rfl, a1m, FC.cl, FC.lots, a3, f, dx1, fs1, .type "tuple", rfl, a1m, .base (.tup a7m), nt, f, n, ms, .ref l1, rfl, hFm, .inr (.inr ⟨⟨l1, _, rfl, a7m⟩, _, rfl, iteF ?_⟩)⟩
    -- refused
    refine ⟨_, rfl, _, rfl, 0, f, y2, n, n + 1, ms, ms, rfl, .inl rfl, hFm, hAm, by omega, fun Hn sn => ⟨rfl, _, rfl, wordne ?_⟩⟩
    refine ⟨_, rfl, _, rfl, 1, f, y2, n, n + 1, ms, ms, rfl, .inr rfl, hFm.same sn, hAm.same sn, by omega, fun Ho so => ⟨rfl, _, rfl, wordne ?_⟩⟩
    have smo := sn.trans so
    refine ⟨_, rfl, _, rfl, 0, y2, f, n + 1, n, ms, ms, rfl, .inl rfl, hAm.same smo, hFm.same smo, by omega, fun Hp sp => ⟨rfl, true, rfl, iteT ?_⟩⟩
    exact ⟨_, rfl, _, rfl, 1, y2, f, n + 1, n, ms, ms, rfl, .inr rfl, hAm.same (smo.trans sp), hFm.same (smo.trans sp), by omega, fun Hq sq => ⟨rfl, k _⟩⟩
end
end Fam

/-! The law's large_ok. -/
namespace Fam
open PySem L2 XM OwnX
open C8 (pss_cut tCut)
def spLargeOk : Sp := fun vs H Q _ => ∃ (a : Addr) (c : Nat) (ts : List Int), vs = [.ref a] ∧ TapeAt H a c ts ∧ ∀ (H' : Hp) (c' : Nat), Kp a H H' → TapeAt H' a c' ts → Q (.bl true) H'
def DueAt (H : Hp) (cs : List Nat) (vd : V) : Prop := vd = .non ∨ (cs = evL.tail ∧ ∃ (t : Addr) (ps : List V), vd = .ref t ∧ H t = some (.tup ps) ∧ LotsAt H ps [3, 15, 12])
theorem DueAt.same {H H' : Hp} {cs : List Nat} {vd : V} (h : DueAt H cs vd) (s : Same H H') : DueAt H' cs vd := by
  rcases h with h | ⟨e, t, ps, e2, h1, h2⟩
  · exact .inl h
  · exact .inr ⟨e, t, ps, e2, s _ _ h1, h2.same s⟩
/-- what was changed of the even lots -/
structure Chg (H : Hp) (ch : Addr) (cs : List Nat) (vd : V) : Prop where
  at_ : H ch = some (.lst (cs.map vInt))
  ms : Masks 7 cs
  len : cs.length ≤ 65
  op : ¬ ClosedX cs
  due : DueAt H cs vd
theorem ev_take (i : Nat) (h : i < 128) : ((List.range (i + 1)).filter fun m => decide (onesN m 12 % 2 = 0)) = ((List.range i).filter fun m => decide (onesN m 12 % 2 = 0)) ++ (if onesN i 12 % 2 = 0 then [i] else []) := by
  rw [List.range_succ, List.filter_append]
  refine congrArg _ ?_
  by_cases e : onesN i 12 % 2 = 0
  · rw [if_pos e, List.filter_cons_of_pos (by exact decide_eq_true e)]
    rfl
  · rw [if_neg e, List.filter_cons_of_neg (by exact fun z => e (of_decide_eq_true z))]
    rfl
section
variable {P : Program} {w : World} {K : PySem.W.Frag} {mg : Str → Option Value} {base : Heap} {C : Addr}
abbrev nLA : List Str := ["_law_tape", "_law_masks", "_law_family_here", "_law_word_here", "_law_changed", "_law_due", "_law_other", "_law_told", "_law_made", "_law_mask_here", "_law_lot_here"]
theorem scLA : FnScope nLA ["_law_tape"] (defScope sLargeOk) := ⟨rfl, rfl, rfl, by decide +kernel, rfl, by decide +kernel, by decide +kernel⟩
theorem ok_large_ok {f gi : Addr} {fd gid : FuncData} (F : Fun K "_law_large_ok" "_law_large_ok" sLargeOk f fd) (T : Bare mg) (FC : FamC K C) (m_F : mg "Family" = some (.ref C))
    (MK_F : Mk K C gi) (ok_F : FnOk P w K mg base CX0 4 gi gid ["self", "size", "lots"] (spInit K C (FAt C))) (b_F : Binds K gid ["self", "size", "lots"] [])
    (GB : Cal P w K mg base 5 "broken" ["family", "word"] (spBrokenT C)) (GH : Cal P w K mg base 1 "holds_against" ["family"] (spHolds C)) (GN : Cal P w K mg base 1 "_law_ones" ["_law_mask_here"] spOnes) (GT : Cal P w K mg base 1 "_law_take" ["_law_tape", "_law_many"] spDraw) (GO : Cal P w K mg base 2 "_law_lots_of" ["_law_masks"] (spLotsOf K))
    (GM : Cal P w K mg base 2 "_law_mask" ["_law_lot_here"] (spMaskR K)) (GA : Cal P w K mg base 7 "_law_against_ok" ["_law_family_here", "_law_masks", "_law_closed"] (spAgainst K C)) (GS : Cal P w K mg base 7 "_law_asked_ok" ["_law_tape", "_law_family_here", "_law_masks", "_law_closed"] (spAsked C)) :
    FnOk P w K mg base CX0 8 f fd ["_law_tape"] spLargeOk := by
  obtain ⟨_, _, ok_br, b_br, k_br, m_br⟩ := GB.ex
  obtain ⟨_, _, ok_ha, b_ha, k_ha, m_ha⟩ := GH.ex
  obtain ⟨_, _, ok_on, b_on, k_on, m_on⟩ := GN.ex
  obtain ⟨_, _, ok_t, b_t, k_t, m_t⟩ := GT.ex
  obtain ⟨_, _, ok_lo, b_lo, k_lo, m_lo⟩ := GO.ex
  obtain ⟨_, _, ok_m, b_m, k_m, m_m⟩ := GM.ex
  obtain ⟨_, _, ok_ag, b_ag, k_ag, m_ag⟩ := GA.ex
  obtain ⟨_, _, ok_as, b_as, k_as, m_as⟩ := GS.ex
  refine F.ok scLA (fun vs H Q E h => ?_) (fun cdv A outer s H vs Q E hr h => ?_)
  · obtain ⟨a, c, ts, rfl, _⟩ := h
    rfl
  · obtain ⟨a, c, ts, rfl, hT, k⟩ := h
    have hr_ag := hr
    have hr_as := hr
    have hr_br := hr.mono (j := 5) (by decide)
    have hr_F := hr.mono (j := 5) (by decide)
    have hr_lo := hr.mono (j := 2) (by decide)
    have hr_m := hr_lo
    have hr_ha := hr.mono (j := 1) (by decide)
    have hr_on := hr_ha
    have hr_t := hr_ha
    refine ⟨_, (pss_cons (ps_setLc (i := 1) (own := [("_law_mask_here", 9)]) (g := gName 9) (by rfl) scLA.nd rfl rfl (sw_true rfl rfl rfl (by decide +kernel)) (pi_range1 rfl T.range (pa_cons pe_int pa_nil)) (blkOk_by (own := [("_law_mask_here", 9)]) (N := nLA) (sc := defScope sLargeOk) (by decide +kernel)) (fun _ _ _ _ _ => pg_name (i := 9) scLA.nd rfl (Or.inl rfl)) (fun _ _ _ _ _ => pts_one (pt_cmpR op_eq (pe_op op_modN (pe_callTy call_int1 (by rfl) T.int (by decide +kernel) (pa_cons (pe_call ok_on hr_on rfl m_on k_on b_on .nil pass0 (pa_cons (pv 9) pa_nil)) pa_nil)) pe_int) pe_int (nomark _))) (fun _ _ _ _ _ => pv 9))
      (pss_cons (ps_set (i := 2) scLA.nd rfl (Or.inl rfl) (pe_make MK_F ok_F hr_F rfl m_F b_F .nil pass0 (pa_cons pe_int (pa_cons (pe_call ok_lo hr_lo rfl m_lo k_lo b_lo .nil pass0 (pa_cons (pv 1) pa_nil)) pa_nil))))
      (pss_cons (ps_if (PW.pt (pw_or (pt_cmpR op_notN (pe_call ok_br hr_br rfl m_br k_br b_br .nil pass0 (pa_cons (pv 2) (pa_cons pe_str pa_nil))) pe_non (nomark _)) (pw_or1 (pt_cmpR op_notN (pe_call ok_ha hr_ha rfl m_ha k_ha b_ha .nil pass0 (pa_cons (pv 2) pa_nil)) pe_non (nomark _))))) (pss_one (ps_ret pe_bl)) pss_nil)
      (pss_cons (ps_set (i := 3) scLA.nd rfl (Or.inl rfl) (pe_call ok_t hr_t rfl m_t k_t b_t .nil pass0 (pa_cons (pv 0) (pa_cons pe_int pa_nil))))
      (pss_cons (ps_set (i := 4) scLA.nd rfl (Or.inr rfl) (pe_slice sl_list (pv 1) (po_some pe_int) po_none))
      (pss_cons (ps_set (i := 5) scLA.nd rfl (Or.inl rfl) (pe_tup (pa_cons (pe_tup (pa_cons pe_int (pa_cons pe_int pa_nil))) (pa_cons (pe_tup (pa_cons pe_int (pa_cons pe_int (pa_cons pe_int (pa_cons pe_int pa_nil))))) (pa_cons (pe_tup (pa_cons pe_int (pa_cons pe_int pa_nil))) pa_nil)))))
      (pss_cut (ps_if (pt_cmpR op_eq (pv 3) pe_int (nomark _)) (pss_cons (ps_set (i := 4) scLA.nd rfl (Or.inr rfl) (pe_slice sl_list (pv 1) po_none (po_some (pe_un un_neg pe_int))))
          (pss_one (ps_set (i := 5) scLA.nd rfl (Or.inl rfl) pe_non))) pss_nil)
      (pss_cut (ps_if (pt_cmpR op_eq (pv 3) pe_int (nomark _)) (pss_cons (ps_set (i := 4) scLA.nd rfl (Or.inr rfl) (pe_op op_cat (pv 1) (pe_lst (pa_cons pe_int pa_nil))))
          (pss_one (ps_set (i := 5) scLA.nd rfl (Or.inl rfl) pe_non))) pss_nil)
      (pss_cons (ps_set (i := 6) scLA.nd rfl (Or.inl rfl) (pe_make MK_F ok_F hr_F rfl m_F b_F .nil pass0 (pa_cons pe_int (pa_cons (pe_call ok_lo hr_lo rfl m_lo k_lo b_lo .nil pass0 (pa_cons (pe_revL (pv 4)) pa_nil)) pa_nil))))
      (pss_cons (ps_set (i := 7) scLA.nd rfl (Or.inl rfl) (pe_call ok_br hr_br rfl m_br k_br b_br .nil pass0 (pa_cons (pv 6) (pa_cons pe_str pa_nil))))
      (pss_cut (ps_if (PW.pt (pw_or (pt_cmpR op_isN (pv 7) pe_non (nomark _)) (pw_or1 (PW.pt (pw_and (pt_cmpR op_notN (pv 5) pe_non (nomark _)) (pw_and1 (pt_cmpR (op_neD hr.units) (pv 7) (pv 5) (nomark _)))))))) (pss_one (ps_ret pe_bl)) pss_nil)
      (pss_cons (ps_set (i := 8) scLA.nd rfl (Or.inl rfl) (pe_op op_xor (pe_op op_xor (pe_call ok_m hr_m rfl m_m k_m b_m .nil pass0 (pa_cons (pe_ix ix_tup (pv 7) pe_int (fun _ _ => rfl)) pa_nil)) (pe_call ok_m hr_m rfl m_m k_m b_m .nil pass0 (pa_cons (pe_ix ix_tup (pv 7) pe_int (fun _ _ => rfl)) pa_nil))) (pe_call ok_m hr_m rfl m_m k_m b_m .nil pass0 (pa_cons (pe_ix ix_tup (pv 7) pe_int (fun _ _ => rfl)) pa_nil))))
      (pss_cons (ps_if (PW.pt (pw_or (pt_cmpR (op_in_seq : OpR _ _ (rIn K false)) (pv 8) (pv 4) (by rfl)) (pw_or1 (pt_cmpR op_gt (pe_callB call_len_seq (by rfl) T.len PySem.boot_len (pa_cons (pe_lc (own := [("_law_lot_here", 10)]) (g := gName 10) rfl scLA.nd (pi_tup (pv 7)) (blkOk_by (own := [("_law_lot_here", 10)]) (N := nLA) (sc := defScope sLargeOk) (by decide +kernel)) (fun _ _ _ _ _ => pg_name (i := 10) scLA.nd rfl (Or.inl rfl)) (fun _ _ _ _ _ => pts_one (pt_cmpR (op_notIn_seq : OpR _ _ (rIn K true)) (pe_call ok_m hr_m rfl m_m k_m b_m .nil pass0 (pa_cons (pv 10) pa_nil)) (pv 4) (by rfl))) (fun _ _ _ _ _ => pv 10)) pa_nil)) pe_int (nomark _))))) (pss_one (ps_ret pe_bl)) pss_nil)
      (pss_one (ps_ret (pe_and (pe_call ok_ag hr_ag rfl m_ag k_ag b_ag .nil pass0 (pa_cons (pv 6) (pa_cons (pv 4) (pa_cons pe_bl pa_nil)))) (pe_one (pe_call ok_as hr_as rfl m_as k_as b_as .nil pass0 (pa_cons (pv 0) (pa_cons (pv 6) (pa_cons (pv 4) (pa_cons pe_bl pa_nil)))))))))))))))))))))), ?_⟩
    -- masks
    refine ⟨128, rfl, by decide, by decide, fun D hD => ?_⟩
    refine lc_range (lo := 0) (n := 128) (fun i H' => Same H H' ∧ H' D = some (.lst (((List.range i).filter fun m => decide (onesN m 12 % 2 = 0)).map vInt))) ⟨same_new hD, upd_same⟩ ?_ ?_
    · rintro i H1 hi ⟨sm, hR⟩
      rw [Int.zero_add]
      refine ⟨rfl, _, rfl, i, rfl, .inl ⟨_, rfl, _, _, rfl, rfl, (by show (2 : Int) ≠ 0; decide), rfl, _, rfl, ?_⟩⟩
      have ed : decide (V.int (((onesN i 12 : Nat) : Int).fmod 2) = V.int 0) = decide (onesN i 12 % 2 = 0) := by
        rw [fmod2]
        exact dec_nat (onesN i 12 % 2) 0
      rw [ed]
      refine ite2 (fun z => ?_) (fun z => ?_)
      · refine ⟨_, rfl, _, hR, ?_, same_upd sm hD, ?_⟩
        · rw [List.length_map]
          have h3 := List.length_filter_le (fun m => decide (onesN m 12 % 2 = 0)) (List.range i)
          rw [List.length_range] at h3
          exact below (m := 100000) (by omega)
        · rw [upd_same, ev_take i hi, if_pos (of_decide_eq_true z), List.map_append]
          rfl
      · refine ⟨sm, ?_⟩
        rw [ev_take i hi, if_neg fun e => z (decide_eq_true e), List.append_nil]
        exact hR
    rintro H1 ⟨s1, hM1⟩
    rw [ev_eq] at hM1
    -- the family
    refine ⟨_, rfl, D, evL, rfl, SqL.of hM1, by decide, fun H2 l2 xs2 s2 hl2 hxs2 hL2 => ?_⟩
    intro y dy hy hdy hne
    have sm2 : Same H2 (upd (upd H2 dy (.own y)) y (.ins C dy [])) := made_new hy hdy
    refine ⟨y, dy, l2, 7, xs2, evL, rfl, upd_same, by rw [upd_ne hne]; exact upd_same, .inl (SqL.of (sm2 _ _ hxs2)), hL2.same sm2, by decide, by decide, ev_masks, fun H3 k3 hA3 => ⟨rfl, ?_⟩⟩
    have s13 : Same H1 H3 := s2.trans (made_same hy hdy k3)
    refine ⟨_, rfl, y, 7, evL, true, rfl, hA3, fun H4 m4 v4 pm4 srt4 s4 t4 => ⟨rfl, _, rfl, ?_⟩⟩
    rw [(told_non t4).mpr ((found_none pm4).mpr ev_closed)]
    refine iteF ⟨_, rfl, y, 7, evL, rfl, hA3.same s4, fun H5 s5 => ⟨fun good => ⟨rfl, _, rfl, ?_⟩, fun t p q x z _ _ _ hx hz hxz bad => absurd ((all_good ev_masks).mpr ev_closed x z hx hz hxz) bad⟩⟩
    refine iteF ?_
    have s15 := s13.trans (s4.trans s5)
    have s05 := s1.trans s15
    have hM5 := s15 _ _ hM1
    have hT5 := hT.same s05
    have hDa : D ≠ a := tape_ne hT hD
    -- word
    refine ⟨_, rfl, a, c, ts, 3, rfl, hT5, by decide, fun H6 c6 r hr3 h6 hT6 => ?_⟩
    have hM6 : H6 D = some (.lst (evL.map vInt)) := by rw [h6 D hDa]; exact hM5
    refine ⟨_, rfl, _, rfl, D, _, rfl, SqL.of hM6, fun p7 hp7 => ?_⟩
    rw [ev0_cut]
    have s7 := same_new (o := .lst (evL.tail.map vInt)) hp7
    refine ⟨small (m := 2) (Nat.le_refl _), fun q1 hq1 => ⟨small (m := 4) (Nat.le_refl _), fun q2 hq2 => ⟨small (m := 2) (Nat.le_refl _), fun q3 hq3 => ⟨small (m := 3) (Nat.le_refl _), fun q4 hq4 => ?_⟩⟩⟩⟩
    have e1 := same_new (o := .tup [V.int 0, V.int 1]) hq1
    have e2 := same_new (o := .tup [V.int 0, V.int 1, V.int 2, V.int 3]) hq2
    have e3 := same_new (o := .tup [V.int 2, V.int 3]) hq3
    have e4 := same_new (o := .tup [V.ref q1, V.ref q2, V.ref q3]) hq4
    have e14 := e1.trans (e2.trans (e3.trans e4))
    have s6a := s7.trans e14
    have p7a := tape_ne hT6 hp7
    have hq4' : upd (upd (upd (upd (upd H6 p7 (.lst (evL.tail.map vInt))) q1 (.tup [V.int 0, V.int 1])) q2 (.tup [V.int 0, V.int 1, V.int 2, V.int 3])) q3 (.tup [V.int 2, V.int 3])) q4 (.tup [V.ref q1, V.ref q2, V.ref q3]) q4 = some (.tup [V.ref q1, V.ref q2, V.ref q3]) := upd_same
    have hq1' := (e2.trans (e3.trans e4)) _ _ (upd_same (H := upd H6 p7 (.lst (evL.tail.map vInt))) (a := q1) (o := .tup [V.int 0, V.int 1]))
    have hq2' := (e3.trans e4) _ _ (upd_same (H := upd (upd H6 p7 (.lst (evL.tail.map vInt))) q1 (.tup [V.int 0, V.int 1])) (a := q2) (o := .tup [V.int 0, V.int 1, V.int 2, V.int 3]))
    have hq3' := e4 _ _ (upd_same (H := upd (upd (upd H6 p7 (.lst (evL.tail.map vInt))) q1 (.tup [V.int 0, V.int 1])) q2 (.tup [V.int 0, V.int 1, V.int 2, V.int 3])) (a := q3) (o := .tup [V.int 2, V.int 3]))
    have hp7' := e14 _ _ (upd_same (H := H6) (a := p7) (o := .lst (evL.tail.map vInt)))
    obtain ⟨Ha, eHa⟩ : ∃ Ha, Ha = upd (upd (upd (upd (upd H6 p7 (.lst (evL.tail.map vInt))) q1 (.tup [V.int 0, V.int 1])) q2 (.tup [V.int 0, V.int 1, V.int 2, V.int 3])) q3 (.tup [V.int 2, V.int 3])) q4 (.tup [V.ref q1, V.ref q2, V.ref q3]) := ⟨_, rfl⟩
    rw [← eHa] at s6a hq4' hq1' hq2' hq3' hp7' ⊢
    have hMa := s6a _ _ hM6
    have hTa := hT6.same s6a
    have chg0 : Chg Ha p7 evL.tail (.ref q4) := ⟨hp7', ev0_masks, by decide, ev0_open, .inr ⟨rfl, q4, _, rfl, hq4', ⟨q1, rfl, by rw [show lotV 3 = [V.int 0, V.int 1] by decide +kernel]; exact hq1'⟩, ⟨q2, rfl, by rw [show lotV 15 = [V.int 0, V.int 1, V.int 2, V.int 3] by decide +kernel]; exact hq2'⟩, ⟨q3, rfl, by rw [show lotV 12 = [V.int 2, V.int 3] by decide +kernel]; exact hq3'⟩, trivial⟩⟩
    -- the last one out
    refine ⟨fun σ' H' => ∃ ch cs vd, σ' = [some (.ref a), some (.ref D), some (.ref y), some (vInt r), some (.ref ch), some vd, none, none, none, none, none] ∧ ch ≠ a ∧ Chg H' ch cs vd ∧ Same Ha H', ?_, ?_⟩
    · refine ⟨_, rfl, rfl, _, rfl, ite2 (fun _ => ?_) (fun _ => ⟨p7, _, _, rfl, p7a, chg0, Same.refl _⟩)⟩
      refine ⟨_, rfl, _, rfl, _, rfl, D, _, rfl, SqL.of hMa, fun p8 hp8 => ?_⟩
      rw [ev1_cut]
      exact ⟨p8, _, _, rfl, tape_ne hTa hp8, ⟨upd_same, ev1_masks, by decide, ev1_open, .inl rfl⟩, same_new hp8⟩
    rintro _ Hb ⟨ch, cs, vd, rfl, hcha, hC, sb⟩
    have hMb := sb _ _ hMa
    have hTb := hTa.same sb
    -- one put in
    refine ⟨fun σ' H' => ∃ ch cs vd, σ' = [some (.ref a), some (.ref D), some (.ref y), some (vInt r), some (.ref ch), some vd, none, none, none, none, none] ∧ ch ≠ a ∧ Chg H' ch cs vd ∧ Same Hb H', ?_, ?_⟩
    · refine ⟨_, rfl, rfl, _, rfl, ite2 (fun _ => ?_) (fun _ => ⟨ch, _, _, rfl, hcha, hC, Same.refl _⟩)⟩
      refine ⟨_, rfl, small (m := 1) (Nat.le_refl _), fun p8 hp8 => ?_⟩
      have s8 := same_new (o := .lst [V.int 1]) hp8
      refine ⟨D, p8, _, _, rfl, rfl, s8 _ _ hMb, upd_same, small (m := 65) (Nat.le_refl _), fun p9 hp9 => ?_⟩
      have s9 := same_new (o := .lst (evL.map vInt ++ [V.int 1])) hp9
      refine ⟨p9, evL ++ [1], _, rfl, tape_ne (hTb.same s8) hp9, ⟨upd_same, ev2_masks, by decide, ev2_open, .inl rfl⟩, s8.trans s9⟩
    rintro _ Hc ⟨ch, cs, vd, rfl, hcha, hC, sc⟩
    have hTc := hTb.same sc
    obtain ⟨hCa, hms, hlen, hop, hdue⟩ := hC
    -- the other
    refine ⟨_, rfl, ch, _, rfl, SqL.of hCa, fun p9 hp9 => ?_⟩
    have s9 := same_new (o := .lst (cs.map vInt).reverse) hp9
    refine ⟨p9, cs.reverse, rfl, SqL.of (by rw [upd_same, List.map_reverse]), by rw [List.length_reverse]; omega, fun Hd l5 xs5 sd hl5 hxs5 hL5 => ?_⟩
    intro y2 dy2 hy2 hdy2 hne2
    have sm5 : Same Hd (upd (upd Hd dy2 (.own y2)) y2 (.ins C dy2 [])) := made_new hy2 hdy2
    refine ⟨y2, dy2, l5, 7, xs5, cs.reverse, rfl, upd_same, by rw [upd_ne hne2]; exact upd_same, .inl (SqL.of (sm5 _ _ hxs5)), hL5.same sm5, by decide, by decide, ⟨fun z hz => hms.lt z (List.mem_reverse.mp hz), (List.reverse_perm cs).nodup_iff.mpr hms.nd⟩, fun He ke hAe => ⟨rfl, ?_⟩⟩
    have sce : Same Hc He := s9.trans (sd.trans (made_same hy2 hdy2 ke))
    have hG := hAe.perm (List.reverse_perm cs)
    refine ⟨_, rfl, y2, 7, cs, true, rfl, hG, fun Hf mf vf pmf srtf sf tf => ?_⟩
    have scf := sce.trans sf
    have hdf := hdue.same scf
    have hCf := scf _ _ hCa
    cases ef : foundL true cs mf with
    | none => exact absurd ((found_none pmf).mp ef) hop
    | some l =>
      rw [ef] at tf
      obtain ⟨x, u, v, rfl, hx, hu, hv, hno⟩ := found_some pmf ef
      obtain ⟨p, ps, rfl, hp, hLp, _⟩ := id tf
      obtain ⟨t1, t2, t3, rfl, h1, h2, h3⟩ : ∃ t1 t2 t3, ps = [.ref t1, .ref t2, .ref t3] ∧ Hf t1 = some (.tup (lotV x)) ∧ Hf t2 = some (.tup (lotV u)) ∧ Hf t3 = some (.tup (lotV v)) := by
        match ps, hLp with
        | [p1, p2, p3], ⟨⟨t1, e1, h1⟩, ⟨t2, e2, h2⟩, ⟨t3, e3, h3⟩, _⟩ => exact ⟨t1, t2, t3, by rw [e1, e2, e3], h1, h2, h3⟩
        | [], h => exact h.elim
        | [_], h => exact h.2.elim
        | [_, _], h => exact h.2.2.elim
        | _ :: _ :: _ :: _ :: _, h => exact h.2.2.2.elim
      have mk12 : ∀ {z}, z ∈ cs → z < 2 ^ 12 := fun {z} h => lt12 (hms.lt z h) (by decide)
      have mkN : ∀ {z}, z < 2 ^ 12 → maskN (lotN z 12) = z := fun {z} h => by
        rw [maskN_lotN]
        exact Nat.mod_eq_of_lt h
      have l60 : ∀ {z : Nat}, ∀ i ∈ lotN z 12, i ≤ 60 := fun {z} i hi => by
        have := lotN_lt _ _ i hi
        omega
      have hT_f := hTc.same scf
      refine ⟨fun σ' H' => σ' = [some (.ref a), some (.ref D), some (.ref y), some (vInt r), some (.ref ch), some vd, some (.ref y2), some (.ref p), none, none, none] ∧ Hf = H', ?_, ?_⟩
      · refine ⟨_, rfl, rfl, _, rfl, iteF ?_⟩
        rcases hdf with e | ⟨e, t, qs, e2, ht, hLt⟩
        · subst e
          exact ⟨_, rfl, rfl, _, rfl, iteF ⟨rfl, rfl⟩⟩
        · subst e e2
          have eq := ev0_found pmf srtf
          rw [ef] at eq
          have eq := Option.some.inj eq
          refine ⟨_, rfl, rfl, _, rfl, iteT ?_⟩
          refine ⟨_, rfl, _, rfl, dL (some [x, u, v]), dL (some [x, u, v]), tf.dp, .tup (SqT.of ht) (by rw [eq]; exact dp_lots hLt), shaped_dL _, shaped_dL _, _, rfl, ?_⟩
          rw [eqv_same (shaped_dL (some [x, u, v]))]
          exact iteF ⟨rfl, rfl⟩
      rintro _ _ ⟨rfl, rfl⟩
      refine ⟨_, rfl, p, _, _, .ref t1, rfl, rfl, SqT.of hp, atI_nat (j := 0) rfl, t1, lotN x 12, rfl, .inr (SqT.of h1), l60, ?_⟩
      rw [mkN (mk12 hx)]
      refine ⟨_, rfl, p, _, _, .ref t2, rfl, rfl, SqT.of hp, atI_nat (j := 1) rfl, t2, lotN u 12, rfl, .inr (SqT.of h2), l60, ?_⟩
      rw [mkN (mk12 hu)]
      refine ⟨_, _, rfl, rfl, _, rfl, p, _, _, .ref t3, rfl, rfl, SqT.of hp, atI_nat (j := 2) rfl, t3, lotN v 12, rfl, .inr (SqT.of h3), l60, ?_⟩
      rw [mkN (mk12 hv)]
      refine ⟨_, _, rfl, rfl, ?_⟩
      have ein : inV (V.int (Builtin.bitXor (Builtin.bitXor (x : Int) (u : Int)) (v : Int))) (cs.map vInt) = decide (x ^^^ u ^^^ v ∈ cs) := by
        rw [bitXor_nat, bitXor_nat, xorN_eq, xorN_eq]
        exact inV_nat _ _
      refine ⟨_, rfl, _, rfl, ch, _, rfl, .inl (SqL.of hCf), rfl, flat_all cs, _, rfl, ?_⟩
      rw [ein, decide_eq_false hno]
      refine iteF ⟨_, rfl, p, rfl, ⟨_, SqT.of hp⟩, fun D2 hD2 => ?_⟩
      refine lc_tup (K := K) (a := p) (xs := [.ref t1, .ref t2, .ref t3]) (fun i H' => Same Hf H' ∧ H' D2 = some (.lst [])) ⟨same_new hD2, upd_same⟩ (fun i H' _ h => SqT.of (h.1 _ _ hp)) ?_ ?_
      · rintro i w2 Hh hw ⟨sm, hR⟩
        obtain ⟨t, m, rfl, ht, hm⟩ : ∃ t m, w2 = .ref t ∧ Hf t = some (.tup (lotV m)) ∧ m ∈ cs := by
          match i, hw with
          | 0, hw => exact ⟨t1, x, (Option.some.inj hw).symm, h1, hx⟩
          | 1, hw => exact ⟨t2, u, (Option.some.inj hw).symm, h2, hu⟩
          | 2, hw => exact ⟨t3, v, (Option.some.inj hw).symm, h3, hv⟩
        refine ⟨rfl, _, rfl, t, lotN m 12, rfl, .inr (SqT.of (sm _ _ ht)), l60, ?_⟩
        rw [mkN (mk12 hm)]
        refine ⟨_, rfl, ch, _, rfl, .inl (SqL.of (sm _ _ hCf)), rfl, flat_all cs, !decide (m ∈ cs), congrArg (fun z => V.bl (!z)) (inV_nat _ _), ?_⟩
        rw [decide_eq_true hm]
        exact iteF ⟨sm, hR⟩
      rintro Hh ⟨sh, hRh⟩
      refine ⟨D2, _, rfl, .inl (SqL.of hRh), _, _, rfl, rfl, _, rfl, ite2 (fun z => absurd z (by decide)) (fun _ => ?_)⟩
      have sch := scf.trans sh
      refine ⟨_, rfl, _, rfl, y2, ch, 7, cs, false, rfl, hG.same (sf.trans sh), SqL.of (sh _ _ hCf), by omega, ⟨fun z => (by cases z), fun z => absurd z hop⟩, fun Hi si => ⟨true, rfl, iteT ?_⟩⟩
      exact ⟨_, rfl, _, rfl, _, rfl, a, c6, ts, y2, ch, 7, cs, false, rfl, hTc.same (sch.trans si), hG.same (sf.trans (sh.trans si)), (sh.trans si) _ _ hCf, hcha, by omega, fun z => (by cases z), fun Hj cj kpj hTj => k _ _ (((kp_same s05).trans (Kp.of h6)).trans ((kp_same (s6a.trans (sb.trans (sc.trans (scf.trans (sh.trans si)))))).trans kpj)) hTj⟩
end
end Fam

/-! The law. -/
namespace Fam
open PySem L2 XM OwnX
open C8 (pss_cut tCut)
def spLaw (K : PySem.W.Frag) : Sp := fun vs H Q _ => ∃ (a : Addr) (ns : List Int), vs = [.ref a] ∧ SqL K H a (ns.map V.int) ∧ ns.length ≤ 63 ∧ ∀ H', Q (.bl true) H'
def DueT (H : Hp) : Option (Nat × Nat × Nat) → V → Prop
  | none, v => v = .non
  | some (x, y, z), v => ∃ p, v = .ref p ∧ H p = some (.tup [vInt x, vInt y, vInt z])
theorem DueT.same {H H' : Hp} (s : Same H H') : ∀ {o : Option (Nat × Nat × Nat)} {v : V}, DueT H o v → DueT H' o v
  | none, _, h => h
  | some (_, _, _), _, ⟨p, e, h⟩ => ⟨p, e, s _ _ h⟩
theorem DueT.non {H : Hp} : ∀ {o : Option (Nat × Nat × Nat)} {v : V}, DueT H o v → (decide (v = V.non) = true ↔ o = none)
  | none, v, h => by
    have h : v = .non := h
    subst h
    exact ⟨fun _ => rfl, fun _ => rfl⟩
  | some (x, y, z), v, ⟨p, e, _⟩ => by
    subst e
    exact ⟨fun z => (by cases (of_decide_eq_true z)), fun z => (by cases z)⟩
section
variable {P : Program} {w : World} {K : PySem.W.Frag} {mg : Str → Option Value} {base : Heap} {C : Addr}
abbrev nLW : List Str := ["_law_script", "_law_tape", "_law_size", "_law_masks", "_law_lots", "_law_family_here", "_law_due", "_law_told"]
theorem scLW : FnScope nLW ["_law_script"] (defScope sLaw) := ⟨rfl, rfl, rfl, by decide +kernel, rfl, by decide +kernel, by decide +kernel⟩
abbrev lawS (a t : Addr) (n : Nat) (m l x : Addr) (vd : V) (y7 : Option V) : L2.St := [some (.ref a), some (.ref t), some (vInt n), some (.ref m), some (.ref l), some (.ref x), some vd, y7]
theorem ok_law {f gi : Addr} {fd gid : FuncData} (F : Fun K "law" "law" sLaw f fd) (T : Bare mg) (FC : FamC K C) (m_F : mg "Family" = some (.ref C))
    (MK_F : Mk K C gi) (ok_F : FnOk P w K mg base CX0 4 gi gid ["self", "size", "lots"] (spInit K C (FAt C))) (b_F : Binds K gid ["self", "size", "lots"] [])
    (GB : Cal P w K mg base 5 "broken" ["family", "word"] (spBrokenT C)) (GDr : Cal P w K mg base 1 "_law_draws" ["_law_script"] (spDraws K)) (GT : Cal P w K mg base 1 "_law_take" ["_law_tape", "_law_many"] spDraw) (GM : Cal P w K mg base 3 "_law_drawn_masks" ["_law_tape", "_law_size"] spFamily) (GO : Cal P w K mg base 2 "_law_lots_of" ["_law_masks"] (spLotsOf K))
    (GTd : Cal P w K mg base 4 "_law_triple_due" ["_law_masks", "_law_size"] (spTripleDue K)) (GSh : Cal P w K mg base 2 "_law_shown" ["_law_found"] (spShown K)) (GAl : Cal P w K mg base 4 "_law_all_numbers" ["_law_masks", "_law_size"] (spAllN K))
    (GA : Cal P w K mg base 7 "_law_against_ok" ["_law_family_here", "_law_masks", "_law_closed"] (spAgainst K C)) (GS : Cal P w K mg base 7 "_law_asked_ok" ["_law_tape", "_law_family_here", "_law_masks", "_law_closed"] (spAsked C)) (GL : Cal P w K mg base 8 "_law_large_ok" ["_law_tape"] spLargeOk) (GJ : Cal P w K mg base 8 "_law_joined_ok" ["_law_tape", "_law_family_here", "_law_masks"] (spJoined C)) :
    FnOk P w K mg base CX0 9 f fd ["_law_script"] (spLaw K) := by
  obtain ⟨_, _, ok_br, b_br, k_br, m_br⟩ := GB.ex
  obtain ⟨_, _, ok_d, b_d, k_d, m_d⟩ := GDr.ex
  obtain ⟨_, _, ok_t, b_t, k_t, m_t⟩ := GT.ex
  obtain ⟨_, _, ok_dm, b_dm, k_dm, m_dm⟩ := GM.ex
  obtain ⟨_, _, ok_lo, b_lo, k_lo, m_lo⟩ := GO.ex
  obtain ⟨_, _, ok_td, b_td, k_td, m_td⟩ := GTd.ex
  obtain ⟨_, _, ok_s, b_s, k_s, m_s⟩ := GSh.ex
  obtain ⟨_, _, ok_al, b_al, k_al, m_al⟩ := GAl.ex
  obtain ⟨_, _, ok_ag, b_ag, k_ag, m_ag⟩ := GA.ex
  obtain ⟨_, _, ok_as, b_as, k_as, m_as⟩ := GS.ex
  obtain ⟨_, _, ok_la, b_la, k_la, m_la⟩ := GL.ex
  obtain ⟨_, _, ok_jo, b_jo, k_jo, m_jo⟩ := GJ.ex
  refine F.ok scLW (fun vs H Q E h => ?_) (fun cdv A outer s H vs Q E hr h => ?_)
  · obtain ⟨a, ns, rfl, _⟩ := h
    rfl
  · obtain ⟨a, ns, rfl, hS, hl, k⟩ := h
    have hr_la := hr
    have hr_jo := hr
    have hr_ag := hr.mono (j := 7) (by decide)
    have hr_as := hr_ag
    have hr_br := hr.mono (j := 5) (by decide)
    have hr_F := hr_br
    have hr_td := hr.mono (j := 4) (by decide)
    have hr_al := hr_td
    have hr_dm := hr.mono (j := 3) (by decide)
    have hr_lo := hr.mono (j := 2) (by decide)
    have hr_s := hr_lo
    have hr_d := hr.mono (j := 1) (by decide)
    have hr_t := hr_d
    refine ⟨_, (pss_cons (ps_set (i := 1) scLW.nd rfl (Or.inl rfl) (pe_call ok_d hr_d rfl m_d k_d b_d .nil pass0 (pa_cons (pv 0) pa_nil)))
      (pss_cons (ps_set (i := 2) scLW.nd rfl (Or.inl rfl) (pe_op op_add pe_int (pe_call ok_t hr_t rfl m_t k_t b_t .nil pass0 (pa_cons (pv 1) (pa_cons pe_int pa_nil)))))
      (pss_cons (ps_set (i := 3) scLW.nd rfl (Or.inl rfl) (pe_call ok_dm hr_dm rfl m_dm k_dm b_dm .nil pass0 (pa_cons (pv 1) (pa_cons (pv 2) pa_nil))))
      (pss_cons (ps_set (i := 4) scLW.nd rfl (Or.inl rfl) (pe_call ok_lo hr_lo rfl m_lo k_lo b_lo .nil pass0 (pa_cons (pv 3) pa_nil)))
      (pss_cons (ps_set (i := 5) scLW.nd rfl (Or.inl rfl) (pe_make MK_F ok_F hr_F rfl m_F b_F .nil pass0 (pa_cons (pv 2) (pa_cons (pv 4) pa_nil))))
      (pss_cut (ps_set (i := 6) scLW.nd rfl (Or.inl rfl) (pe_call ok_td hr_td rfl m_td k_td b_td .nil pass0 (pa_cons (pv 3) (pa_cons (pv 2) pa_nil))))
      (pss_cons (ps_set (i := 7) scLW.nd rfl (Or.inl rfl) (pe_call ok_br hr_br rfl m_br k_br b_br .nil pass0 (pa_cons (pv 5) (pa_cons pe_str pa_nil))))
      (pss_cut (ps_if (PW.pt (pw_or (pt_cmpR (op_neD hr.units) (pv 7) (pe_call ok_s hr_s rfl m_s k_s b_s .nil pass0 (pa_cons (pv 6) pa_nil)) (nomark _)) (pw_or1 (PW.pt (pw_and (pt_cmpR op_notN (pv 7) pe_non (nomark _)) (pw_and1 (pt_not (pt_val (pe_callB call_isi (by rfl) T.isi (by decide +kernel) (pa_cons (pe_ix ix_tup (pv 7) pe_int (fun _ _ => rfl)) (pa_cons (pe_ty (n := "tuple") (by rfl) T.tuple (by decide +kernel)) pa_nil))))))))))) (pss_one (ps_ret pe_bl)) pss_nil)
      (pss_cons (ps_if (pt_cmpR op_ne (pe_call ok_al hr_al rfl m_al k_al b_al .nil pass0 (pa_cons (pv 3) (pa_cons (pv 2) pa_nil))) (pe_cmpR op_isN (pv 6) pe_non (nomark _)) (nomark _)) (pss_one (ps_ret pe_bl)) pss_nil)
      (pss_cons (ps_if (PW.pt (pw_or (pt_not (pt_val (pe_call ok_ag hr_ag rfl m_ag k_ag b_ag .nil pass0 (pa_cons (pv 5) (pa_cons (pv 3) (pa_cons (pe_cmpR op_isN (pv 6) pe_non (nomark _)) pa_nil)))))) (pw_or1 (pt_not (pt_val (pe_call ok_as hr_as rfl m_as k_as b_as .nil pass0 (pa_cons (pv 1) (pa_cons (pv 5) (pa_cons (pv 3) (pa_cons (pe_cmpR op_isN (pv 6) pe_non (nomark _)) pa_nil)))))))))) (pss_one (ps_ret pe_bl)) pss_nil)
      (pss_cons (ps_if (PW.pt (pw_or (pt_not (pt_val (pe_call ok_ag hr_ag rfl m_ag k_ag b_ag .nil pass0 (pa_cons (pv 5) (pa_cons (pv 3) (pa_cons (pe_cmpR op_isN (pv 6) pe_non (nomark _)) pa_nil)))))) (pw_or1 (pt_cmpR (op_neD hr.units) (pv 4) (pe_call ok_lo hr_lo rfl m_lo k_lo b_lo .nil pass0 (pa_cons (pv 3) pa_nil)) (nomark _))))) (pss_one (ps_ret pe_bl)) pss_nil)
      (pss_cut (ps_if (PW.pt (pw_and (pt_cmpR op_eq (pe_call ok_t hr_t rfl m_t k_t b_t .nil pass0 (pa_cons (pv 1) (pa_cons pe_int pa_nil))) pe_int (nomark _)) (pw_and1 (pt_not (pt_val (pe_call ok_la hr_la rfl m_la k_la b_la .nil pass0 (pa_cons (pv 1) pa_nil))))))) (pss_one (ps_ret pe_bl)) pss_nil)
      (pss_one (ps_ret (pe_call ok_jo hr_jo rfl m_jo k_jo b_jo .nil pass0 (pa_cons (pv 1) (pa_cons (pv 5) (pa_cons (pv 3) pa_nil)))))))))))))))))), ?_⟩
    refine ⟨_, rfl, a, ns, rfl, hS, hl, fun H1 t ts s1 ht hT1 => ?_⟩
    refine ⟨_, rfl, t, 0, ts, 4, rfl, hT1, by decide, fun H2 c2 r hr2' h2 hT2 => ⟨_, _, rfl, rfl, ?_⟩⟩
    refine ⟨_, rfl, _, rfl, t, c2, ts, 1 + r, rfl, hT2, by omega, fun H3 c3 m mks hms kp3 hT3 hm hM3 => ?_⟩
    have hn4 : 1 + r ≤ 4 := by omega
    have hmt : m ≠ t := tape_ne hT2 hm
    have p2 : 2 ^ (1 + r) ≤ 16 := Nat.pow_le_pow_right (n := 2) (by decide) hn4
    have hlen : mks.length ≤ 16 := Nat.le_trans (nodup_len _ _ hms.nd hms.lt) p2
    refine ⟨_, rfl, m, mks, rfl, SqL.of hM3, by omega, fun H4 l xs s4 hl4 hxs hL4 => ?_⟩
    have hlt := tape_ne hT3 hl4
    refine ⟨_, rfl, _, rfl, fun x dx hx hdx hne => ?_⟩
    have sm0 : Same H4 (upd (upd H4 dx (.own x)) x (.ins C dx [])) := made_new hx hdx
    refine ⟨x, dx, l, 1 + r, xs, mks, rfl, upd_same, by rw [upd_ne hne]; exact upd_same, .inl (SqL.of (sm0 _ _ hxs)), hL4.same sm0, by omega, by omega, hms, fun H5 k5 hA5 => ⟨rfl, ?_⟩⟩
    have s45 : Same H4 H5 := made_same hx hdx k5
    have hM5 := (s4.trans s45) _ _ hM3
    have hT5 := hT3.same (s4.trans s45)
    have hX5 := s45 _ _ hxs
    have hL5 := hL4.same s45
    -- due
    refine ⟨fun σ' H' => ∃ os vd, OrderOf (1 + r) os ∧ σ' = lawS a t (1 + r) m l x vd none ∧ DueT H' (tripleDue mks os) vd ∧ Same H5 H', ?_, ?_⟩
    · refine ⟨_, rfl, _, rfl, m, mks, 1 + r, rfl, SqL.of hM5, by omega, by omega, fun H6 os ho s6 => ⟨fun e => ⟨os, .non, ho, rfl, ?_, s6⟩, fun u v z p e hp hp' => ⟨os, .ref p, ho, rfl, ?_, s6⟩⟩⟩
      · rw [e]; exact rfl
      · rw [e]; exact ⟨p, rfl, hp'⟩
    rintro _ H6 ⟨os, vd, ho, rfl, hD6, s6⟩
    refine ⟨_, rfl, x, 1 + r, mks, true, rfl, hA5.same s6, fun H7 m0 v pm srt s7 tt => ?_⟩
    have hD7 := hD6.same s7
    have eo : foundL true mks m0 = (tripleDue mks os).map fun t => [t.1, t.2.1, t.2.2] := by
      unfold tripleDue
      rw [inside_eq (by omega) hms pm srt ho, trip_found pm]
    have hcl : decide (vd = V.non) = true ↔ ClosedX mks := by
      rw [hD7.non, ← found_none (o := true) pm, eo]
      cases tripleDue mks os <;> simp
    rw [eo] at tt
    refine ⟨fun σ' H' => σ' = lawS a t (1 + r) m l x vd (some v) ∧ Same H7 H', ?_, ?_⟩
    · cases e : tripleDue mks os with
      | none =>
        rw [e] at tt hD7
        have e1 : v = .non := tt
        have e2 : vd = .non := hD7
        subst e1 e2
        refine ⟨_, rfl, _, rfl, .inl ⟨rfl, dL none, dL none, .non, .non, shaped_dL _, shaped_dL _, _, rfl, ?_⟩⟩
        rw [eqv_same (shaped_dL none)]
        exact iteF ⟨_, rfl, rfl, _, rfl, iteF ⟨rfl, Same.refl _⟩⟩
      | some q =>
        obtain ⟨u, y, z⟩ := q
        rw [e] at tt hD7
        obtain ⟨p, rfl, hp'⟩ := hD7
        refine ⟨_, rfl, _, rfl, .inr ⟨p, [u, y, z], rfl, SqT.of hp', (by show 3 ≤ 100000; decide), fun H8 p8 xs8 s8 hp8 hx8 hL8 => ?_⟩⟩
        have tt8 : Told H8 (some [u, y, z]) v := tt.same s8
        obtain ⟨pT, ps, rfl, hpT, hLT, _⟩ := id tt8
        refine ⟨dL (some [u, y, z]), dL (some [u, y, z]), tt8.dp, .tup (SqT.of hx8) (dp_lots hL8), shaped_dL _, shaped_dL _, _, rfl, ?_⟩
        rw [eqv_same (shaped_dL (some [u, y, z]))]
        obtain ⟨q, rest, rfl, hq⟩ : ∃ q rest, ps = .ref q :: rest ∧ H8 q = some (.tup (lotV u)) := by
          match ps, hLT with
          | v1 :: rest, ⟨⟨q, e1, h1⟩, _⟩ => exact ⟨q, rest, by rw [e1], h1⟩
        refine iteF ⟨_, rfl, rfl, _, rfl, iteT ?_⟩
        exact ⟨_, rfl, pT, _, _, .ref q, rfl, rfl, SqT.of hpT, atI_nat (j := 0) rfl, _, _, _, _, true, rfl, .ty _, .base (.tup hq), kit_ty (by decide +kernel), _, rfl, iteF ⟨rfl, s8⟩⟩
    rintro _ H8 ⟨rfl, s8⟩
    have s58 := s6.trans (s7.trans s8)
    have hM8 := s58 _ _ hM5
    -- the numbers
    refine ⟨_, rfl, _, rfl, m, 1 + r, mks, rfl, SqL.of hM8, by omega, by omega, fun H9 b s9 hb => ⟨_, rfl, rfl, rfl, _, rfl, ?_⟩⟩
    have eb : b = decide (vd = V.non) := Bool.eq_iff_iff.mpr (hb.trans ((all_good hms).trans hcl.symm))
    subst eb
    rw [decide_eq_true rfl]
    refine iteF ?_
    have s59 := s58.trans s9
    have hM9 := s59 _ _ hM5
    have hT9 := hT5.same s59
    refine ⟨_, rfl, _, rfl, _, rfl, rfl, x, m, 1 + r, mks, _, rfl, hA5.same s59, SqL.of hM9, by omega, hcl, fun H10 s10 => ⟨true, rfl, iteF ?_⟩⟩
    have s5a := s59.trans s10
    have hMa := s5a _ _ hM5
    have hTa := hT5.same s5a
    refine ⟨_, rfl, _, rfl, _, rfl, _, rfl, rfl, t, c3, ts, x, m, 1 + r, mks, _, rfl, hTa, hA5.same s5a, hMa, hmt, by omega, hcl.mp, fun Hb cb kpb hTb => ⟨true, rfl, iteF ?_⟩⟩
    have hAb := (hA5.same s5a).keep hTa kpb
    have hMb := kpb _ _ hmt hMa
    have hXb := kpb _ _ hlt (s5a _ _ hX5)
    have hLb := (hL5.same s5a).keep hTa kpb
    refine ⟨_, rfl, _, rfl, _, rfl, rfl, x, m, 1 + r, mks, _, rfl, hAb, SqL.of hMb, by omega, hcl, fun Hc sc => ⟨true, rfl, iteF ?_⟩⟩
    have hMc := sc _ _ hMb
    refine ⟨_, rfl, _, rfl, m, mks, rfl, SqL.of hMc, by omega, fun Hd l2 xs2 sd hl2 hxs2 hL2 => ?_⟩
    have sbd := sc.trans sd
    refine ⟨.list (mks.map dLot), .list (mks.map dLot), .lst (SqL.of (sbd _ _ hXb)) (dp_lots (hLb.same sbd)), .lst (SqL.of hxs2) (dp_lots hL2), shaped_lots _, shaped_lots _, _, rfl, ?_⟩
    rw [eqv_same (shaped_lots _)]
    refine iteF ?_
    have hTd := hTb.same sbd
    have hAd := hAb.same sbd
    have hMd := sbd _ _ hMb
    refine ⟨fun σ' H' => σ' = lawS a t (1 + r) m l x vd (some v) ∧ (∃ c, TapeAt H' t c ts) ∧ Kp t Hd H', ?_, ?_⟩
    · refine ⟨_, rfl, t, cb, ts, 16, rfl, hTd, by decide, fun He ce q _ he hTe => ⟨rfl, _, rfl, ite2 (fun _ => ?_) (fun _ => ⟨rfl, ⟨_, hTe⟩, Kp.of he⟩)⟩⟩
      exact ⟨_, rfl, t, ce, ts, rfl, hTe, fun Hf cf kpf hTf => ⟨true, rfl, iteF ⟨rfl, ⟨_, hTf⟩, (Kp.of he).trans kpf⟩⟩⟩
    rintro _ He ⟨rfl, ⟨ce, hTe⟩, kpe⟩
    exact ⟨_, rfl, _, rfl, _, rfl, t, ce, ts, x, m, 1 + r, mks, rfl, hTe, hAd.keep hTd kpe, kpe _ _ hmt hMd, hmt, by omega, fun Hf => k _⟩
end
end Fam

/-! From the top's facts to the law. -/
namespace Fam
open PySem L2 OwnX
def MetAt (K : PySem.W.Frag) (C : Addr) (x qual : Str) (st : Stmt) (f : Addr) : Prop :=
  ∃ (od an : Option Addr) (sl : Array (Option Value)) (oc kV dc pm cd ct : Value), PySem.W.findIn K (.ref C) x = some (some (.ref f)) ∧ PySem.W.isFn K (.ref f) = true ∧
    K.lookup f = some ⟨oc, od, .func (PySem.W.fnOf x qual (defArgs st) (defBody st) (defScope st) .none kV dc pm an cd ct), sl⟩ ∧ PySem.W.codeIn K cd qual = true ∧ PySem.W.keepIn K (.ref f) = true
theorem met_at {K : PySem.W.Frag} {C : Addr} {x qual : Str} {st : Stmt} {f : Addr} {od an : Option Addr} {sl : Array (Option Value)} {oc kV dc pm cd ct : Value} (a : PySem.W.findIn K (.ref C) x = some (some (.ref f))) (b : PySem.W.isFn K (.ref f) = true)
    (l : K.lookup f = some ⟨oc, od, .func (PySem.W.fnOf x qual (defArgs st) (defBody st) (defScope st) .none kV dc pm an cd ct), sl⟩) (c : PySem.W.codeIn K cd qual = true) (k : PySem.W.keepIn K (.ref f) = true) : ∃ f, MetAt K C x qual st f := ⟨f, od, an, sl, oc, kV, dc, pm, cd, ct, a, b, l, c, k⟩
theorem met_of {K : PySem.W.Frag} {C : Addr} {x qual : Str} {st : Stmt} {f : Addr} {ps : List Str} (M : MetAt K C x qual st f)
    (hb : ∀ (kV doc pm : Value) (an : Option Addr) (cdv ct : Value) (us : List Value), us.length = ps.length → bindArgs (PySem.W.fnOf x qual (defArgs st) (defBody st) (defScope st) .none kV doc pm an cdv ct) ⟨us, []⟩ = pure (ps.zip us)) :
    ∃ fd : FuncData, Fun K x qual st f fd ∧ Meth K C x f ∧ Binds K fd ps [] := by
  obtain ⟨od, an, sl, oc, kV, dc, pm, cd, ct, a, b, l, c, k⟩ := M
  have F := fun_mk (st := st) l c k
  exact ⟨_, F, ⟨a, b, k⟩, F.binds hb⟩
/-- a def of the program that may raise -/
theorem calE {P : Program} {w : World} {K : PySem.W.Frag} {mg : Str → Option Value} {base : Heap} {h : Heap} {k : Nat} {x : Str} {st : Stmt} {ps : List Str} {sp : Sp} (X : K.In h) (G : h.Ns mainGlobals mg) (D : ∃ f, DefAt K x st f)
    (hb : ∀ (kV doc pm : Value) (an : Option Addr) (cdv ct : Value) (us : List Value), us.length = ps.length → bindArgs (PySem.W.fnOf x x (defArgs st) (defBody st) (defScope st) .none kV doc pm an cdv ct) ⟨us, []⟩ = pure (ps.zip us))
    (ok : ∀ f fd, Fun K x x st f fd → FnOk P w K mg base (L2.CX P w) k f fd ps sp) : CalE P w K mg base k x ps sp := by
  obtain ⟨f, od, an, sl, oc, kV, dc, pm, cd, ct, a, l, c, kk⟩ := D
  have F := fun_mk (st := st) l c kk
  exact ⟨f, _, ok f _ F, F.binds hb, kk, PySem.W.mg_of X G a⟩
theorem kit_own {K : PySem.W.Frag} {C : Addr} {T : String} (i : PySem.W.isClsIn K C = true) (t : PySem.W.typeIn K (.ref C) = some (.type "type")) (e : (Value.type T == Value.ref C) = false) (r : PySem.W.subIn K (.type T) (.ref C) = some false) : PySem.W.kitOne K (.type T) (.ref C) = some false := by
  have i2 : (PySem.W.clsIn K C).isSome = true := i
  unfold PySem.W.kitOne PySem.W.kitCls
  rw [e]
  simp only [i2, t]
  exact r
theorem fam_is {K : PySem.W.Frag} {C : Addr} (ca : PySem.W.findIn K (.ref C) "__class__" = some (some (.builtin "object.__class__"))) (cn : PySem.W.specialIn K (.builtin "object.__class__") "__get__" = some (some (.builtin "getset_descriptor.__get__")))
    (ct : PySem.W.takesIn K (.builtin "object.__class__") = some true) (cm : PySem.W.mroIn K C (.type "object") = some true) (i : PySem.W.isClsIn K C = true) (t : PySem.W.typeIn K (.ref C) = some (.type "type")) : FamIs K C := ⟨ca, cn, ct, cm, kit_own i t rfl rfl, kit_own i t rfl rfl⟩
structure ProgTops (K : PySem.W.Frag) : Prop where
  d_is_int : ∃ f, DefAt K "is_int" sIsInt f
  d_is_between : ∃ f, DefAt K "is_between" sIsBetween f
  d_check_number : ∃ f, DefAt K "check_number" sCheckNumber f
  d_lot_of : ∃ f, DefAt K "lot_of" sLotOf f
  d_mask_of : ∃ f, DefAt K "mask_of" sMaskOf f
  d_lot_of_mask : ∃ f, DefAt K "lot_of_mask" sLotOfMask f
  d_check_sizes : ∃ f, DefAt K "check_sizes" sCheckSizes f
  d_check_word : ∃ f, DefAt K "check_word" sCheckWord f
  d_broken : ∃ f, DefAt K "broken" sBroken f
  d_holds_against : ∃ f, DefAt K "holds_against" sHolds f
structure Tops (K : PySem.W.Frag) : Prop where
  d_l_draws : ∃ f, DefAt K "_law_draws" sDraws f
  d_l_take : ∃ f, DefAt K "_law_take" sTake f
  d_l_int : ∃ f, DefAt K "_law_int" sLawInt f
  d_l_full : ∃ f, DefAt K "_law_full" sFull f
  d_l_ones : ∃ f, DefAt K "_law_ones" sOnes f
  d_l_lot : ∃ f, DefAt K "_law_lot" sLot f
  d_l_mask : ∃ f, DefAt K "_law_mask" sMask f
  d_l_family : ∃ f, DefAt K "_law_family" sFamily f
  d_l_all_lots : ∃ f, DefAt K "_law_all_lots" sAllLots f
  d_l_drawn_masks : ∃ f, DefAt K "_law_drawn_masks" sDrawnMasks f
  d_l_order : ∃ f, DefAt K "_law_order" sOrder f
  d_l_lots_of : ∃ f, DefAt K "_law_lots_of" sLotsOf f
  d_l_shown : ∃ f, DefAt K "_law_shown" sShown f
  d_l_triple_due : ∃ f, DefAt K "_law_triple_due" sTripleDue f
  d_l_good_number : ∃ f, DefAt K "_law_good_number" sGoodNumber f
  d_l_held : ∃ f, DefAt K "_law_held" sLHeld f
  d_l_all_numbers : ∃ f, DefAt K "_law_all_numbers" sAllNumbers f
  d_l_lots_ok : ∃ f, DefAt K "_law_lots_ok" sLotsOk f
  d_l_against_ok : ∃ f, DefAt K "_law_against_ok" sAgainstOk f
  d_l_asked_ok : ∃ f, DefAt K "_law_asked_ok" sAskedOk f
  d_l_large_ok : ∃ f, DefAt K "_law_large_ok" sLargeOk f
  d_l_word : ∃ f, DefAt K "_law_word" sWord f
  d_l_joined_ok : ∃ f, DefAt K "_law_joined_ok" sJoinedOk f
  d_law : ∃ f, DefAt K "law" sLaw f
structure FamMet (K : PySem.W.Frag) (C : Addr) : Prop where
  d_init : ∃ f, MetAt K C "__init__" "Family.__init__" sFInit f
  d_iter : ∃ f, MetAt K C "__iter__" "Family.__iter__" sFamIter f
  d_len : ∃ f, MetAt K C "__len__" "Family.__len__" sFLen f
  d_eq : ∃ f, MetAt K C "__eq__" "Family.__eq__" sFEq f
  d_and : ∃ f, MetAt K C "__and__" "Family.__and__" sFAnd f
  d_or : ∃ f, MetAt K C "__or__" "Family.__or__" sFOr f
  d_held : ∃ f, MetAt K C "held" "Family.held" sFHeld f
structure CloMet (K : PySem.W.Frag) (CC : Addr) : Prop where
  d_init : ∃ f, MetAt K CC "__init__" "Closing.__init__" sClInit f
  d_is_broken : ∃ f, MetAt K CC "is_broken" "Closing.is_broken" sIsBroken f
  d_misses : ∃ f, MetAt K CC "misses" "Closing.misses" sMisses f
  d_third : ∃ f, MetAt K CC "third" "Closing.third" sThird f
structure Bares2 (K : PySem.W.Frag) : Prop where
  set : PySem.W.nsIn K mainGlobals "set" = some none
  iter : PySem.W.nsIn K mainGlobals "iter" = some none
  max : PySem.W.nsIn K mainGlobals "max" = some none
  sum : PySem.W.nsIn K mainGlobals "sum" = some none
  any : PySem.W.nsIn K mainGlobals "any" = some none
  all : PySem.W.nsIn K mainGlobals "all" = some none
  enumerate : PySem.W.nsIn K mainGlobals "enumerate" = some none
  str : PySem.W.nsIn K mainGlobals "str" = some none
theorem Bares2.bare {K : PySem.W.Frag} {h : Heap} {mg : Str → Option Value} (X : K.In h) (G : h.Ns mainGlobals mg) (b : Bares2 K) : Bare2 mg :=
  ⟨PySem.W.mg_none_of X G b.set, PySem.W.mg_none_of X G b.iter, PySem.W.mg_none_of X G b.max, PySem.W.mg_none_of X G b.sum, PySem.W.mg_none_of X G b.any, PySem.W.mg_none_of X G b.all, PySem.W.mg_none_of X G b.enumerate, PySem.W.mg_none_of X G b.str⟩
theorem fam_c {K : PySem.W.Frag} {C : Addr} (pg : PySem.W.plainGet K C Str.empty = true) (hd : PySem.W.hasDictIn K C = true) (po : PySem.W.plainOver K C = true) (sa : PySem.W.findIn K (.ref C) "__setattr__" = some (some (.builtin "object.__setattr__")))
    (n1 : PySem.W.findIn K (.ref C) "size" = some none) (n2 : PySem.W.findIn K (.ref C) "lots" = some none) (n3 : PySem.W.findIn K (.ref C) "masks" = some none) : FamC K C := ⟨⟨pg, hd, po, sa⟩, n1, n2, n3⟩
theorem clo_c {K : PySem.W.Frag} {C : Addr} (pg : PySem.W.plainGet K C Str.empty = true) (hd : PySem.W.hasDictIn K C = true) (po : PySem.W.plainOver K C = true) (sa : PySem.W.findIn K (.ref C) "__setattr__" = some (some (.builtin "object.__setattr__")))
    (n1 : PySem.W.findIn K (.ref C) "family" = some none) (n2 : PySem.W.findIn K (.ref C) "how" = some none) (n3 : PySem.W.findIn K (.ref C) "order" = some none) (n4 : PySem.W.findIn K (.ref C) "others" = some none) (n5 : PySem.W.findIn K (.ref C) "parts" = some none) (n6 : PySem.W.findIn K (.ref C) "known" = some none) : CloC K C := ⟨⟨pg, hd, po, sa⟩, n1, n2, n3, n4, n5, n6⟩
theorem all_mk {P : Program} {w : World} {K : PySem.W.Frag} {h : Heap} {mg : Str → Option Value} {fa C CC B : Addr} (X : K.In h) (G : h.Ns mainGlobals mg) (hfa : mg "law" = some (.ref fa))
    (aC : PySem.W.nsIn K mainGlobals "Family" = some (some (.ref C))) (aCC : PySem.W.nsIn K mainGlobals "Closing" = some (some (.ref CC))) (hM : ∃ tm, PySem.W.nsIn K mainGlobals "MOST_PLACES" = some (some (.int 10 tm)))
    (p : ProgTops K) (t : Tops K) (bs : Bares K) (bs2 : Bares2 K) (Wd : Words K C) (NF : BadFacts K mg B) (NR : ∀ base, BadRaise P w K mg base B) (FC : FamC K C) (CL : CloC K CC) (FI : FamIs K C) (mC : PySem.W.makesIn K C = true) (kC : PySem.W.keepIn K (.ref C) = true) (mCC : PySem.W.makesIn K CC = true) (kCC : PySem.W.keepIn K (.ref CC) = true)
    (sf : PySem.W.selfFirst K C = true) (ni : PySem.W.notFirst K C (.type "int") = true) (nt : PySem.W.notFirst K C (.type "tuple") = true)
    (fm : FamMet K C) (cm : CloMet K CC) :
    ∃ fd : FuncData, (∀ (s : Shared) (v : Value), BindsTo s fd ⟨[v], []⟩ [("_law_script", v)]) ∧ ∀ base : Heap, K.In base → base.Ns mainGlobals mg → FnOk P w K mg base CX0 9 fa fd ["_law_script"] (spLaw K) := by
  obtain ⟨f, od, an, sl, oc, kV, dc, pm, cd, ct, a, l1, c, kk⟩ := t.d_law
  have e := hfa.symm.trans (PySem.W.mg_of X G a)
  cases e
  refine ⟨PySem.W.fnOf "law" "law" (defArgs sLaw) (defBody sLaw) (defScope sLaw) .none kV dc pm an cd ct, fun s v => .of_eq rfl, fun base b1 b2 => ?_⟩
  obtain ⟨tm, aM⟩ := hM
  have T := bs.bare X G
  have T2 := bs2.bare X G
  have gC := PySem.W.mg_of X G aC
  have gCC := PySem.W.mg_of X G aCC
  have NB := NR base
  have cInt : Cal P w K mg base 1 "is_int" ["value"] (spIsInt K) := cal X G p.d_is_int (fun _ _ _ _ _ _ us hl => match us, hl with | [_], _ => rfl) fun f fd F => ok_is_int F T
  have cBet : Cal P w K mg base 2 "is_between" ["value", "low", "high"] spBetween := cal X G p.d_is_between (fun _ _ _ _ _ _ us hl => match us, hl with | [_, _, _], _ => rfl) fun f fd F => ok_between F cInt
  have cNum : Cal P w K mg base 2 "check_number" ["value", "which", "low", "high"] spGood := cal X G p.d_check_number (fun _ _ _ _ _ _ us hl => match us, hl with | [_, _, _, _], _ => rfl) fun f fd F => ok_check_number F cInt
  have cLotR : Cal P w K mg base 3 "lot_of" ["value", "size"] (spLotOfR K) := cal X G p.d_lot_of (fun _ _ _ _ _ _ us hl => match us, hl with | [_, _], _ => rfl) fun f fd F => ok_lot_ofR F T T2 cBet
  have cLot : Cal P w K mg base 3 "lot_of" ["value", "size"] spLotOf := by
    obtain ⟨g, gd, ok, b, kp, mf⟩ := cLotR.ex
    exact ⟨g, gd, lot_of_asc ok, b, kp, mf⟩
  have cMaskOf : Cal P w K mg base 1 "mask_of" ["lot"] spMaskOf := cal X G p.d_mask_of (fun _ _ _ _ _ _ us hl => match us, hl with | [_], _ => rfl) fun f fd F => ok_mask_of F
  have cLM : Cal P w K mg base 1 "lot_of_mask" ["mask", "size"] spLotOfMask := cal X G p.d_lot_of_mask (fun _ _ _ _ _ _ us hl => match us, hl with | [_, _], _ => rfl) fun f fd F => ok_lot_of_mask F T
  have cSz : CalE P w K mg base 3 "check_sizes" ["one", "two"] (spSizes B C) := calE X G p.d_check_sizes (fun _ _ _ _ _ _ us hl => match us, hl with | [_, _], _ => rfl) fun f fd F => ok_sizes F FC NB
  have cWord : CalE P w K mg base 3 "check_word" ["word"] (spCheckWord B) := calE X G p.d_check_word (fun _ _ _ _ _ _ us hl => match us, hl with | [_], _ => rfl) fun f fd F => ok_check_word F T T2 NB gC Wd
  obtain ⟨fI, mI⟩ := fm.d_init
  obtain ⟨dI, FI0, eI, bI⟩ := met_of (ps := ["self", "size", "lots"]) mI (fun _ _ _ _ _ _ us hl => match us, hl with | [_, _, _], _ => rfl)
  obtain ⟨fT, mT⟩ := fm.d_iter
  obtain ⟨dT, FT, eT, bT⟩ := met_of (ps := ["self"]) mT (fun _ _ _ _ _ _ us hl => match us, hl with | [_], _ => rfl)
  obtain ⟨fN, mN⟩ := fm.d_len
  obtain ⟨dN, FN, eN, bN⟩ := met_of (ps := ["self"]) mN (fun _ _ _ _ _ _ us hl => match us, hl with | [_], _ => rfl)
  obtain ⟨fQ, mQ⟩ := fm.d_eq
  obtain ⟨dQ, FQ, eQ, bQ⟩ := met_of (ps := ["self", "other"]) mQ (fun _ _ _ _ _ _ us hl => match us, hl with | [_, _], _ => rfl)
  obtain ⟨fA, mA⟩ := fm.d_and
  obtain ⟨dA, FA, eA, bA⟩ := met_of (ps := ["self", "other"]) mA (fun _ _ _ _ _ _ us hl => match us, hl with | [_, _], _ => rfl)
  obtain ⟨fR, mR⟩ := fm.d_or
  obtain ⟨dR, FR, eR, bR⟩ := met_of (ps := ["self", "other"]) mR (fun _ _ _ _ _ _ us hl => match us, hl with | [_, _], _ => rfl)
  obtain ⟨fH, mH⟩ := fm.d_held
  obtain ⟨dH, FH, eH, bH⟩ := met_of (ps := ["self", "inside", "outside"]) mH (fun _ _ _ _ _ _ us hl => match us, hl with | [_, _, _], _ => rfl)
  obtain ⟨fCI, mCI⟩ := cm.d_init
  obtain ⟨dCI, FCI, eCI, bCI⟩ := met_of (ps := ["self", "family", "word"]) mCI (fun _ _ _ _ _ _ us hl => match us, hl with | [_, _, _], _ => rfl)
  obtain ⟨fCB, mCB⟩ := cm.d_is_broken
  obtain ⟨dCB, FCB, eCB, bCB⟩ := met_of (ps := ["self", "both", "single"]) mCB (fun _ _ _ _ _ _ us hl => match us, hl with | [_, _, _], _ => rfl)
  obtain ⟨fCM, mCM⟩ := cm.d_misses
  obtain ⟨dCM, FCM, eCM, bCM⟩ := met_of (ps := ["self", "both", "single"]) mCM (fun _ _ _ _ _ _ us hl => match us, hl with | [_, _, _], _ => rfl)
  obtain ⟨fCT, mCT⟩ := cm.d_third
  obtain ⟨dCT, FCT, eCT, bCT⟩ := met_of (ps := ["self", "both", "single"]) mCT (fun _ _ _ _ _ _ us hl => match us, hl with | [_, _, _], _ => rfl)
  have O : OwnIt P w K mg base C fT "lots" := fam_iter FT T2.iter FC.cl FC.lots eT.at_ eT.fn
  have okI := ok_fam_init (P := P) (w := w) (mg := mg) (base := base) (qs := C) FI0 T T2 FC ⟨tm, PySem.W.mg_of X G aM⟩ cNum cLot cMaskOf
  have MI : Mk K C fI := ⟨mC, eI.at_, eI.fn, kC⟩
  have okH := ok_f_heldG (P := P) (w := w) (mg := mg) (base := base) FH T FC gC MI okI bI cLotR cMaskOf
  have okN : FnOk P w K mg base CX0 1 fN dN ["self"] (spFLen C) := ok_f_len FN T FC
  have okQ : FnOk P w K mg base CX0 1 fQ dQ ["self", "other"] (spFEq K C) := ok_f_eq FQ T FC FI gC
  have okA : FnOk P w K mg base (L2.CX P w) 6 fA dA ["self", "other"] (spFAnd B C) := ok_f_and FA FC gC MI okI bI cSz cMaskOf
  have okR : FnOk P w K mg base (L2.CX P w) 6 fR dR ["self", "other"] (spFOr B C) := ok_f_or FR T FC gC MI okI bI cSz cMaskOf
  have LN : DunO K C "__len__" fN := ⟨eN.at_, eN.fn⟩
  have EQ : DunO K C "__eq__" fQ := ⟨eQ.at_, eQ.fn⟩
  have AN : DunO K C "__and__" fA := ⟨eA.at_, eA.fn⟩
  have OR : DunO K C "__or__" fR := ⟨eR.at_, eR.fn⟩
  have okCI := ok_cl_init (P := P) (w := w) (mg := mg) (base := base) FCI CL FC O cMaskOf
  have okCM : FnOk P w K mg base CX0 1 fCM dCM ["self", "both", "single"] (spMisses C CC) := ok_misses FCM T2 CL FC
  have okCB := ok_is_broken FCB CL eCM okCM bCM
  have okCT : FnOk P w K mg base CX0 1 fCT dCT ["self", "both", "single"] (spThird C CC) := ok_third FCT CL FC
  have cBrE : CalE P w K mg base 5 "broken" ["family", "word"] (spBroken B C) := calE X G p.d_broken (fun _ _ _ _ _ _ us hl => match us, hl with | [_, _], _ => rfl) fun f fd F => ok_broken F T T2 CL FC gCC cWord cLM ⟨mCC, eCI.at_, eCI.fn, kCC⟩ okCI bCI eCB (okCB.mono (by decide)) bCB eCT okCT bCT
  have cBr := broken_told cBrE
  have cHo : Cal P w K mg base 1 "holds_against" ["family"] (spHolds C) := cal X G p.d_holds_against (fun _ _ _ _ _ _ us hl => match us, hl with | [_], _ => rfl) fun f fd F => ok_holds F T FC
  have lInt : Cal P w K mg base 1 "_law_int" ["_law_value"] spLawInt := cal X G t.d_l_int (fun _ _ _ _ _ _ us hl => match us, hl with | [_], _ => rfl) fun f fd F => ok_law_int F T
  have lFull : Cal P w K mg base 1 "_law_full" ["_law_size"] spFull := cal X G t.d_l_full (fun _ _ _ _ _ _ us hl => match us, hl with | [_], _ => rfl) fun f fd F => ok_full F T
  have lTake : Cal P w K mg base 1 "_law_take" ["_law_tape", "_law_many"] spDraw := cal X G t.d_l_take (fun _ _ _ _ _ _ us hl => match us, hl with | [_, _], _ => rfl) fun f fd F => ok_draw (ok_take F T)
  have lOnes : Cal P w K mg base 1 "_law_ones" ["_law_mask_here"] spOnes := cal X G t.d_l_ones (fun _ _ _ _ _ _ us hl => match us, hl with | [_], _ => rfl) fun f fd F => ok_ones F T
  have lLot : Cal P w K mg base 1 "_law_lot" ["_law_mask_here"] spLot := cal X G t.d_l_lot (fun _ _ _ _ _ _ us hl => match us, hl with | [_], _ => rfl) fun f fd F => ok_lot F T
  have lMaskR : Cal P w K mg base 2 "_law_mask" ["_law_lot_here"] (spMaskR K) := cal X G t.d_l_mask (fun _ _ _ _ _ _ us hl => match us, hl with | [_], _ => rfl) fun f fd F => ok_maskR F T lFull
  have lMask : Cal P w K mg base 2 "_law_mask" ["_law_lot_here"] (spMask K) := by
    obtain ⟨g, gd, ok, b, kp, mf⟩ := lMaskR.ex
    exact ⟨g, gd, mask_tup ok, b, kp, mf⟩
  have lFam : Cal P w K mg base 2 "_law_family" ["_law_tape", "_law_size"] spFamily := cal X G t.d_l_family (fun _ _ _ _ _ _ us hl => match us, hl with | [_, _], _ => rfl) fun f fd F => ok_family F T lTake lFull lOnes
  have lAll : Cal P w K mg base 2 "_law_all_lots" ["_law_size"] spAllLots := cal X G t.d_l_all_lots (fun _ _ _ _ _ _ us hl => match us, hl with | [_], _ => rfl) fun f fd F => ok_all_lots F T lLot lFull
  have lOrd : Cal P w K mg base 3 "_law_order" ["_law_size"] spOrder := cal X G t.d_l_order (fun _ _ _ _ _ _ us hl => match us, hl with | [_], _ => rfl) fun f fd F => ok_order F T lMask lAll
  have lDraws : Cal P w K mg base 1 "_law_draws" ["_law_script"] (spDraws K) := cal X G t.d_l_draws (fun _ _ _ _ _ _ us hl => match us, hl with | [_], _ => rfl) fun f fd F => ok_draws F T
  have lLots : Cal P w K mg base 2 "_law_lots_of" ["_law_masks"] (spLotsOf K) := cal X G t.d_l_lots_of (fun _ _ _ _ _ _ us hl => match us, hl with | [_], _ => rfl) fun f fd F => ok_lots_of F T lLot
  have lDM : Cal P w K mg base 3 "_law_drawn_masks" ["_law_tape", "_law_size"] spFamily := cal X G t.d_l_drawn_masks (fun _ _ _ _ _ _ us hl => match us, hl with | [_, _], _ => rfl) fun f fd F => ok_drawn_masks F T lTake lFam
  have lShown : Cal P w K mg base 2 "_law_shown" ["_law_found"] (spShown K) := cal X G t.d_l_shown (fun _ _ _ _ _ _ us hl => match us, hl with | [_], _ => rfl) fun f fd F => ok_shown F T lLot
  have lTD : Cal P w K mg base 4 "_law_triple_due" ["_law_masks", "_law_size"] (spTripleDue K) := cal X G t.d_l_triple_due (fun _ _ _ _ _ _ us hl => match us, hl with | [_, _], _ => rfl) fun f fd F => ok_triple_due F T lOrd
  have lGood : Cal P w K mg base 1 "_law_good_number" ["_law_number"] spGood8 := cal X G t.d_l_good_number (fun _ _ _ _ _ _ us hl => match us, hl with | [_], _ => rfl) fun f fd F => ok_good8 F T
  have lHeld : Cal P w K mg base 3 "_law_held" ["_law_masks", "_law_inside", "_law_outside"] (spLHeld K) := cal X G t.d_l_held (fun _ _ _ _ _ _ us hl => match us, hl with | [_, _, _], _ => rfl) fun f fd F => ok_l_held F lMaskR
  have lAN : Cal P w K mg base 4 "_law_all_numbers" ["_law_masks", "_law_size"] (spAllN K) := cal X G t.d_l_all_numbers (fun _ _ _ _ _ _ us hl => match us, hl with | [_, _], _ => rfl) fun f fd F => ok_all_numbers F T lFull lLot lGood lHeld
  have lLK : Cal P w K mg base 2 "_law_lots_ok" ["_law_pair", "_law_size"] spLotsOk := cal X G t.d_l_lots_ok (fun _ _ _ _ _ _ us hl => match us, hl with | [_, _], _ => rfl) fun f fd F => ok_lots_ok F T lInt
  have lAg : Cal P w K mg base 7 "_law_against_ok" ["_law_family_here", "_law_masks", "_law_closed"] (spAgainst K C) := cal X G t.d_l_against_ok (fun _ _ _ _ _ _ us hl => match us, hl with | [_, _, _], _ => rfl) fun f fd F => ok_against F T FC eH okH bH LN okN bN cHo lLK lHeld lGood
  have lAs : Cal P w K mg base 7 "_law_asked_ok" ["_law_tape", "_law_family_here", "_law_masks", "_law_closed"] (spAsked C) := cal X G t.d_l_asked_ok (fun _ _ _ _ _ _ us hl => match us, hl with | [_, _, _, _], _ => rfl) fun f fd F => ok_asked F T FC FI eH okH bH LN okN bN EQ okQ bQ lTake lLots lHeld lGood
  have lWd : Cal P w K mg base 7 "_law_word" ["_law_door", "_law_family_here", "_law_other"] (spWordF C) := cal X G t.d_l_word (fun _ _ _ _ _ _ us hl => match us, hl with | [_, _, _], _ => rfl) fun f fd F => ok_wordF F NF sf AN okA bA OR okR bR
  have lJo : Cal P w K mg base 8 "_law_joined_ok" ["_law_tape", "_law_family_here", "_law_masks"] (spJoined C) := cal X G t.d_l_joined_ok (fun _ _ _ _ _ _ us hl => match us, hl with | [_, _, _], _ => rfl) fun f fd F => ok_joined F T FC FI gC MI okI bI sf ni nt AN (ok_noex okA) bA OR (ok_noex okR) bR EQ okQ bQ lDM lLots lWd
  have lLO : Cal P w K mg base 8 "_law_large_ok" ["_law_tape"] spLargeOk := cal X G t.d_l_large_ok (fun _ _ _ _ _ _ us hl => match us, hl with | [_], _ => rfl) fun f fd F => ok_large_ok F T FC gC MI okI bI cBr cHo lOnes lTake lLots lMaskR lAg lAs
  exact ok_law (fun_mk l1 c kk) T FC gC MI okI bI cBr lDraws lTake lDM lLots lTD lShown lAN lAg lAs lLO lJo
theorem walk9 {l : PySem.W.OpenLaw} {q : Program} {loose : List Str} {XP : (Str → Option Value) → Heap → Prop} {YP : World → Heap → Prop} {d : DefRec} {K : Params → PySem.W.Frag} (hn : l.most = some 63) (hdf : d.params.defaults = [])
    (hY : ∀ (w : World) (h : Heap), YP w h → (K w.params).In h)
    (F : ∀ (w : World) (mg : Str → Option Value) (fa : Addr) (h : Heap), (K w.params).In h → h.Ns mainGlobals mg → mg d.name = some (.ref fa) →
      ∃ fd : FuncData, (∀ (s : Shared) (u : Value), BindsTo s fd ⟨[u], []⟩ [("_law_script", u)]) ∧ ∀ base : Heap, (K w.params).In base → base.Ns mainGlobals mg → FnOk l.prog w (K w.params) mg base CX0 9 fa fd ["_law_script"] (spLaw (K w.params))) :
    PySem.W.WalkO q loose XP YP l.row.toRowW d [] (fun f vs => PySem.call f vs) :=
  L2.walk_of (n := 63) (k := 9) (x := "_law_script") (CX := fun _ => CX0) (sp := fun w => spLaw (K w.params)) hn (by decide) hdf ⟨rfl, by decide, by decide⟩ hY F (fun _ _ a ns hl _ hS => ⟨a, ns, rfl, hS, hl, fun _ => rfl⟩) fun _ _ _ _ _ z => z
end Fam

open PySem PySem.W PyProof.Rows
set_option maxHeartbeats 0 in
set_option maxRecDepth 100000 in
theorem PySem.Challenge.cw_lotsayings_k52_even_by_held_numbers_holds : PySem.Challenge.rw_lotsayings_k52_even_by_held_numbers.Holds := by
  w_on; o_law; k_head; (case hw => w_witness2)
  k_fill
  refine Fam.walk9 (l := PySem.Challenge.rw_lotsayings_k52_even_by_held_numbers) rfl rfl (fun w h Y => PySem.W.kIn_of Y) ?F
  case F =>
    intro w mg fa h KX G hmg
    refine' Fam.all_mk (C := ?C) (CC := ?CC) (B := ?B) KX G hmg ?h1 ?h2 ?h3 ⟨?h4, ?h5, ?h6, ?h7, ?h8, ?h9, ?h10, ?h11, ?h12, ?h13⟩ ⟨?h14, ?h15, ?h16, ?h17, ?h18, ?h19, ?h20, ?h21, ?h22, ?h23, ?h24, ?h25, ?h26, ?h27, ?h28, ?h29, ?h30, ?h31, ?h32, ?h33, ?h34, ?h35, ?h36, ?h37⟩ ⟨?h38, ?h39, ?h40, ?h41, ?h42, ?h43, ?h44, ?h45, ?h46, ?h47⟩ ⟨?h48, ?h49, ?h50, ?h51, ?h52, ?h53, ?h54, ?h55⟩
      (Fam.words_mk (mc := .type "type") ?h56 ?h57 ?h58 ?h59 ?h60 ?h61 ?h62)
      (Fam.bad_mk KX G ?h63 ?h64 ?h65 ?h66 ?h67 ?h68 ?h69 ?h70 ?h71)
      (fun base => Fam.bad_raise_mk KX G ?h72 ?h73 ?h74 ?h75 ?h76 ?h77 ?h78 ?h79 ?h80 ?h81 ?h82 ?h83 ?h84)
      (Fam.fam_c ?h85 ?h86 ?h87 ?h88 ?h89 ?h90 ?h91) (Fam.clo_c ?h92 ?h93 ?h94 ?h95 ?h96 ?h97 ?h98 ?h99 ?h100 ?h101) (Fam.fam_is ?h102 ?h103 ?h104 ?h105 ?h106 ?h107) ?h108 ?h109 ?h110 ?h111 ?h112 ?h113 ?h114 ⟨?h115, ?h116, ?h117, ?h118, ?h119, ?h120, ?h121⟩ ⟨?h122, ?h123, ?h124, ?h125⟩
    case h1 => k_is
    case h2 => k_is
    case h3 => exact ⟨_, rfl⟩
    case h4 => (refine' Fam.def_at ?a ?l ?c ?k; (case a => k_is); (case l => k_is); (case c => k_is); (case k => k_is))
    case h5 => (refine' Fam.def_at ?a ?l ?c ?k; (case a => k_is); (case l => k_is); (case c => k_is); (case k => k_is))
    case h6 => (refine' Fam.def_at ?a ?l ?c ?k; (case a => k_is); (case l => k_is); (case c => k_is); (case k => k_is))
    case h7 => (refine' Fam.def_at ?a ?l ?c ?k; (case a => k_is); (case l => k_is); (case c => k_is); (case k => k_is))
    case h8 => (refine' Fam.def_at ?a ?l ?c ?k; (case a => k_is); (case l => k_is); (case c => k_is); (case k => k_is))
    case h9 => (refine' Fam.def_at ?a ?l ?c ?k; (case a => k_is); (case l => k_is); (case c => k_is); (case k => k_is))
    case h10 => (refine' Fam.def_at ?a ?l ?c ?k; (case a => k_is); (case l => k_is); (case c => k_is); (case k => k_is))
    case h11 => (refine' Fam.def_at ?a ?l ?c ?k; (case a => k_is); (case l => k_is); (case c => k_is); (case k => k_is))
    case h12 => (refine' Fam.def_at ?a ?l ?c ?k; (case a => k_is); (case l => k_is); (case c => k_is); (case k => k_is))
    case h13 => (refine' Fam.def_at ?a ?l ?c ?k; (case a => k_is); (case l => k_is); (case c => k_is); (case k => k_is))
    case h14 => (refine' Fam.def_at ?a ?l ?c ?k; (case a => k_is); (case l => k_is); (case c => k_is); (case k => k_is))
    case h15 => (refine' Fam.def_at ?a ?l ?c ?k; (case a => k_is); (case l => k_is); (case c => k_is); (case k => k_is))
    case h16 => (refine' Fam.def_at ?a ?l ?c ?k; (case a => k_is); (case l => k_is); (case c => k_is); (case k => k_is))
    case h17 => (refine' Fam.def_at ?a ?l ?c ?k; (case a => k_is); (case l => k_is); (case c => k_is); (case k => k_is))
    case h18 => (refine' Fam.def_at ?a ?l ?c ?k; (case a => k_is); (case l => k_is); (case c => k_is); (case k => k_is))
    case h19 => (refine' Fam.def_at ?a ?l ?c ?k; (case a => k_is); (case l => k_is); (case c => k_is); (case k => k_is))
    case h20 => (refine' Fam.def_at ?a ?l ?c ?k; (case a => k_is); (case l => k_is); (case c => k_is); (case k => k_is))
    case h21 => (refine' Fam.def_at ?a ?l ?c ?k; (case a => k_is); (case l => k_is); (case c => k_is); (case k => k_is))
    case h22 => (refine' Fam.def_at ?a ?l ?c ?k; (case a => k_is); (case l => k_is); (case c => k_is); (case k => k_is))
    case h23 => (refine' Fam.def_at ?a ?l ?c ?k; (case a => k_is); (case l => k_is); (case c => k_is); (case k => k_is))
    case h24 => (refine' Fam.def_at ?a ?l ?c ?k; (case a => k_is); (case l => k_is); (case c => k_is); (case k => k_is))
    case h25 => (refine' Fam.def_at ?a ?l ?c ?k; (case a => k_is); (case l => k_is); (case c => k_is); (case k => k_is))
    case h26 => (refine' Fam.def_at ?a ?l ?c ?k; (case a => k_is); (case l => k_is); (case c => k_is); (case k => k_is))
    case h27 => (refine' Fam.def_at ?a ?l ?c ?k; (case a => k_is); (case l => k_is); (case c => k_is); (case k => k_is))
    case h28 => (refine' Fam.def_at ?a ?l ?c ?k; (case a => k_is); (case l => k_is); (case c => k_is); (case k => k_is))
    case h29 => (refine' Fam.def_at ?a ?l ?c ?k; (case a => k_is); (case l => k_is); (case c => k_is); (case k => k_is))
    case h30 => (refine' Fam.def_at ?a ?l ?c ?k; (case a => k_is); (case l => k_is); (case c => k_is); (case k => k_is))
    case h31 => (refine' Fam.def_at ?a ?l ?c ?k; (case a => k_is); (case l => k_is); (case c => k_is); (case k => k_is))
    case h32 => (refine' Fam.def_at ?a ?l ?c ?k; (case a => k_is); (case l => k_is); (case c => k_is); (case k => k_is))
    case h33 => (refine' Fam.def_at ?a ?l ?c ?k; (case a => k_is); (case l => k_is); (case c => k_is); (case k => k_is))
    case h34 => (refine' Fam.def_at ?a ?l ?c ?k; (case a => k_is); (case l => k_is); (case c => k_is); (case k => k_is))
    case h35 => (refine' Fam.def_at ?a ?l ?c ?k; (case a => k_is); (case l => k_is); (case c => k_is); (case k => k_is))
    case h36 => (refine' Fam.def_at ?a ?l ?c ?k; (case a => k_is); (case l => k_is); (case c => k_is); (case k => k_is))
    case h37 => (refine' Fam.def_at ?a ?l ?c ?k; (case a => k_is); (case l => k_is); (case c => k_is); (case k => k_is))
    case h38 => k_is
    case h39 => k_is
    case h40 => k_is
    case h41 => k_is
    case h42 => k_is
    case h43 => k_is
    case h44 => k_is
    case h45 => k_is
    case h46 => k_is
    case h47 => k_is
    case h48 => k_is
    case h49 => k_is
    case h50 => k_is
    case h51 => k_is
    case h52 => k_is
    case h53 => k_is
    case h54 => k_is
    case h55 => k_is
    case h56 => k_is
    case h57 => k_is
    case h58 => k_is
    case h59 => k_is
    case h60 => k_is
    case h61 => decide
    case h62 => exact .cons ⟨_, rfl⟩ (.cons ⟨_, rfl⟩ (.cons ⟨_, rfl⟩ (.cons ⟨_, rfl⟩ (.cons ⟨_, rfl⟩ .nil))))
    case h63 => k_is
    case h64 => k_is
    case h65 => k_is
    case h66 => k_is
    case h67 => k_is
    case h68 => k_is
    case h69 => k_is
    case h70 => k_is
    case h71 => k_is
    case h72 => k_is
    case h73 => k_is
    case h74 => decide +kernel
    case h75 => k_is
    case h76 => k_is
    case h77 => k_is
    case h78 => k_is
    case h79 => k_is
    case h80 => k_is
    case h81 => k_is
    case h82 => k_is
    case h83 => k_is
    case h84 => k_is
    case h85 => k_is
    case h86 => k_is
    case h87 => k_is
    case h88 => k_is
    case h89 => k_is
    case h90 => k_is
    case h91 => k_is
    case h92 => k_is
    case h93 => k_is
    case h94 => k_is
    case h95 => k_is
    case h96 => k_is
    case h97 => k_is
    case h98 => k_is
    case h99 => k_is
    case h100 => k_is
    case h101 => k_is
    case h102 => k_is
    case h103 => k_is
    case h104 => k_is
    case h105 => k_is
    case h106 => k_is
    case h107 => k_is
    case h108 => k_is
    case h109 => k_is
    case h110 => k_is
    case h111 => k_is
    case h112 => k_is
    case h113 => k_is
    case h114 => k_is
    case h115 => (refine' Fam.met_at ?a ?b ?l ?c ?k; (case a => k_is); (case b => k_is); (case l => k_is); (case c => k_is); (case k => k_is))
    case h116 => (refine' Fam.met_at ?a ?b ?l ?c ?k; (case a => k_is); (case b => k_is); (case l => k_is); (case c => k_is); (case k => k_is))
    case h117 => (refine' Fam.met_at ?a ?b ?l ?c ?k; (case a => k_is); (case b => k_is); (case l => k_is); (case c => k_is); (case k => k_is))
    case h118 => (refine' Fam.met_at ?a ?b ?l ?c ?k; (case a => k_is); (case b => k_is); (case l => k_is); (case c => k_is); (case k => k_is))
    case h119 => (refine' Fam.met_at ?a ?b ?l ?c ?k; (case a => k_is); (case b => k_is); (case l => k_is); (case c => k_is); (case k => k_is))
    case h120 => (refine' Fam.met_at ?a ?b ?l ?c ?k; (case a => k_is); (case b => k_is); (case l => k_is); (case c => k_is); (case k => k_is))
    case h121 => (refine' Fam.met_at ?a ?b ?l ?c ?k; (case a => k_is); (case b => k_is); (case l => k_is); (case c => k_is); (case k => k_is))
    case h122 => (refine' Fam.met_at ?a ?b ?l ?c ?k; (case a => k_is); (case b => k_is); (case l => k_is); (case c => k_is); (case k => k_is))
    case h123 => (refine' Fam.met_at ?a ?b ?l ?c ?k; (case a => k_is); (case b => k_is); (case l => k_is); (case c => k_is); (case k => k_is))
    case h124 => (refine' Fam.met_at ?a ?b ?l ?c ?k; (case a => k_is); (case b => k_is); (case l => k_is); (case c => k_is); (case k => k_is))
    case h125 => (refine' Fam.met_at ?a ?b ?l ?c ?k; (case a => k_is); (case b => k_is); (case l => k_is); (case c => k_is); (case k => k_is))
