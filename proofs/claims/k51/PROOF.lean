import PyProof.Rows.All
import Wide.All
import OpenK.AllK
import Wide.FinOn
import HandS.ForMost
import HandS.Codes
import HandS.Conv
import HandS.IsInst
import HandS.NamedTupSort
import HandS.ForExc
import HandS.WideBits
import HandS.ClsMeth
import HandS.IterVal
import HandS.Words
import HandS.SortKw
import HandS.SetFor
import HandS.DictComp
import HandS.Strs
import HandS.TryMany
import HandS.ExcField
import HandS.ExcInit
import HandS.ExcOwn
import HandS.Exc
import HandS.Walk
import HandS.Style
import PySem.Challenge.RW_lotsayings_k51_and_by_holders_two_by_pai
set_option Elab.async false
set_option linter.all false
set_option maxRecDepth 100000
set_option maxHeartbeats 4000000
/-! The law's own part of the row by places. -/
namespace Fam
open PySem
def top (i : Nat) : Stmt := PySem.Challenge.pw_lotsayings_k51_and_by_holders_two_by_pai.main.body.getD i (.Pass ⟨0, 0, 0, 0⟩)

abbrev sDraws : Stmt := top 44
abbrev sTake : Stmt := top 45
abbrev sFull : Stmt := top 46
abbrev sOnes : Stmt := top 47
abbrev sLot : Stmt := top 48
abbrev sMask : Stmt := top 49
abbrev sFamily : Stmt := top 50
abbrev sAllLots : Stmt := top 51
abbrev sDrawnMasks : Stmt := top 52
abbrev sOrder : Stmt := top 53
abbrev sLotsOf : Stmt := top 54
abbrev sShown : Stmt := top 55
abbrev sPairDue : Stmt := top 56
abbrev sTripleDue : Stmt := top 57
abbrev sClosedBy : Stmt := top 58
abbrev sHeldSo : Stmt := top 59
abbrev sLooks : Stmt := top 60
abbrev sAllOk : Stmt := top 61
abbrev sToldOk : Stmt := top 62
abbrev sWord : Stmt := top 63
abbrev sLargeOk : Stmt := top 64
abbrev sLaw : Stmt := top 65
end Fam

/-! The tape and the numbers of the families' laws. -/
namespace Fam
open PySem L2
open C8 (pss_cut tCut)

/-- built-in names that the top leaves as they are -/
structure Bare (mg : Str → Option Value) : Prop where
  len : mg "len" = none
  int : mg "int" = none
  range : mg "range" = none
  min : mg "min" = none
  bool : mg "bool" = none
  isi : mg "isinstance" = none
  tuple : mg "tuple" = none
  list : mg "list" = none
  abs : mg "abs" = none
  sorted : mg "sorted" = none

theorem ixN_at {n j : Nat} (h : j < n) : ixN n (j : Int) = some j := by
  unfold ixN
  rw [if_pos (Int.natCast_nonneg j), if_pos (by omega)]
  rfl
theorem small {n m : Nat} (h : n ≤ m) (hm : m ≤ 16777216 := by decide) : n ≤ sizeLine := by
  rw [sizeLine_eq]
  omega
theorem below {n m : Nat} (h : n ≤ m) (hm : m < 16777216 := by decide) : n < sizeLine := by
  rw [sizeLine_eq]
  omega
/-- a new address: all that stood stands -/
theorem same_new {H : Hp} {p : Addr} {o : HO} (h : H p = none) : Same H (upd H p o) := fun b x e => by
  rw [upd_ne (ne_of_none e h)]
  exact e

theorem fm {x b : Int} (h : 0 < b) (h2 : b ≤ 2147483648) : 0 ≤ x.fmod b ∧ x.fmod b < 2147483648 := ⟨Int.fmod_nonneg_of_pos _ h, Int.lt_of_lt_of_le (Int.fmod_lt_of_pos _ h) h2⟩

/-! ### the tape -/
/-- the tape at a: its cursor c and the numbers behind it -/
def TapeAt (H : Hp) (a : Addr) (c : Nat) (ts : List Int) : Prop := H a = some (.lst (V.int (c : Int) :: ts.map V.int))
/-- what one draw gives, and the cursor behind it -/
def drawn (c : Nat) (ts : List Int) (m : Int) : Int := if c < ts.length then (ts.getD c 0).fmod m else 0
def after (c : Nat) (ts : List Int) : Nat := if c < ts.length then c + 1 else c
theorem drawn_lt {c : Nat} {ts : List Int} {m : Int} (hm : 0 < m) : 0 ≤ drawn c ts m ∧ drawn c ts m < m := by
  unfold drawn
  split
  · exact ⟨Int.fmod_nonneg_of_pos _ hm, Int.fmod_lt_of_pos _ hm⟩
  · exact ⟨Int.le_refl _, hm⟩

def spTake : Sp := fun vs H Q _ => ∃ (a : Addr) (c : Nat) (ts : List Int) (m : Int), vs = [.ref a, .int m] ∧ TapeAt H a c ts ∧ m ≠ 0 ∧
  ∀ H' : Hp, (∀ b, b ≠ a → H' b = H b) → TapeAt H' a (after c ts) ts → Q (.int (drawn c ts m)) H'
/-- the numbers of a tape, laid from a script -/
def spDraws (K : PySem.W.Frag) : Sp := fun vs H Q _ => ∃ (a : Addr) (ns : List Int), vs = [.ref a] ∧ SqL K H a (ns.map V.int) ∧ ns.length ≤ 63 ∧
  ∀ (H' : Hp) (p : Addr) (ts : List Int), Same H H' → H p = none → TapeAt H' p 0 ts → Q (.ref p) H'

section
variable {P : Program} {w : World} {K : PySem.W.Frag} {mg : Str → Option Value} {base : Heap}
theorem scT : FnScope ["_law_tape", "_law_many", "_law_at"] ["_law_tape", "_law_many"] (defScope sTake) := ⟨rfl, rfl, rfl, by decide +kernel, rfl, by decide +kernel, by decide +kernel⟩
theorem ok_take {f : Addr} {fd : FuncData} (F : Fun K "_law_take" "_law_take" sTake f fd) (T : Bare mg) : FnOk P w K mg base CX0 1 f fd ["_law_tape", "_law_many"] spTake := by
  refine F.ok scT (fun vs H Q E h => ?_) (fun cdv A outer s H vs Q E hr h => ?_)
  · obtain ⟨a, c, ts, m, rfl, _⟩ := h
    rfl
  · obtain ⟨a, c, ts, m, rfl, hT, hm, k⟩ := h
    refine ⟨_, pss_cons (ps_set (i := 2) scT.nd rfl (Or.inl rfl) (pe_op op_add (pe_ix ix_list (pv 0) pe_int (fun _ _ => rfl)) pe_int))
      (pss_cons (ps_if (pt_cmpR op_ge (pv 2) (pe_callB call_len_seq (by rfl) T.len PySem.boot_len (pa_cons (pv 0) pa_nil)) (nomark _)) (pss_one (ps_ret pe_int)) pss_nil)
      (pss_cons (ps_asg (pv 2) (pg_sub (pv 0) pe_int set_list))
      (pss_one (ps_ret (pe_op op_modN (pe_callTy call_int1 (by rfl) T.int (by decide +kernel) (pa_cons (pe_ix ix_list (pv 0) (pv 2) (fun _ _ => rfl)) pa_nil)) (pv 1)))))), ?_⟩
    refine ⟨_, rfl, a, _, _, _, rfl, rfl, SqL.of hT, atI_nat (j := 0) rfl, _, _, rfl, rfl, ?_⟩
    refine ⟨_, rfl, _, rfl, a, _, rfl, .inl (SqL.of hT), _, _, rfl, rfl, _, rfl, ?_⟩
    have el : ((V.int (c : Int) :: ts.map V.int).length : Int) = (ts.length : Int) + 1 := by
      rw [List.length_cons, List.length_map]
      omega
    refine ite2 (fun z => ?_) (fun z => ?_)
    · have z' := of_decide_eq_true z
      have hc : ¬ c < ts.length := by omega
      have e1 : drawn c ts m = 0 := if_neg hc
      have e2 : after c ts = c := if_neg hc
      have q := k H (fun _ _ => rfl) (by rw [e2]; exact hT)
      rw [e1] at q
      exact q
    · have z' := fun q => z (decide_eq_true q)
      have hc : c < ts.length := by
        have z2 : ¬ (((V.int (c : Int) :: ts.map V.int).length : Int) ≤ (c : Int) + 1) := z'
        omega
      have e1 : drawn c ts m = (ts.getD c 0).fmod m := if_pos hc
      have e2 : after c ts = c + 1 := if_pos hc
      have hi : (V.int (c : Int) :: ts.map V.int)[c + 1]? = some (V.int (ts.getD c 0)) := by
        rw [List.getElem?_cons_succ, List.getElem?_map, List.getD_eq_getElem?_getD, List.getElem?_eq_getElem hc]
        rfl
      refine ⟨_, rfl, _, rfl, a, _, _, 0, rfl, rfl, hT, ixN_at (j := 0) (by rw [List.length_cons]; omega), ?_⟩
      have eu : (V.int (c : Int) :: ts.map V.int).set 0 (V.int ((c : Int) + 1)) = V.int (((c + 1 : Nat)) : Int) :: ts.map V.int := rfl
      have hi2 : ((V.int (c : Int) :: ts.map V.int).set 0 (V.int ((c : Int) + 1)))[c + 1]? = some (V.int (ts.getD c 0)) := hi
      refine ⟨_, rfl, _, rfl, a, _, _, V.int (ts.getD c 0), rfl, rfl, SqL.of upd_same, atI_nat (j := c + 1) hi2, .inl ⟨_, rfl, _, rfl, _, _, rfl, rfl, hm, ?_⟩⟩
      have q := k (upd H a (.lst (V.int ((c + 1 : Nat) : Int) :: ts.map V.int))) (fun b hb => upd_ne hb) (by rw [e2]; exact upd_same)
      rw [e1] at q
      exact q

theorem scD : FnScope ["_law_script", "_law_tape", "_law_place", "_law_cell", "_law_k", "_law_mixed"] ["_law_script"] (defScope sDraws) := ⟨rfl, rfl, rfl, by decide +kernel, rfl, by decide +kernel, by decide +kernel⟩
theorem ok_draws {f : Addr} {fd : FuncData} (F : Fun K "_law_draws" "_law_draws" sDraws f fd) (T : Bare mg) : FnOk P w K mg base CX0 1 f fd ["_law_script"] (spDraws K) := by
  refine F.ok scD (fun vs H Q E h => ?_) (fun cdv A outer s H vs Q E hr h => ?_)
  · obtain ⟨a, ns, rfl, _⟩ := h
    rfl
  · obtain ⟨a, ns, rfl, hS, hl, k⟩ := h
    refine ⟨_, pss_cons (ps_set (i := 1) scD.nd rfl (Or.inl rfl) (pe_lst (pa_cons pe_int pa_nil)))
      (pss_cons (ps_for PassesOwn.never rfl (pi_range1 rfl T.range (pa_cons (pe_callB (call_min2 rfl) (by rfl) T.min (by decide +kernel) (pa_cons (pe_callB call_len_seq (by rfl) T.len PySem.boot_len (pa_cons (pv 0) pa_nil)) (pa_cons pe_int pa_nil))) pa_nil))
          (pg_name (i := 2) scD.nd rfl (Or.inl rfl))
        (pss_cons (ps_set (i := 3) scD.nd rfl (Or.inl rfl) (pe_callTy call_int1 (by rfl) T.int (by decide +kernel) (pa_cons (pe_ix ix_list (pv 0) (pv 2) (fun _ _ => rfl)) pa_nil)))
        (pss_cut (ps_if (pt_cmpR op_lt (pv 3) pe_int (nomark _)) (pss_one (ps_set (i := 3) scD.nd rfl (Or.inl rfl) (pe_op op_sub pe_int (pv 3)))) pss_nil)
        (pss_one (ps_if (pt_cmpR op_ge (pv 3) (pe_op op_pow pe_int pe_int) (nomark _))
          (pss_one (ps_for PassesOwn.never rfl (pi_range1 rfl T.range (pa_cons pe_int pa_nil)) (pg_name (i := 4) scD.nd rfl (Or.inl rfl))
            (pss_one (ps_if (pt_cmpR op_gt (pv 3) pe_int (nomark _))
              (pss_cons (ps_expr (pe_bm PySem.F.plainAttrs_list PySem.F.slot_list_append PySem.F.type_list_append mt_append (pv 1) (pa_cons (pe_op op_modN (pe_callTy call_int1 (by rfl) T.int (by decide +kernel) (pa_cons (pv 3) pa_nil)) pe_int) pa_nil)))
              (pss_one (ps_set (i := 3) scD.nd rfl (Or.inl rfl) (pe_op op_fdivN (pv 3) pe_int)))) pss_nil))))
          (pss_cons (ps_set (i := 5) scD.nd rfl (Or.inl rfl) (pe_op op_modN (pe_callTy call_int1 (by rfl) T.int (by decide +kernel) (pa_cons (pe_op op_add (pe_op op_add (pe_op op_mul (pv 3) pe_int) (pe_op op_mul (pv 2) pe_int)) pe_int) pa_nil)) pe_int))
          (pss_one (ps_for PassesOwn.never rfl (pi_range1 rfl T.range (pa_cons pe_int pa_nil)) (pg_name (i := 4) scD.nd rfl (Or.inl rfl))
            (pss_cons (ps_set (i := 5) scD.nd rfl (Or.inl rfl) (pe_op op_modN (pe_callTy call_int1 (by rfl) T.int (by decide +kernel) (pa_cons (pe_op op_add (pe_op op_add (pe_op op_add (pe_op op_mul (pv 5) (pv 5)) (pe_op op_mul (pv 4) pe_int)) (pe_op op_mul (pv 2) pe_int)) pe_int) pa_nil)) pe_int))
            (pss_one (ps_expr (pe_bm PySem.F.plainAttrs_list PySem.F.slot_list_append PySem.F.type_list_append mt_append (pv 1) (pa_cons (pv 5) pa_nil)))))))))))))
      (pss_one (ps_ret (pv 1)))), ?_⟩
    refine ⟨small (m := 1) (Nat.le_refl _), fun p hp => ?_⟩
    have s1 : Same H (upd H p (.lst [V.int 0])) := same_new hp
    refine ⟨_, rfl, a, _, rfl, .inl (s1.seq hS), _, _, rfl, ?_⟩
    obtain ⟨j, hj⟩ : ∃ j : Nat, (if (63 : Int) < ((ns.map V.int).length : Int) then (63 : Int) else ((ns.map V.int).length : Int)) = (j : Int) ∧ j ≤ ns.length := by
      rw [List.length_map]
      by_cases q : (63 : Int) < (ns.length : Int)
      · exact ⟨63, by rw [if_pos q]; rfl, by omega⟩
      · exact ⟨ns.length, by rw [if_neg q], Nat.le_refl _⟩
    rw [hj.1]
    refine ⟨_, rfl, by omega, by omega, for_range (lo := 0) (n := j) (fun i σ H' => ∃ (ts : List Int) (y2 y3 y4 y5 : Option V), σ = [some (.ref a), some (.ref p), y2, y3, y4, y5] ∧ Same H H' ∧ TapeAt H' p 0 ts ∧ ts.length ≤ 48 * i)
      ⟨[], none, none, none, none, rfl, s1, upd_same, by simp⟩ ?_ ?_⟩
    · rintro i σ H1 hi ⟨ts, y2, y3, y4, y5, rfl, sm, hT, hlen⟩
      have hin : i < ns.length := by omega
      have gi : (ns.map V.int)[i]? = some (V.int ns[i]) := by
        rw [List.getElem?_map, List.getElem?_eq_getElem hin]
        rfl
      refine ⟨_, rfl, _, rfl, a, _, _, V.int ns[i], rfl, rfl, sm.seq hS, by rw [Int.zero_add]; exact atI_nat gi, .inl ⟨_, rfl, ?_⟩⟩
      refine ⟨fun σ' H' => H' = H1 ∧ ∃ c : Int, σ' = [some (.ref a), some (.ref p), some (.int (0 + (i : Int))), some (.int c), y4, y5], ⟨_, rfl, _, _, rfl, rfl, _, rfl, ite2 (fun _ => ⟨_, rfl, _, _, rfl, rfl, rfl, _, rfl⟩) fun _ => ⟨rfl, _, rfl⟩⟩, ?_⟩
      rintro _ _ ⟨rfl, c, rfl⟩
      -- the word of both loops within
      refine ⟨_, rfl, _, _, rfl, rfl, ⟨by decide, by decide, by decide⟩, _, _, rfl, rfl, _, rfl, ite2 (fun z => ?_) (fun z => ?_)⟩
      · refine ⟨_, rfl, by decide, by decide, for_range (lo := 0) (n := 48) (fun q σ' H' => ∃ (ts' : List Int) (c : Int) (y4 : Option V), σ' = [some (.ref a), some (.ref p), some (.int (0 + (i : Int))), some (.int c), y4, y5] ∧ Same H H' ∧ TapeAt H' p 0 ts' ∧ ts'.length ≤ 48 * i + q)
          ⟨ts, c, y4, rfl, sm, hT, hlen⟩ ?_ ?_⟩
        · rintro q σ H2 hq ⟨ts', c, y4, rfl, sm, hT, hlen⟩
          refine ⟨_, rfl, _, _, rfl, rfl, _, rfl, ite2 (fun z => ?_) (fun z => ⟨ts', c, _, rfl, sm, hT, by omega⟩)⟩
          refine ⟨_, rfl, .inl ⟨rfl, _, SqL.of hT⟩, _, rfl, .inl ⟨_, rfl, _, _, rfl, rfl, (by show (30 : Int) ≠ 0; decide), p, _, _, rfl, rfl, hT, ?_, ?_⟩⟩
          · rw [List.length_cons, List.length_map]
            exact below (m := 4000) (by omega)
          · refine ⟨_, rfl, _, _, rfl, rfl, ⟨by decide, by decide⟩, ts' ++ [c.fmod 30], _, _, rfl, fun b o e => ?_, ?_, ?_⟩
            · rw [upd_ne (ne_of_none e hp)]
              exact sm _ _ e
            · unfold TapeAt
              rw [upd_same, List.map_append]
              rfl
            · rw [List.length_append]
              show ts'.length + 1 ≤ _
              omega
        · rintro σ H2 ⟨ts', c, y4, rfl, sm, hT, hlen⟩
          exact ⟨ts', _, _, _, _, rfl, sm, hT, by omega⟩
      · refine ⟨_, rfl, _, _, rfl, rfl, .inr ⟨by decide, by decide⟩, _, rfl, _, _, rfl, rfl, .inr ⟨by decide, by decide⟩, _, _, rfl, rfl, _, _, rfl, rfl, .inl ⟨_, rfl, _, _, rfl, rfl, (by show (2147483629 : Int) ≠ 0; decide), ?_⟩⟩
        refine ⟨_, rfl, by decide, by decide, for_range (lo := 0) (n := 5) (fun q σ' H' => ∃ (ts' : List Int) (m : Int) (y4 : Option V), σ' = [some (.ref a), some (.ref p), some (.int (0 + (i : Int))), some (.int c), y4, some (.int m)] ∧ Same H H' ∧ TapeAt H' p 0 ts' ∧ ts'.length ≤ 48 * i + q ∧ 0 ≤ m ∧ m < 2147483648)
          ⟨ts, _, y4, rfl, sm, hT, by omega, fm (by decide) (by decide)⟩ ?_ ?_⟩
        · rintro q σ H2 hq ⟨ts', m, y4, rfl, sm, hT, hlen, hm0, hm1⟩
          refine ⟨_, rfl, _, rfl, _, _, rfl, rfl, .inl ⟨by omega, by omega⟩, _, rfl, _, _, rfl, rfl, .inr ⟨by decide, by decide⟩, _, _, rfl, rfl, _, rfl, _, _, rfl, rfl, .inr ⟨by decide, by decide⟩, _, _, rfl, rfl, _, _, rfl, rfl, .inl ⟨_, rfl, _, _, rfl, rfl, (by show (2147483587 : Int) ≠ 0; decide), ?_⟩⟩
          refine ⟨_, rfl, .inl ⟨rfl, _, SqL.of hT⟩, _, rfl, p, _, _, rfl, rfl, hT, ?_, ts' ++ [(m * m + (0 + (q : Int)) * 48611 + (0 + (i : Int)) * 31 + 11).fmod 2147483587], _, _, rfl, fun b o e => ?_, ?_, ?_, fm (by decide) (by decide)⟩
          · rw [List.length_cons, List.length_map]
            exact below (m := 4000) (by omega)
          · rw [upd_ne (ne_of_none e hp)]
            exact sm _ _ e
          · unfold TapeAt
            rw [upd_same, List.map_append]
            rfl
          · rw [List.length_append]
            show ts'.length + 1 ≤ _
            omega
        · rintro σ H2 ⟨ts', m, y4, rfl, sm, hT, hlen, _⟩
          exact ⟨ts', _, _, _, _, rfl, sm, hT, by omega⟩
    · rintro σ H1 ⟨ts, y2, y3, y4, y5, rfl, sm, hT, hlen⟩
      exact ⟨_, rfl, k H1 p ts sm hp hT⟩
end
end Fam

/-! Masks and lots of the families' laws. -/
namespace Fam
open PySem L2
open C8 (pss_cut tCut)

/-! ### the law's words, told by whole numbers -/
/-- how many of the lower n places the mask m has -/
def onesN (m : Nat) : Nat → Nat
  | 0 => 0
  | n + 1 => onesN m n + m / 2 ^ n % 2
/-- the places among the lower n that the mask m has -/
def lotN (m : Nat) : Nat → List Nat
  | 0 => []
  | n + 1 => if m / 2 ^ n % 2 = 1 then lotN m n ++ [n] else lotN m n
/-- the mask of a lot -/
def maskN (l : List Nat) : Nat := (l.map (fun i => 2 ^ i)).sum
abbrev vInt (n : Nat) : V := .int (n : Int)
abbrev lotV (m : Nat) : List V := (lotN m 12).map vInt

theorem fmod2 (n : Nat) : ((n : Int).fmod 2) = ((n % 2 : Nat) : Int) := by
  rw [Int.fmod_eq_emod_of_nonneg _ (by decide)]
  rfl
theorem fdiv2 (n : Nat) : ((n : Int).fdiv 2) = ((n / 2 : Nat) : Int) := by
  rw [Int.fdiv_eq_ediv_of_nonneg _ (by decide)]
  rfl
theorem half (m i : Nat) : m / 2 ^ i / 2 = m / 2 ^ (i + 1) := by rw [Nat.div_div_eq_div_mul, Nat.pow_succ]

def spFull : Sp := fun vs H Q _ => ∃ n : Nat, vs = [vInt n] ∧ n ≤ 60 ∧ Q (vInt (2 ^ n)) H
def spOnes : Sp := fun vs H Q _ => ∃ m : Nat, vs = [vInt m] ∧ Q (vInt (onesN m 12)) H
def spLot : Sp := fun vs H Q _ => ∃ m : Nat, vs = [vInt m] ∧ ∀ (H' : Hp) (p : Addr), Same H H' → H p = none → H' p = some (.tup (lotV m)) → Q (.ref p) H'

section
variable {P : Program} {w : World} {K : PySem.W.Frag} {mg : Str → Option Value} {base : Heap}
theorem scF : FnScope ["_law_size", "_law_full_here", "_law_k"] ["_law_size"] (defScope sFull) := ⟨rfl, rfl, rfl, by decide +kernel, rfl, by decide +kernel, by decide +kernel⟩
theorem ok_full {f : Addr} {fd : FuncData} (F : Fun K "_law_full" "_law_full" sFull f fd) (T : Bare mg) : FnOk P w K mg base CX0 1 f fd ["_law_size"] spFull := by
  refine F.ok scF (fun vs H Q E h => ?_) (fun cdv A outer s H vs Q E hr h => ?_)
  · obtain ⟨n, rfl, _⟩ := h
    rfl
  · obtain ⟨n, rfl, hn, k⟩ := h
    refine ⟨_, pss_cons (ps_set (i := 1) scF.nd rfl (Or.inl rfl) pe_int)
      (pss_cons (ps_for PassesOwn.never rfl (pi_range1 rfl T.range (pa_cons (pv 0) pa_nil)) (pg_name (i := 2) scF.nd rfl (Or.inl rfl))
        (pss_one (ps_set (i := 1) scF.nd rfl (Or.inl rfl) (pe_op op_mul (pv 1) pe_int))))
      (pss_one (ps_ret (pv 1)))), ?_⟩
    refine ⟨_, rfl, ?_⟩
    refine ⟨_, rfl, by omega, by omega, for_range (lo := 0) (n := n) (fun i σ H' => ∃ y : Option V, σ = [some (vInt n), some (vInt (2 ^ i)), y] ∧ H' = H) ⟨none, rfl, rfl⟩ ?_ ?_⟩
    · rintro i σ H1 hi ⟨y, rfl, rfl⟩
      refine ⟨_, rfl, _, _, rfl, rfl, .inr ⟨by decide, by decide⟩, ⟨some (.int (0 + (i : Int))), ?_, rfl⟩⟩
      show [_, some (V.int (((2 ^ i : Nat) : Int) * 2)), _] = _
      rw [show ((2 ^ i : Nat) : Int) * 2 = ((2 ^ (i + 1) : Nat) : Int) by rw [Nat.pow_succ]; omega]
    · rintro σ H1 ⟨y, rfl, rfl⟩
      exact ⟨_, rfl, k⟩

theorem scO : FnScope ["_law_mask_here", "_law_ones_here", "_law_k"] ["_law_mask_here"] (defScope sOnes) := ⟨rfl, rfl, rfl, by decide +kernel, rfl, by decide +kernel, by decide +kernel⟩
theorem ok_ones {f : Addr} {fd : FuncData} (F : Fun K "_law_ones" "_law_ones" sOnes f fd) (T : Bare mg) : FnOk P w K mg base CX0 1 f fd ["_law_mask_here"] spOnes := by
  refine F.ok scO (fun vs H Q E h => ?_) (fun cdv A outer s H vs Q E hr h => ?_)
  · obtain ⟨n, rfl, _⟩ := h
    rfl
  · obtain ⟨m, rfl, k⟩ := h
    refine ⟨_, pss_cons (ps_set (i := 1) scO.nd rfl (Or.inl rfl) pe_int)
      (pss_cons (ps_for PassesOwn.never rfl (pi_range1 rfl T.range (pa_cons pe_int pa_nil)) (pg_name (i := 2) scO.nd rfl (Or.inl rfl))
        (pss_cons (ps_aug (i := 1) scO.nd rfl (Or.inl rfl) (pe_op op_modN (pe_callTy call_int1 (by rfl) T.int (by decide +kernel) (pa_cons (pv 0) pa_nil)) pe_int) ip_add)
        (pss_one (ps_set (i := 0) scO.nd rfl (Or.inl rfl) (pe_op op_fdivN (pv 0) pe_int)))))
      (pss_one (ps_ret (pv 1)))), ?_⟩
    refine ⟨_, rfl, by decide, by decide, for_range (lo := 0) (n := 12) (fun i σ H' => ∃ y : Option V, σ = [some (vInt (m / 2 ^ i)), some (vInt (onesN m i)), y] ∧ H' = H) ⟨none, by rw [Nat.pow_zero, Nat.div_one]; rfl, rfl⟩ ?_ ?_⟩
    · rintro i σ H1 hi ⟨y, rfl, rfl⟩
      refine ⟨_, rfl, _, rfl, .inl ⟨_, rfl, _, _, rfl, rfl, (by show (2 : Int) ≠ 0; decide), _, _, rfl, rfl, _, rfl, _, _, rfl, rfl, ⟨by decide, by decide⟩, ⟨some (.int (0 + (i : Int))), ?_, rfl⟩⟩⟩
      show [some (V.int (((m / 2 ^ i : Nat) : Int).fdiv 2)), some (V.int (((onesN m i : Nat) : Int) + ((m / 2 ^ i : Nat) : Int).fmod 2)), _] = _
      rw [fdiv2, fmod2, half]
      rfl
    · rintro σ H1 ⟨y, rfl, rfl⟩
      exact ⟨_, rfl, k⟩

theorem scL : FnScope ["_law_mask_here", "_law_lot_here", "_law_place"] ["_law_mask_here"] (defScope sLot) := ⟨rfl, rfl, rfl, by decide +kernel, rfl, by decide +kernel, by decide +kernel⟩
theorem lotN_yes {m n : Nat} (h : m / 2 ^ n % 2 = 1) : lotN m (n + 1) = lotN m n ++ [n] := if_pos h
theorem lotN_no {m n : Nat} (h : ¬ m / 2 ^ n % 2 = 1) : lotN m (n + 1) = lotN m n := if_neg h
theorem lotN_len (m : Nat) : ∀ n, (lotN m n).length ≤ n
  | 0 => Nat.le_refl _
  | n + 1 => by
    unfold lotN
    have := lotN_len m n
    split
    · rw [List.length_append]
      show _ + 1 ≤ _
      omega
    · omega
theorem none_new {H : Hp} {p q : Addr} {o : HO} (h : upd H p o q = none) : H q = none := by
  by_cases e : q = p
  · subst e
    rw [upd_same] at h
    cases h
  · rw [upd_ne e] at h
    exact h
theorem ok_lot {f : Addr} {fd : FuncData} (F : Fun K "_law_lot" "_law_lot" sLot f fd) (T : Bare mg) : FnOk P w K mg base CX0 1 f fd ["_law_mask_here"] spLot := by
  refine F.ok scL (fun vs H Q E h => ?_) (fun cdv A outer s H vs Q E hr h => ?_)
  · obtain ⟨n, rfl, _⟩ := h
    rfl
  · obtain ⟨m, rfl, k⟩ := h
    refine ⟨_, pss_cons (ps_set (i := 1) scL.nd rfl (Or.inl rfl) (pe_lst pa_nil))
      (pss_cons (ps_for PassesOwn.never rfl (pi_range1 rfl T.range (pa_cons pe_int pa_nil)) (pg_name (i := 2) scL.nd rfl (Or.inl rfl))
        (pss_cut (ps_if (pt_cmpR op_eq (pe_op op_modN (pe_callTy call_int1 (by rfl) T.int (by decide +kernel) (pa_cons (pv 0) pa_nil)) pe_int) pe_int (nomark _))
          (pss_one (ps_expr (pe_bm PySem.F.plainAttrs_list PySem.F.slot_list_append PySem.F.type_list_append mt_append (pv 1) (pa_cons (pv 2) pa_nil)))) pss_nil)
        (pss_one (ps_set (i := 0) scL.nd rfl (Or.inl rfl) (pe_op op_fdivN (pv 0) pe_int)))))
      (pss_one (ps_ret (pe_tupleOf rfl T.tuple (pv 1))))), ?_⟩
    refine ⟨small (m := 1) (Nat.zero_le _), fun p hp => ?_⟩
    refine ⟨_, rfl, by decide, by decide, for_range (lo := 0) (n := 12) (fun i σ H' => ∃ y : Option V, σ = [some (vInt (m / 2 ^ i)), some (.ref p), y] ∧ Same H H' ∧ H' p = some (.lst ((lotN m i).map vInt))) ⟨none, by rw [Nat.pow_zero, Nat.div_one]; rfl, same_new hp, upd_same⟩ ?_ ?_⟩
    · rintro i σ H1 hi ⟨y, rfl, sm, hT⟩
      refine ⟨fun σ' H' => σ' = [some (vInt (m / 2 ^ i)), some (.ref p), some (.int (0 + (i : Int)))] ∧ Same H H' ∧ H' p = some (.lst ((lotN m (i + 1)).map vInt)), ?_, ?_⟩
      · refine ⟨_, rfl, .inl ⟨_, rfl, _, _, rfl, rfl, (by show (2 : Int) ≠ 0; decide), rfl, _, rfl, ?_⟩⟩
        have e0 : (((m / 2 ^ i : Nat) : Int).fmod 2) = ((m / 2 ^ i % 2 : Nat) : Int) := fmod2 _
        refine ite2 (fun z => ?_) (fun z => ?_)
        · have z1 : m / 2 ^ i % 2 = 1 := by
            have z2 := of_decide_eq_true z
            have z3 := V.int.inj z2
            omega
          refine ⟨_, rfl, .inl ⟨rfl, _, SqL.of hT⟩, _, rfl, p, _, _, rfl, rfl, hT, ?_, rfl, fun b o e => ?_, ?_⟩
          · rw [List.length_map]
            have := lotN_len m i
            exact below (m := 12) (by omega)
          · rw [upd_ne (ne_of_none e hp)]
            exact sm _ _ e
          · rw [upd_same, lotN_yes z1, List.map_append, Int.zero_add]
            rfl
        · have z1 : ¬ m / 2 ^ i % 2 = 1 := fun q => z (by rw [decide_eq_true_iff]; show V.int _ = V.int _; rw [e0, q]; rfl)
          exact ⟨rfl, sm, by rw [lotN_no z1]; exact hT⟩
      · rintro _ H2 ⟨rfl, sm, hT⟩
        refine ⟨_, rfl, _, _, rfl, rfl, ⟨by decide, by decide⟩, ⟨some (.int (0 + (i : Int))), ?_, sm, hT⟩⟩
        show [some (V.int (((m / 2 ^ i : Nat) : Int).fdiv 2)), _, _] = _
        rw [fdiv2, half]
    · rintro σ H1 ⟨y, rfl, sm, hT⟩
      refine ⟨_, rfl, .inl ⟨p, _, rfl, SqL.of hT, fun q hq => ?_⟩⟩
      refine k _ q (fun b o e => ?_) ?_ upd_same
      · rw [upd_ne (ne_of_none (sm _ _ e) hq)]
        exact sm _ _ e
      · cases e : H q with
        | none => rfl
        | some o => rw [sm _ _ e] at hq; cases hq
end
end Fam

/-! Calls of the law's own defs; rows of lots. -/
namespace Fam
open PySem L2
open C8 (pss_cut tCut)

/-- a def of the top that keeps its promise, with all that a call of it wants -/
structure Cal (P : Program) (w : World) (K : PySem.W.Frag) (mg : Str → Option Value) (base : Heap) (k : Nat) (x : Str) (ps : List Str) (sp : Sp) : Prop where
  ex : ∃ (g : Addr) (gd : FuncData), FnOk P w K mg base CX0 k g gd ps sp ∧ Binds K gd ps [] ∧ PySem.W.keepIn K (.ref g) = true ∧ mg x = some (.ref g)

/-- a row: a list or a tuple -/
def Row (K : PySem.W.Frag) (H : Hp) (a : Addr) (xs : List V) : Prop := SqL K H a xs ∨ SqT K H a xs
theorem same_rd {H H' : Hp} {a : Addr} {o : HO} (s : Same H H') : Rd H a o → Rd H' a o
  | .inl h => .inl (s _ _ h)
  | .inr ⟨p, h⟩ => .inr ⟨p, s _ _ h⟩
theorem same_seqT {K : PySem.W.Frag} {H H' : Hp} {a : Addr} {xs : List V} (s : Same H H') : SqT K H a xs → SqT K H' a xs
  | .inl h => .inl (same_rd s h)
  | .inr h => .inr h
theorem Row.same {K : PySem.W.Frag} {H H' : Hp} {a : Addr} {xs : List V} (s : Same H H') : Row K H a xs → Row K H' a xs
  | .inl h => .inl (s.seq h)
  | .inr h => .inr (same_seqT s h)
/-- a walk over a row that a name of the def holds -/
def iRow (K : PySem.W.Frag) (j : Nat) : TI := fun σ H R => iList K (tVar j) σ H R ∨ iTup K (tVar j) σ H R
theorem pi_row {X : Cx} {tg l : Expr} {j : Nat} (h : PE X l (tVar j)) : PI X tg l (iRow X.K j) := PI.mk fun pins s σ H R hi hw => by
  rcases hw with hw | hw
  · exact (pi_list (tg := tg) h).run pins s σ H R hi hw
  · exact (pi_tup (tg := tg) h).run pins s σ H R hi hw
theorem row_for {K : PySem.W.Frag} {b : Addr} {xs : List V} {j : Nat} {g : TG} {tb : TS} {D : Ends} {σ : St} {H : Hp} (e : σ[j]? = some (some (.ref b))) (hW : Row K H b xs)
    (Pv : Nat → St → Hp → Prop) (h0 : Pv 0 σ H) (hl : ∀ i σ' H', i ≤ xs.length → Pv i σ' H' → Same H H')
    (hs : ∀ i x σ H, xs[i]? = some x → Pv i σ H → g x σ H fun σ2 H2 => tb { nx := Pv (i + 1), rt := D.rt, bk := D.nx, ct := Pv (i + 1) } σ2 H2)
    (hd : ∀ σ H, Pv xs.length σ H → D.nx σ H) : tFor (iRow K j) g tb D σ H := by
  rcases hW with hW | hW
  · exact .inl ⟨_, e, b, rfl, ⟨_, hW⟩, for_list (xs := xs) Pv h0 (fun i σ' H' hi h => (hl i σ' H' hi h).seq hW) hs hd⟩
  · exact .inr ⟨_, e, b, rfl, ⟨_, hW⟩, for_tup (xs := xs) Pv h0 (fun i σ' H' hi h => same_seqT (hl i σ' H' hi h) hW) hs hd⟩
/-- a comprehension over such a row -/
theorem row_lc {K : PySem.W.Frag} {b : Addr} {xs : List V} {j : Nat} {g : TG} {tt : TT} {te : TE} {vs : List Nat} {σ : St} {H : Hp} {Q : VK} (e : σ[j]? = some (some (.ref b))) (hW : Row K H b xs)
    (h : ∀ D, H D = none → ∃ Pv : Nat → Hp → Prop, Pv 0 (upd H D (.lst [])) ∧ (∀ i H', i ≤ xs.length → Pv i H' → Same H H') ∧
      (∀ i x H, xs[i]? = some x → Pv i H → g x (wipe σ vs) H fun σ2 H2 => wipe σ2 vs = wipe σ vs ∧ tt σ2 H2 fun c H3 =>
        if c = true then te σ2 H3 fun y H4 => ∃ acc, H4 D = some (.lst acc) ∧ acc.length < sizeLine ∧ Pv (i + 1) (upd H4 D (.lst (acc ++ [y]))) else Pv (i + 1) H3) ∧
      (∀ H, Pv xs.length H → Q (.ref D) H)) : tLc (iRow K j) g tt te vs σ H Q := by
  rcases hW with hW | hW
  · refine .inl ⟨_, e, b, rfl, ⟨_, hW⟩, fun D hD => ?_⟩
    obtain ⟨Pv, h0, hl, hs, hd⟩ := h D hD
    exact lc_list (xs := xs) Pv h0 (fun i H' hi h => (hl i H' hi h).seq hW) hs hd
  · refine .inr ⟨_, e, b, rfl, ⟨_, hW⟩, fun D hD => ?_⟩
    obtain ⟨Pv, h0, hl, hs, hd⟩ := h D hD
    exact lc_tup (xs := xs) Pv h0 (fun i H' hi h => same_seqT (hl i H' hi h) hW) hs hd

def spMask (K : PySem.W.Frag) : Sp := fun vs H Q _ => ∃ (a : Addr) (l : List Nat), vs = [.ref a] ∧ SqT K H a (l.map vInt) ∧ (∀ i ∈ l, i ≤ 60) ∧ Q (vInt (maskN l)) H
/-- rows of lots: ps are addresses of tuples, one for each mask -/
def LotsAt (H : Hp) : List V → List Nat → Prop
  | [], [] => True
  | v :: vs, m :: ms => (∃ p, v = .ref p ∧ H p = some (.tup (lotV m))) ∧ LotsAt H vs ms
  | _, _ => False
theorem LotsAt.same {H H' : Hp} (s : Same H H') : ∀ {vs : List V} {ms : List Nat}, LotsAt H vs ms → LotsAt H' vs ms
  | [], [], h => h
  | v :: vs, m :: ms, h => by
    obtain ⟨⟨p, e, h1⟩, h2⟩ := h
    exact ⟨⟨p, e, s _ _ h1⟩, h2.same s⟩
theorem LotsAt.add {H : Hp} : ∀ {vs : List V} {ms : List Nat} {p : Addr} {m : Nat}, LotsAt H vs ms → H p = some (.tup (lotV m)) → LotsAt H (vs ++ [.ref p]) (ms ++ [m])
  | [], [], p, m, _, h1 => ⟨⟨p, rfl, h1⟩, trivial⟩
  | v :: vs, n :: ms, p, m, h, h1 => ⟨h.1, h.2.add h1⟩
theorem LotsAt.len {H : Hp} : ∀ {vs : List V} {ms : List Nat}, LotsAt H vs ms → vs.length = ms.length
  | [], [], _ => rfl
  | v :: vs, n :: ms, h => by rw [List.length_cons, List.length_cons, h.2.len]

theorem LotsAt.upd {H : Hp} {D : Addr} {xs : List V} {o : HO} (hD : H D = some (.lst xs)) : ∀ {vs : List V} {ms : List Nat}, LotsAt H vs ms → LotsAt (upd H D o) vs ms
  | [], [], h => h
  | v :: vs, m :: ms, h => by
    obtain ⟨⟨p, e, h1⟩, h2⟩ := h
    exact ⟨⟨p, e, by rw [upd_ne (ne_of h1 hD (by intro z; cases z))]; exact h1⟩, h2.upd hD⟩
/-- all that stood ahead of the new D stands, D written again -/
theorem same_upd {H H' : Hp} {D : Addr} {o : HO} (s : Same H H') (hD : H D = none) : Same H (upd H' D o) := fun b x e => by
  rw [upd_ne (ne_of_none e hD)]
  exact s _ _ e

def spLotsOf (K : PySem.W.Frag) : Sp := fun vs H Q _ => ∃ (a : Addr) (ms : List Nat), vs = [.ref a] ∧ SqL K H a (ms.map vInt) ∧ ms.length ≤ 100000 ∧
  ∀ (H' : Hp) (p : Addr) (xs : List V), Same H H' → H p = none → H' p = some (.lst xs) → LotsAt H' xs ms → Q (.ref p) H'

theorem maskN_snoc (l : List Nat) (i : Nat) : maskN (l ++ [i]) = maskN l + 2 ^ i := by
  unfold maskN
  rw [List.map_append, List.sum_append]
  rfl
theorem take_more {α : Type} {l : List α} {i : Nat} (h : i < l.length) : l.take (i + 1) = l.take i ++ [l[i]] := (List.take_append_getElem h).symm

section
variable {P : Program} {w : World} {K : PySem.W.Frag} {mg : Str → Option Value} {base : Heap}
theorem scM : FnScope ["_law_lot_here", "_law_mask_here", "_law_place"] ["_law_lot_here"] (defScope sMask) := ⟨rfl, rfl, rfl, by decide +kernel, rfl, by decide +kernel, by decide +kernel⟩
theorem ok_mask {f : Addr} {fd : FuncData} (F : Fun K "_law_mask" "_law_mask" sMask f fd) (T : Bare mg) (G : Cal P w K mg base 1 "_law_full" ["_law_size"] spFull) : FnOk P w K mg base CX0 2 f fd ["_law_lot_here"] (spMask K) := by
  obtain ⟨g, gd, ok, b, kp, mf⟩ := G.ex
  refine F.ok scM (fun vs H Q E h => ?_) (fun cdv A outer s H vs Q E hr h => ?_)
  · obtain ⟨a, l, rfl, _⟩ := h
    rfl
  · obtain ⟨a, l, rfl, hS, hl, k⟩ := h
    refine ⟨_, pss_cons (ps_set (i := 1) scM.nd rfl (Or.inl rfl) pe_int)
      (pss_cons (ps_for PassesOwn.never rfl (pi_tup (pv 0)) (pg_name (i := 2) scM.nd rfl (Or.inl rfl))
        (pss_one (ps_aug (i := 1) scM.nd rfl (Or.inl rfl) (pe_call ok hr rfl mf kp b .nil pass0 (pa_cons (pv 2) pa_nil)) ip_add)))
      (pss_one (ps_ret (pv 1)))), ?_⟩
    refine ⟨_, rfl, a, rfl, ⟨_, hS⟩, for_tup (xs := l.map vInt) (fun i σ H' => ∃ y : Option V, σ = [some (.ref a), some (vInt (maskN (l.take i))), y] ∧ H' = H) ⟨none, rfl, rfl⟩ ?_ ?_ ?_⟩
    · rintro i σ H1 hi ⟨y, rfl, rfl⟩
      exact hS
    · rintro i x σ H1 hx ⟨y, rfl, rfl⟩
      have hi : i < l.length := by
        have := (List.getElem?_eq_some_iff.mp hx).1
        rwa [List.length_map] at this
      have ex : x = vInt l[i] := by
        rw [List.getElem?_map, List.getElem?_eq_getElem hi] at hx
        exact (Option.some.inj hx).symm
      subst ex
      refine ⟨_, rfl, _, rfl, l[i], rfl, hl _ (List.getElem_mem hi), _, _, rfl, rfl, ⟨some (vInt l[i]), ?_, rfl⟩⟩
      show [_, some (V.int (((maskN (l.take i) : Nat) : Int) + ((2 ^ l[i] : Nat) : Int))), _] = _
      rw [take_more hi, maskN_snoc]
      rfl
    · rintro σ H1 ⟨y, rfl, rfl⟩
      rw [List.length_map, List.take_length]
      exact ⟨_, rfl, k⟩

abbrev nLO : List Str := ["_law_masks", "_law_mask_here"]
theorem scLO : FnScope nLO ["_law_masks"] (defScope sLotsOf) := ⟨rfl, rfl, rfl, by decide +kernel, rfl, by decide +kernel, by decide +kernel⟩
theorem ok_lots_of {f : Addr} {fd : FuncData} (F : Fun K "_law_lots_of" "_law_lots_of" sLotsOf f fd) (T : Bare mg) (G : Cal P w K mg base 1 "_law_lot" ["_law_mask_here"] spLot) : FnOk P w K mg base CX0 2 f fd ["_law_masks"] (spLotsOf K) := by
  obtain ⟨g, gd, ok, b, kp, mf⟩ := G.ex
  refine F.ok scLO (fun vs H Q E h => ?_) (fun cdv A outer s H vs Q E hr h => ?_)
  · obtain ⟨a, l, rfl, _⟩ := h
    rfl
  · obtain ⟨a, ms, rfl, hS, hl, k⟩ := h
    refine ⟨_, pss_one (ps_ret (pe_lc (own := [("_law_mask_here", 1)]) (g := gName 1) (tt := tYes) rfl scLO.nd (pi_list (pv 0)) (blkOk_by (own := [("_law_mask_here", 1)]) (N := nLO) (sc := defScope sLotsOf) (by decide +kernel)) (fun _ _ _ _ _ => pg_name (i := 1) scLO.nd rfl (Or.inl rfl)) (fun _ _ _ _ _ => pts_nil)
      (fun _ _ _ _ _ => pe_call ok hr rfl mf kp b .nil pass0 (pa_cons (pv 1) pa_nil)))), ?_⟩
    refine ⟨_, rfl, a, rfl, ⟨_, hS⟩, fun D hD => ?_⟩
    have s1 : Same H (upd H D (.lst [])) := same_new hD
    refine lc_list (K := K) (a := a) (xs := ms.map vInt) (fun i H' => Same H H' ∧ ∃ xs, H' D = some (.lst xs) ∧ LotsAt H' xs (ms.take i)) ⟨s1, [], upd_same, trivial⟩ ?_ ?_ ?_
    · rintro i H1 hi ⟨sm, _⟩
      exact sm.seq hS
    · rintro i x H1 hx ⟨sm, xs, hT, hL⟩
      have hi : i < ms.length := by
        have := (List.getElem?_eq_some_iff.mp hx).1
        rwa [List.length_map] at this
      have ex : x = vInt ms[i] := by
        rw [List.getElem?_map, List.getElem?_eq_getElem hi] at hx
        exact (Option.some.inj hx).symm
      subst ex
      refine ⟨rfl, _, rfl, ms[i], rfl, fun H2 p s2 hp ht => ?_⟩
      refine ⟨_, s2 _ _ hT, ?_, same_upd (sm.trans s2) hD, _, upd_same, ?_⟩
      · rw [hL.len, List.length_take]
        exact below (m := 100000) (by omega)
      · rw [take_more hi]
        exact ((hL.same s2).add ht).upd (s2 _ _ hT)
    · rintro H1 ⟨sm, xs, hT, hL⟩
      rw [List.length_map, List.take_length] at hL
      exact k H1 D xs sm hD hT hL
end
end Fam

/-! The best of a family by weights; what is shown of a find. -/
namespace Fam
open PySem L2
open C8 (pss_cut tCut)

/-- the weight of a mask's first n places -/
def wsN (m : Nat) (ws : List Int) : Nat → Int
  | 0 => 0
  | n + 1 => if m / 2 ^ n % 2 = 1 then wsN m ws n + ws.getD n 0 else wsN m ws n
theorem wsN_yes {m n : Nat} {ws : List Int} (h : m / 2 ^ n % 2 = 1) : wsN m ws (n + 1) = wsN m ws n + ws.getD n 0 := if_pos h
theorem wsN_no {m n : Nat} {ws : List Int} (h : ¬ m / 2 ^ n % 2 = 1) : wsN m ws (n + 1) = wsN m ws n := if_neg h
abbrev wsum (m : Nat) (ws : List Int) : Int := wsN m ws ws.length
/-- the greater one of what was found and t -/
def better (b : Option Int) (t : Int) : Option Int :=
  match b with
  | none => some t
  | some x => if t > x then some t else some x
def bestOf (ws : List Int) (ms : List Nat) : Option Int := ms.foldl (fun b m => better b (wsum m ws)) none
def optV : Option Int → V
  | none => .non
  | some i => .int i

theorem bestOf_snoc (ws : List Int) (ms : List Nat) (m : Nat) : bestOf ws (ms ++ [m]) = better (bestOf ws ms) (wsum m ws) := by
  unfold bestOf
  rw [List.foldl_append]
  rfl

def spBest (K : PySem.W.Frag) : Sp := fun vs H Q _ => ∃ (a b : Addr) (ms : List Nat) (ws : List Int), vs = [.ref a, .ref b] ∧ SqL K H a (ms.map vInt) ∧ Row K H b (ws.map V.int) ∧ Q (optV (bestOf ws ms)) H

theorem item {α : Type} {l : List α} {g : α → V} {i : Nat} {x : V} (h : (l.map g)[i]? = some x) : ∃ hi : i < l.length, x = g l[i] := by
  have hi : i < l.length := by
    have := (List.getElem?_eq_some_iff.mp h).1
    rwa [List.length_map] at this
  refine ⟨hi, ?_⟩
  rw [List.getElem?_map, List.getElem?_eq_getElem hi] at h
  exact (Option.some.inj h).symm

end Fam

/-! Rows of whole numbers; what is shown of a find. -/
namespace Fam
open PySem L2
open C8 (pss_cut tCut)

def spLawInt : Sp := fun vs H Q _ => ∃ i : Int, vs = [.int i] ∧ Q (.bl true) H
def spInts (K : PySem.W.Frag) : Sp := fun vs H Q _ => ∃ (a : Addr) (ws : List Int) (n : Nat), vs = [.ref a, vInt n] ∧ SqT K H a (ws.map V.int) ∧ ws.length < 100000 ∧ ∀ H', Same H H' → Q (.bl (decide (ws.length = n))) H'
def spShown (K : PySem.W.Frag) : Sp := fun vs H Q _ => (vs = [.non] ∧ Q .non H) ∨ ∃ (a : Addr) (ms : List Nat), vs = [.ref a] ∧ SqT K H a (ms.map vInt) ∧ ms.length ≤ 100000 ∧
  ∀ (H' : Hp) (p : Addr) (xs : List V), Same H H' → H p = none → H' p = some (.tup xs) → LotsAt H' xs ms → Q (.ref p) H'

theorem ty_tup {K : PySem.W.Frag} {H : Hp} {a : Addr} {xs : List V} : SqT K H a xs → TyX K H (.ref a) (.type "tuple")
  | .inl (.inl h) => .base (.tup h)
  | .inl (.inr ⟨_, h⟩) => .fTuple h
  | .inr ⟨o, _, _, h, c, _⟩ => .kTuple h c

theorem pe_ty {X : Cx} {x : Str} {pos : Pos} {n : String} (hg : Gl X x) (hm : X.mg x = none) (hv : bootBuiltins x = some (.type n)) (h1 : x ≠ "__name__" := by decide +kernel) (h2 : (x == ("__debug__" : Str)) = false := by decide +kernel) : PE X (.Name x pos) (tC (.ty n)) := pe_bltn hg hm hv rfl (hn := h1) (hd := h2)
def spWhole (K : PySem.W.Frag) : Sp := fun vs H Q _ => ∃ (a : Addr) (ws : List Int) (n : Nat), vs = [.ref a, vInt n] ∧ SqT K H a (ws.map V.int) ∧ ws.length < 100000 ∧ (∀ x ∈ ws, x.natAbs < 10 ^ 60) ∧ ∀ H', Same H H' → Q (.bl (decide (ws.length = n))) H'

section
variable {P : Program} {w : World} {K : PySem.W.Frag} {mg : Str → Option Value} {base : Heap}
abbrev nSH : List Str := ["_law_found", "_law_mask_here"]
theorem scSH : FnScope nSH ["_law_found"] (defScope sShown) := ⟨rfl, rfl, rfl, by decide +kernel, rfl, by decide +kernel, by decide +kernel⟩
theorem ok_shown {f : Addr} {fd : FuncData} (F : Fun K "_law_shown" "_law_shown" sShown f fd) (T : Bare mg) (G : Cal P w K mg base 1 "_law_lot" ["_law_mask_here"] spLot) : FnOk P w K mg base CX0 2 f fd ["_law_found"] (spShown K) := by
  obtain ⟨g, gd, ok, b, kp, mf⟩ := G.ex
  refine F.ok scSH (fun vs H Q E h => ?_) (fun cdv A outer s H vs Q E hr h => ?_)
  · rcases h with ⟨rfl, _⟩ | ⟨a, ms, rfl, _⟩
    all_goals rfl
  · refine ⟨_, pss_cons (ps_if (pt_cmpR op_isN (pv 0) pe_non (nomark _)) (pss_one (ps_ret pe_non)) pss_nil)
      (pss_one (ps_ret (pe_tupleOf rfl T.tuple (pe_lc (own := [("_law_mask_here", 1)]) (g := gName 1) (tt := tYes) rfl scSH.nd (pi_tup (pv 0)) (blkOk_by (own := [("_law_mask_here", 1)]) (N := nSH) (sc := defScope sShown) (by decide +kernel)) (fun _ _ _ _ _ => pg_name (i := 1) scSH.nd rfl (Or.inl rfl)) (fun _ _ _ _ _ => pts_nil)
      (fun _ _ _ _ _ => pe_call ok hr rfl mf kp b .nil pass0 (pa_cons (pv 1) pa_nil)))))), ?_⟩
    rcases h with ⟨rfl, k⟩ | ⟨a, ms, rfl, hS, hl, k⟩
    · exact ⟨_, rfl, rfl, _, rfl, iteT k⟩
    · refine ⟨_, rfl, rfl, _, rfl, iteF ⟨_, rfl, a, rfl, ⟨_, hS⟩, fun D hD => ?_⟩⟩
      refine lc_tup (K := K) (a := a) (xs := ms.map vInt) (fun i H' => Same H H' ∧ ∃ xs, H' D = some (.lst xs) ∧ LotsAt H' xs (ms.take i)) ⟨same_new hD, [], upd_same, trivial⟩ ?_ ?_ ?_
      · rintro i H1 hi ⟨sm, _⟩
        exact same_seqT sm hS
      · rintro i x H1 hx ⟨sm, xs, hT, hL⟩
        obtain ⟨hi, rfl⟩ := item hx
        refine ⟨rfl, _, rfl, ms[i], rfl, fun H2 p s2 hp ht => ?_⟩
        refine ⟨_, s2 _ _ hT, ?_, same_upd (sm.trans s2) hD, _, upd_same, ?_⟩
        · rw [hL.len, List.length_take]
          exact below (m := 100000) (by omega)
        · rw [take_more hi]
          exact ((hL.same s2).add ht).upd (s2 _ _ hT)
      · rintro H1 ⟨sm, xs, hT, hL⟩
        rw [List.length_map, List.take_length] at hL
        refine .inl ⟨D, _, rfl, SqL.of hT, fun q hq => k _ q xs (fun b o e => ?_) (sm.free hq) upd_same (hL.same (same_new hq))⟩
        rw [upd_ne (ne_of_none (sm _ _ e) hq)]
        exact sm _ _ e

end
end Fam

/-! A drawn family of masks. -/
namespace Fam
open PySem L2
open C8 (pss_cut tCut)

/-! ### and, or, not of masks -/
theorem bitAnd_nat (a b : Nat) : Builtin.bitAnd (a : Int) (b : Int) = ((a &&& b : Nat) : Int) := by
  unfold Builtin.bitAnd
  rw [decide_eq_true (Int.natCast_nonneg a), decide_eq_true (Int.natCast_nonneg b)]
  rfl
theorem bitOr_nat (a b : Nat) : Builtin.bitOr (a : Int) (b : Int) = ((a ||| b : Nat) : Int) := by
  have n1 : ∀ c : Nat, decide ((0 : Int) ≤ Builtin.bitNot (c : Int)) = false := fun c => decide_eq_false (by unfold Builtin.bitNot; omega)
  have n2 : ∀ c : Nat, (Builtin.bitNot (Builtin.bitNot (c : Int))).toNat = c := fun c => by unfold Builtin.bitNot; omega
  unfold Builtin.bitOr Builtin.bitAnd
  rw [n1 a, n1 b]
  show Builtin.bitNot (Builtin.bitNot _) = _
  rw [n2 a, n2 b]
  unfold Builtin.bitNot
  omega
theorem and_le_or (a b : Nat) : a &&& b ≤ a ||| b := Nat.le_trans Nat.and_le_left Nat.left_le_or
/-- the one or the other, not both: as the law's ^ tells it -/
def xorN (a b : Nat) : Nat := (a ||| b) - (a &&& b)
theorem bitXor_nat (a b : Nat) : Builtin.bitXor (a : Int) (b : Int) = ((xorN a b : Nat) : Int) := by
  unfold Builtin.bitXor xorN
  rw [bitOr_nat, bitAnd_nat]
  have := and_le_or a b
  omega
theorem xorN_lt {a b n : Nat} (ha : a < 2 ^ n) (hb : b < 2 ^ n) : xorN a b < 2 ^ n := Nat.lt_of_le_of_lt (Nat.sub_le _ _) (Nat.or_lt_two_pow ha hb)

/-! ### the heap but for the tape -/
/-- all that stood but the tape at a stands -/
def Kp (a : Addr) (H H' : Hp) : Prop := ∀ b o, b ≠ a → H b = some o → H' b = some o
theorem Kp.refl (a : Addr) (H : Hp) : Kp a H H := fun _ _ _ h => h
theorem Kp.trans {a : Addr} {H H1 H2 : Hp} (h1 : Kp a H H1) (h2 : Kp a H1 H2) : Kp a H H2 := fun b o hb h => h2 b o hb (h1 b o hb h)
theorem Kp.of {a : Addr} {H H' : Hp} (h : ∀ b, b ≠ a → H' b = H b) : Kp a H H' := fun b o hb e => by rw [h b hb]; exact e
theorem kp_same {a : Addr} {H H' : Hp} (s : Same H H') : Kp a H H' := fun b o _ e => s b o e
/-- D, new since H, written again -/
theorem Kp.upd {a D : Addr} {H H' : Hp} {o : HO} (h : Kp a H H') (hD : H D = none) : Kp a H (upd H' D o) := fun b u hb e => by
  rw [upd_ne (ne_of_none e hD)]
  exact h b u hb e
theorem TapeAt.same {H H' : Hp} {a : Addr} {c : Nat} {ts : List Int} (h : TapeAt H a c ts) (s : Same H H') : TapeAt H' a c ts := s _ _ h
theorem TapeAt.upd {H : Hp} {a D : Addr} {c : Nat} {ts : List Int} {o : HO} (h : TapeAt H a c ts) (hD : D ≠ a) : TapeAt (upd H D o) a c ts := by
  unfold TapeAt
  rw [upd_ne (Ne.symm hD)]
  exact h

/-- a draw below m: any number below m -/
def spDraw : Sp := fun vs H Q _ => ∃ (a : Addr) (c : Nat) (ts : List Int) (m : Nat), vs = [.ref a, vInt m] ∧ TapeAt H a c ts ∧ 0 < m ∧
  ∀ (H' : Hp) (c' n : Nat), n < m → (∀ b, b ≠ a → H' b = H b) → TapeAt H' a c' ts → Q (vInt n) H'
/-- masks of n places, told once each -/
structure Masks (n : Nat) (ms : List Nat) : Prop where
  lt : ∀ m ∈ ms, m < 2 ^ n
  nd : ms.Nodup
def spFamily : Sp := fun vs H Q _ => ∃ (a : Addr) (c : Nat) (ts : List Int) (n : Nat), vs = [.ref a, vInt n] ∧ TapeAt H a c ts ∧ n ≤ 10 ∧
  ∀ (H' : Hp) (c' : Nat) (p : Addr) (ms : List Nat), Masks n ms → Kp a H H' → TapeAt H' a c' ts → H p = none → H' p = some (.lst (ms.map vInt)) → Q (.ref p) H'

theorem pow_le10 {n : Nat} (h : n ≤ 10) : 2 ^ n ≤ 1024 := Nat.pow_le_pow_right (by decide) h
theorem tape_ne {H : Hp} {a D : Addr} {c : Nat} {ts : List Int} (h : TapeAt H a c ts) (hD : H D = none) : D ≠ a := fun e => by
  subst e
  rw [h] at hD
  cases hD

section
variable {P : Program} {w : World} {K : PySem.W.Frag} {mg : Str → Option Value} {base : Heap}
theorem ok_draw {k : Nat} {f : Addr} {fd : FuncData} (G : FnOk P w K mg base CX0 k f fd ["_law_tape", "_law_many"] spTake) : FnOk P w K mg base CX0 k f fd ["_law_tape", "_law_many"] spDraw :=
  G.imp fun vs H Q E h => by
    obtain ⟨a, c, ts, m, rfl, hT, hm, k⟩ := h
    refine ⟨a, c, ts, m, rfl, hT, by omega, fun H' hH hT' => ?_⟩
    have q := drawn_lt (c := c) (ts := ts) (m := (m : Int)) (by omega)
    have e : drawn c ts (m : Int) = ((drawn c ts (m : Int)).toNat : Int) := by omega
    rw [e]
    exact k H' _ _ (by omega) hH hT'

/-- the slots of _law_family -/
abbrev faS (a p : Addr) (n w : Nat) (y4 y6 y7 y8 y9 : Option V) : St := [some (.ref a), some (vInt n), some (vInt (2 ^ n)), some (vInt w), y4, some (.ref p), y6, y7, y8, y9]
theorem lc_map {K : PySem.W.Frag} {te : TE} {H : Hp} {a p : Addr} {n w : Nat} {y4 y6 y7 y8 y9 : Option V} {ms : List Nat} {Q : VK} (hp : H p = some (.lst (ms.map vInt))) (hl : ms.length ≤ 100000)
    (hte : ∀ m ∈ ms, ∀ (H' : Hp) (Q' : VK), Same H H' → (∀ r : Nat, r < 2 ^ n → Q' (vInt r) H') → te (faS a p n w y4 (some (vInt m)) y7 y8 y9) H' Q')
    (k : ∀ (D : Addr) (H' : Hp) (rs : List Nat), H D = none → Same H H' → H' D = some (.lst (rs.map vInt)) → rs.length = ms.length → (∀ r ∈ rs, r < 2 ^ n) → Q (.ref D) H') :
    tLc (iList K (tVar 5)) (gName 6) tYes te [6] (faS a p n w y4 y6 y7 y8 y9) H Q := by
  refine ⟨_, rfl, p, rfl, ⟨_, SqL.of hp⟩, fun D hD => ?_⟩
  refine lc_list (K := K) (a := p) (xs := ms.map vInt) (fun i H' => Same H H' ∧ ∃ rs : List Nat, H' D = some (.lst (rs.map vInt)) ∧ rs.length = i ∧ ∀ r ∈ rs, r < 2 ^ n) ⟨same_new hD, [], upd_same, rfl, fun r hr => by cases hr⟩ ?_ ?_ ?_
  · rintro i H1 hi ⟨sm, _⟩
    exact SqL.of (sm _ _ hp)
  · rintro i x H1 hx ⟨sm, rs, hT, hlen, hr⟩
    obtain ⟨hi, rfl⟩ := item hx
    refine ⟨rfl, ?_⟩
    refine hte _ (List.getElem_mem hi) H1 _ sm (fun r hr2 => ⟨_, hT, ?_, same_upd sm hD, rs ++ [r], ?_, ?_, ?_⟩)
    · rw [List.length_map]
      exact below (m := 100000) (by omega)
    · rw [upd_same, List.map_append]
      rfl
    · rw [List.length_append, hlen]
      rfl
    · intro q hq
      rcases List.mem_append.mp hq with hq | hq
      · exact hr q hq
      · rw [List.mem_singleton.mp hq]
        exact hr2
  · rintro H1 ⟨sm, rs, hT, hlen, hr⟩
    rw [List.length_map] at hlen
    exact k D H1 rs hD sm hT hlen hr
theorem lc_filter {tt : TT} {H : Hp} {a p : Addr} {n w : Nat} {y4 y6 y7 y8 y9 : Option V} {Q : VK} (hn : n ≤ 10)
    (htt : ∀ m : Nat, ∀ (H' : Hp) (Q' : Bool → Hp → Prop), Same H H' → (∀ b, Q' b H') → tt (faS a p n w y4 (some (.int (0 + (m : Int)))) y7 y8 y9) H' Q')
    (k : ∀ (D : Addr) (H' : Hp) (rs : List Nat), H D = none → Same H H' → H' D = some (.lst (rs.map vInt)) → rs.length ≤ 2 ^ n → (∀ r ∈ rs, r < 2 ^ n) → Q (.ref D) H') :
    tLc (iRng1 (tCons (tVar 2) tNil)) (gName 6) tt (tVar 6) [6] (faS a p n w y4 y6 y7 y8 y9) H Q := by
  have h10 := pow_le10 hn
  refine ⟨_, rfl, _, rfl, Int.le_trans (by decide) (Int.natCast_nonneg _), Int.lt_of_le_of_lt (Int.ofNat_le.mpr h10) (by decide), fun D hD => ?_⟩
  refine lc_range (lo := 0) (n := 2 ^ n) (fun i H' => Same H H' ∧ ∃ rs : List Nat, H' D = some (.lst (rs.map vInt)) ∧ rs.length ≤ i ∧ ∀ r ∈ rs, r < 2 ^ n) ⟨same_new hD, [], upd_same, Nat.le_refl _, fun r hr => by cases hr⟩ ?_ ?_
  · rintro i H1 hi ⟨sm, rs, hT, hlen, hr⟩
    refine ⟨rfl, htt i H1 _ sm (fun b => ?_)⟩
    cases b with
    | false => exact iteF ⟨sm, rs, hT, by omega, hr⟩
    | true =>
      refine iteT ⟨_, rfl, _, hT, ?_, same_upd sm hD, rs ++ [i], ?_, ?_, ?_⟩
      · rw [List.length_map]
        exact below (m := 100000) (by omega)
      · rw [upd_same, List.map_append, Int.zero_add]
        rfl
      · rw [List.length_append]
        show rs.length + 1 ≤ _
        omega
      · intro q hq
        rcases List.mem_append.mp hq with hq | hq
        · exact hr q hq
        · rw [List.mem_singleton.mp hq]
          exact hi
  · rintro H1 ⟨sm, rs, hT, hlen, hr⟩
    exact k D H1 rs hD sm hT hlen hr
theorem first_at {ms : List Nat} (h : ms ≠ []) : ∃ m, m ∈ ms ∧ atI (ms.map vInt) 0 = some (vInt m) := by
  cases ms with
  | nil => exact absurd rfl h
  | cons m ms => exact ⟨m, List.mem_cons_self, atI_nat (j := 0) rfl⟩
theorem last_at {ms : List Nat} (h : ms ≠ []) : ∃ m, m ∈ ms ∧ atI (ms.map vInt) (-1) = some (vInt m) := by
  have hl : 0 < ms.length := List.length_pos_iff.mpr h
  refine ⟨ms[ms.length - 1], List.getElem_mem _, ?_⟩
  have e : ixN (ms.map vInt).length (-1) = some (ms.length - 1) := by
    unfold ixN
    rw [if_neg (by decide), List.length_map, if_pos (by omega)]
    congr 1
    omega
  unfold atI
  rw [e]
  show (ms.map vInt)[ms.length - 1]? = _
  rw [List.getElem?_map, List.getElem?_eq_getElem (by omega)]
  rfl

theorem Kp.free {a D : Addr} {H H' : Hp} {c : Nat} {ts : List Int} (h : Kp a H H') (hT : TapeAt H' a c ts) (hD : H' D = none) : H D = none := by
  cases e : H D with
  | none => rfl
  | some o =>
    rw [h D o (tape_ne hT hD) e] at hD
    cases hD
theorem inV_nat (m : Nat) (rs : List Nat) : inV (vInt m) (rs.map vInt) = decide (m ∈ rs) := by
  induction rs with
  | nil => rfl
  | cons r rs ih =>
    unfold inV at ih ⊢
    rw [List.map_cons, List.any_cons, ih]
    show (((r : Int) == (m : Int)) || _) = _
    by_cases e : r = m
    · subst e
      simp
    · have e2 : ((r : Int) == (m : Int)) = false := beq_eq_false_iff_ne.mpr (by omega)
      rw [e2, Bool.false_or, decide_eq_decide, List.mem_cons]
      exact ⟨Or.inr, fun h => h.resolve_left (fun q => e q.symm)⟩
theorem flat_all (rs : List Nat) : (rs.map vInt).all flatV = true := by
  rw [List.all_map, List.all_eq_true]
  intro x _
  rfl
/-- what holds between the words of _law_family -/
def FaInv (H : Hp) (a : Addr) (n w : Nat) (ts : List Int) (b : Nat) (ne : Bool) (σ : St) (H' : Hp) : Prop := ∃ (c : Nat) (p : Addr) (ms : List Nat) (y4 y6 y7 y8 y9 : Option V),
  σ = faS a p n w y4 y6 y7 y8 y9 ∧ Kp a H H' ∧ TapeAt H' a c ts ∧ H p = none ∧ H' p = some (.lst (ms.map vInt)) ∧ (∀ m ∈ ms, m < 2 ^ n) ∧ ms.length ≤ b ∧ (ne = true → ms ≠ [])
theorem FaInv.cat {H H1 : Hp} {a p2 : Addr} {n w c b : Nat} {ts : List Int} {ms rs : List Nat} {y4 y6 y7 y8 y9 : Option V} (kp : Kp a H H1) (hT : TapeAt H1 a c ts) (hp2 : H1 p2 = none) (hr : ∀ m ∈ ms, m < 2 ^ n) (hr2 : ∀ m ∈ rs, m < 2 ^ n)
    (hb : ms.length + rs.length ≤ b) (ne : ms ≠ []) : FaInv H a n w ts b true (faS a p2 n w y4 y6 y7 y8 y9) (upd H1 p2 (.lst (ms.map vInt ++ rs.map vInt))) := by
  refine ⟨c, p2, ms ++ rs, _, _, _, _, _, rfl, kp.upd (kp.free hT hp2), hT.upd (tape_ne hT hp2), kp.free hT hp2, by rw [upd_same, List.map_append], fun m hm => ?_, by rw [List.length_append]; exact hb, fun _ e => ne (List.append_eq_nil_iff.mp e).1⟩
  rcases List.mem_append.mp hm with q | q
  · exact hr m q
  · exact hr2 m q
abbrev nFA : List Str := ["_law_tape", "_law_size", "_law_full_here", "_law_word_here", "_law_k", "_law_masks", "_law_mask_here", "_law_low", "_law_high", "_law_different"]
theorem scFA : FnScope nFA ["_law_tape", "_law_size"] (defScope sFamily) := ⟨rfl, rfl, rfl, by decide +kernel, rfl, by decide +kernel, by decide +kernel⟩
theorem ok_family {f : Addr} {fd : FuncData} (F : Fun K "_law_family" "_law_family" sFamily f fd) (T : Bare mg) (GT : Cal P w K mg base 1 "_law_take" ["_law_tape", "_law_many"] spDraw)
    (GF : Cal P w K mg base 1 "_law_full" ["_law_size"] spFull) (GO : Cal P w K mg base 1 "_law_ones" ["_law_mask_here"] spOnes) : FnOk P w K mg base CX0 2 f fd ["_law_tape", "_law_size"] spFamily := by
  obtain ⟨gt, gtd, okt, bt, kt, mt⟩ := GT.ex
  obtain ⟨gf, gfd, okf, bf, kf, mf⟩ := GF.ex
  obtain ⟨go, god, oko, bo, ko, mo⟩ := GO.ex
  refine F.ok scFA (fun vs H Q E h => ?_) (fun cdv A outer s H vs Q E hr h => ?_)
  · obtain ⟨a, c, ts, n, rfl, _⟩ := h
    rfl
  · obtain ⟨a, c, ts, n, rfl, hT, hn, k⟩ := h
    refine ⟨_, pss_cons (ps_set (i := 2) scFA.nd rfl (Or.inr rfl) (pe_call okf hr rfl mf kf bf .nil pass0 (pa_cons (pv 1) pa_nil)))
      (pss_cons (ps_set (i := 3) scFA.nd rfl (Or.inl rfl) (pe_call okt hr rfl mt kt bt .nil pass0 (pa_cons (pv 0) (pa_cons pe_int pa_nil))))
      (pss_cons (ps_set (i := 5) scFA.nd rfl (Or.inr rfl) (pe_lc (own := [("_law_k", 4)]) (g := gName 4) (tt := tYes) rfl scFA.nd (pi_range1 rfl T.range (pa_cons (pe_op op_add pe_int (pe_call okt hr rfl mt kt bt .nil pass0 (pa_cons (pv 0) (pa_cons pe_int pa_nil)))) pa_nil))
          (blkOk_by (own := [("_law_k", 4)]) (N := nFA) (sc := defScope sFamily) (by decide +kernel)) (fun _ _ _ _ _ => pg_name (i := 4) scFA.nd rfl (Or.inl rfl)) (fun _ _ _ _ _ => pts_nil)
          (fun _ _ _ _ _ => pe_call okt hr rfl mt kt bt .nil pass0 (pa_cons (pv 0) (pa_cons (pv 2) pa_nil)))))
      (pss_cut (ps_if (pt_cmpR op_eq (pv 3) pe_int (nomark _))
          (pss_one (ps_for PassesOwn.never rfl (pi_range1 rfl T.range (pa_cons pe_int pa_nil)) (pg_name (i := 4) scFA.nd rfl (Or.inl rfl))
            (pss_one (ps_set (i := 5) scFA.nd rfl (Or.inr rfl) (pe_op op_cat (pv 5) (pe_lc (own := [("_law_mask_here", 6)]) (g := gName 6) (tt := tYes) rfl scFA.nd (pi_list (pv 5))
              (blkOk_by (own := [("_law_mask_here", 6)]) (N := nFA) (sc := defScope sFamily) (by decide +kernel)) (fun _ _ _ _ _ => pg_name (i := 6) scFA.nd rfl (Or.inl rfl)) (fun _ _ _ _ _ => pts_nil)
              (fun _ _ _ _ _ => pe_op op_or (pe_ix (ix_list : IxR _ (rIxL K)) (pv 5) pe_int (fun _ _ => rfl)) (pv 6)))))))) pss_nil)
      (pss_cut (ps_if (pt_cmpR op_eq (pv 3) pe_int (nomark _))
            (pss_one (ps_set (i := 5) scFA.nd rfl (Or.inr rfl) (pe_op op_cat (pv 5) (pe_lc (own := [("_law_mask_here", 6)]) (g := gName 6) (tt := tYes) rfl scFA.nd (pi_list (pv 5))
              (blkOk_by (own := [("_law_mask_here", 6)]) (N := nFA) (sc := defScope sFamily) (by decide +kernel)) (fun _ _ _ _ _ => pg_name (i := 6) scFA.nd rfl (Or.inl rfl)) (fun _ _ _ _ _ => pts_nil)
              (fun _ _ _ _ _ => pe_op op_xor (pe_op op_xor (pe_ix (ix_list : IxR _ (rIxL K)) (pv 5) pe_int (fun _ _ => rfl)) (pe_ix (ix_list : IxR _ (rIxL K)) (pv 5) (pe_un un_neg pe_int) (fun _ _ => rfl))) (pv 6)))))) pss_nil)
      (pss_cut (ps_if (pt_cmpR op_eq (pv 3) pe_int (nomark _))
            (pss_cons (ps_set (i := 7) scFA.nd rfl (Or.inr rfl) (pe_op op_and (pe_ix ix_list (pv 5) pe_int (fun _ _ => rfl)) (pe_ix ix_list (pv 5) (pe_un un_neg pe_int) (fun _ _ => rfl))))
            (pss_cons (ps_set (i := 8) scFA.nd rfl (Or.inr rfl) (pe_op op_or (pe_ix ix_list (pv 5) pe_int (fun _ _ => rfl)) (pe_ix ix_list (pv 5) (pe_un un_neg pe_int) (fun _ _ => rfl))))
            (pss_one (ps_set (i := 5) scFA.nd rfl (Or.inr rfl) (pe_lc (own := [("_law_mask_here", 6)]) (g := gName 6) rfl scFA.nd (pi_range1 rfl T.range (pa_cons (pv 2) pa_nil))
              (blkOk_by (own := [("_law_mask_here", 6)]) (N := nFA) (sc := defScope sFamily) (by decide +kernel)) (fun _ _ _ _ _ => pg_name (i := 6) scFA.nd rfl (Or.inl rfl))
              (fun _ _ _ _ _ => pts_one (PW.pt (pw_and (pt_cmpR op_eq (pe_op op_and (pv 6) (pv 7)) (pv 7) (nomark _)) (pw_and1 (pt_cmpR op_eq (pe_op op_or (pv 6) (pv 8)) (pv 8) (nomark _))))))
              (fun _ _ _ _ _ => pv 6)))))) pss_nil)
      (pss_cut (ps_if (pt_cmpR op_eq (pv 3) pe_int (nomark _))
            (pss_one (ps_set (i := 5) scFA.nd rfl (Or.inr rfl) (pe_lc (own := [("_law_mask_here", 6)]) (g := gName 6) rfl scFA.nd (pi_range1 rfl T.range (pa_cons (pv 2) pa_nil))
              (blkOk_by (own := [("_law_mask_here", 6)]) (N := nFA) (sc := defScope sFamily) (by decide +kernel)) (fun _ _ _ _ _ => pg_name (i := 6) scFA.nd rfl (Or.inl rfl))
              (fun _ _ _ _ _ => pts_one (pt_cmpR op_eq (pe_call oko hr rfl mo ko bo .nil pass0 (pa_cons (pv 6) pa_nil)) pe_int (nomark _)))
              (fun _ _ _ _ _ => pv 6)))) pss_nil)
      (pss_cons (ps_set (i := 9) scFA.nd rfl (Or.inl rfl) (pe_lst pa_nil))
      (pss_cons (ps_for PassesOwn.never rfl (pi_list (pv 5)) (pg_name (i := 6) scFA.nd rfl (Or.inl rfl))
        (pss_one (ps_if (pt_cmpR op_notIn_seq (pv 6) (pv 9) (by rfl))
          (pss_one (ps_expr (pe_bm PySem.F.plainAttrs_list PySem.F.slot_list_append PySem.F.type_list_append mt_append (pv 9) (pa_cons (pv 6) pa_nil)))) pss_nil)))
      (pss_one (ps_ret (pv 9)))))))))))
      , ?_⟩
    have h10 := pow_le10 hn
    refine ⟨_, rfl, n, rfl, by omega, ?_⟩
    refine ⟨_, rfl, a, c, ts, 6, rfl, hT, by decide, fun H1 c1 w hw h1 hT1 => ?_⟩
    refine ⟨_, rfl, a, c1, ts, 6, rfl, hT1, by decide, fun H2 c2 m0 hm0 h2 hT2 => ⟨_, _, rfl, rfl, _, rfl, by omega, by omega, fun D hD => ?_⟩⟩
    have kp2 : Kp a H H2 := (Kp.of h1).trans (Kp.of h2)
    have hDa := tape_ne hT2 hD
    have hD0 := kp2.free hT2 hD
    refine lc_range (lo := 0) (n := ((1 : Int) + m0).toNat) (fun i H' => Kp a H H' ∧ (∃ c, TapeAt H' a c ts) ∧ ∃ ms : List Nat, H' D = some (.lst (ms.map vInt)) ∧ ms.length = i ∧ ∀ m ∈ ms, m < 2 ^ n)
      ⟨kp2.upd hD0, ⟨_, hT2.upd hDa⟩, [], upd_same, rfl, fun m hm => by cases hm⟩ ?_ ?_
    · rintro i H3 hi ⟨kp, ⟨c3, hT3⟩, ms, hM, hl, hr⟩
      refine ⟨rfl, _, rfl, _, rfl, a, c3, ts, 2 ^ n, rfl, hT3, Nat.two_pow_pos n, fun H4 c4 r hr4 h4 hT4 => ?_⟩
      refine ⟨_, by rw [h4 D hDa]; exact hM, ?_, (kp.trans (Kp.of h4)).upd hD0, ⟨_, hT4.upd hDa⟩, ms ++ [r], ?_, ?_, ?_⟩
      · rw [List.length_map]
        exact below (m := 100000) (by omega)
      · rw [upd_same, List.map_append]
        rfl
      · rw [List.length_append, hl]
        rfl
      · intro q hq
        rcases List.mem_append.mp hq with hq | hq
        · exact hr q hq
        · rw [List.mem_singleton.mp hq]
          exact hr4
    · rintro H3 ⟨kp, ⟨c3, hT3⟩, ms, hM, hl, hr⟩
      have ne : ms ≠ [] := by
        intro e
        rw [e] at hl
        have : ((1 : Int) + m0).toNat = 0 := hl.symm
        omega
      have b0 : ms.length ≤ 6 := by omega
      have inv0 : FaInv H a n w ts 6 true [some (.ref a), some (vInt n), some (vInt (2 ^ n)), some (vInt w), none, some (.ref D), none, none, none, none] H3 := ⟨c3, D, ms, _, _, _, _, _, rfl, kp, hT3, hD0, hM, hr, b0, fun _ => ne⟩
      -- the first word
      refine ⟨FaInv H a n w ts 24 true, ?_, ?_⟩
      · refine ⟨_, rfl, rfl, _, rfl, ite2 (fun z => ?_) (fun z => ?_)⟩
        · refine ⟨_, rfl, by decide, by decide, for_range (lo := 0) (n := 2) (fun i σ H' => FaInv H a n w ts (6 * 2 ^ i) true σ H') inv0 ?_ (fun σ H' h => h)⟩
          rintro i σ H4 hi ⟨c4, p4, ms4, y4, y6, y7, y8, y9, rfl, kp4, hT4, hp4, hM4, hr4, b4, ne4⟩
          obtain ⟨m1, hm1, e1⟩ := first_at (ne4 rfl)
          have bb : 6 * 2 ^ i ≤ 24 := by
            have : 2 ^ i ≤ 2 ^ 2 := Nat.pow_le_pow_right (by decide) (by omega)
            omega
          refine ⟨_, rfl, lc_map hM4 (by omega) (fun m hm H5 Q' s5 q => ?_) (fun D5 H5 rs hD5 s5 hM5 hl5 hr5 => ?_)⟩
          · refine ⟨_, rfl, p4, _, _, _, rfl, rfl, SqL.of (s5 _ _ hM4), e1, _, rfl, _, _, rfl, rfl, ?_⟩
            show Q' (V.int (Builtin.bitOr (m1 : Int) (m : Int))) H5
            rw [bitOr_nat]
            exact q _ (Nat.or_lt_two_pow (hr4 _ hm1) (hr4 _ hm))
          · refine ⟨p4, D5, _, _, rfl, rfl, s5 _ _ hM4, hM5, ?_, fun p6 hp6 => ?_⟩
            · rw [List.length_map, List.length_map]
              exact small (m := 100000) (by omega)
            · refine FaInv.cat (kp4.trans (kp_same s5)) (hT4.same s5) hp6 hr4 hr5 ?_ (ne4 rfl)
              rw [Nat.pow_succ]
              omega
        · exact ⟨c3, D, ms, _, _, _, _, _, rfl, kp, hT3, hD0, hM, hr, by omega, fun _ => ne⟩
      rintro _ H4 ⟨c4, p4, ms4, y4, y6, y7, y8, y9, rfl, kp4, hT4, hp4, hM4, hr4, b4, ne4⟩
      -- the second
      refine ⟨FaInv H a n w ts 48 true, ?_, ?_⟩
      · refine ⟨_, rfl, rfl, _, rfl, ite2 (fun z => ?_) (fun z => ?_)⟩
        · obtain ⟨m1, hm1, e1⟩ := first_at (ne4 rfl)
          obtain ⟨m2, hm2, e2⟩ := last_at (ne4 rfl)
          refine ⟨_, rfl, lc_map hM4 (by omega) (fun m hm H5 Q' s5 q => ?_) (fun D5 H5 rs hD5 s5 hM5 hl5 hr5 => ?_)⟩
          · refine ⟨_, rfl, p4, _, _, _, rfl, rfl, SqL.of (s5 _ _ hM4), e1, _, rfl, _, rfl, p4, _, _, _, rfl, rfl, SqL.of (s5 _ _ hM4), e2, _, _, rfl, rfl, _, rfl, _, _, rfl, rfl, ?_⟩
            show Q' (V.int (Builtin.bitXor (Builtin.bitXor (m1 : Int) (m2 : Int)) (m : Int))) H5
            rw [bitXor_nat, bitXor_nat]
            exact q _ (xorN_lt (xorN_lt (hr4 _ hm1) (hr4 _ hm2)) (hr4 _ hm))
          · refine ⟨p4, D5, _, _, rfl, rfl, s5 _ _ hM4, hM5, ?_, fun p6 hp6 => ?_⟩
            · rw [List.length_map, List.length_map]
              exact small (m := 100000) (by omega)
            · exact FaInv.cat (kp4.trans (kp_same s5)) (hT4.same s5) hp6 hr4 hr5 (by omega) (ne4 rfl)
        · exact ⟨c4, p4, ms4, _, _, _, _, _, rfl, kp4, hT4, hp4, hM4, hr4, by omega, ne4⟩
      rintro _ H5 ⟨c5, p5, ms5, y4, y6, y7, y8, y9, rfl, kp5, hT5, hp5, hM5, hr5, b5, ne5⟩
      -- the third
      refine ⟨FaInv H a n w ts 1024 false, ?_, ?_⟩
      · refine ⟨_, rfl, rfl, _, rfl, ite2 (fun z => ?_) (fun z => ?_)⟩
        · obtain ⟨m1, hm1, e1⟩ := first_at (ne5 rfl)
          obtain ⟨m2, hm2, e2⟩ := last_at (ne5 rfl)
          refine ⟨_, rfl, p5, _, _, _, rfl, rfl, SqL.of hM5, e1, _, rfl, _, rfl, p5, _, _, _, rfl, rfl, SqL.of hM5, e2, _, _, rfl, rfl, ?_⟩
          refine ⟨_, rfl, p5, _, _, _, rfl, rfl, SqL.of hM5, e1, _, rfl, _, rfl, p5, _, _, _, rfl, rfl, SqL.of hM5, e2, _, _, rfl, rfl, ?_⟩
          show tAsg (tLc (iRng1 (tCons (tVar 2) tNil)) (gName 6) _ (tVar 6) [6]) (gName 5) _ (faS a p5 n w y4 y6 (some (.int (Builtin.bitAnd (m1 : Int) (m2 : Int)))) (some (.int (Builtin.bitOr (m1 : Int) (m2 : Int)))) y9) H5
          refine lc_filter hn (fun m H6 Q' s6 q => ?_) (fun D6 H6 rs hD6 s6 hM6 hl6 hr6 => ?_)
          · refine ⟨_, rfl, _, rfl, _, _, rfl, rfl, _, rfl, rfl, _, rfl, ite2 (fun _ => ?_) (fun _ => q _)⟩
            exact ⟨_, rfl, _, rfl, _, _, rfl, rfl, _, rfl, rfl, _, rfl, q _⟩
          · exact ⟨c5, D6, rs, _, _, _, _, _, rfl, kp5.trans (kp_same s6), hT5.same s6, kp5.free hT5 hD6, hM6, hr6, by omega, fun q => by cases q⟩
        · exact ⟨c5, p5, ms5, _, _, _, _, _, rfl, kp5, hT5, hp5, hM5, hr5, by omega, fun q => by cases q⟩
      rintro _ H6 ⟨c6, p6, ms6, y4, y6, y7, y8, y9, rfl, kp6, hT6, hp6, hM6, hr6, b6, ne6⟩
      -- the fourth
      refine ⟨FaInv H a n w ts 1024 false, ?_, ?_⟩
      · refine ⟨_, rfl, rfl, _, rfl, ite2 (fun z => ?_) (fun z => ?_)⟩
        · refine lc_filter hn (fun m H6 Q' s7 q => ?_) (fun D7 H7 rs hD7 s7 hM7 hl7 hr7 => ?_)
          · exact ⟨_, rfl, m, by rw [Int.zero_add]; rfl, rfl, _, rfl, q _⟩
          · exact ⟨c6, D7, rs, _, _, _, _, _, rfl, kp6.trans (kp_same s7), hT6.same s7, kp6.free hT6 hD7, hM7, hr7, by omega, fun q => by cases q⟩
        · exact ⟨c6, p6, ms6, _, _, _, _, _, rfl, kp6, hT6, hp6, hM6, hr6, b6, ne6⟩
      rintro _ H7 ⟨c7, p7, ms7, y4, y6, y7, y8, y9, rfl, kp7, hT7, hp7, hM7, hr7, b7, ne7⟩
      -- each mask once
      refine ⟨small (m := 1) (Nat.zero_le _), fun q hq => ?_⟩
      have hqa := tape_ne hT7 hq
      have hq0 := kp7.free hT7 hq
      have hqp : p7 ≠ q := ne_of_none hM7 hq
      refine ⟨_, rfl, p7, rfl, ⟨_, SqL.of (by rw [upd_ne hqp]; exact hM7)⟩, for_list (K := K) (xs := ms7.map vInt) (fun i σ H' => ∃ (rs : List Nat) (y6 : Option V), σ = faS a p7 n w y4 y6 y7 y8 (some (.ref q)) ∧ Kp a H H' ∧ TapeAt H' a c7 ts ∧ H' p7 = some (.lst (ms7.map vInt)) ∧ H' q = some (.lst (rs.map vInt)) ∧ rs.Nodup ∧ (∀ r ∈ rs, r < 2 ^ n) ∧ rs.length ≤ i)
        ⟨[], y6, rfl, kp7.upd hq0, hT7.upd hqa, by rw [upd_ne hqp]; exact hM7, upd_same, List.nodup_nil, (fun r hr => by cases hr), Nat.le_refl _⟩ ?_ ?_ ?_⟩
      · rintro i σ H8 hi ⟨rs, y6, rfl, kp, hT, hM, hR, _⟩
        exact SqL.of hM
      · rintro i x σ H8 hx ⟨rs, y6, rfl, kp, hT, hM, hR, nd, hr, hl⟩
        obtain ⟨hi, rfl⟩ := item hx
        refine ⟨_, rfl, _, rfl, q, _, rfl, .inl (SqL.of hR), rfl, flat_all rs, _, rfl, ?_⟩
        rw [inV_nat]
        refine ite2 (fun z => ?_) (fun z => ?_)
        · have z1 : ¬ ms7[i] ∈ rs := by
            intro q
            rw [decide_eq_true q] at z
            cases z
          refine ⟨_, rfl, .inl ⟨rfl, _, SqL.of hR⟩, _, rfl, q, _, _, rfl, rfl, hR, ?_, rs ++ [ms7[i]], _, rfl, kp.upd hq0, hT.upd hqa, ?_, ?_, ?_, ?_, ?_⟩
          · rw [List.length_map]
            exact below (m := 100000) (by omega)
          · rw [upd_ne hqp]
            exact hM
          · rw [upd_same, List.map_append]
            rfl
          · exact List.nodup_append.mpr ⟨nd, List.pairwise_singleton _ _, fun x hx y hy e => z1 (by rw [List.mem_singleton.mp hy] at e; rw [← e]; exact hx)⟩
          · intro x hx
            rcases List.mem_append.mp hx with q | q
            · exact hr x q
            · rw [List.mem_singleton.mp q]
              exact hr7 _ (List.getElem_mem hi)
          · rw [List.length_append]
            show rs.length + 1 ≤ _
            omega
        · exact ⟨rs, _, rfl, kp, hT, hM, hR, nd, hr, by omega⟩
      · rintro σ H8 ⟨rs, y6, rfl, kp, hT, hM, hR, nd, hr, hl⟩
        exact ⟨_, rfl, k H8 c7 q rs ⟨hr, nd⟩ kp hT hq0 hR⟩
end
end Fam

/-! Masks as drawn; the sum place by place. -/
namespace Fam
open PySem L2
open C8 (pss_cut tCut)

/-- an item of a row -/
def rIxRow (K : PySem.W.Frag) : R2 := fun x y H Q => ∃ p xs i v, x = .ref p ∧ y = .int i ∧ Row K H p xs ∧ atI xs i = some v ∧ Q v H
theorem ix_row {X : Cx} : IxR X (rIxRow X.K) := fun value slice pins s σ H x y v u Q hi rv ru h e => by
  obtain ⟨p, xs, i, w, e1, e2, hS | hS, ha, q⟩ := h
  · exact ix_list value slice pins s σ H x y v u Q hi rv ru ⟨p, xs, i, w, e1, e2, hS, ha, q⟩ e
  · exact ix_tup value slice pins s σ H x y v u Q hi rv ru ⟨p, xs, i, w, e1, e2, hS, ha, q⟩ e

def lowOf (ms : List Nat) : Nat := ms.foldl (· &&& ·) (ms.headD 0)
def highOf (ms : List Nat) : Nat := ms.foldl (· ||| ·) (ms.headD 0)
/-- the sum place by place: what all masks have, and what some mask has if its weight is above 0 -/
def placeN (low high : Nat) (ws : List Int) : Nat → Int
  | 0 => 0
  | n + 1 => if 0 < low &&& 2 ^ n ∨ (0 < high &&& 2 ^ n ∧ 0 < ws.getD n 0) then placeN low high ws n + ws.getD n 0 else placeN low high ws n
theorem placeN_yes {low high n : Nat} {ws : List Int} (h : 0 < low &&& 2 ^ n ∨ (0 < high &&& 2 ^ n ∧ 0 < ws.getD n 0)) : placeN low high ws (n + 1) = placeN low high ws n + ws.getD n 0 := if_pos h
theorem placeN_no {low high n : Nat} {ws : List Int} (h : ¬ (0 < low &&& 2 ^ n ∨ (0 < high &&& 2 ^ n ∧ 0 < ws.getD n 0))) : placeN low high ws (n + 1) = placeN low high ws n := if_neg h
abbrev placeSum (ms : List Nat) (ws : List Int) : Int := placeN (lowOf ms) (highOf ms) ws ws.length


section
variable {P : Program} {w : World} {K : PySem.W.Frag} {mg : Str → Option Value} {base : Heap}
abbrev nDM : List Str := ["_law_tape", "_law_size", "_law_masks"]
theorem scDM : FnScope nDM ["_law_tape", "_law_size"] (defScope sDrawnMasks) := ⟨rfl, rfl, rfl, by decide +kernel, rfl, by decide +kernel, by decide +kernel⟩
theorem ok_drawn_masks {f : Addr} {fd : FuncData} (F : Fun K "_law_drawn_masks" "_law_drawn_masks" sDrawnMasks f fd) (T : Bare mg) (GT : Cal P w K mg base 1 "_law_take" ["_law_tape", "_law_many"] spDraw)
    (GF : Cal P w K mg base 2 "_law_family" ["_law_tape", "_law_size"] spFamily) : FnOk P w K mg base CX0 3 f fd ["_law_tape", "_law_size"] spFamily := by
  obtain ⟨gt, gtd, okt, bt, kt, mt⟩ := GT.ex
  obtain ⟨gf, gfd, okf, bf, kf, mf⟩ := GF.ex
  refine F.ok scDM (fun vs H Q E h => ?_) (fun cdv A outer s H vs Q E hr h => ?_)
  · obtain ⟨a, c, ts, n, rfl, _⟩ := h
    rfl
  · obtain ⟨a, c, ts, n, rfl, hT, hn, k⟩ := h
    refine ⟨_, pss_cons (ps_set (i := 2) scDM.nd rfl (Or.inl rfl) (pe_call okf hr rfl mf kf bf .nil pass0 (pa_cons (pv 0) (pa_cons (pv 1) pa_nil))))
      (pss_cons (ps_if (pt_cmpR op_eq (pe_call okt (hr.mono (by decide)) rfl mt kt bt .nil pass0 (pa_cons (pv 0) (pa_cons pe_int pa_nil))) pe_int (nomark _)) (pss_one (ps_ret (pe_lst pa_nil))) pss_nil)
      (pss_one (ps_ret (pv 2)))), ?_⟩
    refine ⟨_, rfl, _, rfl, a, c, ts, n, rfl, hT, hn, fun H1 c1 p ms hms kp hT1 hp hM => ?_⟩
    refine ⟨_, rfl, a, c1, ts, 8, rfl, hT1, by decide, fun H2 c2 d hd h2 hT2 => ⟨rfl, _, rfl, ite2 (fun z => ?_) (fun z => ?_)⟩⟩
    · refine ⟨small (m := 1) (Nat.zero_le _), fun q hq => ?_⟩
      have kp2 := kp.trans (Kp.of h2)
      exact k _ c2 q [] ⟨(fun m hm => by cases hm), List.nodup_nil⟩ (kp2.upd (kp2.free hT2 hq)) (hT2.upd (tape_ne hT2 hq)) (kp2.free hT2 hq) upd_same
    · have hpa : p ≠ a := fun e => by
        subst e
        rw [hT] at hp
        cases hp
      exact ⟨_, rfl, k H2 c2 p ms hms (kp.trans (Kp.of h2)) hT2 hp (by rw [h2 p hpa]; exact hM)⟩

end
end Fam

/-! sorted of a list of tuples of ints, of any lengths, the first of them empty. -/
namespace TSort
open PySem PySem.W PySem.Calls PyProof.Rows Builtin

/-- v is a tuple of these numbers -/
def IsTI (h : Heap) (v : Value) (ns : List Int) : Prop :=
  ∃ (a : Addr) (dd : Option Addr) (items : Array Value) (n : Nat) (sl : Array (Option Value)), v = .ref a ∧ h.get? a = some { cls := .type "tuple", dict := dd, data := .seq items n, slots := sl } ∧ IntsAre items.toList ns
theorem IsTI.keeps {h h' : Heap} {v : Value} {ns : List Int} (x : IsTI h v ns) (k : ∀ b o, v = .ref b → h.get? b = some o → h'.get? b = some o) : IsTI h' v ns := by
  obtain ⟨a, dd, items, n, sl, e, g, i⟩ := x
  exact ⟨a, dd, items, n, sl, e, k _ _ e g, i⟩
theorem IsTI.type {M : Model} {h : Heap} {v : Value} {ns : List Int} (x : IsTI h v ns) : Looks M h (typeOf v) (.type "tuple") := by
  obtain ⟨a, dd, items, n, sl, rfl, g, i⟩ := x
  exact (Looks.ld g).andThen .now
section
variable {prog : Program} {w : World} {A : Around} {E : Value → Shared → Prop} {s : Shared}
theorem lt_ti {v u : Value} {ns ms : List Int} {Q : Bool → Shared → Prop} (hu : A.units < cLine) (hv : IsTI s.heap v ns) (hw : IsTI s.heap u ms) (h : Q (HT.lexLt ns ms) s) : wpAny (model prog w) A (keyLt' oneType' v u) Q E s := by
  obtain ⟨a, dd, items, n, sl, rfl, ga, ia⟩ := hv
  obtain ⟨b, dd2, items2, n2, sl2, rfl, gb, ib⟩ := hw
  rw [keyLt'_oneType, oneLt'_eq]
  simp only [if_true]
  refine wpAny_bind (wpAny_cRoomFor hu ?_)
  refine wpAny_bind (wpAny_callSpecialIfBound?_slot (T := "tuple") ⟨_, ga, rfl⟩ PySem.F.slot_tuple_lt (call_meets PySem.F.slot_tuple_lt ⟨_, ga, rfl⟩ PySem.F.entry_tuple_lt (PySem.F.args_tuple_lt_2 _ _) (HT.tuple_lt_ints a b items items2 n n2 dd dd2 sl sl2 ns ms ia ib) ⟨ga, gb, ?_⟩))
  exact wpAny_truthy_bool h
theorem ti_cmp {vs : List Value} {k : Value → List Int} (hu : A.units < cLine) (hv : ∀ v ∈ vs, IsTI s.heap v (k v)) : SrtO.Cmp prog w A s oneType' (fun p => p.1 ∈ vs) (SrtO.lt2 fun v u => HT.lexLt (k v) (k u)) := by
  intro p q hp hq
  exact lt_ti (Q := fun r s' => s' = s ∧ r = HT.lexLt (k p.1) (k q.1)) (E := fun _ _ => False) hu (hv p.1 hp) (hv q.1 hq) ⟨rfl, rfl⟩
theorem ti_firsts {M : Model} {k : Value → List Int} : ∀ (vs : List Value), (∀ v ∈ vs, IsTI s.heap v (k v)) → ∃ fs : List (Option Value), fs.length = vs.length ∧ (∀ v r, vs = v :: r → k v = [] → ∃ fr, fs = none :: fr) ∧
    ∀ (Q : List (Option Value) → Shared → Prop), Q fs s → wpAny M A (vs.mapM firstOfTuple') Q E s
  | [], _ => ⟨[], rfl, (fun v r e => by cases e), (fun Q h => by rw [List.mapM_nil]; exact wpAny_pure h)⟩
  | v :: vs, hv => by
    obtain ⟨fs, hl, _, hw⟩ := ti_firsts vs fun u hu => hv u (.tail _ hu)
    have hv0 := hv v (.head _)
    have ty := hv0.type (M := M)
    obtain ⟨a, dd, items, n, sl, rfl, ga, ia⟩ := hv0
    refine ⟨items[0]? :: fs, by rw [List.length_cons, List.length_cons, hl], fun u r e h0 => ?_, fun Q h => ?_⟩
    · cases e
      rw [h0] at ia
      have z : items.toList = [] := by
        cases hi : items.toList with
        | nil => rfl
        | cons x y => rw [hi] at ia; cases ia
      refine ⟨fs, ?_⟩
      have z2 : items = #[] := Array.toList_eq_nil_iff.mp z
      rw [z2]
      rfl
    · rw [List.mapM_cons]
      refine wpAny_bind ?_
      rw [kas_first_eq]
      refine wpAny_bind (ty.here ?_)
      rw [if_neg (by first | decide | simp)]
      refine wpAny_bind (listItems_at ga rfl (wpAny_pure ?_))
      exact wpAny_bind (hw (fun bs s' => wpAny M A (pure (items[0]? :: bs)) Q E s') (wpAny_pure h))
theorem ti_kind {M : Model} {v₁ v₂ : Value} {vs : List Value} {k : Value → List Int} {Q : SortKind → Shared → Prop} (hv : ∀ v ∈ v₁ :: v₂ :: vs, IsTI s.heap v (k v)) (h0 : k v₁ = []) (h : Q oneType' s) : wpAny M A (keyKind' (v₁ :: v₂ :: vs).toArray) Q E s := by
  obtain ⟨fs, hl, hf, hw⟩ := ti_firsts (M := M) (A := A) (E := E) (v₁ :: v₂ :: vs) hv
  obtain ⟨fr, rfl⟩ := hf _ _ rfl h0
  rw [keyKind'_eq, List.mapM_toArray, map_eq_pure_bind]
  refine wpAny_bind (wpAny_bind (hw _ (wpAny_pure ?_)))
  rw [if_neg (by simp), if_neg (by simp)]
  rw [oneTypeOnly'_eq, List.mapM_toArray, map_eq_pure_bind]
  refine wpAny_bind (wpAny_bind (wpAny_bind (kas_mapM (r := .type "tuple") _ (fun v hm Q' hq => ((hv v hm).type (M := M)).here hq) (wpAny_pure ?_))))
  have hall : ((List.map (fun _ => Value.type "tuple") (v₁ :: v₂ :: vs)).toArray.all fun x => x == Value.type "tuple") = true := by
    simp only [List.all_toArray, List.all_map, List.all_eq_true]
    intro _ _
    rfl
  have hx : (List.map (fun _ => Value.type "tuple") (v₁ :: v₂ :: vs)).toArray[0]? = some (Value.type "tuple") := by simp
  rw [hx]
  simp only [hall, if_true]
  exact wpAny_pure (wpAny_pure h)
theorem ti_sortable {a : Addr} {v₁ v₂ : Value} {vs : List Value} {k : Value → List Int} (hu : A.units < cLine) (hv : ∀ v ∈ v₁ :: v₂ :: vs, IsTI s.heap v (k v)) (h0 : k v₁ = []) (ha : ∀ v ∈ v₁ :: v₂ :: vs, v ≠ .ref a) :
    SrtO.SortableO prog w A s a (v₁ :: v₂ :: vs) fun v u => HT.lexLt (k v) (k u) := by
  intro h' keep
  have hv' : ∀ v ∈ v₁ :: v₂ :: vs, IsTI h' v (k v) := fun v hm => (hv v hm).keeps fun b o e g => keep b o (fun z => ha v hm (by rw [e, z])) g
  exact ⟨oneType', fun Q E hq => ti_kind (s := { s with heap := h' }) hv' h0 hq, ti_cmp (s := { s with heap := h' }) hu hv'⟩
end
end TSort
namespace L2
open PySem PySem.Spec PyProof.Rows
/-- sorted(xs), xs tuples of ints (k says which), the first of them empty: a new list, sorted -/
def rSortedTI (K : PySem.W.Frag) : List V → Hp → VK → Prop := fun vs H Q => ∃ (a : Addr) (t0 t1 : Addr) (ts : List Addr) (k : Addr → List Int), vs = [V.ref a] ∧ SqL K H a ((t0 :: t1 :: ts).map V.ref) ∧ (∀ t ∈ t0 :: t1 :: ts, H t = some (.tup ((k t).map V.int))) ∧ k t0 = [] ∧
  ∀ (ts' : List Addr) (p : Addr), ts'.Perm (t0 :: t1 :: ts) → ts'.Pairwise (fun p q => HT.lexLt (k q) (k p) = false) → H p = none → Q (.ref p) (upd H p (.lst (ts'.map V.ref)))
section
variable {X : Cx}
theorem cr_sortedTI (hu : X.A.units + 64 < cLine) : CallR X (.builtin "sorted") (rSortedTI X.K) := by
  intro pins s σ H vs us Q I r h
  obtain ⟨a, t0, t1, ts, k, rfl, hs, hx, h0, q⟩ := h
  obtain ⟨its, rv, hl, hz⟩ := I.list hs
  obtain ⟨u, rfl, ru⟩ := vals1 r
  obtain rfl : u = Value.ref a := ru
  have ei := nts_of rv
  have hzs : its.length ≤ sizeLine := by rw [← rv.length]; exact hz
  have hv : ∀ u ∈ its, TSort.IsTI s.heap u (k (adO u)) := fun u hm => by
    rw [ei] at hm
    obtain ⟨t, ht, rfl⟩ := List.mem_map.mp hm
    obtain ⟨_, its2, r2, o, ho, hc, n, hd⟩ := I.hok _ _ (hx t ht)
    obtain ⟨cls, dd, data, sl⟩ := o
    simp only at hc hd
    subst hc hd
    exact ⟨t, dd, its2.toArray, n, sl, rfl, ho, intsAre_of r2⟩
  have hm0 : ∀ t ∈ t0 :: t1 :: ts, TSort.IsTI s.heap (.ref t) (k t) := fun t ht => hv (.ref t) (by rw [ei]; exact List.mem_map.mpr ⟨t, ht, rfl⟩)
  subst ei
  refine SrtO.sorted_ord (NtL.swo_lexL fun u => k (adO u)) hl.isList hzs (fun h2 h₁ b hb kk => ?_) fun out h1 h2 => ?_
  · refine TSort.ti_sortable (s := { s with heap := h₁ }) (by show X.A.units + 1 + 1 < cLine; omega) (fun v hm => (hv v hm).keeps fun b o e g => (kk b o g).2) h0 (fun v hm z => ?_)
    obtain ⟨c, dd, items, n, sl, e, g, i⟩ := hv v hm
    rw [e] at z
    exact (kk _ _ g).1 (Value.ref.inj z)
  · have eo : out = (out.map adO).map Value.ref := ref_map fun u hm => by
      obtain ⟨t, _, e⟩ := List.mem_map.mp (h2.perm.mem_iff.mp hm)
      exact ⟨t, e.symm⟩
    have hp : (out.map adO).Perm (t0 :: t1 :: ts) := by
      have p1 := h2.perm.map adO
      rw [ad_map] at p1
      exact p1
    have hs2 : (out.map adO).Pairwise (fun p q => HT.lexLt (k q) (k p) = false) := List.pairwise_map.mpr (h1.imp fun {x y} z => z)
    have rvo : Vals ((out.map adO).map V.ref) out := by
      have z := of_nts (out.map adO)
      rw [← eo] at z
      exact z
    have hd : s.heap.objs.size ≤ s.heap.objs.size + 1 := Nat.le_succ _
    obtain ⟨n, hn⟩ := sortedAll_at s.heap ((t0 :: t1 :: ts).map Value.ref) out.toArray
    refine ⟨.ref _, upd H (s.heap.objs.size + 1) (.lst ((out.map adO).map V.ref)), I.laid (t' := s.toks) (fun b o e => sortedAll_old e) hd ⟨?_, out, n, rvo, hn⟩, rfl, q _ _ hp hs2 (I.hok.fresh hd)⟩
    rw [List.length_map, hp.length_eq]
    rw [List.length_map] at hz
    exact hz
end
end L2

/-! All lots in their order. -/
namespace Fam
open PySem L2
open C8 (pss_cut tCut)

abbrev lotI (m : Nat) : List Int := (lotN m 12).map (fun n : Nat => (n : Int))
theorem lotV_eq (m : Nat) : lotV m = (lotI m).map V.int := by
  unfold lotV lotI
  rw [List.map_map]
  rfl
/-- a stands ahead of b, or they are one -/
def lotLe (a b : Nat) : Prop := HT.lexLt (lotI b) (lotI a) = false
/-- all masks of n places in the order of their lots -/
structure OrderOf (n : Nat) (ms : List Nat) : Prop where
  perm : ms.Perm (List.range (2 ^ n))
  srt : ms.Pairwise lotLe
theorem maskN_lotN (m : Nat) : ∀ n, maskN (lotN m n) = m % 2 ^ n
  | 0 => by rw [Nat.pow_zero, Nat.mod_one]; rfl
  | n + 1 => by
    rw [Nat.mod_pow_succ, ← maskN_lotN m n]
    by_cases h : m / 2 ^ n % 2 = 1
    · rw [lotN_yes h, maskN_snoc, h, Nat.mul_one]
    · have h0 : m / 2 ^ n % 2 = 0 := by omega
      rw [lotN_no h, h0, Nat.mul_zero, Nat.add_zero]
theorem lotN_lt (m : Nat) : ∀ n, ∀ i ∈ lotN m n, i < n
  | 0, i, h => by cases h
  | n + 1, i, h => by
    by_cases e : m / 2 ^ n % 2 = 1
    · rw [lotN_yes e] at h
      rcases List.mem_append.mp h with q | q
      · have := lotN_lt m n i q
        omega
      · rw [List.mem_singleton.mp q]
        omega
    · rw [lotN_no e] at h
      have := lotN_lt m n i h
      omega

/-! ### rows of lots, rearranged -/
theorem LotsAt.refs {H : Hp} : ∀ {vs : List V} {ms : List Nat}, LotsAt H vs ms → ∃ ts : List Addr, vs = ts.map V.ref
  | [], [], _ => ⟨[], rfl⟩
  | v :: vs, m :: ms, h => by
    obtain ⟨⟨p, rfl, _⟩, h2⟩ := h
    obtain ⟨ts, rfl⟩ := h2.refs
    exact ⟨p :: ts, rfl⟩
theorem LotsAt.get {H : Hp} : ∀ {vs : List V} {ms : List Nat} {i : Nat} {x : V}, LotsAt H vs ms → vs[i]? = some x → ∃ (hi : i < ms.length) (p : Addr), x = .ref p ∧ H p = some (.tup (lotV ms[i]))
  | [], [], i, x, _, e => by cases e
  | v :: vs, m :: ms, 0, x, h, e => by
    obtain ⟨⟨p, rfl, h1⟩, _⟩ := h
    cases e
    exact ⟨Nat.succ_pos _, p, rfl, h1⟩
  | v :: vs, m :: ms, i + 1, x, h, e => by
    obtain ⟨hi, p, e1, e2⟩ := h.2.get (i := i) e
    exact ⟨Nat.succ_lt_succ hi, p, e1, e2⟩
theorem LotsAt.mem {H : Hp} : ∀ {ts : List Addr} {ms : List Nat}, LotsAt H (ts.map V.ref) ms → (∀ m ∈ ms, ∃ t ∈ ts, H t = some (.tup (lotV m))) ∧ (∀ t ∈ ts, ∃ m ∈ ms, H t = some (.tup (lotV m)))
  | [], [], _ => ⟨(fun m h => by cases h), (fun m h => by cases h)⟩
  | t :: ts, m :: ms, h => by
    obtain ⟨⟨p, e, h1⟩, h2⟩ := h
    cases e
    obtain ⟨a, b⟩ := LotsAt.mem h2
    refine ⟨fun x hx => ?_, fun x hx => ?_⟩
    · rcases List.mem_cons.mp hx with e | q
      · rw [e]
        exact ⟨_, List.mem_cons_self, h1⟩
      · obtain ⟨u, hu, hh⟩ := a x q
        exact ⟨u, List.mem_cons_of_mem _ hu, hh⟩
    · rcases List.mem_cons.mp hx with e | q
      · rw [e]
        exact ⟨m, List.mem_cons_self, h1⟩
      · obtain ⟨u, hu, hh⟩ := b x q
        exact ⟨u, List.mem_cons_of_mem _ hu, hh⟩
theorem LotsAt.perm {H : Hp} {ts ts' : List Addr} (p : ts.Perm ts') : ∀ {ms : List Nat}, LotsAt H (ts.map V.ref) ms → ∃ ms' : List Nat, ms.Perm ms' ∧ LotsAt H (ts'.map V.ref) ms' := by
  induction p with
  | nil => exact fun h => ⟨_, List.Perm.refl _, h⟩
  | cons x p ih =>
    intro ms h
    cases ms with
    | nil => exact h.elim
    | cons m ms =>
      obtain ⟨ms', p2, h2⟩ := ih h.2
      exact ⟨m :: ms', p2.cons m, h.1, h2⟩
  | swap x y l =>
    intro ms h
    match ms, h with
    | [], h => exact h.elim
    | [_], h => exact h.2.elim
    | m :: m' :: ms, h => exact ⟨m' :: m :: ms, List.Perm.swap _ _ _, h.2.1, h.1, h.2.2⟩
  | trans p q ih1 ih2 =>
    intro ms h
    obtain ⟨ms1, p1, h1⟩ := ih1 h
    obtain ⟨ms2, p2, h2⟩ := ih2 h1
    exact ⟨ms2, p1.trans p2, h2⟩
def unI : V → Int
  | .int i => i
  | _ => 0
/-- the numbers of the tuple at t -/
def kOf (H : Hp) (t : Addr) : List Int :=
  match H t with
  | some (.tup xs) => xs.map unI
  | _ => []
theorem kOf_lot {H : Hp} {t : Addr} {m : Nat} (h : H t = some (.tup (lotV m))) : kOf H t = lotI m := by
  unfold kOf
  rw [h]
  show (lotV m).map unI = _
  rw [lotV_eq, List.map_map]
  exact (List.map_congr_left fun _ _ => rfl).trans (List.map_id _)
theorem LotsAt.srt {H : Hp} : ∀ {ts : List Addr} {ms : List Nat}, LotsAt H (ts.map V.ref) ms → ts.Pairwise (fun p q => HT.lexLt (kOf H q) (kOf H p) = false) → ms.Pairwise lotLe
  | [], [], _, _ => List.Pairwise.nil
  | t :: ts, m :: ms, h, hp => by
    obtain ⟨⟨p, e, h1⟩, h2⟩ := h
    cases e
    obtain ⟨q1, q2⟩ := List.pairwise_cons.mp hp
    refine List.pairwise_cons.mpr ⟨fun x hx => ?_, LotsAt.srt h2 q2⟩
    obtain ⟨u, hu, hh⟩ := (LotsAt.mem h2).1 x hx
    have := q1 u hu
    rw [kOf_lot hh, kOf_lot h1] at this
    exact this

def spAllLots : Sp := fun vs H Q _ => ∃ n : Nat, vs = [vInt n] ∧ 1 ≤ n ∧ n ≤ 10 ∧ ∀ (H' : Hp) (p : Addr) (ms : List Nat) (xs : List V), OrderOf n ms → Same H H' → H p = none → H' p = some (.lst xs) → LotsAt H' xs ms → Q (.ref p) H'
def spOrder : Sp := fun vs H Q _ => ∃ n : Nat, vs = [vInt n] ∧ 1 ≤ n ∧ n ≤ 10 ∧ ∀ (H' : Hp) (p : Addr) (ms : List Nat), OrderOf n ms → Same H H' → H p = none → H' p = some (.lst (ms.map vInt)) → Q (.ref p) H'

section
variable {P : Program} {w : World} {K : PySem.W.Frag} {mg : Str → Option Value} {base : Heap}
abbrev nAL : List Str := ["_law_size", "_law_mask_here"]
theorem scAL : FnScope nAL ["_law_size"] (defScope sAllLots) := ⟨rfl, rfl, rfl, by decide +kernel, rfl, by decide +kernel, by decide +kernel⟩
theorem ok_all_lots {f : Addr} {fd : FuncData} (F : Fun K "_law_all_lots" "_law_all_lots" sAllLots f fd) (T : Bare mg) (GL : Cal P w K mg base 1 "_law_lot" ["_law_mask_here"] spLot)
    (GF : Cal P w K mg base 1 "_law_full" ["_law_size"] spFull) : FnOk P w K mg base CX0 2 f fd ["_law_size"] spAllLots := by
  obtain ⟨gl, gld, okl, bl, kl, ml⟩ := GL.ex
  obtain ⟨gf, gfd, okf, bf, kf, mf⟩ := GF.ex
  refine F.ok scAL (fun vs H Q E h => ?_) (fun cdv A outer s H vs Q E hr h => ?_)
  · obtain ⟨n, rfl, _⟩ := h
    rfl
  · obtain ⟨n, rfl, h1, h2, k⟩ := h
    have h10 := pow_le10 h2
    refine ⟨_, pss_one (ps_ret (pe_callB (cr_sortedTI hr.units) (by rfl) T.sorted (by decide +kernel) (pa_cons (pe_lc (own := [("_law_mask_here", 1)]) (g := gName 1) (tt := tYes) rfl scAL.nd
      (pi_range1 rfl T.range (pa_cons (pe_call okf hr rfl mf kf bf .nil pass0 (pa_cons (pv 0) pa_nil)) pa_nil)) (blkOk_by (own := [("_law_mask_here", 1)]) (N := nAL) (sc := defScope sAllLots) (by decide +kernel)) (fun _ _ _ _ _ => pg_name (i := 1) scAL.nd rfl (Or.inl rfl)) (fun _ _ _ _ _ => pts_nil)
      (fun _ _ _ _ _ => pe_call okl hr rfl ml kl bl .nil pass0 (pa_cons (pv 1) pa_nil))) pa_nil))), ?_⟩
    refine ⟨_, rfl, n, rfl, by omega, _, rfl, Int.le_trans (by decide) (Int.natCast_nonneg _), Int.lt_of_le_of_lt (Int.ofNat_le.mpr h10) (by decide), fun D hD => ?_⟩
    refine lc_range (lo := 0) (n := 2 ^ n) (fun i H' => Same H H' ∧ ∃ xs, H' D = some (.lst xs) ∧ LotsAt H' xs (List.range i)) ⟨same_new hD, [], upd_same, trivial⟩ ?_ ?_
    · rintro i H1 hi ⟨sm, xs, hT, hL⟩
      refine ⟨rfl, _, rfl, i, by rw [Int.zero_add]; rfl, fun H2 p s2 hp ht => ?_⟩
      refine ⟨_, s2 _ _ hT, ?_, same_upd (sm.trans s2) hD, _, upd_same, ?_⟩
      · rw [hL.len, List.length_range]
        exact below (m := 100000) (by omega)
      · rw [List.range_succ]
        exact ((hL.same s2).add ht).upd (s2 _ _ hT)
    · rintro H1 ⟨sm, xs, hT, hL⟩
      obtain ⟨ts, rfl⟩ := hL.refs
      have hlen := hL.len
      rw [List.length_map, List.length_range] at hlen
      have h2n : 2 ≤ 2 ^ n := by
        have : 2 ^ 1 ≤ 2 ^ n := Nat.pow_le_pow_right (by decide) h1
        omega
      obtain ⟨t0, t1, tr, rfl⟩ : ∃ t0 t1 tr, ts = t0 :: t1 :: tr := by
        match ts, hlen with
        | [], e => simp at e; omega
        | [_], e => simp at e; omega
        | t0 :: t1 :: tr, _ => exact ⟨t0, t1, tr, rfl⟩
      have e0 : kOf H1 t0 = [] := by
        have er : List.range (2 ^ n) = 0 :: (List.range (2 ^ n - 1)).map Nat.succ := by
          have : 2 ^ n = (2 ^ n - 1) + 1 := by omega
          rw [this, List.range_succ_eq_map]
          rfl
        rw [er] at hL
        obtain ⟨⟨p, e, hp⟩, _⟩ := hL
        cases e
        rw [kOf_lot hp]
        decide +kernel
      refine ⟨D, t0, t1, tr, kOf H1, rfl, SqL.of hT, fun t ht => ?_, e0, fun ts' p hp hs hpn => ?_⟩
      · obtain ⟨m, _, hm⟩ := (LotsAt.mem hL).2 t ht
        rw [kOf_lot hm, ← lotV_eq]
        exact hm
      · obtain ⟨ms', pm, hL'⟩ := LotsAt.perm hp.symm hL
        exact k _ p ms' _ ⟨pm.symm, LotsAt.srt hL' hs⟩ (sm.trans (same_new hpn)) (sm.free hpn) upd_same (hL'.same (same_new hpn))

abbrev nOR : List Str := ["_law_size", "_law_lot_here"]
theorem scOR : FnScope nOR ["_law_size"] (defScope sOrder) := ⟨rfl, rfl, rfl, by decide +kernel, rfl, by decide +kernel, by decide +kernel⟩
theorem ok_order {f : Addr} {fd : FuncData} (F : Fun K "_law_order" "_law_order" sOrder f fd) (T : Bare mg) (GM : Cal P w K mg base 2 "_law_mask" ["_law_lot_here"] (spMask K))
    (GA : Cal P w K mg base 2 "_law_all_lots" ["_law_size"] spAllLots) : FnOk P w K mg base CX0 3 f fd ["_law_size"] spOrder := by
  obtain ⟨gm, gmd, okm, bm, km, mm⟩ := GM.ex
  obtain ⟨ga, gad, oka, ba, ka, ma⟩ := GA.ex
  refine F.ok scOR (fun vs H Q E h => ?_) (fun cdv A outer s H vs Q E hr h => ?_)
  · obtain ⟨n, rfl, _⟩ := h
    rfl
  · obtain ⟨n, rfl, h1, h2, k⟩ := h
    have h10 := pow_le10 h2
    refine ⟨_, pss_one (ps_ret (pe_lc (own := [("_law_lot_here", 1)]) (g := gName 1) (tt := tYes) rfl scOR.nd
      (pi_list (pe_call oka hr rfl ma ka ba .nil pass0 (pa_cons (pv 0) pa_nil))) (blkOk_by (own := [("_law_lot_here", 1)]) (N := nOR) (sc := defScope sOrder) (by decide +kernel)) (fun _ _ _ _ _ => pg_name (i := 1) scOR.nd rfl (Or.inl rfl)) (fun _ _ _ _ _ => pts_nil)
      (fun _ _ _ _ _ => pe_call okm hr rfl mm km bm .nil pass0 (pa_cons (pv 1) pa_nil)))), ?_⟩
    refine ⟨_, rfl, n, rfl, h1, h2, fun H1 p ms xs ho s1 hp hT hL => ⟨p, rfl, ⟨_, SqL.of hT⟩, fun D hD => ?_⟩⟩
    have hD0 : H D = none := s1.free hD
    have hlm : ms.length = 2 ^ n := by rw [ho.perm.length_eq, List.length_range]
    refine lc_list (K := K) (a := p) (xs := xs) (fun i H' => Same H1 H' ∧ H' D = some (.lst ((ms.take i).map vInt))) ⟨same_new hD, upd_same⟩ ?_ ?_ ?_
    · rintro i H2 hi ⟨sm, _⟩
      exact SqL.of (sm _ _ hT)
    · rintro i x H2 hx ⟨sm, hR⟩
      obtain ⟨hi, q, rfl, hq⟩ := hL.get hx
      have hm : ms[i] < 2 ^ n := List.mem_range.mp (ho.perm.mem_iff.mp (List.getElem_mem hi))
      have e1 : maskN (lotN ms[i] 12) = ms[i] := by
        rw [maskN_lotN]
        exact Nat.mod_eq_of_lt (by omega)
      refine ⟨rfl, _, rfl, q, lotN ms[i] 12, rfl, SqT.of (sm _ _ hq), fun j hj => by have := lotN_lt _ _ j hj; omega, ?_⟩
      rw [e1]
      refine ⟨_, hR, ?_, same_upd sm hD, ?_⟩
      · rw [List.length_map, List.length_take]
        exact below (m := 100000) (by omega)
      · rw [upd_same, take_more hi, List.map_append]
        rfl
    · rintro H2 ⟨sm, hR⟩
      rw [hL.len, List.take_length] at hR
      exact k H2 D ms ho (s1.trans sm) hD0 hR
end
end Fam

/-! What k49's texts hold that is of use here. -/
namespace Fam
open PySem L2
open C8 (pss_cut tCut)
theorem find_at {α : Type} {p : α → Bool} : ∀ {l : List α} {k : Nat} (hk : k < l.length), (∀ z ∈ l.take k, p z = false) → p l[k] = true → l.find? p = some l[k]
  | x :: l, 0, _, _, hp => List.find?_cons_of_pos (p := p) (a := x) (l := l) hp
  | x :: l, k + 1, hk, h, hp => by
    rw [List.find?_cons_of_neg (by rw [h x (by rw [List.take_succ_cons]; exact List.mem_cons_self)]; decide)]
    exact find_at (Nat.lt_of_succ_lt_succ hk) (fun z hz => h z (by rw [List.take_succ_cons]; exact List.mem_cons_of_mem _ hz)) hp
theorem findSome_at {α β : Type} {f : α → Option β} {r : β} : ∀ {l : List α} {k : Nat} (hk : k < l.length), (∀ z ∈ l.take k, f z = none) → f l[k] = some r → l.findSome? f = some r
  | x :: l, 0, _, _, hp => by
    rw [List.findSome?_cons]
    show (match f x with | some b => some b | none => _) = _
    have : f x = some r := hp
    rw [this]
  | x :: l, k + 1, hk, h, hp => by
    rw [List.findSome?_cons, h x (by rw [List.take_succ_cons]; exact List.mem_cons_self)]
    exact findSome_at (Nat.lt_of_succ_lt_succ hk) (fun z hz => h z (by rw [List.take_succ_cons]; exact List.mem_cons_of_mem _ hz)) hp

def insideOf (ms os : List Nat) : List Nat := os.filter fun m => decide (m ∈ ms)
theorem bit_iff (m n : Nat) : m / 2 ^ n % 2 = 1 ↔ m.testBit n = true := by
  rw [Nat.testBit_eq_decide_div_mod_eq, decide_eq_true_eq]
theorem and_pow (m n : Nat) : (0 < m &&& 2 ^ n) ↔ m.testBit n = true := by
  constructor
  · intro h
    cases e : m.testBit n with
    | true => rfl
    | false =>
      exfalso
      have z : m &&& 2 ^ n = 0 := by
        apply Nat.eq_of_testBit_eq
        intro i
        rw [Nat.testBit_and, Nat.testBit_two_pow, Nat.zero_testBit]
        by_cases q : n = i
        · subst q
          rw [e, Bool.false_and]
        · rw [decide_eq_false q, Bool.and_false]
      omega
  · intro h
    apply Nat.pos_of_ne_zero
    intro z
    have q : (m &&& 2 ^ n).testBit n = true := by rw [Nat.testBit_and, h, Nat.testBit_two_pow_self] <;> rfl
    rw [z, Nat.zero_testBit] at q
    cases q
def In (a b : Nat) : Prop := ∀ i, a.testBit i = true → b.testBit i = true
theorem In.refl (a : Nat) : In a a := fun _ h => h
theorem In.trans {a b c : Nat} (h : In a b) (k : In b c) : In a c := fun i q => k i (h i q)
theorem and_in {a z : Nat} : a &&& z = a ↔ In a z := by
  constructor
  · intro h i q
    have e : (a &&& z).testBit i = true := by rw [h]; exact q
    rw [Nat.testBit_and, q] at e
    simpa using e
  · intro h
    apply Nat.eq_of_testBit_eq
    intro i
    rw [Nat.testBit_and]
    cases e : a.testBit i with
    | false => rfl
    | true => rw [h i e] <;> rfl
theorem or_in {a z : Nat} : a ||| z = a ↔ In z a := by
  constructor
  · intro h i q
    have e : (a ||| z).testBit i = true := by rw [Nat.testBit_or, q, Bool.or_true]
    rw [h] at e
    exact e
  · intro h
    apply Nat.eq_of_testBit_eq
    intro i
    rw [Nat.testBit_or]
    cases e : z.testBit i with
    | false => rw [Bool.or_false]
    | true => rw [h i e] <;> rfl
theorem in_lt {z m n : Nat} (h : In z m) (hm : m < 2 ^ n) : z < 2 ^ n := by
  have e : z &&& m = z := and_in.mpr h
  rw [← e]
  exact Nat.lt_of_le_of_lt Nat.and_le_right hm
theorem in_and_l (a b : Nat) : In (a &&& b) a := fun i h => by rw [Nat.testBit_and, Bool.and_eq_true] at h; exact h.1
theorem in_and_r (a b : Nat) : In (a &&& b) b := fun i h => by rw [Nat.testBit_and, Bool.and_eq_true] at h; exact h.2
theorem in_or_l (a b : Nat) : In a (a ||| b) := fun i h => by rw [Nat.testBit_or, h] <;> rfl
theorem in_or_r (a b : Nat) : In b (a ||| b) := fun i h => by rw [Nat.testBit_or, h, Bool.or_true]
theorem wsN_bit (m : Nat) (ws : List Int) (n : Nat) : wsN m ws (n + 1) = wsN m ws n + (if m.testBit n = true then ws.getD n 0 else 0) := by
  by_cases h : m / 2 ^ n % 2 = 1
  · rw [wsN_yes h, if_pos ((bit_iff m n).mp h)]
  · rw [wsN_no h, if_neg (fun q => h ((bit_iff m n).mpr q)), Int.add_zero]
theorem better_max (b : Option Int) (t : Int) : ∃ v, better b t = some v ∧ t ≤ v ∧ (∀ x, b = some x → x ≤ v) ∧ (v = t ∨ b = some v) := by
  cases b with
  | none => exact ⟨t, rfl, Int.le_refl _, (fun x h => by cases h), .inl rfl⟩
  | some x =>
    by_cases h : t > x
    · exact ⟨t, if_pos h, Int.le_refl _, (fun y e => by cases e; omega), .inl rfl⟩
    · exact ⟨x, if_neg h, by omega, (fun y e => by cases e; omega), .inr rfl⟩
theorem snoc_ind {α : Type} {p : List α → Prop} (h0 : p []) (h : ∀ l a, p l → p (l ++ [a])) : ∀ l, p l := by
  have q : ∀ n (l : List α), l.length = n → p l := by
    intro n
    induction n with
    | zero => exact fun l e => by rw [List.length_eq_zero_iff.mp e]; exact h0
    | succ n ih =>
      intro l e
      rcases List.eq_nil_or_concat l with r | ⟨k, b, r⟩
      · rw [r] at e
        cases e
      · rw [r, List.concat_eq_append] at e ⊢
        rw [List.length_append] at e
        exact h k b (ih k (by simpa using e))
  exact fun l => q _ l rfl
theorem best_spec (ws : List Int) : ∀ ms : List Nat, ms ≠ [] → ∃ v, bestOf ws ms = some v ∧ (∀ m ∈ ms, wsum m ws ≤ v) ∧ ∃ m ∈ ms, wsum m ws = v := by
  refine snoc_ind (fun h => absurd rfl h) fun l m ih => ?_
  · intro _
    rw [bestOf_snoc]
    by_cases e : l = []
    · subst e
      exact ⟨_, rfl, fun x hx => by rw [List.mem_singleton.mp hx]; exact Int.le_refl _, m, List.mem_singleton.mpr rfl, rfl⟩
    · obtain ⟨v, h1, h2, x, hx, h3⟩ := ih e
      rw [h1]
      obtain ⟨u, g1, g2, g3, g4⟩ := better_max (some v) (wsum m ws)
      refine ⟨u, g1, fun y hy => ?_, ?_⟩
      · rcases List.mem_append.mp hy with q | q
        · exact Int.le_trans (h2 y q) (g3 v rfl)
        · rw [List.mem_singleton.mp q]
          exact g2
      · rcases g4 with g | g
        · exact ⟨m, List.mem_append.mpr (.inr (List.mem_singleton.mpr rfl)), g.symm⟩
        · cases g
          exact ⟨x, List.mem_append.mpr (.inl hx), h3⟩
theorem bit_apart {m z n : Nat} (hm : m < 2 ^ n) (hz : z < 2 ^ n) (h : m ≠ z) : ∃ i, i < n ∧ m.testBit i ≠ z.testBit i := by
  refine Classical.byContradiction fun q => h (Nat.eq_of_testBit_eq fun i => ?_)
  by_cases hi : i < n
  · exact Classical.byContradiction fun e => q ⟨i, hi, e⟩
  · have le : 2 ^ n ≤ 2 ^ i := Nat.pow_le_pow_right (by decide) (by omega)
    rw [Nat.testBit_lt_two_pow (by omega), Nat.testBit_lt_two_pow (by omega)]
def DefAt (K : PySem.W.Frag) (x : Str) (st : Stmt) (f : Addr) : Prop :=
  ∃ (od an : Option Addr) (sl : Array (Option Value)) (oc kV dc pm cd ct : Value), PySem.W.nsIn K mainGlobals x = some (some (.ref f)) ∧
    K.lookup f = some ⟨oc, od, .func (PySem.W.fnOf x x (defArgs st) (defBody st) (defScope st) .none kV dc pm an cd ct), sl⟩ ∧ PySem.W.codeIn K cd x = true ∧ PySem.W.keepIn K (.ref f) = true
theorem def_at {K : PySem.W.Frag} {x : Str} {st : Stmt} {f : Addr} {od an : Option Addr} {sl : Array (Option Value)} {oc kV dc pm cd ct : Value} (a : PySem.W.nsIn K mainGlobals x = some (some (.ref f)))
    (l : K.lookup f = some ⟨oc, od, .func (PySem.W.fnOf x x (defArgs st) (defBody st) (defScope st) .none kV dc pm an cd ct), sl⟩) (c : PySem.W.codeIn K cd x = true) (k : PySem.W.keepIn K (.ref f) = true) : ∃ f, DefAt K x st f := ⟨f, od, an, sl, oc, kV, dc, pm, cd, ct, a, l, c, k⟩
theorem cal {P : Program} {w : World} {K : PySem.W.Frag} {mg : Str → Option Value} {base : Heap} {h : Heap} {k : Nat} {x : Str} {st : Stmt} {ps : List Str} {sp : Sp} (X : K.In h) (G : h.Ns mainGlobals mg) (D : ∃ f, DefAt K x st f)
    (hb : ∀ (kV doc pm : Value) (an : Option Addr) (cdv ct : Value) (us : List Value), us.length = ps.length → bindArgs (PySem.W.fnOf x x (defArgs st) (defBody st) (defScope st) .none kV doc pm an cdv ct) ⟨us, []⟩ = pure (ps.zip us))
    (ok : ∀ f fd, Fun K x x st f fd → FnOk P w K mg base CX0 k f fd ps sp) : Cal P w K mg base k x ps sp := by
  obtain ⟨f, od, an, sl, oc, kV, dc, pm, cd, ct, a, l, c, kk⟩ := D
  have F := fun_mk (st := st) l c kk
  exact ⟨f, _, ok f _ F, F.binds hb, kk, PySem.W.mg_of X G a⟩
structure Bares (K : PySem.W.Frag) : Prop where
  len : PySem.W.nsIn K mainGlobals "len" = some none
  int : PySem.W.nsIn K mainGlobals "int" = some none
  range : PySem.W.nsIn K mainGlobals "range" = some none
  min : PySem.W.nsIn K mainGlobals "min" = some none
  bool : PySem.W.nsIn K mainGlobals "bool" = some none
  isi : PySem.W.nsIn K mainGlobals "isinstance" = some none
  tuple : PySem.W.nsIn K mainGlobals "tuple" = some none
  list : PySem.W.nsIn K mainGlobals "list" = some none
  abs : PySem.W.nsIn K mainGlobals "abs" = some none
  sorted : PySem.W.nsIn K mainGlobals "sorted" = some none
theorem Bares.bare {K : PySem.W.Frag} {h : Heap} {mg : Str → Option Value} (X : K.In h) (G : h.Ns mainGlobals mg) (b : Bares K) : Bare mg :=
  ⟨PySem.W.mg_none_of X G b.len, PySem.W.mg_none_of X G b.int, PySem.W.mg_none_of X G b.range, PySem.W.mg_none_of X G b.min, PySem.W.mg_none_of X G b.bool, PySem.W.mg_none_of X G b.isi, PySem.W.mg_none_of X G b.tuple, PySem.W.mg_none_of X G b.list, PySem.W.mg_none_of X G b.abs, PySem.W.mg_none_of X G b.sorted⟩
theorem passE0 {P : Program} {w : World} {X : Cx} : Passes (L2.CX P w) X E0 := fun _ _ _ _ _ _ _ h => by
  obtain ⟨_, _, _, _, _, _, _, _, _, _, _, _, h⟩ := h
  exact h.elim
section
variable (K : PySem.W.Frag) (C B : Addr) (At : Hp → Addr → Nat → List Nat → Prop)
def spInit : Sp := fun vs H Q _ => ∃ (x dx a : Addr) (n : Nat) (xs : List V) (ms : List Nat), vs = [.ref x, vInt n, .ref a] ∧ H x = some (.ins C dx []) ∧ H dx = some (.own x) ∧ Row K H a xs ∧ LotsAt H xs ms ∧ 1 ≤ n ∧ n ≤ 10 ∧ Masks n ms ∧
  ∀ H' : Hp, (∀ b o, b ≠ x → b ≠ dx → H b = some o → H' b = some o) → At H' x n ms → Q .non H'
def spTop : Sp := fun vs H Q _ => ∃ (f b : Addr) (n : Nat) (ms : List Nat) (ws : List Int), vs = [.ref f, .ref b] ∧ At H f n ms ∧ Row K H b (ws.map V.int) ∧ ws.length = n ∧ ∀ H', Same H H' → Q (optV (bestOf ws ms)) H'
end
structure CalX (P : Program) (w : World) (K : PySem.W.Frag) (mg : Str → Option Value) (base : Heap) (k : Nat) (x : Str) (ps : List Str) (sp : Sp) : Prop where
  ex : ∃ (g : Addr) (gd : FuncData), FnOk P w K mg base CX0 k g gd ps sp ∧ Binds K gd ps [] ∧ PySem.W.keepIn K (.ref g) = true ∧ mg x = some (.ref g)
theorem made_same {H H' : Hp} {x dx C : Addr} (hx : H x = none) (hdx : H dx = none) (k : ∀ b o, b ≠ x → b ≠ dx → upd (upd H dx (.own x)) x (.ins C dx []) b = some o → H' b = some o) : Same H H' := fun b o e => by
  have h1 : b ≠ x := ne_of_none e hx
  have h2 : b ≠ dx := ne_of_none e hdx
  refine k b o h1 h2 ?_
  rw [upd_ne h1, upd_ne h2]
  exact e
theorem made_new {H : Hp} {x dx C : Addr} (hx : H x = none) (hdx : H dx = none) : Same H (upd (upd H dx (.own x)) x (.ins C dx [])) := fun b o e => by
  rw [upd_ne (ne_of_none e hx), upd_ne (ne_of_none e hdx)]
  exact e

theorem uniq_of {R : Nat → Nat → Prop} : ∀ {l m : List Nat}, (∀ a b, a ∈ l → b ∈ l → R a b → R b a → a = b) → l.Pairwise R → m.Pairwise R → l.Perm m → l = m
  | [], m, _, _, _, p => (List.Perm.eq_nil p.symm).symm
  | a :: l, [], _, _, _, p => absurd p.length_eq (by simp)
  | a :: l, b :: m, anti, hl, hm, p => by
    obtain ⟨hl1, hl2⟩ := List.pairwise_cons.mp hl
    obtain ⟨hm1, hm2⟩ := List.pairwise_cons.mp hm
    have hb : b ∈ a :: l := p.mem_iff.mpr List.mem_cons_self
    have ha : a ∈ b :: m := p.mem_iff.mp List.mem_cons_self
    have e : a = b := by
      rcases List.mem_cons.mp ha with e | h1
      · exact e
      · rcases List.mem_cons.mp hb with e | h2
        · exact e.symm
        · exact anti a b List.mem_cons_self hb (hl1 b h2) (hm1 a h1)
    subst e
    rw [uniq_of (fun x y hx hy => anti x y (List.mem_cons_of_mem _ hx) (List.mem_cons_of_mem _ hy)) hl2 hm2 p.cons_inv]
theorem lex_tot : ∀ xs ys : List Int, HT.lexLt xs ys = false → HT.lexLt ys xs = false → xs = ys
  | [], [], _, _ => rfl
  | [], y :: ys, h, _ => by rw [HT.lexLt_nil_cons] at h; cases h
  | x :: xs, [], _, h => by rw [HT.lexLt_nil_cons] at h; cases h
  | x :: xs, y :: ys, h1, h2 => by
    rw [HT.lexLt_cons] at h1 h2
    by_cases e : x = y
    · rw [if_pos e] at h1
      rw [if_pos e.symm] at h2
      rw [e, lex_tot xs ys h1 h2]
    · rw [if_neg e] at h1
      rw [if_neg (Ne.symm e)] at h2
      have a := of_decide_eq_false h1
      have b := of_decide_eq_false h2
      omega
theorem lotI_inj {a b n : Nat} (hn : n ≤ 10) (ha : a < 2 ^ n) (hb : b < 2 ^ n) (h : lotI a = lotI b) : a = b := by
  have le : 2 ^ n ≤ 2 ^ 12 := Nat.pow_le_pow_right (by decide) (by omega)
  have e : lotN a 12 = lotN b 12 := List.map_inj_right (fun _ _ q => Int.ofNat.inj q) |>.mp h
  have e2 := congrArg maskN e
  rw [maskN_lotN, maskN_lotN, Nat.mod_eq_of_lt (by omega), Nat.mod_eq_of_lt (by omega)] at e2
  exact e2
theorem order_uniq {n : Nat} {os os' : List Nat} (hn : n ≤ 10) (h : OrderOf n os) (h' : OrderOf n os') : os = os' := by
  have lt : ∀ a ∈ os, a < 2 ^ n := fun a ha => List.mem_range.mp (h.perm.mem_iff.mp ha)
  exact uniq_of (fun a b ha hb h1 h2 => lotI_inj hn (lt a ha) (lt b hb) (lex_tot _ _ h2 h1)) h.srt h'.srt (h.perm.trans h'.perm.symm)

/-! ### what is compared, as data -/
abbrev dLot (m : Nat) : PyData := .tuple ((lotI m).map PyData.int)
def dTold : Option (Nat × Nat × Nat) → PyData
  | none => .none
  | some (x, y, z) => .tuple [dLot x, dLot y, dLot z]
theorem can_ints (l : List Int) : PyData.canLayAll0 (l.map PyData.int) = true := by
  induction l with
  | nil => rfl
  | cons x l ih => simp [PyData.canLayAll0, PyData.canLay0, ih]
theorem depth_ints (l : List Int) : PyData.depthAll (l.map PyData.int) ≤ 1 := by
  induction l with
  | nil => simp [PyData.depthAll]
  | cons x l ih =>
    simp only [List.map_cons, PyData.depthAll, PyData.depth]
    omega
theorem can_lot (m : Nat) : (dLot m).canLay0 = true := by
  simp only [PyData.canLay0]
  exact can_ints _
theorem depth_lot (m : Nat) : (dLot m).depth ≤ 3 := by
  simp only [PyData.depth]
  have := depth_ints (lotI m)
  omega
theorem can_lots (ms : List Nat) : PyData.canLayAll0 (ms.map dLot) = true := by
  induction ms with
  | nil => rfl
  | cons x l ih =>
    rw [List.map_cons]
    simp only [PyData.canLayAll0, ih, can_lot, Bool.and_self]
theorem depth_lots (ms : List Nat) : PyData.depthAll (ms.map dLot) ≤ 3 := by
  induction ms with
  | nil => simp [PyData.depthAll]
  | cons x l ih =>
    rw [List.map_cons]
    simp only [PyData.depthAll]
    have := depth_lot x
    omega
theorem shaped_lots (ms : List Nat) : SeqAt.shaped (.list (ms.map dLot)) = true := by
  unfold SeqAt.shaped
  have := depth_lots ms
  rw [Bool.and_eq_true]
  exact ⟨by simp only [PyData.canLay0]; exact can_lots ms, decide_eq_true (by simp only [PyData.depth]; omega)⟩
theorem shaped_told (o : Option (Nat × Nat × Nat)) : SeqAt.shaped (dTold o) = true := by
  match o with
  | none => rfl
  | some (x, y, z) =>
    have c := can_lots [x, y, z]
    have d := depth_lots [x, y, z]
    show SeqAt.shaped (.tuple ([x, y, z].map dLot)) = true
    unfold SeqAt.shaped
    rw [Bool.and_eq_true]
    exact ⟨by simp only [PyData.canLay0]; exact c, decide_eq_true (by simp only [PyData.depth]; omega)⟩
theorem dp_ints {K : PySem.W.Frag} {H : Hp} : ∀ l : List Int, DpAll K H (l.map V.int) (l.map PyData.int)
  | [] => .nil
  | _ :: l => .cons (.int _) (dp_ints l)
theorem dp_lot {K : PySem.W.Frag} {H : Hp} {p : Addr} {m : Nat} (h : H p = some (.tup (lotV m))) : Dp K H (.ref p) (dLot m) := by
  rw [lotV_eq] at h
  exact .tup (SqT.of h) (dp_ints _)
theorem dp_lots {K : PySem.W.Frag} {H : Hp} : ∀ {xs : List V} {ms : List Nat}, LotsAt H xs ms → DpAll K H xs (ms.map dLot)
  | [], [], _ => .nil
  | v :: vs, m :: ms, h => by
    obtain ⟨⟨p, rfl, h1⟩, h2⟩ := h
    exact .cons (dp_lot h1) (dp_lots h2)
def ToldBy (H : Hp) (o : Option (Nat × Nat × Nat)) (v : V) : Prop :=
  match o with
  | none => v = .non
  | some (x, y, z) => ∃ p q1 q2 q3, v = .ref p ∧ H p = some (.tup [.ref q1, .ref q2, .ref q3]) ∧ H q1 = some (.tup (lotV x)) ∧ H q2 = some (.tup (lotV y)) ∧ H q3 = some (.tup (lotV z))
theorem ToldBy.same {H H' : Hp} {o : Option (Nat × Nat × Nat)} {v : V} (h : ToldBy H o v) (s : Same H H') : ToldBy H' o v := by
  match o, h with
  | none, h => exact h
  | some (x, y, z), ⟨p, q1, q2, q3, e, h0, h1, h2, h3⟩ => exact ⟨p, q1, q2, q3, e, s _ _ h0, s _ _ h1, s _ _ h2, s _ _ h3⟩
theorem ToldBy.keep {H H' : Hp} {a : Addr} {xs : List V} {o : Option (Nat × Nat × Nat)} {v : V} (h : ToldBy H o v) (ha : H a = some (.lst xs)) (k : Kp a H H') : ToldBy H' o v := by
  match o, h with
  | none, h => exact h
  | some (x, y, z), ⟨p, q1, q2, q3, e, h0, h1, h2, h3⟩ => exact ⟨p, q1, q2, q3, e, k _ _ (ne_of h0 ha (by intro z; cases z)) h0, k _ _ (ne_of h1 ha (by intro z; cases z)) h1, k _ _ (ne_of h2 ha (by intro z; cases z)) h2, k _ _ (ne_of h3 ha (by intro z; cases z)) h3⟩
theorem ToldBy.dp {K : PySem.W.Frag} {H : Hp} {o : Option (Nat × Nat × Nat)} {v : V} (h : ToldBy H o v) : Dp K H v (dTold o) := by
  match o, h with
  | none, h =>
    rw [show v = .non from h]
    exact .non
  | some (x, y, z), ⟨p, q1, q2, q3, e, h0, h1, h2, h3⟩ =>
    rw [e]
    exact .tup (SqT.of h0) (.cons (dp_lot h1) (.cons (dp_lot h2) (.cons (dp_lot h3) .nil)))
theorem eqv_same {d : PyData} (h : SeqAt.shaped d = true) : PyData.eqv d d = true := by
  unfold SeqAt.shaped at h
  rw [Bool.and_eq_true] at h
  exact PySem.SeqAt.eqv_refl d h.1
theorem nodup_len : ∀ (N : Nat) (l : List Nat), l.Nodup → (∀ m ∈ l, m < N) → l.length ≤ N
  | 0, l, _, h => by
    cases l with
    | nil => exact Nat.le_refl _
    | cons x l => exact absurd (h x List.mem_cons_self) (Nat.not_lt_zero x)
  | N + 1, l, nd, h => by
    by_cases e : N ∈ l
    · have q := nodup_len N (l.erase N) (nd.erase N) (fun m hm => by
        have := nd.mem_erase_iff.mp hm
        have := h m this.2
        omega)
      rw [List.length_erase_of_mem e] at q
      omega
    · have q := nodup_len N l nd (fun m hm => by
        have h1 := h m hm
        have h2 : m ≠ N := fun z => e (by rw [← z]; exact hm)
        omega)
      omega
theorem LotsAt.keep {H H' : Hp} {a : Addr} {ys : List V} (ha : H a = some (.lst ys)) (k : Kp a H H') : ∀ {vs : List V} {ms : List Nat}, LotsAt H vs ms → LotsAt H' vs ms
  | [], [], h => h
  | v :: vs, m :: ms, h => by
    obtain ⟨⟨p, e, h1⟩, h2⟩ := h
    exact ⟨⟨p, e, k _ _ (ne_of h1 ha (by intro z; cases z)) h1⟩, h2.keep ha k⟩
end Fam

/-! cuts.is_int, cuts.check_number where the number is good. -/
namespace Fam
open PySem L2
abbrev sIsInt : Stmt := top 9
abbrev sCheckNumber : Stmt := top 11
def spIsInt (K : PySem.W.Frag) : Sp := fun vs H Q _ => ∃ v : V, vs = [v] ∧ ((∃ i : Int, v = .int i ∧ Q (.bl true) H) ∨ (∃ b : Bool, v = .bl b ∧ Q (.bl false) H) ∨ (∃ T : String, TyX K H v (.type T) ∧ kitB T "int" = some false ∧ Q (.bl false) H))
/-- an integer within its bounds; none: no bound -/
def spGood : Sp := fun vs H Q _ => ∃ (i : Int) (n lo hi : V), vs = [.int i, n, lo, hi] ∧ (lo = .non ∨ ∃ a : Int, lo = .int a ∧ a ≤ i) ∧ (hi = .non ∨ ∃ b : Int, hi = .int b ∧ i ≤ b) ∧ Q (.int i) H
section
variable {P : Program} {w : World} {K : PySem.W.Frag} {mg : Str → Option Value} {base : Heap} {B : Addr}
theorem scII : FnScope ["value"] ["value"] (defScope sIsInt) := ⟨rfl, rfl, rfl, by decide +kernel, rfl, by decide +kernel, by decide +kernel⟩
theorem ok_is_int {f : Addr} {fd : FuncData} (F : Fun K "is_int" "is_int" sIsInt f fd) (T : Bare mg) : FnOk P w K mg base CX0 1 f fd ["value"] (spIsInt K) := by
  refine F.ok scII (fun vs H Q E h => ?_) (fun cdv A outer s H vs Q E hr h => ?_)
  · obtain ⟨v, rfl, _⟩ := h
    rfl
  · obtain ⟨v, rfl, h⟩ := h
    refine ⟨_, pss_one (ps_ret (pe_and (pe_callB call_isi (by rfl) T.isi (by decide +kernel) (pa_cons (pv 0) (pa_cons (pe_ty (n := "int") (by rfl) T.int (by decide +kernel)) pa_nil)))
      (pe_one (pe_not (pe_callB call_isi (by rfl) T.isi (by decide +kernel) (pa_cons (pv 0) (pa_cons (pe_ty (n := "bool") (by rfl) T.bool (by decide +kernel)) pa_nil))))))), ?_⟩
    rcases h with ⟨i, rfl, k⟩ | ⟨b, rfl, k⟩ | ⟨t, ht, hk, k⟩
    · exact ⟨_, rfl, _, _, _, _, true, rfl, .ty _, .base (.int i), kit_ty (by decide +kernel), _, rfl, iteT ⟨_, rfl, _, _, _, _, false, rfl, .ty _, .base (.int i), kit_ty (by decide +kernel), _, rfl, k⟩⟩
    · exact ⟨_, rfl, _, _, _, _, true, rfl, .ty _, .base (.bl b), kit_ty (by decide +kernel), _, rfl, iteT ⟨_, rfl, _, _, _, _, true, rfl, .ty _, .base (.bl b), kit_ty (by decide +kernel), _, rfl, k⟩⟩
    · exact ⟨_, rfl, _, _, _, _, false, rfl, .ty _, ht, kit_ty hk, _, rfl, iteF k⟩
abbrev nCN : List Str := ["value", "which", "low", "high"]
theorem scCN : FnScope nCN nCN (defScope sCheckNumber) := ⟨rfl, rfl, rfl, by decide +kernel, rfl, by decide +kernel, by decide +kernel⟩
theorem ok_check_number {f : Addr} {fd : FuncData} (F : Fun K "check_number" "check_number" sCheckNumber f fd) (G : Cal P w K mg base 1 "is_int" ["value"] (spIsInt K)) : FnOk P w K mg base CX0 2 f fd nCN spGood := by
  obtain ⟨gi, gid, oki, bi, ki, mi⟩ := G.ex
  refine F.ok scCN (fun vs H Q E h => ?_) (fun cdv A outer s H vs Q E hr h => ?_)
  · obtain ⟨i, n, lo, hi, rfl, _⟩ := h
    rfl
  · obtain ⟨i, n, lo, hi, rfl, hlo, hhi, k⟩ := h
    refine ⟨_, pss_cons (ps_if (pt_not (pt_val (pe_call oki (hr.mono (by decide)) rfl mi ki bi .nil pass0 (pa_cons (pv 0) pa_nil))))
        (pss_one ps_never) pss_nil)
      (pss_cons (ps_if (PW.pt (pw_and (pt_cmpR op_notN (pv 2) pe_non (nomark _)) (pw_and1 (pt_cmpR op_lt (pv 0) (pv 2) (nomark _)))))
        (pss_one ps_never) pss_nil)
      (pss_cons (ps_if (PW.pt (pw_and (pt_cmpR op_notN (pv 3) pe_non (nomark _)) (pw_and1 (pt_cmpR op_gt (pv 0) (pv 3) (nomark _)))))
        (pss_one ps_never) pss_nil)
      (pss_one (ps_ret (pv 0))))), ?_⟩
    refine ⟨_, rfl, _, rfl, .inl ⟨i, rfl, _, rfl, iteF ?_⟩⟩
    rcases hlo with rfl | ⟨a, rfl, ha⟩
    · refine ⟨_, rfl, rfl, _, rfl, iteF ?_⟩
      rcases hhi with rfl | ⟨c, rfl, hc⟩
      · exact ⟨_, rfl, rfl, _, rfl, iteF ⟨_, rfl, k⟩⟩
      · exact ⟨_, rfl, rfl, _, rfl, iteT ⟨_, rfl, _, rfl, _, _, rfl, rfl, _, rfl, ite2 (fun z => absurd (of_decide_eq_true z) (by show ¬ c < i; omega)) (fun _ => ⟨_, rfl, k⟩)⟩⟩
    · refine ⟨_, rfl, rfl, _, rfl, iteT ⟨_, rfl, _, rfl, _, _, rfl, rfl, _, rfl, ite2 (fun z => absurd (of_decide_eq_true z) (by show ¬ i < a; omega)) (fun _ => ?_)⟩⟩
      rcases hhi with rfl | ⟨c, rfl, hc⟩
      · exact ⟨_, rfl, rfl, _, rfl, iteF ⟨_, rfl, k⟩⟩
      · exact ⟨_, rfl, rfl, _, rfl, iteT ⟨_, rfl, _, rfl, _, _, rfl, rfl, _, rfl, ite2 (fun z => absurd (of_decide_eq_true z) (by show ¬ c < i; omega)) (fun _ => ⟨_, rfl, k⟩)⟩⟩
end
end Fam

/-! sorted of a list of tuples of ints: any lengths, any number, the empty one wherever it stands. -/
namespace TSort
open PySem PySem.W PySem.Calls PyProof.Rows Builtin
section
variable {prog : Program} {w : World} {A : Around} {E : Value → Shared → Prop} {s : Shared}
theorem katlex_ints {b : Bool} {Q : Bool → Shared → Prop} : ∀ {vs ws : List Value} {ns ms : List Int} (i : Nat) (fin : Bool), IntsAre vs ns → IntsAre ws ms → fin = decide (ns.length < ms.length) → Q (HT.lexLt ns ms) s → KatLex prog w A b fin Q (vs.zip ws) i s
  | _, _, _, _, i, fin, .nil, .nil, hf, hq => by
    rw [HT.lexLt_nil_nil] at hq
    rw [hf]
    exact kat_nil hq
  | _, _, _, _, i, fin, .nil, .cons y u hw, hf, hq => by
    rw [HT.lexLt_nil_cons] at hq
    rw [hf, decide_eq_true (by show 0 < _ + 1; omega)]
    exact kat_nil hq
  | _, _, _, _, i, fin, .cons x t hv, .nil, hf, hq => by
    rw [HT.lexLt_cons_nil] at hq
    rw [hf, decide_eq_false (by show ¬ _ + 1 < 0; omega)]
    exact kat_nil hq
  | _, _, _, _, i, fin, .cons x t hv, .cons y u hw, hf, hq => by
    rw [HT.lexLt_cons] at hq
    refine kat_cons (SeqAt.EqAt.int_int x t y u prog w _ _ ?_)
    refine kat_go (fun e1 => ?_) (fun e1 => ?_)
    · have ex : x = y := by simpa using e1
      rw [if_pos ex] at hq
      refine kat_yes (katlex_ints (i + 1) fin hv hw ?_ hq)
      rw [hf, decide_eq_decide]
      show _ + 1 < _ + 1 ↔ _
      omega
    · have ex : ¬ x = y := by simpa using e1
      rw [if_neg ex] at hq
      refine kat_no ?_
      cases (b && i == 0) with
      | true => exact oneLt_int hq
      | false => exact kat_one _ _ (PyProof.Rows.lt_int hq)
/-- all of them hold a number -/
theorem cmp_full {vs : List Value} {k : Value → List Int} (hv : ∀ v ∈ vs, IsTI s.heap v (k v)) : SrtO.Cmp prog w A s (tuples' true) (fun p => p.1 ∈ vs) (SrtO.lt2 fun v u => HT.lexLt (k v) (k u)) := by
  intro p q hp hq
  show wpAny (model prog w) A (keyLt' (tuples' true) p.1 q.1) (fun r s' => s' = s ∧ r = HT.lexLt (k p.1) (k q.1)) (fun _ _ => False) s
  obtain ⟨a, dd, items, n, sl, e, ga, ia⟩ := hv _ hp
  obtain ⟨a2, dd2, items2, n2, sl2, e2, ga2, ia2⟩ := hv _ hq
  generalize k p.1 = ns at ia ⊢
  generalize k q.1 = ms at ia2 ⊢
  rw [e, e2]
  refine kat_lt ga rfl ga2 rfl (katlex_ints 0 _ ia ia2 ?_ ⟨rfl, rfl⟩)
  have z1 : items.size = ns.length := by rw [← ia.length]; simp
  have z2 : items2.size = ms.length := by rw [← ia2.length]; simp
  rw [z1, z2]
theorem tups_of {h : Heap} {k : Value → List Int} : ∀ (vs : List Value), (∀ v ∈ vs, IsTI h v (k v)) → (∀ v ∈ vs, k v ≠ []) → ∃ fs : List Value, KatTups h vs fs ∧ fs.length = vs.length ∧ ∀ f ∈ fs, ∃ x t, f = .int x t
  | [], _, _ => ⟨[], .nil, rfl, (fun f hf => by cases hf)⟩
  | v :: vs, hv, hn => by
    obtain ⟨fs, h1, h2, h3⟩ := tups_of vs (fun u hu => hv u (.tail _ hu)) (fun u hu => hn u (.tail _ hu))
    obtain ⟨a, dd, items, n, sl, rfl, ga, ia⟩ := hv v (.head _)
    have ne := hn _ (.head _)
    generalize k (.ref a) = ns at ia ne
    cases hi : items.toList with
    | nil =>
      rw [hi] at ia
      cases ia
      exact absurd rfl ne
    | cons f r =>
      rw [hi] at ia
      have hf : items[0]? = some f := by rw [← Array.getElem?_toList, hi]; rfl
      cases ia with
      | cons x t ir => exact ⟨.int x t :: fs, .cons ga rfl rfl hf h1, by rw [List.length_cons, List.length_cons, h2], fun g hg => (List.mem_cons.mp hg).elim (fun e => ⟨x, t, e⟩) (h3 g)⟩
/-- general kind: each two by < -/
theorem cmp_gen {vs : List Value} {k : Value → List Int} (hu : A.units < cLine) (hv : ∀ v ∈ vs, IsTI s.heap v (k v)) : SrtO.Cmp prog w A s general' (fun p => p.1 ∈ vs) (SrtO.lt2 fun v u => HT.lexLt (k v) (k u)) := by
  intro p q hp hq
  show wpAny (model prog w) A (oneLt' false p.1 q.1) (fun r s' => s' = s ∧ r = HT.lexLt (k p.1) (k q.1)) (fun _ _ => False) s
  obtain ⟨a, dd, items, n, sl, e, ga, ia⟩ := hv _ hp
  obtain ⟨a2, dd2, items2, n2, sl2, e2, ga2, ia2⟩ := hv _ hq
  generalize k p.1 = ns at ia ⊢
  generalize k q.1 = ms at ia2 ⊢
  rw [e, e2]
  exact kat_one _ _ (HT.lt_tupInts ⟨_, ga, rfl, n, rfl⟩ ⟨_, ga2, rfl, n2, rfl⟩ ia ia2 hu ⟨rfl, rfl⟩)
/-- the firsts of all: there where the tuple is not empty -/
theorem firsts_all {M : Model} {k : Value → List Int} : ∀ (vs : List Value), (∀ v ∈ vs, IsTI s.heap v (k v)) → ∃ fs : List (Option Value), fs.map Option.isSome = vs.map (fun v => !(k v).isEmpty) ∧ ∀ (Q : List (Option Value) → Shared → Prop), Q fs s → wpAny M A (vs.mapM firstOfTuple') Q E s
  | [], _ => ⟨[], rfl, (fun Q h => by rw [List.mapM_nil]; exact wpAny_pure h)⟩
  | v :: vs, hv => by
    obtain ⟨fs, hm, hw⟩ := firsts_all vs fun u hu => hv u (.tail _ hu)
    have hv0 := hv v (.head _)
    have ty := hv0.type (M := M)
    obtain ⟨a, dd, items, n, sl, rfl, ga, ia⟩ := hv0
    refine ⟨items[0]? :: fs, ?_, fun Q h => ?_⟩
    · rw [List.map_cons, List.map_cons, hm]
      congr 1
      generalize k (.ref a) = ns at ia
      rw [← Array.getElem?_toList]
      cases hi : items.toList with
      | nil =>
        rw [hi] at ia
        cases ia
        rfl
      | cons f r =>
        rw [hi] at ia
        cases ia
        rfl
    · rw [List.mapM_cons]
      refine wpAny_bind ?_
      rw [kas_first_eq]
      refine wpAny_bind (ty.here ?_)
      rw [if_neg (by first | decide | simp)]
      refine wpAny_bind (listItems_at ga rfl (wpAny_pure ?_))
      exact wpAny_bind (hw (fun bs s' => wpAny M A (pure (items[0]? :: bs)) Q E s') (wpAny_pure h))
theorem gen_kind {M : Model} {v₁ v₂ : Value} {vs : List Value} {k : Value → List Int} {Q : SortKind → Shared → Prop} (hv : ∀ v ∈ v₁ :: v₂ :: vs, IsTI s.heap v (k v)) (h1 : k v₁ ≠ []) (h2 : ∃ v ∈ v₁ :: v₂ :: vs, k v = []) (h : Q general' s) :
    wpAny M A (keyKind' (v₁ :: v₂ :: vs).toArray) Q E s := by
  obtain ⟨fs, hm, hw⟩ := firsts_all (M := M) (A := A) (E := E) (v₁ :: v₂ :: vs) hv
  rw [keyKind'_eq, List.mapM_toArray, map_eq_pure_bind]
  refine wpAny_bind (wpAny_bind (hw _ (wpAny_pure ?_)))
  obtain ⟨f, fr, rfl⟩ : ∃ f fr, fs = f :: fr := by
    cases fs with
    | nil => cases hm
    | cons f fr => exact ⟨f, fr, rfl⟩
  have e1 : f.isSome = true := by
    have q := (List.cons.inj hm).1
    rw [q]
    cases hk : k v₁ with
    | nil => exact absurd hk h1
    | cons x y =>
      show (!(k v₁).isEmpty) = true
      rw [hk]
      rfl
  have e2 : ((f :: fr).toArray.all fun x => x.isSome) = false := by
    rw [List.all_toArray]
    obtain ⟨v, hvm, hk⟩ := h2
    have hmem : false ∈ (f :: fr).map Option.isSome := by
      rw [hm]
      exact List.mem_map.mpr ⟨v, hvm, by rw [hk]; rfl⟩
    obtain ⟨g, hg, eg⟩ := List.mem_map.mp hmem
    exact List.all_eq_false.mpr ⟨g, hg, by rw [eg]; decide⟩
  rw [if_neg (by rw [e2]; decide)]
  have e3 : (((f :: fr).toArray[0]?).bind id).isSome = true := by
    show f.isSome = true
    exact e1
  rw [if_pos e3]
  exact wpAny_pure h
/-- sortable, however the empty ones stand -/
theorem any_sortable {a : Addr} {v₁ v₂ : Value} {vs : List Value} {k : Value → List Int} (hu : A.units < cLine) (hv : ∀ v ∈ v₁ :: v₂ :: vs, IsTI s.heap v (k v)) (ha : ∀ v ∈ v₁ :: v₂ :: vs, v ≠ .ref a) :
    SrtO.SortableO prog w A s a (v₁ :: v₂ :: vs) fun v u => HT.lexLt (k v) (k u) := by
  by_cases h0 : k v₁ = []
  · exact ti_sortable hu hv h0 ha
  · intro h' keep
    have hv' : ∀ v ∈ v₁ :: v₂ :: vs, IsTI h' v (k v) := fun v hm => (hv v hm).keeps fun b o e g => keep b o (fun z => ha v hm (by rw [e, z])) g
    by_cases hn : ∃ v ∈ v₁ :: v₂ :: vs, k v = []
    · exact ⟨general', fun Q E hq => gen_kind (s := { s with heap := h' }) hv' h0 hn hq, cmp_gen (s := { s with heap := h' }) hu hv'⟩
    · obtain ⟨fs, f1, f2, f3⟩ := tups_of (h := h') _ hv' (fun v hm e => hn ⟨v, hm, e⟩)
      refine ⟨tuples' true, fun Q E hq => ?_, cmp_full (s := { s with heap := h' }) hv'⟩
      refine kat_kind (s := { s with heap := h' }) (T := .type "int") f1 (by rw [f2]; exact Nat.succ_pos _) (fun f hm => ?_) (by rfl) ?_
      · obtain ⟨x, t, rfl⟩ := f3 f hm
        exact PySem.W.Looks.now
      · have e : (Value.type "int" != Value.type "tuple") = true := by decide +kernel
        rw [e]
        exact hq
end
end TSort
namespace L2
open PySem PySem.Spec PyProof.Rows
/-- sorted(xs), xs tuples of ints (k says which), of any lengths and any number: a new list, sorted -/
def rSortedTA (K : PySem.W.Frag) : List V → Hp → VK → Prop := fun vs H Q => ∃ (a : Addr) (ts : List Addr) (k : Addr → List Int), vs = [V.ref a] ∧ SqL K H a (ts.map V.ref) ∧ (∀ t ∈ ts, H t = some (.tup ((k t).map V.int))) ∧
  ∀ (ts' : List Addr) (p : Addr), ts'.Perm ts → ts'.Pairwise (fun p q => HT.lexLt (k q) (k p) = false) → H p = none → Q (.ref p) (upd H p (.lst (ts'.map V.ref)))
section
variable {X : Cx}
theorem cr_sortedTA (hu : X.A.units + 64 < cLine) : CallR X (.builtin "sorted") (rSortedTA X.K) := by
  intro pins s σ H vs us Q I r h
  obtain ⟨a, ts, k, rfl, hs, hx, q⟩ := h
  obtain ⟨its, rv, hl, hz⟩ := I.list hs
  obtain ⟨u, rfl, ru⟩ := vals1 r
  obtain rfl : u = Value.ref a := ru
  have ei := nts_of rv
  have hzs : its.length ≤ sizeLine := by rw [← rv.length]; exact hz
  have hv : ∀ u ∈ its, TSort.IsTI s.heap u (k (adO u)) := fun u hm => by
    rw [ei] at hm
    obtain ⟨t, ht, rfl⟩ := List.mem_map.mp hm
    obtain ⟨_, its2, r2, o, ho, hc, n, hd⟩ := I.hok _ _ (hx t ht)
    obtain ⟨cls, dd, data, sl⟩ := o
    simp only at hc hd
    subst hc hd
    exact ⟨t, dd, its2.toArray, n, sl, rfl, ho, intsAre_of r2⟩
  subst ei
  refine SrtO.sorted_ord (NtL.swo_lexL fun u => k (adO u)) hl.isList hzs (fun h2 h₁ b hb kk => ?_) fun out h1 h2 => ?_
  · obtain ⟨v₁, v₂, rest, ev⟩ : ∃ v₁ v₂ rest, ts.map Value.ref = v₁ :: v₂ :: rest := by
      match ts.map Value.ref, h2 with
      | [], h2 => exact absurd h2 (by decide)
      | [_], h2 => exact absurd h2 (by show ¬ 2 ≤ 1; decide)
      | v₁ :: v₂ :: rest, _ => exact ⟨v₁, v₂, rest, rfl⟩
    rw [ev] at hv ⊢
    refine TSort.any_sortable (s := { s with heap := h₁ }) (by show X.A.units + 1 + 1 < cLine; omega) (fun v hm => (hv v hm).keeps fun b o e g => (kk b o g).2) (fun v hm z => ?_)
    obtain ⟨c, dd, items, n, sl, e, g, i⟩ := hv v hm
    rw [e] at z
    exact (kk _ _ g).1 (Value.ref.inj z)
  · have eo : out = (out.map adO).map Value.ref := ref_map fun u hm => by
      obtain ⟨t, _, e⟩ := List.mem_map.mp (h2.perm.mem_iff.mp hm)
      exact ⟨t, e.symm⟩
    have hp : (out.map adO).Perm ts := by
      have p1 := h2.perm.map adO
      rw [ad_map] at p1
      exact p1
    have hs2 : (out.map adO).Pairwise (fun p q => HT.lexLt (k q) (k p) = false) := List.pairwise_map.mpr (h1.imp fun {x y} z => z)
    have rvo : Vals ((out.map adO).map V.ref) out := by
      have z := of_nts (out.map adO)
      rw [← eo] at z
      exact z
    have hd : s.heap.objs.size ≤ s.heap.objs.size + 1 := Nat.le_succ _
    obtain ⟨n, hn⟩ := sortedAll_at s.heap (ts.map Value.ref) out.toArray
    refine ⟨.ref _, upd H (s.heap.objs.size + 1) (.lst ((out.map adO).map V.ref)), I.laid (t' := s.toks) (fun b o e => sortedAll_old e) hd ⟨?_, out, n, rvo, hn⟩, rfl, q _ _ hp hs2 (I.hok.fresh hd)⟩
    rw [List.length_map, hp.length_eq]
    rw [List.length_map] at hz
    exact hz
end
end L2

/-! for x in o, o an object of a class whose __iter__ returns iter(self.f), f a tuple. -/
namespace OwnX
open PySem PySem.Spec PyProof.Rows L2 ItX
abbrev tItObj (t : Addr) : Obj := { cls := .type "tuple_iterator", data := .fields #[.ref t, .int 0 0] }
/-- the iterator at it over the tuple at t, nothing taken yet -/
def ItT (t it : Addr) : HO := .ext fun h => h.get? it = some (tItObj t)
theorem itT_ok {P : Program} {w : World} {H : Hp} {h : Heap} {t it : Addr} (e : h.get? it = some (tItObj t)) : ObjOk P w H h it (ItT t it) := ⟨e, ⟨_, e⟩, fun h1 h2 q k => k _ q⟩
/-- iter(t): a new object, younger than the def's entry -/
def rIterT (K : PySem.W.Frag) (n : Nat) : List V → Hp → VK → Prop := fun xs H Q => ∃ (l : Addr) (zs : List V), xs = [.ref l] ∧ SqT K H l zs ∧ ∀ it, H it = Option.none → n ≤ it → Q (.ref it) (upd H it (ItT l it))
theorem call_iterT {X : Cx} : CallR X (.builtin "iter") (rIterT X.K X.s_0.heap.objs.size) := by
  intro pins s σ H xs us Q I r h
  obtain ⟨l, zs, rfl, hq, q⟩ := h
  obtain ⟨u, rfl, ru⟩ := vals1 r
  cases ru
  obtain ⟨its, rv, pl, hz⟩ := I.tuple hq
  refine Calls.call_function_entry (by decide +kernel) (by decide +kernel) PySem.W.kdk_entry_iter (PySem.W.kdk_args_iter _) (?_ : wpAny _ _ (Builtin.«iter» ⟨[.ref l], []⟩) _ _ _)
  unfold Builtin.«iter»
  refine wpAny_bind (m := someArgs "iter" 1 2 _) (wpAny_of_eq (a := [Value.ref l]) (by first | rfl | kernel_rfl!) ?_); show wpAny _ _ (pyIter (.ref l) >>= fun _ => _) _ _ _
  refine wpAny_bind (wpAny_pyIter_tuple (show s.heap.IsTuple l its.toArray from pl) (wpAny_pure ⟨_, rfl, ?_⟩))
  exact ⟨.ref s.heap.objs.size, _, I.laid (t' := s.toks) (fun b u e => Heap.get?_push_of_some _ e) (Nat.le_refl _) (itT_ok (Heap.get?_push_size _ rfl)), rfl, q _ (I.hok.fresh (Nat.le_refl _)) I.sz⟩

/-- a def whose promise speaks of the heap's size at the call -/
theorem fn_sized {CX : CXT} {P : Program} {w : World} {K : PySem.W.Frag} {mg : Str → Option Value} {base : Heap} {k : Nat} {x qual : Str} {st : Stmt} {f : Addr} {fd : FuncData} {N ps : List Str} {sp : Nat → Sp} (F : Fun K x qual st f fd) (S : FnScope N ps (defScope st)) (len : ∀ n vs H Q E, sp n vs H Q E → vs.length = ps.length)
    (body : ∀ (cdv : Value) (A : Around) (outer : List Env) (s : Shared) (H : Hp) (vs : List V) (Q : VK) (E : XK), Room k (A.deeper (envOfC qual (defScope st) s.heap.objs.size f cdv)) → sp s.heap.objs.size vs H Q E →
      ∃ t, PSs (cxOf CX P w K mg base N qual (defScope st) f cdv A outer s H E) (defBody st) t ∧ t { nx := fun _ H' => Q .non H', rt := Q } (start N vs) H)
    {A : Around} {outer : List Env} {s : Shared} {H : Hp} {args : Args} {us : List Value} {vs : List V} {Q : VK} {E : XK} (hr : Room (k + 1) A) (e0 : Env0 P w K mg base A outer s H) (hb : BindsTo s fd args (ps.zip us)) (r : Vals vs us) (hsp : sp s.heap.objs.size vs H Q E) :
    codeAny (model P w) A (.call (.ref f) args) (CR CX outer P w H s Q E) s := by
  obtain ⟨oc, od, kV, doc, pm, an, cdv, ct, osl, rfl, lk, hcd⟩ := F.ex
  have hl := len _ _ _ _ _ hsp
  have KX : K.In s.heap := e0.mod.kin.keeps (fun b o e => (e0.bs b o e).1)
  have lim : s.heap.NoLimit := e0.mod.nolimit.keeps (fun b o e => (e0.bs b o e).1)
  have kinds : ∀ y ∈ ps.zip us, (defScope st).names.lookup y.1 = some .local ∨ ((defScope st).names.lookup y.1 = some .cell ∧ ((cellsFrom (s.heap.objs.size + 1) (defScope st).names []).lookup y.1).isSome = true) := by
    rintro ⟨n, v⟩ hy
    rcases S.par n (List.of_mem_zip hy).1 with q | q
    · exact .inl q
    · exact .inr ⟨q, PySem.W.cellsFrom_some _ _ _ (.inl q)⟩
  refine codeAny_call_function hr.depth (KX _ _ lk) rfl S.co S.gen rfl (PySem.W.codeRec_of KX hcd) (hb _ _ _ _ (wpAny_newFunctionEnv_cells S.kind kinds fun env he s1 x => ?_))
  subst he; refine ⟨lim.keeps x.toInCall.keep, codeAny_func ?_⟩
  obtain ⟨t, ht, hq⟩ := body cdv A outer s H vs Q E (hr.deeper _) hsp
  refine wpAny_mono (ht.run [] s1 (start N vs) H _ (inv_start S hr.hd e0 hl r x) hq) (fun fl s' hs => ?_) (fun e s' hs => hs)
  cases fl with
  | ret u => exact (let ⟨v, _, H', J, rv, q⟩ := hs; ⟨v, H', J.os, J.bare, J.base, J.hok, rv, q⟩)
  | next => exact (let ⟨_, H', J, q⟩ := hs; ⟨V.non, H', J.os, J.bare, J.base, J.hok, rfl, q⟩)
  | brk => exact (let ⟨_, _, _, q⟩ := hs; q.elim)
  | cont => exact (let ⟨_, _, _, q⟩ := hs; q.elim)
end OwnX

namespace OwnX
open PySem PySem.Spec PyProof.Rows L2 ItX Fam
abbrev sFamIter : Stmt := inClass (top 36) 4
theorem scFI : FnScope ["self"] ["self"] (defScope sFamIter) := ⟨rfl, rfl, rfl, by decide +kernel, rfl, by decide +kernel, by decide +kernel⟩
/-- a class whose __iter__ at f gives iter(self.lots) -/
structure OwnIt (P : Program) (w : World) (K : PySem.W.Frag) (mg : Str → Option Value) (base : Heap) (C f : Addr) (fl : Str) : Prop where
  find : PySem.W.findIn K (.ref C) "__iter__" = some (some (.ref f))
  fn : PySem.W.isFn K (.ref f) = true
  run : ∀ (A : Around) (outer : List Env) (s : Shared) (H : Hp) (x dx l : Addr) (fs : List (Str × V)) (xs : List V) (Q : VK), Room 1 A → Env0 P w K mg base A outer s H → H x = some (.ins C dx fs) → fs.lookup fl = some (.ref l) → SqT K H l xs →
    (∀ it, H it = Option.none → s.heap.objs.size ≤ it → Q (.ref it) (upd H it (ItT l it))) → codeAny (model P w) A (.call (.ref f) ⟨[.ref x], []⟩) (CR L2.CX0 outer P w H s Q L2.E0) s
theorem fam_iter {P : Program} {w : World} {K : PySem.W.Frag} {mg : Str → Option Value} {base : Heap} {C f : Addr} {fd : FuncData} (F : Fun K "__iter__" "Family.__iter__" sFamIter f fd) (mi : mg "iter" = Option.none) (c : Cls K C) (n : NoAttr K C "lots")
    (find : PySem.W.findIn K (.ref C) "__iter__" = some (some (.ref f))) (fn : PySem.W.isFn K (.ref f) = true) : OwnIt P w K mg base C f "lots" := by
  refine ⟨find, fn, fun A outer s H x dx l fs xs Q hr e0 hx hl hq k => ?_⟩
  have b : BindsTo s fd ⟨[.ref x], []⟩ ((["self"] : List Str).zip [Value.ref x]) := F.binds (ps := ["self"]) (fun _ _ _ _ _ _ us hl => match us, hl with | [_], _ => rfl) s [Value.ref x] (e0.mod.kin.keeps (fun b o e => (e0.bs b o e).1)) rfl
  refine fn_sized (k := 0) (sp := fun n vs H Q _ => ∃ (x dx l : Addr) (fs : List (Str × V)) (xs : List V), vs = [.ref x] ∧ H x = some (.ins C dx fs) ∧ fs.lookup ("lots" : Str) = some (.ref l) ∧ SqT K H l xs ∧ ∀ it, H it = Option.none → n ≤ it → Q (.ref it) (upd H it (ItT l it)))
    F scFI ?_ ?_ hr e0 b (show Vals [V.ref x] [Value.ref x] from .cons rfl .nil) ⟨x, dx, l, fs, xs, rfl, hx, hl, hq, k⟩
  · rintro n vs H Q E ⟨x, _, _, _, _, rfl, _⟩
    rfl
  · rintro cdv A outer s H vs Q E hr ⟨x, dx, l, fs, xs, rfl, hx, hl, hq, k⟩
    refine ⟨_, pss_one (ps_ret (pe_callB call_iterT (by rfl) mi (by decide +kernel) (pa_cons (pe_fld (pv 0) rfl) pa_nil))), ?_⟩
    exact ⟨_, rfl, x, C, dx, fs, _, rfl, hx, c, n, hl, l, xs, rfl, hq, fun it h1 h2 => k it h1 h2⟩
/-- for v in e, e such an object -/
def iOwn (K : PySem.W.Frag) (C : Addr) (fl : Str) (tl : TE) : TI := fun σ H R => tl σ H fun x H1 => ∃ (a dx l : Addr) (fs : List (Str × V)), x = .ref a ∧ H1 a = some (.ins C dx fs) ∧ fs.lookup fl = some (.ref l) ∧ (∃ xs, SqT K H1 l xs) ∧ R (Itt K l) H1
theorem pi_own {X : Cx} {tg e : Expr} {te : TE} {C f : Addr} {fl : Str} (O : OwnIt X.prog X.w X.K X.mg X.base C f fl) (hr : Room 1 X.A) (he : PE X e te) : PI X tg e (iOwn X.K C fl te) := by
  refine ⟨fun pins s σ H R I h => ?_⟩
  refine thn (he.run pins s σ H _ I h) fun v s1 ⟨x, H1, I1, r1, q1⟩ => ?_
  obtain ⟨a, dx, l, fs, e, ha, hfl, ⟨xs, hq⟩, q⟩ := q1
  subst e
  cases r1
  obtain ⟨mA, J, _⟩ := ins_get I1.hok ha
  obtain ⟨od, J, _⟩ := J.look
  obtain ⟨m, hF⟩ := I1.fr
  refine PySem.W.owit_iter hF I1.ok.mod.kin J O.find O.fn ?_
  refine wpAny_call (codeAny_mono (O.run X.A X.stack s1 H1 a dx l fs xs (fun v H' => ∃ it, v = .ref it ∧ s1.heap.objs.size ≤ it ∧ H1 it = Option.none ∧ H' = upd H1 it (ItT l it)) hr I1.env0 ha hfl hq fun it h1 h2 => ⟨it, rfl, h2, h1, rfl⟩) fun r s' hr' => ?_)
  cases r with
  | error e => exact False.elim hr'
  | ok fl' =>
    cases fl' with
    | next => exact False.elim hr'
    | brk => exact False.elim hr'
    | cont => exact False.elim hr'
    | ret u =>
      obtain ⟨v, H', I', rv, it, rfl, hsz, hn, rfl⟩ := I1.after hr'
      cases rv
      have hu : (upd H1 it (ItT l it)) it = some (.ext fun h => h.get? it = some (tItObj l)) := upd_same
      have hi : s'.heap.get? it = some (tItObj l) := (I'.hok it _ hu).1
      have hT : s'.TypeIs (.ref it) "tuple_iterator" := ⟨_, hi, rfl⟩
      show wpAny _ _ (specialOf (.ref it) "__next__") _ _ _
      refine wpAny_specialOf hT F.slot_tuple_iterator_next.lookup ?_
      have I2 := inv_drop I' hu
      have hf := inv_fp I' hu (Nat.le_trans I1.sz hsz)
      rw [dropH_upd hn] at I2 hf
      refine ⟨it, [it], _, _, H1, rfl, I2, turn_tuple l it, ⟨_, hi, rfl, rfl⟩, fun b hb => ?_, q⟩
      have e : b = it := by simpa using hb
      rw [e]
      exact hf
end OwnX

/-! max(xs, default=None) of a list of ints. -/
namespace MaxD
open PySem PySem.Spec PyProof.Rows L2
abbrev kwD : List (Str × Value) := [(Str.ofString "default", .none)]
theorem ok_args (a : Value) : argsOk "max" ⟨[a], kwD⟩ := by unfold argsOk; kernel_rfl
theorem loop_name : (toString "max" ++ toString ".loop" : String) = "max.loop" := by decide
section
variable {prog : Program} {w : World} {A : Around} {R : Result → Shared → Prop} {I S : Addr} {fp wr : List Addr} {n : Nat} {P : Nat → Value → Prop} {St : Nat → Heap → Prop}
/-- the pair of the best item so far -/
abbrev two (v : Value) (c : Nat) : Obj := { cls := .type "list", dict := none, data := .seq #[v, v] c, slots := #[] }

theorem rest_loop (W : Walks prog w A.in1 I fp wr n P St) (gt : Nat → Nat → Bool) (G : CmpOf prog w A.in1 .Gt P gt) (hS : S ∉ fp)
    (k : Nat) : ∀ (j : Nat) (s : Shared) (b : Value) (c : Nat), n - (j + 1) = k → j + 1 ≤ n → St (j + 1) s.heap → P (argBest gt j) b → s.heap.get? S = some (two b c) →
    (∀ v h' tk, P (argBest gt (n - 1)) v → (∀ x o, x ∉ wr → x ≠ S → s.heap.get? x = some o → h'.get? x = some o) → R (.ok (.ret v)) { s with heap := h', toks := tk }) →
      codeAny (model prog w) A (.builtin "max.loop" ⟨[.ref I, .none, .ref S], kwD⟩) R s := by
  have hw : S ∉ wr := fun h => hS (W.sub _ h)
  induction k with
  | zero =>
    intro j s b c hk hj hst hb hs hR
    have e : j + 1 = n := by omega
    refine codeAny_builtin F.entry_max_loop ?_; rw [Around.under_plainId F.plain_max_loop _]
    show wpAny _ A.in1 (seqItems? (.ref S) >>= fun _ => _) _ _ s
    refine wpAny_bind (wpAny_seqItems hs rfl ?_); show wpAny _ A.in1 (tryCatch (pyNext (.ref I)) _ >>= fun _ => _) _ _ s
    refine wpAny_bind (wpAny_tryCatch (W.done s _ _ (e ▸ hst) fun h' tk hk' => ?_)); have hs' := hk' S _ hw hs
    show wpAny _ A.in1 (updateSeq S (fun _ => #[]) >>= fun _ => _) _ _ _
    refine wpAny_bind (wpAny_updateSeq hs' rfl (wpAny_bind (wpAny_letGo (wpAny_pure ?_))))
    exact hR b _ tk (by rw [← e]; exact hb) fun x o hx hxS q => (Heap.get?_update_other _ _ (Ne.symm hxS)).trans (hk' x o hx q)
  | succ k ih =>
    intro j s b c hk hj hst hb hs hR
    have lt : j + 1 < n := by omega
    refine codeAny_builtin F.entry_max_loop ?_; rw [Around.under_plainId F.plain_max_loop _]
    show wpAny _ A.in1 (seqItems? (.ref S) >>= fun _ => _) _ _ s
    refine wpAny_bind (wpAny_seqItems hs rfl ?_); show wpAny _ A.in1 (tryCatch (pyNext (.ref I)) _ >>= fun _ => _) _ _ s
    refine wpAny_bind (wpAny_tryCatch (W.item (j + 1) s _ _ lt hst fun v h' tk hv hst' hk' => ?_)); have hs' := hk' S _ hw hs
    show wpAny _ A.in1 (tryCatch (holding [v, v] (richCompare .Gt v b >>= fun _ => _)) _ >>= fun _ => _) _ _ _
    refine wpAny_bind (wpAny_tryCatch (wpAny_holding (wpAny_bind (G (j + 1) (argBest gt j) v b _ _ _ hv hb ?_)))); refine wpAny_bind (wpAny_holding (wpAny_truthy_bool ?_))
    refine wpAny_bind (wpAny_letGo (wpAny_pure ?_)); cases hb2 : gt (j + 1) (argBest gt j) with
    | true =>
      simp only [if_true]
      refine wpAny_bind (wpAny_updateSeq hs' rfl (wpAny_bind (wpAny_letGo ?_))); rw [loop_name]
      refine wpAny_pure ⟨plainId_quiet F.plain_max_loop _, ih (j + 1) _ v _ (by omega) lt (W.frame _ _ _ hst' fun x hx o q => ?_) (by simp only [argBest, hb2, if_true]; exact hv) (Heap.get?_update_self _ hs' rfl) fun v' h2 t2 hv' hk2 => ?_⟩
      · exact (Heap.get?_update_other _ _ (fun z : S = x => hS (by rw [z]; exact hx))).trans q
      · exact hR v' h2 t2 hv' fun x o hx hxS q => hk2 x o hx hxS ((Heap.get?_update_other _ _ (Ne.symm hxS)).trans (hk' x o hx q))
    | false =>
      simp only [Bool.false_eq_true, if_false]
      refine wpAny_bind (wpAny_letGo ?_); rw [loop_name]
      refine wpAny_pure ⟨plainId_quiet F.plain_max_loop _, ih (j + 1) _ b c (by omega) lt hst' (by simp only [argBest, hb2, Bool.false_eq_true, if_false]; exact hb) hs' fun v' h2 t2 hv' hk2 => ?_⟩
      exact hR v' h2 t2 hv' fun x o hx hxS q => hk2 x o hx hxS (hk' x o hx q)

/-- from the empty list: the first item, or the default -/
theorem first_loop (W : Walks prog w A.in1 I fp wr n P St) (gt : Nat → Nat → Bool) (G : CmpOf prog w A.in1 .Gt P gt) (hS : S ∉ fp) {s : Shared} {c : Nat} (hst : St 0 s.heap) (hs : s.heap.get? S = some { cls := .type "list", dict := none, data := .seq #[] c, slots := #[] })
    (hR : ∀ v h' tk, ((n = 0 ∧ v = .none) ∨ (0 < n ∧ P (argBest gt (n - 1)) v)) → (∀ x o, x ∉ wr → x ≠ S → s.heap.get? x = some o → h'.get? x = some o) → R (.ok (.ret v)) { s with heap := h', toks := tk }) :
      codeAny (model prog w) A (.builtin "max.loop" ⟨[.ref I, .none, .ref S], kwD⟩) R s := by
  have hw : S ∉ wr := fun h => hS (W.sub _ h)
  refine codeAny_builtin F.entry_max_loop ?_; rw [Around.under_plainId F.plain_max_loop _]
  show wpAny _ A.in1 (seqItems? (.ref S) >>= fun _ => _) _ _ s
  refine wpAny_bind (wpAny_seqItems hs rfl ?_); show wpAny _ A.in1 (tryCatch (pyNext (.ref I)) _ >>= fun _ => _) _ _ s
  by_cases hn : n = 0
  · refine wpAny_bind (wpAny_tryCatch (W.done s _ _ (hn ▸ hst) fun h' tk hk' => ?_))
    show wpAny _ A.in1 (rule _ >>= fun _ => _) _ _ _
    refine wpAny_bind (wpAny_rule (wpAny_pure ?_))
    exact hR .none h' tk (.inl ⟨hn, rfl⟩) fun x o hx _ q => hk' x o hx q
  · have lt : 0 < n := by omega
    refine wpAny_bind (wpAny_tryCatch (W.item 0 s _ _ lt hst fun v h' tk hv hst' hk' => ?_)); have hs' := hk' S _ hw hs
    show wpAny _ A.in1 (updateSeq S (fun _ => #[v, v]) >>= fun _ => _) _ _ _
    refine wpAny_bind (wpAny_updateSeq hs' rfl ?_); rw [loop_name]
    refine wpAny_pure ⟨plainId_quiet F.plain_max_loop _, rest_loop W gt G hS _ 0 _ v _ rfl lt (W.frame _ _ _ hst' fun x hx o q => ?_) hv (Heap.get?_update_self _ hs' rfl) fun v' h2 t2 hv' hk2 => ?_⟩
    · exact (Heap.get?_update_other _ _ (fun z : S = x => hS (by rw [z]; exact hx))).trans q
    · exact hR v' h2 t2 (.inr ⟨lt, hv'⟩) fun x o hx hxS q => hk2 x o hx hxS ((Heap.get?_update_other _ _ (Ne.symm hxS)).trans (hk' x o hx q))
end
section
variable {prog : Program} {w : World} {A : Around} {E : Value → Shared → Prop} {s : Shared} {l : Addr} {xs : Array (Int × Tok)}
theorem call_maxD {Q : Value → Shared → Prop} (hh : A.handled = none) (hl : s.heap.IsList l (intItems xs))
    (h : ∀ v h' tk, ((xs.size = 0 ∧ v = .none) ∨ (0 < xs.size ∧ (intItems xs)[argBest (fun i j => decide (numAt xs i > numAt xs j)) (xs.size - 1)]? = some v)) → (∀ b o, s.heap.get? b = some o → h'.get? b = some o) → Q v { s with heap := h', toks := tk }) :
    wpAny (model prog w) A (call (.builtin "max") [.ref l] kwD) Q E s := by
  refine wpAny_call (codeAny_call_builtin F.plain_max F.entry_max ?_)
  have hc : wpAny (model prog w) A.in1 (Builtin.«max» ⟨[.ref l], kwD⟩) (fun fin s' => match fin with
      | .done f => (match (Except.ok f : Result) with | .ok (.ret v) => Q v s' | .ok _ => False | .error e => E e s')
      | .again c' => c'.quiet = true ∧ codeAny (model prog w) A c' (fun r s' => match r with | .ok (.ret v) => Q v s' | .ok _ => False | .error e => E e s') s') E s := by
    show wpAny _ A.in1 (Builtin.Builtins.bindParams "max" ["key", "default"] 0 ⟨[], kwD⟩ >>= fun _ => _) _ _ s
    refine wpAny_bind (wpAny_of_eq (show Builtin.Builtins.bindParams "max" ["key", "default"] 0 ⟨[], kwD⟩ = pure [none, some .none] from by first | rfl | kernel_rfl) ?_)
    refine wpAny_bind (wpAny_pure ?_)
    refine wpAny_bind (iter_intList hl fun s₂ e st hfp hlI => ?_)
    subst e
    refine wpAny_bind (wpAny_newObj_type ?_)
    rw [loop_name]
    have hS : (s.heap.push { cls := .type "list_iterator", data := .fields #[.ref l, .int 0 0] }).objs.size ∉ [s.heap.objs.size, l] := fun hm => Nat.lt_irrefl _ (hfp _ hm)
    refine wpAny_pure ⟨plainId_quiet F.plain_max_loop _, ?_⟩
    refine first_loop (A := A) (Walks.list (A := A.in1) hh _ l hlI (intItems xs)) _ (CmpOf.ints_gt (numAt xs) (fun _ _ => intItems_at)) hS ?_ (Heap.get?_push_size _ rfl) fun v h' tk hv hk => ?_
    · exact (Walks.list (A := A.in1) (prog := prog) (w := w) hh _ l hlI (intItems xs)).frame _ _ _ st fun b _ o q => Heap.get?_push_of_some _ q
    · refine h v h' tk (by simpa [intItems] using hv) fun b o q => ?_
      have lt := Heap.lt_size q
      refine hk b o (fun hm => ?_) (fun z => ?_) (Heap.get?_push_of_some _ (Heap.get?_push_of_some _ q))
      · rcases List.mem_cons.mp hm with z | z
        · exact absurd (z ▸ lt) (Nat.lt_irrefl _)
        · cases z
      · rw [z, Heap.size_push] at lt
        exact absurd (Nat.lt_of_succ_lt lt) (Nat.lt_irrefl _)
  simp only [checkBuiltinCall, F.kind_max]
  cases hsig : Manifest.signature? "max" with
  | none => exact wpAny_pure hc
  | some sig =>
    have ha' : Bind.checkArgs "max" sig ⟨[.ref l], kwD⟩ = pure () := by simpa only [argsOk, hsig] using ok_args (.ref l)
    simp only [ha']
    exact wpAny_pure hc
end
/-- max(xs, default=None) -/
def rMaxD (K : PySem.W.Frag) : List V → List V → Hp → VK → Prop := fun vs zs H Q => ∃ (a : Addr) (ns : List Int), vs = [V.ref a] ∧ zs = [.non] ∧ SqL K H a (ns.map V.int) ∧
  ((ns = [] ∧ Q .non H) ∨ (ns ≠ [] ∧ ∀ M : Int, M ∈ ns → (∀ a, a ∈ ns → a ≤ M) → Q (.int M) H))
theorem cr_maxD {X : Cx} (hc : X.calm = true) : CallRK X (.builtin "max") [Str.ofString "default"] (rMaxD X.K) := by
  intro pins s σ H vs zs us ws Q I r rz h
  obtain ⟨a, ns, rfl, rfl, hs, q⟩ := h
  obtain ⟨its, rv, hl, _⟩ := I.list hs
  obtain rfl := Vals.ref1 r
  obtain ⟨w1, rfl, e1⟩ := vals1 rz
  obtain rfl : w1 = Value.none := e1
  have hi := rv.ints
  obtain ⟨xs, e⟩ := hi.allInts.items
  have hn : numsOf (intItems xs).toList = ns := by rw [← e]; exact hi.numsOf
  rw [nums_intItems] at hn
  subst hn
  have hl2 := hl.isList
  rw [e] at hl2
  refine call_maxD (I.ok.hd hc) hl2 fun v h' tk hv hk => ?_
  have J : Inv X pins σ H { s with heap := h', toks := tk } := I.kept hk
  rcases hv with ⟨h0, rfl⟩ | ⟨h0, hv⟩
  · rcases q with ⟨_, q⟩ | ⟨ne, _⟩
    · exact ⟨.non, H, J, rfl, q⟩
    · refine absurd ?_ ne
      rw [Array.size_eq_zero_iff] at h0
      rw [h0]
      rfl
  · obtain ⟨t, rfl⟩ := intItems_at hv
    obtain ⟨h1, h2⟩ := argBest_gt (numAt xs) (xs.size - 1)
    rcases q with ⟨e0, _⟩ | ⟨_, q⟩
    · have z := congrArg List.length e0
      rw [List.length_map, Array.length_toList] at z
      exact absurd h0 (by rw [z]; exact Nat.lt_irrefl _)
    · refine ⟨.int _, H, J, ⟨_, rfl⟩, q _ ?_ fun a ha => ?_⟩
      · rw [numAt_eq]; exact PySem.getD_mem (by rw [List.length_map, Array.length_toList]; omega)
      · obtain ⟨j, hj, rfl⟩ := mem_getD ha
        rw [List.length_map, Array.length_toList] at hj
        rw [← numAt_eq]; exact h2 j (by omega)
end MaxD

/-! The program's small defs: numbers, masks, lots. -/
namespace Fam
open PySem L2
open C8 (pss_cut tCut)
abbrev sIsBetween : Stmt := top 10
abbrev sLotOf : Stmt := top 13
abbrev sMaskOf : Stmt := top 15
abbrev sLotOfMask : Stmt := top 16
abbrev sAllOf : Stmt := top 33
/-- more built-in names that the top leaves as they are -/
structure Bare2 (mg : Str → Option Value) : Prop where
  set : mg "set" = none
  iter : mg "iter" = none
  max : mg "max" = none
  sum : mg "sum" = none
  any : mg "any" = none
  all : mg "all" = none
  enumerate : mg "enumerate" = none
  str : mg "str" = none

/-! ### masks and lots by numbers -/
theorem or_pow {a n : Nat} (h : a < 2 ^ n) : a ||| 2 ^ n = a + 2 ^ n := by
  have e := Nat.two_pow_add_eq_or_of_lt h 1
  rw [Nat.mul_one] at e
  rw [Nat.or_comm, ← e, Nat.add_comm]
theorem fold_lot (m : Nat) : ∀ n, (lotN m n).foldl (fun a x => a ||| 2 ^ x) 0 = m % 2 ^ n
  | 0 => by rw [Nat.pow_zero, Nat.mod_one]; rfl
  | n + 1 => by
    have hlt : m % 2 ^ n < 2 ^ n := Nat.mod_lt _ (Nat.pow_pos (by decide))
    rw [Nat.mod_pow_succ]
    by_cases h : m / 2 ^ n % 2 = 1
    · rw [lotN_yes h, List.foldl_append, fold_lot m n, h, Nat.mul_one]
      exact or_pow hlt
    · have h0 : m / 2 ^ n % 2 = 0 := by omega
      rw [lotN_no h, fold_lot m n, h0, Nat.mul_zero, Nat.add_zero]
theorem lotN_more {m n : Nat} (h : m < 2 ^ n) : ∀ k, lotN m (n + k) = lotN m n
  | 0 => rfl
  | k + 1 => by
    have e : m / 2 ^ (n + k) = 0 := Nat.div_eq_of_lt (Nat.lt_of_lt_of_le h (Nat.pow_le_pow_right (by decide) (Nat.le_add_right _ _)))
    show lotN m (n + k + 1) = _
    rw [lotN_no (by rw [e]; decide), lotN_more h k]
theorem lotN_top {m n : Nat} (h : m < 2 ^ n) (hn : n ≤ 12) : lotN m 12 = lotN m n := by
  have e := lotN_more h (12 - n)
  rwa [show n + (12 - n) = 12 by omega] at e
theorem lotN_asc (m : Nat) : ∀ n, (lotN m n).Pairwise (· < ·)
  | 0 => List.Pairwise.nil
  | n + 1 => by
    by_cases h : m / 2 ^ n % 2 = 1
    · rw [lotN_yes h]
      refine List.pairwise_append.mpr ⟨lotN_asc m n, List.pairwise_singleton _ _, fun a ha b hb => ?_⟩
      rw [List.mem_singleton.mp hb]
      exact lotN_lt m n a ha
    · rw [lotN_no h]
      exact lotN_asc m n
theorem ty_lst {K : PySem.W.Frag} {H : Hp} {a : Addr} {xs : List V} (h : SqL K H a xs) : TyX K H (.ref a) (.type "list") := by
  rcases h with (h | ⟨o, h⟩) | ⟨o, _, _, h, c, _⟩
  · exact .base (.lst h)
  · exact .base (.frz h)
  · exact .kList h c
theorem any_lst {K : PySem.W.Frag} : PySem.W.kitAny K (.type "list") [.type "list", .type "tuple"] = some true := kitAny_cons (b := true) (kit_ty (by decide +kernel)) (fun z => nomatch z) fun _ => rfl
theorem any_tup {K : PySem.W.Frag} : PySem.W.kitAny K (.type "tuple") [.type "list", .type "tuple"] = some true := kitAny_cons (b := false) (kit_ty (by decide +kernel)) (fun _ => kitAny_cons (b := true) (kit_ty (by decide +kernel)) (fun z => nomatch z) fun _ => rfl) (fun z => nomatch z)
/-- isinstance(x, (list, tuple)) of a row -/
theorem isi_row {K : PySem.W.Frag} {H : Hp} {a : Addr} {xs : List V} (h : Row K H a xs) : ∃ ty, TyX K H (.ref a) ty ∧ PySem.W.kitAny K ty [.type "list", .type "tuple"] = some true := by
  rcases h with h | h
  · exact ⟨_, ty_lst h, any_lst⟩
  · exact ⟨_, ty_tup h, any_tup⟩
/-- the truth of an int -/
def tInt (ta : TE) : TT := fun σ H Q => ta σ H fun x H' => ∃ i : Int, x = .int i ∧ Q (i != 0) H'
theorem pt_int {X : Cx} {a : Expr} {ta : TE} (ha : PE X a ta) (he : ∀ whole, isTrue a X.env whole = (do let v ← whole; standAt a.pos; holding [v] (truthy v))) : PT X a (tInt ta) := by
  refine ⟨fun pins s σ H Q I h => PyProof.Rows.isTrue_plain (thn (ha.run pins s σ H _ I h) fun v s1 ⟨x, H1, I1, r1, q1⟩ => ?_) (he _)⟩
  obtain ⟨i, rfl, q⟩ := q1
  exact tru_ok pins s1 σ H1 _ v Q I1 r1 ⟨_, rfl, q⟩

def spBetween : Sp := fun vs H Q _ => ∃ i lo hi : Int, vs = [.int i, .int lo, .int hi] ∧ lo ≤ i ∧ i ≤ hi ∧ Q (.bl true) H
def spAreInts (K : PySem.W.Frag) : Sp := fun vs H Q _ => ∃ (b : Addr) (ws : List Int), vs = [.ref b, vInt ws.length] ∧ Row K H b (ws.map V.int) ∧ ws.length ≤ 100 ∧ ∀ H', Same H H' → Q (.bl true) H'
def spMaskOf : Sp := fun vs H Q _ => ∃ (p : Addr) (m : Nat), vs = [.ref p] ∧ H p = some (.tup (lotV m)) ∧ m < 2 ^ 12 ∧ Q (vInt m) H
def spLotOfMask : Sp := fun vs H Q _ => ∃ m n : Nat, vs = [vInt m, vInt n] ∧ m < 2 ^ n ∧ n ≤ 10 ∧ ∀ (H' : Hp) (p : Addr), Same H H' → H p = none → H' p = some (.tup (lotV m)) → Q (.ref p) H'
def spLotOf : Sp := fun vs H Q _ => ∃ (p : Addr) (m n : Nat), vs = [.ref p, vInt n] ∧ H p = some (.tup (lotV m)) ∧ m < 2 ^ n ∧ n ≤ 10 ∧ ∀ (H' : Hp) (q : Addr), Same H H' → H q = none → H' q = some (.tup (lotV m)) → Q (.ref q) H'
def spWeightOf (K : PySem.W.Frag) : Sp := fun vs H Q _ => ∃ (p b : Addr) (m : Nat) (ws : List Int), vs = [.ref p, .ref b] ∧ H p = some (.tup (lotV m)) ∧ Row K H b (ws.map V.int) ∧ m < 2 ^ ws.length ∧ ws.length ≤ 10 ∧ ∀ H', Same H H' → Q (.int (wsum m ws)) H'

section
variable {P : Program} {w : World} {K : PySem.W.Frag} {mg : Str → Option Value} {base : Heap} {B : Addr}
theorem scIB : FnScope ["value", "low", "high"] ["value", "low", "high"] (defScope sIsBetween) := ⟨rfl, rfl, rfl, by decide +kernel, rfl, by decide +kernel, by decide +kernel⟩
theorem ok_between {f : Addr} {fd : FuncData} (F : Fun K "is_between" "is_between" sIsBetween f fd) (G : Cal P w K mg base 1 "is_int" ["value"] (spIsInt K)) : FnOk P w K mg base CX0 2 f fd ["value", "low", "high"] spBetween := by
  obtain ⟨g, gd, ok, b, kp, mf⟩ := G.ex
  refine F.ok scIB (fun vs H Q E h => ?_) (fun cdv A outer s H vs Q E hr h => ?_)
  · obtain ⟨i, lo, hi, rfl, _⟩ := h
    rfl
  · obtain ⟨i, lo, hi, rfl, h1, h2, k⟩ := h
    refine ⟨_, pss_one (ps_ret (pe_and (pe_call ok hr rfl mf kp b .nil pass0 (pa_cons (pv 0) pa_nil)) (pe_one (pe_chain op_le op_le (pv 1) (pv 0) (pv 2))))), ?_⟩
    refine ⟨_, rfl, _, rfl, .inl ⟨i, rfl, _, rfl, iteT ⟨_, rfl, _, rfl, _, _, rfl, rfl, _, rfl, ?_⟩⟩⟩
    refine ite2 (fun _ => ⟨_, rfl, _, _, rfl, rfl, ?_⟩) (fun z => absurd (decide_eq_true h1) z)
    show Q (.bl (decide (i ≤ hi))) H
    rw [decide_eq_true h2]
    exact k
theorem scMO : FnScope ["lot", "mask", "place"] ["lot"] (defScope sMaskOf) := ⟨rfl, rfl, rfl, by decide +kernel, rfl, by decide +kernel, by decide +kernel⟩
theorem ok_mask_of {f : Addr} {fd : FuncData} (F : Fun K "mask_of" "mask_of" sMaskOf f fd) : FnOk P w K mg base CX0 1 f fd ["lot"] spMaskOf := by
  refine F.ok scMO (fun vs H Q E h => ?_) (fun cdv A outer s H vs Q E hr h => ?_)
  · obtain ⟨p, m, rfl, _⟩ := h
    rfl
  · obtain ⟨p, m, rfl, hp, hm, k⟩ := h
    refine ⟨_, pss_cons (ps_set (i := 1) scMO.nd rfl (Or.inl rfl) pe_int)
      (pss_cons (ps_for PassesOwn.never rfl (pi_tup (pv 0)) (pg_name (i := 2) scMO.nd rfl (Or.inl rfl)) (pss_one (ps_set (i := 1) scMO.nd rfl (Or.inl rfl) (pe_op op_or (pv 1) (pe_op op_shl pe_int (pv 2))))))
      (pss_one (ps_ret (pv 1)))), ?_⟩
    refine ⟨_, rfl, p, rfl, ⟨_, SqT.of hp⟩, for_tup (K := K) (a := p) (xs := lotV m) (fun i σ H' => H' = H ∧ ∃ y2, σ = [some (.ref p), some (vInt (((lotN m 12).take i).foldl (fun a x => a ||| 2 ^ x) 0)), y2]) ⟨rfl, none, rfl⟩ ?_ ?_ ?_⟩
    · rintro i σ H' _ ⟨rfl, _⟩
      exact SqT.of hp
    · rintro i x σ H' hx ⟨rfl, y2, rfl⟩
      obtain ⟨hi, rfl⟩ := item hx
      have h12 := lotN_lt m 12 _ (List.getElem_mem hi)
      refine ⟨_, rfl, _, rfl, _, _, rfl, rfl, ⟨by omega, by omega, by decide⟩, _, _, rfl, rfl, rfl, some (vInt ((lotN m 12)[i])), ?_⟩
      have e : (1 : Int) * 2 ^ ((((lotN m 12)[i] : Nat) : Int)).toNat = ((2 ^ (lotN m 12)[i] : Nat) : Int) := by
        rw [Int.toNat_natCast, Int.one_mul, Int.natCast_pow]
        rfl
      show [some (V.ref p), some (V.int (Builtin.bitOr _ ((1 : Int) * 2 ^ ((((lotN m 12)[i] : Nat) : Int)).toNat))), _] = _
      rw [e, bitOr_nat, List.take_add_one, List.getElem?_eq_getElem hi, List.foldl_append]
      rfl
    · rintro σ H' ⟨rfl, y2, rfl⟩
      refine ⟨_, rfl, ?_⟩
      rw [List.length_map, List.take_length, fold_lot, Nat.mod_eq_of_lt hm]
      exact k

abbrev nLM : List Str := ["mask", "size", "place"]
theorem scLM : FnScope nLM ["mask", "size"] (defScope sLotOfMask) := ⟨rfl, rfl, rfl, by decide +kernel, rfl, by decide +kernel, by decide +kernel⟩
theorem ok_lot_of_mask {f : Addr} {fd : FuncData} (F : Fun K "lot_of_mask" "lot_of_mask" sLotOfMask f fd) (T : Bare mg) : FnOk P w K mg base CX0 1 f fd ["mask", "size"] spLotOfMask := by
  refine F.ok scLM (fun vs H Q E h => ?_) (fun cdv A outer s H vs Q E hr h => ?_)
  · obtain ⟨m, n, rfl, _⟩ := h
    rfl
  · obtain ⟨m, n, rfl, hm, hn, k⟩ := h
    refine ⟨_, pss_one (ps_ret (pe_tupleOf rfl T.tuple (pe_lc (own := [("place", 2)]) (g := gName 2) rfl scLM.nd (pi_range1 rfl T.range (pa_cons (pv 1) pa_nil)) (blkOk_by (own := [("place", 2)]) (N := nLM) (sc := defScope sLotOfMask) (by decide +kernel)) (fun _ _ _ _ _ => pg_name (i := 2) scLM.nd rfl (Or.inl rfl))
      (fun _ _ _ _ _ => pts_one (pt_int (pe_op op_and (pe_op op_shr (pv 0) (pv 2)) pe_int) (by intro _; rfl))) (fun _ _ _ _ _ => pv 2)))), ?_⟩
    refine ⟨_, rfl, _, rfl, by omega, by omega, fun D hD => ?_⟩
    refine lc_range (lo := 0) (n := n) (fun i H' => Same H H' ∧ H' D = some (.lst ((lotN m i).map vInt))) ⟨same_new hD, upd_same⟩ ?_ ?_
    · rintro i H1 hi ⟨sm, hT⟩
      have e : Builtin.bitAnd ((m : Int) / 2 ^ ((0 + (i : Int))).toNat) 1 = ((m / 2 ^ i % 2 : Nat) : Int) := by
        have e1 : ((m : Int) / 2 ^ ((0 + (i : Int))).toNat) = ((m / 2 ^ i : Nat) : Int) := by
          rw [Int.zero_add, Int.toNat_natCast, Int.natCast_ediv, Int.natCast_pow]
          rfl
        rw [e1, show (1 : Int) = ((1 : Nat) : Int) from rfl, bitAnd_nat, Nat.and_one_is_mod]
      refine ⟨rfl, _, rfl, _, rfl, _, _, rfl, rfl, (by omega), _, _, rfl, rfl, _, rfl, ?_⟩
      rw [e]
      by_cases h : m / 2 ^ i % 2 = 1
      · rw [h]
        refine iteT ⟨_, rfl, _, hT, ?_, same_upd sm hD, ?_⟩
        · have := lotN_len m i
          rw [List.length_map]
          exact below (m := 100) (by omega)
        · rw [upd_same, lotN_yes h, List.map_append, Int.zero_add]
          rfl
      · have h0 : m / 2 ^ i % 2 = 0 := by omega
        rw [h0]
        refine iteF ⟨sm, ?_⟩
        rw [lotN_no h]
        exact hT
    · rintro H1 ⟨sm, hT⟩
      refine .inl ⟨D, _, rfl, SqL.of hT, fun q hq => k _ q (fun b o e => ?_) (sm.free hq) ?_⟩
      · rw [upd_ne (ne_of_none (sm _ _ e) hq)]
        exact sm _ _ e
      · rw [upd_same, ← lotN_top hm (by omega)]
end
end Fam

/-! all_lots_of, weight_of, lot_of. -/
namespace Fam
open PySem L2
open C8 (pss_cut tCut)
theorem sum_lot (m : Nat) (ws : List Int) : ∀ n, ((lotN m n).map fun x => ws.getD x 0).sum = wsN m ws n
  | 0 => rfl
  | n + 1 => by
    by_cases h : m / 2 ^ n % 2 = 1
    · rw [lotN_yes h, wsN_yes h, List.map_append, List.sum_append, sum_lot m ws n]
      show _ + (ws.getD n 0 + 0) = _
      rw [Int.add_zero]
    · rw [lotN_no h, wsN_no h, sum_lot m ws n]
theorem lot_lt {m n : Nat} (hm : m < 2 ^ n) (hn : n ≤ 12) : ∀ x ∈ lotN m 12, x < n := fun x hx => lotN_lt m n x (by rw [← lotN_top hm hn]; exact hx)
/-- ascending lists with the same members are one -/
theorem asc_uniq : ∀ {l m : List Int}, l.Pairwise (· < ·) → m.Pairwise (· < ·) → (∀ k, k ∈ l ↔ k ∈ m) → l = m
  | [], [], _, _, _ => rfl
  | [], b :: m, _, _, h => by cases (h b).mpr List.mem_cons_self
  | a :: l, [], _, _, h => by cases (h a).mp List.mem_cons_self
  | a :: l, b :: m, h1, h2, h => by
    obtain ⟨q1, p1⟩ := List.pairwise_cons.mp h1
    obtain ⟨q2, p2⟩ := List.pairwise_cons.mp h2
    have e : a = b := by
      rcases List.mem_cons.mp ((h a).mp List.mem_cons_self) with e | e
      · exact e
      · rcases List.mem_cons.mp ((h b).mpr List.mem_cons_self) with z | z
        · exact z.symm
        · have := q2 a e
          have := q1 b z
          omega
    subst e
    rw [asc_uniq p1 p2 fun k => ⟨fun hk => ?_, fun hk => ?_⟩]
    · rcases List.mem_cons.mp ((h k).mp (List.mem_cons_of_mem _ hk)) with z | z
      · have := q1 k hk
        omega
      · exact z
    · rcases List.mem_cons.mp ((h k).mpr (List.mem_cons_of_mem _ hk)) with z | z
      · have := q2 k hk
        omega
      · exact z
theorem lotI_asc (m : Nat) : (lotI m).Pairwise (· < ·) := by
  unfold lotI
  refine List.pairwise_map.mpr ((lotN_asc m 12).imp fun {a b} h => Int.ofNat_lt.mpr h)

/-! ### set(t) of a tuple of ints -/
def rSetI (K : PySem.W.Frag) (w : World) : List V → Hp → VK → Prop := fun xs H Q => ∃ (p : Addr) (ns : List Int), xs = [.ref p] ∧ SqT K H p (ns.map V.int) ∧ ns.length ≤ 1000 ∧ ∀ (q : Addr) (c : Nat), H q = none → c ≤ ns.length → Q (.ref q) (upd H q (SetO w q (fun j => decide (j ∈ ns)) c))
theorem cr_setI {X : Cx} (hc : X.calm = true) : CallR X (.type "set") (rSetI X.K X.w) := by
  intro pins s σ H xs us Q I r h
  obtain ⟨p, ns, rfl, hq, hl, q⟩ := h
  obtain ⟨its, rv, pt, hz⟩ := I.tuple hq
  rw [Vals.ref1 r]
  refine call_set_tupI ns (I.ok.hd hc) (show s.heap.IsTuple p its.toArray from pt) (ints_of_vals rv) (by unfold scanBound; omega) fun h' tk c R hcn k => ?_
  exact ⟨.ref _, upd H s.heap.objs.size (SetO X.w s.heap.objs.size (fun j => decide (j ∈ ns)) c), I.laid (t' := tk) (fun b u e => k b u e) (Nat.le_refl _) (setO_new R), rfl, q _ c (I.hok.fresh (Nat.le_refl _)) hcn⟩

section
variable {P : Program} {w : World} {K : PySem.W.Frag} {mg : Str → Option Value} {base : Heap} {B : Addr}
abbrev nAO : List Str := ["size", "mask"]
theorem scAO : FnScope nAO ["size"] (defScope sAllOf) := ⟨rfl, rfl, rfl, by decide +kernel, rfl, by decide +kernel, by decide +kernel⟩
theorem ok_all_of {f : Addr} {fd : FuncData} (F : Fun K "all_lots_of" "all_lots_of" sAllOf f fd) (T : Bare mg) (GL : Cal P w K mg base 1 "lot_of_mask" ["mask", "size"] spLotOfMask) : FnOk P w K mg base CX0 2 f fd ["size"] spAllLots := by
  obtain ⟨gl, gld, okl, bl, kl, ml⟩ := GL.ex
  refine F.ok scAO (fun vs H Q E h => ?_) (fun cdv A outer s H vs Q E hr h => ?_)
  · obtain ⟨n, rfl, _⟩ := h
    rfl
  · obtain ⟨n, rfl, h1, h2, k⟩ := h
    have h10 := pow_le10 h2
    refine ⟨_, pss_one (ps_ret (pe_callB (cr_sortedTA hr.units) (by rfl) T.sorted (by decide +kernel) (pa_cons (pe_lc (own := [("mask", 1)]) (g := gName 1) (tt := tYes) rfl scAO.nd
      (pi_range1 rfl T.range (pa_cons (pe_op op_shl pe_int (pv 0)) pa_nil)) (blkOk_by (own := [("mask", 1)]) (N := nAO) (sc := defScope sAllOf) (by decide +kernel)) (fun _ _ _ _ _ => pg_name (i := 1) scAO.nd rfl (Or.inl rfl)) (fun _ _ _ _ _ => pts_nil)
      (fun _ _ _ _ _ => pe_call okl hr rfl ml kl bl .nil pass0 (pa_cons (pv 1) (pa_cons (pv 0) pa_nil)))) pa_nil))), ?_⟩
    have e : (1 : Int) * 2 ^ ((n : Int)).toNat = ((2 ^ n : Nat) : Int) := by
      rw [Int.toNat_natCast, Int.one_mul, Int.natCast_pow]
      rfl
    refine ⟨_, rfl, _, _, rfl, rfl, ⟨by omega, by omega, by decide⟩, ((2 ^ n : Nat) : Int), congrArg (fun z => [V.int z]) e, Int.le_trans (by decide) (Int.natCast_nonneg _), Int.lt_of_le_of_lt (Int.ofNat_le.mpr h10) (by decide), fun D hD => ?_⟩
    refine lc_range (lo := 0) (n := 2 ^ n) (fun i H' => Same H H' ∧ ∃ xs, H' D = some (.lst xs) ∧ LotsAt H' xs (List.range i)) ⟨same_new hD, [], upd_same, trivial⟩ ?_ ?_
    · rintro i H1 hi ⟨sm, xs, hT, hL⟩
      refine ⟨rfl, _, rfl, _, rfl, i, n, by rw [Int.zero_add]; rfl, hi, h2, fun H2 p s2 hp ht => ?_⟩
      refine ⟨_, s2 _ _ hT, ?_, same_upd (sm.trans s2) hD, _, upd_same, ?_⟩
      · rw [hL.len, List.length_range]
        exact below (m := 100000) (by omega)
      · rw [List.range_succ]
        exact ((hL.same s2).add ht).upd (s2 _ _ hT)
    · rintro H1 ⟨sm, xs, hT, hL⟩
      obtain ⟨ts, rfl⟩ := hL.refs
      refine ⟨D, ts, kOf H1, rfl, SqL.of hT, fun t ht => ?_, fun ts' p hp hs hpn => ?_⟩
      · obtain ⟨m, _, hm⟩ := (LotsAt.mem hL).2 t ht
        rw [kOf_lot hm, ← lotV_eq]
        exact hm
      · obtain ⟨ms', pm, hL'⟩ := LotsAt.perm hp.symm hL
        exact k _ p ms' _ ⟨pm.symm, LotsAt.srt hL' hs⟩ (sm.trans (same_new hpn)) (sm.free hpn) upd_same (hL'.same (same_new hpn))

abbrev nLF : List Str := ["value", "size", "place", "lot"]
theorem scLF : FnScope nLF ["value", "size"] (defScope sLotOf) := ⟨rfl, rfl, rfl, by decide +kernel, rfl, by decide +kernel, by decide +kernel⟩
theorem ok_lot_of {f : Addr} {fd : FuncData} (F : Fun K "lot_of" "lot_of" sLotOf f fd) (T : Bare mg) (T2 : Bare2 mg) (GB : Cal P w K mg base 2 "is_between" ["value", "low", "high"] spBetween) : FnOk P w K mg base CX0 3 f fd ["value", "size"] spLotOf := by
  obtain ⟨gb, gbd, okb, bb, kb, mb⟩ := GB.ex
  refine F.ok scLF (fun vs H Q E h => ?_) (fun cdv A outer s H vs Q E hr h => ?_)
  · obtain ⟨p, m, n, rfl, _⟩ := h
    rfl
  · obtain ⟨p, m, n, rfl, hp, hm, hn, k⟩ := h
    refine ⟨_, pss_cons (ps_if (pt_not (pt_val (pe_callB call_isiT (by rfl) T.isi (by decide +kernel) (pa_cons (pv 0) (pa_cons (pe_tup (pa_cons (pe_ty (n := "list") (by rfl) T.list (by decide +kernel)) (pa_cons (pe_ty (n := "tuple") (by rfl) T.tuple (by decide +kernel)) pa_nil))) pa_nil))))) (pss_one ps_never) pss_nil)
      (pss_cons (ps_for PassesOwn.never rfl (pi_tup (pv 0)) (pg_name (i := 2) scLF.nd rfl (Or.inl rfl))
        (pss_one (ps_if (pt_not (pt_val (pe_call okb hr rfl mb kb bb .nil pass0 (pa_cons (pv 2) (pa_cons pe_int (pa_cons (pe_op op_sub (pv 1) pe_int) pa_nil)))))) (pss_one ps_never) pss_nil)))
      (pss_cons (ps_set (i := 3) scLF.nd rfl (Or.inl rfl) (pe_tupleOf rfl T.tuple (pe_callB (cr_sortedSet rfl) (by rfl) T.sorted (by decide +kernel) (pa_cons (pe_callTy (cr_setI rfl) (by rfl) T2.set (by decide +kernel) (pa_cons (pv 0) pa_nil)) pa_nil))))
      (pss_cons (ps_if (pt_cmpR op_ne (pe_callB call_len_seq (by rfl) T.len PySem.boot_len (pa_cons (pv 3) pa_nil)) (pe_callB call_len_seq (by rfl) T.len PySem.boot_len (pa_cons (pv 0) pa_nil)) (nomark _)) (pss_one ps_never) pss_nil)
      (pss_one (ps_ret (pv 3)))))), ?_⟩
    refine ⟨_, rfl, (by show 2 ≤ sizeLine; exact small (m := 2) (Nat.le_refl _)), fun t ht => ?_⟩
    have s1 : Same H (upd H t (.tup [.ty "list", .ty "tuple"])) := same_new ht
    refine ⟨_, t, _, _, _, true, rfl, upd_same, .cons (.ty _) (.cons (.ty _) .nil), ty_tup (SqT.of (s1 _ _ hp)), any_tup, _, rfl, iteF ?_⟩
    have top := lotN_top hm (by omega)
    refine ⟨_, rfl, p, rfl, ⟨_, SqT.of (s1 _ _ hp)⟩, for_tup (K := K) (a := p) (xs := lotV m) (fun i σ H' => Same H H' ∧ ∃ y2, σ = [some (.ref p), some (vInt n), y2, none]) ⟨s1, none, rfl⟩ (fun i σ H' _ h => SqT.of (h.1 _ _ hp)) ?_ ?_⟩
    · rintro i x σ H1 hx ⟨sm, y2, rfl⟩
      obtain ⟨hi, rfl⟩ := item hx
      have hlt := lot_lt hm (by omega) _ (List.getElem_mem hi)
      refine ⟨_, rfl, _, rfl, _, _, rfl, rfl, _, _, _, rfl, by omega, by omega, _, rfl, iteF ⟨sm, _, rfl⟩⟩
    · rintro σ H1 ⟨sm, y2, rfl⟩
      have hp1 := sm _ _ hp
      have hlen := lotN_len m 12
      have eI := lotV_eq m
      refine ⟨_, rfl, p, lotI m, rfl, by rw [← eI]; exact SqT.of hp1, by rw [List.length_map]; omega, fun q c hq hc => ?_⟩
      rw [List.length_map] at hc
      refine ⟨q, _, c, rfl, upd_same, by omega, fun ns r h1 h2 h3 hr' => .inl ⟨r, _, rfl, SqL.of upd_same, fun u hu => ?_⟩⟩
      have e : ns = lotI m := asc_uniq h1 (lotI_asc m) fun k => by rw [h2 k, decide_eq_true_eq]
      subst e
      have s2 : Same H1 (upd (upd (upd H1 q _) r _) u (.tup ((lotI m).map V.int))) := ((same_new hq).trans (same_new hr')).trans (same_new hu)
      refine ⟨_, rfl, u, _, rfl, .inr (SqT.of upd_same), _, rfl, p, _, rfl, .inr (SqT.of (s2 _ _ hp1)), rfl, _, rfl, ?_⟩
      refine iteNS (by rw [eI]) ⟨_, rfl, k _ u (sm.trans s2) ?_ (by rw [eI]; exact upd_same)⟩
      exact sm.free (((same_new hq).trans (same_new hr')).free hu)
end
end Fam

/-! Family: what stands in the heap, __init__, check_weights, top_weight. -/
namespace Fam
open PySem L2
open C8 (pss_cut tCut)
abbrev sFInit : Stmt := inClass (top 36) 1
abbrev sCheckW : Stmt := inClass (top 36) 11
abbrev sTopW : Stmt := inClass (top 36) 12
theorem lk_same {f : Str} {v : V} {fs : List (Str × V)} : (putF f v fs).lookup f = some v := by rw [lookup_putF, if_pos rfl]
theorem lk_ne {f g : Str} {v : V} {fs : List (Str × V)} (h : g ≠ f) : (putF f v fs).lookup g = fs.lookup g := by rw [lookup_putF, if_neg h]
theorem putF_len (f : Str) (v : V) : ∀ fs : List (Str × V), (putF f v fs).length ≤ fs.length + 1
  | [] => Nat.le_refl _
  | (g, x) :: r => by
    unfold putF
    split
    · exact Nat.le_succ _
    · exact Nat.succ_le_succ (putF_len f v r)
/-- the dict of the masks -/
def mK (ms : List Nat) : List (Key × V) := ms.map fun (m : Nat) => ((Sum.inl (m : Int) : Key), V.bl true)
theorem valV_mK (x : Nat) : ∀ ms : List Nat, valV (mK ms) (Sum.inl (x : Int) : Key) = if x ∈ ms then some (.bl true) else none
  | [] => rfl
  | m :: ms => by
    show valV (((Sum.inl (m : Int) : Key), V.bl true) :: mK ms) _ = _
    by_cases h : m = x
    · subst h
      rw [valV_pos rfl, if_pos List.mem_cons_self]
    · rw [valV_neg (fun z => h (Int.ofNat.inj (Sum.inl.inj z))), valV_mK x ms]
      by_cases q : x ∈ ms
      · rw [if_pos q, if_pos (List.mem_cons_of_mem _ q)]
      · rw [if_neg q, if_neg (fun z => (List.mem_cons.mp z).elim (fun e => h e.symm) q)]
theorem some_mK (x : Nat) (ms : List Nat) : (valV (mK ms) (Sum.inl (x : Int) : Key)).isSome = decide (x ∈ ms) := by
  rw [valV_mK]
  by_cases q : x ∈ ms
  · rw [if_pos q, decide_eq_true q]
    rfl
  · rw [if_neg q, decide_eq_false q]
    rfl
theorem mK_snoc (ms : List Nat) (m : Nat) (h : m ∉ ms) : putK (mK ms) (Sum.inl (m : Int) : Key) (.bl true) = mK (ms ++ [m]) := by
  rw [putK_new (V.bl true) (by rw [valV_mK, if_neg h])]
  unfold mK
  rw [List.map_append]
  rfl
def NoM (fs : List (Str × V)) : Prop := ∀ g : Str, g ≠ "size" → g ≠ "lots" → g ≠ "masks" → fs.lookup g = none
/-- a family of n places with the masks ms stands at f -/
structure FAt (C : Addr) (H : Hp) (f : Addr) (n : Nat) (ms : List Nat) : Prop where
  ex : ∃ (dx l d : Addr) (fs : List (Str × V)) (ts : List V) (ms0 : List Nat), H f = some (.ins C dx fs) ∧ fs.lookup ("size" : Str) = some (vInt n) ∧ fs.lookup ("lots" : Str) = some (.ref l) ∧ fs.lookup ("masks" : Str) = some (.ref d) ∧
    fs.lookup ("top_weight" : Str) = none ∧ NoM fs ∧ H l = some (.tup ts) ∧ LotsAt H ts ms0 ∧ ms0.Perm ms ∧ ms0.Pairwise lotLe ∧ H d = some (.dK (mK ms0))
  ms : Masks n ms
  h1 : 1 ≤ n
  h2 : n ≤ 10
theorem LotsAt.tups {H H' : Hp} (k : ∀ p xs, H p = some (.tup xs) → H' p = some (.tup xs)) : ∀ {vs : List V} {ms : List Nat}, LotsAt H vs ms → LotsAt H' vs ms
  | [], [], h => h
  | v :: vs, m :: ms, h => by
    obtain ⟨⟨p, e, h1⟩, h2⟩ := h
    exact ⟨⟨p, e, k _ _ h1⟩, h2.tups k⟩
theorem FAt.same {C : Addr} {H H' : Hp} {f : Addr} {n : Nat} {ms : List Nat} (h : FAt C H f n ms) (s : Same H H') : FAt C H' f n ms := by
  obtain ⟨⟨dx, l, d, fs, ts, ms0, a1, a2, a3, a4, a5, a6, a7, a8, a9, a10, a11⟩, h1, h2, h3⟩ := h
  exact ⟨⟨dx, l, d, fs, ts, ms0, s _ _ a1, a2, a3, a4, a5, a6, s _ _ a7, a8.same s, a9, a10, s _ _ a11⟩, h1, h2, h3⟩
theorem FAt.keep {C : Addr} {H H' : Hp} {a f : Addr} {n : Nat} {ms : List Nat} {xs : List V} (h : FAt C H f n ms) (ha : H a = some (.lst xs)) (k : Kp a H H') : FAt C H' f n ms := by
  obtain ⟨⟨dx, l, d, fs, ts, ms0, a1, a2, a3, a4, a5, a6, a7, a8, a9, a10, a11⟩, h1, h2, h3⟩ := h
  exact ⟨⟨dx, l, d, fs, ts, ms0, k _ _ (ne_of a1 ha (by intro z; cases z)) a1, a2, a3, a4, a5, a6, k _ _ (ne_of a7 ha (by intro z; cases z)) a7, a8.keep ha k, a9, a10, k _ _ (ne_of a11 ha (by intro z; cases z)) a11⟩, h1, h2, h3⟩
theorem FAt.perm {C : Addr} {H : Hp} {f : Addr} {n : Nat} {ms ms' : List Nat} (h : FAt C H f n ms) (p : ms.Perm ms') : FAt C H f n ms' := by
  obtain ⟨⟨dx, l, d, fs, ts, ms0, a1, a2, a3, a4, a5, a6, a7, a8, a9, a10, a11⟩, h1, h2, h3⟩ := h
  exact ⟨⟨dx, l, d, fs, ts, ms0, a1, a2, a3, a4, a5, a6, a7, a8, a9.trans p, a10, a11⟩, ⟨fun m hm => h1.lt m (p.mem_iff.mpr hm), p.nodup_iff.mp h1.nd⟩, h2, h3⟩
/-- the class Family -/
structure FamC (K : PySem.W.Frag) (C : Addr) : Prop where
  cl : Cls K C
  size : NoAttr K C "size"
  lots : NoAttr K C "lots"
  masks : NoAttr K C "masks"
def spCheckW (K : PySem.W.Frag) (C : Addr) : Sp := fun vs H Q _ => ∃ (f b : Addr) (n : Nat) (ms : List Nat) (ws : List Int), vs = [.ref f, .ref b] ∧ FAt C H f n ms ∧ Row K H b (ws.map V.int) ∧ ws.length = n ∧ ∀ H', Same H H' → Q .non H'

section
variable {P : Program} {w : World} {K : PySem.W.Frag} {mg : Str → Option Value} {base : Heap} {C : Addr}
abbrev nFI : List Str := ["self", "size", "lots", "told", "lot"]
theorem scFIn : FnScope nFI ["self", "size", "lots"] (defScope sFInit) := ⟨rfl, rfl, rfl, by decide +kernel, rfl, by decide +kernel, by decide +kernel⟩
theorem ok_fam_init {f : Addr} {fd : FuncData} (F : Fun K "__init__" "Family.__init__" sFInit f fd) (T : Bare mg) (T2 : Bare2 mg) (FC : FamC K C) (mp : ∃ t, mg "MOST_PLACES" = some (.int 10 t)) {qs : Addr}
    (GC : Cal P w K mg base 2 "check_number" ["value", "which", "low", "high"] spGood) (GL : Cal P w K mg base 3 "lot_of" ["value", "size"] spLotOf) (GM : Cal P w K mg base 1 "mask_of" ["lot"] spMaskOf) :
    FnOk P w K mg base CX0 4 f fd ["self", "size", "lots"] (spInit K C (FAt C)) := by
  obtain ⟨gc, gcd, okc, bc, kc, mc⟩ := GC.ex
  obtain ⟨gl, gld, okl, bl, kl, ml⟩ := GL.ex
  obtain ⟨gm, gmd, okm, bm, km, mm⟩ := GM.ex
  obtain ⟨tm, mp⟩ := mp
  refine F.ok scFIn (fun vs H Q E h => ?_) (fun cdv A outer s H vs Q E hr h => ?_)
  · obtain ⟨x, dx, a, n, xs, ms, rfl, _⟩ := h
    rfl
  · obtain ⟨x, dx, a, n, xs, ms, rfl, hx, hdx, hS, hL, h1, h2, hms, k⟩ := h
    have hr1 := hr.mono (j := 1) (by decide)
    refine ⟨_, pss_cons (ps_expr (pe_call okc (hr.mono (by decide)) rfl mc kc bc .nil pass0 (pa_cons (pv 1) (pa_cons pe_str (pa_cons pe_int (pa_cons (pe_glob (v := .int 10) rfl mp ⟨_, rfl⟩) pa_nil))))))
      (pss_cons (ps_if (pt_not (pt_val (pe_callB call_isiT (by rfl) T.isi (by decide +kernel) (pa_cons (pv 2) (pa_cons (pe_tup (pa_cons (pe_ty (n := "list") (by rfl) T.list (by decide +kernel)) (pa_cons (pe_ty (n := "tuple") (by rfl) T.tuple (by decide +kernel)) pa_nil))) pa_nil))))) (pss_one ps_never) pss_nil)
      (pss_cons (ps_setLc (i := 3) (own := [("lot", 4)]) (g := gName 4) (tt := tYes) (by rfl) scFIn.nd rfl rfl (sw_true rfl rfl rfl (by decide +kernel)) (pi_row (pv 2)) (blkOk_by (own := [("lot", 4)]) (N := nFI) (sc := defScope sFInit) (by decide +kernel)) (fun _ _ _ _ _ => pg_name (i := 4) scFIn.nd rfl (Or.inl rfl))
          (fun _ _ _ _ _ => pts_nil) (fun _ _ _ _ _ => pe_call okl hr rfl ml kl bl .nil pass0 (pa_cons (pv 4) (pa_cons (pv 1) pa_nil))))
      (pss_cons (ps_fld (pv 0) (pv 1) rfl)
      (pss_cons (ps_fld (pv 0) (pe_tupleOf rfl T.tuple (pe_callB (cr_sortedTA hr.units) (by rfl) T.sorted (by decide +kernel) (pa_cons (pv 3) pa_nil))) rfl)
      (pss_cons (ps_fld (pv 0) (pe_dc (own := [("lot", 4)]) (g := gName 4) (tt := tYes) rfl scFIn.nd (pi_tup (pe_fld (pv 0) rfl)) (blkOk_by (own := [("lot", 4)]) (N := nFI) (sc := defScope sFInit) (by decide +kernel)) (fun _ _ _ _ _ => pg_name (i := 4) scFIn.nd rfl (Or.inl rfl))
          (fun _ _ _ _ _ => pts_nil) (fun _ _ _ _ _ => pe_call okm hr1 rfl mm km bm .nil pass0 (pa_cons (pv 4) pa_nil)) (fun _ _ _ _ _ => pe_bl)) rfl)
      (pss_one (ps_if (pt_cmpR op_ne (pe_callB call_lenD (by rfl) T.len PySem.boot_len (pa_cons (pe_fld (pv 0) rfl) pa_nil)) (pe_callB call_len_seq (by rfl) T.len PySem.boot_len (pa_cons (pe_fld (pv 0) rfl) pa_nil)) (nomark _)) (pss_one ps_never) pss_nil))))))), ?_⟩
    refine ⟨_, rfl, (n : Int), _, _, _, rfl, .inr ⟨1, rfl, by omega⟩, .inr ⟨10, rfl, by omega⟩, ?_⟩
    refine ⟨_, rfl, (by show 2 ≤ sizeLine; exact small (m := 2) (Nat.le_refl _)), fun t ht => ?_⟩
    have s1 : Same H (upd H t (.tup [.ty "list", .ty "tuple"])) := same_new ht
    obtain ⟨tyx, hty, hany⟩ := isi_row (hS.same s1)
    refine ⟨_, t, _, _, _, true, rfl, upd_same, .cons (.ty _) (.cons (.ty _) .nil), hty, hany, _, rfl, iteF ?_⟩
    have hl := hL.len
    have hle : ms.length ≤ 1024 := Nat.le_trans (nodup_len _ ms hms.nd hms.lt) (pow_le10 h2)
    delta tNext tSeq tAsg
    dsimp only
    refine row_lc (K := K) (j := 2) (σ := [some (.ref x), some (vInt n), some (.ref a), none, none]) (b := a) (xs := xs) rfl (hS.same s1) (fun D hD => ⟨fun i H' => Same (upd H t (.tup [.ty "list", .ty "tuple"])) H' ∧ ∃ ys, H' D = some (.lst ys) ∧ LotsAt H' ys (ms.take i), ⟨same_new hD, [], upd_same, trivial⟩, (fun i H' _ h => h.1), ?_, ?_⟩)
    · rintro i x H1 hx ⟨sm, ys, hT, hY⟩
      obtain ⟨hi, p, rfl, hp⟩ := hL.get hx
      refine ⟨rfl, _, rfl, _, rfl, p, ms[i], n, rfl, (s1.trans sm) _ _ hp, hms.lt _ (List.getElem_mem hi), h2, fun H2 q s2 hq hq' => ?_⟩
      refine ⟨_, s2 _ _ hT, ?_, same_upd (sm.trans s2) hD, _, upd_same, ?_⟩
      · rw [hY.len, List.length_take]
        exact below (m := 100000) (by omega)
      · rw [take_more hi]
        exact ((hY.same s2).add hq').upd (s2 _ _ hT)
    · rintro H2 ⟨sm, ys, hT, hY⟩
      rw [hl, List.take_length] at hY
      have s2 : Same H H2 := s1.trans sm
      obtain ⟨ts, rfl⟩ := hY.refs
      have hx2 := s2 _ _ hx
      -- self.size = size
      refine ⟨_, rfl, _, rfl, x, C, dx, _, rfl, hx2, FC.cl, FC.size, (by show 0 < 1000; decide), ?_⟩
      have hDx : D ≠ x := ne_of hT hx2 (by intro z; cases z)
      have hT3 : (upd H2 x (.ins C dx (putF "size" (vInt n) []))) D = some (.lst (ts.map V.ref)) := by rw [upd_ne hDx]; exact hT
      have tk3 : ∀ p xs, H2 p = some (.tup xs) → (upd H2 x (.ins C dx (putF "size" (vInt n) []))) p = some (.tup xs) := fun p xs e => by
        rw [upd_ne (ne_of e hx2 (by intro z; cases z))]
        exact e
      have hY3 := hY.tups tk3
      -- self.lots = tuple(sorted(told))
      refine ⟨_, rfl, D, ts, kOf (upd H2 x (.ins C dx (putF "size" (vInt n) []))), rfl, SqL.of hT3, fun u hu => ?_, fun ts' p hp hs hpn => .inl ⟨p, _, rfl, SqL.of upd_same, fun l hln => ?_⟩⟩
      · obtain ⟨m, _, hm⟩ := (LotsAt.mem hY3).2 u hu
        rw [kOf_lot hm, ← lotV_eq]
        exact hm
      obtain ⟨ms0, pm, hY4⟩ := LotsAt.perm hp.symm hY3
      have srt := LotsAt.srt hY4 hs
      have s4 : Same (upd H2 x (.ins C dx (putF "size" (vInt n) []))) (upd (upd (upd H2 x (.ins C dx (putF "size" (vInt n) []))) p (.lst (ts'.map V.ref))) l (.tup (ts'.map V.ref))) := (same_new hpn).trans (same_new hln)
      have hx4 := s4 _ _ (upd_same (H := H2) (a := x))
      have hY5 := hY4.same s4
      refine ⟨_, rfl, x, C, dx, _, rfl, hx4, FC.cl, FC.lots, (by show 1 < 1000; decide), ?_⟩
      generalize hH5 : (upd (upd (upd H2 x (.ins C dx (putF "size" (vInt n) []))) p (.lst (ts'.map V.ref))) l (.tup (ts'.map V.ref))) = H5 at *
      have hl5 : H5 l = some (.tup (ts'.map V.ref)) := by rw [← hH5]; exact upd_same
      have tk6 : ∀ q ys, H5 q = some (.tup ys) → (upd H5 x (.ins C dx (putF "lots" (.ref l) (putF "size" (vInt n) [])))) q = some (.tup ys) := fun q ys e => by
        rw [upd_ne (ne_of e hx4 (by intro z; cases z))]
        exact e
      have hl6 := tk6 _ _ hl5
      have hY6 := hY5.tups tk6
      have nd0 : ms0.Nodup := pm.nodup_iff.mp hms.nd
      have hlen0 : ms0.length = ms.length := pm.length_eq.symm
      -- self.masks = {..}
      refine ⟨_, rfl, x, C, dx, _, _, rfl, upd_same, FC.cl, FC.lots, lk_same, l, rfl, ⟨_, SqT.of hl6⟩, fun d hd => ?_⟩
      refine dc_tup (K := K) (a := l) (xs := ts'.map V.ref) (fun i H' => Same (upd H5 x (.ins C dx (putF "lots" (.ref l) (putF "size" (vInt n) [])))) H' ∧ H' d = some (.dK (mK (ms0.take i)))) ⟨same_new hd, upd_same⟩ (fun i H' _ h => SqT.of (h.1 _ _ hl6)) ?_ ?_
      · rintro i y H7 hy ⟨sm7, hK⟩
        obtain ⟨hi, q, rfl, hq⟩ := hY6.get hy
        have hlt : ms0[i] < 2 ^ n := hms.lt _ (pm.mem_iff.mpr (List.getElem_mem hi))
        have h10 := pow_le10 h2
        refine ⟨rfl, _, rfl, q, ms0[i], rfl, sm7 _ _ hq, by omega, _, (Sum.inl ((ms0[i] : Nat) : Int) : Key), rfl, hK, ?_, same_upd sm7 hd, ?_⟩
        · show ((ms0.take i).map _).length < _
          rw [List.length_map, List.length_take]
          exact below (m := 100000) (by omega)
        · rw [upd_same, take_more hi]
          refine congrArg (fun z => some (HO.dK z)) (mK_snoc _ _ fun hm => ?_)
          obtain ⟨j, hj, e⟩ := List.getElem_of_mem hm
          rw [List.length_take] at hj
          rw [List.getElem_take] at e
          have := (List.getElem_inj nd0).mp e
          omega
      · rintro H7 ⟨sm7, hK⟩
        have lts : (ts'.map V.ref).length = ms0.length := hY6.len
        rw [lts, List.take_length] at hK
        have hx7 := sm7 _ _ (upd_same (H := H5) (a := x))
        refine ⟨_, rfl, x, C, dx, _, rfl, hx7, FC.cl, FC.masks, (by show 2 < 1000; decide), ?_⟩
        have hdx : d ≠ x := ne_of hK hx7 (by intro z; cases z)
        have hlx : l ≠ x := ne_of (sm7 _ _ hl6) hx7 (by intro z; cases z)
        refine ⟨_, rfl, x, C, dx, _, _, rfl, upd_same, FC.cl, FC.masks, lk_same, d, _, rfl, by rw [upd_ne hdx]; exact hK, ?_⟩
        refine ⟨_, rfl, x, C, dx, _, _, rfl, upd_same, FC.cl, FC.lots, ?_, l, _, rfl, .inr (SqT.of (by rw [upd_ne hlx]; exact sm7 _ _ hl6)), rfl, _, rfl, ?_⟩
        · exact (lk_ne (by decide +kernel)).trans lk_same
        refine iteNS ?_ ?_
        · show V.int ((mK ms0).length : Int) = V.int ((ts'.map V.ref).length : Int)
          rw [lts]
          unfold mK
          rw [List.length_map]
        · refine k _ (fun b o nb1 nb2 e => ?_) ⟨⟨dx, l, d, _, ts'.map V.ref, ms0, upd_same, ?_, ?_, lk_same, ?_, ?_, ?_, ?_, pm.symm, srt, ?_⟩, hms, h1, h2⟩
          · rw [upd_ne nb1]
            refine sm7 _ _ ?_
            rw [upd_ne nb1]
            refine s4 _ _ ?_
            rw [upd_ne nb1]
            exact s2 _ _ e
          · exact (lk_ne (by decide +kernel)).trans ((lk_ne (by decide +kernel)).trans lk_same)
          · exact (lk_ne (by decide +kernel)).trans lk_same
          · exact (lk_ne (by decide +kernel)).trans ((lk_ne (by decide +kernel)).trans ((lk_ne (by decide +kernel)).trans rfl))
          · exact fun g h1 h2 h3 => (lk_ne h3).trans ((lk_ne h2).trans ((lk_ne h1).trans rfl))
          · rw [upd_ne hlx]
            exact sm7 _ _ hl6
          · refine (hY6.same sm7).tups fun q ys e => ?_
            rw [upd_ne (ne_of e hx7 (by intro z; cases z))]
            exact e
          · rw [upd_ne hdx]
            exact hK
end
end Fam

/-! The first lots that break "and", or "two". -/
namespace Fam
open PySem L2
def wdS : Bool → Str
  | true => "two"
  | false => "and"
theorem add_disj : ∀ a b : Nat, a &&& b = 0 → a + b = a ||| b := by
  intro a
  induction a using Nat.strongRecOn with
  | _ a ih =>
    intro b h
    by_cases ha : a = 0
    · rw [ha, Nat.zero_add, Nat.zero_or]
    · have h2 : a / 2 &&& b / 2 = 0 := by rw [← Nat.and_div_two, h]
      have i2 := ih (a / 2) (by omega) (b / 2) h2
      have e1 : (a ||| b) / 2 = a / 2 + b / 2 := by rw [Nat.or_div_two, i2]
      have e2 : (a ||| b) % 2 = a % 2 ||| b % 2 := Nat.or_mod_two_pow (n := 1)
      have e3 : a % 2 &&& b % 2 = 0 := by
        have : (a &&& b) % 2 = a % 2 &&& b % 2 := Nat.and_mod_two_pow (n := 1)
        rw [← this, h]
      have ca : a % 2 = 0 ∨ a % 2 = 1 := by omega
      have cb : b % 2 = 0 ∨ b % 2 = 1 := by omega
      have e4 : (a ||| b) % 2 = a % 2 + b % 2 := by
        rw [e2]
        rcases ca with ca | ca <;> rcases cb with cb | cb <;> rw [ca, cb] at e3 ⊢ <;> first | rfl | exact absurd e3 (by decide)
      omega
theorem xorN_eq (a b : Nat) : xorN a b = a ^^^ b := by
  have d : (a ^^^ b) &&& (a &&& b) = 0 := Nat.eq_of_testBit_eq fun i => by
    rw [Nat.testBit_and, Nat.testBit_xor, Nat.testBit_and, Nat.zero_testBit]
    cases a.testBit i <;> cases b.testBit i <;> rfl
  have s := add_disj _ _ d
  have o : (a ^^^ b) ||| (a &&& b) = a ||| b := Nat.eq_of_testBit_eq fun i => by
    rw [Nat.testBit_or, Nat.testBit_xor, Nat.testBit_and, Nat.testBit_or]
    cases a.testBit i <;> cases b.testBit i <;> rfl
  unfold xorN
  omega
theorem sub_and (z s : Nat) : z - (z &&& s) = z ^^^ (z &&& s) := by
  have d : (z ^^^ (z &&& s)) &&& (z &&& s) = 0 := Nat.eq_of_testBit_eq fun i => by
    rw [Nat.testBit_and, Nat.testBit_xor, Nat.testBit_and, Nat.zero_testBit]
    cases z.testBit i <;> cases s.testBit i <;> rfl
  have t := add_disj _ _ d
  have o : (z ^^^ (z &&& s)) ||| (z &&& s) = z := Nat.eq_of_testBit_eq fun i => by
    rw [Nat.testBit_or, Nat.testBit_xor, Nat.testBit_and]
    cases z.testBit i <;> cases s.testBit i <;> rfl
  omega
theorem bit_less (z s : Nat) : Builtin.bitAnd (z : Int) (Builtin.bitNot (s : Int)) = ((z ^^^ (z &&& s) : Nat) : Int) := by
  have n1 : decide ((0 : Int) ≤ Builtin.bitNot (s : Int)) = false := decide_eq_false (by unfold Builtin.bitNot; omega)
  have n2 : (Builtin.bitNot (Builtin.bitNot (s : Int))).toNat = s := by unfold Builtin.bitNot; omega
  rw [← sub_and]
  unfold Builtin.bitAnd
  rw [n1, decide_eq_true (Int.natCast_nonneg z)]
  show (z : Int) - (((z : Int).toNat &&& (Builtin.bitNot (Builtin.bitNot (s : Int))).toNat : Nat) : Int) = _
  rw [n2, Int.toNat_natCast]
  have : z &&& s ≤ z := Nat.and_le_left
  omega
/-- two of three -/
def maj (x y z : Nat) : Nat := x &&& y ||| (x &&& z) ||| (y &&& z)
/-- x, y and z make a lot that is missed -/
def thP (ms : List Nat) (b s z : Nat) : Bool := !decide (b ||| (z &&& s) ∈ ms)
/-- what a Closing looks up -/
def brk : Bool → List Nat → Nat → Nat → Bool
  | true, ms, b, s => ms.any (thP ms b s)
  | false, ms, b, _ => !decide (b ∈ ms)
def thL : Bool → List Nat → Nat → Nat → List Nat
  | true, ms, b, s => (ms.find? (thP ms b s)).toList
  | false, _, _, _ => []
theorem maj_eq (x y z : Nat) : x &&& y ||| (z &&& xorN x y) = maj x y z := Nat.eq_of_testBit_eq fun i => by
  unfold maj
  rw [xorN_eq]
  simp only [Nat.testBit_or, Nat.testBit_and, Nat.testBit_xor]
  cases x.testBit i <;> cases y.testBit i <;> cases z.testBit i <;> rfl
theorem maj_comm (x y z : Nat) : maj x y z = maj y x z := Nat.eq_of_testBit_eq fun i => by
  unfold maj
  simp only [Nat.testBit_or, Nat.testBit_and]
  cases x.testBit i <;> cases y.testBit i <;> cases z.testBit i <;> rfl
/-- a pair that breaks the word -/
def bad2 (o : Bool) (ms : List Nat) (x y : Nat) : Bool := brk o ms (x &&& y) (xorN x y)
theorem bad2_comm (o : Bool) (ms : List Nat) (x y : Nat) : bad2 o ms x y = bad2 o ms y x := by
  unfold bad2
  rw [xorN_eq, xorN_eq, Nat.and_comm x y, Nat.xor_comm x y]
def pd2 (bad : Nat → Nat → Bool) (x y : Nat) : Option (Nat × Nat) := if bad x y = true then some (x, y) else none
def pd1 (bad : Nat → Nat → Bool) (ins : List Nat) (x : Nat) : Option (Nat × Nat) := ins.findSome? (pd2 bad x)
def pairD (bad : Nat → Nat → Bool) (ins : List Nat) : Option (Nat × Nat) := ins.findSome? (pd1 bad ins)
/-- the first two, in the order os, that break the word -/
def pairDue (o : Bool) (ms os : List Nat) : Option (Nat × Nat) := pairD (bad2 o ms) (insideOf ms os)
theorem pd2_none {bad : Nat → Nat → Bool} {x y : Nat} : pd2 bad x y = none ↔ bad x y = false := by
  unfold pd2
  cases bad x y
  · exact ⟨fun _ => rfl, fun _ => if_neg (fun z => Bool.noConfusion z)⟩
  · rw [if_pos rfl]
    constructor
    · intro z
      cases z
    · intro z
      cases z
/-- no pair ahead of (i, j) is bad -/
def NoBad (bad : Nat → Nat → Bool) (ins : List Nat) (i j : Nat) : Prop := ∀ i' j', i' ≤ j' → j' < ins.length → (i' < i ∨ (i' = i ∧ j' < j)) → bad (ins.getD i' 0) (ins.getD j' 0) = false
theorem NoBad.next {bad : Nat → Nat → Bool} {ins : List Nat} {i : Nat} (h : NoBad bad ins i ins.length) : NoBad bad ins (i + 1) (i + 1) := fun i' j' h1 h2 h3 => by
  refine h i' j' h1 h2 ?_
  rcases h3 with h3 | ⟨h3, h4⟩
  · by_cases e : i' = i
    · exact .inr ⟨e, h2⟩
    · exact .inl (by omega)
  · omega
theorem NoBad.step {bad : Nat → Nat → Bool} {ins : List Nat} {i j : Nat} (h : NoBad bad ins i j) (hd : bad (ins.getD i 0) (ins.getD j 0) = false) : NoBad bad ins i (j + 1) := fun i' j' h1 h2 h3 => by
  by_cases e : i' = i ∧ j' = j
  · rw [e.1, e.2]
    exact hd
  · exact h i' j' h1 h2 (by omega)
theorem getD_at {l : List Nat} {i : Nat} (h : i < l.length) : l.getD i 0 = l[i] := by rw [List.getD_eq_getElem?_getD, List.getElem?_eq_getElem h]; rfl
theorem nobad_all {bad : Nat → Nat → Bool} {ins : List Nat} (hc : ∀ x y, bad x y = bad y x) (h : NoBad bad ins ins.length ins.length) : pairD bad ins = none := by
  refine List.findSome?_eq_none_iff.mpr fun x hx => List.findSome?_eq_none_iff.mpr fun y hy => pd2_none.mpr ?_
  obtain ⟨i, hi, rfl⟩ := List.getElem_of_mem hx
  obtain ⟨j, hj, rfl⟩ := List.getElem_of_mem hy
  by_cases le : i ≤ j
  · have := h i j le hj (.inl hi)
    rwa [getD_at hi, getD_at hj] at this
  · have := h j i (by omega) hi (.inl hj)
    rw [getD_at hi, getD_at hj] at this
    rw [hc]
    exact this
theorem nobad_at {bad : Nat → Nat → Bool} {ins : List Nat} {i j : Nat} (hc : ∀ x y, bad x y = bad y x) (hi : i < ins.length) (hj : j < ins.length) (hij : i ≤ j) (h : NoBad bad ins i j) (hd : bad ins[i] ins[j] = true) : pairD bad ins = some (ins[i], ins[j]) := by
  refine findSome_at hi (fun x hx => List.findSome?_eq_none_iff.mpr fun y hy => pd2_none.mpr ?_) (findSome_at hj (fun y hy => pd2_none.mpr ?_) (if_pos hd))
  · obtain ⟨i', hi', rfl⟩ := List.getElem_of_mem hx
    obtain ⟨j', hj', rfl⟩ := List.getElem_of_mem hy
    rw [List.length_take] at hi'
    rw [List.getElem_take]
    by_cases le : i' ≤ j'
    · have := h i' j' le hj' (.inl (by omega))
      rwa [getD_at (by omega), getD_at hj'] at this
    · have := h j' i' (by omega) (by omega) (.inl (by omega))
      rw [getD_at hj', getD_at (by omega)] at this
      rw [hc]
      exact this
  · obtain ⟨j', hj', rfl⟩ := List.getElem_of_mem hy
    rw [List.length_take] at hj'
    rw [List.getElem_take]
    by_cases le : i ≤ j'
    · have := h i j' le (by omega) (.inr ⟨rfl, by omega⟩)
      rwa [getD_at hi, getD_at (by omega)] at this
    · have := h j' i (by omega) hi (.inl (by omega))
      rw [getD_at (by omega), getD_at hi] at this
      rw [hc]
      exact this
theorem pairD_none {bad : Nat → Nat → Bool} {ins : List Nat} : pairD bad ins = none ↔ ∀ x ∈ ins, ∀ y ∈ ins, bad x y = false := by
  unfold pairD pd1
  rw [List.findSome?_eq_none_iff]
  exact ⟨fun h x hx y hy => pd2_none.mp (List.findSome?_eq_none_iff.mp (h x hx) y hy), fun h x hx => List.findSome?_eq_none_iff.mpr fun y hy => pd2_none.mpr (h x hx y hy)⟩
theorem inside_mem {n : Nat} {ms os : List Nat} (hm : ∀ m ∈ ms, m < 2 ^ n) (ho : OrderOf n os) {z : Nat} : z ∈ insideOf ms os ↔ z ∈ ms := by
  unfold insideOf
  rw [List.mem_filter, decide_eq_true_eq, ho.perm.mem_iff, List.mem_range]
  exact ⟨fun h => h.2, fun h => ⟨hm z h, h⟩⟩
theorem inside_eq {n : Nat} {ms ms0 os : List Nat} (hn : n ≤ 10) (hm : Masks n ms) (p : ms0.Perm ms) (hs : ms0.Pairwise lotLe) (ho : OrderOf n os) : insideOf ms os = ms0 := by
  have mem : ∀ z, z ∈ insideOf ms os ↔ z ∈ ms0 := fun z => by rw [inside_mem hm.lt ho, p.mem_iff]
  refine uniq_of (R := lotLe) (fun a b ha hb h1 h2 => ?_) (ho.srt.filter _) hs ?_
  · have la := hm.lt a (p.mem_iff.mp ((mem a).mp ha))
    have lb := hm.lt b (p.mem_iff.mp ((mem b).mp hb))
    exact lotI_inj hn la lb (lex_tot _ _ h2 h1)
  · refine (List.perm_ext_iff_of_nodup ?_ (p.nodup_iff.mpr hm.nd)).mpr mem
    exact (ho.perm.nodup_iff.mpr List.nodup_range).filter _
theorem any_perm {p : Nat → Bool} {a b : List Nat} (h : a.Perm b) : a.any p = b.any p := by
  rw [Bool.eq_iff_iff, List.any_eq_true, List.any_eq_true]
  exact ⟨fun ⟨x, hx, e⟩ => ⟨x, h.mem_iff.mp hx, e⟩, fun ⟨x, hx, e⟩ => ⟨x, h.mem_iff.mpr hx, e⟩⟩
theorem thP_perm {ms ms0 : List Nat} (p : ms0.Perm ms) : thP ms = thP ms0 := by
  funext b s z
  unfold thP
  rw [show decide (b ||| (z &&& s) ∈ ms) = decide (b ||| (z &&& s) ∈ ms0) from decide_eq_decide.mpr p.mem_iff.symm]
theorem bad2_perm {o : Bool} {ms ms0 : List Nat} (p : ms0.Perm ms) : bad2 o ms = bad2 o ms0 := by
  funext x y
  unfold bad2
  cases o
  · show (!decide (x &&& y ∈ ms)) = !decide (x &&& y ∈ ms0)
    rw [show decide (x &&& y ∈ ms) = decide (x &&& y ∈ ms0) from decide_eq_decide.mpr p.mem_iff.symm]
  · show ms.any _ = ms0.any _
    rw [thP_perm p]
    exact (any_perm p).symm
end Fam

/-! try with several clauses, the first one with a name, where the first one takes all that the body raises. -/
namespace Fam
open PySem L2 PyProof.Rows
/-- what is wished of an exception of the body: the clause's class takes it, and the suite goes on from there -/
def wFirst (K : PySem.W.Frag) (c : Value) (i : Nat) (ts : Addr → Value → Option Addr → TS) (D : Ends) : WX := fun cls d σ H => PySem.W.exmOne K cls c = some true ∧
  ∀ a, H a = none → ts a cls d ⟨fun g h => D.nx (g.set i none) h, D.rt, fun g h => D.bk (g.set i none) h, fun g h => D.ct (g.set i none) h⟩ (σ.set i (some (.ref a))) H
section
variable {X : Cx} {x n : Str} {c : Value} {i : Nat} {body su : List Stmt} {b : Stmt} {np p1 p2 : Pos} {tb : WX → TS} {ts : Addr → Value → Option Addr → TS} {rest : List ExceptHandler}
theorem ps_try_first (st : X.stack = X.env :: X.outer) (fr : X.env.frame = some X.env.locals) (nd : X.N.Nodup) (at_ : X.N[i]? = some n) (lc : X.env.kindOf n = some .local) (nm : Names X x c)
    (bd : ∀ (W : WX) (pn : List (Addr × Obj)) (xe : Value → Shared → Prop), Takes (X.tr pn xe) W → PassesOwn (model X.prog X.w) X.A X.env xe → PSs (X.tr pn xe) body (tb W))
    (ss : ∀ (a : Addr) (o : Obj) (cls : Value) (d : Option Addr) (pn : List (Addr × Obj)), Zc cls d o → (∃ fs, o.data = .fields fs) → PSs (X.suite a ((a, o) :: pn)) (b :: su) (ts a cls d)) :
    PS X (.Try body (.ExceptHandler (some (.Name x np)) (some n) (b :: su) p1 :: rest) [] [] p2) (fun D σ H => tb (wFirst X.K c i ts D) D σ H) := PS.mk fun pins s σ H D inv rd => by
  have ctx := inv.ok
  have fs0 : X.A.frames = some (X.env :: X.outer) := by rw [ctx.frames, st]
  apply wpAny_Try_except
  have run := (bd (wFirst X.K c i ts D) (X.pn ++ pins)
    (fun e t1 => wpAny (model X.prog X.w) X.A (noteFrame e X.env) (fun _ t2 => wpAny (model X.prog X.w) X.A (setFlight e none)
      (fun _ t3 => wpAny (model X.prog X.w) X.A (handleBy e X.env (.ExceptHandler (some (.Name x np)) (some n) (b :: su) p1 :: rest)) (SP X pins D) X.xe t3) X.xe t2) X.xe t1)
    (fun u t cat => ?caught) PassesOwn.looking).run [] s σ H D (inv.toTry _) rd
  case caught =>
    obtain ⟨a, B, tI, pn, g, G, cls, d, rfl, j, nb, up, sky, na, os, ag, yes, on⟩ := cat
    have jI : L2.Inv X pins g G tI := j.ofTry ctx
    show wpAny (model X.prog X.w) X.A (noteFrame (.ref a) X.env) _ _ _
    have sky1 : Sky B (X.env :: X.outer) a (Zc cls d) X.env.locals t.heap := st ▸ sky
    refine Sky.land Zc.steady fs0 fr sky1 fun k fly upk => ?_
    have jk : L2.Inv X pins g G { t with heap := k } := jI.landed nb fly.1 (up.trans upk) os ag
    obtain ⟨o, fv, ho, hz, hd⟩ := fly.there
    -- no frame of the stack is the exception
    have off : a ∉ frs (X.env :: X.outer) := fun hm => by
      obtain ⟨_, o1, e1, nf⟩ := fly.2.2.1.mem hm
      have e2 : o = o1 := Option.some.inj (ho.symm.trans e1)
      exact nf _ (e2 ▸ hd)
    have offL : a ≠ X.env.locals := fun z => off (List.mem_filterMap.mpr ⟨X.env, List.mem_cons_self, by rw [fr, z]⟩)
    have offF : a ∉ X.fs := fun hm => by
      obtain ⟨e, he, q⟩ := List.mem_filterMap.mp hm
      exact off (List.mem_filterMap.mpr ⟨e, .tail _ he, q⟩)
    have inS := jk.suite ho hd na offL offF
    refine wpAny_handleBy_cons (codeAny_handlers_test ?_) (fun q => by cases q)
    have ty : PySem.W.Looks (model X.prog X.w) k (typeOf (.ref a)) cls := fun _ _ _ _ kk q => wpAny_typeOf_ref (kk _ _ ho) (by rw [hz.1]; exact q)
    have named : ∀ {R : Value → Shared → Prop} {E1 : Value → Shared → Prop}, R c { t with heap := k } → wpAny (model X.prog X.w) (X.A.mark (some (.ref a))) (eval (.Name x np) X.env) R E1 { t with heap := k } := fun q => by
      obtain ⟨gl, db, w1 | ⟨w1, w2, w3⟩⟩ := nm
      · exact ld_glob (X := X.suite a ((a, o) :: (X.pn ++ pins))) inS gl w1 q db
      · exact ld_blt (X := X.suite a ((a, o) :: (X.pn ++ pins))) inS gl w1 w2 q w3 db
    refine named ((PySem.W.exm_one (M := model X.prog X.w) jk.kIn ty yes).here ?_)
    refine codeAny_handlers_suite_as (HandSPX.lands_againZ fly fun k2 fly2 up2 => ?_)
    obtain ⟨o2, fv2, ho2, hz2, hd2⟩ := fly2.there
    have jk2 : L2.Inv X pins g G { t with heap := k2 } := jI.landed nb fly2.1 ((up.trans upk).trans up2) os ag
    have in2 := jk2.suite ho2 hd2 na offL offF
    refine store_ok (X := X.suite a ((a, o2) :: (X.pn ++ pins))) (v := .ref a) in2 nd at_ (.inl lc) rfl (fun t5 in5 => ?_) (.inr lc)
    refine wpAny_mono ((ss a o2 cls d (X.pn ++ pins) hz2 ⟨_, hd2⟩).run [] t5 _ G _ in5 (on a na)) (fun r t6 out => ?_) (fun _ _ no => no.elim)
    -- the name goes again
    have gone : ∀ {g6 : L2.St} {G6 : Hp} {R : Shared → Prop}, L2.Inv (X.suite a ((a, o2) :: (X.pn ++ pins))) [] g6 G6 t6 → (∀ t7, L2.Inv X pins (g6.set i none) G6 t7 → R t7) →
        wpAny (model X.prog X.w) X.A (do bindName X.env n .none; unbindBehindTheSuite X.env n p1) (fun _ t7 => R t7) X.xe t6 := fun in6 q => gone_ok (in6.unsuite ctx) nd at_ lc q
    match r, out with
    | .next, ⟨_, _, in6, q6⟩ => exact gone in6 fun t7 j7 => ⟨_, _, j7, q6⟩
    | .brk, ⟨_, _, in6, q6⟩ => exact gone in6 fun t7 j7 => ⟨_, _, j7, q6⟩
    | .cont, ⟨_, _, in6, q6⟩ => exact gone in6 fun t7 j7 => ⟨_, _, j7, q6⟩
    | .ret u, ⟨_, _, _, in6, rv, q6⟩ => exact gone in6 fun t7 j7 => ⟨_, _, _, j7, rv, q6⟩
  refine wpAny_mono run (fun r t1 out => ?_) (fun _ _ q => q)
  match r, out with
  | .next, ⟨_, _, j1, q1⟩ => exact wpAny_execs_nil ⟨_, _, j1.ofTry ctx, q1⟩
  | .brk, ⟨_, _, j1, q1⟩ => exact ⟨_, _, j1.ofTry ctx, q1⟩
  | .cont, ⟨_, _, j1, q1⟩ => exact ⟨_, _, j1.ofTry ctx, q1⟩
  | .ret u, ⟨_, _, _, j1, rv, q1⟩ => exact ⟨_, _, _, j1.ofTry ctx, rv, q1⟩
end
end Fam

/-! raise BadNumber(..) in a def of the program. -/
namespace Fam
open PySem L2
structure BadFacts (K : PySem.W.Frag) (mg : Str → Option Value) (B : Addr) : Prop where
  gB : mg "BadNumber" = some (.ref B)
  xf : XfC K B
  no : PySem.W.findIn K (.ref B) "which" = some none
  te : PySem.W.exmOne K (.ref B) (.ref B) = some true
theorem te_of {K : PySem.W.Frag} {B : Addr} (b : PySem.W.subIn K (.ref B) (.type "BaseException") = some true) (i : PySem.W.isClsIn K B = true) (t : PySem.W.typeIn K (.ref B) = some (.type "type")) (o : PySem.W.subIn K (.ref B) (.ref B) = some true) : PySem.W.exmOne K (.ref B) (.ref B) = some true := by
  have i2 : (PySem.W.clsIn K B).isSome = true := i
  unfold PySem.W.exmOne PySem.W.kitCls
  simp only [b, i2, t, o]
  rfl
theorem bad_mk {K : PySem.W.Frag} {h : Heap} {mg : Str → Option Value} {B : Addr} (X : K.In h) (G : h.Ns mainGlobals mg) (a : PySem.W.nsIn K mainGlobals "BadNumber" = some (some (.ref B)))
    (ga : PySem.W.findIn K (.ref B) "__getattribute__" = some (some (.builtin "BaseException.__getattribute__"))) (gg : PySem.W.findIn K (.ref B) "__getattr__" = some none) (e : PySem.W.subIn K (.ref B) (.type "BaseException") = some true) (d : PySem.W.hasDictIn K B = true)
    (no : PySem.W.findIn K (.ref B) "which" = some none) (i : PySem.W.isClsIn K B = true) (t : PySem.W.typeIn K (.ref B) = some (.type "type")) (o : PySem.W.subIn K (.ref B) (.ref B) = some true) : BadFacts K mg B := ⟨PySem.W.mg_of X G a, ⟨ga, gg, e, d⟩, no, te_of e i t o⟩
open PySem L2
abbrev sBadInit : Stmt := inClass (top 3) 0
/-- BadNumber.__init__: the exception at a gets its own dict -/
def spBadInit (K : PySem.W.Frag) (B : Addr) : Sp := fun vs H Q _ => ∃ (a : Addr) (v : V), vs = [.ref a, v] ∧ H a = some (exo a B none) ∧ OexC K B ∧ PySem.W.findIn K (.ref B) "which" = some none ∧
  ∀ dx, H dx = none → dx ≠ a → Q .non (upd (upd H dx (exd dx [("which", v)])) a (exo a B (some dx)))
section
variable {P : Program} {w : World} {K : PySem.W.Frag} {mg : Str → Option Value} {base : Heap} {B : Addr}
theorem scBI : FnScope ["self", "which"] ["self", "which"] (defScope sBadInit) := ⟨rfl, rfl, rfl, by decide +kernel, rfl, by decide +kernel, by decide +kernel⟩
theorem ok_bad_init {f : Addr} {fd : FuncData} (F : Fun K "__init__" "BadNumber.__init__" sBadInit f fd) : FnOk P w K mg base CX0 1 f fd ["self", "which"] (spBadInit K B) := by
  refine F.ok scBI (fun vs H Q E h => ?_) (fun cdv A outer s H vs Q E hr h => ?_)
  · obtain ⟨a, v, rfl, _⟩ := h
    rfl
  · obtain ⟨a, v, rfl, ha, T, no, k⟩ := h
    refine ⟨_, pss_one (ps_ost (pv 0) (pv 1)), ?_⟩
    exact ⟨_, rfl, _, rfl, a, B, rfl, T, no, .inl ⟨ha, fun dx h1 h2 => k dx h1 h2⟩⟩
/-- all that raise BadNumber(..) wants -/
structure BadRaise (P : Program) (w : World) (K : PySem.W.Frag) (mg : Str → Option Value) (base : Heap) (B : Addr) : Prop where
  oex : OexC K B
  no : PySem.W.findIn K (.ref B) "which" = some none
  gB : mg "BadNumber" = some (.ref B)
  init : ∃ (g : Addr) (gd : FuncData), PySem.W.findIn K (.ref B) "__init__" = some (some (.ref g)) ∧ PySem.W.typeIn K (.ref g) = some (.type "function") ∧ FnOk P w K mg base CX0 1 g gd ["self", "which"] (spBadInit K B) ∧ Binds K gd ["self", "which"] []
theorem bad_read {ta : TA} {σ : L2.St} {H : Hp} {Q : XK} {v : V} (N : BadRaise P w K mg base B) (hv : ∀ Q' : List V → Hp → Prop, Q' [v] H → ta σ H Q')
    (k : ∀ (d : Addr) (H' : Hp), Same H H' → H d = none → H' d = some (.xd [("which", v)]) → Q (.ref B) (some d) H') : tMkO B (spBadInit K B) [] ta σ H Q := by
  refine hv _ ⟨(by show 1 ≤ 1000; decide), fun a ha => ⟨a, v, rfl, upd_same, N.oex, N.no, fun dx hdx hne => ⟨rfl, dx, [("which", v)], upd_same, ?_, none_new hdx, ?_⟩⟩⟩
  · rw [upd_ne hne]
    exact upd_same
  · refine k dx _ (fun b o e => ?_) (none_new hdx) upd_same
    have h1 : b ≠ a := ne_of_none e ha
    have h2 : b ≠ dx := ne_of_none e (none_new hdx)
    rw [upd_ne h2, del_ne h1, upd_ne h1, upd_ne h2, upd_ne h1]
    exact e
theorem bad_raise_mk {h : Heap} {f : Addr} {nm q : Str} {N : Addr} {bs bm : List Value} {sn : List Str} {sub : List Value} {ab : Bool} {col : Option Bool} {dd : Option Addr} {m0 m1 m2 m3 m5 : Option Value} {od an : Option Addr} {sl : Array (Option Value)} {oc kV dc pm cd ct : Value}
    (X : K.In h) (G : h.Ns mainGlobals mg) (aB : PySem.W.nsIn K mainGlobals "BadNumber" = some (some (.ref B))) (x : K.lookup B = some (excClassObj nm q B N bs bm true sn sub ab col dd m0 m1 m2 m3 m5 "ValueError.__new__")) (xb : PySem.HandSPX.refsVE bm = true)
    (sa : PySem.W.findIn K (.ref B) "__setattr__" = some (some (.builtin "object.__setattr__"))) (e : PySem.W.subIn K (.ref B) (.type "BaseException") = some true) (t : PySem.W.typeIn K (.ref B) = some (.type "type")) (kB : PySem.W.keepIn K (.ref B) = true) (no : PySem.W.findIn K (.ref B) "which" = some none)
    (iB : PySem.W.findIn K (.ref B) "__init__" = some (some (.ref f))) (tf : PySem.W.typeIn K (.ref f) = some (.type "function"))
    (l : K.lookup f = some ⟨oc, od, .func (PySem.W.fnOf "__init__" "BadNumber.__init__" (defArgs sBadInit) (defBody sBadInit) (defScope sBadInit) .none kV dc pm an cd ct), sl⟩) (c : PySem.W.codeIn K cd "BadNumber.__init__" = true) (kf : PySem.W.keepIn K (.ref f) = true) : BadRaise P w K mg base B := by
  have F := fun_mk (st := sBadInit) l c kf
  exact ⟨⟨⟨nm, q, N, bs, bm, sn, sub, ab, col, dd, m0, m1, m2, m3, m5, x, xb⟩, sa, e, t, kB⟩, no, PySem.W.mg_of X G aB, ⟨f, _, iB, tf, ok_bad_init F, F.binds (ps := ["self", "which"]) fun _ _ _ _ _ _ us hl => match us, hl with | [_, _], _ => rfl⟩⟩

end
/-- a def of the program that may raise -/
structure CalE (P : Program) (w : World) (K : PySem.W.Frag) (mg : Str → Option Value) (base : Heap) (k : Nat) (x : Str) (ps : List Str) (sp : Sp) : Prop where
  ex : ∃ (g : Addr) (gd : FuncData), FnOk P w K mg base (L2.CX P w) k g gd ps sp ∧ Binds K gd ps [] ∧ PySem.W.keepIn K (.ref g) = true ∧ mg x = some (.ref g)
end Fam

/-! check_word; Closing by "and" and by "two": parts_in. -/
namespace Fam
open PySem L2 OwnX
open C8 (pss_cut tCut)
abbrev sCheckWord : Stmt := top 40
abbrev sClInit : Stmt := inClass (top 41) 0
abbrev sPartsIn : Stmt := inClass (top 41) 1
abbrev sIsBroken : Stmt := inClass (top 41) 2
abbrev sMisses : Stmt := inClass (top 41) 3
abbrev sThird : Stmt := inClass (top 41) 4
def wdV (o : Bool) : V := .str (wdS o)
/-- words that broken does not take -/
def badAll (v : V) : Prop := v = .str "three" ∨ v = .non ∨ v = .str "" ∨ v = .int 2
def spCheckWord (B : Addr) : Sp := fun vs H Q E => ∃ word : V, vs = [word] ∧ ((∃ o : Bool, word = wdV o ∧ Q .non H) ∨ (badAll word ∧ ∀ (d : Addr) (H' : Hp), Same H H' → H d = none → H' d = some (.xd [("which", .str "word")]) → E (.ref B) (some d) H'))
structure Words (K : PySem.W.Frag) (C : Addr) : Prop where
  ex : ∃ (mc u : Value) (t : Addr), ClX.CRead K C mc ∧ ClX.CVal K C mc "WORDS" (.ref t) u ∧ ∀ H, SqT K H t [.str "box", .str "or", .str "and", .str "two", .str "even"]
theorem words_mk {K : PySem.W.Frag} {C t : Addr} {mc : Value} {od : Option Addr} {its : Array Value} {n : Nat} {sl : Array (Option Value)} (_ : PySem.W.nsIn K mainGlobals "Family" = some (some (.ref C))) (r : PySem.W.readsIn K C mc = true) (g : PySem.W.specialIn K (.ref C) "__getattribute__" = some (some (.builtin "type.__getattribute__")))
    (f : PySem.W.findCls K (.ref C) mc "WORDS" = some (.val (.ref t))) (l : K.lookup t = some ⟨.type "tuple", od, .seq its n, sl⟩) (z : its.size ≤ 100) (v : Vals [.str "box", .str "or", .str "and", .str "two", .str "even"] its.toList) : Words K C :=
  ⟨mc, .ref t, t, ⟨r, g⟩, ⟨f, rfl⟩, fun H => .inr ⟨_, its, n, l, rfl, rfl, small z, v⟩⟩
/-- a dict comprehension over a list -/
theorem dc_lst {K : PySem.W.Frag} {a : Addr} {xs : List V} {g : TG} {tt : TT} {tk tv : TE} {vs : List Nat} {σ : L2.St} {H1 : Hp} {D : Addr} {Qd : Hp → Prop} (Pv : Nat → Hp → Prop) (h0 : Pv 0 (upd H1 D (.dK []))) (hl : ∀ i H, i ≤ xs.length → Pv i H → SqL K H a xs)
    (hs : ∀ i x H, xs[i]? = some x → Pv i H → g x (wipe σ vs) H fun σ2 H2 => wipe σ2 vs = wipe σ vs ∧ tt σ2 H2 fun b H3 =>
      if b = true then tk σ2 H3 fun y H4 => tv σ2 H4 fun z H5 => ∃ kvs k, y = kV k ∧ H5 D = some (.dK kvs) ∧ kvs.length < sizeLine ∧ Pv (i + 1) (upd H5 D (.dK (putK kvs k z))) else Pv (i + 1) H3) (hd : ∀ H, Pv xs.length H → Qd H) :
    ∃ W : Nat → Nat → Hp → Prop, (∃ m, W 0 m (upd H1 D (.dK []))) ∧ ∀ i m H, W i m H →
      ((Itl K a).stop i H ∧ Qd H) ∨ ((Itl K a).go i H ∧ ∃ Nx : Hp → Prop, (∀ H', Nx H' → ∃ m', m' < m ∧ W (i + 1) m' H') ∧ ∀ x H', (Itl K a).yld i H x H' → g x (wipe σ vs) H' fun σ2 H2 => wipe σ2 vs = wipe σ vs ∧ tt σ2 H2 fun b H3 =>
        if b = true then tk σ2 H3 fun y H4 => tv σ2 H4 fun z H5 => ∃ kvs k, y = kV k ∧ H5 D = some (.dK kvs) ∧ kvs.length < sizeLine ∧ Nx (upd H5 D (.dK (putK kvs k z))) else Nx H3) := by
  refine ⟨fun i m H => m = xs.length - i ∧ i ≤ xs.length ∧ Pv i H, ⟨xs.length, rfl, Nat.zero_le _, h0⟩, ?_⟩
  rintro i _ H ⟨rfl, hi, p⟩
  have q := hl i H hi p
  rcases Nat.lt_or_ge i xs.length with lt | ge
  · exact .inr ⟨⟨xs, xs[i], q, List.getElem?_eq_getElem lt⟩, Pv (i + 1), fun H' p' => ⟨xs.length - (i + 1), by omega, rfl, lt, p'⟩, fun x H' ⟨e, y⟩ => by subst e; exact hs i x _ (y xs q) p⟩
  · have e : i = xs.length := Nat.le_antisymm hi ge
    subst e
    exact .inl ⟨⟨xs, q, Nat.le_refl _⟩, hd H p⟩
theorem mK_old {ms : List Nat} {m : Nat} (h : m ∈ ms) : putK (mK ms) (Sum.inl (m : Int) : Key) (.bl true) = mK ms := by
  have ha : ((mK ms).any fun kv => decide (kv.1 = (Sum.inl (m : Int) : Key))) = true := by
    refine List.any_eq_true.mpr ⟨(Sum.inl (m : Int), .bl true), List.mem_map.mpr ⟨m, h, rfl⟩, decide_eq_true rfl⟩
  unfold putK
  rw [if_pos ha]
  unfold mK
  rw [List.map_map]
  refine List.map_congr_left fun x _ => ?_
  show (if (Sum.inl (x : Int) : Key) = Sum.inl (m : Int) then ((Sum.inl (x : Int) : Key), V.bl true) else _) = _
  by_cases e : (Sum.inl (x : Int) : Key) = Sum.inl (m : Int)
  · rw [if_pos e]
  · rw [if_neg e]
/-- the class Closing -/
structure CloC (K : PySem.W.Frag) (CC : Addr) : Prop where
  cl : Cls K CC
  family : NoAttr K CC "family"
  how : NoAttr K CC "how"
  order : NoAttr K CC "order"
  others : NoAttr K CC "others"
  parts : NoAttr K CC "parts"
  known : NoAttr K CC "known"
/-- the heap without two addresses -/
def hide (H : Hp) (dp dk : Addr) : Hp := fun b => if b = dp ∨ b = dk then none else H b
theorem hide_some {H : Hp} {dp dk b : Addr} {o : HO} (h : hide H dp dk b = some o) : b ≠ dp ∧ b ≠ dk ∧ H b = some o := by
  unfold hide at h
  split at h
  · cases h
  · rename_i n
    exact ⟨fun e => n (.inl e), fun e => n (.inr e), h⟩
theorem hide_of {H : Hp} {dp dk b : Addr} {o : HO} (h1 : b ≠ dp) (h2 : b ≠ dk) (h : H b = some o) : hide H dp dk b = some o := by
  unfold hide
  rw [if_neg (fun z => z.elim h1 h2)]
  exact h
theorem hide_same (H : Hp) (dp dk : Addr) : Same (hide H dp dk) H := fun _ _ h => (hide_some h).2.2
/-- all that stood but the dicts at dp, dk stands -/
def KpD (dp dk : Addr) (H H' : Hp) : Prop := ∀ b o, b ≠ dp → b ≠ dk → H b = some o → H' b = some o
theorem KpD.hide {dp dk : Addr} {H H' : Hp} (k : KpD dp dk H H') : Same (hide H dp dk) (hide H' dp dk) := fun b o h => by
  obtain ⟨h1, h2, h3⟩ := hide_some h
  exact hide_of h1 h2 (k _ _ h1 h2 h3)
theorem KpD.of {dp dk : Addr} {H H' : Hp} (s : Same H H') : KpD dp dk H H' := fun b o _ _ e => s b o e
theorem KpD.trans {dp dk : Addr} {H H1 H2 : Hp} (a : KpD dp dk H H1) (b : KpD dp dk H1 H2) : KpD dp dk H H2 := fun x o h1 h2 e => b x o h1 h2 (a x o h1 h2 e)
/-- a Closing by "two" or "and" of the family at f stands at c -/
structure CAt (C CC : Addr) (H : Hp) (c f lo dp dk : Addr) (n : Nat) (ms : List Nat) (o : Bool) (tp tk : Nat) : Prop where
  fam : FAt C (hide H dp dk) f n ms
  ob : ∃ (dx : Addr) (fs : List (Str × V)), H c = some (.ins CC dx fs) ∧ fs.lookup ("family" : Str) = some (.ref f) ∧ fs.lookup ("how" : Str) = some (wdV o) ∧ fs.lookup ("order" : Str) = some (.ref lo) ∧ fs.lookup ("others" : Str) = some (.ref lo) ∧
    fs.lookup ("parts" : Str) = some (.ref dp) ∧ fs.lookup ("known" : Str) = some (.ref dk) ∧ fs.lookup ("parts_in" : Str) = none ∧ fs.lookup ("misses" : Str) = none ∧ fs.lookup ("is_broken" : Str) = none ∧ fs.lookup ("third" : Str) = none
  row : H lo = some (.lst (ms.map vInt))
  pa : ∃ kp, H dp = some (.dK kp) ∧ kp.length ≤ tp ∧ ∀ (s : Nat) (v : V), valV kp (Sum.inl (s : Int) : Key) = some v → ∃ (p : Addr) (ps : List Nat), v = .ref p ∧ H p = some (.lst (ps.map vInt)) ∧ ps.length ≤ 1024 ∧ ∀ q, q ∈ ps ↔ ∃ o ∈ ms, o &&& s = q
  kn : ∃ kk, H dk = some (.dT kk) ∧ kk.length ≤ tk ∧ ∀ (b s : Nat) (v : V), valV kk [(Sum.inl (b : Int) : Key), Sum.inl (s : Int)] = some v → v = .bl (brk o ms b s)
theorem CAt.same {C CC : Addr} {H H' : Hp} {c f lo dp dk : Addr} {n : Nat} {ms : List Nat} {o : Bool} {tp tk : Nat} (h : CAt C CC H c f lo dp dk n ms o tp tk) (s : Same H H') : CAt C CC H' c f lo dp dk n ms o tp tk := by
  obtain ⟨h1, ⟨dx, fs, a1, a2⟩, h3, ⟨kp, p1, p2, p3⟩, ⟨kk, k1, k2, k3⟩⟩ := h
  refine ⟨h1.same (KpD.of s).hide, ⟨dx, fs, s _ _ a1, a2⟩, s _ _ h3, ⟨kp, s _ _ p1, p2, fun x v e => ?_⟩, ⟨kk, s _ _ k1, k2, k3⟩⟩
  obtain ⟨p, ps, q1, q2, q3⟩ := p3 x v e
  exact ⟨p, ps, q1, s _ _ q2, q3⟩
def spPartsIn (C CC : Addr) : Sp := fun vs H Q _ => ∃ (c f lo dp dk : Addr) (n : Nat) (ms : List Nat) (o : Bool) (tp tk s : Nat), vs = [.ref c, vInt s] ∧ CAt C CC H c f lo dp dk n ms o tp tk ∧ tp < 4000000 ∧
  ∀ (H' : Hp) (p : Addr) (ps : List Nat), CAt C CC H' c f lo dp dk n ms o (tp + 1) tk → KpD dp dk H H' → H' p = some (.lst (ps.map vInt)) → ps.length ≤ 1024 → (∀ q, q ∈ ps ↔ ∃ o ∈ ms, o &&& s = q) → Q (.ref p) H'
def spMisses (C CC : Addr) : Sp := fun vs H Q _ => ∃ (c f lo dp dk : Addr) (n : Nat) (ms : List Nat) (o : Bool) (tp tk b s : Nat), vs = [.ref c, vInt b, vInt s] ∧ CAt C CC H c f lo dp dk n ms o tp tk ∧ tp < 4000000 ∧
  ∀ H', CAt C CC H' c f lo dp dk n ms o (tp + 1) tk → KpD dp dk H H' → Q (.bl (brk o ms b s)) H'
def spIsBroken (C CC : Addr) : Sp := fun vs H Q _ => ∃ (c f lo dp dk : Addr) (n : Nat) (ms : List Nat) (o : Bool) (tp tk b s : Nat), vs = [.ref c, vInt b, vInt s] ∧ CAt C CC H c f lo dp dk n ms o tp tk ∧ tp < 4000000 ∧ tk < 4000000 ∧
  ∀ H', CAt C CC H' c f lo dp dk n ms o (tp + 1) (tk + 1) → KpD dp dk H H' → Q (.bl (brk o ms b s)) H'
def spThird (C CC : Addr) : Sp := fun vs H Q _ => ∃ (c f lo dp dk : Addr) (n : Nat) (ms : List Nat) (o : Bool) (tp tk b s : Nat), vs = [.ref c, vInt b, vInt s] ∧ CAt C CC H c f lo dp dk n ms o tp tk ∧
  ∀ (H' : Hp) (p : Addr), Same H H' → H p = none → H' p = some (.tup ((thL o ms b s).map vInt)) → Q (.ref p) H'
section
variable {P : Program} {w : World} {K : PySem.W.Frag} {mg : Str → Option Value} {base : Heap} {C CC B : Addr}
theorem scCWd : FnScope ["word"] ["word"] (defScope sCheckWord) := ⟨rfl, rfl, rfl, by decide +kernel, rfl, by decide +kernel, by decide +kernel⟩
theorem ok_check_word {f : Addr} {fd : FuncData} (F : Fun K "check_word" "check_word" sCheckWord f fd) (T : Bare mg) (T2 : Bare2 mg) (N : BadRaise P w K mg base B) (mC : mg "Family" = some (.ref C)) (Wd : Words K C) : FnOk P w K mg base (L2.CX P w) 3 f fd ["word"] (spCheckWord B) := by
  obtain ⟨g, gd, iC, tI, ok, b⟩ := N.init
  obtain ⟨mc, wu, wt, wr, wv, wS⟩ := Wd.ex
  refine F.okX scCWd (fun vs H Q E h => ?_) (fun cdv A outer s H vs Q E hr h => ?_)
  · obtain ⟨v, rfl, _⟩ := h
    rfl
  · obtain ⟨v, rfl, hv⟩ := h
    refine ⟨_, pss_one (ps_if (PW.pt (pw_or (pt_not (pt_val (pe_callB call_isi (by rfl) T.isi (by decide +kernel) (pa_cons (pv 0) (pa_cons (pe_ty (n := "str") (by rfl) T2.str (by decide +kernel)) pa_nil)))))
        (pw_or1 (pt_cmpR op_notIn_seq (pv 0) (ClX.pe_cval (pe_glob (v := .ref C) rfl mC rfl)) (by rfl)))))
        (pss_one (ps_raise rfl (takes_of rfl rfl rfl rfl) (pmk_oex N.oex iC tI ok hr b .nil pass0 rfl N.gB (pa_cons pe_str pa_nil)))) pss_nil), ?_⟩
    rcases hv with ⟨o, rfl, k⟩ | ⟨hb, k⟩
    · refine ⟨_, rfl, _, _, _, _, true, rfl, .ty _, .base (.str _), kit_ty (by decide +kernel), _, rfl, iteF ?_⟩
      cases o
      · exact ⟨_, rfl, C, mc, .ref wt, wu, rfl, wr, wv, wt, _, rfl, .inr (wS H), rfl, by decide +kernel, _, rfl, iteF k⟩
      · exact ⟨_, rfl, C, mc, .ref wt, wu, rfl, wr, wv, wt, _, rfl, .inr (wS H), rfl, by decide +kernel, _, rfl, iteF k⟩
    · rcases hb with rfl | rfl | rfl | rfl
      · refine ⟨_, rfl, _, _, _, _, true, rfl, .ty _, .base (.str _), kit_ty (by decide +kernel), _, rfl, iteF ?_⟩
        refine ⟨_, rfl, C, mc, .ref wt, wu, rfl, wr, wv, wt, _, rfl, .inr (wS H), rfl, by decide +kernel, _, rfl, iteT ?_⟩
        exact bad_read N (fun Q' q => q) k
      · refine ⟨_, rfl, _, _, _, _, false, rfl, .ty _, .base .non, kit_ty (by decide +kernel), _, rfl, iteT (iteT ?_)⟩
        exact bad_read N (fun Q' q => q) k
      · refine ⟨_, rfl, _, _, _, _, true, rfl, .ty _, .base (.str _), kit_ty (by decide +kernel), _, rfl, iteF ?_⟩
        refine ⟨_, rfl, C, mc, .ref wt, wu, rfl, wr, wv, wt, _, rfl, .inr (wS H), rfl, by decide +kernel, _, rfl, iteT ?_⟩
        exact bad_read N (fun Q' q => q) k
      · refine ⟨_, rfl, _, _, _, _, false, rfl, .ty _, .base (.int _), kit_ty (by decide +kernel), _, rfl, iteT (iteT ?_)⟩
        exact bad_read N (fun Q' q => q) k
abbrev nPI : List Str := ["self", "single", "other"]
theorem scPI : FnScope nPI ["self", "single"] (defScope sPartsIn) := ⟨rfl, rfl, rfl, by decide +kernel, rfl, by decide +kernel, by decide +kernel⟩
theorem ok_parts_in {f : Addr} {fd : FuncData} (F : Fun K "parts_in" "Closing.parts_in" sPartsIn f fd) (T : Bare mg) (CL : CloC K CC) : FnOk P w K mg base CX0 1 f fd ["self", "single"] (spPartsIn C CC) := by
  refine F.ok scPI (fun vs H Q E h => ?_) (fun cdv A outer s H vs Q E hr h => ?_)
  · obtain ⟨c, fa, lo, dp, dk, n, ms, o, tp, tk, x, rfl, _⟩ := h
    rfl
  · obtain ⟨c, fa, lo, dp, dk, n, ms, oo, tp, tk, x, rfl, hC, ht, k⟩ := h
    have hu := hu_of hr
    obtain ⟨hF, ⟨dx, fs, a1, a2, a3, a4, a5, a6, a7, a8, a9, b1, b2⟩, b3, ⟨kp, p1, p2, p3⟩, hkn⟩ := id hC
    obtain ⟨kk, k1, k2, k3⟩ := id hkn
    refine ⟨_, pss_cons (ps_if (pt_cmp (pc_dnotin hu (pv 1) (pe_fld (pv 0) rfl)))
        (pss_one (ps_dput hu (pe_fld (pv 0) rfl) (pv 1) (pe_callTy (call_list_dK rfl) (by rfl) T.list (by decide +kernel) (pa_cons (pe_dc (own := [("other", 2)]) (g := gName 2) (tt := tYes) rfl scPI.nd (pi_list (pe_fld (pv 0) rfl)) (blkOk_by (own := [("other", 2)]) (N := nPI) (sc := defScope sPartsIn) (by decide +kernel)) (fun _ _ _ _ _ => pg_name (i := 2) scPI.nd rfl (Or.inl rfl)) (fun _ _ _ _ _ => pts_nil)
          (fun _ _ _ _ _ => pe_op op_and (pv 2) (pv 1)) (fun _ _ _ _ _ => pe_bl)) pa_nil)) rfl)) pss_nil)
      (pss_one (ps_ret (pe_dget hu (pe_fld (pv 0) rfl) (pv 1) (fun _ _ => rfl)))), ?_⟩
    refine ⟨_, rfl, _, rfl, c, CC, dx, fs, _, rfl, a1, CL.cl, CL.parts, a6, dp, _, rfl, DGet.k (k := (Sum.inl (x : Int) : Key)) p1, _, rfl, ?_⟩
    cases e : valV kp (Sum.inl (x : Int) : Key) with
    | some v =>
      obtain ⟨p, ps, rfl, q2, q4, q3⟩ := p3 x v e
      refine iteF ⟨_, rfl, c, CC, dx, fs, _, rfl, a1, CL.cl, CL.parts, a6, _, rfl, dp, _, rfl, (by have z := DGet.k (k := (Sum.inl (x : Int) : Key)) p1; rw [e] at z; exact z), ?_⟩
      exact k H p ps ⟨hF, ⟨dx, fs, a1, a2, a3, a4, a5, a6, a7, a8, a9, b1, b2⟩, b3, ⟨kp, p1, by omega, p3⟩, hkn⟩ (KpD.of (Same.refl _)) q2 q4 q3
    | none =>
      refine iteT ⟨_, rfl, c, CC, dx, fs, _, rfl, a1, CL.cl, CL.others, a5, lo, rfl, ⟨_, SqL.of b3⟩, fun D hD => ?_⟩
      have h1024 : ms.length ≤ 1024 := by
        exact Nat.le_trans (nodup_len _ ms hF.ms.nd hF.ms.lt) (pow_le10 hF.h2)
      refine dc_lst (K := K) (a := lo) (xs := ms.map vInt) (fun i H' => Same H H' ∧ ∃ ks : List Nat, H' D = some (.dK (mK ks)) ∧ ks.length ≤ i ∧ ∀ q, q ∈ ks ↔ ∃ o ∈ ms.take i, o &&& x = q) ⟨same_new hD, [], upd_same, Nat.le_refl _, fun q => ⟨fun z => (by cases z), fun ⟨_, z, _⟩ => (by cases z)⟩⟩ (fun i H' _ h => SqL.of (h.1 _ _ b3)) ?_ ?_
      · rintro i y H1 hy ⟨sm, ks, hT, hl, hm⟩
        obtain ⟨hi, rfl⟩ := item hy
        refine ⟨rfl, _, rfl, _, rfl, _, _, rfl, rfl, mK ks, (Sum.inl ((ms[i] &&& x : Nat) : Int) : Key), congrArg V.int (bitAnd_nat _ _), hT, ?_, same_upd sm hD, ?_⟩
        · unfold mK
          rw [List.length_map]
          exact below (m := 100000) (by omega)
        · have hm2 : ∀ ks' : List Nat, (∀ q, q ∈ ks' ↔ q ∈ ks ∨ q = ms[i] &&& x) → ∀ q, q ∈ ks' ↔ ∃ o ∈ ms.take (i + 1), o &&& x = q := fun ks' h q => by
            rw [h, hm, take_more hi]
            constructor
            · rintro (⟨o, ho, e⟩ | e)
              · exact ⟨o, List.mem_append_left _ ho, e⟩
              · exact ⟨ms[i], List.mem_append_right _ List.mem_cons_self, e.symm⟩
            · rintro ⟨o, ho, e⟩
              rcases List.mem_append.mp ho with z | z
              · exact .inl ⟨o, z, e⟩
              · rw [List.mem_singleton.mp z] at e
                exact .inr e.symm
          by_cases hin : (ms[i] &&& x) ∈ ks
          · refine ⟨ks, by rw [upd_same, mK_old hin], by omega, hm2 ks fun q => ⟨.inl, fun z => z.elim id fun e => e ▸ hin⟩⟩
          · refine ⟨ks ++ [ms[i] &&& x], by rw [upd_same, mK_snoc _ _ hin], by rw [List.length_append]; exact Nat.succ_le_succ hl, hm2 _ fun q => ?_⟩
            rw [List.mem_append, List.mem_singleton]
      · rintro H1 ⟨sm, ks, hT, hl, hm⟩
        rw [List.length_map, List.take_length] at hm
        rw [List.length_map] at hl
        have hl2 : ks.length ≤ 1024 := Nat.le_trans hl h1024
        refine ⟨D, mK ks, rfl, hT, fun p hp => ?_⟩
        have ek : ((mK ks).map fun kv => kV kv.1) = ks.map vInt := by
          unfold mK
          rw [List.map_map]
          rfl
        rw [ek]
        have s2 : Same H (upd H1 p (.lst (ks.map vInt))) := sm.trans (same_new hp)
        have a1' := s2 _ _ a1
        have p1' := s2 _ _ p1
        refine ⟨_, rfl, c, CC, dx, fs, _, rfl, a1', CL.cl, CL.parts, a6, _, rfl, dp, _, rfl, DPut.k (k := (Sum.inl (x : Int) : Key)) p1' (below (m := 4000000) (by omega)), ?_⟩
        have hne : ∀ b o, b ≠ dp → H b = some o → (upd (upd H1 p (.lst (ks.map vInt))) dp (.dK (putK kp (Sum.inl (x : Int) : Key) (.ref p)))) b = some o := fun b o nb e => by
          rw [upd_ne nb]
          exact s2 _ _ e
        have npd : p ≠ dp := ne_of (upd_same (H := H1) (a := p)) p1' (by intro z; cases z)
        have hp' : (upd (upd H1 p (.lst (ks.map vInt))) dp (.dK (putK kp (Sum.inl (x : Int) : Key) (.ref p)))) p = some (.lst (ks.map vInt)) := by
          rw [upd_ne npd]
          exact upd_same
        have kd : KpD dp dk H (upd (upd H1 p (.lst (ks.map vInt))) dp (.dK (putK kp (Sum.inl (x : Int) : Key) (.ref p)))) := fun b o h1 _ e => hne b o h1 e
        have hcd : c ≠ dp := ne_of a1 p1 (by intro z; cases z)
        have hC' : CAt C CC (upd (upd H1 p (.lst (ks.map vInt))) dp (.dK (putK kp (Sum.inl (x : Int) : Key) (.ref p)))) c fa lo dp dk n ms oo (tp + 1) tk := by
          refine ⟨hF.same kd.hide, ⟨dx, fs, hne _ _ hcd a1, a2, a3, a4, a5, a6, a7, a8, a9, b1, b2⟩, hne _ _ (ne_of b3 p1 (by intro z; cases z)) b3,
            ⟨_, upd_same, Nat.le_trans (length_putK _ _ _) (Nat.succ_le_succ p2), fun s' v hv => ?_⟩, ⟨kk, hne _ _ (ne_of k1 p1 (by intro z; cases z)) k1, k2, k3⟩⟩
          rw [valV_put] at hv
          by_cases es : (Sum.inl (s' : Int) : Key) = Sum.inl (x : Int)
          · rw [if_pos es] at hv
            cases hv
            rw [Int.ofNat.inj (Sum.inl.inj es)]
            exact ⟨p, ks, rfl, hp', hl2, hm⟩
          · rw [if_neg es] at hv
            obtain ⟨p', ps, q1, q2, q4, q3⟩ := p3 s' v hv
            exact ⟨p', ps, q1, hne _ _ (ne_of q2 p1 (by intro z; cases z)) q2, q4, q3⟩
        refine ⟨_, rfl, c, CC, dx, fs, _, rfl, hne _ _ hcd a1, CL.cl, CL.parts, a6, _, rfl, dp, _, rfl, (by have z := DGet.k (H := (upd (upd H1 p (.lst (ks.map vInt))) dp (.dK (putK kp (Sum.inl (x : Int) : Key) (.ref p))))) (k := (Sum.inl (x : Int) : Key)) upd_same; rw [valV_put, if_pos rfl] at z; exact z), ?_⟩
        exact k _ p ks hC' kd hp' hl2 hm
end
end Fam

/-! Closing: misses, is_broken, third. -/
namespace Fam
open PySem L2 OwnX
open C8 (pss_cut tCut)
theorem brk_of {ms ps : List Nat} {b s : Nat} (h : ∀ q, q ∈ ps ↔ ∃ o ∈ ms, o &&& s = q) : (ps.map fun q => !decide (b ||| q ∈ ms)).any id = brk true ms b s := by
  refine Bool.eq_iff_iff.mpr ?_
  show _ ↔ ms.any (thP ms b s) = true
  rw [List.any_eq_true, List.any_eq_true]
  constructor
  · rintro ⟨y, hy, e⟩
    obtain ⟨q, hq, rfl⟩ := List.mem_map.mp hy
    obtain ⟨o, ho, rfl⟩ := (h q).mp hq
    exact ⟨o, ho, e⟩
  · rintro ⟨o, ho, e⟩
    exact ⟨_, List.mem_map.mpr ⟨o &&& s, (h _).mpr ⟨o, ho, rfl⟩, rfl⟩, e⟩
section
variable {P : Program} {w : World} {K : PySem.W.Frag} {mg : Str → Option Value} {base : Heap} {C CC B : Addr}
abbrev nMI : List Str := ["self", "both", "single", "masks", "other", "part"]
theorem scMI : FnScope nMI ["self", "both", "single"] (defScope sMisses) := ⟨rfl, rfl, rfl, by decide +kernel, rfl, by decide +kernel, by decide +kernel⟩
theorem ok_misses {f g : Addr} {fd gd : FuncData} (F : Fun K "misses" "Closing.misses" sMisses f fd) (T2 : Bare2 mg) (CL : CloC K CC) (FC : FamC K C) (Mp : Meth K CC "parts_in" g) (okp : FnOk P w K mg base CX0 1 g gd ["self", "single"] (spPartsIn C CC)) (bp : Binds K gd ["self", "single"] []) :
    FnOk P w K mg base CX0 2 f fd ["self", "both", "single"] (spMisses C CC) := by
  refine F.ok scMI (fun vs H Q E h => ?_) (fun cdv A outer s H vs Q E hr h => ?_)
  · obtain ⟨c, fa, lo, dp, dk, n, ms, o, tp, tk, b, x, rfl, _⟩ := h
    rfl
  · obtain ⟨c, fa, lo, dp, dk, n, ms, o, tp, tk, b, x, rfl, hC, ht, k⟩ := h
    have hu := hu_of hr
    obtain ⟨hF, ⟨dx, fs, a1, a2, a3, a4, a5, a6, a7, a8, a9, b1, b2⟩, hrow, hpa, hkn⟩ := id hC
    obtain ⟨dy, l, d, gs, ts, ms0, f1, f2, f3, f4, f5, f6, f7, f8, f9, f10, f11⟩ := hF.ex
    have f1' := hide_same _ _ _ _ _ f1
    have d0 := hide_same _ _ _ _ _ f11
    have hms0 : ∀ q, decide (q ∈ ms0) = decide (q ∈ ms) := fun q => decide_eq_decide.mpr f9.mem_iff
    refine ⟨_, pss_cons (ps_set (i := 3) scMI.nd rfl (Or.inr rfl) (pe_fld (pe_fld (pv 0) rfl) rfl))
      (pss_cons (ps_if (pt_cmpR op_eq (pe_fld (pv 0) rfl) pe_str (nomark _)) (pss_one ps_never) pss_nil)
      (pss_cons (ps_if (pt_cmpR op_eq (pe_fld (pv 0) rfl) pe_str (nomark _)) (pss_one (ps_ret (pe_cmp (pc_dnotin hu (pv 1) (pv 3)) rfl))) pss_nil)
      (pss_cons (ps_if (pt_cmpR op_eq (pe_fld (pv 0) rfl) pe_str (nomark _)) (pss_one ps_never) pss_nil)
      (pss_one (ps_ret (pe_callB (cr_any rfl) (by rfl) T2.any (by decide +kernel) (pa_cons (pe_lc (own := [("part", 5)]) (g := gName 5) (tt := tYes) rfl scMI.nd (pi_list (pe_meth (pv 0) CL.cl Mp okp hr bp .nil pass0 (pa_cons (pv 2) pa_nil))) (blkOk_by (own := [("part", 5)]) (N := nMI) (sc := defScope sMisses) (by decide +kernel)) (fun _ _ _ _ _ => pg_name (i := 5) scMI.nd rfl (Or.inl rfl)) (fun _ _ _ _ _ => pts_nil)
        (fun _ _ _ _ _ => pe_cmp (pc_dnotin hu (pe_op op_or (pv 1) (pv 5)) (pv 3)) rfl)) pa_nil))))))), ?_⟩
    refine ⟨_, rfl, c, CC, dx, fs, _, rfl, a1, CL.cl, CL.family, a2, fa, C, dy, gs, _, rfl, f1', FC.cl, FC.masks, f4, ?_⟩
    refine ⟨_, rfl, c, CC, dx, fs, _, rfl, a1, CL.cl, CL.how, a3, rfl, _, rfl, ite2 (fun z => absurd (of_decide_eq_true z) (by cases o <;> decide +kernel)) fun _ => ?_⟩
    cases o with
    | false =>
      refine ⟨_, rfl, c, CC, dx, fs, _, rfl, a1, CL.cl, CL.how, a3, rfl, _, rfl, ite2 (fun _ => ?_) fun z => absurd (decide_eq_true rfl) z⟩
      refine ⟨_, rfl, _, rfl, d, _, rfl, DGet.k (k := (Sum.inl ((b : Nat) : Int) : Key)) d0, ?_⟩
      rw [some_mK, hms0]
      obtain ⟨kp', q5, q6, q7⟩ := hpa
      exact k _ ⟨hF, ⟨dx, fs, a1, a2, a3, a4, a5, a6, a7, a8, a9, b1, b2⟩, hrow, ⟨kp', q5, by omega, q7⟩, hkn⟩ (KpD.of (Same.refl _))
    | true =>
      refine ⟨_, rfl, c, CC, dx, fs, _, rfl, a1, CL.cl, CL.how, a3, rfl, _, rfl, ite2 (fun z => absurd (of_decide_eq_true z) (by decide +kernel)) fun _ => ?_⟩
      refine ⟨_, rfl, c, CC, dx, fs, _, rfl, a1, CL.cl, CL.how, a3, rfl, _, rfl, ite2 (fun z => absurd (of_decide_eq_true z) (by decide +kernel)) fun _ => ?_⟩
      refine ⟨_, rfl, c, dx, fs, rfl, a1, a8, _, rfl, c, fa, lo, dp, dk, n, ms, true, tp, tk, x, rfl, hC, ht, fun H1 p ps hC1 kd hp hpl hm => ⟨p, rfl, ⟨_, SqL.of hp⟩, fun D hD => ?_⟩⟩
      have hfd := hide_some f11
      have d1 := kd _ _ hfd.1 hfd.2.1 hfd.2.2
      refine lc_list (K := K) (a := p) (xs := ps.map vInt) (fun i H' => Same H1 H' ∧ H' D = some (.lst (((ps.take i).map fun q => !decide (b ||| q ∈ ms)).map V.bl))) ⟨same_new hD, upd_same⟩ (fun i H' _ h => SqL.of (h.1 _ _ hp)) ?_ ?_
      · rintro i y H2 hy ⟨sm, hT⟩
        obtain ⟨hi, rfl⟩ := item hy
        refine ⟨rfl, _, rfl, _, rfl, _, _, rfl, rfl, _, rfl, d, _, rfl, (by show DGet _ _ (V.int (Builtin.bitOr ((b : Nat) : Int) ((ps[i] : Nat) : Int))) _; rw [bitOr_nat]; exact DGet.k (k := (Sum.inl ((b ||| ps[i] : Nat) : Int) : Key)) (sm _ _ d1)), ?_⟩
        rw [some_mK, hms0]
        refine ⟨_, hT, ?_, same_upd sm hD, ?_⟩
        · rw [List.length_map, List.length_map, List.length_take]
          exact below (m := 100000) (by omega)
        · rw [upd_same, take_more hi, List.map_append, List.map_append]
          rfl
      · rintro H2 ⟨sm, hT⟩
        rw [List.length_map, List.take_length] at hT
        refine ⟨D, _, rfl, SqL.of hT, ?_⟩
        rw [brk_of hm]
        exact k H2 (hC1.same sm) (kd.trans (KpD.of sm))
abbrev nIBr : List Str := ["self", "both", "single", "key"]
theorem scIBr : FnScope nIBr ["self", "both", "single"] (defScope sIsBroken) := ⟨rfl, rfl, rfl, by decide +kernel, rfl, by decide +kernel, by decide +kernel⟩
theorem ok_is_broken {f g : Addr} {fd gd : FuncData} (F : Fun K "is_broken" "Closing.is_broken" sIsBroken f fd) (CL : CloC K CC) (Mm : Meth K CC "misses" g) (okm : FnOk P w K mg base CX0 2 g gd ["self", "both", "single"] (spMisses C CC)) (bm : Binds K gd ["self", "both", "single"] []) :
    FnOk P w K mg base CX0 3 f fd ["self", "both", "single"] (spIsBroken C CC) := by
  refine F.ok scIBr (fun vs H Q E h => ?_) (fun cdv A outer s H vs Q E hr h => ?_)
  · obtain ⟨c, fa, lo, dp, dk, n, ms, o, tp, tk, b, x, rfl, _⟩ := h
    rfl
  · obtain ⟨c, fa, lo, dp, dk, n, ms, o, tp, tk, b, x, rfl, hC, ht, ht2, k⟩ := h
    have hu := hu_of hr
    obtain ⟨hF, ⟨dx, fs, a1, a2, a3, a4, a5, a6, a7, a8, a9, b1, b2⟩, hrow, ⟨kp, p1, _⟩, ⟨kk, k1, k2, k3⟩⟩ := id hC
    refine ⟨_, pss_cons (ps_set (i := 3) scIBr.nd rfl (Or.inl rfl) (pe_tup (pa_cons (pe_ifExp (pt_cmpR op_eq (pe_fld (pv 0) rfl) pe_str (nomark _)) pe_int (pv 1)) (pa_cons (pv 2) pa_nil))))
      (pss_cons (ps_if (pt_cmp (pc_dnotin hu (pv 3) (pe_fld (pv 0) rfl))) (pss_one (ps_dput hu (pe_fld (pv 0) rfl) (pv 3) (pe_meth (pv 0) CL.cl Mm okm hr bm .nil pass0 (pa_cons (pv 1) (pa_cons (pv 2) pa_nil))) rfl)) pss_nil)
      (pss_one (ps_ret (pe_dget hu (pe_fld (pv 0) rfl) (pv 3) (fun _ _ => rfl))))), ?_⟩
    refine ⟨_, rfl, c, CC, dx, fs, _, rfl, a1, CL.cl, CL.how, a3, rfl, _, rfl, ite2 (fun z => absurd (of_decide_eq_true z) (by cases o <;> decide +kernel)) fun _ => ?_⟩
    refine ⟨_, rfl, _, rfl, small (m := 2) (Nat.le_refl _), fun t ht' => ?_⟩
    have s1 : Same H (upd H t (.tup [vInt b, vInt x])) := same_new ht'
    have hC1 := hC.same s1
    have tT : (upd H t (.tup [vInt b, vInt x])) t = some (.tup ([(Sum.inl (b : Int) : Key), Sum.inl (x : Int)].map kV)) := upd_same
    have k1' := s1 _ _ k1
    have a1' := s1 _ _ a1
    refine ⟨_, rfl, _, rfl, c, CC, dx, fs, _, rfl, a1', CL.cl, CL.known, a7, dk, _, rfl, DGet.t k1' tT, _, rfl, ?_⟩
    cases e : valV kk [(Sum.inl (b : Int) : Key), Sum.inl (x : Int)] with
    | some v =>
      refine iteF ⟨_, rfl, c, CC, dx, fs, _, rfl, a1', CL.cl, CL.known, a7, _, rfl, dk, _, rfl, (by have z := DGet.t k1' tT; rw [e] at z; exact z), ?_⟩
      rw [k3 b x v e]
      refine k _ ?_ (KpD.of s1)
      obtain ⟨q1, q2, q3, ⟨kp', q5, q6, q7⟩, ⟨kk', q8, q9, q10⟩⟩ := hC1
      exact ⟨q1, q2, q3, ⟨kp', q5, by omega, q7⟩, ⟨kk', q8, by omega, q10⟩⟩
    | none =>
      refine iteT ⟨_, rfl, c, dx, fs, rfl, a1', a9, _, rfl, _, rfl, c, fa, lo, dp, dk, n, ms, o, tp, tk, b, x, rfl, hC1, ht, fun H1 hC2 kd => ?_⟩
      have tdp : t ≠ dp := ne_of tT (s1 _ _ p1) (by intro z; cases z)
      have tdk : t ≠ dk := ne_of tT k1' (by intro z; cases z)
      have tT1 := kd _ _ tdp tdk tT
      obtain ⟨hF2, ⟨dx2, fs2, c1, c2, c3, c4, c5, c6, c7, c8, c9, d1, d2⟩, hrow2, ⟨kp2, p1', p2', p3'⟩, ⟨kk2, kk1, kk2', kk3⟩⟩ := id hC2
      refine ⟨_, rfl, c, CC, dx2, fs2, _, rfl, c1, CL.cl, CL.known, c7, _, rfl, dk, _, rfl, DPut.t kk1 tT1 (below (m := 4000000) (by omega)), ?_⟩
      have hne : ∀ y u, y ≠ dk → H1 y = some u → (upd H1 dk (.dT (putK kk2 [(Sum.inl (b : Int) : Key), Sum.inl (x : Int)] (.bl (brk o ms b x))))) y = some u := fun y u ny e => by
        rw [upd_ne ny]
        exact e
      have kd2 : KpD dp dk H1 (upd H1 dk (.dT (putK kk2 [(Sum.inl (b : Int) : Key), Sum.inl (x : Int)] (.bl (brk o ms b x))))) := fun y u _ h2 e => hne y u h2 e
      have hcd : c ≠ dk := ne_of c1 kk1 (by intro z; cases z)
      refine ⟨_, rfl, c, CC, dx2, fs2, _, rfl, hne _ _ hcd c1, CL.cl, CL.known, c7, _, rfl, dk, _, rfl, (by
        have z := DGet.t (H := (upd H1 dk (.dT (putK kk2 [(Sum.inl (b : Int) : Key), Sum.inl (x : Int)] (.bl (brk o ms b x)))))) upd_same (hne _ _ tdk tT1)
        rw [valV_put, if_pos rfl] at z
        exact z), ?_⟩
      refine k _ ⟨hF2.same kd2.hide, ⟨dx2, fs2, hne _ _ hcd c1, c2, c3, c4, c5, c6, c7, c8, c9, d1, d2⟩, hne _ _ (ne_of hrow2 kk1 (by intro z; cases z)) hrow2,
        ⟨kp2, hne _ _ (ne_of p1' kk1 (by intro z; cases z)) p1', p2', fun y v hv => ?_⟩, ⟨_, upd_same, Nat.le_trans (length_putK _ _ _) (Nat.succ_le_succ kk2'), fun b' x' v hv => ?_⟩⟩ ((KpD.of s1).trans (kd.trans kd2))
      · obtain ⟨p, ps, q1, q2, q3, q4⟩ := p3' y v hv
        exact ⟨p, ps, q1, hne _ _ (ne_of q2 kk1 (by intro z; cases z)) q2, q3, q4⟩
      · rw [valV_put] at hv
        by_cases es : [(Sum.inl (b' : Int) : Key), Sum.inl (x' : Int)] = [(Sum.inl (b : Int) : Key), Sum.inl (x : Int)]
        · rw [if_pos es] at hv
          cases hv
          have e1 := (List.cons.inj es).1
          have e2 := (List.cons.inj (List.cons.inj es).2).1
          rw [Int.ofNat.inj (Sum.inl.inj e1), Int.ofNat.inj (Sum.inl.inj e2)]
        · rw [if_neg es] at hv
          exact kk3 b' x' v hv


abbrev nTH : List Str := ["self", "both", "single", "masks", "other"]
theorem scTH : FnScope nTH ["self", "both", "single"] (defScope sThird) := ⟨rfl, rfl, rfl, by decide +kernel, rfl, by decide +kernel, by decide +kernel⟩
theorem ok_third {f : Addr} {fd : FuncData} (F : Fun K "third" "Closing.third" sThird f fd) (CL : CloC K CC) (FC : FamC K C) : FnOk P w K mg base CX0 1 f fd ["self", "both", "single"] (spThird C CC) := by
  refine F.ok scTH (fun vs H Q E h => ?_) (fun cdv A outer s H vs Q E hr h => ?_)
  · obtain ⟨c, fa, lo, dp, dk, n, ms, o, tp, tk, b, x, rfl, _⟩ := h
    rfl
  · obtain ⟨c, fa, lo, dp, dk, n, ms, o, tp, tk, b, x, rfl, hC, k⟩ := h
    have hu := hu_of hr
    obtain ⟨hF, ⟨dx, fs, a1, a2, a3, a4, a5, a6, a7, a8, a9, b1, b2⟩, hrow, _, _⟩ := id hC
    obtain ⟨dy, l, d, gs, ts, ms0, f1, f2, f3, f4, f5, f6, f7, f8, f9, f10, f11⟩ := hF.ex
    have f1' := hide_same _ _ _ _ _ f1
    have d1 := hide_same _ _ _ _ _ f11
    have hms0 : ∀ q, decide (q ∈ ms0) = decide (q ∈ ms) := fun q => decide_eq_decide.mpr f9.mem_iff
    refine ⟨_, pss_cons (ps_set (i := 3) scTH.nd rfl (Or.inl rfl) (pe_fld (pe_fld (pv 0) rfl) rfl))
      (pss_cons (ps_if (PW.pt (pw_or (pt_cmpR op_eq (pe_fld (pv 0) rfl) pe_str (nomark _)) (pw_or1 (pt_cmpR op_eq (pe_fld (pv 0) rfl) pe_str (nomark _))))) (pss_one (ps_ret (pe_tup pa_nil))) pss_nil)
      (pss_cons (ps_for PassesOwn.never rfl (pi_list (pe_fld (pv 0) rfl)) (pg_name (i := 4) scTH.nd rfl (Or.inl rfl))
        (pss_cons (ps_if (PW.pt (pw_and (pt_cmpR op_eq (pe_fld (pv 0) rfl) pe_str (nomark _)) (pw_and1 (pt_cmp (pc_dnotin hu (pe_op op_xor (pv 4) (pv 2)) (pv 3)))))) (pss_one ps_never) pss_nil)
        (pss_cons (ps_if (PW.pt (pw_and (pt_cmpR op_eq (pe_fld (pv 0) rfl) pe_str (nomark _)) (pw_and1 (pt_cmp (pc_dnotin hu (pe_op op_or (pv 1) (pe_op op_and (pv 4) (pv 2))) (pv 3)))))) (pss_one (ps_ret (pe_tup (pa_cons (pv 4) pa_nil)))) pss_nil)
        (pss_one (ps_if (PW.pt (pw_and (pt_cmpR op_eq (pe_fld (pv 0) rfl) pe_str (nomark _)) (pw_and (pt_cmp (pc_dnotin hu (pv 4) (pv 3))) (pw_and1 (pt_cmpR op_eq (pe_op op_and (pv 4) (pe_un un_inv (pv 2))) (pv 1) (nomark _))))))
          (pss_one ps_never) pss_nil)))))
      (pss_one (ps_ret (pe_tup pa_nil))))), ?_⟩
    refine ⟨_, rfl, c, CC, dx, fs, _, rfl, a1, CL.cl, CL.family, a2, fa, C, dy, gs, _, rfl, f1', FC.cl, FC.masks, f4, ?_⟩
    refine ⟨_, rfl, c, CC, dx, fs, _, rfl, a1, CL.cl, CL.how, a3, rfl, _, rfl, ite2 (fun z => absurd (of_decide_eq_true z) (by cases o <;> decide +kernel)) fun _ => ?_⟩
    cases o with
    | false =>
      refine ⟨_, rfl, c, CC, dx, fs, _, rfl, a1, CL.cl, CL.how, a3, rfl, _, rfl, ite2 (fun _ => ?_) fun z => absurd (decide_eq_true rfl) z⟩
      exact ⟨small (m := 1) (Nat.zero_le _), fun p hp => k _ p (same_new hp) hp upd_same⟩
    | true =>
      refine ⟨_, rfl, c, CC, dx, fs, _, rfl, a1, CL.cl, CL.how, a3, rfl, _, rfl, ite2 (fun z => absurd (of_decide_eq_true z) (by decide +kernel)) fun _ => ?_⟩
      refine ⟨_, rfl, c, CC, dx, fs, _, rfl, a1, CL.cl, CL.others, a5, lo, rfl, ⟨_, SqL.of hrow⟩, ?_⟩
      refine for_list (xs := ms.map vInt) (fun i σ H' => H' = H ∧ (∃ y, σ = [some (.ref c), some (vInt b), some (vInt x), some (.ref d), y]) ∧ ∀ z ∈ ms.take i, thP ms b x z = false) ⟨rfl, ⟨none, rfl⟩, fun z hz => by cases hz⟩ (fun i σ H' _ h => by rw [h.1]; exact SqL.of hrow) ?_ ?_
      · rintro i y σ H' hy ⟨rfl, ⟨y4, rfl⟩, hno⟩
        obtain ⟨hi, rfl⟩ := item hy
        refine ⟨_, rfl, c, CC, dx, fs, _, rfl, a1, CL.cl, CL.how, a3, rfl, _, rfl, ite2 (fun z => absurd (of_decide_eq_true z) (by decide +kernel)) fun _ => ?_⟩
        refine ⟨_, rfl, c, CC, dx, fs, _, rfl, a1, CL.cl, CL.how, a3, rfl, _, rfl, ite2 (fun _ => ?_) fun z => absurd (decide_eq_true rfl) z⟩
        have edg : DGet H' d (V.int (Builtin.bitOr ((b : Nat) : Int) (Builtin.bitAnd ((ms[i] : Nat) : Int) ((x : Nat) : Int)))) (valV (mK ms0) (Sum.inl ((b ||| (ms[i] &&& x) : Nat) : Int) : Key)) := by
          rw [bitAnd_nat, bitOr_nat]
          exact DGet.k (k := (Sum.inl ((b ||| (ms[i] &&& x) : Nat) : Int) : Key)) d1
        refine ⟨_, rfl, _, rfl, _, rfl, _, _, rfl, rfl, _, _, rfl, rfl, _, rfl, d, _, rfl, edg, ?_⟩
        rw [some_mK, hms0]
        cases ht : thP ms b x ms[i] with
        | true =>
          have ht' : (!decide (b ||| (ms[i] &&& x) ∈ ms)) = true := ht
          rw [ht']
          refine ⟨_, rfl, iteT ⟨_, rfl, small (m := 1) (Nat.le_refl _), fun p hp => k _ p (same_new hp) hp ?_⟩⟩
          rw [upd_same]
          show _ = some (HO.tup (((ms.find? (thP ms b x)).toList).map vInt))
          rw [find_at hi hno ht]
          rfl
        | false =>
          have ht' : (!decide (b ||| (ms[i] &&& x) ∈ ms)) = false := ht
          rw [ht']
          refine ⟨_, rfl, iteF ?_⟩
          refine ⟨_, rfl, c, CC, dx, fs, _, rfl, a1, CL.cl, CL.how, a3, rfl, _, rfl, ite2 (fun z => absurd (of_decide_eq_true z) (by decide +kernel)) fun _ => ?_⟩
          refine ⟨rfl, ⟨_, rfl⟩, fun z hz => ?_⟩
          rw [take_more hi] at hz
          rcases List.mem_append.mp hz with q | q
          · exact hno z q
          · rw [List.mem_singleton.mp q]
            exact ht
      · rintro σ H' ⟨rfl, ⟨y4, rfl⟩, hno⟩
        rw [List.length_map, List.take_length] at hno
        refine ⟨small (m := 1) (Nat.zero_le _), fun p hp => k _ p (same_new hp) hp ?_⟩
        rw [upd_same]
        show _ = some (HO.tup (((ms.find? (thP ms b x)).toList).map vInt))
        rw [List.find?_eq_none.mpr fun z hz => by rw [hno z hz]; decide]
        rfl
end
end Fam

/-! Closing.__init__. -/
namespace Fam
open PySem L2 OwnX
open C8 (pss_cut tCut)
def tNo : TE := fun _ _ _ => False
theorem pe_no {X : Cx} {e : Expr} : PE X e tNo := ⟨fun _ _ _ _ _ _ h => h.elim⟩
/-- all that stood but x stands -/
def But (x : Addr) (H H' : Hp) : Prop := ∀ b o, b ≠ x → H b = some o → H' b = some o
theorem But.refl (x : Addr) (H : Hp) : But x H H := fun _ _ _ e => e
theorem But.trans {x : Addr} {H H1 H2 : Hp} (a : But x H H1) (b : But x H1 H2) : But x H H2 := fun y o n e => b y o n (a y o n e)
theorem But.of {x : Addr} {H H' : Hp} (s : Same H H') : But x H H' := fun b o _ e => s b o e
theorem But.put {x : Addr} {H : Hp} {o : HO} : But x H (upd H x o) := fun b u n e => by
  rw [upd_ne n]
  exact e
theorem FAt.but {C CC : Addr} {H H' : Hp} {x dx f : Addr} {fs : List (Str × V)} {n : Nat} {ms : List Nat} (h : FAt C H f n ms) (hx : H x = some (.ins CC dx fs)) (hf : f ≠ x) (k : But x H H') : FAt C H' f n ms := by
  obtain ⟨⟨dy, l, d, gs, ts, ms0, a1, a2, a3, a4, a5, a6, a7, a8, a9, a10, a11⟩, h1, h2, h3⟩ := h
  refine ⟨⟨dy, l, d, gs, ts, ms0, k _ _ hf a1, a2, a3, a4, a5, a6, k _ _ (ne_of a7 hx (by intro z; cases z)) a7, a8.tups fun p ys e => k _ _ (ne_of e hx (by intro z; cases z)) e, a9, a10, k _ _ (ne_of a11 hx (by intro z; cases z)) a11⟩, h1, h2, h3⟩
theorem FAt.ne {C CC : Addr} {H : Hp} {x dx f : Addr} {n : Nat} {ms : List Nat} (h : FAt C H f n ms) (hx : H x = some (.ins CC dx [])) : f ≠ x := by
  obtain ⟨⟨dy, l, d, gs, ts, ms0, a1, a2, _⟩, _⟩ := h
  intro e
  rw [e, hx] at a1
  cases a1
  cases a2
def spClInit (C CC : Addr) : Sp := fun vs H Q _ => ∃ (x dx f : Addr) (n : Nat) (ms : List Nat) (o : Bool), vs = [.ref x, .ref f, wdV o] ∧ H x = some (.ins CC dx []) ∧ FAt C H f n ms ∧
  ∀ (H' : Hp) (lo dp dk : Addr) (ms0 : List Nat), But x H H' → H dp = none → H dk = none → dp ≠ x → dk ≠ x → ms0.Perm ms → ms0.Pairwise lotLe → CAt C CC H' x f lo dp dk n ms0 o 0 0 → Q .non H'
section
variable {P : Program} {w : World} {K : PySem.W.Frag} {mg : Str → Option Value} {base : Heap} {C CC : Addr}
abbrev nCI : List Str := ["self", "family", "word", "lot"]
theorem scCI : FnScope nCI ["self", "family", "word"] (defScope sClInit) := ⟨rfl, rfl, rfl, by decide +kernel, rfl, by decide +kernel, by decide +kernel⟩
theorem ok_cl_init {f fi : Addr} {fd : FuncData} (F : Fun K "__init__" "Closing.__init__" sClInit f fd) (CL : CloC K CC) (FC : FamC K C) (O : OwnIt P w K mg base C fi "lots") (GM : Cal P w K mg base 1 "mask_of" ["lot"] spMaskOf) :
    FnOk P w K mg base CX0 2 f fd ["self", "family", "word"] (spClInit C CC) := by
  obtain ⟨gm, gmd, okm, bm, km, mm⟩ := GM.ex
  refine F.ok scCI (fun vs H Q E h => ?_) (fun cdv A outer s H vs Q E hr h => ?_)
  · obtain ⟨x, dx, fa, n, ms, o, rfl, _⟩ := h
    rfl
  · obtain ⟨x, dx, fa, n, ms, o, rfl, hx, hF, k⟩ := h
    have hr1 := hr.mono (j := 1) (by decide)
    have hfx := hF.ne hx
    have h10 := pow_le10 hF.h2
    refine ⟨_, pss_cons (ps_fld (pv 0) (pv 1) rfl)
      (pss_cons (ps_fld (pv 0) (pv 2) rfl)
      (pss_cons (ps_fld (pv 0) (pe_lc (own := [("lot", 3)]) (g := gName 3) (tt := tYes) rfl scCI.nd (pi_own O hr1 (pv 1)) (blkOk_by (own := [("lot", 3)]) (N := nCI) (sc := defScope sClInit) (by decide +kernel)) (fun _ _ _ _ _ => pg_name (i := 3) scCI.nd rfl (Or.inl rfl)) (fun _ _ _ _ _ => pts_nil)
        (fun _ _ _ _ _ => pe_call okm hr1 rfl mm km bm .nil pass0 (pa_cons (pv 3) pa_nil))) rfl)
      (pss_cons (ps_fld (pv 0) (pe_ifExp (pt_cmpR op_eq (pv 2) pe_str (nomark _)) pe_no (pe_fld (pv 0) rfl)) rfl)
      (pss_cons (ps_fld (pv 0) pe_dnewK rfl)
      (pss_one (ps_fld (pv 0) pe_dnewT rfl)))))), ?_⟩
    -- self.family, self.how
    refine ⟨_, rfl, _, rfl, x, CC, dx, _, rfl, hx, CL.cl, CL.family, (by show 0 < 1000; decide), ?_⟩
    refine ⟨_, rfl, _, rfl, x, CC, dx, _, rfl, upd_same, CL.cl, CL.how, (by show 1 < 1000; decide), ?_⟩
    obtain ⟨F2, hF2⟩ : ∃ F2, F2 = putF "how" (wdV o) (putF "family" (.ref fa) []) := ⟨_, rfl⟩
    obtain ⟨H2, hH2⟩ : ∃ H2, H2 = upd (upd H x (.ins CC dx (putF "family" (.ref fa) []))) x (.ins CC dx F2) := ⟨_, rfl⟩
    rw [← hF2, ← hH2]
    have but2 : But x H H2 := by rw [hH2]; exact But.put.trans But.put
    have hx2 : H2 x = some (.ins CC dx F2) := by rw [hH2]; exact upd_same
    have fam2 := hF.but hx hfx but2
    obtain ⟨⟨dy, l, d, gs, ts, ms0, f1, f2, f3, f4, f5, f6, f7, f8, f9, f10, f11⟩, _⟩ := id fam2
    have hlen : ms0.length ≤ 1024 := by
      rw [f9.length_eq]
      exact Nat.le_trans (nodup_len _ ms hF.ms.nd hF.ms.lt) h10
    -- self.order
    refine ⟨_, rfl, fa, dy, l, gs, rfl, f1, f3, ⟨_, SqT.of f7⟩, fun D hD => ?_⟩
    refine lc_tup (K := K) (a := l) (xs := ts) (fun i H' => Same H2 H' ∧ H' D = some (.lst ((ms0.take i).map vInt))) ⟨same_new hD, upd_same⟩ (fun i H' _ h => SqT.of (h.1 _ _ f7)) ?_ ?_
    · rintro i y H3 hy ⟨sm, hT⟩
      obtain ⟨hi, p, rfl, hp⟩ := f8.get hy
      have hlt := hF.ms.lt _ (f9.mem_iff.mp (List.getElem_mem hi))
      refine ⟨rfl, _, rfl, p, ms0[i], rfl, sm _ _ hp, by omega, _, hT, ?_, same_upd sm hD, ?_⟩
      · rw [List.length_map, List.length_take]
        exact below (m := 100000) (by omega)
      · rw [upd_same, take_more hi, List.map_append]
        rfl
    rintro H3 ⟨sm3, hT3⟩
    rw [f8.len, List.take_length] at hT3
    have hx3 := sm3 _ _ hx2
    refine ⟨_, rfl, x, CC, dx, _, rfl, hx3, CL.cl, CL.order, (by rw [hF2]; show 2 < 1000; decide), ?_⟩
    obtain ⟨F3, hF3⟩ : ∃ F3, F3 = putF "order" (.ref D) F2 := ⟨_, rfl⟩
    obtain ⟨H4, hH4⟩ : ∃ H4, H4 = upd H3 x (.ins CC dx F3) := ⟨_, rfl⟩
    rw [← hF3, ← hH4]
    have but4 : But x H2 H4 := by rw [hH4]; exact (But.of sm3).trans But.put
    have hx4 : H4 x = some (.ins CC dx F3) := by rw [hH4]; exact upd_same
    have hDx : D ≠ x := ne_of hT3 hx3 (by intro z; cases z)
    have hT4 : H4 D = some (.lst (ms0.map vInt)) := by rw [hH4, upd_ne hDx]; exact hT3
    -- self.others
    refine ⟨_, rfl, rfl, _, rfl, ite2 (fun z => absurd (of_decide_eq_true z) (by cases o <;> decide +kernel)) fun _ => ?_⟩
    refine ⟨_, rfl, x, CC, dx, _, _, rfl, hx4, CL.cl, CL.order, by rw [hF3]; exact lk_same, ?_⟩
    refine ⟨_, rfl, x, CC, dx, _, rfl, hx4, CL.cl, CL.others, (by rw [hF3, hF2]; show 3 < 1000; decide), ?_⟩
    obtain ⟨F4, hF4⟩ : ∃ F4, F4 = putF "others" (.ref D) F3 := ⟨_, rfl⟩
    obtain ⟨H7, hH7⟩ : ∃ H7, H7 = upd H4 x (.ins CC dx F4) := ⟨_, rfl⟩
    rw [← hF4, ← hH7]
    have but7 : But x H4 H7 := by rw [hH7]; exact But.put
    have hx7 : H7 x = some (.ins CC dx F4) := by rw [hH7]; exact upd_same
    have hT7' := but7 _ _ hDx hT4
    have but07 : But x H H7 := but2.trans (but4.trans but7)
    -- self.parts, self.known
    intro d1 hd1
    have hd1x : d1 ≠ x := (ne_of_none hx7 hd1).symm
    refine ⟨_, rfl, x, CC, dx, _, rfl, by rw [upd_ne hd1x.symm]; exact hx7, CL.cl, CL.parts, (by rw [hF4, hF3, hF2]; show 4 < 1000; decide), ?_⟩
    intro d2 hd2
    have hd2x : d2 ≠ x := (ne_of_none (upd_same (H := upd H7 d1 (.dK [])) (a := x)) hd2).symm
    have hd21 : d2 ≠ d1 := by
      intro e
      rw [e, upd_ne hd1x, upd_same] at hd2
      cases hd2
    have hd27 : H7 d2 = none := by
      rw [upd_ne hd2x, upd_ne hd21] at hd2
      exact hd2
    refine ⟨_, rfl, x, CC, dx, _, rfl, by rw [upd_ne hd2x.symm]; exact upd_same, CL.cl, CL.known, (by rw [hF4, hF3, hF2]; show 5 < 1000; decide), ?_⟩
    have free0 : ∀ {e : Addr}, H7 e = none → e ≠ x → H e = none := fun {e} h1 h2 => by
      cases q : H e with
      | none => rfl
      | some o => rw [but07 _ _ h2 q] at h1; cases h1
    obtain ⟨H9, hH9⟩ : ∃ H9, H9 = upd (upd (upd (upd H7 d1 (.dK [])) x (.ins CC dx (putF "parts" (.ref d1) F4))) d2 (.dT [])) x (.ins CC dx (putF "known" (.ref d2) (putF "parts" (.ref d1) F4))) := ⟨_, rfl⟩
    rw [← hH9]
    have but9 : But x H7 H9 := by
      rw [hH9]
      intro b o hb e
      rw [upd_ne hb, upd_ne (ne_of_none e hd27), upd_ne hb, upd_ne (ne_of_none e hd1)]
      exact e
    have h9d1 : H9 d1 = some (.dK []) := by rw [hH9, upd_ne hd1x, upd_ne hd21.symm, upd_ne hd1x]; exact upd_same
    have h9d2 : H9 d2 = some (.dT []) := by rw [hH9, upd_ne hd2x]; exact upd_same
    have but09 := but07.trans but9
    have fam9 : FAt C (hide H9 d1 d2) fa n ms := by
      refine hF.but hx hfx fun b o hb e => hide_of ?_ ?_ (but09 _ _ hb e)
      · intro z
        rw [z, free0 hd1 hd1x] at e
        cases e
      · intro z
        rw [z, free0 hd27 hd2x] at e
        cases e
    refine k H9 D d1 d2 ms0 but09 (free0 hd1 hd1x) (free0 hd27 hd2x) hd1x hd2x f9 f10 ⟨fam9.perm f9.symm, ⟨dx, _, by rw [hH9]; exact upd_same, ?_, ?_, ?_, ?_, ?_, ?_, ?_, ?_, ?_, ?_⟩, but9 _ _ hDx hT7', ⟨[], h9d1, Nat.le_refl _, fun s v z => by cases z⟩, ⟨[], h9d2, Nat.le_refl _, fun b s v z => by cases z⟩⟩
    all_goals
      rw [hF4, hF3, hF2]
      repeat (first | exact lk_same | exact rfl | refine (lk_ne (by decide +kernel)).trans ?_)
end
end Fam

/-! broken. -/
namespace Fam
open PySem L2 OwnX
open C8 (pss_cut tCut)
abbrev sBroken : Stmt := top 42
theorem for_enum {K : PySem.W.Frag} {a : Addr} {xs : List V} {g : TG} {tb : TS} {D : Ends} {σ : L2.St} {H : Hp} (Pv : Nat → L2.St → Hp → Prop) (h0 : Pv 0 σ H) (hl : ∀ i σ H, i ≤ xs.length → Pv i σ H → SqL K H a xs)
    (hs : ∀ i x σ H T, xs[i]? = some x → Pv i σ H → H T = none → g (.ref T) σ (upd H T (.tup [.int (i : Nat), x])) fun σ2 H2 => tb { D with nx := Pv (i + 1), ct := Pv (i + 1), bk := D.nx } σ2 H2) (hd : ∀ σ H, Pv xs.length σ H → D.nx σ H) :
    ∃ W : Nat → Nat → L2.St → Hp → Prop, (∃ m, W 0 m σ H) ∧ ∀ i m σ H, W i m σ H →
      ((Ite K a).stop i H ∧ D.nx σ H) ∨ ((Ite K a).go i H ∧ ∃ N : L2.St → Hp → Prop, (∀ σ' H', N σ' H' → ∃ m', m' < m ∧ W (i + 1) m' σ' H') ∧ ∀ x H', (Ite K a).yld i H x H' → g x σ H' fun σ2 H2 => tb { D with nx := N, ct := N, bk := D.nx } σ2 H2) := by
  refine ⟨fun i m σ H => m = xs.length - i ∧ i ≤ xs.length ∧ Pv i σ H, ⟨xs.length, rfl, Nat.zero_le _, h0⟩, ?_⟩
  rintro i _ σ H ⟨rfl, hi, p⟩
  have q := hl i σ H hi p
  rcases Nat.lt_or_ge i xs.length with lt | ge
  · refine .inr ⟨⟨xs, xs[i], q, List.getElem?_eq_getElem lt⟩, Pv (i + 1), fun σ' H' p' => ⟨xs.length - (i + 1), by omega, rfl, lt, p'⟩, ?_⟩
    rintro y H' ⟨T, x, rfl, hT, rfl, hx⟩
    exact hs i x σ H T (hx xs q) p hT
  · have e : i = xs.length := Nat.le_antisymm hi ge
    subst e
    exact .inl ⟨⟨xs, q, Nat.le_refl _⟩, hd σ H p⟩
theorem cut_drop (xs : List V) {i : Nat} (h : i ≤ xs.length) : cutV xs (some (i : Int)) none = xs.drop i := by
  unfold cutV
  rw [HT.sIx_nat, HT.sIx_none, Nat.min_eq_left h]
  exact List.take_of_length_le (by rw [List.length_drop]; exact Nat.le_refl _)
theorem kpd_old {dp dk : Addr} {H H1 H2 : Hp} (s : Same H H1) (k : KpD dp dk H1 H2) (h1 : H dp = none) (h2 : H dk = none) : Same H H2 := fun b o e => k b o (ne_of_none e h1) (ne_of_none e h2) (s b o e)
def spBroken (B C : Addr) : Sp := fun vs H Q E => ∃ (f : Addr) (n : Nat) (ms : List Nat) (word : V), vs = [.ref f, word] ∧ FAt C H f n ms ∧
  ((∃ o : Bool, word = wdV o ∧ ∀ (H' : Hp) (ms0 : List Nat), ms0.Perm ms → ms0.Pairwise lotLe → Same H H' → (pairD (bad2 o ms) ms0 = none → Q .non H') ∧
      (∀ x y ps p, pairD (bad2 o ms) ms0 = some (x, y) → H' p = some (.tup ps) → LotsAt H' ps ([x, y] ++ thL o ms0 (x &&& y) (xorN x y)) → Q (.ref p) H'))
    ∨ (badAll word ∧ ∀ (d : Addr) (H' : Hp), Same H H' → H d = none → H' d = some (.xd [("which", .str "word")]) → E (.ref B) (some d) H'))
section
variable {P : Program} {w : World} {K : PySem.W.Frag} {mg : Str → Option Value} {base : Heap} {C CC B : Addr}
abbrev nBR : List Str := ["family", "word", "closing", "at", "one", "two", "masks", "mask"]
theorem scBR : FnScope nBR ["family", "word"] (defScope sBroken) := ⟨rfl, rfl, rfl, by decide +kernel, rfl, by decide +kernel, by decide +kernel⟩
theorem ok_broken {f gi gb gt : Addr} {fd gid gbd gtd : FuncData} (F : Fun K "broken" "broken" sBroken f fd) (T : Bare mg) (T2 : Bare2 mg) (CL : CloC K CC) (FC : FamC K C) (mCC : mg "Closing" = some (.ref CC))
    (GW : CalE P w K mg base 3 "check_word" ["word"] (spCheckWord B)) (GL : Cal P w K mg base 1 "lot_of_mask" ["mask", "size"] spLotOfMask)
    (MK : Mk K CC gi) (oki : FnOk P w K mg base CX0 2 gi gid ["self", "family", "word"] (spClInit C CC)) (bi : Binds K gid ["self", "family", "word"] [])
    (Mb : Meth K CC "is_broken" gb) (okb : FnOk P w K mg base CX0 3 gb gbd ["self", "both", "single"] (spIsBroken C CC)) (bb : Binds K gbd ["self", "both", "single"] [])
    (Mt : Meth K CC "third" gt) (okt : FnOk P w K mg base CX0 1 gt gtd ["self", "both", "single"] (spThird C CC)) (bt : Binds K gtd ["self", "both", "single"] []) :
    FnOk P w K mg base (L2.CX P w) 5 f fd ["family", "word"] (spBroken B C) := by
  obtain ⟨gw, gwd, okw, bw, kw, mw⟩ := GW.ex
  obtain ⟨gl, gld, okl, bl, kl, ml⟩ := GL.ex
  refine F.okX scBR (fun vs H Q E h => ?_) (fun cdv A outer s H vs Q E hr h => ?_)
  · obtain ⟨fa, n, ms, word, rfl, _⟩ := h
    rfl
  · obtain ⟨fa, n, ms, word, rfl, hF, hw⟩ := h
    obtain ⟨hms, h1, h2⟩ : Masks n ms ∧ 1 ≤ n ∧ n ≤ 10 := ⟨hF.ms, hF.h1, hF.h2⟩
    have hr3 := hr.mono (j := 3) (by decide)
    have hr1 := hr.mono (j := 1) (by decide)
    refine ⟨_, pss_cons (ps_expr (pe_call okw hr3 rfl mw kw bw .nil (passes_call (takes_of rfl rfl rfl rfl) (fun _ _ _ _ h => h)) (pa_cons (pv 1) pa_nil)))
      (PSs.nox (pss_cons (ps_set (i := 2) scBR.nd rfl (Or.inl rfl) (pe_make MK oki hr3 rfl mCC bi .nil pass0 (pa_cons (pv 0) (pa_cons (pv 1) pa_nil))))
      (pss_cons (ps_for PassesOwn.never rfl (pi_enum (by rfl) T2.enumerate (pa_cons (pe_fld (pv 2) rfl) pa_nil)) (pg_tup rfl (pgs_cons (pg_name (i := 3) scBR.nd rfl (Or.inl rfl)) (pgs_cons (pg_name (i := 4) scBR.nd rfl (Or.inl rfl)) pgs_nil)))
        (pss_one (ps_for PassesOwn.never rfl (pi_list (pe_slice sl_list (pe_fld (pv 2) rfl) (po_some (pv 3)) po_none)) (pg_name (i := 5) scBR.nd rfl (Or.inl rfl))
          (pss_one (ps_if (pt_val (pe_meth (pv 2) CL.cl Mb okb hr3 bb .nil pass0 (pa_cons (pe_op op_and (pv 4) (pv 5)) (pa_cons (pe_op op_xor (pv 4) (pv 5)) pa_nil))))
            (pss_cons (ps_set (i := 6) scBR.nd rfl (Or.inl rfl) (pe_op op_catT (pe_tup (pa_cons (pv 4) (pa_cons (pv 5) pa_nil))) (pe_meth (pv 2) CL.cl Mt okt hr1 bt .nil pass0 (pa_cons (pe_op op_and (pv 4) (pv 5)) (pa_cons (pe_op op_xor (pv 4) (pv 5)) pa_nil)))))
            (pss_one (ps_ret (pe_tupleOf rfl T.tuple (pe_lc (own := [("mask", 7)]) (g := gName 7) (tt := tYes) rfl scBR.nd (pi_tup (pv 6)) (blkOk_by (own := [("mask", 7)]) (N := nBR) (sc := defScope sBroken) (by decide +kernel)) (fun _ _ _ _ _ => pg_name (i := 7) scBR.nd rfl (Or.inl rfl)) (fun _ _ _ _ _ => pts_nil)
              (fun _ _ _ _ _ => pe_call okl hr1 rfl ml kl bl .nil pass0 (pa_cons (pv 7) (pa_cons (pe_fld (pv 0) rfl : PE _ _ (tFld K (tVar 0) "size")) pa_nil))))))))
            pss_nil)))))
      (pss_one (ps_ret pe_non))))), ?_⟩
    rcases hw with ⟨o, rfl, kb⟩ | ⟨hb, kb⟩
    rotate_left
    · exact ⟨_, rfl, word, rfl, .inr ⟨hb, kb⟩⟩
    refine ⟨_, rfl, _, rfl, .inl ⟨o, rfl, ?_⟩⟩
    refine ⟨_, rfl, _, rfl, fun x dx hx hdx hne => ?_⟩
    have sm0 : Same H (upd (upd H dx (.own x)) x (.ins CC dx [])) := made_new hx hdx
    refine ⟨x, dx, fa, n, ms, o, rfl, upd_same, hF.same sm0, fun H1 lo dp dk ms0 but hdp hdk hdpx hdkx pm srt hC => ⟨rfl, ?_⟩⟩
    have od : H dp = none := sm0.free hdp
    have ok_ : H dk = none := sm0.free hdk
    have s1 : Same H H1 := fun b o e => but b o (ne_of_none e hx) (sm0 b o e)
    have hbad : bad2 o ms = bad2 o ms0 := bad2_perm pm
    have hbc := bad2_comm o ms0
    have hlen : ms0.length ≤ 1024 := by
      rw [pm.length_eq]
      exact Nat.le_trans (nodup_len _ ms hms.nd hms.lt) (pow_le10 h2)
    have hlt : ∀ {i : Nat} (hi : i < ms0.length), ms0[i] < 2 ^ n := fun hi => hms.lt _ (pm.mem_iff.mp (List.getElem_mem hi))
    obtain ⟨dx1, fs, a1, a2, a3, a4, _⟩ := hC.ob
    refine ⟨_, rfl, x, CC, dx1, fs, _, rfl, a1, CL.cl, CL.order, a4, lo, ms0.map vInt, rfl, SqL.of hC.row, ?_⟩
    refine for_enum (xs := ms0.map vInt) (fun i σ H' => (∃ y3 y4 y5, σ = [some (.ref fa), some (wdV o), some (.ref x), y3, y4, y5, none, none]) ∧ (∃ tp tk, tp ≤ i * 1025 ∧ tk ≤ i * 1025 ∧ CAt C CC H' x fa lo dp dk n ms0 o tp tk) ∧ Same H H' ∧ NoBad (bad2 o ms0) ms0 i i)
      ⟨⟨none, none, none, rfl⟩, ⟨0, 0, Nat.zero_le _, Nat.zero_le _, hC⟩, s1, fun i' j' _ _ h => by omega⟩ (fun i σ H' _ h => by obtain ⟨_, ⟨_, _, _, _, hc⟩, _⟩ := h; exact SqL.of hc.row) ?_ ?_
    · rintro i y σ H2 t hy ⟨⟨y3, y4, y5, rfl⟩, ⟨tp, tk, t1, t2, hC2⟩, s2, nb⟩ hT
      obtain ⟨hi, rfl⟩ := item hy
      have sT : Same H2 (upd H2 t (.tup [.int (i : Nat), vInt ms0[i]])) := same_new hT
      have hC3 := hC2.same sT
      refine ⟨t, _, rfl, SqT.of upd_same, rfl, _, _, rfl, _, _, rfl, rfl, ?_⟩
      obtain ⟨dx3, fs3, c1, c2, c3, c4, _⟩ := hC3.ob
      refine ⟨_, rfl, x, CC, dx3, fs3, _, rfl, c1, CL.cl, CL.order, c4, _, rfl, _, rfl, lo, ms0.map vInt, rfl, SqL.of hC3.row, fun p hp => ?_⟩
      have ec : cutV (ms0.map vInt) (some (i : Int)) none = (ms0.drop i).map vInt := by
        rw [cut_drop _ (by rw [List.length_map]; omega), List.map_drop]
      have hp4 : (upd (upd H2 t (.tup [.int (i : Nat), vInt ms0[i]])) p (.lst (cutV (ms0.map vInt) (some (i : Int)) none))) p = some (.lst ((ms0.drop i).map vInt)) := by rw [upd_same, ec]
      have s4 : Same H (upd (upd H2 t (.tup [.int (i : Nat), vInt ms0[i]])) p (.lst (cutV (ms0.map vInt) (some (i : Int)) none))) := (s2.trans sT).trans (same_new hp)
      have hC4 := hC3.same (same_new (o := .lst (cutV (ms0.map vInt) (some (i : Int)) none)) hp)
      refine ⟨p, rfl, ⟨_, SqL.of hp4⟩, ?_⟩
      refine for_list (xs := (ms0.drop i).map vInt) (fun j σ H' => (∃ y5, σ = [some (.ref fa), some (wdV o), some (.ref x), some (.int (i : Nat)), some (vInt ms0[i]), y5, none, none]) ∧ (∃ tp tk, tp ≤ i * 1025 + j ∧ tk ≤ i * 1025 + j ∧ CAt C CC H' x fa lo dp dk n ms0 o tp tk) ∧ Same H H' ∧ H' p = some (.lst ((ms0.drop i).map vInt)) ∧ NoBad (bad2 o ms0) ms0 i (i + j))
        ⟨⟨y5, rfl⟩, ⟨tp, tk, t1, t2, hC4⟩, s4, hp4, nb⟩ (fun j σ H' _ h => SqL.of h.2.2.2.1) ?_ ?_
      · rintro j y σ H5 hy ⟨⟨y5, rfl⟩, ⟨tp, tk, t1, t2, hC5⟩, s5, hp5, nb⟩
        obtain ⟨hj, rfl⟩ := item hy
        rw [List.length_drop] at hj
        have hij : i + j < ms0.length := by omega
        have ej : (ms0.drop i)[j]'(by rw [List.length_drop]; exact hj) = ms0[i + j] := List.getElem_drop
        rw [ej]
        obtain ⟨dx5, fs5, e1, e2, e3, e4, e5, e6, e7, e8, e9, g1, g2⟩ := hC5.ob
        have ev : ∀ (v : V), [v, V.int (Builtin.bitAnd ((ms0[i] : Nat) : Int) ((ms0[i + j] : Nat) : Int)), V.int (Builtin.bitXor ((ms0[i] : Nat) : Int) ((ms0[i + j] : Nat) : Int))] = [v, vInt (ms0[i] &&& ms0[i + j]), vInt (xorN ms0[i] ms0[i + j])] := fun v => by
          rw [bitAnd_nat, bitXor_nat]
        refine ⟨_, rfl, x, dx5, fs5, rfl, e1, g1, _, rfl, _, rfl, _, _, rfl, rfl, _, rfl, _, rfl, _, _, rfl, rfl, x, fa, lo, dp, dk, n, ms0, o, tp, tk, _, _, ev _, hC5, by omega, by omega, fun H6 hC6 kd => ⟨_, rfl, ?_⟩⟩
        have s6 : Same H H6 := kpd_old s5 kd od ok_
        have hpd : p ≠ dp := by
          obtain ⟨kp, q, _⟩ := hC5.pa
          exact ne_of hp5 q (by intro z; cases z)
        have hpk : p ≠ dk := by
          obtain ⟨kk, q, _⟩ := hC5.kn
          exact ne_of hp5 q (by intro z; cases z)
        have hp6 := kd _ _ hpd hpk hp5
        show if bad2 o ms0 ms0[i] ms0[i + j] = true then _ else _
        cases hb : bad2 o ms0 ms0[i] ms0[i + j] with
        | false =>
          refine iteF ⟨⟨_, rfl⟩, ⟨tp + 1, tk + 1, by omega, by omega, hC6⟩, s6, hp6, ?_⟩
          refine nb.step ?_
          rw [getD_at hi, getD_at hij]
          exact hb
        | true =>
          have hdue : pairD (bad2 o ms) ms0 = some (ms0[i], ms0[i + j]) := by
            rw [hbad]
            exact nobad_at hbc hi hij (Nat.le_add_right _ _) nb hb
          refine iteT ⟨_, rfl, _, rfl, small (m := 2) (Nat.le_refl _), fun u hu => ?_⟩
          have sU : Same H6 (upd H6 u (.tup [vInt ms0[i], vInt ms0[i + j]])) := same_new hu
          have hC7 := hC6.same sU
          obtain ⟨dx7, fs7, k1, k2, k3, k4, k5, k6, k7, k8, k9, m1, m2⟩ := hC7.ob
          refine ⟨_, rfl, x, dx7, fs7, rfl, k1, m2, _, rfl, _, rfl, _, _, rfl, rfl, _, rfl, _, rfl, _, _, rfl, rfl, x, fa, lo, dp, dk, n, ms0, o, _, _, _, _, ev _, hC7, fun H8 q s8 hq hq' => ?_⟩
          have hu8 := s8 _ _ (upd_same (H := H6) (a := u))
          obtain ⟨th, hth⟩ : ∃ th, th = thL o ms0 (ms0[i] &&& ms0[i + j]) (xorN ms0[i] ms0[i + j]) := ⟨_, rfl⟩
          rw [← hth] at hq'
          have thl : th.length ≤ 1 := by
            rw [hth]
            cases o
            · exact Nat.zero_le _
            · show ((ms0.find? _).toList).length ≤ 1
              cases ms0.find? (thP ms0 (ms0[i] &&& ms0[i + j]) (xorN ms0[i] ms0[i + j])) with
              | none => exact Nat.zero_le _
              | some z => exact Nat.le_refl _
          have thm : ∀ z ∈ th, z < 2 ^ n := fun z hz => by
            rw [hth] at hz
            cases o
            · cases hz
            · have hz2 : z ∈ (ms0.find? (thP ms0 (ms0[i] &&& ms0[i + j]) (xorN ms0[i] ms0[i + j]))).toList := hz
              exact hms.lt z (pm.mem_iff.mp (List.mem_of_find?_eq_some (Option.mem_toList.mp hz2)))
          have s9 : Same H H8 := (s6.trans sU).trans s8
          have hall : ∀ z ∈ [ms0[i], ms0[i + j]] ++ th, z < 2 ^ n := fun z hz => by
            rcases List.mem_append.mp hz with q | q
            · rcases List.mem_cons.mp q with rfl | q
              · exact hlt hi
              · rw [List.mem_singleton.mp q]
                exact hlt hij
            · exact thm z q
          obtain ⟨W, hWd⟩ : ∃ W, W = [ms0[i], ms0[i + j]] ++ th := ⟨_, rfl⟩
          have wl : W.length ≤ 3 := by
            rw [hWd, List.length_append]
            show 2 + th.length ≤ 3
            omega
          rw [← hWd] at hall
          rw [hth] at hWd
          refine ⟨u, q, _, _, rfl, rfl, SqT.of hu8, SqT.of hq', (by intro z; cases z), (by rw [List.length_map]; show 2 + th.length ≤ sizeLine; exact small (m := 3) (by omega)), (fun z => ?_), fun z v hv => ?_⟩
          · have z' : th = [] := List.map_eq_nil_iff.mp z
            have huW : H8 u = some (.tup (W.map vInt)) := by
              rw [hWd, ← hth, z', List.append_nil]
              exact hu8
            refine ⟨_, rfl, u, rfl, ⟨_, SqT.of huW⟩, fun D hD => ?_⟩
            obtain ⟨⟨dy, l, d, gs, ts, ms1, f1, f2, _⟩, _⟩ := hF.same s9
            refine lc_tup (K := K) (a := u) (xs := W.map vInt) (fun r H' => Same H8 H' ∧ ∃ ys, H' D = some (.lst ys) ∧ LotsAt H' ys (W.take r)) ⟨same_new hD, [], upd_same, trivial⟩ (fun r H' _ h => SqT.of (h.1 _ _ huW)) ?_ ?_
            · rintro r y H9 hy ⟨sm, ys, hY, hL⟩
              obtain ⟨hr', rfl⟩ := item hy
              have hmr : W[r] < 2 ^ n := hall _ (List.getElem_mem hr')
              refine ⟨rfl, _, rfl, _, rfl, fa, C, dy, gs, _, rfl, sm _ _ f1, FC.cl, FC.size, f2, _, n, rfl, hmr, h2, fun H10 q' s10 hq1 hq2 => ?_⟩
              refine ⟨_, s10 _ _ hY, ?_, same_upd (sm.trans s10) hD, _, upd_same, ?_⟩
              · rw [hL.len, List.length_take]
                exact below (m := 100) (by omega)
              · rw [take_more hr']
                exact ((hL.same s10).add hq2).upd (s10 _ _ hY)
            · rintro H9 ⟨sm, ys, hY, hL⟩
              rw [List.length_map, List.take_length] at hL
              refine .inl ⟨D, _, rfl, SqL.of hY, fun e he => ?_⟩
              have sE := same_new (o := .tup ys) he
              exact (kb _ ms0 pm srt ((s9.trans sm).trans sE)).2 _ _ ys e hdue upd_same (by rw [hWd] at hL; exact hL.same sE)
          · have hvW : (upd H8 v (.tup ([vInt ms0[i], vInt ms0[i + j]] ++ th.map vInt))) v = some (.tup (W.map vInt)) := by
              rw [upd_same, hWd, ← hth, List.map_append]
              rfl
            have s9b : Same H (upd H8 v (.tup ([vInt ms0[i], vInt ms0[i + j]] ++ th.map vInt))) := s9.trans (same_new hv)
            refine ⟨_, rfl, v, rfl, ⟨_, SqT.of hvW⟩, fun D hD => ?_⟩
            obtain ⟨⟨dy, l, d, gs, ts, ms1, f1, f2, _⟩, _⟩ := hF.same s9b
            refine lc_tup (K := K) (a := v) (xs := W.map vInt) (fun r H' => Same (upd H8 v (.tup ([vInt ms0[i], vInt ms0[i + j]] ++ th.map vInt))) H' ∧ ∃ ys, H' D = some (.lst ys) ∧ LotsAt H' ys (W.take r)) ⟨same_new hD, [], upd_same, trivial⟩ (fun r H' _ h => SqT.of (h.1 _ _ hvW)) ?_ ?_
            · rintro r y H9 hy ⟨sm, ys, hY, hL⟩
              obtain ⟨hr', rfl⟩ := item hy
              have hmr : W[r] < 2 ^ n := hall _ (List.getElem_mem hr')
              refine ⟨rfl, _, rfl, _, rfl, fa, C, dy, gs, _, rfl, sm _ _ f1, FC.cl, FC.size, f2, _, n, rfl, hmr, h2, fun H10 q' s10 hq1 hq2 => ?_⟩
              refine ⟨_, s10 _ _ hY, ?_, same_upd (sm.trans s10) hD, _, upd_same, ?_⟩
              · rw [hL.len, List.length_take]
                exact below (m := 100) (by omega)
              · rw [take_more hr']
                exact ((hL.same s10).add hq2).upd (s10 _ _ hY)
            · rintro H9 ⟨sm, ys, hY, hL⟩
              rw [List.length_map, List.take_length] at hL
              refine .inl ⟨D, _, rfl, SqL.of hY, fun e he => ?_⟩
              have sE := same_new (o := .tup ys) he
              exact (kb _ ms0 pm srt ((s9b.trans sm).trans sE)).2 _ _ ys e hdue upd_same (by rw [hWd] at hL; exact hL.same sE)
      · rintro σ H5 ⟨⟨y5, rfl⟩, ⟨tp, tk, t1, t2, hC5⟩, s5, hp5, nb⟩
        rw [List.length_map, List.length_drop] at nb t1 t2
        refine ⟨⟨_, _, _, rfl⟩, ⟨tp, tk, by omega, by omega, hC5⟩, s5, ?_⟩
        rw [show i + (ms0.length - i) = ms0.length by omega] at nb
        exact nb.next
    · rintro σ H2 ⟨⟨y3, y4, y5, rfl⟩, ⟨tp, tk, t1, t2, hC2⟩, s2, nb⟩
      rw [List.length_map] at nb
      refine (kb H2 ms0 pm srt s2).1 ?_
      rw [hbad]
      exact nobad_all hbc nb
end
end Fam

/-! The mathematics of holders, and of looks at two places. -/
namespace Fam
open PySem L2
theorem bit_off {n m i : Nat} (h : m < 2 ^ n) (hi : ¬ i < n) : m.testBit i = false := Nat.testBit_lt_two_pow (Nat.lt_of_lt_of_le h (Nat.pow_le_pow_right (by omega) (by omega)))
theorem eq_bits {n a b : Nat} (ha : a < 2 ^ n) (hb : b < 2 ^ n) (h : ∀ i, i < n → a.testBit i = b.testBit i) : a = b := Nat.eq_of_testBit_eq fun i => by
  by_cases q : i < n
  · exact h i q
  · rw [bit_off ha q, bit_off hb q]
/-- closed by "and" -/
def ClosedAnd (ms : List Nat) : Prop := ∀ x ∈ ms, ∀ y ∈ ms, x &&& y ∈ ms
/-- m lies in a lot, and for each place outside in one without it -/
def HeldSo (n : Nat) (ms : List Nat) (m : Nat) : Prop := (∃ w ∈ ms, In m w) ∧ ∀ i, i < n → m.testBit i = false → ∃ w ∈ ms, In m w ∧ w.testBit i = false
theorem and_holders {n : Nat} {ms : List Nat} (hm : ∀ m ∈ ms, m < 2 ^ n) : ClosedAnd ms ↔ ∀ m, m < 2 ^ n → HeldSo n ms m → m ∈ ms := by
  constructor
  · intro c m hm2 ⟨⟨w0, hw0, in0⟩, hh⟩
    have : ∀ k, k ≤ n → ∃ w ∈ ms, In m w ∧ ∀ i, i < k → m.testBit i = false → w.testBit i = false := by
      intro k
      induction k with
      | zero => exact fun _ => ⟨w0, hw0, in0, fun i hi => by omega⟩
      | succ k ih =>
        intro hk
        obtain ⟨w, hw, inw, q⟩ := ih (by omega)
        cases e : m.testBit k with
        | true =>
          refine ⟨w, hw, inw, fun i hi z => ?_⟩
          by_cases ik : i = k
          · rw [ik, e] at z
            cases z
          · exact q i (by omega) z
        | false =>
          obtain ⟨v, hv, inv, e2⟩ := hh k (by omega) e
          refine ⟨w &&& v, c w hw v hv, fun i z => ?_, fun i hi z => ?_⟩
          · rw [Nat.testBit_and, inw i z, inv i z]
            rfl
          · rw [Nat.testBit_and]
            by_cases ik : i = k
            · rw [ik, e2, Bool.and_false]
            · rw [q i (by omega) z, Bool.false_and]
    obtain ⟨w, hw, inw, q⟩ := this n (Nat.le_refl n)
    have e : m = w := eq_bits hm2 (hm w hw) fun i hi => by
      cases e : m.testBit i with
      | true => rw [inw i e]
      | false => rw [q i hi e]
    rw [e]
    exact hw
  · intro h x hx y hy
    refine h _ (Nat.and_lt_two_pow x (hm y hy)) ⟨⟨x, hx, in_and_l x y⟩, fun i _ e => ?_⟩
    rw [Nat.testBit_and] at e
    cases ex : x.testBit i with
    | false => exact ⟨x, hx, in_and_l x y, ex⟩
    | true =>
      rw [ex, Bool.true_and] at e
      exact ⟨y, hy, in_and_r x y, e⟩
/-- closed by two of three -/
def ClosedMaj (ms : List Nat) : Prop := ∀ x ∈ ms, ∀ y ∈ ms, ∀ z ∈ ms, maj x y z ∈ ms
/-- at each two places m looks as some lot -/
def LooksAs (n : Nat) (ms : List Nat) (m : Nat) : Prop := ∀ i, i < n → ∀ j, j < n → ∃ w ∈ ms, w.testBit i = m.testBit i ∧ w.testBit j = m.testBit j
theorem maj_bit (x y z i : Nat) : (maj x y z).testBit i = ((x.testBit i && y.testBit i) || (x.testBit i && z.testBit i) || (y.testBit i && z.testBit i)) := by
  unfold maj
  simp only [Nat.testBit_or, Nat.testBit_and]
theorem maj_lt {x y z n : Nat} (hx : x < 2 ^ n) (hy : y < 2 ^ n) (hz : z < 2 ^ n) : maj x y z < 2 ^ n := Nat.or_lt_two_pow (Nat.or_lt_two_pow (Nat.and_lt_two_pow x hy) (Nat.and_lt_two_pow x hz)) (Nat.and_lt_two_pow y hz)
theorem two_pairs {n : Nat} {ms : List Nat} (h1 : 1 ≤ n) (hm : ∀ m ∈ ms, m < 2 ^ n) : ClosedMaj ms ↔ ∀ m, m < 2 ^ n → LooksAs n ms m → m ∈ ms := by
  constructor
  · intro c m hm2 hl
    have : ∀ k, ∀ l : List Nat, l.length = k → (∀ i ∈ l, i < n) → ∃ w ∈ ms, ∀ i ∈ l, w.testBit i = m.testBit i := by
      intro k
      induction k using Nat.strongRecOn with
      | _ k ih =>
        intro l hk hln
        match l, hk, hln with
        | [], _, _ =>
          obtain ⟨w, hw, _⟩ := hl 0 (by omega) 0 (by omega)
          exact ⟨w, hw, fun i hi => by cases hi⟩
        | [a], _, hln =>
          obtain ⟨w, hw, e, _⟩ := hl a (hln a List.mem_cons_self) a (hln a List.mem_cons_self)
          exact ⟨w, hw, fun i hi => by rw [List.mem_singleton.mp hi]; exact e⟩
        | [a, b], _, hln =>
          obtain ⟨w, hw, e1, e2⟩ := hl a (hln a List.mem_cons_self) b (hln b (List.mem_cons_of_mem _ List.mem_cons_self))
          refine ⟨w, hw, fun i hi => ?_⟩
          rcases List.mem_cons.mp hi with q | q
          · rw [q]; exact e1
          · rw [List.mem_singleton.mp q]; exact e2
        | a :: b :: c' :: r, hk, hln =>
          have ha := hln a List.mem_cons_self
          have hb := hln b (List.mem_cons_of_mem _ List.mem_cons_self)
          have hc := hln c' (List.mem_cons_of_mem _ (List.mem_cons_of_mem _ List.mem_cons_self))
          have hr : ∀ i ∈ r, i < n := fun i hi => hln i (List.mem_cons_of_mem _ (List.mem_cons_of_mem _ (List.mem_cons_of_mem _ hi)))
          have mk : ∀ p q : Nat, p < n → q < n → ∃ w ∈ ms, w.testBit p = m.testBit p ∧ w.testBit q = m.testBit q ∧ ∀ i ∈ r, w.testBit i = m.testBit i := fun p q hp hq => by
            obtain ⟨w, hw, e⟩ := ih (r.length + 2) (by rw [← hk]; show r.length + 2 < r.length + 1 + 1 + 1; omega) (p :: q :: r) rfl (fun i hi => by
              rcases List.mem_cons.mp hi with z | z
              · rw [z]; exact hp
              · rcases List.mem_cons.mp z with z | z
                · rw [z]; exact hq
                · exact hr i z)
            exact ⟨w, hw, e p List.mem_cons_self, e q (List.mem_cons_of_mem _ List.mem_cons_self), fun i hi => e i (List.mem_cons_of_mem _ (List.mem_cons_of_mem _ hi))⟩
          obtain ⟨x, hx, x1, x2, x3⟩ := mk b c' hb hc
          obtain ⟨y, hy, y1, y2, y3⟩ := mk a c' ha hc
          obtain ⟨z, hz, z1, z2, z3⟩ := mk a b ha hb
          refine ⟨maj x y z, c x hx y hy z hz, fun i hi => ?_⟩
          rw [maj_bit]
          rcases List.mem_cons.mp hi with q | q
          · rw [q, y1, z1]
            cases x.testBit a <;> cases m.testBit a <;> rfl
          · rcases List.mem_cons.mp q with q | q
            · rw [q, x1, z2]
              cases y.testBit b <;> cases m.testBit b <;> rfl
            · rcases List.mem_cons.mp q with q | q
              · rw [q, x2, y2]
                cases z.testBit c' <;> cases m.testBit c' <;> rfl
              · rw [x3 i q, y3 i q, z3 i q]
                cases m.testBit i <;> rfl
    obtain ⟨w, hw, e⟩ := this n (List.range n) List.length_range (fun i hi => List.mem_range.mp hi)
    have : m = w := eq_bits hm2 (hm w hw) fun i hi => (e i (List.mem_range.mpr hi)).symm
    rw [this]
    exact hw
  · intro h x hx y hy z hz
    refine h _ (maj_lt (hm x hx) (hm y hy) (hm z hz)) fun i _ j _ => ?_
    have pick : (x.testBit i = (maj x y z).testBit i ∧ x.testBit j = (maj x y z).testBit j) ∨ (y.testBit i = (maj x y z).testBit i ∧ y.testBit j = (maj x y z).testBit j) ∨ (z.testBit i = (maj x y z).testBit i ∧ z.testBit j = (maj x y z).testBit j) := by
      rw [maj_bit, maj_bit]
      cases x.testBit i <;> cases y.testBit i <;> cases z.testBit i <;> cases x.testBit j <;> cases y.testBit j <;> cases z.testBit j <;> decide
    rcases pick with q | q | q
    · exact ⟨x, hx, q⟩
    · exact ⟨y, hy, q⟩
    · exact ⟨z, hz, q⟩
/-- what broken tells is what the law looks for -/
theorem bad_and {ms : List Nat} {x y : Nat} : bad2 false ms x y = !decide (x &&& y ∈ ms) := rfl
theorem bad_two {ms : List Nat} {x y : Nat} : bad2 true ms x y = ms.any fun z => !decide (maj x y z ∈ ms) := by
  unfold bad2
  show ms.any (thP ms (x &&& y) (xorN x y)) = _
  refine List.any_congr rfl fun z => ?_
  unfold thP
  rw [maj_eq]
theorem third_two {ms : List Nat} {x y : Nat} : thL true ms (x &&& y) (xorN x y) = (ms.find? fun z => !decide (maj x y z ∈ ms)).toList := by
  show (ms.find? (thP ms (x &&& y) (xorN x y))).toList = _
  congr 2
  funext z
  unfold thP
  rw [maj_eq]
end Fam

/-! The law's pair_due, triple_due. -/
namespace Fam
open PySem L2
open C8 (pss_cut tCut)
/-- the first three that break "two" -/
def tri2 (ms ins : List Nat) (x y : Nat) : Option (Nat × Nat × Nat) := (ins.find? fun z => !decide (maj x y z ∈ ms)).map fun z => (x, y, z)
def tri1 (ms ins : List Nat) (x : Nat) : Option (Nat × Nat × Nat) := ins.findSome? (tri2 ms ins x)
def tripleDue (ms os : List Nat) : Option (Nat × Nat × Nat) := (insideOf ms os).findSome? (tri1 ms (insideOf ms os))
def spPairDue (K : PySem.W.Frag) : Sp := fun vs H Q _ => ∃ (a : Addr) (ms : List Nat) (n : Nat), vs = [.ref a, vInt n] ∧ SqL K H a (ms.map vInt) ∧ 1 ≤ n ∧ n ≤ 10 ∧ ∀ (H' : Hp) (os : List Nat), OrderOf n os → Same H H' →
  (pairDue false ms os = none → Q .non H') ∧ (∀ x y p, pairDue false ms os = some (x, y) → H p = none → H' p = some (.tup [vInt x, vInt y]) → Q (.ref p) H')
def spTripleDue (K : PySem.W.Frag) : Sp := fun vs H Q _ => ∃ (a : Addr) (ms : List Nat) (n : Nat), vs = [.ref a, vInt n] ∧ SqL K H a (ms.map vInt) ∧ 1 ≤ n ∧ n ≤ 10 ∧ ∀ (H' : Hp) (os : List Nat), OrderOf n os → Same H H' →
  (tripleDue ms os = none → Q .non H') ∧ (∀ x y z p, tripleDue ms os = some (x, y, z) → H p = none → H' p = some (.tup [vInt x, vInt y, vInt z]) → Q (.ref p) H')
/-- the first pair that breaks "two", with its first third lot, is the first three -/
theorem triple_pair {ms ins : List Nat} (h : ∀ z, z ∈ ins ↔ z ∈ ms) : ins.findSome? (tri1 ms ins) = (pairD (bad2 true ms) ins).bind fun p => (ins.find? fun z => !decide (maj p.1 p.2 z ∈ ms)).map fun z => (p.1, p.2, z) := by
  have t2 : ∀ x y, tri2 ms ins x y = (pd2 (bad2 true ms) x y).bind fun p => (ins.find? fun z => !decide (maj p.1 p.2 z ∈ ms)).map fun z => (p.1, p.2, z) := fun x y => by
    unfold pd2 tri2
    cases e : bad2 true ms x y with
    | true => rw [if_pos rfl]; rfl
    | false =>
      rw [if_neg (by decide)]
      rw [bad_two] at e
      rw [List.find?_eq_none.mpr fun z hz => by
        have := List.any_eq_false.mp e z ((h z).mp hz)
        exact this]
      rfl
  have bind1 : ∀ (f : Nat → Option (Nat × Nat)) (g : Nat × Nat → Option (Nat × Nat × Nat)) (l : List Nat), (∀ x ∈ l, ∀ p, f x = some p → (g p).isSome = true) → l.findSome? (fun x => (f x).bind g) = (l.findSome? f).bind g := fun f g l => by
    induction l with
    | nil => intro _; rfl
    | cons a l ih =>
      intro hs
      have i2 := ih fun x hx => hs x (List.mem_cons_of_mem _ hx)
      cases e : f a with
      | none => simp [List.findSome?_cons, e, i2]
      | some p =>
        obtain ⟨q, hq⟩ := Option.isSome_iff_exists.mp (hs a List.mem_cons_self p e)
        simp [List.findSome?_cons, e, hq]
  have good : ∀ x y p, pd2 (bad2 true ms) x y = some p → ((ins.find? fun z => !decide (maj p.1 p.2 z ∈ ms)).map fun z => (p.1, p.2, z)).isSome = true := fun x y p e => by
    unfold pd2 at e
    cases eb : bad2 true ms x y with
    | false => rw [eb, if_neg (by decide)] at e; cases e
    | true =>
      rw [eb, if_pos rfl] at e
      cases e
      rw [bad_two] at eb
      obtain ⟨z, hz, q⟩ := List.any_eq_true.mp eb
      cases ef : ins.find? fun z => !decide (maj x y z ∈ ms) with
      | none => exact absurd q (List.find?_eq_none.mp ef z ((h z).mpr hz))
      | some w => rfl
  have t1 : tri1 ms ins = fun x => (pd1 (bad2 true ms) ins x).bind fun p => (ins.find? fun z => !decide (maj p.1 p.2 z ∈ ms)).map fun z => (p.1, p.2, z) := by
    funext x
    unfold tri1 pd1
    rw [show tri2 ms ins x = fun y => (pd2 (bad2 true ms) x y).bind fun p => (ins.find? fun z => !decide (maj p.1 p.2 z ∈ ms)).map fun z => (p.1, p.2, z) from funext (t2 x)]
    exact bind1 _ _ _ fun y _ p e => good x y p e
  rw [t1]
  refine bind1 _ _ _ fun x _ p e => ?_
  unfold pd1 at e
  obtain ⟨y, _, ey⟩ := List.exists_of_findSome?_eq_some e
  exact good x y p ey
section
variable {P : Program} {w : World} {K : PySem.W.Frag} {mg : Str → Option Value} {base : Heap}
abbrev nPD : List Str := ["_law_masks", "_law_size", "_law_inside", "_law_x", "_law_y", "_law_mask_here"]
theorem scPD : FnScope nPD ["_law_masks", "_law_size"] (defScope sPairDue) := ⟨rfl, rfl, rfl, by decide +kernel, rfl, by decide +kernel, by decide +kernel⟩
abbrev nTD : List Str := ["_law_masks", "_law_size", "_law_inside", "_law_x", "_law_y", "_law_z", "_law_mask_here"]
theorem scTD : FnScope nTD ["_law_masks", "_law_size"] (defScope sTripleDue) := ⟨rfl, rfl, rfl, by decide +kernel, rfl, by decide +kernel, by decide +kernel⟩
theorem ok_pair_due {f : Addr} {fd : FuncData} (F : Fun K "_law_pair_due" "_law_pair_due" sPairDue f fd) (T : Bare mg) (GO : Cal P w K mg base 3 "_law_order" ["_law_size"] spOrder) : FnOk P w K mg base CX0 4 f fd ["_law_masks", "_law_size"] (spPairDue K) := by
  obtain ⟨go, god, oko, bo, ko, mo⟩ := GO.ex
  refine F.ok scPD (fun vs H Q E h => ?_) (fun cdv A outer s H vs Q E hr h => ?_)
  · obtain ⟨a, ms, n, rfl, _⟩ := h
    rfl
  · obtain ⟨a, ms, n, rfl, hS, h1, h2, k⟩ := h
    have h10 := pow_le10 h2
    refine ⟨_, pss_cons (ps_setLc (i := 2) (own := [("_law_mask_here", 5)]) (g := gName 5) (by rfl) scPD.nd rfl rfl (sw_true rfl rfl rfl (by decide +kernel)) (pi_list (pe_call oko hr rfl mo ko bo .nil pass0 (pa_cons (pv 1) pa_nil))) (blkOk_by (own := [("_law_mask_here", 5)]) (N := nPD) (sc := defScope sPairDue) (by decide +kernel)) (fun _ _ _ _ _ => pg_name (i := 5) scPD.nd rfl (Or.inl rfl))
        (fun _ _ _ _ _ => pts_one (pt_cmpR (op_in_seq : OpR _ _ (rIn K false)) (pv 5) (pv 0) (by rfl))) (fun _ _ _ _ _ => pv 5))
      (pss_cons (ps_for PassesOwn.never rfl (pi_list (pv 2)) (pg_name (i := 3) scPD.nd rfl (Or.inl rfl))
        (pss_one (ps_for PassesOwn.never rfl (pi_list (pv 2)) (pg_name (i := 4) scPD.nd rfl (Or.inl rfl))
          (pss_one (ps_if (pt_cmpR op_notIn_seq (pe_op op_and (pv 3) (pv 4)) (pv 0) (by rfl))
            (pss_one (ps_ret (pe_tup (pa_cons (pv 3) (pa_cons (pv 4) pa_nil))))) pss_nil)))))
      (pss_one (ps_ret pe_non))), ?_⟩
    refine ⟨_, rfl, n, rfl, h1, h2, fun H1 r os ho s1 hpo hO => ⟨r, rfl, ⟨_, SqL.of hO⟩, fun q hq => ?_⟩⟩
    have hlm : os.length ≤ 1024 := by rw [ho.perm.length_eq, List.length_range]; omega
    refine lc_list (K := K) (a := r) (xs := os.map vInt) (fun i H' => Same H1 H' ∧ H' q = some (.lst ((insideOf ms (os.take i)).map vInt))) ⟨same_new hq, upd_same⟩ ?_ ?_ ?_
    · rintro i H2 hi ⟨sm, _⟩
      exact SqL.of (sm _ _ hO)
    · rintro i x H2 hx ⟨sm, hR⟩
      obtain ⟨hi, rfl⟩ := item hx
      refine ⟨rfl, _, rfl, _, rfl, a, _, rfl, .inl ((s1.trans sm).seq hS), rfl, flat_all ms, _, rfl, ?_⟩
      rw [inV_nat]
      have e1 : insideOf ms (os.take (i + 1)) = insideOf ms (os.take i) ++ [os[i]].filter fun m => decide (m ∈ ms) := by
        unfold insideOf
        rw [take_more hi, List.filter_append]
      refine ite2 (fun z => ?_) (fun z => ?_)
      · refine ⟨_, rfl, _, hR, ?_, same_upd sm hq, ?_⟩
        · rw [List.length_map]
          have h3 : (insideOf ms (os.take i)).length ≤ (os.take i).length := List.length_filter_le _ _
          rw [List.length_take] at h3
          exact below (m := 100000) (by omega)
        · rw [upd_same, e1, List.filter_cons_of_pos (by exact z), List.map_append]
          rfl
      · refine ⟨sm, ?_⟩
        rw [e1, List.filter_cons_of_neg (by exact z), List.filter_nil, List.append_nil]
        exact hR
    rintro H2 ⟨sm, hR⟩
    rw [List.length_map, List.take_length] at hR
    have s2 := s1.trans sm
    refine ⟨_, rfl, q, rfl, ⟨_, SqL.of hR⟩, for_list (K := K) (xs := (insideOf ms os).map vInt) (fun i σ H' => ∃ y4 y5 : Option V, σ = [some (.ref a), some (vInt n), some (.ref q), y4, y5, none] ∧ H' = H2 ∧ ∀ x ∈ (insideOf ms os).take i, pd1 (bad2 false ms) (insideOf ms os) x = none)
      ⟨none, none, rfl, rfl, fun x hx => by cases hx⟩ ?_ ?_ ?_⟩
    · rintro i σ H3 hi ⟨y4, y5, rfl, rfl, _⟩
      exact SqL.of hR
    · rintro i x σ H3 hx ⟨y4, y5, rfl, rfl, nx⟩
      obtain ⟨hi, rfl⟩ := item hx
      generalize ex : (insideOf ms os)[i] = x
      refine ⟨_, rfl, q, rfl, ⟨_, SqL.of hR⟩, for_list (K := K) (xs := (insideOf ms os).map vInt) (fun j σ H' => ∃ y5 : Option V, σ = [some (.ref a), some (vInt n), some (.ref q), some (vInt x), y5, none] ∧ H' = H3 ∧ ∀ y ∈ (insideOf ms os).take j, pd2 (bad2 false ms) x y = none)
        ⟨y5, rfl, rfl, fun x hx => by cases hx⟩ ?_ ?_ ?_⟩
      · rintro j σ H4 hj ⟨y5, rfl, rfl, _⟩
        exact SqL.of hR
      · rintro j y σ H4 hy ⟨y5, rfl, rfl, ny⟩
        obtain ⟨hj, rfl⟩ := item hy
        generalize ey : (insideOf ms os)[j] = y
        refine ⟨_, rfl, _, rfl, _, _, rfl, rfl, _, rfl, a, _, rfl, .inl (s2.seq hS), rfl, flat_all ms, bad2 false ms x y, congrArg (fun z => V.bl (!z)) (show inV (V.int (Builtin.bitAnd (x : Int) (y : Int))) (ms.map vInt) = decide (x &&& y ∈ ms) by rw [bitAnd_nat]; exact inV_nat _ _), ?_⟩
        cases hb : bad2 false ms x y with
        | true =>
          have f2 : pd2 (bad2 false ms) x y = some (x, y) := if_pos hb
          have f3 : pd1 (bad2 false ms) (insideOf ms os) x = some (x, y) := findSome_at hj ny (by rw [ey]; exact f2)
          have f4 : pairDue false ms os = some (x, y) := findSome_at hi nx (by rw [ex]; exact f3)
          refine iteT ⟨_, rfl, _, rfl, small (m := 2) (Nat.le_refl _), fun t ht => ?_⟩
          exact (k _ os ho (s2.trans (same_new ht))).2 x y t f4 (s2.free ht) upd_same
        | false =>
          refine iteF ⟨_, rfl, rfl, fun u hu => ?_⟩
          rw [take_more hj] at hu
          rcases List.mem_append.mp hu with hu | hu
          · exact ny u hu
          · rw [List.mem_singleton.mp hu, ey]
            exact pd2_none.mpr hb
      · rintro σ H4 ⟨y5, rfl, rfl, ny⟩
        rw [List.length_map, List.take_length] at ny
        refine ⟨_, _, rfl, rfl, fun u hu => ?_⟩
        rw [take_more hi] at hu
        rcases List.mem_append.mp hu with hu | hu
        · exact nx u hu
        · rw [List.mem_singleton.mp hu, ex]
          exact List.findSome?_eq_none_iff.mpr ny
    · rintro σ H3 ⟨y4, y5, rfl, rfl, nx⟩
      rw [List.length_map, List.take_length] at nx
      exact (k _ os ho s2).1 (List.findSome?_eq_none_iff.mpr nx)
theorem ok_triple_due {f : Addr} {fd : FuncData} (F : Fun K "_law_triple_due" "_law_triple_due" sTripleDue f fd) (T : Bare mg) (GO : Cal P w K mg base 3 "_law_order" ["_law_size"] spOrder) : FnOk P w K mg base CX0 4 f fd ["_law_masks", "_law_size"] (spTripleDue K) := by
  obtain ⟨go, god, oko, bo, ko, mo⟩ := GO.ex
  refine F.ok scTD (fun vs H Q E h => ?_) (fun cdv A outer s H vs Q E hr h => ?_)
  · obtain ⟨a, ms, n, rfl, _⟩ := h
    rfl
  · obtain ⟨a, ms, n, rfl, hS, h1, h2, k⟩ := h
    have h10 := pow_le10 h2
    refine ⟨_, pss_cons (ps_setLc (i := 2) (own := [("_law_mask_here", 6)]) (g := gName 6) (by rfl) scTD.nd rfl rfl (sw_true rfl rfl rfl (by decide +kernel)) (pi_list (pe_call oko hr rfl mo ko bo .nil pass0 (pa_cons (pv 1) pa_nil))) (blkOk_by (own := [("_law_mask_here", 6)]) (N := nTD) (sc := defScope sTripleDue) (by decide +kernel)) (fun _ _ _ _ _ => pg_name (i := 6) scTD.nd rfl (Or.inl rfl))
        (fun _ _ _ _ _ => pts_one (pt_cmpR (op_in_seq : OpR _ _ (rIn K false)) (pv 6) (pv 0) (by rfl))) (fun _ _ _ _ _ => pv 6))
      (pss_cons (ps_for PassesOwn.never rfl (pi_list (pv 2)) (pg_name (i := 3) scTD.nd rfl (Or.inl rfl))
        (pss_one (ps_for PassesOwn.never rfl (pi_list (pv 2)) (pg_name (i := 4) scTD.nd rfl (Or.inl rfl))
          (pss_one (ps_for PassesOwn.never rfl (pi_list (pv 2)) (pg_name (i := 5) scTD.nd rfl (Or.inl rfl))
            (pss_one (ps_if (pt_cmpR op_notIn_seq (pe_op op_or (pe_op op_or (pe_op op_and (pv 3) (pv 4)) (pe_op op_and (pv 3) (pv 5))) (pe_op op_and (pv 4) (pv 5))) (pv 0) (by rfl))
              (pss_one (ps_ret (pe_tup (pa_cons (pv 3) (pa_cons (pv 4) (pa_cons (pv 5) pa_nil)))))) pss_nil)))))))
      (pss_one (ps_ret pe_non))), ?_⟩
    refine ⟨_, rfl, n, rfl, h1, h2, fun H1 r os ho s1 hpo hO => ⟨r, rfl, ⟨_, SqL.of hO⟩, fun q hq => ?_⟩⟩
    have hlm : os.length ≤ 1024 := by rw [ho.perm.length_eq, List.length_range]; omega
    refine lc_list (K := K) (a := r) (xs := os.map vInt) (fun i H' => Same H1 H' ∧ H' q = some (.lst ((insideOf ms (os.take i)).map vInt))) ⟨same_new hq, upd_same⟩ ?_ ?_ ?_
    · rintro i H2 hi ⟨sm, _⟩
      exact SqL.of (sm _ _ hO)
    · rintro i x H2 hx ⟨sm, hR⟩
      obtain ⟨hi, rfl⟩ := item hx
      refine ⟨rfl, _, rfl, _, rfl, a, _, rfl, .inl ((s1.trans sm).seq hS), rfl, flat_all ms, _, rfl, ?_⟩
      rw [inV_nat]
      have e1 : insideOf ms (os.take (i + 1)) = insideOf ms (os.take i) ++ [os[i]].filter fun m => decide (m ∈ ms) := by
        unfold insideOf
        rw [take_more hi, List.filter_append]
      refine ite2 (fun z => ?_) (fun z => ?_)
      · refine ⟨_, rfl, _, hR, ?_, same_upd sm hq, ?_⟩
        · rw [List.length_map]
          have h3 : (insideOf ms (os.take i)).length ≤ (os.take i).length := List.length_filter_le _ _
          rw [List.length_take] at h3
          exact below (m := 100000) (by omega)
        · rw [upd_same, e1, List.filter_cons_of_pos (by exact z), List.map_append]
          rfl
      · refine ⟨sm, ?_⟩
        rw [e1, List.filter_cons_of_neg (by exact z), List.filter_nil, List.append_nil]
        exact hR
    rintro H2 ⟨sm, hR⟩
    rw [List.length_map, List.take_length] at hR
    have s2 := s1.trans sm
    refine ⟨_, rfl, q, rfl, ⟨_, SqL.of hR⟩, for_list (K := K) (xs := (insideOf ms os).map vInt) (fun i σ H' => ∃ y4 y5 y6 : Option V, σ = [some (.ref a), some (vInt n), some (.ref q), y4, y5, y6, none] ∧ H' = H2 ∧ ∀ x ∈ (insideOf ms os).take i, tri1 ms (insideOf ms os) x = none)
      ⟨none, none, none, rfl, rfl, fun x hx => by cases hx⟩ ?_ ?_ ?_⟩
    · rintro i σ H3 hi ⟨y4, y5, y6, rfl, rfl, _⟩
      exact SqL.of hR
    · rintro i x σ H3 hx ⟨y4, y5, y6, rfl, rfl, nx⟩
      obtain ⟨hi, rfl⟩ := item hx
      generalize ex : (insideOf ms os)[i] = x
      refine ⟨_, rfl, q, rfl, ⟨_, SqL.of hR⟩, for_list (K := K) (xs := (insideOf ms os).map vInt) (fun j σ H' => ∃ y5 y6 : Option V, σ = [some (.ref a), some (vInt n), some (.ref q), some (vInt x), y5, y6, none] ∧ H' = H3 ∧ ∀ y ∈ (insideOf ms os).take j, tri2 ms (insideOf ms os) x y = none)
        ⟨y5, y6, rfl, rfl, fun x hx => by cases hx⟩ ?_ ?_ ?_⟩
      · rintro j σ H4 hj ⟨y5, y6, rfl, rfl, _⟩
        exact SqL.of hR
      · rintro j y σ H4 hy ⟨y5, y6, rfl, rfl, ny⟩
        obtain ⟨hj, rfl⟩ := item hy
        generalize ey : (insideOf ms os)[j] = y
        refine ⟨_, rfl, q, rfl, ⟨_, SqL.of hR⟩, for_list (K := K) (xs := (insideOf ms os).map vInt) (fun l σ H' => ∃ y6 : Option V, σ = [some (.ref a), some (vInt n), some (.ref q), some (vInt x), some (vInt y), y6, none] ∧ H' = H4 ∧ ∀ z ∈ (insideOf ms os).take l, (!decide (maj x y z ∈ ms)) = false)
          ⟨y6, rfl, rfl, fun x hx => by cases hx⟩ ?_ ?_ ?_⟩
        · rintro l σ H5 hl ⟨y6, rfl, rfl, _⟩
          exact SqL.of hR
        · rintro l z σ H5 hz ⟨y6, rfl, rfl, nz⟩
          obtain ⟨hl, rfl⟩ := item hz
          generalize ez : (insideOf ms os)[l] = z
          have ein : inV (V.int (Builtin.bitOr (Builtin.bitOr (Builtin.bitAnd (x : Int) (y : Int)) (Builtin.bitAnd (x : Int) (z : Int))) (Builtin.bitAnd (y : Int) (z : Int)))) (ms.map vInt) = decide (maj x y z ∈ ms) := by
            rw [bitAnd_nat, bitAnd_nat, bitAnd_nat, bitOr_nat, bitOr_nat]
            exact inV_nat _ _
          refine ⟨_, rfl, _, rfl, _, _, rfl, rfl, _, rfl, _, rfl, _, _, rfl, rfl, _, _, rfl, rfl, _, rfl, _, rfl, _, _, rfl, rfl, _, _, rfl, rfl, _, rfl, a, _, rfl, .inl (s2.seq hS), rfl, flat_all ms, !decide (maj x y z ∈ ms), congrArg (fun z => V.bl (!z)) ein, ?_⟩
          cases hb : (!decide (maj x y z ∈ ms)) with
          | true =>
            have f1 : (insideOf ms os).find? (fun z => !decide (maj x y z ∈ ms)) = some z := by
              have := find_at hl nz (by rw [ez]; exact hb)
              rw [ez] at this
              exact this
            have f2 : tri2 ms (insideOf ms os) x y = some (x, y, z) := by
              unfold tri2
              rw [f1]
              rfl
            have f3 : tri1 ms (insideOf ms os) x = some (x, y, z) := findSome_at hj ny (by rw [ey]; exact f2)
            have f4 : tripleDue ms os = some (x, y, z) := findSome_at hi nx (by rw [ex]; exact f3)
            refine iteT ⟨_, rfl, _, rfl, _, rfl, small (m := 3) (Nat.le_refl _), fun t ht => ?_⟩
            exact (k _ os ho (s2.trans (same_new ht))).2 x y z t f4 (s2.free ht) upd_same
          | false =>
            refine iteF ⟨_, rfl, rfl, fun u hu => ?_⟩
            rw [take_more hl] at hu
            rcases List.mem_append.mp hu with hu | hu
            · exact nz u hu
            · rw [List.mem_singleton.mp hu, ez]
              exact hb
        · rintro σ H5 ⟨y6, rfl, rfl, nz⟩
          rw [List.length_map, List.take_length] at nz
          refine ⟨_, _, rfl, rfl, fun u hu => ?_⟩
          rw [take_more hj] at hu
          rcases List.mem_append.mp hu with hu | hu
          · exact ny u hu
          · rw [List.mem_singleton.mp hu, ey]
            unfold tri2
            rw [List.find?_eq_none.mpr fun z hz => by rw [nz z hz]; decide]
            rfl
      · rintro σ H4 ⟨y5, y6, rfl, rfl, ny⟩
        rw [List.length_map, List.take_length] at ny
        refine ⟨_, _, _, rfl, rfl, fun u hu => ?_⟩
        rw [take_more hi] at hu
        rcases List.mem_append.mp hu with hu | hu
        · exact nx u hu
        · rw [List.mem_singleton.mp hu, ex]
          exact List.findSome?_eq_none_iff.mpr ny
    · rintro σ H3 ⟨y4, y5, y6, rfl, rfl, nx⟩
      rw [List.length_map, List.take_length] at nx
      exact (k _ os ho s2).1 (List.findSome?_eq_none_iff.mpr nx)
end
end Fam

/-! closed_by. -/
namespace Fam
open PySem L2
open C8 (pss_cut tCut)
def spClosedBy (K : PySem.W.Frag) : Sp := fun vs H Q _ => ∃ (a : Addr) (ms : List Nat) (n : Nat) (wd : Int), vs = [.ref a, .int wd] ∧ SqL K H a (ms.map vInt) ∧ Masks n ms ∧ n ≤ 10 ∧
  ∀ (H' : Hp) (p : Addr) (ms' : List Nat), Masks n ms' → Same H H' → H p = none → H' p = some (.lst (ms'.map vInt)) → Q (.ref p) H'
/-- the row grows, all else stands -/
def RowAt (H0 : Hp) (p : Addr) (n : Nat) (H : Hp) : Prop := Kp p H0 H ∧ ∃ rs : List Nat, H p = some (.lst (rs.map vInt)) ∧ rs.Nodup ∧ ∀ r ∈ rs, r < 2 ^ n
theorem RowAt.add {H0 H : Hp} {p : Addr} {n m : Nat} {rs : List Nat} (k : Kp p H0 H) (nd : rs.Nodup) (hr : ∀ r ∈ rs, r < 2 ^ n) (hm : m < 2 ^ n) (hn : m ∉ rs) : RowAt H0 p n (upd H p (.lst (rs.map vInt ++ [vInt m]))) := by
  refine ⟨fun b o hb e => by rw [upd_ne hb]; exact k b o hb e, rs ++ [m], by rw [upd_same, List.map_append]; rfl, ?_, fun r h => ?_⟩
  · exact List.nodup_append.mpr ⟨nd, List.pairwise_singleton _ _, fun x hx y hy e => hn (by rw [List.mem_singleton.mp hy] at e; rw [← e]; exact hx)⟩
  · rcases List.mem_append.mp h with q | q
    · exact hr r q
    · rw [List.mem_singleton.mp q]
      exact hm
section
variable {P : Program} {w : World} {K : PySem.W.Frag} {mg : Str → Option Value} {base : Heap}
abbrev nCB : List Str := ["_law_masks", "_law_word_here", "_law_row", "_law_k", "_law_x", "_law_y", "_law_made", "_law_mask_here", "_law_z"]
theorem scCB : FnScope nCB ["_law_masks", "_law_word_here"] (defScope sClosedBy) := ⟨rfl, rfl, rfl, by decide +kernel, rfl, by decide +kernel, by decide +kernel⟩
theorem ok_closed_by {f : Addr} {fd : FuncData} (F : Fun K "_law_closed_by" "_law_closed_by" sClosedBy f fd) (T : Bare mg) : FnOk P w K mg base CX0 1 f fd ["_law_masks", "_law_word_here"] (spClosedBy K) := by
  refine F.ok scCB (fun vs H Q E h => ?_) (fun cdv A outer s H vs Q E hr h => ?_)
  · obtain ⟨a, ms, n, wd, rfl, _⟩ := h
    rfl
  · obtain ⟨a, ms, n, wd, rfl, hS, hM, h2, k⟩ := h
    have h10 := pow_le10 h2
    have hml : ms.length ≤ 1024 := Nat.le_trans (nodup_len _ ms hM.nd hM.lt) h10
    refine ⟨_, pss_cons (ps_set (i := 2) scCB.nd rfl (Or.inl rfl) (pe_callTy call_list_of (by rfl) T.list (by decide +kernel) (pa_cons (pv 0) pa_nil)))
      (pss_cons (ps_for PassesOwn.never rfl (pi_range1 rfl T.range (pa_cons pe_int pa_nil)) (pg_name (i := 3) scCB.nd rfl (Or.inl rfl))
        (pss_one (ps_for PassesOwn.never rfl (pi_list (pe_callTy call_list_of (by rfl) T.list (by decide +kernel) (pa_cons (pv 2) pa_nil))) (pg_name (i := 4) scCB.nd rfl (Or.inr rfl))
          (pss_one (ps_for PassesOwn.never rfl (pi_list (pe_callTy call_list_of (by rfl) T.list (by decide +kernel) (pa_cons (pv 2) pa_nil))) (pg_name (i := 5) scCB.nd rfl (Or.inr rfl))
            (pss_cut (ps_if (pt_cmpR op_eq (pv 1) pe_int (nomark _))
              (pss_one (ps_set (i := 6) scCB.nd rfl (Or.inl rfl) (pe_lst (pa_cons (pe_op op_and (pv 4) (pv 5)) pa_nil))))
              (pss_one (ps_setLc (i := 6) (own := [("_law_z", 8)]) (g := gName 8) (tt := tYes) (by rfl) scCB.nd rfl rfl (sw_true rfl rfl rfl (by decide +kernel)) (pi_list (pv 0)) (blkOk_by (own := [("_law_z", 8)]) (N := nCB) (sc := defScope sClosedBy) (by decide +kernel)) (fun _ _ _ _ _ => pg_name (i := 8) scCB.nd rfl (Or.inl rfl))
                (fun _ _ _ _ _ => pts_nil) (fun _ _ _ _ _ => pe_op op_or (pe_op op_or (pe_op op_and (pv 4) (pv 5)) (pe_op op_and (pv 4) (pv 8))) (pe_op op_and (pv 5) (pv 8))))))
            (pss_one (ps_for PassesOwn.never rfl (pi_list (pv 6)) (pg_name (i := 7) scCB.nd rfl (Or.inl rfl))
              (pss_one (ps_if (pt_cmpR op_notIn_seq (pv 7) (pv 2) (by rfl))
                (pss_one (ps_expr (pe_bm PySem.F.plainAttrs_list PySem.F.slot_list_append PySem.F.type_list_append mt_append (pv 2) (pa_cons (pv 7) pa_nil)))) pss_nil))))))))))
      (pss_one (ps_ret (pv 2)))), ?_⟩
    refine ⟨_, rfl, a, _, rfl, .inl hS, fun p hp => ?_⟩
    have s0 : Same H (upd H p (.lst (ms.map vInt))) := same_new hp
    have r0 : RowAt H p n (upd H p (.lst (ms.map vInt))) := ⟨Kp.of fun b hb => upd_ne hb, ms, upd_same, hM.nd, hM.lt⟩
    have kpS : ∀ {H' : Hp}, Kp p H H' → Same H H' := fun kp b o e => kp b o (ne_of_none e hp) e
    refine ⟨_, rfl, by decide, by decide, for_range (lo := 0) (n := 3) (fun i σ H' => (∃ y3 y4 y5 y6 y7, σ = [some (.ref a), some (.int wd), some (.ref p), y3, y4, y5, y6, y7, none]) ∧ RowAt H p n H') ⟨⟨none, none, none, none, none, rfl⟩, r0⟩ ?_ ?_⟩
    · rintro i σ H1 hi ⟨⟨y3, y4, y5, y6, y7, rfl⟩, kp1, rs1, hR1, nd1, hr1⟩
      refine ⟨_, rfl, p, _, rfl, .inl (SqL.of hR1), fun c hc => ⟨c, rfl, ⟨_, SqL.of upd_same⟩, ?_⟩⟩
      have hcp : c ≠ p := (ne_of_none hR1 hc).symm
      refine for_list (K := K) (xs := rs1.map vInt) (fun j σ H' => (∃ y3 y4 y5 y6 y7, σ = [some (.ref a), some (.int wd), some (.ref p), y3, y4, y5, y6, y7, none]) ∧ RowAt H p n H' ∧ H' c = some (.lst (rs1.map vInt))) ⟨⟨_, _, _, _, _, rfl⟩, ⟨fun b o hb e => ?_, rs1, ?_, nd1, hr1⟩, upd_same⟩ (fun j σ H' _ h => SqL.of h.2.2) ?_ ?_
      · rw [upd_ne (ne_of_none (kp1 b o hb e) hc)]
        exact kp1 b o hb e
      · rw [upd_ne hcp.symm]
        exact hR1
      · rintro j v σ H2 hv ⟨⟨y3, y4, y5, y6, y7, rfl⟩, ⟨kp2, rs2, hR2, nd2, hr2⟩, hC⟩
        obtain ⟨hj, rfl⟩ := item hv
        have hx := hr1 _ (List.getElem_mem hj)
        generalize rs1[j] = x at hx
        refine ⟨_, rfl, p, _, rfl, .inl (SqL.of hR2), fun e he => ⟨e, rfl, ⟨_, SqL.of upd_same⟩, ?_⟩⟩
        have hep : e ≠ p := (ne_of_none hR2 he).symm
        have hec : c ≠ e := ne_of_none hC he
        refine for_list (K := K) (xs := rs2.map vInt) (fun j σ H' => (∃ y3 y5 y6 y7, σ = [some (.ref a), some (.int wd), some (.ref p), y3, some (vInt x), y5, y6, y7, none]) ∧ RowAt H p n H' ∧ H' c = some (.lst (rs1.map vInt)) ∧ H' e = some (.lst (rs2.map vInt))) ⟨⟨_, _, _, _, rfl⟩, ⟨fun b o hb q => ?_, rs2, ?_, nd2, hr2⟩, ?_, upd_same⟩ (fun j σ H' _ h => SqL.of h.2.2.2) ?_ ?_
        · rw [upd_ne (ne_of_none (kp2 b o hb q) he)]
          exact kp2 b o hb q
        · rw [upd_ne hep.symm]
          exact hR2
        · rw [upd_ne hec]
          exact hC
        · rintro l v σ H3 hv ⟨⟨y3, y5, y6, y7, rfl⟩, ⟨kp, rs, hR, nd, hr⟩, hC, hE⟩
          obtain ⟨hl, rfl⟩ := item hv
          have hy := hr2 _ (List.getElem_mem hl)
          generalize rs2[l] = y at hy
          refine ⟨fun σ' H' => ∃ (D : Addr) (vs : List Nat), σ' = [some (.ref a), some (.int wd), some (.ref p), y3, some (vInt x), some (vInt y), some (.ref D), y7, none] ∧ RowAt H p n H' ∧ H' c = some (.lst (rs1.map vInt)) ∧ H' e = some (.lst (rs2.map vInt)) ∧ H' D = some (.lst (vs.map vInt)) ∧ (∀ v ∈ vs, v < 2 ^ n) ∧ D ≠ p, ?_, ?_⟩
          · refine ⟨_, rfl, rfl, _, rfl, ite2 (fun z => ?_) (fun z => ?_)⟩
            · refine ⟨_, rfl, _, rfl, _, _, rfl, rfl, small (m := 1) (Nat.le_refl _), fun D hD => ?_⟩
              have sD := same_new (o := .lst [V.int (Builtin.bitAnd (x : Int) (y : Int))]) hD
              refine ⟨D, [x &&& y], rfl, ⟨fun b o hb q => sD _ _ (kp b o hb q), rs, sD _ _ hR, nd, hr⟩, sD _ _ hC, sD _ _ hE, ?_, ?_, (ne_of_none hR hD).symm⟩
              · show (upd H3 D (.lst [V.int (Builtin.bitAnd (x : Int) (y : Int))])) D = some (.lst [vInt (x &&& y)])
                rw [bitAnd_nat]
                exact upd_same
              · intro v hv
                rw [List.mem_singleton.mp hv]
                exact Nat.and_lt_two_pow x hy
            · refine ⟨_, rfl, a, rfl, ⟨_, (kpS kp).seq hS⟩, fun D hD => ?_⟩
              have hDp : D ≠ p := (ne_of_none hR hD).symm
              refine lc_list (K := K) (a := a) (xs := ms.map vInt) (fun i H' => Same H3 H' ∧ ∃ vs : List Nat, H' D = some (.lst (vs.map vInt)) ∧ (∀ v ∈ vs, v < 2 ^ n) ∧ vs.length = i) ⟨same_new hD, [], upd_same, (fun v hv => by cases hv), rfl⟩ (fun i H' _ h => ((kpS kp).trans h.1).seq hS) ?_ ?_
              · rintro i v H4 hv ⟨sm, vs, hV, hlt, hvl⟩
                obtain ⟨hi2, rfl⟩ := item hv
                have hz := hM.lt _ (List.getElem_mem hi2)
                refine ⟨rfl, _, rfl, _, rfl, _, _, rfl, rfl, _, rfl, _, rfl, _, _, rfl, rfl, _, _, rfl, rfl, _, rfl, _, rfl, _, _, rfl, rfl, _, _, rfl, rfl, _, hV, ?_, same_upd sm hD, vs ++ [maj x y ms[i]], ?_, ?_, ?_⟩
                · rw [List.length_map]
                  exact below (m := 100000) (by omega)
                · have ev : V.int (Builtin.bitOr (Builtin.bitOr (Builtin.bitAnd (x : Int) (y : Int)) (Builtin.bitAnd (x : Int) ((ms[i] : Nat) : Int))) (Builtin.bitAnd (y : Int) ((ms[i] : Nat) : Int))) = vInt (maj x y ms[i]) := by
                    rw [bitAnd_nat, bitAnd_nat, bitAnd_nat, bitOr_nat, bitOr_nat]
                    rfl
                  rw [upd_same, List.map_append]
                  exact congrArg (fun z => some (HO.lst (vs.map vInt ++ [z]))) ev
                · intro v hv
                  rcases List.mem_append.mp hv with q | q
                  · exact hlt v q
                  · rw [List.mem_singleton.mp q]
                    exact maj_lt hx hy hz
                · rw [List.length_append, hvl]
                  rfl
              · rintro H4 ⟨sm, vs, hV, hlt, _⟩
                exact ⟨D, vs, rfl, ⟨fun b o hb q => sm _ _ (kp b o hb q), rs, sm _ _ hR, nd, hr⟩, sm _ _ hC, sm _ _ hE, hV, hlt, hDp⟩
          · rintro _ H4 ⟨D, vs, rfl, hRow, hC, hE, hV, hlt, hDp⟩
            refine ⟨_, rfl, D, rfl, ⟨_, SqL.of hV⟩, for_list (K := K) (xs := vs.map vInt) (fun j σ H' => (∃ y7, σ = [some (.ref a), some (.int wd), some (.ref p), y3, some (vInt x), some (vInt y), some (.ref D), y7, none]) ∧ RowAt H p n H' ∧ H' c = some (.lst (rs1.map vInt)) ∧ H' e = some (.lst (rs2.map vInt)) ∧ H' D = some (.lst (vs.map vInt))) ⟨⟨_, rfl⟩, hRow, hC, hE, hV⟩ (fun j σ H' _ h => SqL.of h.2.2.2.2) ?_ ?_⟩
            · rintro j v σ H5 hv ⟨⟨y7, rfl⟩, ⟨kp, rs, hR, nd, hr⟩, hC, hE, hV⟩
              obtain ⟨hj3, rfl⟩ := item hv
              have hv2 := hlt _ (List.getElem_mem hj3)
              generalize vs[j] = u at hv2
              refine ⟨_, rfl, _, rfl, p, _, rfl, .inl (SqL.of hR), rfl, flat_all rs, !decide (u ∈ rs), congrArg (fun z => V.bl (!z)) (inV_nat _ _), ?_⟩
              refine ite2 (fun z => ?_) (fun z => ⟨⟨_, rfl⟩, ⟨kp, rs, hR, nd, hr⟩, hC, hE, hV⟩)
              have z1 : ¬ u ∈ rs := by
                intro q
                rw [decide_eq_true q] at z
                cases z
              refine ⟨_, rfl, .inl ⟨rfl, _, SqL.of hR⟩, _, rfl, p, _, _, rfl, rfl, hR, ?_, ⟨_, rfl⟩, RowAt.add kp nd hr hv2 z1, (by rw [upd_ne hcp]; exact hC), (by rw [upd_ne hep]; exact hE), (by rw [upd_ne hDp]; exact hV)⟩
              rw [List.length_map]
              exact below (m := 100000) (by have := nodup_len _ rs nd hr; omega)
            · rintro σ H5 ⟨⟨y7, rfl⟩, hRow, hC, hE, _⟩
              exact ⟨⟨_, _, _, _, rfl⟩, hRow, hC, hE⟩
        · rintro σ H3 ⟨⟨y3, y5, y6, y7, rfl⟩, hR, hC, _⟩
          exact ⟨⟨_, _, _, _, _, rfl⟩, hR, hC⟩
      · rintro σ H2 ⟨⟨y3, y4, y5, y6, y7, rfl⟩, hR, _⟩
        exact ⟨⟨_, _, _, _, _, rfl⟩, hR⟩
    · rintro σ H1 ⟨⟨y3, y4, y5, y6, y7, rfl⟩, kp, rs, hR, nd, hr⟩
      exact ⟨_, rfl, k H1 p rs ⟨hr, nd⟩ (kpS kp) hp hR⟩
end
end Fam

/-! held_so, looks of the law. -/
namespace Fam
open PySem L2
open C8 (pss_cut tCut)
def spHeldSo (K : PySem.W.Frag) : Sp := fun vs H Q _ => ∃ (a : Addr) (ms : List Nat) (m n : Nat), vs = [.ref a, vInt m, vInt n] ∧ SqL K H a (ms.map vInt) ∧ ms.length ≤ 1024 ∧ n ≤ 10 ∧ ∀ (H' : Hp) (b : Bool), Same H H' → (b = true ↔ HeldSo n ms m) → Q (.bl b) H'
def spLooks (K : PySem.W.Frag) : Sp := fun vs H Q _ => ∃ (a : Addr) (ms : List Nat) (m n : Nat), vs = [.ref a, vInt m, vInt n] ∧ SqL K H a (ms.map vInt) ∧ ms.length ≤ 1024 ∧ 1 ≤ n ∧ n ≤ 10 ∧ ∀ (H' : Hp) (b : Bool), Same H H' → (b = true ↔ LooksAs n ms m) → Q (.bl b) H'
theorem filt_none {p : Nat → Bool} {ms : List Nat} : decide (V.int (((ms.filter p).map vInt).length : Int) = V.int 0) = !ms.any p := by
  rw [List.length_map, Bool.eq_iff_iff, decide_eq_true_eq, Bool.not_eq_true']
  constructor
  · intro h
    have z : (ms.filter p).length = 0 := by have := V.int.inj h; omega
    have e := List.length_eq_zero_iff.mp z
    refine List.any_eq_false.mpr fun x hx q => ?_
    have : x ∈ ms.filter p := List.mem_filter.mpr ⟨hx, q⟩
    rw [e] at this
    cases this
  · intro h
    have e : ms.filter p = [] := List.filter_eq_nil_iff.mpr fun x hx => List.any_eq_false.mp h x hx
    rw [e]
    rfl
theorem bit_zero (m i : Nat) : decide (V.int (Builtin.bitAnd (m : Int) ((2 ^ i : Nat) : Int)) = V.int 0) = !m.testBit i := by
  rw [bitAnd_nat, Bool.eq_iff_iff, decide_eq_true_eq, Bool.not_eq_true']
  have q := and_pow m i
  constructor
  · intro h
    have z : m &&& 2 ^ i = 0 := by have := V.int.inj h; omega
    cases e : m.testBit i with
    | false => rfl
    | true =>
      have := q.mpr e
      omega
  · intro h
    have : ¬ 0 < m &&& 2 ^ i := fun z => by rw [q.mp z] at h; cases h
    have z : m &&& 2 ^ i = 0 := by omega
    rw [z]
    rfl
theorem and_eq_dec (w m : Nat) : decide (V.int (Builtin.bitAnd (w : Int) (m : Int)) = vInt m) = decide (w &&& m = m) := by
  rw [bitAnd_nat]
  exact decide_eq_decide.mpr ⟨fun z => Int.ofNat.inj (V.int.inj z), fun z => by rw [z]⟩
theorem and_in' {w m : Nat} : w &&& m = m ↔ In m w := by
  rw [Nat.and_comm]
  exact and_in
section
variable {P : Program} {w : World} {K : PySem.W.Frag} {mg : Str → Option Value} {base : Heap}
abbrev nHS : List Str := ["_law_masks", "_law_mask_here", "_law_size", "_law_place", "_law_bit", "_law_wide"]
theorem scHS : FnScope nHS ["_law_masks", "_law_mask_here", "_law_size"] (defScope sHeldSo) := ⟨rfl, rfl, rfl, by decide +kernel, rfl, by decide +kernel, by decide +kernel⟩
theorem ok_held_so {f : Addr} {fd : FuncData} (F : Fun K "_law_held_so" "_law_held_so" sHeldSo f fd) (T : Bare mg) (GF : Cal P w K mg base 1 "_law_full" ["_law_size"] spFull) : FnOk P w K mg base CX0 2 f fd ["_law_masks", "_law_mask_here", "_law_size"] (spHeldSo K) := by
  obtain ⟨gf, gfd, okf, bf, kf, mf⟩ := GF.ex
  refine F.ok scHS (fun vs H Q E h => ?_) (fun cdv A outer s H vs Q E hr h => ?_)
  · obtain ⟨a, ms, m, n, rfl, _⟩ := h
    rfl
  · obtain ⟨a, ms, m, n, rfl, hS, hl, hn, k⟩ := h
    refine ⟨_, pss_cut (ps_if (pt_cmpR op_eq (pe_callB call_len_seq (by rfl) T.len PySem.boot_len (pa_cons (pe_lc (own := [("_law_wide", 5)]) (g := gName 5) rfl scHS.nd (pi_list (pv 0)) (blkOk_by (own := [("_law_wide", 5)]) (N := nHS) (sc := defScope sHeldSo) (by decide +kernel)) (fun _ _ _ _ _ => pg_name (i := 5) scHS.nd rfl (Or.inl rfl))
          (fun _ _ _ _ _ => pts_one (pt_cmpR op_eq (pe_op op_and (pv 5) (pv 1)) (pv 1) (nomark _))) (fun _ _ _ _ _ => pv 5)) pa_nil)) pe_int (nomark _)) (pss_one (ps_ret pe_bl)) pss_nil)
      (pss_cons (ps_for PassesOwn.never rfl (pi_range1 rfl T.range (pa_cons (pv 2) pa_nil)) (pg_name (i := 3) scHS.nd rfl (Or.inl rfl))
        (pss_cons (ps_set (i := 4) scHS.nd rfl (Or.inr rfl) (pe_call okf hr rfl mf kf bf .nil pass0 (pa_cons (pv 3) pa_nil)))
        (pss_one (ps_if (pt_cmpR op_eq (pe_op op_and (pv 1) (pv 4)) pe_int (nomark _))
          (pss_one (ps_if (pt_cmpR op_eq (pe_callB call_len_seq (by rfl) T.len PySem.boot_len (pa_cons (pe_lc (own := [("_law_wide", 5)]) (g := gName 5) rfl scHS.nd (pi_list (pv 0)) (blkOk_by (own := [("_law_wide", 5)]) (N := nHS) (sc := defScope sHeldSo) (by decide +kernel)) (fun _ _ _ _ _ => pg_name (i := 5) scHS.nd rfl (Or.inl rfl))
            (fun _ _ _ _ _ => pts_one (PW.pt (pw_and (pt_cmpR op_eq (pe_op op_and (pv 5) (pv 1)) (pv 1) (nomark _)) (pw_and1 (pt_cmpR op_eq (pe_op op_and (pv 5) (pv 4)) pe_int (nomark _)))))) (fun _ _ _ _ _ => pv 5)) pa_nil)) pe_int (nomark _)) (pss_one (ps_ret pe_bl)) pss_nil)) pss_nil))))
      (pss_one (ps_ret pe_bl))), ?_⟩
    -- one walk over the masks
    refine ⟨fun σ' H' => σ' = [some (.ref a), some (vInt m), some (vInt n), none, none, none] ∧ Same H H' ∧ ∃ w ∈ ms, In m w, ?_, ?_⟩
    · refine ⟨_, rfl, a, rfl, ⟨_, hS⟩, fun D hD => ?_⟩
      refine lc_list (K := K) (a := a) (xs := ms.map vInt) (fun i H' => Same H H' ∧ H' D = some (.lst (((ms.take i).filter fun w => decide (w &&& m = m)).map vInt))) ⟨same_new hD, upd_same⟩ (fun i H' _ h => h.1.seq hS) ?_ ?_
      · rintro i x H1 hx ⟨sm, hT⟩
        obtain ⟨hi, rfl⟩ := item hx
        refine ⟨rfl, _, rfl, _, rfl, _, _, rfl, rfl, _, rfl, rfl, ?_⟩
        rw [and_eq_dec]
        refine ⟨_, rfl, ite2 (fun z => ?_) (fun z => ?_)⟩
        · refine ⟨_, rfl, _, hT, ?_, same_upd sm hD, ?_⟩
          · rw [List.length_map]
            have h3 := List.length_filter_le (fun w => decide (w &&& m = m)) (ms.take i)
            rw [List.length_take] at h3
            exact below (m := 100000) (by omega)
          · rw [upd_same, take_more hi, List.filter_append, List.filter_cons_of_pos (by exact z), List.map_append]
            rfl
        · refine ⟨sm, ?_⟩
          rw [take_more hi, List.filter_append, List.filter_cons_of_neg (by exact z), List.filter_nil, List.append_nil]
          exact hT
      · rintro H1 ⟨sm, hT⟩
        rw [List.length_map, List.take_length] at hT
        refine ⟨D, _, rfl, .inl (SqL.of hT), rfl, _, rfl, ?_⟩
        rw [filt_none]
        cases e : ms.any fun w => decide (w &&& m = m) with
        | true =>
          obtain ⟨w, hw, q⟩ := List.any_eq_true.mp e
          exact iteF ⟨rfl, sm, w, hw, and_in'.mp (of_decide_eq_true q)⟩
        | false =>
          refine iteT (k _ false sm ⟨fun z => (by cases z), fun ⟨⟨w, hw, q⟩, _⟩ => ?_⟩)
          exact absurd (decide_eq_true (and_in'.mpr q)) (List.any_eq_false.mp e w hw)
    rintro _ H2 ⟨rfl, s2, h0⟩
    refine ⟨_, rfl, _, rfl, by omega, by omega, for_range (lo := 0) (n := n) (fun i σ H' => (∃ y3 y4, σ = [some (.ref a), some (vInt m), some (vInt n), y3, y4, none]) ∧ Same H H' ∧ ∀ j, j < i → m.testBit j = false → ∃ w ∈ ms, In m w ∧ w.testBit j = false) ⟨⟨none, none, rfl⟩, s2, fun j hj => by omega⟩ ?_ ?_⟩
    · rintro i σ H3 hi ⟨⟨y3, y4, rfl⟩, s3, hh⟩
      refine ⟨_, rfl, i, by rw [Int.zero_add]; rfl, by omega, ?_⟩
      refine ⟨_, rfl, _, rfl, _, _, rfl, rfl, rfl, ?_⟩
      rw [bit_zero]
      cases e : m.testBit i with
      | true =>
        refine ⟨_, rfl, iteF ⟨⟨_, _, rfl⟩, s3, fun j hj hz => ?_⟩⟩
        by_cases ij : j = i
        · rw [ij, e] at hz
          cases hz
        · exact hh j (by omega) hz
      | false =>
        refine ⟨_, rfl, iteT ?_⟩
        refine ⟨_, rfl, a, rfl, ⟨_, s3.seq hS⟩, fun D hD => ?_⟩
        refine lc_list (K := K) (a := a) (xs := ms.map vInt) (fun l H' => Same H3 H' ∧ H' D = some (.lst (((ms.take l).filter fun w => decide (w &&& m = m) && !w.testBit i).map vInt))) ⟨same_new hD, upd_same⟩ (fun l H' _ h => (s3.trans h.1).seq hS) ?_ ?_
        · rintro l x H4 hx ⟨sm, hT⟩
          obtain ⟨hl2, rfl⟩ := item hx
          have fin : (decide (ms[l] &&& m = m) && !ms[l].testBit i) = false → Same H3 H4 ∧ H4 D = some (.lst (((ms.take (l + 1)).filter fun w => decide (w &&& m = m) && !w.testBit i).map vInt)) := fun z => by
            refine ⟨sm, ?_⟩
            rw [take_more hl2, List.filter_append, List.filter_cons_of_neg (by rw [z]; decide), List.filter_nil, List.append_nil]
            exact hT
          refine ⟨rfl, _, rfl, _, rfl, _, _, rfl, rfl, _, rfl, rfl, ?_⟩
          rw [and_eq_dec]
          refine ⟨_, rfl, ite2 (fun z => ?_) (fun z => fin (by rw [Bool.eq_false_iff.mpr z]; rfl))⟩
          refine ⟨_, rfl, _, rfl, _, _, rfl, rfl, rfl, ?_⟩
          rw [bit_zero]
          refine ⟨_, rfl, ite2 (fun z2 => ?_) (fun z2 => fin (by rw [Bool.eq_false_iff.mpr z2, Bool.and_false]))⟩
          refine ⟨_, rfl, _, hT, ?_, same_upd sm hD, ?_⟩
          · rw [List.length_map]
            have h3 := List.length_filter_le (fun w => decide (w &&& m = m) && !w.testBit i) (ms.take l)
            rw [List.length_take] at h3
            exact below (m := 100000) (by omega)
          · rw [upd_same, take_more hl2, List.filter_append, List.filter_cons_of_pos (by rw [z, z2]; rfl), List.map_append]
            rfl
        · rintro H4 ⟨sm, hT⟩
          rw [List.length_map, List.take_length] at hT
          refine ⟨D, _, rfl, .inl (SqL.of hT), rfl, _, rfl, ?_⟩
          rw [filt_none]
          cases e2 : ms.any fun w => decide (w &&& m = m) && !w.testBit i with
          | true =>
            obtain ⟨w, hw, q⟩ := List.any_eq_true.mp e2
            rw [Bool.and_eq_true, Bool.not_eq_true'] at q
            refine iteF ⟨⟨_, _, rfl⟩, s3.trans sm, fun j hj hz => ?_⟩
            by_cases ij : j = i
            · rw [ij]
              exact ⟨w, hw, and_in'.mp (of_decide_eq_true q.1), q.2⟩
            · exact hh j (by omega) hz
          | false =>
            refine iteT (k _ false (s3.trans sm) ⟨fun z => (by cases z), fun ⟨_, q⟩ => ?_⟩)
            obtain ⟨w, hw, q1, q2⟩ := q i hi e
            have := List.any_eq_false.mp e2 w hw
            rw [decide_eq_true (and_in'.mpr q1), q2] at this
            exact absurd rfl this
    · rintro σ H3 ⟨⟨y3, y4, rfl⟩, s3, hh⟩
      exact k _ true s3 ⟨fun _ => ⟨h0, hh⟩, fun _ => rfl⟩
end
end Fam

/-! looks of the law. -/
namespace Fam
open PySem L2
open C8 (pss_cut tCut)
theorem two_bits (w m x y : Nat) : (w &&& (2 ^ x ||| 2 ^ y) = m &&& (2 ^ x ||| 2 ^ y)) ↔ w.testBit x = m.testBit x ∧ w.testBit y = m.testBit y := by
  constructor
  · intro h
    have g : ∀ i, (w &&& (2 ^ x ||| 2 ^ y)).testBit i = (m &&& (2 ^ x ||| 2 ^ y)).testBit i := fun i => by rw [h]
    have gx := g x
    have gy := g y
    rw [Nat.testBit_and, Nat.testBit_and, Nat.testBit_or, Nat.testBit_two_pow_self, Bool.true_or, Bool.and_true, Bool.and_true] at gx
    rw [Nat.testBit_and, Nat.testBit_and, Nat.testBit_or, Nat.testBit_two_pow_self, Bool.or_true, Bool.and_true, Bool.and_true] at gy
    exact ⟨gx, gy⟩
  · intro ⟨h1, h2⟩
    refine Nat.eq_of_testBit_eq fun i => ?_
    rw [Nat.testBit_and, Nat.testBit_and, Nat.testBit_or, Nat.testBit_two_pow, Nat.testBit_two_pow]
    by_cases ex : x = i
    · rw [← ex, h1]
    · by_cases ey : y = i
      · rw [← ey, h2]
      · rw [decide_eq_false ex, decide_eq_false ey, Bool.or_false, Bool.and_false, Bool.and_false]
theorem two_dec (w m x y : Nat) : decide (V.int (Builtin.bitAnd (w : Int) ((2 ^ x ||| 2 ^ y : Nat) : Int)) = V.int (Builtin.bitAnd (m : Int) ((2 ^ x ||| 2 ^ y : Nat) : Int))) = (decide (w.testBit x = m.testBit x) && decide (w.testBit y = m.testBit y)) := by
  rw [bitAnd_nat, bitAnd_nat, Bool.eq_iff_iff, decide_eq_true_eq, Bool.and_eq_true, decide_eq_true_eq, decide_eq_true_eq]
  exact ⟨fun z => (two_bits w m x y).mp (Int.ofNat.inj (V.int.inj z)), fun z => by rw [(two_bits w m x y).mpr z]⟩
/-- the pairs that are looked at are enough -/
theorem looks_all {n : Nat} {ms : List Nat} {m : Nat} (h : ∀ i, i < n → ∀ j, j < n → i ≤ j → (n = 1 ∨ i ≠ j) → ∃ w ∈ ms, w.testBit i = m.testBit i ∧ w.testBit j = m.testBit j) : LooksAs n ms m := fun i hi j hj => by
  rcases Nat.lt_trichotomy i j with q | q | q
  · exact h i hi j hj (by omega) (.inr (by omega))
  · subst q
    by_cases n1 : n = 1
    · exact h i hi i hi (Nat.le_refl _) (.inl n1)
    · by_cases i0 : i = 0
      · obtain ⟨w, hw, e1, e2⟩ := h 0 (by omega) 1 (by omega) (by omega) (.inr (by omega))
        rw [i0]
        exact ⟨w, hw, e1, e1⟩
      · obtain ⟨w, hw, e1, e2⟩ := h 0 (by omega) i hi (by omega) (.inr (by omega))
        exact ⟨w, hw, e2, e2⟩
  · obtain ⟨w, hw, e1, e2⟩ := h j hj i hi (by omega) (.inr (by omega))
    exact ⟨w, hw, e2, e1⟩
section
variable {P : Program} {w : World} {K : PySem.W.Frag} {mg : Str → Option Value} {base : Heap}
abbrev nLL : List Str := ["_law_masks", "_law_mask_here", "_law_size", "_law_x", "_law_y", "_law_two", "_law_known"]
theorem scLL : FnScope nLL ["_law_masks", "_law_mask_here", "_law_size"] (defScope sLooks) := ⟨rfl, rfl, rfl, by decide +kernel, rfl, by decide +kernel, by decide +kernel⟩
theorem ok_law_looks {f : Addr} {fd : FuncData} (F : Fun K "_law_looks" "_law_looks" sLooks f fd) (T : Bare mg) (GF : Cal P w K mg base 1 "_law_full" ["_law_size"] spFull) : FnOk P w K mg base CX0 2 f fd ["_law_masks", "_law_mask_here", "_law_size"] (spLooks K) := by
  obtain ⟨gf, gfd, okf, bf, kf, mf⟩ := GF.ex
  refine F.ok scLL (fun vs H Q E h => ?_) (fun cdv A outer s H vs Q E hr h => ?_)
  · obtain ⟨a, ms, m, n, rfl, _⟩ := h
    rfl
  · obtain ⟨a, ms, m, n, rfl, hS, hl, h1, hn, k⟩ := h
    refine ⟨_, pss_cons (ps_for PassesOwn.never rfl (pi_range1 rfl T.range (pa_cons (pv 2) pa_nil)) (pg_name (i := 3) scLL.nd rfl (Or.inl rfl))
        (pss_one (ps_for PassesOwn.never rfl (pi_range2 rfl T.range (pa_cons (pv 3) (pa_cons (pv 2) pa_nil))) (pg_name (i := 4) scLL.nd rfl (Or.inl rfl))
          (pss_cut (ps_set (i := 5) scLL.nd rfl (Or.inr rfl) (pe_op op_or (pe_call okf hr rfl mf kf bf .nil pass0 (pa_cons (pv 3) pa_nil)) (pe_call okf hr rfl mf kf bf .nil pass0 (pa_cons (pv 4) pa_nil))))
          (pss_one (ps_if (PW.pt (pw_and (PW.pt (pw_or (pt_cmpR op_eq (pv 2) pe_int (nomark _)) (pw_or1 (pt_cmpR op_ne (pv 3) (pv 4) (nomark _)))))
            (pw_and1 (pt_cmpR op_eq (pe_callB call_len_seq (by rfl) T.len PySem.boot_len (pa_cons (pe_lc (own := [("_law_known", 6)]) (g := gName 6) rfl scLL.nd (pi_list (pv 0)) (blkOk_by (own := [("_law_known", 6)]) (N := nLL) (sc := defScope sLooks) (by decide +kernel)) (fun _ _ _ _ _ => pg_name (i := 6) scLL.nd rfl (Or.inl rfl))
              (fun _ _ _ _ _ => pts_one (pt_cmpR op_eq (pe_op op_and (pv 6) (pv 5)) (pe_op op_and (pv 1) (pv 5)) (nomark _))) (fun _ _ _ _ _ => pv 6)) pa_nil)) pe_int (nomark _))))) (pss_one (ps_ret pe_bl)) pss_nil))))))
      (pss_one (ps_ret pe_bl)), ?_⟩
    refine ⟨_, rfl, _, rfl, by omega, by omega, for_range (lo := 0) (n := n) (fun i σ H' => (∃ y3 y4 y5, σ = [some (.ref a), some (vInt m), some (vInt n), y3, y4, y5, none]) ∧ Same H H' ∧ ∀ x, x < i → ∀ y, y < n → x ≤ y → (n = 1 ∨ x ≠ y) → ∃ w ∈ ms, w.testBit x = m.testBit x ∧ w.testBit y = m.testBit y) ⟨⟨none, none, none, rfl⟩, Same.refl _, fun x hx => by omega⟩ ?_ ?_⟩
    · rintro i σ H1 hi ⟨⟨y3, y4, y5, rfl⟩, s1, hh⟩
      have ei : (0 : Int) + (i : Int) = (i : Int) := Int.zero_add _
      refine ⟨_, rfl, _, rfl, _, _, rfl, ⟨by omega, by omega, by omega, by omega⟩, for_range (lo := 0 + (i : Int)) (n := ((n : Int) - (0 + (i : Int))).toNat) (fun l σ H' => (∃ y4 y5, σ = [some (.ref a), some (vInt m), some (vInt n), some (.int (0 + (i : Int))), y4, y5, none]) ∧ Same H H' ∧ ∀ y, y < n → i ≤ y → y < i + l → (n = 1 ∨ i ≠ y) → ∃ w ∈ ms, w.testBit i = m.testBit i ∧ w.testBit y = m.testBit y) ⟨⟨_, _, rfl⟩, s1, fun y _ h3 h4 => by omega⟩ ?_ ?_⟩
      · rintro l σ H2 hl2 ⟨⟨y4, y5, rfl⟩, s2, hi2⟩
        have hY : i + l < n := by omega
        have eY : (0 : Int) + (i : Int) + (l : Int) = ((i + l : Nat) : Int) := by omega
        refine ⟨fun σ' H' => σ' = [some (.ref a), some (vInt m), some (vInt n), some (vInt i), some (vInt (i + l)), some (vInt (2 ^ i ||| 2 ^ (i + l))), none] ∧ H' = H2, ?_, ?_⟩
        · refine ⟨_, rfl, i, by rw [ei]; rfl, by omega, _, rfl, i + l, by rw [eY]; rfl, by omega, _, _, rfl, rfl, ?_, rfl⟩
          show [some (V.ref a), some (vInt m), some (vInt n), some (V.int (0 + (i : Int))), some (V.int (0 + (i : Int) + (l : Int))), some (V.int (Builtin.bitOr ((2 ^ i : Nat) : Int) ((2 ^ (i + l) : Nat) : Int))), none] = _
          rw [bitOr_nat, eY, ei]
        rintro _ H3 ⟨rfl, e3⟩
        subst e3
        have next : (∀ y, y = i + l → (n = 1 ∨ i ≠ y) → ∃ w ∈ ms, w.testBit i = m.testBit i ∧ w.testBit y = m.testBit y) → ∀ {H' : Hp}, Same H H' → (∃ y4 y5, [some (V.ref a), some (vInt m), some (vInt n), some (vInt i), some (vInt (i + l)), some (vInt (2 ^ i ||| 2 ^ (i + l))), none] = [some (.ref a), some (vInt m), some (vInt n), some (.int (0 + (i : Int))), y4, y5, none]) ∧ Same H H' ∧ ∀ y, y < n → i ≤ y → y < i + (l + 1) → (n = 1 ∨ i ≠ y) → ∃ w ∈ ms, w.testBit i = m.testBit i ∧ w.testBit y = m.testBit y := fun q H' s' => by
          refine ⟨⟨_, _, by rw [ei]⟩, s', fun y a1 a2 a3 a4 => ?_⟩
          by_cases e : y = i + l
          · exact q y e a4
          · exact hi2 y a1 a2 (by omega) a4
        refine ⟨_, rfl, rfl, _, rfl, ?_⟩
        by_cases n1 : n = 1
        · have en : decide (vInt n = V.int 1) = true := decide_eq_true (by rw [n1]; rfl)
          rw [en]
          refine iteT (iteT ?_)
          refine ⟨_, rfl, a, rfl, ⟨_, s2.seq hS⟩, fun D hD => ?_⟩
          refine lc_list (K := K) (a := a) (xs := ms.map vInt) (fun l2 H' => Same H3 H' ∧ H' D = some (.lst (((ms.take l2).filter fun w => decide (w.testBit i = m.testBit i) && decide (w.testBit (i + l) = m.testBit (i + l))).map vInt))) ⟨same_new hD, upd_same⟩ (fun l2 H' _ h => (s2.trans h.1).seq hS) ?_ ?_
          · rintro l2 x H4 hx ⟨sm, hT⟩
            obtain ⟨hl3, rfl⟩ := item hx
            refine ⟨rfl, _, rfl, _, rfl, _, _, rfl, rfl, _, rfl, _, rfl, _, _, rfl, rfl, rfl, ?_⟩
            rw [two_dec]
            refine ⟨_, rfl, ite2 (fun z => ?_) (fun z => ?_)⟩
            · refine ⟨_, rfl, _, hT, ?_, same_upd sm hD, ?_⟩
              · rw [List.length_map]
                have h3 := List.length_filter_le (fun w => decide (w.testBit i = m.testBit i) && decide (w.testBit (i + l) = m.testBit (i + l))) (ms.take l2)
                rw [List.length_take] at h3
                exact below (m := 100000) (by omega)
              · rw [upd_same, take_more hl3, List.filter_append, List.filter_cons_of_pos (by exact z), List.map_append]
                rfl
            · refine ⟨sm, ?_⟩
              rw [take_more hl3, List.filter_append, List.filter_cons_of_neg (by exact z), List.filter_nil, List.append_nil]
              exact hT
          · rintro H4 ⟨sm, hT⟩
            rw [List.length_map, List.take_length] at hT
            refine ⟨D, _, rfl, .inl (SqL.of hT), rfl, _, rfl, ?_⟩
            rw [filt_none]
            cases e2 : ms.any fun w => decide (w.testBit i = m.testBit i) && decide (w.testBit (i + l) = m.testBit (i + l)) with
            | true =>
              obtain ⟨w, hw, q⟩ := List.any_eq_true.mp e2
              rw [Bool.and_eq_true, decide_eq_true_eq, decide_eq_true_eq] at q
              exact iteF (next (fun y ey _ => by rw [ey]; exact ⟨w, hw, q⟩) (s2.trans sm))
            | false =>
              refine iteT (k _ false (s2.trans sm) ⟨fun z => (by cases z), fun q => ?_⟩)
              obtain ⟨w, hw, q1, q2⟩ := q i hi (i + l) hY
              have := List.any_eq_false.mp e2 w hw
              rw [decide_eq_true q1, decide_eq_true q2] at this
              exact absurd rfl this
        · have en : decide (vInt n = V.int 1) = false := decide_eq_false fun z => n1 (by have := V.int.inj z; omega)
          rw [en]
          refine iteF ⟨_, rfl, _, rfl, rfl, _, rfl, ?_⟩
          by_cases ne : i = i + l
          · have ed : (!decide (vInt i = vInt (i + l))) = false := by
              have q : decide (vInt i = vInt (i + l)) = true := decide_eq_true (by rw [← ne])
              rw [q]
              rfl
            rw [ed]
            refine iteF (next (fun y ey hne => ?_) s2)
            rcases hne with q | q
            · exact absurd q n1
            · exact absurd (ne.trans ey.symm) q
          · have ed : (!decide (vInt i = vInt (i + l))) = true := by
              have q : decide (vInt i = vInt (i + l)) = false := decide_eq_false fun z => ne (Int.ofNat.inj (V.int.inj z))
              rw [q]
              rfl
            rw [ed]
            refine iteT ?_
            refine ⟨_, rfl, a, rfl, ⟨_, s2.seq hS⟩, fun D hD => ?_⟩
            refine lc_list (K := K) (a := a) (xs := ms.map vInt) (fun l2 H' => Same H3 H' ∧ H' D = some (.lst (((ms.take l2).filter fun w => decide (w.testBit i = m.testBit i) && decide (w.testBit (i + l) = m.testBit (i + l))).map vInt))) ⟨same_new hD, upd_same⟩ (fun l2 H' _ h => (s2.trans h.1).seq hS) ?_ ?_
            · rintro l2 x H4 hx ⟨sm, hT⟩
              obtain ⟨hl3, rfl⟩ := item hx
              refine ⟨rfl, _, rfl, _, rfl, _, _, rfl, rfl, _, rfl, _, rfl, _, _, rfl, rfl, rfl, ?_⟩
              rw [two_dec]
              refine ⟨_, rfl, ite2 (fun z => ?_) (fun z => ?_)⟩
              · refine ⟨_, rfl, _, hT, ?_, same_upd sm hD, ?_⟩
                · rw [List.length_map]
                  have h3 := List.length_filter_le (fun w => decide (w.testBit i = m.testBit i) && decide (w.testBit (i + l) = m.testBit (i + l))) (ms.take l2)
                  rw [List.length_take] at h3
                  exact below (m := 100000) (by omega)
                · rw [upd_same, take_more hl3, List.filter_append, List.filter_cons_of_pos (by exact z), List.map_append]
                  rfl
              · refine ⟨sm, ?_⟩
                rw [take_more hl3, List.filter_append, List.filter_cons_of_neg (by exact z), List.filter_nil, List.append_nil]
                exact hT
            · rintro H4 ⟨sm, hT⟩
              rw [List.length_map, List.take_length] at hT
              refine ⟨D, _, rfl, .inl (SqL.of hT), rfl, _, rfl, ?_⟩
              rw [filt_none]
              cases e2 : ms.any fun w => decide (w.testBit i = m.testBit i) && decide (w.testBit (i + l) = m.testBit (i + l)) with
              | true =>
                obtain ⟨w, hw, q⟩ := List.any_eq_true.mp e2
                rw [Bool.and_eq_true, decide_eq_true_eq, decide_eq_true_eq] at q
                exact iteF (next (fun y ey _ => by rw [ey]; exact ⟨w, hw, q⟩) (s2.trans sm))
              | false =>
                refine iteT (k _ false (s2.trans sm) ⟨fun z => (by cases z), fun q => ?_⟩)
                obtain ⟨w, hw, q1, q2⟩ := q i hi (i + l) hY
                have := List.any_eq_false.mp e2 w hw
                rw [decide_eq_true q1, decide_eq_true q2] at this
                exact absurd rfl this
      · rintro σ H2 ⟨⟨y4, y5, rfl⟩, s2, hi2⟩
        refine ⟨⟨_, _, _, rfl⟩, s2, fun x a1 y a2 a3 a4 => ?_⟩
        by_cases e : x = i
        · subst e
          exact hi2 y a2 a3 (by omega) a4
        · exact hh x (by omega) y a2 a3 a4
    · rintro σ H1 ⟨⟨y3, y4, y5, rfl⟩, s1, hh⟩
      exact k _ true s1 ⟨fun _ => looks_all hh, fun _ => rfl⟩
end
end Fam

/-! raise X(), X an own class of errors without __init__. -/
namespace L2
open PySem PySem.Spec PyProof.Rows PyProof.V
section
variable {X : Cx} {C : Addr} {bmB : List Value} {B newId initId : String}
theorem pmk_own0 {x : Str} {p pos : Pos} (F : ExcBaseFacts B newId initId bmB) (q : PySem.W.excIn X.K C bmB newId = true) (gC : X.mg x = some (.ref C)) (kC : PySem.W.keepIn X.K (.ref C) = true) (r : Raises X (.ref C)) (hg : Gl X x)
    (hdb : (x == ("__debug__" : Str)) = false := by decide) : PMk X (.Call (.Name x p) [] [] pos) (fun _ H Q => Q (.ref C) none H) := by
  intro pins s σ H Q I h
  refine wpAny_Call_Name_kw (ld_glob I hg gC ?_ hdb)
  refine PySem.W.callWith_K0 I.kIn kC ?_
  obtain ⟨bm, N, nm, qn, bs, hdct, sn, sub, ab, col, dd, k0, k1, k2, k3, k5, mN, hC, hN, hni, T⟩ := exc_obj I.kIn q
  refine wpAny_call_exc_subT F T hC hN hni (fun h' e hm => ?_) (Nat.zero_le _)
  exact mk_of I hm r h (I.hok.gone hm.new)
end
end L2

/-! webs.lot_of in general: lots in any order, and what is no lot. -/
namespace Fam
open PySem L2
open C8 (pss_cut tCut)
theorem ok_noex {P : Program} {w : World} {K : PySem.W.Frag} {mg : Str → Option Value} {base : Heap} {k : Nat} {f : Addr} {fd : FuncData} {ps : List Str} {sp : Sp} (F : FnOk P w K mg base (L2.CX P w) k f fd ps sp) :
    FnOk P w K mg base CX0 k f fd ps (fun vs H Q _ => sp vs H Q E0) :=
  ⟨fun vs H Q _ h => F.len vs H Q E0 h, fun A outer s H args us vs Q E hr he hb hv h => codeAny_mono (F.run A outer s H args us vs Q E0 hr he hb hv h) fun r s' q => by
    match r, q with
    | .ok (.ret u), q => exact q
    | .ok .next, q => exact q
    | .ok .brk, q => exact q
    | .ok .cont, q => exact q
    | .error e, q =>
      obtain ⟨_, _, _, _, _, _, _, _, _, _, _, _, z⟩ := q
      exact z.elim⟩
def spBetweenX : Sp := fun vs H Q _ => ∃ (v : V) (lo hi : Int), vs = [v, .int lo, .int hi] ∧ ((∃ i : Int, v = .int i ∧ Q (.bl (decide (lo ≤ i ∧ i ≤ hi))) H) ∨ (∃ b, v = .bl b ∧ Q (.bl false) H))
/-- what is no lot of n places -/
def BadL (K : PySem.W.Frag) (H : Hp) (n : Nat) (v : V) : Prop := v = .non ∨ (∃ (p : Addr) (x : V), v = .ref p ∧ Row K H p [x] ∧ ((∃ i : Int, x = .int i ∧ ¬ (0 ≤ i ∧ i ≤ (n : Int) - 1)) ∨ ∃ b, x = .bl b)) ∨ (∃ p, v = .ref p ∧ 1 ≤ n ∧ H p = some (.tup [.int 0, .int 0]))
theorem BadL.same {K : PySem.W.Frag} {H H' : Hp} {n : Nat} {v : V} (h : BadL K H n v) (s : Same H H') : BadL K H' n v := by
  rcases h with h | ⟨p, x, e, r, q⟩ | ⟨p, e, h1, h2⟩
  · exact .inl h
  · exact .inr (.inl ⟨p, x, e, r.same s, q⟩)
  · exact .inr (.inr ⟨p, e, h1, s _ _ h2⟩)
def spLotOfX (K : PySem.W.Frag) (BL : Addr) : Sp := fun vs H Q E => ∃ (v : V) (n : Nat), vs = [v, vInt n] ∧ n ≤ 10 ∧
  ((∃ (p : Addr) (is : List Int) (m : Nat), v = .ref p ∧ H p = some (.tup (is.map V.int)) ∧ is.Nodup ∧ (∀ k, k ∈ is ↔ k ∈ lotI m) ∧ m < 2 ^ n ∧ ∀ (H' : Hp) (q : Addr), Same H H' → H q = none → H' q = some (.tup (lotV m)) → Q (.ref q) H')
    ∨ (BadL K H n v ∧ ∀ H', Same H H' → E (.ref BL) none H'))
theorem any_non {K : PySem.W.Frag} : PySem.W.kitAny K (.type "NoneType") [.type "list", .type "tuple"] = some false := kitAny_cons (b := false) (kit_ty (by decide +kernel)) (fun _ => kitAny_cons (b := false) (kit_ty (by decide +kernel)) (fun _ => rfl) (fun z => nomatch z)) (fun z => nomatch z)
structure LotErr (K : PySem.W.Frag) (mg : Str → Option Value) (BL : Addr) : Prop where
  gP : mg "BadLot" = some (.ref BL)
  xP : ∃ bm, PySem.W.excIn K BL bm "ValueError.__new__" = true ∧ ExcBaseFacts "ValueError" "ValueError.__new__" "ValueError.__init__" bm
  kP : PySem.W.keepIn K (.ref BL) = true
  b : PySem.W.subIn K (.ref BL) (.type "BaseException") = some true
  t : PySem.W.typeIn K (.ref BL) = some (.type "type")
theorem nodup_sub_len : ∀ {a b : List Int}, a.Nodup → (∀ k ∈ a, k ∈ b) → a.length ≤ b.length
  | [], _, _, _ => Nat.zero_le _
  | x :: a, b, hn, h => by
    obtain ⟨hx, ha⟩ := List.nodup_cons.mp hn
    have q := nodup_sub_len (b := b.erase x) ha fun k hk => (List.mem_erase_of_ne fun e => hx (by rw [← e]; exact hk)).mpr (h k (List.mem_cons_of_mem _ hk))
    have hm := h x List.mem_cons_self
    rw [List.length_erase_of_mem hm] at q
    have := List.length_pos_of_mem hm
    rw [List.length_cons]
    omega
theorem nodup_same_len {a b : List Int} (ha : a.Nodup) (hb : b.Nodup) (h : ∀ k, k ∈ a ↔ k ∈ b) : a.length = b.length :=
  Nat.le_antisymm (nodup_sub_len ha fun k hk => (h k).mp hk) (nodup_sub_len hb fun k hk => (h k).mpr hk)
section
variable {P : Program} {w : World} {K : PySem.W.Frag} {mg : Str → Option Value} {base : Heap} {BL : Addr}
theorem ok_betweenX {f : Addr} {fd : FuncData} (F : Fun K "is_between" "is_between" sIsBetween f fd) (G : Cal P w K mg base 1 "is_int" ["value"] (spIsInt K)) : FnOk P w K mg base CX0 2 f fd ["value", "low", "high"] spBetweenX := by
  obtain ⟨g, gd, ok, b, kp, mf⟩ := G.ex
  refine F.ok scIB (fun vs H Q E h => ?_) (fun cdv A outer s H vs Q E hr h => ?_)
  · obtain ⟨v, lo, hi, rfl, _⟩ := h
    rfl
  · obtain ⟨v, lo, hi, rfl, h⟩ := h
    refine ⟨_, pss_one (ps_ret (pe_and (pe_call ok hr rfl mf kp b .nil pass0 (pa_cons (pv 0) pa_nil)) (pe_one (pe_chain op_le op_le (pv 1) (pv 0) (pv 2))))), ?_⟩
    rcases h with ⟨i, rfl, k⟩ | ⟨c, rfl, k⟩
    · refine ⟨_, rfl, _, rfl, .inl ⟨i, rfl, _, rfl, iteT ⟨_, rfl, _, rfl, _, _, rfl, rfl, _, rfl, ?_⟩⟩⟩
      refine ite2 (fun z => ⟨_, rfl, _, _, rfl, rfl, ?_⟩) (fun z => ?_)
      · have z1 := of_decide_eq_true z
        have e : decide (lo ≤ i ∧ i ≤ hi) = decide (i ≤ hi) := decide_eq_decide.mpr ⟨fun q => q.2, fun q => ⟨z1, q⟩⟩
        rw [e] at k
        exact k
      · have e : decide (lo ≤ i ∧ i ≤ hi) = false := decide_eq_false fun q => z (decide_eq_true q.1)
        rw [e] at k
        exact k
    · exact ⟨_, rfl, _, rfl, .inr (.inl ⟨c, rfl, _, rfl, iteF k⟩)⟩
theorem ok_lot_ofX {f : Addr} {fd : FuncData} (F : Fun K "lot_of" "lot_of" sLotOf f fd) (T : Bare mg) (T2 : Bare2 mg) (LE : LotErr K mg BL) (GB : Cal P w K mg base 2 "is_between" ["value", "low", "high"] spBetweenX) : FnOk P w K mg base (L2.CX P w) 3 f fd ["value", "size"] (spLotOfX K BL) := by
  obtain ⟨gb, gbd, okb, bb, kb, mb⟩ := GB.ex
  obtain ⟨bm, xP, fP⟩ := LE.xP
  refine F.okX scLF (fun vs H Q E h => ?_) (fun cdv A outer s H vs Q E hr h => ?_)
  · obtain ⟨v, n, rfl, _⟩ := h
    rfl
  · obtain ⟨v, n, rfl, hn, h⟩ := h
    refine ⟨_, pss_cons (ps_if (pt_not (pt_val (pe_callB call_isiT (by rfl) T.isi (by decide +kernel) (pa_cons (pv 0) (pa_cons (pe_tup (pa_cons (pe_ty (n := "list") (by rfl) T.list (by decide +kernel)) (pa_cons (pe_ty (n := "tuple") (by rfl) T.tuple (by decide +kernel)) pa_nil))) pa_nil)))))
          (pss_one (ps_raise rfl (takes_of rfl rfl rfl rfl) (pmk_own0 fP xP LE.gP LE.kP (raises_own LE.b LE.t) rfl))) pss_nil)
      (pss_cons (ps_for (passes_of rfl) rfl (pi_row (pv 0)) (pg_name (i := 2) scLF.nd rfl (Or.inl rfl))
        (pss_one (ps_if (pt_not (pt_val (pe_call okb hr rfl mb kb bb .nil pass0 (pa_cons (pv 2) (pa_cons pe_int (pa_cons (pe_op op_sub (pv 1) pe_int) pa_nil)))))) (pss_one (ps_raise rfl (takes_of rfl rfl rfl rfl) (pmk_own0 fP xP LE.gP LE.kP (raises_own LE.b LE.t) rfl))) pss_nil)))
      (pss_cons (ps_set (i := 3) scLF.nd rfl (Or.inl rfl) (pe_tupleOf rfl T.tuple (pe_callB (cr_sortedSet rfl) (by rfl) T.sorted (by decide +kernel) (pa_cons (pe_callTy (cr_setI rfl) (by rfl) T2.set (by decide +kernel) (pa_cons (pv 0) pa_nil)) pa_nil))))
      (pss_cons (ps_if (pt_cmpR op_ne (pe_callB call_len_seq (by rfl) T.len PySem.boot_len (pa_cons (pv 3) pa_nil)) (pe_callB call_len_seq (by rfl) T.len PySem.boot_len (pa_cons (pv 0) pa_nil)) (nomark _)) (pss_one (ps_raise rfl (takes_of rfl rfl rfl rfl) (pmk_own0 fP xP LE.gP LE.kP (raises_own LE.b LE.t) rfl))) pss_nil)
      (pss_one (ps_ret (pv 3)))))), ?_⟩
    refine ⟨_, rfl, (by show 2 ≤ sizeLine; exact small (m := 2) (Nat.le_refl _)), fun t ht => ?_⟩
    have s1 : Same H (upd H t (.tup [.ty "list", .ty "tuple"])) := same_new ht
    have h' : (∃ (p : Addr) (is : List Int), v = .ref p ∧ H p = some (.tup (is.map V.int)) ∧ is.length ≤ 20 ∧ (∀ i ∈ is, 0 ≤ i ∧ i ≤ (n : Int) - 1) ∧
          ∀ (H2 : Hp) (u : Addr) (ns : List Int), Same H H2 → H u = none → H2 u = some (.tup (ns.map V.int)) → ns.Pairwise (· < ·) → (∀ k, k ∈ ns ↔ k ∈ is) → (ns.length ≠ is.length → E (.ref BL) none H2) ∧ (ns.length = is.length → Q (.ref u) H2))
        ∨ (v = .non ∧ ∀ H', Same H H' → E (.ref BL) none H')
        ∨ ((∃ (p : Addr) (x : V), v = .ref p ∧ Row K H p [x] ∧ ((∃ i : Int, x = .int i ∧ ¬ (0 ≤ i ∧ i ≤ (n : Int) - 1)) ∨ ∃ b, x = .bl b)) ∧ ∀ H', Same H H' → E (.ref BL) none H') := by
      rcases h with ⟨p, is, m, rfl, hp, nd, hmem, hm, k⟩ | ⟨hb, k⟩
      · have hlen := lotN_len m 12
        have hnd : (lotI m).Nodup := (lotI_asc m).imp fun {a b} q => by omega
        have el : is.length = (lotI m).length := nodup_same_len nd hnd hmem
        have el2 : (lotI m).length = (lotN m 12).length := List.length_map _
        refine .inl ⟨p, is, rfl, hp, by omega, fun i hi => ?_, fun H2 u ns s2 hu hu2 asc hns => ?_⟩
        · obtain ⟨x, hx, rfl⟩ := List.mem_map.mp ((hmem i).mp hi)
          have := lot_lt hm (by omega) x hx
          show 0 ≤ (x : Int) ∧ (x : Int) ≤ (n : Int) - 1
          omega
        · have e : ns = lotI m := asc_uniq asc (lotI_asc m) fun k => (hns k).trans (hmem k)
          subst e
          exact ⟨fun z => absurd el.symm z, fun _ => k H2 u s2 hu (by rw [lotV_eq]; exact hu2)⟩
      · rcases hb with rfl | hb | ⟨p, rfl, h1, hp⟩
        · exact .inr (.inl ⟨rfl, k⟩)
        · exact .inr (.inr ⟨hb, k⟩)
        · refine .inl ⟨p, [0, 0], rfl, hp, by decide, fun i hi => ?_, fun H2 u ns s2 hu hu2 asc hns => ?_⟩
          · have e : i = 0 := by
              rcases List.mem_cons.mp hi with q | q
              · exact q
              · exact List.mem_singleton.mp q
            omega
          · have e : ns = [0] := asc_uniq asc (List.pairwise_singleton _ _) fun k => by
              rw [hns k, List.mem_cons, List.mem_singleton, or_self]
            subst e
            exact ⟨fun _ => k H2 s2, fun z => by cases z⟩
    rcases h' with ⟨p, is, rfl, hp, hl, hin, k⟩ | ⟨rfl, k⟩ | ⟨⟨p, x, rfl, hrow, hx⟩, k⟩
    · refine ⟨_, t, _, _, _, true, rfl, upd_same, .cons (.ty _) (.cons (.ty _) .nil), ty_tup (SqT.of (s1 _ _ hp)), any_tup, _, rfl, iteF ?_⟩
      refine row_for (K := K) (b := p) (xs := is.map V.int) rfl (.inr (SqT.of (s1 _ _ hp))) (fun i σ H' => Same (upd H t (.tup [.ty "list", .ty "tuple"])) H' ∧ ∃ y2, σ = [some (.ref p), some (vInt n), y2, none]) ⟨Same.refl _, none, rfl⟩ (fun i σ H' _ h => h.1) ?_ ?_
      · rintro i x σ H1 hx ⟨sm, y2, rfl⟩
        obtain ⟨hi, rfl⟩ : ∃ hi : i < is.length, x = .int is[i] := by
          rw [List.getElem?_map] at hx
          by_cases hi : i < is.length
          · rw [List.getElem?_eq_getElem hi] at hx
            exact ⟨hi, (Option.some.inj hx).symm⟩
          · rw [List.getElem?_eq_none (by omega)] at hx
            cases hx
        have hb := hin _ (List.getElem_mem hi)
        refine ⟨_, rfl, _, rfl, _, _, rfl, rfl, _, _, _, rfl, .inl ⟨_, rfl, ?_⟩⟩
        rw [decide_eq_true (by exact hb)]
        exact ⟨_, rfl, iteF ⟨sm, _, rfl⟩⟩
      · rintro σ H1 ⟨sm, y2, rfl⟩
        have hp1 := sm _ _ (s1 _ _ hp)
        refine ⟨_, rfl, p, is, rfl, SqT.of hp1, by omega, fun q c hq hc => ?_⟩
        refine ⟨q, _, c, rfl, upd_same, by omega, fun ns r h1 h2 h3 hr' => .inl ⟨r, _, rfl, SqL.of upd_same, fun u hu => ?_⟩⟩
        have s2 : Same H1 (upd (upd (upd H1 q _) r _) u (.tup (ns.map V.int))) := ((same_new hq).trans (same_new hr')).trans (same_new hu)
        have s3 := s1.trans (sm.trans s2)
        have fu : H u = none := (s1.trans sm).free (((same_new hq).trans (same_new hr')).free hu)
        have kk := k _ u ns s3 fu upd_same h1 fun j => by rw [h2 j, decide_eq_true_eq]
        refine ⟨_, rfl, u, _, rfl, .inr (SqT.of upd_same), _, rfl, p, _, rfl, .inr (SqT.of (s2 _ _ hp1)), rfl, _, rfl, ?_⟩
        refine ite2 (fun z => ?_) (fun z => ⟨_, rfl, ?_⟩)
        · refine kk.1 fun e => ?_
          rw [List.length_map, List.length_map, e] at z
          rw [decide_eq_true rfl] at z
          cases z
        · refine kk.2 ?_
          refine Classical.byContradiction fun e => z ?_
          rw [List.length_map, List.length_map, decide_eq_false fun q => e (by have := V.int.inj q; omega)]
          rfl
    · refine ⟨_, t, _, _, _, false, rfl, upd_same, .cons (.ty _) (.cons (.ty _) .nil), .base .non, any_non, _, rfl, iteT (k _ s1)⟩
    · obtain ⟨ty, hty, hany⟩ := isi_row (hrow.same s1)
      refine ⟨_, t, _, _, _, true, rfl, upd_same, .cons (.ty _) (.cons (.ty _) .nil), hty, hany, _, rfl, iteF ?_⟩
      refine row_for (K := K) (b := p) (xs := [x]) rfl (hrow.same s1) (fun i σ H' => i = 0 ∧ Same (upd H t (.tup [.ty "list", .ty "tuple"])) H' ∧ ∃ y2, σ = [some (.ref p), some (vInt n), y2, none]) ⟨rfl, Same.refl _, none, rfl⟩ (fun i σ H' _ h => h.2.1) ?_ ?_
      · rintro i y σ H1 hy ⟨rfl, sm, y2, rfl⟩
        have ey : y = x := (Option.some.inj hy).symm
        subst ey
        refine ⟨_, rfl, _, rfl, _, _, rfl, rfl, _, _, _, rfl, ?_⟩
        rcases hx with ⟨i, rfl, hi⟩ | ⟨b, rfl⟩
        · refine .inl ⟨_, rfl, ?_⟩
          rw [decide_eq_false (by exact hi)]
          exact ⟨_, rfl, iteT (k _ (s1.trans sm))⟩
        · exact .inr ⟨_, rfl, _, rfl, iteT (k _ (s1.trans sm))⟩
      · rintro σ H1 ⟨e, _⟩
        cases e
/-- an ascending lot, where nothing is raised -/
theorem lot_of_good {f : Addr} {fd : FuncData} (ok : FnOk P w K mg base (L2.CX P w) 3 f fd ["value", "size"] (spLotOfX K BL)) : FnOk P w K mg base CX0 3 f fd ["value", "size"] spLotOf :=
  (ok_noex ok).imp fun vs H Q E h => by
    obtain ⟨p, m, n, rfl, hp, hm, hn, k⟩ := h
    refine ⟨.ref p, n, rfl, hn, .inl ⟨p, lotI m, m, rfl, by rw [← lotV_eq]; exact hp, (lotI_asc m).imp fun {a b} q => by omega, fun _ => Iff.rfl, hm, k⟩⟩
end
end Fam

/-! Family.looks. -/
namespace Fam
open PySem L2
open C8 (pss_cut tCut)
abbrev sFLooks : Stmt := inClass (top 36) 15
abbrev sFHeld : Stmt := inClass (top 36) 14
/-- the scope of the comprehension that is the one argument of what the last statement returns -/
def retCompScope : List Stmt → Scope
  | [.Return (some (.Call _ [.ListComp _ _ sc _] _ _)) _] => sc
  | _ :: r => retCompScope r
  | [] => default
abbrev scPair : Scope := relabel (retCompScope (defBody sFLooks)) (PyProof.Rows.envOfC "Family.looks" (defScope sFLooks) 0 0 .none)
/-- a loop over a range whose body is given a wish for the next turn -/
theorem rangeB {lo : Int} {n : Nat} {g : TG} {tt : TT} {vs : List Nat} {σ : L2.St} {H0 : Hp} {Qd : Hp → Prop} {B : L2.St → Hp → (Hp → Prop) → Prop} (Pv : Nat → Hp → Prop) (h0 : Pv 0 H0)
    (hs : ∀ i H, i < n → Pv i H → g (.int (lo + i)) (wipe σ vs) H fun σ2 H2 => wipe σ2 vs = wipe σ vs ∧ tt σ2 H2 fun b H3 => if b = true then B σ2 H3 (Pv (i + 1)) else Pv (i + 1) H3) (hd : ∀ H, Pv n H → Qd H) :
    ∃ W : Nat → Nat → Hp → Prop, (∃ m, W 0 m H0) ∧ ∀ i m H, W i m H →
      ((Itr lo n).stop i H ∧ Qd H) ∨ ((Itr lo n).go i H ∧ ∃ Nx : Hp → Prop, (∀ H', Nx H' → ∃ m', m' < m ∧ W (i + 1) m' H') ∧ ∀ x H', (Itr lo n).yld i H x H' → g x (wipe σ vs) H' fun σ2 H2 => wipe σ2 vs = wipe σ vs ∧ tt σ2 H2 fun b H3 => if b = true then B σ2 H3 Nx else Nx H3) := by
  refine ⟨fun i m H => m = n - i ∧ i ≤ n ∧ Pv i H, ⟨n, by simp, Nat.zero_le _, h0⟩, ?_⟩
  rintro i m H ⟨rfl, hi, p⟩
  by_cases hlt : i < n
  · refine .inr ⟨hlt, Pv (i + 1), fun H' p' => ⟨n - (i + 1), by omega, rfl, hlt, p'⟩, fun x H' y => ?_⟩
    obtain ⟨e, y⟩ := y
    subst e y
    exact hs i _ hlt p
  · have e : i = n := by omega
    subst e
    exact .inl ⟨Nat.le_refl _, hd H p⟩
/-- the pairs of places that looks looks at -/
def prsOf (n : Nat) : List Nat := if 1 < n then (List.range n).flatMap fun x => (List.range x).map fun y => 2 ^ x ||| 2 ^ y else [1]
def lkB (ms : List Nat) (m : Nat) (prs : List Nat) : Bool := prs.all fun pr => ms.any fun o => decide (xorN m o &&& pr = 0)
theorem xor_zero (m o x y : Nat) : xorN m o &&& (2 ^ x ||| 2 ^ y) = 0 ↔ o.testBit x = m.testBit x ∧ o.testBit y = m.testBit y := by
  rw [xorN_eq]
  constructor
  · intro h
    have q : ∀ i, ((m ^^^ o) &&& (2 ^ x ||| 2 ^ y)).testBit i = false := fun i => by rw [h, Nat.zero_testBit]
    have one : ∀ i, (2 ^ x ||| 2 ^ y).testBit i = true → o.testBit i = m.testBit i := fun i e => by
      have := q i
      rw [Nat.testBit_and, e, Bool.and_true, Nat.testBit_xor] at this
      revert this
      cases m.testBit i <;> cases o.testBit i <;> decide
    exact ⟨one x (by rw [Nat.testBit_or, Nat.testBit_two_pow_self]; rfl), one y (by rw [Nat.testBit_or, Nat.testBit_two_pow_self, Bool.or_true])⟩
  · rintro ⟨h1, h2⟩
    refine Nat.eq_of_testBit_eq fun i => ?_
    rw [Nat.testBit_and, Nat.testBit_xor, Nat.zero_testBit, Nat.testBit_or, Nat.testBit_two_pow, Nat.testBit_two_pow]
    by_cases e1 : x = i
    · subst e1
      rw [h1]
      cases m.testBit x <;> rfl
    · by_cases e2 : y = i
      · subst e2
        rw [h2]
        cases m.testBit y <;> rfl
      · rw [decide_eq_false e1, decide_eq_false e2]
        cases m.testBit i <;> cases o.testBit i <;> rfl
theorem xor_one (m o : Nat) : xorN m o &&& 1 = 0 ↔ o.testBit 0 = m.testBit 0 := by
  have := xor_zero m o 0 0
  rw [show (2 ^ 0 ||| 2 ^ 0 : Nat) = 1 from rfl] at this
  rw [this]
  exact ⟨fun h => h.1, fun h => ⟨h, h⟩⟩
theorem lk_iff {n : Nat} {ms : List Nat} {m : Nat} (h1 : 1 ≤ n) : lkB ms m (prsOf n) = true ↔ LooksAs n ms m := by
  unfold lkB prsOf
  rw [List.all_eq_true]
  by_cases hn : 1 < n
  · rw [if_pos hn]
    constructor
    · intro h
      refine looks_all fun i hi j hj hij hne => ?_
      have e : i ≠ j := by rcases hne with q | q <;> omega
      have z := h (2 ^ j ||| 2 ^ i) (List.mem_flatMap.mpr ⟨j, List.mem_range.mpr hj, List.mem_map.mpr ⟨i, List.mem_range.mpr (by omega), rfl⟩⟩)
      obtain ⟨o, ho, q⟩ := List.any_eq_true.mp z
      have q2 := (xor_zero m o j i).mp (of_decide_eq_true q)
      exact ⟨o, ho, q2.2, q2.1⟩
    · intro h pr hpr
      obtain ⟨x, hx, hpr⟩ := List.mem_flatMap.mp hpr
      obtain ⟨y, hy, rfl⟩ := List.mem_map.mp hpr
      have hx := List.mem_range.mp hx
      have hy := List.mem_range.mp hy
      obtain ⟨o, ho, q⟩ := h x hx y (by omega)
      exact List.any_eq_true.mpr ⟨o, ho, decide_eq_true ((xor_zero m o x y).mpr q)⟩
  · have e : n = 1 := by omega
    subst e
    rw [if_neg hn]
    constructor
    · intro h i hi j hj
      obtain ⟨o, ho, q⟩ := List.any_eq_true.mp (h 1 List.mem_cons_self)
      have q2 := (xor_one m o).mp (of_decide_eq_true q)
      have ei : i = 0 := by omega
      have ej : j = 0 := by omega
      subst ei ej
      exact ⟨o, ho, q2, q2⟩
    · intro h pr hpr
      rw [List.mem_singleton.mp hpr]
      obtain ⟨o, ho, q, _⟩ := h 0 (by omega) 0 (by omega)
      exact List.any_eq_true.mpr ⟨o, ho, decide_eq_true ((xor_one m o).mpr q)⟩
theorem prs_step (i : Nat) : (List.range (i + 1)).flatMap (fun x => (List.range x).map fun y => 2 ^ x ||| 2 ^ y) = (List.range i).flatMap (fun x => (List.range x).map fun y => 2 ^ x ||| 2 ^ y) ++ (List.range i).map fun y => 2 ^ i ||| 2 ^ y := by
  rw [List.range_succ, List.flatMap_append]
  simp
theorem prs_len : ∀ n, ((List.range n).flatMap (fun x => (List.range x).map fun y => 2 ^ x ||| 2 ^ y)).length ≤ n * n
  | 0 => Nat.le_refl _
  | n + 1 => by
    rw [prs_step, List.length_append, List.length_map, List.length_range]
    have := prs_len n
    have e : (n + 1) * (n + 1) = n * n + n + n + 1 := by rw [Nat.add_mul, Nat.mul_add, Nat.one_mul, Nat.mul_one]; omega
    omega
theorem shl_one (i : Nat) : (1 : Int) * 2 ^ ((i : Int)).toNat = ((2 ^ i : Nat) : Int) := by
  rw [Int.toNat_natCast, Int.one_mul, Int.natCast_pow]
  rfl
def spFLooks (K : PySem.W.Frag) (C BL : Addr) : Sp := fun vs H Q E => ∃ (f : Addr) (n : Nat) (ms : List Nat) (v : V), vs = [.ref f, v] ∧ FAt C H f n ms ∧
  ((∃ (p : Addr) (is : List Int) (m : Nat), v = .ref p ∧ H p = some (.tup (is.map V.int)) ∧ is.Nodup ∧ (∀ k, k ∈ is ↔ k ∈ lotI m) ∧ m < 2 ^ n ∧ ∀ (H' : Hp) (b : Bool), Same H H' → (b = true ↔ LooksAs n ms m) → Q (.bl b) H')
    ∨ (BadL K H n v ∧ ∀ H', Same H H' → E (.ref BL) none H'))
section
variable {P : Program} {w : World} {K : PySem.W.Frag} {mg : Str → Option Value} {base : Heap} {C BL : Addr}
abbrev nLK : List Str := ["self", "lot", "mask", "pairs", "x", "y", "other", "pair"]
theorem scLK : FnScope nLK ["self", "lot"] (defScope sFLooks) := ⟨rfl, rfl, rfl, by decide +kernel, rfl, by decide +kernel, by decide +kernel⟩
theorem ok_f_looks {f : Addr} {fd : FuncData} (F : Fun K "looks" "Family.looks" sFLooks f fd) (T : Bare mg) (T2 : Bare2 mg) (FC : FamC K C) (GL : CalE P w K mg base 3 "lot_of" ["value", "size"] (spLotOfX K BL)) (GM : Cal P w K mg base 1 "mask_of" ["lot"] spMaskOf) :
    FnOk P w K mg base (L2.CX P w) 4 f fd ["self", "lot"] (spFLooks K C BL) := by
  obtain ⟨gl, gld, okl, bl, kl, ml⟩ := GL.ex
  obtain ⟨gm, gmd, okm, bm, km, mm⟩ := GM.ex
  refine F.okX scLK (fun vs H Q E h => ?_) (fun cdv A outer s H vs Q E hr h => ?_)
  · obtain ⟨f, n, ms, v, rfl, _⟩ := h
    rfl
  · obtain ⟨f, n, ms, v, rfl, hF, h⟩ := h
    have hr1 := hr.mono (j := 1) (by decide)
    have h10 := pow_le10 hF.h2
    have hu := hu_of hr
    refine ⟨_, pss_cons (ps_set (i := 2) scLK.nd rfl (Or.inr rfl) (pe_call okm hr1 rfl mm km bm .nil pass0 (pa_cons (pe_call okl hr rfl ml kl bl .nil (passes_call (takes_of rfl rfl rfl rfl) (fun _ _ _ _ h => h)) (pa_cons (pv 1) (pa_cons (pe_fld (pv 0) rfl) pa_nil))) pa_nil)))
      (pss_cut (ps_set (i := 3) scLK.nd rfl (Or.inl rfl) (pe_ifExp (pt_cmpR op_gt (pe_fld (pv 0) rfl) pe_int (nomark _))
          (pe_lc2 (own := [("x", 4), ("y", 5)]) (vs1 := [5]) (g := gName 4) (g1 := gName 5) (tt := tYes) (tt1 := tYes) rfl scLK.nd (pi_range1 rfl T.range (pa_cons (pe_fld (pv 0) rfl) pa_nil)) (blkOk_by (own := [("x", 4), ("y", 5)]) (N := nLK) (sc := defScope sFLooks) (by decide +kernel)) (by decide)
            (fun _ _ _ _ _ => pg_name (i := 4) scLK.nd rfl (Or.inl rfl)) (fun _ _ _ _ _ => pts_nil) (fun _ _ _ _ _ => pi_range1 rfl T.range (pa_cons (pv 4) pa_nil)) (fun _ _ _ _ _ => pg_name (i := 5) scLK.nd rfl (Or.inl rfl)) (fun _ _ _ _ _ => pts_nil)
            (fun _ _ _ _ _ => pe_op op_or (pe_op op_shl pe_int (pv 4)) (pe_op op_shl pe_int (pv 5))))
          (pe_lst (pa_cons pe_int pa_nil))))
      (pss_one (ps_ret (pe_callB (cr_all rfl) (by rfl) T2.all PyProof.Rows.boot_all (pa_cons (pe_lc (own := [("pair", 7)]) (g := gName 7) (tt := tYes) rfl scLK.nd (pi_list (pv 3)) (blkOk_by (own := [("pair", 7)]) (N := nLK) (sc := defScope sFLooks) (by decide +kernel)) (fun _ _ _ _ _ => pg_name (i := 7) scLK.nd rfl (Or.inr rfl)) (fun _ _ _ _ _ => pts_nil)
        (fun _ _ _ _ _ => pe_callB (cr_any rfl : CallR _ _ (rAny K)) (by rfl) T2.any PyProof.Rows.boot_any (pa_cons (pe_lock (pe_lc (own := [("other", 6)]) (g := gName 6) (tt := tYes) rfl scLK.nd (pi_keys (pe_fld (pv 0) rfl : PE _ _ (tFld K (tVar 0) "masks"))) (blkOk_by (own := [("other", 6)]) (N := nLK) (sc := scPair) (by decide +kernel)) (fun _ _ _ _ _ => pg_name (i := 6) scLK.nd rfl (Or.inl rfl)) (fun _ _ _ _ _ => pts_nil)
          (fun _ _ _ _ _ => pe_cmpR op_eq (pe_op op_and (pe_op op_xor (pv 2) (pv 6)) (pv 7)) pe_int (nomark _)))) pa_nil))) pa_nil))))), ?_⟩
    obtain ⟨⟨dx, l, d, fs, ls, ms0, a1, a2, a3, a4, a5, a6, a7, a8, a9, a10, a11⟩, hms, h1, h2⟩ := id hF
    rcases h with ⟨p, is, m, rfl, hp, nd, hmem, hm, k⟩ | ⟨hb, k⟩
    rotate_left
    · exact ⟨_, rfl, _, rfl, f, C, dx, fs, _, rfl, a1, FC.cl, FC.size, a2, v, n, rfl, h2, .inr ⟨hb, k⟩⟩
    refine ⟨_, rfl, _, rfl, f, C, dx, fs, _, rfl, a1, FC.cl, FC.size, a2, .ref p, n, rfl, h2, .inl ⟨p, is, m, rfl, hp, nd, hmem, hm, fun H1 q s1 hq hq' => ?_⟩⟩
    refine ⟨q, m, rfl, hq', by omega, ?_⟩
    have hfd : f ≠ d := ne_of a1 a11 (by intro z; cases z)
    have lms : ms0.length ≤ 1024 := by
      rw [a9.length_eq]
      exact Nat.le_trans (nodup_len _ ms hms.nd hms.lt) h10
    refine ⟨fun σ' H' => ∃ pl, σ' = [some (.ref f), some (.ref p), some (vInt m), some (.ref pl), none, none, none, none] ∧ H' pl = some (.lst ((prsOf n).map vInt)) ∧ Same H1 H', ?_, ?_⟩
    · refine ⟨_, rfl, f, C, dx, fs, _, rfl, s1 _ _ a1, FC.cl, FC.size, a2, _, _, rfl, rfl, _, rfl, ite2 (fun z => ?_) (fun z => ?_)⟩
      · have z1 : (1 : Int) < (n : Int) := of_decide_eq_true z
        have en : prsOf n = (List.range n).flatMap fun x => (List.range x).map fun y => 2 ^ x ||| 2 ^ y := if_pos (by omega)
        refine ⟨_, rfl, f, C, dx, fs, _, rfl, s1 _ _ a1, FC.cl, FC.size, a2, (n : Int), rfl, by omega, by omega, fun D hD => ?_⟩
        refine rangeB (lo := 0) (n := n) (fun i H' => Same H1 H' ∧ H' D = some (.lst (((List.range i).flatMap fun x => (List.range x).map fun y => 2 ^ x ||| 2 ^ y).map vInt))) ⟨same_new hD, upd_same⟩ ?_ ?_
        · rintro i H2 hi ⟨s2, hT⟩
          refine ⟨rfl, ⟨_, rfl, (0 + (i : Int)), rfl, by omega, by omega, ?_⟩⟩
          rw [show (0 + (i : Int)).toNat = i by omega]
          refine rangeB (lo := 0) (n := i) (fun j H' => Same H1 H' ∧ H' D = some (.lst (((List.range i).flatMap fun x => (List.range x).map fun y => 2 ^ x ||| 2 ^ y).map vInt ++ ((List.range j).map fun y => 2 ^ i ||| 2 ^ y).map vInt))) ⟨s2, by rw [hT]; simp⟩ ?_ ?_
          · rintro j H3 hj ⟨s3, hT3⟩
            refine ⟨rfl, ?_⟩
            refine ⟨_, rfl, _, _, rfl, rfl, ⟨by omega, by omega, by decide⟩, _, rfl, _, _, rfl, rfl, ⟨by omega, by omega, by decide⟩, _, _, rfl, rfl, _, hT3, ?_, same_upd s3 hD, ?_⟩
            · rw [List.length_append, List.length_map, List.length_map, List.length_map, List.length_range]
              have := prs_len i
              have : i * i ≤ 10 * 10 := Nat.mul_le_mul (by omega) (by omega)
              exact below (m := 1000) (by omega)
            · have ev : V.int (Builtin.bitOr ((1 : Int) * 2 ^ (0 + (i : Int)).toNat) ((1 : Int) * 2 ^ (0 + (j : Int)).toNat)) = vInt (2 ^ i ||| 2 ^ j) := by
                rw [Int.zero_add, Int.zero_add, shl_one, shl_one, bitOr_nat]
              rw [upd_same, List.range_succ, List.map_append, List.map_append, ← List.append_assoc]
              exact congrArg (fun z => some (HO.lst (_ ++ [z]))) ev
          · rintro H3 ⟨s3, hT3⟩
            refine ⟨s3, ?_⟩
            rw [hT3, prs_step, List.map_append]
        · rintro H2 ⟨s2, hT⟩
          exact ⟨D, rfl, by rw [hT, en], s2⟩
      · have z1 : ¬ (1 : Int) < (n : Int) := fun q => z (decide_eq_true q)
        have en : prsOf n = [1] := if_neg (by omega)
        refine ⟨small (m := 1) (Nat.le_refl _), fun D hD => ⟨D, rfl, by rw [en]; exact upd_same, same_new hD⟩⟩
    rintro _ H2 ⟨pl, rfl, hP, s2⟩
    have s02 := s1.trans s2
    have plen : (prsOf n).length ≤ 100 := by
      unfold prsOf
      split
      · exact Nat.le_trans (prs_len n) (Nat.mul_le_mul h2 h2)
      · decide
    refine ⟨_, rfl, pl, rfl, ⟨_, SqL.of hP⟩, fun D hD => ?_⟩
    refine lc_list (K := K) (a := pl) (xs := (prsOf n).map vInt) (fun i H' => Same H2 H' ∧ H' D = some (.lst ((((prsOf n).take i).map fun pr => ms0.any fun o => decide (xorN m o &&& pr = 0)).map V.bl))) ⟨same_new hD, upd_same⟩ (fun i H' _ h => SqL.of (h.1 _ _ hP)) ?_ ?_
    · rintro i x H3 hx ⟨s3, hT⟩
      obtain ⟨hi, rfl⟩ := item hx
      generalize epr : (prsOf n)[i] = pr
      have s03 := s02.trans s3
      refine ⟨rfl, ?_⟩
      refine ⟨d, _, s03 _ _ a11, trivial, fun od => ?_⟩
      have hHf : (upd H3 d (.frz od (.dK (mK ms0)))) f = some (.ins C dx fs) := by rw [upd_ne hfd]; exact s03 _ _ a1
      refine ⟨_, rfl, f, C, dx, fs, _, rfl, hHf, FC.cl, FC.masks, a4, d, od, rfl, .inl ⟨_, upd_same, fun D2 hD2 => ?_⟩⟩
      have hdD2 : d ≠ D2 := ne_of_none upd_same hD2
      refine lc_it walk_keys (fun j H' => Same (upd H3 d (.frz od (.dK (mK ms0)))) H' ∧ H' D2 = some (.lst (((ms0.take j).map fun o => decide (xorN m o &&& pr = 0)).map V.bl))) ⟨same_new hD2, upd_same⟩ (fun j H' _ h => h.1 _ _ upd_same) ?_ ?_
      · rintro j y H4 H4' hj ⟨s4, hT4⟩ ⟨rfl, kk, vv, e, rfl⟩
        have hj' : j < ms0.length := by
          have : (mK ms0).length = ms0.length := List.length_map _
          omega
        have ek : kk = (Sum.inl ((ms0[j] : Nat) : Int) : Key) := by
          unfold mK at e
          rw [List.getElem?_map, List.getElem?_eq_getElem hj'] at e
          cases e
          rfl
        subst ek
        refine ⟨rfl, _, rfl, _, rfl, _, _, rfl, rfl, _, rfl, _, _, rfl, rfl, rfl, ?_⟩
        have ev : V.bl (decide (V.int (Builtin.bitAnd (Builtin.bitXor (m : Int) ((ms0[j] : Nat) : Int)) (pr : Int)) = V.int 0)) = V.bl (decide (xorN m ms0[j] &&& pr = 0)) := by
          rw [bitXor_nat, bitAnd_nat]
          exact congrArg V.bl (decide_eq_decide.mpr ⟨fun z => by have := V.int.inj z; omega, fun z => by rw [z]; rfl⟩)
        refine ⟨_, hT4, ?_, same_upd s4 hD2, ?_⟩
        · rw [List.length_map, List.length_map, List.length_take]
          exact below (m := 100000) (by omega)
        · rw [upd_same, take_more hj', List.map_append, List.map_append]
          exact congrArg (fun z => some (HO.lst (_ ++ [z]))) ev
      · rintro H4 ⟨s4, hT4⟩
        have el : (mK ms0).length = ms0.length := List.length_map _
        rw [el, List.take_length] at hT4
        refine ⟨s4 _ _ upd_same, ?_⟩
        have s5 : Same H3 (upd H4 d (.dK (mK ms0))) := fun b o e => by
          by_cases hb : b = d
          · subst hb
            rw [upd_same, ← e]
            exact (s03 _ _ a11).symm
          · rw [upd_ne hb]
            refine s4 _ _ ?_
            rw [upd_ne hb]
            exact e
        have hD2' : (upd H4 d (.dK (mK ms0))) D2 = some (.lst ((ms0.map fun o => decide (xorN m o &&& pr = 0)).map V.bl)) := by
          rw [upd_ne hdD2.symm]
          exact hT4
        refine ⟨D2, _, rfl, SqL.of hD2', _, s5 _ _ hT, ?_, same_upd (s3.trans s5) hD, ?_⟩
        · rw [List.length_map, List.length_map, List.length_take]
          exact below (m := 100000) (by omega)
        · rw [upd_same, take_more hi, List.map_append, List.map_append, epr]
          have ev : (ms0.map fun o => decide (xorN m o &&& pr = 0)).any id = ms0.any fun o => decide (xorN m o &&& pr = 0) := by
            rw [List.any_map]
            rfl
          exact congrArg (fun z => some (HO.lst (_ ++ [V.bl z]))) ev
    · rintro H3 ⟨s3, hT⟩
      rw [List.length_map, List.take_length] at hT
      refine ⟨D, _, rfl, SqL.of hT, k _ _ (s02.trans s3) ?_⟩
      have ev : ((prsOf n).map fun pr => ms0.any fun o => decide (xorN m o &&& pr = 0)).all id = lkB ms0 m (prsOf n) := by
        rw [List.all_map]
        rfl
      rw [ev, lk_iff h1]
      unfold LooksAs
      constructor
      · intro h i hi j hj
        obtain ⟨w, hw, e⟩ := h i hi j hj
        exact ⟨w, a9.mem_iff.mp hw, e⟩
      · intro h i hi j hj
        obtain ⟨w, hw, e⟩ := h i hi j hj
        exact ⟨w, a9.mem_iff.mpr hw, e⟩
end
end Fam

/-! try with several clauses, some with a name, some without, one of which takes what the body raises. -/
namespace Fam
open PySem L2 PyProof.Rows
abbrev Suite := Addr → Value → Option Addr → TS
/-- the suite of a clause with a name in slot i -/
def asName (i : Nat) (ts : Suite) : Suite := fun a cls d D σ H => ts a cls d ⟨fun g h => D.nx (g.set i none) h, D.rt, fun g h => D.bk (g.set i none) h, fun g h => D.ct (g.set i none) h⟩ (σ.set i (some (.ref a))) H
/-- what the clauses wish: one of them takes it -/
def wMix (K : PySem.W.Frag) (D : Ends) : List (Value × Suite) → WX
  | [] => fun _ _ _ _ => False
  | (c, ts) :: r => fun cls d σ H => (PySem.W.exmOne K cls c = some true ∧ ∀ a, H a = none → ts a cls d D σ H) ∨ (PySem.W.exmOne K cls c = some false ∧ wMix K D r cls d σ H)
inductive Clauses (X : Cx) : List ExceptHandler → List (Value × Suite) → Prop
  | rest {hs : List ExceptHandler} : Clauses X hs []
  | plain {x : Str} {c : Value} {ts : Suite} {b : Stmt} {su : List Stmt} {np p1 : Pos} {hs : List ExceptHandler} {l : List (Value × Suite)} (nm : Names X x c)
      (ss : ∀ (a : Addr) (o : Obj) (cls : Value) (d : Option Addr) (pn : List (Addr × Obj)), Zc cls d o → (∃ fs, o.data = .fields fs) → PSs (X.suite a ((a, o) :: pn)) (b :: su) (ts a cls d)) (r : Clauses X hs l) :
      Clauses X (.ExceptHandler (some (.Name x np)) none (b :: su) p1 :: hs) ((c, ts) :: l)
  | named {x n : Str} {i : Nat} {c : Value} {ts : Suite} {b : Stmt} {su : List Stmt} {np p1 : Pos} {hs : List ExceptHandler} {l : List (Value × Suite)} (at_ : X.N[i]? = some n) (lc : X.env.kindOf n = some .local) (nm : Names X x c)
      (ss : ∀ (a : Addr) (o : Obj) (cls : Value) (d : Option Addr) (pn : List (Addr × Obj)), Zc cls d o → (∃ fs, o.data = .fields fs) → PSs (X.suite a ((a, o) :: pn)) (b :: su) (ts a cls d)) (r : Clauses X hs l) :
      Clauses X (.ExceptHandler (some (.Name x np)) (some n) (b :: su) p1 :: hs) ((c, asName i ts) :: l)
section
variable {X : Cx} {body : List Stmt} {h1 : ExceptHandler} {hs : List ExceptHandler} {l : List (Value × Suite)} {p2 : Pos} {tb : WX → TS}
theorem ps_try_mix (st : X.stack = X.env :: X.outer) (fr : X.env.frame = some X.env.locals) (nd : X.N.Nodup)
    (bd : ∀ (W : WX) (pn : List (Addr × Obj)) (xe : Value → Shared → Prop), Takes (X.tr pn xe) W → PassesOwn (model X.prog X.w) X.A X.env xe → PSs (X.tr pn xe) body (tb W))
    (cl : Clauses X (h1 :: hs) l) : PS X (.Try body (h1 :: hs) [] [] p2) (fun D σ H => tb (wMix X.K D l) D σ H) := PS.mk fun pins s σ H D inv rd => by
  have ctx := inv.ok
  have fs0 : X.A.frames = some (X.env :: X.outer) := by rw [ctx.frames, st]
  apply wpAny_Try_except
  have run := (bd (wMix X.K D l) (X.pn ++ pins)
    (fun e t1 => wpAny (model X.prog X.w) X.A (noteFrame e X.env) (fun _ t2 => wpAny (model X.prog X.w) X.A (setFlight e none)
      (fun _ t3 => wpAny (model X.prog X.w) X.A (handleBy e X.env (h1 :: hs)) (SP X pins D) X.xe t3) X.xe t2) X.xe t1)
    (fun u t cat => ?caught) PassesOwn.looking).run [] s σ H D (inv.toTry _) rd
  case caught =>
    obtain ⟨a, B, tI, pn, g, G, cls, d, rfl, j, nb, up, sky, na, os, ag, on⟩ := cat
    have jI : L2.Inv X pins g G tI := j.ofTry ctx
    show wpAny (model X.prog X.w) X.A (noteFrame (.ref a) X.env) _ _ _
    have sky1 : Sky B (X.env :: X.outer) a (Zc cls d) X.env.locals t.heap := st ▸ sky
    refine Sky.land Zc.steady fs0 fr sky1 fun k fly upk => ?_
    have jk : L2.Inv X pins g G { t with heap := k } := jI.landed nb fly.1 (up.trans upk) os ag
    obtain ⟨o, fv, ho, hz, hd⟩ := fly.there
    have off : a ∉ frs (X.env :: X.outer) := fun hm => by
      obtain ⟨_, o1, e1, nf⟩ := fly.2.2.1.mem hm
      have e2 : o = o1 := Option.some.inj (ho.symm.trans e1)
      exact nf _ (e2 ▸ hd)
    have offL : a ≠ X.env.locals := fun z => off (List.mem_filterMap.mpr ⟨X.env, List.mem_cons_self, by rw [fr, z]⟩)
    have offF : a ∉ X.fs := fun hm => by
      obtain ⟨e, he, q⟩ := List.mem_filterMap.mp hm
      exact off (List.mem_filterMap.mpr ⟨e, .tail _ he, q⟩)
    have inS := jk.suite ho hd na offL offF
    have ty : PySem.W.Looks (model X.prog X.w) k (typeOf (.ref a)) cls := fun _ _ _ _ kk q => wpAny_typeOf_ref (kk _ _ ho) (by rw [hz.1]; exact q)
    have nameRun : ∀ {x : Str} {c : Value} {np : Pos} (nm : Names X x c) {R : Value → Shared → Prop} {E1 : Value → Shared → Prop}, R c { t with heap := k } → wpAny (model X.prog X.w) (X.A.mark (some (.ref a))) (eval (.Name x np) X.env) R E1 { t with heap := k } := fun {x c np} nm {R E1} q => by
      obtain ⟨gl, db, w1 | ⟨w1, w2, w3⟩⟩ := nm
      · exact ld_glob (X := X.suite a ((a, o) :: (X.pn ++ pins))) inS gl w1 q db
      · exact ld_blt (X := X.suite a ((a, o) :: (X.pn ++ pins))) inS gl w1 w2 q w3 db
    have back : ∀ {a' : Addr} {q' : Addr × Obj} (r : Flow) (t6 : Shared), SP (X.suite a' (q' :: (X.pn ++ pins))) [] D r t6 → SP X pins D r t6 := fun {a' q'} r t6 out => by
      match r, out with
      | .next, ⟨_, _, in6, q6⟩ => exact ⟨_, _, in6.unsuite ctx, q6⟩
      | .brk, ⟨_, _, in6, q6⟩ => exact ⟨_, _, in6.unsuite ctx, q6⟩
      | .cont, ⟨_, _, in6, q6⟩ => exact ⟨_, _, in6.unsuite ctx, q6⟩
      | .ret u, ⟨_, _, _, in6, rv, q6⟩ => exact ⟨_, _, _, in6.unsuite ctx, rv, q6⟩
    have go : ∀ {hs' : List ExceptHandler} {l' : List (Value × Suite)}, Clauses X hs' l' → wMix X.K D l' cls d g G → wpAny (model X.prog X.w) X.A (handleBy (.ref a) X.env hs') (SP X pins D) X.xe { t with heap := k } := by
      intro hs' l' ck
      induction ck with
      | rest => exact fun z => z.elim
      | @plain x c ts b su np q1 hs2 l2 nm ss r ih =>
        intro wish
        refine wpAny_handleBy_cons (codeAny_handlers_test ?_) (fun q => by cases q)
        rcases wish with ⟨yes, on⟩ | ⟨no, more⟩
        · refine nameRun nm ((PySem.W.exm_one (M := model X.prog X.w) jk.kIn ty yes).here ?_)
          refine codeAny_handlers_suite (HandSPX.lands_againZ fly fun k2 fly2 up2 => ?_)
          obtain ⟨o2, fv2, ho2, hz2, hd2⟩ := fly2.there
          have jk2 : L2.Inv X pins g G { t with heap := k2 } := jI.landed nb fly2.1 ((up.trans upk).trans up2) os ag
          have in2 := jk2.suite ho2 hd2 na offL offF
          exact wpAny_mono ((ss a o2 cls d (X.pn ++ pins) hz2 ⟨_, hd2⟩).run [] _ _ G _ in2 (on a na)) (fun r t6 out => back r t6 out) (fun _ _ no => no.elim)
        · refine nameRun nm ((PySem.W.exm_one (M := model X.prog X.w) jk.kIn ty no).here ?_)
          exact ih more
      | @named x n i c ts b su np q1 hs2 l2 at_ lc nm ss r ih =>
        intro wish
        refine wpAny_handleBy_cons (codeAny_handlers_test ?_) (fun q => by cases q)
        rcases wish with ⟨yes, on⟩ | ⟨no, more⟩
        · refine nameRun nm ((PySem.W.exm_one (M := model X.prog X.w) jk.kIn ty yes).here ?_)
          refine codeAny_handlers_suite_as (HandSPX.lands_againZ fly fun k2 fly2 up2 => ?_)
          obtain ⟨o2, fv2, ho2, hz2, hd2⟩ := fly2.there
          have jk2 : L2.Inv X pins g G { t with heap := k2 } := jI.landed nb fly2.1 ((up.trans upk).trans up2) os ag
          have in2 := jk2.suite ho2 hd2 na offL offF
          refine store_ok (X := X.suite a ((a, o2) :: (X.pn ++ pins))) (v := .ref a) in2 nd at_ (.inl lc) rfl (fun t5 in5 => ?_) (.inr lc)
          refine wpAny_mono ((ss a o2 cls d (X.pn ++ pins) hz2 ⟨_, hd2⟩).run [] t5 _ G _ in5 (on a na)) (fun r t6 out => ?_) (fun _ _ no => no.elim)
          -- the name goes again
          have gone : ∀ {g6 : L2.St} {G6 : Hp} {R : Shared → Prop}, L2.Inv (X.suite a ((a, o2) :: (X.pn ++ pins))) [] g6 G6 t6 → (∀ t7, L2.Inv X pins (g6.set i none) G6 t7 → R t7) →
              wpAny (model X.prog X.w) X.A (do bindName X.env n .none; unbindBehindTheSuite X.env n q1) (fun _ t7 => R t7) X.xe t6 := fun in6 q => gone_ok (in6.unsuite ctx) nd at_ lc q
          match r, out with
          | .next, ⟨_, _, in6, q6⟩ => exact gone in6 fun t7 j7 => ⟨_, _, j7, q6⟩
          | .brk, ⟨_, _, in6, q6⟩ => exact gone in6 fun t7 j7 => ⟨_, _, j7, q6⟩
          | .cont, ⟨_, _, in6, q6⟩ => exact gone in6 fun t7 j7 => ⟨_, _, j7, q6⟩
          | .ret u, ⟨_, _, _, in6, rv, q6⟩ => exact gone in6 fun t7 j7 => ⟨_, _, _, j7, rv, q6⟩
        · refine nameRun nm ((PySem.W.exm_one (M := model X.prog X.w) jk.kIn ty no).here ?_)
          exact ih more
    exact go cl on
  refine wpAny_mono run (fun r t1 out => ?_) (fun _ _ q => q)
  match r, out with
  | .next, ⟨_, _, j1, q1⟩ => exact wpAny_execs_nil ⟨_, _, j1.ofTry ctx, q1⟩
  | .brk, ⟨_, _, j1, q1⟩ => exact ⟨_, _, j1.ofTry ctx, q1⟩
  | .cont, ⟨_, _, j1, q1⟩ => exact ⟨_, _, j1.ofTry ctx, q1⟩
  | .ret u, ⟨_, _, _, j1, rv, q1⟩ => exact ⟨_, _, _, j1.ofTry ctx, rv, q1⟩
end
end Fam

/-! o.m(e, ..) in a try, m a method that may raise. -/
namespace Fam
open PySem L2 PyProof.Rows
def tMethS (C : Addr) (m : Str) (sp : Sp) (E : L2.St → XK) (ta : TE) (t : TA) : TE := fun σ H Q => ta σ H fun x H1 => ∃ a dx fs, x = V.ref a ∧ H1 a = some (.ins C dx fs) ∧ fs.lookup m = none ∧ t σ H1 fun vs H2 => sp (.ref a :: vs) H2 Q (E σ)
section
variable {X : Cx} {CX : CXT} {k : Nat} {g C : Addr} {gd : FuncData} {ps : List Str} {sp : Sp} {E : L2.St → XK} {m : Str} {p1 p2 : Pos} {e o : Expr} {es : List Expr} {ta : TE} {t : TA}
theorem pe_methS {pl : Sem Bool} (ho : PE X o ta) (cl : Cls X.K C) (M : Meth X.K C m g) (ok : FnOk X.prog X.w X.K X.mg X.base CX k g gd ps sp) (room : Room k X.A) (bi : Binds X.K gd ps []) (pass : ∀ σ, PassesAt CX X σ (E σ)) (args : PA X (e :: es) t)
    (q1 : starEach (e :: es) X.env = (false, eval e X.env) :: starEach es X.env := by rfl) (q2 : (backTo p1 (starEach es X.env)).any (·.1) = false := by rfl)
    (q3 : eval (.Call (.Attribute o m p2) (e :: es) [] p1) X.env = (do let w ← eval o X.env; standAt p2.atName; let (u, v) ← holding [w] (getMethod w m pl); callWith p1 u v (backTo p1 (starEach (e :: es) X.env)) (backToKw p1 (keywordEach [] X.env))) := by rfl) :
    PE X (.Call (.Attribute o m p2) (e :: es) [] p1) (tMethS C m sp E ta t) := ⟨fun pins s σ H Q inv h =>
  PySem.W.methodCall_KW (pl := pl) (thn (ho.run pins s σ H _ inv h) fun u s1 ⟨x, H1, inv1, rx, a, dx, fs, ex, ea, lk, q⟩ => by
    subst ex
    have eu : u = Value.ref a := rx
    subst eu
    refine getmeth_ok inv1 ea cl M lk ?_
    exact PySem.W.callWith_K (first := [.ref a]) (h₀ := X.base) inv.ok.mod.kin M.kp (thn (args.run p1 pins s1 σ H1 _ inv1 q) fun us s2 ⟨vs, H2, inv2, r, z⟩ =>
      ⟨inv2.kIn, run_fnS (us := .ref a :: us) (vs := .ref a :: vs) ok room bi (pass σ) inv2 (.cons rx r) z⟩) q1 q2) q3⟩
end
end Fam

/-! Family.held where a lot is bad; the law's word. -/
namespace Fam
open PySem L2 OwnX
open C8 (pss_cut tCut)
def spFHeld (K : PySem.W.Frag) (C BL : Addr) : Sp := fun vs H Q E => ∃ (f : Addr) (n : Nat) (ms : List Nat) (v1 v2 : V), vs = [.ref f, v1, v2] ∧ FAt C H f n ms ∧ (BadL K H n v1 ∨ ((∃ p, v1 = .ref p ∧ H p = some (.tup [])) ∧ BadL K H n v2)) ∧ ∀ H', Same H H' → E (.ref BL) none H'
structure ErrF (K : PySem.W.Frag) (mg : Str → Option Value) (B BL : Addr) : Prop where
  lot : LotErr K mg BL
  bad : BadFacts K mg B
  teL : PySem.W.exmOne K (.ref BL) (.ref BL) = some true
  nB : PySem.W.exmOne K (.ref B) (.ref BL) = some false
def spWordL (K : PySem.W.Frag) (C : Addr) : Sp := fun vs H Q _ => ∃ (d : Int) (f : Addr) (n : Nat) (ms : List Nat) (v : V), vs = [.int d, .ref f, v] ∧ FAt C H f n ms ∧
  (((d = 0 ∨ d = 1 ∨ d = 2) ∧ BadL K H n v ∧ ∀ H', Same H H' → Q (.str "lot") H') ∨ (d = 3 ∧ badAll v ∧ ∀ H', Same H H' → Q (.str "word") H'))
section
variable {P : Program} {w : World} {K : PySem.W.Frag} {mg : Str → Option Value} {base : Heap} {C B BL : Addr}
abbrev nHD : List Str := ["self", "inside", "outside", "wanted", "barred", "kept", "lot"]
theorem scHD : FnScope nHD ["self", "inside", "outside"] (defScope sFHeld) := ⟨rfl, rfl, rfl, by decide +kernel, rfl, by decide +kernel, by decide +kernel⟩
theorem ok_f_held {f : Addr} {fd : FuncData} (F : Fun K "held" "Family.held" sFHeld f fd) (FC : FamC K C) (GL : CalE P w K mg base 3 "lot_of" ["value", "size"] (spLotOfX K BL)) (GM : Cal P w K mg base 1 "mask_of" ["lot"] spMaskOf) :
    FnOk P w K mg base (L2.CX P w) 4 f fd ["self", "inside", "outside"] (spFHeld K C BL) := by
  obtain ⟨gl, gld, okl, bl, kl, ml⟩ := GL.ex
  obtain ⟨gm, gmd, okm, bm, km, mm⟩ := GM.ex
  refine F.okX scHD (fun vs H Q E h => ?_) (fun cdv A outer s H vs Q E hr h => ?_)
  · obtain ⟨f, n, ms, v1, v2, rfl, _⟩ := h
    rfl
  · obtain ⟨f, n, ms, v1, v2, rfl, hF, h, k⟩ := h
    have hr1 := hr.mono (j := 1) (by decide)
    refine ⟨_, pss_cons (ps_set (i := 3) scHD.nd rfl (Or.inr rfl) (pe_call okm hr1 rfl mm km bm .nil pass0 (pa_cons (pe_call okl hr rfl ml kl bl .nil (passes_call (takes_of rfl rfl rfl rfl) (fun _ _ _ _ h => h)) (pa_cons (pv 1) (pa_cons (pe_fld (pv 0) rfl) pa_nil))) pa_nil)))
      (pss_cons (ps_set (i := 4) scHD.nd rfl (Or.inr rfl) (pe_call okm hr1 rfl mm km bm .nil pass0 (pa_cons (pe_call okl hr rfl ml kl bl .nil (passes_call (takes_of rfl rfl rfl rfl) (fun _ _ _ _ h => h)) (pa_cons (pv 2) (pa_cons (pe_fld (pv 0) rfl) pa_nil))) pa_nil)))
      (pss_cons ps_never (pss_one ps_never))), ?_⟩
    obtain ⟨⟨dx, l, d, fs, ls, ms0, a1, a2, a3, a4, a5, a6, a7, a8, a9, a10, a11⟩, hms, h1, h2⟩ := id hF
    rcases h with hb | ⟨⟨p, rfl, hp⟩, hb⟩
    · exact ⟨_, rfl, _, rfl, f, C, dx, fs, _, rfl, a1, FC.cl, FC.size, a2, v1, n, rfl, h2, .inr ⟨hb, k⟩⟩
    · refine ⟨_, rfl, _, rfl, f, C, dx, fs, _, rfl, a1, FC.cl, FC.size, a2, .ref p, n, rfl, h2, .inl ⟨p, [], 0, rfl, hp, List.nodup_nil, fun _ => Iff.rfl, Nat.pow_pos (by decide), fun H1 q s1 hq hq' => ⟨q, 0, rfl, hq', by decide, ?_⟩⟩⟩
      exact ⟨_, rfl, _, rfl, f, C, dx, fs, _, rfl, s1 _ _ a1, FC.cl, FC.size, a2, v2, n, rfl, h2, .inr ⟨hb.same s1, fun H' s => k H' (s1.trans s)⟩⟩
abbrev nWD : List Str := ["_law_door", "_law_family_here", "_law_thing", "_law_told", "refused"]
theorem scWD : FnScope nWD ["_law_door", "_law_family_here", "_law_thing"] (defScope sWord) := ⟨rfl, rfl, rfl, by decide +kernel, rfl, by decide +kernel, by decide +kernel⟩
theorem ok_wordL {f gl gh : Addr} {fd gld ghd : FuncData} (F : Fun K "_law_word" "_law_word" sWord f fd) (FC : FamC K C) (N : ErrF K mg B BL)
    (Ml : Meth K C "looks" gl) (okl : FnOk P w K mg base (L2.CX P w) 4 gl gld ["self", "lot"] (spFLooks K C BL)) (bl : Binds K gld ["self", "lot"] [])
    (Mh : Meth K C "held" gh) (okh : FnOk P w K mg base (L2.CX P w) 4 gh ghd ["self", "inside", "outside"] (spFHeld K C BL)) (bh : Binds K ghd ["self", "inside", "outside"] [])
    (GB : CalE P w K mg base 5 "broken" ["family", "word"] (spBroken B C)) : FnOk P w K mg base CX0 6 f fd ["_law_door", "_law_family_here", "_law_thing"] (spWordL K C) := by
  obtain ⟨gb, gbd, okb, bb, kb, mb⟩ := GB.ex
  refine F.ok scWD (fun vs H Q E h => ?_) (fun cdv A outer s H vs Q E hr h => ?_)
  · obtain ⟨d, f, n, ms, v, rfl, _⟩ := h
    rfl
  · obtain ⟨d, f, n, ms, v, rfl, hF, h⟩ := h
    have hr4 := hr.mono (j := 4) (by decide)
    refine ⟨_, pss_cons (ps_set (i := 3) scWD.nd rfl (Or.inl rfl) pe_str)
      (pss_cons (ps_try_mix rfl rfl scWD.nd
          (fun W pn xe tk _ => pss_one (ps_if (pt_cmpR op_eq (pv 0) pe_int (nomark _))
            (pss_one (ps_expr (pe_methS (pv 1) FC.cl Ml okl hr4 bl (fun σ => passAt tk σ) (pa_cons (pv 2) pa_nil))))
            (pss_one (ps_if (pt_cmpR op_eq (pv 0) pe_int (nomark _))
              (pss_one (ps_expr (pe_methS (pv 1) FC.cl Mh okh hr4 bh (fun σ => passAt tk σ) (pa_cons (pv 2) (pa_cons (pe_tup pa_nil) pa_nil)))))
              (pss_one (ps_if (pt_cmpR op_eq (pv 0) pe_int (nomark _))
                (pss_one (ps_expr (pe_methS (pv 1) FC.cl Mh okh hr4 bh (fun σ => passAt tk σ) (pa_cons (pe_tup pa_nil) (pa_cons (pv 2) pa_nil)))))
                (pss_one (ps_expr (pe_callS okb hr rfl mb kb bb (fun σ => passAt tk σ) (pa_cons (pv 1) (pa_cons (pv 2) pa_nil)))))))))))
          (.plain ⟨rfl, by decide +kernel, .inl N.lot.gP⟩ (fun a oe cls d pn hz hf => pss_one (ps_set (i := 3) scWD.nd rfl (Or.inl rfl) pe_str))
            (.named (i := 4) rfl rfl ⟨rfl, by decide +kernel, .inl N.bad.gB⟩ (fun a oe cls d pn hz hf => pss_one (ps_set (i := 3) scWD.nd rfl (Or.inl rfl) (by exact pe_xf N.bad.xf N.bad.no hz hf (pv 4)))) .rest)))
      (pss_one (ps_ret (pv 3)))), ?_⟩
    obtain ⟨⟨dx, l, dd, fs, ls, ms0, a1, a2, a3, a4, a5, a6, a7, a8, a9, a10, a11⟩, hms, h1, h2⟩ := id hF
    rcases h with ⟨hd, hb, k⟩ | ⟨rfl, hb, k⟩
    · have door : ∀ {i : Int}, decide (V.int d = V.int i) = decide (d = i) := fun {i} => decide_eq_decide.mpr ⟨fun z => V.int.inj z, fun z => by rw [z]⟩
      rcases hd with rfl | rfl | rfl
      · refine ⟨_, rfl, rfl, _, rfl, iteT ⟨_, rfl, f, dx, fs, rfl, a1, a6 _ (by decide +kernel) (by decide +kernel) (by decide +kernel), _, rfl, f, n, ms, v, rfl, hF, .inr ⟨hb, fun H' s => .inl ⟨N.teL, fun a ha => ⟨_, rfl, k H' s⟩⟩⟩⟩⟩
      · refine ⟨_, rfl, rfl, _, rfl, iteF ⟨_, rfl, rfl, _, rfl, iteT ⟨_, rfl, f, dx, fs, rfl, a1, a6 _ (by decide +kernel) (by decide +kernel) (by decide +kernel), _, rfl, small (m := 1) (Nat.zero_le _), fun p hp => ?_⟩⟩⟩
        have s1 := same_new (o := .tup []) hp
        exact ⟨f, n, ms, v, .ref p, rfl, hF.same s1, .inl (hb.same s1), fun H' s => .inl ⟨N.teL, fun a ha => ⟨_, rfl, k H' (s1.trans s)⟩⟩⟩
      · refine ⟨_, rfl, rfl, _, rfl, iteF ⟨_, rfl, rfl, _, rfl, iteF ⟨_, rfl, rfl, _, rfl, iteT ⟨_, rfl, f, dx, fs, rfl, a1, a6 _ (by decide +kernel) (by decide +kernel) (by decide +kernel), small (m := 1) (Nat.zero_le _), fun p hp => ⟨_, rfl, ?_⟩⟩⟩⟩⟩
        have s1 := same_new (o := .tup []) hp
        exact ⟨f, n, ms, .ref p, v, rfl, hF.same s1, .inr ⟨⟨p, rfl, upd_same⟩, hb.same s1⟩, fun H' s => .inl ⟨N.teL, fun a ha => ⟨_, rfl, k H' (s1.trans s)⟩⟩⟩
    · refine ⟨_, rfl, rfl, _, rfl, iteF ⟨_, rfl, rfl, _, rfl, iteF ⟨_, rfl, rfl, _, rfl, iteF ⟨_, rfl, _, rfl, f, n, ms, v, rfl, hF, .inr ⟨hb, fun d H' s hd hd' => .inr ⟨N.nB, .inl ⟨N.bad.te, fun a ha => ?_⟩⟩⟩⟩⟩⟩⟩
      exact ⟨_, rfl, rfl, rfl, d, _, _, rfl, hd', rfl, _, rfl, k H' s⟩
end
end Fam

/-! t[::-1] of a tuple. -/
namespace TupRev
open PySem PySem.Spec PyProof.Rows HT
section
variable {prog : Program} {w : World} {A : Around} {E : Value → Shared → Prop} {s : Shared}
theorem adj (n : Nat) : Builtin.Slice.sliceAdjust none none (-1) (n : Int) = ((n : Int) - 1, -1) := by
  unfold Builtin.Slice.sliceAdjust
  simp
theorem plc (n : Nat) : Builtin.Slice.slicePlaces ((n : Int) - 1) (-1) (-1) = n := by
  unfold Builtin.Slice.slicePlaces
  by_cases h : n = 0
  · subst h
    rfl
  · simp
    omega
theorem picks (xs : Array Value) : ((List.range xs.size).filterMap fun (m : Nat) => xs[(((xs.size : Int) - 1) + (m : Int) * (-1)).toNat]?) = xs.toList.reverse := by
  have e : (fun (m : Nat) => xs[(((xs.size : Int) - 1) + (m : Int) * (-1)).toNat]?) = (fun k => xs[k]?) ∘ fun m => xs.size - 1 - m := by
    funext m
    have e1 : (((xs.size : Int) - 1) + (m : Int) * (-1)).toNat = xs.size - 1 - m := by omega
    rw [e1]
    rfl
  rw [e, ← List.filterMap_map, PySem.W.krv_range, List.filterMap_reverse, PySem.W.krv_all]
theorem applied {sl : Addr} {u1 u2 : Value} {t : Tok} {n : Nat} {Q : Int × Int × Nat → Shared → Prop} (hs : s.heap.IsSliceOf sl u1 u2 (.int (-1) t)) (p1 : IsPart u1 none) (p2 : IsPart u2 none) (h : Q ((n : Int) - 1, -1, n) s) :
    wpAny (model prog w) A (Builtin.Slice.sliceApplied (.ref sl) (pure (n : Int))) Q E s := by
  obtain ⟨ob, g1, g2, g3⟩ := id hs
  unfold Builtin.Slice.sliceApplied Builtin.Slice.sliceFields
  refine wpAny_bind (wpAny_bind (wpAny_field g1 g3 (x := u1) rfl (wpAny_bind (wpAny_field g1 g3 (x := u2) rfl (wpAny_bind (wpAny_field g1 g3 (x := .int (-1) t) rfl (wpAny_pure ?_)))))))
  refine wpAny_bind (slicePart_int ?_)
  show wpAny _ _ (if ((-1 : Int) == 0) = true then _ else _) _ _ s
  rw [if_neg (by decide)]
  refine wpAny_bind (slicePart_ p1 (wpAny_bind (slicePart_ p2 (wpAny_bind (wpAny_pure ?_)))))
  show wpAny _ _ (match Builtin.Slice.sliceAdjust none none (-1) (n : Int) with | (x, y) => pure (x, (-1 : Int), Builtin.Slice.slicePlaces x y (-1))) _ _ s
  rw [adj n]
  show wpAny _ _ (pure ((n : Int) - 1, (-1 : Int), Builtin.Slice.slicePlaces ((n : Int) - 1) (-1) (-1))) _ _ s
  rw [plc]
  exact wpAny_pure h
theorem getRev {t sl : Addr} {xs : Array Value} {u1 u2 : Value} {tk : Tok} {Q : Value → Shared → Prop} (ht : IsTup s.heap t xs) (hs : s.heap.IsSliceOf sl u1 u2 (.int (-1) tk)) (p1 : IsPart u1 none) (p2 : IsPart u2 none)
    (h : Q (.ref s.heap.objs.size) { s with heap := s.heap.push { cls := .type "tuple", data := .seq xs.toList.reverse.toArray } }) (z : xs.size ≤ sizeLine) : wpAny (model prog w) A (getItem (.ref t) (.ref sl)) Q E s := by
  have ok : sizeOk (.seq xs.toList.reverse.toArray) := by
    show xs.toList.reverse.toArray.size ≤ sizeLine
    rw [List.size_toArray, List.length_reverse, Array.length_toList]
    exact z
  obtain ⟨ob, g1, g2, g3⟩ := id hs
  have ts : s.TypeIs (.ref sl) "slice" := ⟨ob, g1, g2⟩
  unfold getItem
  try with_reducible refine wpAny_holding ?_
  refine wpAny_bind (wpAny_sequenceKey ht.typeIs (by decide) (wpAny_bind (wpAny_callSpecial?_slot (name := Str.ofString "__getitem__") ht.typeIs PyProof.Rows.slot_tuple_getitem (wpAny_call_entry PyProof.Rows.slot_tuple_getitem ht.typeIs entry_tuple_getitem ?_ (args_tuple_getitem _ _)))))
  show wpAny _ _ (Builtin.Tuple.tupleItemsOf (.ref t) >>= _) _ _ s
  refine wpAny_bind (tupleItemsOf_ ht (wpAny_bind (wpAny_typeOf ts ?_)))
  rw [if_pos (by decide)]
  refine wpAny_bind (applied (n := xs.size) hs p1 p2 ?_)
  have no : ¬ ((((xs.size : Int) - 1) == 0 && (-1 : Int) == 1 && xs.size == xs.size) = true) := by
    rw [show ((-1 : Int) == 1) = false from rfl, Bool.and_false, Bool.false_and]
    exact Bool.false_ne_true
  show wpAny _ _ (if (((xs.size : Int) - 1) == 0 && (-1 : Int) == 1 && xs.size == xs.size) = true then _ else _) _ _ s
  rw [if_neg no, picks]
  first | exact wpAny_bind (m := Builtin.Tuple.tupleExact _) (wpAny_newObj_type (wpAny_pure ⟨_, rfl, wpAny_pure h⟩) ok) | exact wpAny_bind (m := Builtin.Tuple.tupleExact _) (wpAny_newObj_type (wpAny_bind (wpAny_pure (wpAny_pure ⟨_, rfl, wpAny_pure h⟩))) ok) | exact wpAny_bind (wpAny_bind (m := Builtin.Tuple.tupleExact _) (wpAny_newObj_type (wpAny_pure (wpAny_pure ⟨_, rfl, wpAny_pure h⟩)) ok)) | exact wpAny_bind (wpAny_bind (m := Builtin.Tuple.tupleExact _) (wpAny_newObj_type (wpAny_pure ⟨_, rfl, wpAny_pure h⟩) ok))
end
end TupRev
namespace L2
open PySem PySem.Spec PyProof.Rows
section
variable {X : Cx}
def tRevT (K : PySem.W.Frag) (te : TE) : TE := fun σ H Q => te σ H fun x H1 => ∃ a xs, x = V.ref a ∧ SqT K H1 a xs ∧ ∀ p, H1 p = none → Q (.ref p) (upd H1 p (.tup xs.reverse))
theorem pe_revT {e : Expr} {te : TE} {k : Nat} {p1 p2 p3 pos : Pos} (he : PE X e te) : PE X (.Subscript e (.Slice none none (some (.UnaryOp .USub (.Constant (.int 1) k p1) p2)) p3) pos) (tRevT X.K te) := ⟨fun pins s σ H Q inv h => by
  refine Subscript_ (thn (he.run pins s σ H _ inv h) fun v s1 ⟨x, H1, i1, r1, a, xs, ex, hx, q⟩ => ?_)
  subst ex
  cases r1
  have step : PO X (some (.UnaryOp .USub (.Constant (.int 1) k p1) p2)) (tPart (tUn (rU fun i => .int (-i)) (tC (.int 1)))) := po_some (pe_un un_neg pe_int)
  refine wpAny_Slice (thn (po_none.run pins s1 σ H1 (fun o G => o = none ∧ G = H1) i1 ⟨rfl, rfl⟩) fun v1 s2 ⟨o1, H2, i2, q1, z1, z2⟩ => ?_)
  subst z1 z2
  refine thn (po_none.run pins s2 σ H2 (fun o G => o = none ∧ G = H2) i2 ⟨rfl, rfl⟩) fun v2 s3 ⟨o2, H3, i3, q2, z1, z2⟩ => ?_
  subst z1 z2
  refine thn (step.run pins s3 σ H3 (fun o G => o = some (-1) ∧ G = H3) i3 ⟨1, rfl, -1, rfl, rfl, rfl⟩) fun v3 s4 ⟨o3, H4, i4, q3, z1, z2⟩ => ?_
  subst z1 z2
  cases q3 with
  | int i tk =>
  have i5 : L2.Inv X pins σ H4 { s4 with heap := s4.heap.push { cls := .type "slice", data := .fields #[v1, v2, .int (-1) tk] } } := i4.kept (t' := s4.toks) fun b ob g => Heap.get?_push_of_some _ g
  obtain ⟨its, r, ht, hz⟩ := i5.tuple hx
  have len := r.length
  show wpAny (model X.prog X.w) X.A (subscriptTail e (.Slice none none (some (.UnaryOp .USub (.Constant (.int 1) k p1) p2)) p3) (.ref a) (.ref s4.heap.objs.size)) (EP X pins σ Q) X.xe { s4 with heap := s4.heap.push { cls := .type "slice", data := .fields #[v1, v2, .int (-1) tk] } }
  refine tail_any (ops := [.ref a, .ref s4.heap.objs.size]) ht.typeIs (PyProof.Rows.slot_tuple_getitem.lookup) ?_ (by with_unfolding_all rfl)
  refine TupRev.getRev ht (Heap.IsSliceOf.new _ v1 v2 (.int (-1) tk)) q1 q2 ?_ (by rw [List.size_toArray]; omega)
  refine ⟨.ref _, _, i5.laid (t' := s4.toks) (o := .tup xs.reverse) (fun b ob g => Heap.get?_push_of_some _ g) (Nat.le_refl _) ?_, rfl, q _ (i5.hok.fresh (Nat.le_refl _))⟩
  exact ⟨by rw [List.length_reverse]; exact hz, _, r.reverse, IsTup.new _ _⟩⟩
end
end L2

/-! The law's told_ok. -/
namespace Fam
open PySem L2
open C8 (pss_cut tCut)
theorem cal_noex {P : Program} {w : World} {K : PySem.W.Frag} {mg : Str → Option Value} {base : Heap} {k : Nat} {x : Str} {ps : List Str} {sp : Sp} (G : CalE P w K mg base k x ps sp) : Cal P w K mg base k x ps (fun vs H Q _ => sp vs H Q E0) := by
  obtain ⟨g, gd, ok, b, kp, mf⟩ := G.ex
  exact ⟨g, gd, ok_noex ok, b, kp, mf⟩
theorem cal_imp {P : Program} {w : World} {K : PySem.W.Frag} {mg : Str → Option Value} {base : Heap} {k : Nat} {x : Str} {ps : List Str} {sp sp' : Sp} (G : Cal P w K mg base k x ps sp) (h : ∀ vs H Q E, sp' vs H Q E → sp vs H Q E) : Cal P w K mg base k x ps sp' := by
  obtain ⟨g, gd, ok, b, kp, mf⟩ := G.ex
  exact ⟨g, gd, ok.imp h, b, kp, mf⟩
/-! ### what is told, as data -/
def Told (H : Hp) : Option (List Nat) → V → Prop
  | none, v => v = .non
  | some l, v => ∃ p ps, v = .ref p ∧ H p = some (.tup ps) ∧ LotsAt H ps l ∧ l ≠ []
def dL : Option (List Nat) → PyData
  | none => .none
  | some l => .tuple (l.map dLot)
theorem Told.same {H H' : Hp} (s : Same H H') : ∀ {o : Option (List Nat)} {v : V}, Told H o v → Told H' o v
  | none, _, h => h
  | some _, _, ⟨p, ps, e, hp, hL, ne⟩ => ⟨p, ps, e, s _ _ hp, hL.same s, ne⟩
theorem Told.dp {K : PySem.W.Frag} {H : Hp} : ∀ {o : Option (List Nat)} {v : V}, Told H o v → Dp K H v (dL o)
  | none, _, h => by rw [show _ = V.non from h]; exact .non
  | some _, _, ⟨p, ps, e, hp, hL, ne⟩ => by rw [e]; exact .tup (SqT.of hp) (dp_lots hL)
theorem shaped_dL : ∀ o : Option (List Nat), SeqAt.shaped (dL o) = true
  | none => rfl
  | some l => by
    have c := can_lots l
    have d := depth_lots l
    show SeqAt.shaped (.tuple (l.map dLot)) = true
    unfold SeqAt.shaped
    rw [Bool.and_eq_true]
    exact ⟨by simp only [PyData.canLay0]; exact c, decide_eq_true (by simp only [PyData.depth]; omega)⟩
theorem LotsAt.last {H : Hp} : ∀ {ps : List V} {l : List Nat}, LotsAt H ps l → l ≠ [] → ∃ (xs : List V) (q : Addr) (m : Nat), ps = xs ++ [.ref q] ∧ H q = some (.tup (lotV m))
  | [], [], _, ne => absurd rfl ne
  | [v], [m], ⟨⟨p, e, h⟩, _⟩, _ => ⟨[], p, m, by rw [e]; rfl, h⟩
  | v :: w :: vs, m :: k :: ms, ⟨_, h⟩, _ => by
    obtain ⟨xs, q, m', e, hq⟩ := LotsAt.last (ps := w :: vs) (l := k :: ms) h (by intro z; cases z)
    exact ⟨v :: xs, q, m', by rw [e]; rfl, hq⟩
  | [v], m :: k :: ms, ⟨_, h⟩, _ => h.elim
  | v :: w :: vs, [m], ⟨_, h⟩, _ => h.elim
def foundL (o : Bool) (ms ms0 : List Nat) : Option (List Nat) := (pairD (bad2 o ms) ms0).map fun p => [p.1, p.2] ++ thL o ms0 (p.1 &&& p.2) (xorN p.1 p.2)
theorem pairD_bad {bad : Nat → Nat → Bool} {ins : List Nat} {q : Nat × Nat} (e : pairD bad ins = some q) : bad q.1 q.2 = true := by
  obtain ⟨x, _, ex⟩ := List.exists_of_findSome?_eq_some e
  obtain ⟨y, _, ey⟩ := List.exists_of_findSome?_eq_some ex
  unfold pd2 at ey
  cases hb : bad x y with
  | false => rw [hb, if_neg (by decide)] at ey; cases ey
  | true => rw [hb, if_pos rfl] at ey; cases ey; exact hb
theorem trip_found {ms ms0 : List Nat} (p : ms0.Perm ms) : (ms0.findSome? (tri1 ms ms0)).map (fun t => [t.1, t.2.1, t.2.2]) = foundL true ms ms0 := by
  rw [triple_pair fun z => p.mem_iff]
  unfold foundL
  cases e : pairD (bad2 true ms) ms0 with
  | none => rfl
  | some q =>
    have hb := pairD_bad e
    rw [bad_two] at hb
    obtain ⟨z, hz, qz⟩ := List.any_eq_true.mp hb
    have ep : (fun z => !decide (maj q.1 q.2 z ∈ ms0)) = fun z => !decide (maj q.1 q.2 z ∈ ms) := by
      funext z
      rw [show decide (maj q.1 q.2 z ∈ ms0) = decide (maj q.1 q.2 z ∈ ms) from decide_eq_decide.mpr p.mem_iff]
    show Option.map _ (Option.map _ (ms0.find? fun z => !decide (maj q.1 q.2 z ∈ ms))) = some ([q.1, q.2] ++ thL true ms0 (q.1 &&& q.2) (xorN q.1 q.2))
    rw [third_two, ep]
    cases ef : ms0.find? fun z => !decide (maj q.1 q.2 z ∈ ms) with
    | none => exact absurd qz (List.find?_eq_none.mp ef z (p.mem_iff.mpr hz))
    | some u => rfl
def spBrokenT (C : Addr) : Sp := fun vs H Q _ => ∃ (f : Addr) (n : Nat) (ms : List Nat) (o : Bool), vs = [.ref f, wdV o] ∧ FAt C H f n ms ∧ ∀ (H' : Hp) (ms0 : List Nat) (v : V), ms0.Perm ms → ms0.Pairwise lotLe → Same H H' → Told H' (foundL o ms ms0) v → Q v H'
theorem broken_told {P : Program} {w : World} {K : PySem.W.Frag} {mg : Str → Option Value} {base : Heap} {B C : Addr} (G : CalE P w K mg base 5 "broken" ["family", "word"] (spBroken B C)) : Cal P w K mg base 5 "broken" ["family", "word"] (spBrokenT C) :=
  cal_imp (cal_noex G) fun vs H Q E h => by
    obtain ⟨f, n, ms, o, rfl, hF, k⟩ := h
    refine ⟨f, n, ms, wdV o, rfl, hF, .inl ⟨o, rfl, fun H' ms0 pm srt s => ⟨fun e => k H' ms0 _ pm srt s ?_, fun x y ps p e hp hL => k H' ms0 _ pm srt s ?_⟩⟩⟩
    · unfold foundL
      rw [e]
      exact rfl
    · unfold foundL
      rw [e]
      exact ⟨p, ps, rfl, hp, hL, by intro z; cases z⟩
def spToldOk (K : PySem.W.Frag) (C : Addr) : Sp := fun vs H Q _ => ∃ (f m : Addr) (n : Nat) (ms : List Nat), vs = [.ref f, .ref m] ∧ FAt C H f n ms ∧ SqL K H m (ms.map vInt) ∧ ∀ H', Same H H' → Q (.bl true) H'
section
variable {P : Program} {w : World} {K : PySem.W.Frag} {mg : Str → Option Value} {base : Heap} {C : Addr}
abbrev nTO : List Str := ["_law_family_here", "_law_masks", "_law_pair", "_law_three", "_law_found"]
theorem scTO : FnScope nTO ["_law_family_here", "_law_masks"] (defScope sToldOk) := ⟨rfl, rfl, rfl, by decide +kernel, rfl, by decide +kernel, by decide +kernel⟩
theorem ok_told_ok {f : Addr} {fd : FuncData} (F : Fun K "_law_told_ok" "_law_told_ok" sToldOk f fd) (T : Bare mg) (FC : FamC K C) (GB : Cal P w K mg base 5 "broken" ["family", "word"] (spBrokenT C)) (GP : Cal P w K mg base 4 "_law_pair_due" ["_law_masks", "_law_size"] (spPairDue K)) (GT : Cal P w K mg base 4 "_law_triple_due" ["_law_masks", "_law_size"] (spTripleDue K)) (GS : Cal P w K mg base 2 "_law_shown" ["_law_found"] (spShown K)) :
    FnOk P w K mg base CX0 6 f fd ["_law_family_here", "_law_masks"] (spToldOk K C) := by
  obtain ⟨gb, gbd, okb, bb, kb, mb⟩ := GB.ex
  obtain ⟨gp, gpd, okp, bp, kp, mp⟩ := GP.ex
  obtain ⟨gt, gtd, okt, bt, kt, mt⟩ := GT.ex
  obtain ⟨gs, gsd, oks, bs, ks, ms_⟩ := GS.ex
  refine F.ok scTO (fun vs H Q E h => ?_) (fun cdv A outer s H vs Q E hr h => ?_)
  · obtain ⟨f, m, n, ms, rfl, _⟩ := h
    rfl
  · obtain ⟨f, m, n, ms, rfl, hF, hM, k⟩ := h
    have hr4 := hr.mono (j := 4) (by decide)
    have hr2 := hr.mono (j := 2) (by decide)
    refine ⟨_, (pss_cut (ps_set (i := 2) scTO.nd rfl (Or.inl rfl) (pe_call okb hr rfl mb kb bb .nil pass0 (pa_cons (pv 0) (pa_cons pe_str pa_nil))))
      (pss_cut (ps_set (i := 3) scTO.nd rfl (Or.inl rfl) (pe_call okb hr rfl mb kb bb .nil pass0 (pa_cons (pv 0) (pa_cons pe_str pa_nil))))
      (pss_cut (ps_if (pt_cmpR (op_neD hr.units) (pv 2) (pe_call oks hr2 rfl ms_ ks bs .nil pass0 (pa_cons (pe_call okp hr4 rfl mp kp bp .nil pass0 (pa_cons (pv 1) (pa_cons (pe_fld (pv 0) rfl) pa_nil))) pa_nil)) (nomark _)) (pss_one (ps_ret pe_bl)) pss_nil)
      (pss_cut (ps_if (pt_cmpR (op_neD hr.units) (pv 3) (pe_call oks hr2 rfl ms_ ks bs .nil pass0 (pa_cons (pe_call okt hr4 rfl mt kt bt .nil pass0 (pa_cons (pv 1) (pa_cons (pe_fld (pv 0) rfl) pa_nil))) pa_nil)) (nomark _)) (pss_one (ps_ret pe_bl)) pss_nil)
      (pss_cons (ps_for PassesOwn.never rfl (pi_list (pe_lst (pa_cons (pv 2) (pa_cons (pv 3) pa_nil)))) (pg_name (i := 4) scTO.nd rfl (Or.inl rfl))
          (pss_one (ps_if (PW.pt (pw_and (pt_cmpR op_notN (pv 4) pe_non (nomark _)) (pw_and1 (PW.pt (pw_or (pt_not (pt_val (pe_callB call_isi (by rfl) T.isi (by decide +kernel) (pa_cons (pv 4) (pa_cons (pe_ty (n := "tuple") (by rfl) T.tuple (by decide +kernel)) pa_nil))))) (pw_or1 (pt_not (pt_val (pe_callB call_isi (by rfl) T.isi (by decide +kernel) (pa_cons (pe_ix ix_tup (pv 4) (pe_un un_neg pe_int) (fun _ _ => rfl)) (pa_cons (pe_ty (n := "tuple") (by rfl) T.tuple (by decide +kernel)) pa_nil))))))))))) (pss_one (ps_ret pe_bl)) pss_nil)))
      (pss_one (ps_ret pe_bl))))))), ?_⟩
    obtain ⟨hms, h1, h2⟩ : Masks n ms ∧ 1 ≤ n ∧ n ≤ 10 := ⟨hF.ms, hF.h1, hF.h2⟩
    refine ⟨fun σ' H' => ∃ v2 ms0, ms0.Perm ms ∧ ms0.Pairwise lotLe ∧ σ' = [some (.ref f), some (.ref m), some v2, none, none] ∧ Told H' (foundL false ms ms0) v2 ∧ Same H H', ⟨_, rfl, f, n, ms, false, rfl, hF, fun H' ms0 v pm srt s t => ⟨_, ms0, pm, srt, rfl, t, s⟩⟩, ?_⟩
    rintro _ H1 ⟨v2, m2, pm2, srt2, rfl, t2, s1⟩
    refine ⟨fun σ' H' => ∃ v3 ms0, ms0.Perm ms ∧ ms0.Pairwise lotLe ∧ σ' = [some (.ref f), some (.ref m), some v2, some v3, none] ∧ Told H' (foundL true ms ms0) v3 ∧ Same H1 H', ⟨_, rfl, f, n, ms, true, rfl, hF.same s1, fun H' ms0 v pm srt s t => ⟨_, ms0, pm, srt, rfl, t, s⟩⟩, ?_⟩
    rintro _ H2 ⟨v3, m3, pm3, srt3, rfl, t3, s2⟩
    have s02 := s1.trans s2
    have hM2 := s02.seq hM
    obtain ⟨⟨dx, l, d, fs, ls, ms0, a1, a2, _⟩, _⟩ := id (hF.same s02)
    refine ⟨fun σ' H' => σ' = [some (.ref f), some (.ref m), some v2, some v3, none] ∧ Same H2 H', ?_, ?_⟩
    · have t2' := t2.same s2
      refine ⟨_, rfl, _, rfl, _, rfl, f, C, dx, fs, _, rfl, a1, FC.cl, FC.size, a2, m, ms, n, rfl, hM2, h1, h2, fun H3 os ho s3 => ?_⟩
      have ei : pairDue false ms os = pairD (bad2 false ms) m2 := by
        unfold pairDue
        rw [inside_eq h2 hms pm2 srt2 ho]
      have eo : foundL false ms m2 = (pairDue false ms os).map fun p => [p.1, p.2] := by
        rw [ei]
        unfold foundL
        cases pairD (bad2 false ms) m2 <;> rfl
      rw [eo] at t2'
      refine ⟨fun e => ?_, fun x y p e hp hp' => ?_⟩
      · rw [e] at t2'
        refine .inl ⟨rfl, dL none, dL none, (t2'.same s3).dp, .non, shaped_dL _, shaped_dL _, _, rfl, ?_⟩
        rw [eqv_same (shaped_dL none)]
        exact iteF ⟨rfl, s3⟩
      · rw [e] at t2'
        refine .inr ⟨p, [x, y], rfl, SqT.of hp', (by show 2 ≤ 100000; decide), fun H4 p4 xs4 s4 hp4 hx4 hL4 => ?_⟩
        have s34 := s3.trans s4
        refine ⟨dL (some [x, y]), dL (some [x, y]), (t2'.same s34).dp, .tup (SqT.of hx4) (dp_lots hL4), shaped_dL _, shaped_dL _, _, rfl, ?_⟩
        rw [eqv_same (shaped_dL (some [x, y]))]
        exact iteF ⟨rfl, s34⟩
    rintro _ H3 ⟨rfl, s3⟩
    have s03 := s02.trans s3
    refine ⟨fun σ' H' => σ' = [some (.ref f), some (.ref m), some v2, some v3, none] ∧ Same H3 H', ?_, ?_⟩
    · have t3' := t3.same s3
      refine ⟨_, rfl, _, rfl, _, rfl, f, C, dx, fs, _, rfl, s3 _ _ a1, FC.cl, FC.size, a2, m, ms, n, rfl, s03.seq hM, h1, h2, fun H4 os ho s4 => ?_⟩
      have eo : foundL true ms m3 = (tripleDue ms os).map fun t => [t.1, t.2.1, t.2.2] := by
        unfold tripleDue
        rw [inside_eq h2 hms pm3 srt3 ho, trip_found pm3]
      rw [eo] at t3'
      refine ⟨fun e => ?_, fun x y z p e hp hp' => ?_⟩
      · rw [e] at t3'
        refine .inl ⟨rfl, dL none, dL none, (t3'.same s4).dp, .non, shaped_dL _, shaped_dL _, _, rfl, ?_⟩
        rw [eqv_same (shaped_dL none)]
        exact iteF ⟨rfl, s4⟩
      · rw [e] at t3'
        refine .inr ⟨p, [x, y, z], rfl, SqT.of hp', (by show 3 ≤ 100000; decide), fun H5 p5 xs5 s5 hp5 hx5 hL5 => ?_⟩
        have s45 := s4.trans s5
        refine ⟨dL (some [x, y, z]), dL (some [x, y, z]), (t3'.same s45).dp, .tup (SqT.of hx5) (dp_lots hL5), shaped_dL _, shaped_dL _, _, rfl, ?_⟩
        rw [eqv_same (shaped_dL (some [x, y, z]))]
        exact iteF ⟨rfl, s45⟩
    rintro _ H4 ⟨rfl, s4⟩
    have s34 := s3.trans s4
    have tt : ∀ x ∈ [v2, v3], ∃ o, Told H4 o x := fun x hx => by
      rcases List.mem_cons.mp hx with e | hx
      · exact ⟨_, by rw [e]; exact t2.same (s2.trans s34)⟩
      · exact ⟨_, by rw [List.mem_singleton.mp hx]; exact t3.same s34⟩
    refine ⟨_, rfl, _, rfl, small (m := 2) (Nat.le_refl _), fun D hD => ⟨D, rfl, ⟨_, SqL.of upd_same⟩, ?_⟩⟩
    refine for_list (K := K) (xs := [v2, v3]) (fun i σ H' => (∃ y4, σ = [some (.ref f), some (.ref m), some v2, some v3, y4]) ∧ Same (upd H4 D (.lst [v2, v3])) H') ⟨⟨none, rfl⟩, Same.refl _⟩ (fun i σ H' _ h => SqL.of (h.2 _ _ upd_same)) ?_ ?_
    · rintro i x σ H5 hx ⟨⟨y4, rfl⟩, s5⟩
      obtain ⟨o, ho⟩ := tt x (List.mem_of_getElem? hx)
      have ho := ho.same ((same_new hD).trans s5)
      match o, ho with
      | none, e =>
        have e : x = .non := e
        subst e
        exact ⟨_, rfl, rfl, _, rfl, iteF ⟨⟨_, rfl⟩, s5⟩⟩
      | some l, ⟨p, ps, e, hp, hL, ne⟩ =>
        subst e
        obtain ⟨xs, q, mm, rfl, hq⟩ := hL.last ne
        refine ⟨_, rfl, rfl, _, rfl, iteT ?_⟩
        refine ⟨_, rfl, _, _, _, _, true, rfl, .ty _, .base (.tup hp), kit_ty (by decide +kernel), _, rfl, iteF ?_⟩
        refine ⟨_, rfl, _, rfl, p, _, _, .ref q, rfl, rfl, SqT.of hp, atI_last _ _, _, _, _, _, true, rfl, .ty _, .base (.tup hq), kit_ty (by decide +kernel), _, rfl, iteF ⟨⟨_, rfl⟩, s5⟩⟩
    · rintro σ H5 ⟨_, s5⟩
      exact k _ (s02.trans (s34.trans ((same_new hD).trans s5)))
end
end Fam

/-! The law's all_ok. -/
namespace Fam
open PySem L2
open C8 (pss_cut tCut)
def ClosedBy (o : Bool) (ms : List Nat) : Prop := if o = true then ClosedMaj ms else ClosedAnd ms
theorem found_none {o : Bool} {ms ms0 : List Nat} (p : ms0.Perm ms) : foundL o ms ms0 = none ↔ ClosedBy o ms := by
  have e : foundL o ms ms0 = none ↔ pairD (bad2 o ms) ms0 = none := by
    unfold foundL
    cases pairD (bad2 o ms) ms0 <;> simp
  rw [e, pairD_none]
  cases o with
  | false =>
    show _ ↔ ClosedAnd ms
    constructor
    · intro h x hx y hy
      have := h x (p.mem_iff.mpr hx) y (p.mem_iff.mpr hy)
      rw [bad_and] at this
      exact of_decide_eq_true (by simpa using this)
    · intro h x hx y hy
      rw [bad_and, decide_eq_true (h x (p.mem_iff.mp hx) y (p.mem_iff.mp hy))]
      rfl
  | true =>
    show _ ↔ ClosedMaj ms
    constructor
    · intro h x hx y hy z hz
      have := h x (p.mem_iff.mpr hx) y (p.mem_iff.mpr hy)
      rw [bad_two] at this
      have q := List.any_eq_false.mp this z hz
      exact of_decide_eq_true (by simpa using q)
    · intro h x hx y hy
      rw [bad_two]
      refine List.any_eq_false.mpr fun z hz => ?_
      rw [decide_eq_true (h x (p.mem_iff.mp hx) y (p.mem_iff.mp hy) z hz)]
      decide
theorem told_non {H : Hp} : ∀ {o : Option (List Nat)} {v : V}, Told H o v → (decide (v = V.non) = true ↔ o = none)
  | none, v, h => by
    have h : v = .non := h
    subst h
    exact ⟨fun _ => rfl, fun _ => rfl⟩
  | some l, v, ⟨p, ps, e, _⟩ => by
    subst e
    exact ⟨fun z => (by cases (of_decide_eq_true z)), fun z => (by cases z)⟩
def spFLooksT (C : Addr) : Sp := fun vs H Q _ => ∃ (f p : Addr) (n : Nat) (ms : List Nat) (is : List Int) (m : Nat), vs = [.ref f, .ref p] ∧ FAt C H f n ms ∧ H p = some (.tup (is.map V.int)) ∧ is.Nodup ∧ (∀ k, k ∈ is ↔ k ∈ lotI m) ∧ m < 2 ^ n ∧ ∀ (H' : Hp) (b : Bool), Same H H' → (b = true ↔ LooksAs n ms m) → Q (.bl b) H'
theorem looks_good {P : Program} {w : World} {K : PySem.W.Frag} {mg : Str → Option Value} {base : Heap} {C BL g : Addr} {gd : FuncData} (ok : FnOk P w K mg base (L2.CX P w) 4 g gd ["self", "lot"] (spFLooks K C BL)) : FnOk P w K mg base CX0 4 g gd ["self", "lot"] (spFLooksT C) :=
  (ok_noex ok).imp fun vs H Q E h => by
    obtain ⟨f, p, n, ms, is, m, rfl, hF, hp, nd, hm, lt, k⟩ := h
    exact ⟨f, n, ms, .ref p, rfl, hF, .inl ⟨p, is, m, rfl, hp, nd, hm, lt, k⟩⟩
section
variable {P : Program} {w : World} {K : PySem.W.Frag} {mg : Str → Option Value} {base : Heap} {C : Addr}
abbrev nAllOk : List Str := ["_law_family_here", "_law_masks", "_law_size", "_law_holders", "_law_pairs", "_law_mask_here", "_law_due", "_law_told"]
theorem scAllOk : FnScope nAllOk ["_law_family_here", "_law_masks"] (defScope sAllOk) := ⟨rfl, rfl, rfl, by decide +kernel, rfl, by decide +kernel, by decide +kernel⟩
theorem ok_all_ok {f gk : Addr} {fd gkd : FuncData} (F : Fun K "_law_all_ok" "_law_all_ok" sAllOk f fd) (T : Bare mg) (FC : FamC K C) (M_looks : Meth K C "looks" gk) (okL : FnOk P w K mg base CX0 4 gk gkd ["self", "lot"] (spFLooksT C)) (b_looks : Binds K gkd ["self", "lot"] [])
    (GB : Cal P w K mg base 5 "broken" ["family", "word"] (spBrokenT C)) (GF : Cal P w K mg base 1 "_law_full" ["_law_size"] spFull) (GH : Cal P w K mg base 2 "_law_held_so" ["_law_masks", "_law_mask_here", "_law_size"] (spHeldSo K)) (GL : Cal P w K mg base 2 "_law_looks" ["_law_masks", "_law_mask_here", "_law_size"] (spLooks K)) (GO : Cal P w K mg base 1 "_law_lot" ["_law_mask_here"] spLot) :
    FnOk P w K mg base CX0 6 f fd ["_law_family_here", "_law_masks"] (spToldOk K C) := by
  obtain ⟨_, _, ok_b, b_b, k_b, m_b⟩ := GB.ex
  obtain ⟨_, _, ok_f, b_f, k_f, m_f⟩ := GF.ex
  obtain ⟨_, _, ok_h, b_h, k_h, m_h⟩ := GH.ex
  obtain ⟨_, _, ok_l, b_l, k_l, m_l⟩ := GL.ex
  obtain ⟨_, _, ok_o, b_o, k_o, m_o⟩ := GO.ex
  refine F.ok scAllOk (fun vs H Q E h => ?_) (fun cdv A outer s H vs Q E hr h => ?_)
  · obtain ⟨f, m, n, ms, rfl, _⟩ := h
    rfl
  · obtain ⟨f, m, n, ms, rfl, hF, hM, k⟩ := h
    have hr4 := hr.mono (j := 4) (by decide)
    have hr2 := hr.mono (j := 2) (by decide)
    have hr1 := hr.mono (j := 1) (by decide)
    refine ⟨_, (pss_cons (ps_set (i := 2) scAllOk.nd rfl (Or.inl rfl) (pe_fld (pv 0) rfl))
      (pss_cons (ps_set (i := 3) scAllOk.nd rfl (Or.inl rfl) pe_bl)
      (pss_cons (ps_set (i := 4) scAllOk.nd rfl (Or.inl rfl) pe_bl)
      (pss_cons (ps_for PassesOwn.never rfl (pi_range1 rfl T.range (pa_cons (pe_call ok_f hr1 rfl m_f k_f b_f .nil pass0 (pa_cons (pv 2) pa_nil)) pa_nil)) (pg_name (i := 5) scAllOk.nd rfl (Or.inl rfl))
          (pss_cut (ps_if (PW.pt (pw_and (pt_cmpR op_notIn_seq (pv 5) (pv 1) (by rfl)) (pw_and1 (pt_val (pe_call ok_h hr2 rfl m_h k_h b_h .nil pass0 (pa_cons (pv 1) (pa_cons (pv 5) (pa_cons (pv 2) pa_nil)))))))) (pss_one (ps_set (i := 3) scAllOk.nd rfl (Or.inl rfl) pe_bl)) pss_nil)
          (pss_cut (ps_set (i := 6) scAllOk.nd rfl (Or.inl rfl) (pe_call ok_l hr2 rfl m_l k_l b_l .nil pass0 (pa_cons (pv 1) (pa_cons (pv 5) (pa_cons (pv 2) pa_nil)))))
          (pss_cut (ps_set (i := 7) scAllOk.nd rfl (Or.inl rfl) (pe_meth (pv 0) FC.cl M_looks okL hr4 b_looks .nil pass0 (pa_cons (pe_revT (pe_call ok_o hr1 rfl m_o k_o b_o .nil pass0 (pa_cons (pv 5) pa_nil))) pa_nil)))
          (pss_cons (ps_if (PW.pt (pw_or (pt_cmpR op_ne (pv 7) (pv 6) (nomark _)) (pw_or1 (pt_not (pt_val (pe_callB call_isi (by rfl) T.isi (by decide +kernel) (pa_cons (pv 7) (pa_cons (pe_ty (n := "bool") (by rfl) T.bool (by decide +kernel)) pa_nil)))))))) (pss_one (ps_ret pe_bl)) pss_nil)
          (pss_one (ps_if (PW.pt (pw_and (pt_val (pv 6)) (pw_and1 (pt_cmpR op_notIn_seq (pv 5) (pv 1) (by rfl))))) (pss_one (ps_set (i := 4) scAllOk.nd rfl (Or.inl rfl) pe_bl)) pss_nil)))))))
      (pss_one (ps_ret (pe_and (pe_cmpR op_eq (pv 3) (pe_cmpR op_isN (pe_call ok_b hr rfl m_b k_b b_b .nil pass0 (pa_cons (pv 0) (pa_cons pe_str pa_nil))) pe_non (nomark _)) (nomark _)) (pe_one (pe_cmpR op_eq (pv 4) (pe_cmpR op_isN (pe_call ok_b hr rfl m_b k_b b_b .nil pass0 (pa_cons (pv 0) (pa_cons pe_str pa_nil))) pe_non (nomark _)) (nomark _)))))))))), ?_⟩
    obtain ⟨hms, h1, h2⟩ : Masks n ms ∧ 1 ≤ n ∧ n ≤ 10 := ⟨hF.ms, hF.h1, hF.h2⟩
    have h10 := pow_le10 h2
    have hml : ms.length ≤ 1024 := Nat.le_trans (nodup_len _ ms hms.nd hms.lt) h10
    obtain ⟨⟨dx, l, d, fs, ls, ms0, a1, a2, a3, a4, a5, a6, _⟩, _⟩ := id hF
    have h64 : ((2 ^ n : Nat) : Int) < 2 ^ 62 := Int.lt_of_le_of_lt (Int.ofNat_le.mpr h10) (by decide)
    refine ⟨_, rfl, f, C, dx, fs, _, rfl, a1, FC.cl, FC.size, a2, _, rfl, n, rfl, by omega, ((2 ^ n : Nat) : Int), rfl, Int.le_trans (by decide) (Int.natCast_nonneg _), h64, ?_⟩
    refine for_range (lo := 0) (n := 2 ^ n) (fun i σ H' => ∃ b1 b2 y5 y6 y7, σ = [some (.ref f), some (.ref m), some (vInt n), some (.bl b1), some (.bl b2), y5, y6, y7] ∧ Same H H' ∧ (b1 = true ↔ ∀ z, z < i → HeldSo n ms z → z ∈ ms) ∧ (b2 = true ↔ ∀ z, z < i → LooksAs n ms z → z ∈ ms))
      ⟨true, true, none, none, none, rfl, Same.refl _, ⟨fun _ z hz => by omega, fun _ => rfl⟩, ⟨fun _ z hz => by omega, fun _ => rfl⟩⟩ ?_ ?_
    · rintro i σ H1 hi ⟨b1, b2, y5, y6, y7, rfl, s1, q1, q2⟩
      have more : ∀ {p : Nat → Prop} {b : Bool}, (b = true ↔ ∀ z, z < i → p z → z ∈ ms) → ((p i → i ∈ ms) → (b = true ↔ ∀ z, z < i + 1 → p z → z ∈ ms)) ∧ (p i → i ∉ ms → (false = true ↔ ∀ z, z < i + 1 → p z → z ∈ ms)) := fun {p b} q => by
        refine ⟨fun h => ?_, fun h1 h2 => ⟨fun z => (by cases z), fun z => absurd (z i (by omega) h1) h2⟩⟩
        rw [q]
        refine ⟨fun g z hz pz => ?_, fun g z hz => g z (by omega)⟩
        by_cases e : z = i
        · subst e
          exact h pz
        · exact g z (by omega) pz
      rw [Int.zero_add]
      refine ⟨fun σ' H' => ∃ b1, σ' = [some (.ref f), some (.ref m), some (vInt n), some (.bl b1), some (.bl b2), some (vInt i), y6, y7] ∧ Same H H' ∧ (b1 = true ↔ ∀ z, z < i + 1 → HeldSo n ms z → z ∈ ms), ?_, ?_⟩
      · refine ⟨_, rfl, _, rfl, m, _, rfl, .inl (s1.seq hM), rfl, flat_all ms, !decide (i ∈ ms), congrArg (fun z => V.bl (!z)) (inV_nat _ _), ?_⟩
        by_cases him : i ∈ ms
        · rw [decide_eq_true him]
          exact iteF ⟨b1, rfl, s1, (more q1).1 fun _ => him⟩
        · rw [decide_eq_false him]
          refine iteT ⟨_, rfl, _, rfl, _, rfl, m, ms, i, n, rfl, s1.seq hM, hml, h2, fun H2 b s2 hb => ⟨b, rfl, ?_⟩⟩
          cases b with
          | true => exact iteT ⟨false, rfl, s1.trans s2, (more q1).2 (hb.mp rfl) him⟩
          | false => exact iteF ⟨b1, rfl, s1.trans s2, (more q1).1 fun z => by cases hb.mpr z⟩
      rintro _ H2 ⟨b1', rfl, s2, q1'⟩
      refine ⟨fun σ' H' => ∃ bd, σ' = [some (.ref f), some (.ref m), some (vInt n), some (.bl b1'), some (.bl b2), some (vInt i), some (.bl bd), y7] ∧ Same H H' ∧ (bd = true ↔ LooksAs n ms i), ⟨_, rfl, _, rfl, _, rfl, m, ms, i, n, rfl, s2.seq hM, hml, h1, h2, fun H3 b s3 hb => ⟨b, rfl, s2.trans s3, hb⟩⟩, ?_⟩
      rintro _ H3 ⟨bd, rfl, s3, hbd⟩
      refine ⟨fun σ' H' => σ' = [some (.ref f), some (.ref m), some (vInt n), some (.bl b1'), some (.bl b2), some (vInt i), some (.bl bd), some (.bl bd)] ∧ Same H H', ?_, ?_⟩
      · refine ⟨_, rfl, f, dx, fs, rfl, s3 _ _ a1, a6 _ (by decide +kernel) (by decide +kernel) (by decide +kernel), _, rfl, i, rfl, fun H4 p s4 hp hp' => ⟨p, _, rfl, SqT.of hp', fun q hq => ?_⟩⟩
        have s5 := same_new (o := .tup (lotV i).reverse) hq
        refine ⟨f, q, n, ms, (lotI i).reverse, i, rfl, hF.same (s3.trans (s4.trans s5)), ?_, ?_, fun j => List.mem_reverse, hi, fun H6 b s6 hb => ⟨?_, s3.trans (s4.trans (s5.trans s6))⟩⟩
        · rw [upd_same, lotV_eq, List.map_reverse]
        · exact List.pairwise_reverse.mpr ((lotI_asc i).imp fun {a b} z => by omega)
        · have e : b = bd := Bool.eq_iff_iff.mpr (hb.trans hbd.symm)
          rw [e]
          rfl
      rintro _ H4 ⟨rfl, s4⟩
      refine ⟨_, rfl, _, rfl, rfl, _, rfl, ?_⟩
      rw [decide_eq_true rfl]
      refine iteF ⟨_, rfl, _, _, _, _, true, rfl, .ty _, .base (.bl _), kit_ty (by decide +kernel), _, rfl, iteF ?_⟩
      refine ⟨_, rfl, bd, rfl, ?_⟩
      cases bd with
      | false => exact iteF ⟨b1', b2, _, _, _, rfl, s4, q1', (more q2).1 fun z => by cases hbd.mpr z⟩
      | true =>
        refine iteT ⟨_, rfl, _, rfl, m, _, rfl, .inl (s4.seq hM), rfl, flat_all ms, !decide (i ∈ ms), congrArg (fun z => V.bl (!z)) (inV_nat _ _), ?_⟩
        by_cases him : i ∈ ms
        · rw [decide_eq_true him]
          exact iteF ⟨b1', b2, _, _, _, rfl, s4, q1', (more q2).1 fun _ => him⟩
        · rw [decide_eq_false him]
          exact iteT ⟨b1', false, _, _, _, rfl, s4, q1', (more q2).2 (hbd.mp rfl) him⟩
    · rintro σ H1 ⟨b1, b2, y5, y6, y7, rfl, s1, q1, q2⟩
      have c1 : b1 = true ↔ ClosedAnd ms := q1.trans (and_holders hms.lt).symm
      have c2 : b2 = true ↔ ClosedMaj ms := q2.trans (two_pairs h1 hms.lt).symm
      refine ⟨_, rfl, _, rfl, f, n, ms, false, rfl, hF.same s1, fun H2 m2 v pm srt s2 t => ⟨rfl, rfl, _, rfl, ?_⟩⟩
      have e1 : V.bl b1 = V.bl (decide (v = V.non)) := congrArg V.bl (Bool.eq_iff_iff.mpr (c1.trans ((told_non t).trans (found_none pm)).symm))
      rw [decide_eq_true e1]
      refine ⟨_, rfl, _, rfl, f, n, ms, true, rfl, hF.same (s1.trans s2), fun H3 m3 v3 pm3 srt3 s3 t3 => ⟨rfl, rfl, ?_⟩⟩
      have e2 : V.bl b2 = V.bl (decide (v3 = V.non)) := congrArg V.bl (Bool.eq_iff_iff.mpr (c2.trans ((told_non t3).trans (found_none pm3)).symm))
      rw [decide_eq_true e2]
      exact k _ (s1.trans (s2.trans s3))
end
end Fam

/-! The law's large_ok. -/
namespace Fam
open PySem L2
open C8 (pss_cut tCut)
def spLargeOk : Sp := fun vs H Q _ => ∃ (a : Addr) (c : Nat) (ts : List Int), vs = [.ref a] ∧ TapeAt H a c ts ∧ ∀ (H' : Hp) (c' : Nat), TapeAt H' a c' ts → Q (.bl true) H'
abbrev bigA : List Nat := [0, 1, 2, 4, 8, 16, 32, 64]
def restA (r : Nat) : List Nat := bigA.filter fun z => !decide (z = bigA.getD r 0)
theorem big_masks : Masks 7 bigA := ⟨by decide +kernel, by decide +kernel⟩
theorem big_and : ClosedAnd bigA := by
  have : ∀ x ∈ bigA, ∀ y ∈ bigA, x &&& y ∈ bigA := by decide +kernel
  exact this
theorem big_maj : ClosedMaj bigA := by
  have : ∀ x ∈ bigA, ∀ y ∈ bigA, ∀ z ∈ bigA, maj x y z ∈ bigA := by decide +kernel
  exact this
theorem rest_masks {r : Nat} (h : r < 8) : Masks 7 (restA r) := by
  have : ∀ r, r < 8 → (∀ m ∈ restA r, m < 2 ^ 7) ∧ (restA r).Nodup := by decide +kernel
  exact ⟨(this r h).1, (this r h).2⟩
theorem rest_len {r : Nat} : (restA r).length ≤ 8 := Nat.le_trans (List.length_filter_le _ _) (by decide)
theorem rest_yes {r : Nat} (h : r < 8) : LooksAs 7 (restA r) 0 := by
  have : ∀ r, r < 8 → lkB (restA r) 0 (prsOf 7) = true := by decide +kernel
  exact (lk_iff (by decide)).mp (this r h)
theorem rest_no {r : Nat} (h : r < 8) : ¬ LooksAs 7 (restA r) 3 := by
  have : ∀ r, r < 8 → lkB (restA r) 3 (prsOf 7) = false := by decide +kernel
  intro q
  have := this r h
  rw [(lk_iff (by decide)).mpr q] at this
  cases this
theorem lots_same {n : Nat} {a b : List Nat} (hn : n ≤ 10) (ha : ∀ m ∈ a, m < 2 ^ n) (nd : a.Nodup) (p : a.Perm b) (sa : a.Pairwise lotLe) (sb : b.Pairwise lotLe) : a = b :=
  uniq_of (R := lotLe) (fun x y hx hy h1 h2 => lotI_inj hn (ha x hx) (ha y hy) (lex_tot _ _ h2 h1)) sa sb p
theorem rest_found {m0 : List Nat} (p : m0.Perm (restA 0)) (s : m0.Pairwise lotLe) : foundL false (restA 0) m0 = some [1, 2] := by
  have srt : (restA 0).Pairwise lotLe := by
    have : (restA 0).Pairwise fun a b => HT.lexLt (lotI b) (lotI a) = false := by decide +kernel
    exact this
  have hm := rest_masks (r := 0) (by decide)
  have e : m0 = restA 0 := lots_same (n := 7) (by decide) (fun z hz => hm.lt z (p.mem_iff.mp hz)) (p.nodup_iff.mpr hm.nd) p s srt
  rw [e]
  decide +kernel
section
variable {P : Program} {w : World} {K : PySem.W.Frag} {mg : Str → Option Value} {base : Heap} {C : Addr}
abbrev nLargeOk : List Str := ["_law_tape", "_law_masks", "_law_gone", "_law_rest", "_law_family_here", "_law_lesser", "_law_place", "_law_mask_here"]
theorem scLargeOk : FnScope nLargeOk ["_law_tape"] (defScope sLargeOk) := ⟨rfl, rfl, rfl, by decide +kernel, rfl, by decide +kernel, by decide +kernel⟩
theorem ok_large_ok {f gi gk : Addr} {fd gid gkd : FuncData} (F : Fun K "_law_large_ok" "_law_large_ok" sLargeOk f fd) (T : Bare mg) (FC : FamC K C) (m_F : mg "Family" = some (.ref C))
    (MK_F : Mk K C gi) (ok_F : FnOk P w K mg base CX0 4 gi gid ["self", "size", "lots"] (spInit K C (FAt C))) (b_F : Binds K gid ["self", "size", "lots"] [])
    (M_looks : Meth K C "looks" gk) (okL : FnOk P w K mg base CX0 4 gk gkd ["self", "lot"] (spFLooksT C)) (b_looks : Binds K gkd ["self", "lot"] [])
    (GB : Cal P w K mg base 5 "broken" ["family", "word"] (spBrokenT C)) (GF : Cal P w K mg base 1 "_law_full" ["_law_size"] spFull) (GT : Cal P w K mg base 1 "_law_take" ["_law_tape", "_law_many"] spDraw) (GO : Cal P w K mg base 2 "_law_lots_of" ["_law_masks"] (spLotsOf K))
    (GD : Cal P w K mg base 4 "_law_triple_due" ["_law_masks", "_law_size"] (spTripleDue K)) (GS : Cal P w K mg base 2 "_law_shown" ["_law_found"] (spShown K)) :
    FnOk P w K mg base CX0 6 f fd ["_law_tape"] spLargeOk := by
  obtain ⟨_, _, ok_b, b_b, k_b, m_b⟩ := GB.ex
  obtain ⟨_, _, ok_f, b_f, k_f, m_f⟩ := GF.ex
  obtain ⟨_, _, ok_t, b_t, k_t, m_t⟩ := GT.ex
  obtain ⟨_, _, ok_o, b_o, k_o, m_o⟩ := GO.ex
  obtain ⟨_, _, ok_d, b_d, k_d, m_d⟩ := GD.ex
  obtain ⟨_, _, ok_s, b_s, k_s, m_s⟩ := GS.ex
  refine F.ok scLargeOk (fun vs H Q E h => ?_) (fun cdv A outer s H vs Q E hr h => ?_)
  · obtain ⟨a, c, ts, rfl, _⟩ := h
    rfl
  · obtain ⟨a, c, ts, rfl, hT, k⟩ := h
    have hr_F := hr.mono (j := 5) (by decide)
    have hr_d := hr.mono (j := 4) (by decide)
    have hr_o := hr.mono (j := 2) (by decide)
    have hr_f := hr.mono (j := 1) (by decide)
    refine ⟨_, (pss_cons (ps_set (i := 1) scLargeOk.nd rfl (Or.inr rfl) (pe_op op_cat (pe_lst (pa_cons pe_int pa_nil)) (pe_lc (own := [("_law_place", 6)]) (g := gName 6) (tt := tYes) rfl scLargeOk.nd (pi_range1 rfl T.range (pa_cons pe_int pa_nil)) (blkOk_by (own := [("_law_place", 6)]) (N := nLargeOk) (sc := defScope sLargeOk) (by decide +kernel)) (fun _ _ _ _ _ => pg_name (i := 6) scLargeOk.nd rfl (Or.inl rfl)) (fun _ _ _ _ _ => pts_nil) (fun _ _ _ _ _ => pe_call ok_f hr_f rfl m_f k_f b_f .nil pass0 (pa_cons (pv 6) pa_nil)))))
      (pss_cons (ps_set (i := 2) scLargeOk.nd rfl (Or.inr rfl) (pe_call ok_t hr_f rfl m_t k_t b_t .nil pass0 (pa_cons (pv 0) (pa_cons pe_int pa_nil))))
      (pss_cons (ps_setLc (i := 3) (own := [("_law_mask_here", 7)]) (g := gName 7) (by rfl) scLargeOk.nd rfl rfl (sw_true rfl rfl rfl (by decide +kernel)) (pi_list (pv 1)) (blkOk_by (own := [("_law_mask_here", 7)]) (N := nLargeOk) (sc := defScope sLargeOk) (by decide +kernel)) (fun _ _ _ _ _ => pg_name (i := 7) scLargeOk.nd rfl (Or.inl rfl)) (fun _ _ _ _ _ => pts_one (pt_cmpR op_ne (pv 7) (pe_ix (ix_list : IxR _ (rIxL K)) (pv 1) (pv 2) (fun _ _ => rfl)) (nomark _))) (fun _ _ _ _ _ => pv 7))
      (pss_cons (ps_set (i := 4) scLargeOk.nd rfl (Or.inl rfl) (pe_make MK_F ok_F hr_F rfl m_F b_F .nil pass0 (pa_cons pe_int (pa_cons (pe_call ok_o hr_o rfl m_o k_o b_o .nil pass0 (pa_cons (pv 1) pa_nil)) pa_nil))))
      (pss_cons (ps_if (PW.pt (pw_or (pt_cmpR op_notN (pe_call ok_b hr rfl m_b k_b b_b .nil pass0 (pa_cons (pv 4) (pa_cons pe_str pa_nil))) pe_non (nomark _)) (pw_or1 (pt_cmpR op_notN (pe_call ok_b hr rfl m_b k_b b_b .nil pass0 (pa_cons (pv 4) (pa_cons pe_str pa_nil))) pe_non (nomark _))))) (pss_one (ps_ret pe_bl)) pss_nil)
      (pss_cons (ps_set (i := 5) scLargeOk.nd rfl (Or.inl rfl) (pe_make MK_F ok_F hr_F rfl m_F b_F .nil pass0 (pa_cons pe_int (pa_cons (pe_call ok_o hr_o rfl m_o k_o b_o .nil pass0 (pa_cons (pv 3) pa_nil)) pa_nil))))
      (pss_cut (ps_if (pt_cmpR (op_neD hr.units) (pe_call ok_b hr rfl m_b k_b b_b .nil pass0 (pa_cons (pv 5) (pa_cons pe_str pa_nil))) (pe_call ok_s hr_o rfl m_s k_s b_s .nil pass0 (pa_cons (pe_call ok_d hr_d rfl m_d k_d b_d .nil pass0 (pa_cons (pv 3) (pa_cons pe_int pa_nil))) pa_nil)) (nomark _)) (pss_one (ps_ret pe_bl)) pss_nil)
      (pss_cut (ps_if (PW.pt (pw_and (pt_cmpR op_eq (pv 2) pe_int (nomark _)) (pw_and1 (pt_cmpR (op_neD hr.units) (pe_call ok_b hr rfl m_b k_b b_b .nil pass0 (pa_cons (pv 5) (pa_cons pe_str pa_nil))) (pe_tup (pa_cons (pe_tup (pa_cons pe_int pa_nil)) (pa_cons (pe_tup (pa_cons pe_int pa_nil)) pa_nil))) (nomark _))))) (pss_one (ps_ret pe_bl)) pss_nil)
      (pss_one (ps_ret (pe_and (pe_cmpR op_isBl (pe_meth (pv 5) FC.cl M_looks okL hr_d b_looks .nil pass0 (pa_cons (pe_tup pa_nil) pa_nil)) pe_bl (nomark _)) (pe_one (pe_cmpR op_isBl (pe_meth (pv 5) FC.cl M_looks okL hr_d b_looks .nil pass0 (pa_cons (pe_tup (pa_cons pe_int (pa_cons pe_int pa_nil))) pa_nil)) pe_bl (nomark _)))))))))))))), ?_⟩
    -- masks
    refine ⟨small (m := 1) (Nat.le_refl _), fun p1 hp1 => ⟨7, rfl, by decide, by decide, fun D hD => ?_⟩⟩
    have s1 := same_new (o := .lst [V.int 0]) hp1
    refine lc_range (lo := 0) (n := 7) (fun i H' => Same (upd H p1 (.lst [V.int 0])) H' ∧ H' D = some (.lst (((List.range i).map fun j => 2 ^ j).map vInt))) ⟨same_new hD, upd_same⟩ ?_ ?_
    · rintro i H1 hi ⟨sm, hR⟩
      refine ⟨rfl, _, rfl, i, by rw [Int.zero_add]; rfl, by omega, _, hR, ?_, same_upd sm hD, ?_⟩
      · rw [List.length_map, List.length_map, List.length_range]
        exact below (m := 100) (by omega)
      · rw [upd_same, List.range_succ, List.map_append, List.map_append]
        rfl
    rintro H1 ⟨sm1, hR1⟩
    refine ⟨p1, D, _, _, rfl, rfl, sm1 _ _ upd_same, hR1, ?_, fun p2 hp2 => ?_⟩
    · rw [List.length_map, List.length_map, List.length_range]
      exact small (m := 8) (Nat.le_refl _)
    have s2 : Same H1 _ := same_new (o := .lst ([V.int 0] ++ ((List.range 7).map fun j => 2 ^ j).map vInt)) hp2
    obtain ⟨H2, eH2⟩ : ∃ H2, H2 = upd H1 p2 (.lst ([V.int 0] ++ ((List.range 7).map fun j => 2 ^ j).map vInt)) := ⟨_, rfl⟩
    rw [← eH2] at s2 ⊢
    have hM2 : H2 p2 = some (.lst (bigA.map vInt)) := by rw [eH2, upd_same]; rfl
    have s02 : Same H H2 := s1.trans (sm1.trans s2)
    have hT2 := hT.same s02
    have h2a : p2 ≠ a := ne_of_none (H := H1) ((s1.trans sm1) _ _ hT) hp2 |>.symm
    -- gone
    refine ⟨_, rfl, a, c, ts, 8, rfl, hT2, by decide, fun H3 c3 r hr8 h3 hT3 => ?_⟩
    have hM3 : H3 p2 = some (.lst (bigA.map vInt)) := by rw [h3 p2 h2a]; exact hM2
    -- rest
    refine ⟨_, rfl, p2, rfl, ⟨_, SqL.of hM3⟩, fun D4 hD4 => ?_⟩
    refine lc_list (K := K) (a := p2) (xs := bigA.map vInt) (fun i H' => Same H3 H' ∧ H' D4 = some (.lst (((bigA.take i).filter fun z => !decide (z = bigA.getD r 0)).map vInt))) ⟨same_new hD4, upd_same⟩ (fun i H' _ h => SqL.of (h.1 _ _ hM3)) ?_ ?_
    · rintro i x H4 hx ⟨sm, hR⟩
      obtain ⟨hi, rfl⟩ := item hx
      have eg : (bigA.map vInt)[r]? = some (vInt (bigA.getD r 0)) := by
        rw [List.getElem?_map, List.getD_eq_getElem?_getD, List.getElem?_eq_getElem (by exact hr8)]
        rfl
      refine ⟨rfl, _, rfl, _, rfl, _, rfl, p2, _, _, _, rfl, rfl, SqL.of (sm _ _ hM3), atI_nat (j := r) eg, rfl, _, rfl, ?_⟩
      have ed : decide (vInt bigA[i] = vInt (bigA.getD r 0)) = decide (bigA[i] = bigA.getD r 0) := decide_eq_decide.mpr ⟨fun z => Int.ofNat.inj (V.int.inj z), fun z => by rw [z]⟩
      rw [ed]
      refine ite2 (fun z => ?_) (fun z => ?_)
      · refine ⟨_, rfl, _, hR, ?_, same_upd sm hD4, ?_⟩
        · rw [List.length_map]
          have h3 := List.length_filter_le (fun z => !decide (z = bigA.getD r 0)) (bigA.take i)
          rw [List.length_take] at h3
          have h8 : bigA.length = 8 := rfl
          exact below (m := 100) (by omega)
        · rw [upd_same, take_more hi, List.filter_append, List.filter_cons_of_pos (by exact z), List.map_append]
          rfl
      · refine ⟨sm, ?_⟩
        rw [take_more hi, List.filter_append, List.filter_cons_of_neg (by exact z), List.filter_nil, List.append_nil]
        exact hR
    rintro H4 ⟨sm4, hR4⟩
    rw [List.length_map, List.take_length] at hR4
    have hR4 : H4 D4 = some (.lst ((restA r).map vInt)) := hR4
    have hM4 := sm4 _ _ hM3
    -- the family
    refine ⟨_, rfl, p2, bigA, rfl, SqL.of hM4, by decide, fun H5 p5 xs s5 hp5 hxs hL5 => ?_⟩
    intro y dy hy hdy hne
    have sm0 : Same H5 (upd (upd H5 dy (.own y)) y (.ins C dy [])) := made_new hy hdy
    refine ⟨y, dy, p5, 7, xs, bigA, rfl, upd_same, by rw [upd_ne hne]; exact upd_same, .inl (SqL.of (sm0 _ _ hxs)), hL5.same sm0, by decide, by decide, big_masks, fun H6 k6 hAt => ⟨rfl, ?_⟩⟩
    have s56 : Same H5 H6 := made_same hy hdy k6
    refine ⟨_, rfl, y, 7, bigA, false, rfl, hAt, fun H7 m7 v7 pm7 srt7 s7 t7 => ⟨rfl, _, rfl, ?_⟩⟩
    rw [(told_non t7).mpr ((found_none pm7).mpr big_and)]
    refine iteF ⟨_, rfl, y, 7, bigA, true, rfl, hAt.same s7, fun H8 m8 v8 pm8 srt8 s8 t8 => ⟨rfl, _, rfl, ?_⟩⟩
    rw [(told_non t8).mpr ((found_none pm8).mpr big_maj)]
    refine iteF ?_
    have s48 : Same H4 H8 := s5.trans (s56.trans (s7.trans s8))
    have hR8 := s48 _ _ hR4
    -- the lesser one
    refine ⟨_, rfl, D4, restA r, rfl, SqL.of hR8, by have := rest_len (r := r); omega, fun H9 p9 xs9 s9 hp9 hxs9 hL9 => ?_⟩
    intro y2 dy2 hy2 hdy2 hne2
    have sm9 : Same H9 (upd (upd H9 dy2 (.own y2)) y2 (.ins C dy2 [])) := made_new hy2 hdy2
    have hrm := rest_masks hr8
    refine ⟨y2, dy2, p9, 7, xs9, restA r, rfl, upd_same, by rw [upd_ne hne2]; exact upd_same, .inl (SqL.of (sm9 _ _ hxs9)), hL9.same sm9, by decide, by decide, hrm, fun H10 k10 hAt2 => ⟨rfl, ?_⟩⟩
    have s810 : Same H8 H10 := s9.trans (made_same hy2 hdy2 k10)
    have hR10 := s810 _ _ hR8
    refine ⟨fun σ' H' => σ' = [some (.ref a), some (.ref p2), some (vInt r), some (.ref D4), some (.ref y), some (.ref y2), none, none] ∧ Same H10 H', ?_, ?_⟩
    · refine ⟨_, rfl, y2, 7, restA r, true, rfl, hAt2, fun H11 m11 v11 pm11 srt11 s11 t11 => ?_⟩
      refine ⟨_, rfl, D4, restA r, 7, rfl, SqL.of (s11 _ _ hR10), by decide, by decide, fun H12 os ho s12 => ?_⟩
      have t12 := t11.same s12
      have eo : foundL true (restA r) m11 = (tripleDue (restA r) os).map fun t => [t.1, t.2.1, t.2.2] := by
        unfold tripleDue
        rw [inside_eq (by decide) hrm pm11 srt11 ho, trip_found pm11]
      rw [eo] at t12
      refine ⟨fun e => ?_, fun x' y' z' p e hp hp' => ?_⟩
      · rw [e] at t12
        refine .inl ⟨rfl, dL none, dL none, t12.dp, .non, shaped_dL _, shaped_dL _, _, rfl, ?_⟩
        rw [eqv_same (shaped_dL none)]
        exact iteF ⟨rfl, s11.trans s12⟩
      · rw [e] at t12
        refine .inr ⟨p, [x', y', z'], rfl, SqT.of hp', (by show 3 ≤ 100000; decide), fun H13 p13 xs13 s13 hp13 hx13 hL13 => ?_⟩
        refine ⟨dL (some [x', y', z']), dL (some [x', y', z']), (t12.same s13).dp, .tup (SqT.of hx13) (dp_lots hL13), shaped_dL _, shaped_dL _, _, rfl, ?_⟩
        rw [eqv_same (shaped_dL (some [x', y', z']))]
        exact iteF ⟨rfl, s11.trans (s12.trans s13)⟩
    rintro _ H11 ⟨rfl, s11⟩
    refine ⟨fun σ' H' => σ' = [some (.ref a), some (.ref p2), some (vInt r), some (.ref D4), some (.ref y), some (.ref y2), none, none] ∧ Same H11 H', ?_, ?_⟩
    · refine ⟨_, rfl, rfl, _, rfl, ite2 (fun z => ?_) (fun z => iteF ⟨rfl, Same.refl _⟩)⟩
      have er : r = 0 := by have := V.int.inj (of_decide_eq_true z); omega
      subst er
      refine ⟨_, rfl, y2, 7, restA 0, false, rfl, hAt2.same s11, fun H12 m12 v12 pm12 srt12 s12 t12 => ?_⟩
      rw [rest_found pm12 srt12] at t12
      refine ⟨small (m := 1) (Nat.le_refl _), fun p13 hp13 => ⟨small (m := 1) (Nat.le_refl _), fun p14 hp14 => ⟨small (m := 2) (Nat.le_refl _), fun p15 hp15 => ?_⟩⟩⟩
      have s13 := same_new (o := .tup [V.int 0]) hp13
      have s14 := same_new (o := .tup [V.int 1]) hp14
      have s15 := same_new (o := .tup [V.ref p13, V.ref p14]) hp15
      have d1 : Dp K (upd (upd (upd H12 p13 (.tup [V.int 0])) p14 (.tup [V.int 1])) p15 (.tup [V.ref p13, V.ref p14])) (.ref p15) (dL (some [1, 2])) :=
        .tup (SqT.of upd_same) (.cons (dp_lot (m := 1) ((s14.trans s15) _ _ upd_same)) (.cons (dp_lot (m := 2) (s15 _ _ upd_same)) .nil))
      refine ⟨dL (some [1, 2]), dL (some [1, 2]), (t12.same (s13.trans (s14.trans s15))).dp, d1, shaped_dL _, shaped_dL _, _, rfl, ?_⟩
      rw [eqv_same (shaped_dL (some [1, 2]))]
      exact iteF ⟨rfl, s12.trans (s13.trans (s14.trans s15))⟩
    rintro _ H12 ⟨rfl, s12⟩
    have hA12 := hAt2.same (s11.trans s12)
    obtain ⟨⟨dx, l, d, fs, ls, ms0, a1, a2, a3, a4, a5, a6, _⟩, _⟩ := id hA12
    refine ⟨_, rfl, y2, dx, fs, rfl, a1, a6 _ (by decide +kernel) (by decide +kernel) (by decide +kernel), small (m := 1) (Nat.zero_le _), fun q hq => ?_⟩
    have sq := same_new (o := .tup []) hq
    refine ⟨y2, q, 7, restA r, [], 0, rfl, hA12.same sq, upd_same, List.nodup_nil, fun _ => Iff.rfl, by decide, fun H13 b13 s13 hb13 => ?_⟩
    have eb : b13 = true := hb13.mpr (rest_yes hr8)
    subst eb
    refine ⟨true, true, rfl, rfl, true, rfl, ?_⟩
    have hA13 := hA12.same (sq.trans s13)
    refine ⟨_, rfl, y2, dx, fs, rfl, (sq.trans s13) _ _ a1, a6 _ (by decide +kernel) (by decide +kernel) (by decide +kernel), small (m := 2) (Nat.le_refl _), fun q2 hq2 => ?_⟩
    have sq2 := same_new (o := .tup [V.int 0, V.int 1]) hq2
    refine ⟨y2, q2, 7, restA r, [0, 1], 3, rfl, hA13.same sq2, upd_same, by decide, fun _ => Iff.rfl, by decide, fun H14 b14 s14 hb14 => ?_⟩
    have eb : b14 = false := Bool.eq_false_iff.mpr fun z => rest_no hr8 (hb14.mp z)
    subst eb
    exact ⟨false, false, rfl, rfl, k _ c3 (hT3.same (sm4.trans (s48.trans (s810.trans (s11.trans (s12.trans (sq.trans (s13.trans (sq2.trans s14)))))))))⟩
end
end Fam

/-! The law. -/
namespace Fam
open PySem L2
open C8 (pss_cut tCut)
def spLaw (K : PySem.W.Frag) : Sp := fun vs H Q _ => ∃ (a : Addr) (ns : List Int), vs = [.ref a] ∧ SqL K H a (ns.map V.int) ∧ ns.length ≤ 63 ∧ ∀ H', Q (.bl true) H'
def spDrawnMasks : Sp := spFamily
theorem wordne {A B : Prop} {s : Str} (h : B) : if (!decide (V.str s = V.str s)) = true then A else B := by
  rw [decide_eq_true rfl]
  exact iteF h
theorem rg512 : rgV 0 512 = (List.range 512).map vInt := by
  unfold rgV
  rw [show ((512 : Int) - 0).toNat = 512 from rfl]
  exact List.map_congr_left fun i _ => by rw [Int.zero_add]
theorem masks9 : Masks 9 (List.range 512) := ⟨fun m hm => List.mem_range.mp hm, List.nodup_range⟩
theorem maj9 : ClosedMaj (List.range 512) := fun x hx y hy z hz => List.mem_range.mpr (maj_lt (n := 9) (List.mem_range.mp hx) (List.mem_range.mp hy) (List.mem_range.mp hz))
theorem looks9 : LooksAs 9 (List.range 512) 257 := fun i _ j _ => ⟨257, List.mem_range.mpr (by decide), rfl, rfl⟩
theorem lot257 (k : Int) : k ∈ [(8 : Int), 0] ↔ k ∈ lotI 257 := by
  have e : lotI 257 = [0, 8] := by decide +kernel
  rw [e]
  simp [or_comm]
section
variable {P : Program} {w : World} {K : PySem.W.Frag} {mg : Str → Option Value} {base : Heap} {C : Addr}
abbrev nLaw : List Str := ["_law_script", "_law_tape", "_law_size", "_law_masks", "_law_word_here", "_law_lots", "_law_family_here", "_law_wrong", "_law_door", "_law_whole"]
theorem scLaw : FnScope nLaw ["_law_script"] (defScope sLaw) := ⟨rfl, rfl, rfl, by decide +kernel, rfl, by decide +kernel, by decide +kernel⟩
abbrev lawT (a t : Addr) (n : Nat) (m : Addr) (d : Nat) (l x : Addr) (y7 y8 y9 : Option V) : L2.St := [some (.ref a), some (.ref t), some (vInt n), some (.ref m), some (vInt d), some (.ref l), some (.ref x), y7, y8, y9]
theorem ok_law {f gi gk : Addr} {fd gid gkd : FuncData} (F : Fun K "law" "law" sLaw f fd) (T : Bare mg) (FC : FamC K C) (m_F : mg "Family" = some (.ref C))
    (MK_F : Mk K C gi) (ok_F : FnOk P w K mg base CX0 4 gi gid ["self", "size", "lots"] (spInit K C (FAt C))) (b_F : Binds K gid ["self", "size", "lots"] [])
    (M_looks : Meth K C "looks" gk) (ok_looks : FnOk P w K mg base CX0 4 gk gkd ["self", "lot"] (spFLooksT C)) (b_looks : Binds K gkd ["self", "lot"] [])
    (GB : Cal P w K mg base 5 "broken" ["family", "word"] (spBrokenT C)) (GDr : Cal P w K mg base 1 "_law_draws" ["_law_script"] (spDraws K)) (GT : Cal P w K mg base 1 "_law_take" ["_law_tape", "_law_many"] spDraw) (GM : Cal P w K mg base 3 "_law_drawn_masks" ["_law_tape", "_law_size"] spFamily) (GC : Cal P w K mg base 1 "_law_closed_by" ["_law_masks", "_law_word_here"] (spClosedBy K)) (GO : Cal P w K mg base 2 "_law_lots_of" ["_law_masks"] (spLotsOf K))
    (GTo : Cal P w K mg base 6 "_law_told_ok" ["_law_family_here", "_law_masks"] (spToldOk K C)) (GAo : Cal P w K mg base 6 "_law_all_ok" ["_law_family_here", "_law_masks"] (spToldOk K C)) (GW : Cal P w K mg base 6 "_law_word" ["_law_door", "_law_family_here", "_law_thing"] (spWordL K C)) (GL : Cal P w K mg base 6 "_law_large_ok" ["_law_tape"] spLargeOk) :
    FnOk P w K mg base CX0 7 f fd ["_law_script"] (spLaw K) := by
  obtain ⟨_, _, ok_b, b_b, k_b, m_b⟩ := GB.ex
  obtain ⟨_, _, ok_d, b_d, k_d, m_d⟩ := GDr.ex
  obtain ⟨_, _, ok_t, b_t, k_t, m_t⟩ := GT.ex
  obtain ⟨_, _, ok_dm, b_dm, k_dm, m_dm⟩ := GM.ex
  obtain ⟨_, _, ok_cb, b_cb, k_cb, m_cb⟩ := GC.ex
  obtain ⟨_, _, ok_o, b_o, k_o, m_o⟩ := GO.ex
  obtain ⟨_, _, ok_to, b_to, k_to, m_to⟩ := GTo.ex
  obtain ⟨_, _, ok_ao, b_ao, k_ao, m_ao⟩ := GAo.ex
  obtain ⟨_, _, ok_w, b_w, k_w, m_w⟩ := GW.ex
  obtain ⟨_, _, ok_lo, b_lo, k_lo, m_lo⟩ := GL.ex
  refine F.ok scLaw (fun vs H Q E h => ?_) (fun cdv A outer s H vs Q E hr h => ?_)
  · obtain ⟨a, ns, rfl, _⟩ := h
    rfl
  · obtain ⟨a, ns, rfl, hS, hl, k⟩ := h
    have hr_b := hr.mono (j := 5) (by decide)
    have hr_F := hr.mono (j := 5) (by decide)
    have hr_looks := hr.mono (j := 4) (by decide)
    have hr_dm := hr.mono (j := 3) (by decide)
    have hr_o := hr.mono (j := 2) (by decide)
    have hr_d := hr.mono (j := 1) (by decide)
    have hr_t := hr_d
    have hr_cb := hr_d
    have hr_to := hr
    have hr_ao := hr
    have hr_w := hr
    have hr_lo := hr
    refine ⟨_, (pss_cons (ps_set (i := 1) scLaw.nd rfl (Or.inl rfl) (pe_call ok_d hr_d rfl m_d k_d b_d .nil pass0 (pa_cons (pv 0) pa_nil)))
      (pss_cons (ps_set (i := 2) scLaw.nd rfl (Or.inl rfl) (pe_op op_add pe_int (pe_call ok_t hr_t rfl m_t k_t b_t .nil pass0 (pa_cons (pv 1) (pa_cons pe_int pa_nil)))))
      (pss_cons (ps_set (i := 3) scLaw.nd rfl (Or.inl rfl) (pe_call ok_dm hr_dm rfl m_dm k_dm b_dm .nil pass0 (pa_cons (pv 1) (pa_cons (pv 2) pa_nil))))
      (pss_cons (ps_set (i := 4) scLaw.nd rfl (Or.inl rfl) (pe_call ok_t hr_t rfl m_t k_t b_t .nil pass0 (pa_cons (pv 1) (pa_cons pe_int pa_nil))))
      (pss_cut (ps_if (PW.pt (pw_or (pt_cmpR op_eq (pv 4) pe_int (nomark _)) (pw_or1 (pt_cmpR op_eq (pv 4) pe_int (nomark _))))) (pss_one (ps_set (i := 3) scLaw.nd rfl (Or.inl rfl) (pe_call ok_cb hr_cb rfl m_cb k_cb b_cb .nil pass0 (pa_cons (pv 3) (pa_cons (pv 4) pa_nil))))) pss_nil)
      (pss_cons (ps_set (i := 5) scLaw.nd rfl (Or.inl rfl) (pe_call ok_o hr_o rfl m_o k_o b_o .nil pass0 (pa_cons (pv 3) pa_nil)))
      (pss_cons (ps_set (i := 6) scLaw.nd rfl (Or.inl rfl) (pe_make MK_F ok_F hr_F rfl m_F b_F .nil pass0 (pa_cons (pv 2) (pa_cons (pv 5) pa_nil))))
      (pss_cons (ps_if (PW.pt (pw_or (pt_not (pt_val (pe_call ok_to hr_to rfl m_to k_to b_to .nil pass0 (pa_cons (pv 6) (pa_cons (pv 3) pa_nil))))) (pw_or1 (pt_not (pt_val (pe_call ok_ao hr_ao rfl m_ao k_ao b_ao .nil pass0 (pa_cons (pv 6) (pa_cons (pv 3) pa_nil)))))))) (pss_one (ps_ret pe_bl)) pss_nil)
      (pss_cons (ps_if (PW.pt (pw_or (pt_not (pt_val (pe_call ok_to hr_to rfl m_to k_to b_to .nil pass0 (pa_cons (pv 6) (pa_cons (pv 3) pa_nil))))) (pw_or1 (pt_cmpR (op_neD hr.units) (pv 5) (pe_call ok_o hr_o rfl m_o k_o b_o .nil pass0 (pa_cons (pv 3) pa_nil)) (nomark _))))) (pss_one (ps_ret pe_bl)) pss_nil)
      (pss_cut (ps_set (i := 7) scLaw.nd rfl (Or.inl rfl) (pe_ix ix_list (pe_lst (pa_cons (pe_tup (pa_cons (pv 2) pa_nil)) (pa_cons (pe_lst (pa_cons (pe_un un_neg pe_int) pa_nil)) (pa_cons pe_non (pa_cons (pe_tup (pa_cons pe_int (pa_cons pe_int pa_nil))) (pa_cons (pe_tup (pa_cons pe_bl pa_nil)) pa_nil)))))) (pe_call ok_t hr_t rfl m_t k_t b_t .nil pass0 (pa_cons (pv 1) (pa_cons pe_int pa_nil))) (fun _ _ => rfl)))
      (pss_cons (ps_for PassesOwn.never rfl (pi_range1 rfl T.range (pa_cons pe_int pa_nil)) (pg_name (i := 8) scLaw.nd rfl (Or.inl rfl))
          (pss_one (ps_if (pt_cmpR op_ne (pe_call ok_w hr_w rfl m_w k_w b_w .nil pass0 (pa_cons (pv 8) (pa_cons (pv 6) (pa_cons (pv 7) pa_nil)))) pe_str (nomark _)) (pss_one (ps_ret pe_bl)) pss_nil)))
      (pss_cons (ps_if (pt_cmpR op_ne (pe_call ok_w hr_w rfl m_w k_w b_w .nil pass0 (pa_cons pe_int (pa_cons (pv 6) (pa_cons (pe_ix ix_list (pe_lst (pa_cons pe_str (pa_cons pe_non (pa_cons pe_str (pa_cons pe_int pa_nil))))) (pe_call ok_t hr_t rfl m_t k_t b_t .nil pass0 (pa_cons (pv 1) (pa_cons pe_int pa_nil))) (fun _ _ => rfl)) pa_nil)))) pe_str (nomark _)) (pss_one (ps_ret pe_bl)) pss_nil)
      (pss_cut (ps_if (PW.pt (pw_and (pt_cmpR op_eq (pe_call ok_t hr_t rfl m_t k_t b_t .nil pass0 (pa_cons (pv 1) (pa_cons pe_int pa_nil))) pe_int (nomark _)) (pw_and1 (pt_not (pt_val (pe_call ok_lo hr_lo rfl m_lo k_lo b_lo .nil pass0 (pa_cons (pv 1) pa_nil))))))) (pss_one (ps_ret pe_bl)) pss_nil)
      (pss_cons (ps_if (pt_cmpR op_eq (pe_call ok_t hr_t rfl m_t k_t b_t .nil pass0 (pa_cons (pv 1) (pa_cons pe_int pa_nil))) pe_int (nomark _)) (pss_cons (ps_set (i := 9) scLaw.nd rfl (Or.inl rfl) (pe_make MK_F ok_F hr_F rfl m_F b_F .nil pass0 (pa_cons pe_int (pa_cons (pe_call ok_o hr_o rfl m_o k_o b_o .nil pass0 (pa_cons (pe_listRg rfl rfl T.list (prg_1 rfl T.range pe_int)) pa_nil)) pa_nil))))
          (pss_one (ps_ret (pe_and (pe_cmpR op_isN (pe_call ok_b hr_b rfl m_b k_b b_b .nil pass0 (pa_cons (pv 9) (pa_cons pe_str pa_nil))) pe_non (nomark _)) (pe_one (pe_cmpR op_isBl (pe_meth (pv 9) FC.cl M_looks ok_looks hr_looks b_looks .nil pass0 (pa_cons (pe_tup (pa_cons pe_int (pa_cons pe_int pa_nil))) pa_nil)) pe_bl (nomark _))))))) pss_nil)
      (pss_one (ps_ret pe_bl)))))))))))))))), ?_⟩
    refine ⟨_, rfl, a, ns, rfl, hS, hl, fun H1 t ts s1 ht hT1 => ?_⟩
    refine ⟨_, rfl, t, 0, ts, 4, rfl, hT1, by decide, fun H2 c2 r hr2' h2 hT2 => ⟨_, _, rfl, rfl, ?_⟩⟩
    refine ⟨_, rfl, _, rfl, t, c2, ts, 1 + r, rfl, hT2, by omega, fun H3 c3 m0 mk0 hms0 kp3 hT3 hm0 hM3 => ?_⟩
    have hn4 : 1 + r ≤ 4 := by omega
    have hm0t : m0 ≠ t := tape_ne hT2 hm0
    refine ⟨_, rfl, t, c3, ts, 4, rfl, hT3, by decide, fun H4 c4 d hd h4 hT4 => ?_⟩
    have hM4 : H4 m0 = some (.lst (mk0.map vInt)) := by rw [h4 m0 hm0t]; exact hM3
    refine ⟨fun σ' H' => ∃ (m : Addr) (mks : List Nat), Masks (1 + r) mks ∧ σ' = [some (.ref a), some (.ref t), some (vInt (1 + r)), some (.ref m), some (vInt d), none, none, none, none, none] ∧ TapeAt H' t c4 ts ∧ H' m = some (.lst (mks.map vInt)) ∧ m ≠ t, ?_, ?_⟩
    · refine ⟨_, rfl, rfl, _, rfl, ite2 (fun _ => ?_) (fun _ => ⟨_, rfl, rfl, _, rfl, ite2 (fun _ => ?_) (fun _ => ⟨m0, mk0, hms0, rfl, hT4, hM4, hm0t⟩)⟩)⟩
      all_goals exact ⟨_, rfl, _, rfl, m0, mk0, 1 + r, _, rfl, SqL.of hM4, hms0, by omega, fun H5 p mks hms s5 hp hM5 => ⟨p, mks, hms, rfl, hT4.same s5, hM5, tape_ne hT4 hp⟩⟩
    rintro _ H5 ⟨m, mks, hms, rfl, hT5, hM5, hmt⟩
    have p2 : 2 ^ (1 + r) ≤ 16 := Nat.pow_le_pow_right (n := 2) (by decide) hn4
    have hlen : mks.length ≤ 16 := Nat.le_trans (nodup_len _ _ hms.nd hms.lt) p2
    refine ⟨_, rfl, m, mks, rfl, SqL.of hM5, by omega, fun H6 l xs s6 hl6 hxs hL6 => ?_⟩
    refine ⟨_, rfl, _, rfl, fun x dx hx hdx hne => ?_⟩
    have sm0 : Same H6 (upd (upd H6 dx (.own x)) x (.ins C dx [])) := made_new hx hdx
    refine ⟨x, dx, l, 1 + r, xs, mks, rfl, upd_same, by rw [upd_ne hne]; exact upd_same, .inl (SqL.of (sm0 _ _ hxs)), hL6.same sm0, by omega, by omega, hms, fun H7 k7 hA7 => ⟨rfl, ?_⟩⟩
    have s67 : Same H6 H7 := made_same hx hdx k7
    have hM7 := s67 _ _ (s6 _ _ hM5)
    have hT7 := (hT5.same s6).same s67
    have hX7 := s67 _ _ hxs
    have hL7 := hL6.same s67
    refine ⟨_, rfl, _, rfl, x, m, 1 + r, mks, rfl, hA7, SqL.of hM7, fun H8 s8 => ⟨true, rfl, iteF ?_⟩⟩
    refine ⟨_, rfl, _, rfl, x, m, 1 + r, mks, rfl, hA7.same s8, SqL.of (s8 _ _ hM7), fun H9 s9 => ⟨true, rfl, iteF ?_⟩⟩
    have s79 := s8.trans s9
    refine ⟨_, rfl, _, rfl, x, m, 1 + r, mks, rfl, hA7.same s79, SqL.of (s79 _ _ hM7), fun H10 s10 => ⟨true, rfl, iteF ?_⟩⟩
    have s710 := s79.trans s10
    refine ⟨_, rfl, _, rfl, m, mks, rfl, SqL.of (s710 _ _ hM7), by omega, fun H11 l2 xs2 s11 hl11 hxs2 hL11 => ?_⟩
    have s711 := s710.trans s11
    refine ⟨.list (mks.map dLot), .list (mks.map dLot), .lst (SqL.of (s711 _ _ hX7)) (dp_lots (hL7.same s711)), .lst (SqL.of hxs2) (dp_lots hL11), shaped_lots _, shaped_lots _, _, rfl, ?_⟩
    rw [eqv_same (shaped_lots _)]
    refine iteF ?_
    have hT11 := hT7.same s711
    have hA11 := hA7.same s711
    -- the wrong thing
    refine ⟨fun σ' H' => ∃ v c, σ' = lawT a t (1 + r) m d l x (some v) none none ∧ BadL K H' (1 + r) v ∧ TapeAt H' t c ts ∧ FAt C H' x (1 + r) mks, ?_, ?_⟩
    · refine ⟨_, rfl, small (m := 1) (Nat.le_refl _), fun p1 hp1 => ⟨1, rfl, small (m := 1) (Nat.le_refl _), fun p2' hp2 => ⟨small (m := 2) (Nat.le_refl _), fun p3 hp3 => ⟨small (m := 1) (Nat.le_refl _), fun p4 hp4 => ⟨small (m := 5) (Nat.le_refl _), fun p5 hp5 => ?_⟩⟩⟩⟩⟩
      have e1 := same_new (o := .tup [vInt (1 + r)]) hp1
      have e2 := same_new (o := .lst [V.int (-1)]) hp2
      have e3 := same_new (o := .tup [V.int 0, V.int 0]) hp3
      have e4 := same_new (o := .tup [V.bl true]) hp4
      have e5 := same_new (o := .lst [V.ref p1, V.ref p2', V.non, V.ref p3, V.ref p4]) hp5
      have e25 := e2.trans (e3.trans (e4.trans e5))
      have hT12 := hT11.same (e1.trans e25)
      have n1 := tape_ne hT11 hp1
      have n2 := tape_ne (hT11.same e1) hp2
      have n3 := tape_ne (hT11.same (e1.trans e2)) hp3
      have n4 := tape_ne (hT11.same (e1.trans (e2.trans e3))) hp4
      have n5 := tape_ne (hT11.same (e1.trans (e2.trans (e3.trans e4)))) hp5
      refine ⟨_, rfl, t, c4, ts, 5, rfl, hT12, by decide, fun H13 c13 z hz h13 hT13 => ?_⟩
      have kp : Kp t _ H13 := Kp.of h13
      have hA13 := (hA11.same (e1.trans e25)).keep hT12 kp
      have g1 := kp _ _ n1 (e25 _ _ (upd_same (H := H11) (a := p1)))
      have g2 := kp _ _ n2 ((e3.trans (e4.trans e5)) _ _ upd_same)
      have g3 := kp _ _ n3 ((e4.trans e5) _ _ upd_same)
      have g4 := kp _ _ n4 (e5 _ _ upd_same)
      have g5 := kp _ _ n5 upd_same
      match z, hz with
      | 0, _ => exact ⟨p5, _, _, _, rfl, rfl, SqL.of g5, atI_nat (j := 0) rfl, _, _, rfl, .inr (.inl ⟨p1, _, rfl, .inr (SqT.of g1), .inl ⟨_, rfl, by omega⟩⟩), hT13, hA13⟩
      | 1, _ => exact ⟨p5, _, _, _, rfl, rfl, SqL.of g5, atI_nat (j := 1) rfl, _, _, rfl, .inr (.inl ⟨p2', _, rfl, .inl (SqL.of g2), .inl ⟨_, rfl, by omega⟩⟩), hT13, hA13⟩
      | 2, _ => exact ⟨p5, _, _, _, rfl, rfl, SqL.of g5, atI_nat (j := 2) rfl, _, _, rfl, .inl rfl, hT13, hA13⟩
      | 3, _ => exact ⟨p5, _, _, _, rfl, rfl, SqL.of g5, atI_nat (j := 3) rfl, _, _, rfl, .inr (.inr ⟨p3, rfl, by omega, g3⟩), hT13, hA13⟩
      | 4, _ => exact ⟨p5, _, _, _, rfl, rfl, SqL.of g5, atI_nat (j := 4) rfl, _, _, rfl, .inr (.inl ⟨p4, _, rfl, .inr (SqT.of g4), .inr ⟨true, rfl⟩⟩), hT13, hA13⟩
    rintro _ H12 ⟨v7, c12, rfl, hB12, hT12, hA12⟩
    refine ⟨3, rfl, by decide, by decide, for_range (lo := 0) (n := 3) (fun i σ H' => (∃ y8, σ = lawT a t (1 + r) m d l x (some v7) y8 none) ∧ Same H12 H') ⟨⟨none, rfl⟩, Same.refl _⟩ ?_ ?_⟩
    · rintro i σ H13 hi ⟨⟨y8, rfl⟩, s13⟩
      refine ⟨_, rfl, _, rfl, _, rfl, 0 + (i : Int), x, 1 + r, mks, v7, rfl, hA12.same s13, .inl ⟨by omega, hB12.same s13, fun H14 s14 => ⟨rfl, _, rfl, wordne ⟨⟨_, rfl⟩, s13.trans s14⟩⟩⟩⟩
    rintro σ H13 ⟨⟨y8, rfl⟩, s13⟩
    have hT13 := hT12.same s13
    have hA13 := hA12.same s13
    -- the bad word
    refine ⟨_, rfl, small (m := 4) (Nat.le_refl _), fun p1 hp1 => ?_⟩
    have e1 := same_new (o := .lst [V.str "three", V.non, V.str "", V.int 2]) hp1
    have n1 := tape_ne hT13 hp1
    refine ⟨_, rfl, t, c12, ts, 4, rfl, hT13.same e1, by decide, fun H14 c14 z hz h14 hT14 => ?_⟩
    have kp : Kp t _ H14 := Kp.of h14
    have hA14 := (hA13.same e1).keep (hT13.same e1) kp
    have g1 := kp _ _ n1 upd_same
    have bad : ∃ v, atI [V.str "three", V.non, V.str "", V.int 2] (z : Int) = some v ∧ badAll v := by
      match z, hz with
      | 0, _ => exact ⟨_, atI_nat (j := 0) rfl, .inl rfl⟩
      | 1, _ => exact ⟨_, atI_nat (j := 1) rfl, .inr (.inl rfl)⟩
      | 2, _ => exact ⟨_, atI_nat (j := 2) rfl, .inr (.inr (.inl rfl))⟩
      | 3, _ => exact ⟨_, atI_nat (j := 3) rfl, .inr (.inr (.inr rfl))⟩
    obtain ⟨v, hv, hbv⟩ := bad
    refine ⟨p1, _, _, v, rfl, rfl, SqL.of g1, hv, 3, x, 1 + r, mks, v, rfl, hA14, .inr ⟨rfl, hbv, fun H15 s15 => ⟨rfl, _, rfl, wordne ?_⟩⟩⟩
    have hT15 := hT14.same s15
    refine ⟨fun σ' H' => σ' = lawT a t (1 + r) m d l x (some v7) y8 none ∧ ∃ c, TapeAt H' t c ts, ?_, ?_⟩
    · refine ⟨_, rfl, t, c14, ts, 8, rfl, hT15, by decide, fun H16 c16 q _ _ hT16 => ⟨rfl, _, rfl, ite2 (fun _ => ?_) (fun _ => iteF ⟨rfl, _, hT16⟩)⟩⟩
      exact ⟨_, rfl, t, c16, ts, rfl, hT16, fun H17 c17 hT17 => ⟨true, rfl, iteF ⟨rfl, _, hT17⟩⟩⟩
    rintro _ H16 ⟨rfl, c16, hT16⟩
    refine ⟨_, rfl, t, c16, ts, 24, rfl, hT16, by decide, fun H17 c17 q _ _ hT17 => ⟨rfl, _, rfl, ite2 (fun _ => ?_) (fun _ => k _)⟩⟩
    refine ⟨512, rfl, ⟨by decide, by decide, by decide, by decide, by decide⟩, fun q hq => ⟨q, List.range 512, rfl, SqL.of (by rw [upd_same, rg512]), by rw [List.length_range]; decide, fun H18 p18 xs18 s18 hp18 hx18 hL18 y dy hy hdy hne2 => ?_⟩⟩
    refine ⟨y, dy, p18, 9, xs18, List.range 512, rfl, upd_same, by rw [upd_ne hne2]; exact upd_same, .inl (SqL.of (made_new hy hdy _ _ hx18)), hL18.same (made_new hy hdy), by decide, by decide, masks9, fun H19 k19 hA19 => ⟨rfl, ?_⟩⟩
    refine ⟨_, rfl, y, 9, List.range 512, true, rfl, hA19, fun H20 m20 v20 pm20 srt20 s20 t20 => ⟨rfl, ?_⟩⟩
    rw [(told_non t20).mpr ((found_none pm20).mpr maj9)]
    have hA20 := hA19.same s20
    obtain ⟨⟨dz, l3, d3, fs3, ls3, ms3, b1, b2, b3, b4, b5, b6, _⟩, _⟩ := id hA20
    refine ⟨true, rfl, ?_⟩
    refine ⟨_, rfl, y, dz, fs3, rfl, b1, b6 _ (by decide +kernel) (by decide +kernel) (by decide +kernel), small (m := 2) (Nat.le_refl _), fun q2 hq2 => ?_⟩
    have sq2 := same_new (o := .tup [V.int 8, V.int 0]) hq2
    refine ⟨y, q2, 9, List.range 512, [8, 0], 257, rfl, hA20.same sq2, upd_same, by decide, lot257, by decide, fun H22 b22 s22 hb22 => ?_⟩
    have eb : b22 = true := hb22.mpr looks9
    subst eb
    exact ⟨true, true, rfl, rfl, k _⟩
end
end Fam

/-! From the top's facts to the law. -/
namespace Fam
open PySem L2 OwnX
def MetAt (K : PySem.W.Frag) (C : Addr) (x qual : Str) (st : Stmt) (f : Addr) : Prop :=
  ∃ (od an : Option Addr) (sl : Array (Option Value)) (oc kV dc pm cd ct : Value), PySem.W.findIn K (.ref C) x = some (some (.ref f)) ∧ PySem.W.isFn K (.ref f) = true ∧
    K.lookup f = some ⟨oc, od, .func (PySem.W.fnOf x qual (defArgs st) (defBody st) (defScope st) .none kV dc pm an cd ct), sl⟩ ∧ PySem.W.codeIn K cd qual = true ∧ PySem.W.keepIn K (.ref f) = true
theorem met_at {K : PySem.W.Frag} {C : Addr} {x qual : Str} {st : Stmt} {f : Addr} {od an : Option Addr} {sl : Array (Option Value)} {oc kV dc pm cd ct : Value} (a : PySem.W.findIn K (.ref C) x = some (some (.ref f))) (b : PySem.W.isFn K (.ref f) = true)
    (l : K.lookup f = some ⟨oc, od, .func (PySem.W.fnOf x qual (defArgs st) (defBody st) (defScope st) .none kV dc pm an cd ct), sl⟩) (c : PySem.W.codeIn K cd qual = true) (k : PySem.W.keepIn K (.ref f) = true) : ∃ f, MetAt K C x qual st f := ⟨f, od, an, sl, oc, kV, dc, pm, cd, ct, a, b, l, c, k⟩
theorem met_of {K : PySem.W.Frag} {C : Addr} {x qual : Str} {st : Stmt} {f : Addr} {ps : List Str} (M : MetAt K C x qual st f)
    (hb : ∀ (kV doc pm : Value) (an : Option Addr) (cdv ct : Value) (us : List Value), us.length = ps.length → bindArgs (PySem.W.fnOf x qual (defArgs st) (defBody st) (defScope st) .none kV doc pm an cdv ct) ⟨us, []⟩ = pure (ps.zip us)) :
    ∃ fd : FuncData, Fun K x qual st f fd ∧ Meth K C x f ∧ Binds K fd ps [] := by
  obtain ⟨od, an, sl, oc, kV, dc, pm, cd, ct, a, b, l, c, k⟩ := M
  have F := fun_mk (st := st) l c k
  exact ⟨_, F, ⟨a, b, k⟩, F.binds hb⟩
/-- a def of the program that may raise -/
theorem calE {P : Program} {w : World} {K : PySem.W.Frag} {mg : Str → Option Value} {base : Heap} {h : Heap} {k : Nat} {x : Str} {st : Stmt} {ps : List Str} {sp : Sp} (X : K.In h) (G : h.Ns mainGlobals mg) (D : ∃ f, DefAt K x st f)
    (hb : ∀ (kV doc pm : Value) (an : Option Addr) (cdv ct : Value) (us : List Value), us.length = ps.length → bindArgs (PySem.W.fnOf x x (defArgs st) (defBody st) (defScope st) .none kV doc pm an cdv ct) ⟨us, []⟩ = pure (ps.zip us))
    (ok : ∀ f fd, Fun K x x st f fd → FnOk P w K mg base (L2.CX P w) k f fd ps sp) : CalE P w K mg base k x ps sp := by
  obtain ⟨f, od, an, sl, oc, kV, dc, pm, cd, ct, a, l, c, kk⟩ := D
  have F := fun_mk (st := st) l c kk
  exact ⟨f, _, ok f _ F, F.binds hb, kk, PySem.W.mg_of X G a⟩
theorem exm_of {K : PySem.W.Frag} {B C : Addr} {r : Bool} (b : PySem.W.subIn K (.ref C) (.type "BaseException") = some true) (i : PySem.W.isClsIn K C = true) (t : PySem.W.typeIn K (.ref C) = some (.type "type")) (o : PySem.W.subIn K (.ref B) (.ref C) = some r) : PySem.W.exmOne K (.ref B) (.ref C) = some r := by
  have i2 : (PySem.W.clsIn K C).isSome = true := i
  unfold PySem.W.exmOne PySem.W.kitCls
  simp only [b, i2, t, o]
  rfl
theorem err_mk {K : PySem.W.Frag} {h : Heap} {mg : Str → Option Value} {B BL : Addr} {bm : List Value} (X : K.In h) (G : h.Ns mainGlobals mg) (N : BadFacts K mg B) (a : PySem.W.nsIn K mainGlobals "BadLot" = some (some (.ref BL))) (fP : ExcBaseFacts "ValueError" "ValueError.__new__" "ValueError.__init__" bm) (x : PySem.W.excIn K BL bm "ValueError.__new__" = true) (k : PySem.W.keepIn K (.ref BL) = true)
    (b : PySem.W.subIn K (.ref BL) (.type "BaseException") = some true) (t : PySem.W.typeIn K (.ref BL) = some (.type "type")) (i : PySem.W.isClsIn K BL = true) (o : PySem.W.subIn K (.ref BL) (.ref BL) = some true) (o2 : PySem.W.subIn K (.ref B) (.ref BL) = some false) : ErrF K mg B BL :=
  ⟨⟨PySem.W.mg_of X G a, ⟨bm, x, fP⟩, k, b, t⟩, N, exm_of b i t o, exm_of b i t o2⟩
structure ProgTops (K : PySem.W.Frag) : Prop where
  d_is_int : ∃ f, DefAt K "is_int" sIsInt f
  d_is_between : ∃ f, DefAt K "is_between" sIsBetween f
  d_check_number : ∃ f, DefAt K "check_number" sCheckNumber f
  d_lot_of : ∃ f, DefAt K "lot_of" sLotOf f
  d_mask_of : ∃ f, DefAt K "mask_of" sMaskOf f
  d_lot_of_mask : ∃ f, DefAt K "lot_of_mask" sLotOfMask f
  d_check_word : ∃ f, DefAt K "check_word" sCheckWord f
  d_broken : ∃ f, DefAt K "broken" sBroken f
structure Tops (K : PySem.W.Frag) : Prop where
  d_l_draws : ∃ f, DefAt K "_law_draws" sDraws f
  d_l_take : ∃ f, DefAt K "_law_take" sTake f
  d_l_full : ∃ f, DefAt K "_law_full" sFull f
  d_l_ones : ∃ f, DefAt K "_law_ones" sOnes f
  d_l_lot : ∃ f, DefAt K "_law_lot" sLot f
  d_l_mask : ∃ f, DefAt K "_law_mask" sMask f
  d_l_family : ∃ f, DefAt K "_law_family" sFamily f
  d_l_all_lots : ∃ f, DefAt K "_law_all_lots" sAllLots f
  d_l_drawn_masks : ∃ f, DefAt K "_law_drawn_masks" sDrawnMasks f
  d_l_order : ∃ f, DefAt K "_law_order" sOrder f
  d_l_lots_of : ∃ f, DefAt K "_law_lots_of" sLotsOf f
  d_l_shown : ∃ f, DefAt K "_law_shown" sShown f
  d_l_pair_due : ∃ f, DefAt K "_law_pair_due" sPairDue f
  d_l_triple_due : ∃ f, DefAt K "_law_triple_due" sTripleDue f
  d_l_closed_by : ∃ f, DefAt K "_law_closed_by" sClosedBy f
  d_l_held_so : ∃ f, DefAt K "_law_held_so" sHeldSo f
  d_l_looks : ∃ f, DefAt K "_law_looks" sLooks f
  d_l_all_ok : ∃ f, DefAt K "_law_all_ok" sAllOk f
  d_l_told_ok : ∃ f, DefAt K "_law_told_ok" sToldOk f
  d_l_word : ∃ f, DefAt K "_law_word" sWord f
  d_l_large_ok : ∃ f, DefAt K "_law_large_ok" sLargeOk f
  d_law : ∃ f, DefAt K "law" sLaw f
structure FamMet (K : PySem.W.Frag) (C : Addr) : Prop where
  d_init : ∃ f, MetAt K C "__init__" "Family.__init__" sFInit f
  d_iter : ∃ f, MetAt K C "__iter__" "Family.__iter__" sFamIter f
  d_looks : ∃ f, MetAt K C "looks" "Family.looks" sFLooks f
  d_held : ∃ f, MetAt K C "held" "Family.held" sFHeld f
structure CloMet (K : PySem.W.Frag) (CC : Addr) : Prop where
  d_init : ∃ f, MetAt K CC "__init__" "Closing.__init__" sClInit f
  d_parts_in : ∃ f, MetAt K CC "parts_in" "Closing.parts_in" sPartsIn f
  d_is_broken : ∃ f, MetAt K CC "is_broken" "Closing.is_broken" sIsBroken f
  d_misses : ∃ f, MetAt K CC "misses" "Closing.misses" sMisses f
  d_third : ∃ f, MetAt K CC "third" "Closing.third" sThird f
structure Bares2 (K : PySem.W.Frag) : Prop where
  set : PySem.W.nsIn K mainGlobals "set" = some none
  iter : PySem.W.nsIn K mainGlobals "iter" = some none
  max : PySem.W.nsIn K mainGlobals "max" = some none
  sum : PySem.W.nsIn K mainGlobals "sum" = some none
  any : PySem.W.nsIn K mainGlobals "any" = some none
  all : PySem.W.nsIn K mainGlobals "all" = some none
  enumerate : PySem.W.nsIn K mainGlobals "enumerate" = some none
  str : PySem.W.nsIn K mainGlobals "str" = some none
theorem Bares2.bare {K : PySem.W.Frag} {h : Heap} {mg : Str → Option Value} (X : K.In h) (G : h.Ns mainGlobals mg) (b : Bares2 K) : Bare2 mg :=
  ⟨PySem.W.mg_none_of X G b.set, PySem.W.mg_none_of X G b.iter, PySem.W.mg_none_of X G b.max, PySem.W.mg_none_of X G b.sum, PySem.W.mg_none_of X G b.any, PySem.W.mg_none_of X G b.all, PySem.W.mg_none_of X G b.enumerate, PySem.W.mg_none_of X G b.str⟩
theorem fam_c {K : PySem.W.Frag} {C : Addr} (pg : PySem.W.plainGet K C Str.empty = true) (hd : PySem.W.hasDictIn K C = true) (po : PySem.W.plainOver K C = true) (sa : PySem.W.findIn K (.ref C) "__setattr__" = some (some (.builtin "object.__setattr__")))
    (n1 : PySem.W.findIn K (.ref C) "size" = some none) (n2 : PySem.W.findIn K (.ref C) "lots" = some none) (n3 : PySem.W.findIn K (.ref C) "masks" = some none) : FamC K C := ⟨⟨pg, hd, po, sa⟩, n1, n2, n3⟩
theorem clo_c {K : PySem.W.Frag} {C : Addr} (pg : PySem.W.plainGet K C Str.empty = true) (hd : PySem.W.hasDictIn K C = true) (po : PySem.W.plainOver K C = true) (sa : PySem.W.findIn K (.ref C) "__setattr__" = some (some (.builtin "object.__setattr__")))
    (n1 : PySem.W.findIn K (.ref C) "family" = some none) (n2 : PySem.W.findIn K (.ref C) "how" = some none) (n3 : PySem.W.findIn K (.ref C) "order" = some none) (n4 : PySem.W.findIn K (.ref C) "others" = some none) (n5 : PySem.W.findIn K (.ref C) "parts" = some none) (n6 : PySem.W.findIn K (.ref C) "known" = some none) : CloC K C := ⟨⟨pg, hd, po, sa⟩, n1, n2, n3, n4, n5, n6⟩
theorem all_mk {P : Program} {w : World} {K : PySem.W.Frag} {h : Heap} {mg : Str → Option Value} {fa C CC B BL : Addr} (X : K.In h) (G : h.Ns mainGlobals mg) (hfa : mg "law" = some (.ref fa))
    (aC : PySem.W.nsIn K mainGlobals "Family" = some (some (.ref C))) (aCC : PySem.W.nsIn K mainGlobals "Closing" = some (some (.ref CC))) (hM : ∃ tm, PySem.W.nsIn K mainGlobals "MOST_PLACES" = some (some (.int 10 tm)))
    (p : ProgTops K) (t : Tops K) (bs : Bares K) (bs2 : Bares2 K) (Wd : Words K C) (NE : ErrF K mg B BL) (NR : ∀ base, BadRaise P w K mg base B) (FC : FamC K C) (CL : CloC K CC) (mC : PySem.W.makesIn K C = true) (kC : PySem.W.keepIn K (.ref C) = true) (mCC : PySem.W.makesIn K CC = true) (kCC : PySem.W.keepIn K (.ref CC) = true)
    (fm : FamMet K C) (cm : CloMet K CC) :
    ∃ fd : FuncData, (∀ (s : Shared) (v : Value), BindsTo s fd ⟨[v], []⟩ [("_law_script", v)]) ∧ ∀ base : Heap, K.In base → base.Ns mainGlobals mg → FnOk P w K mg base CX0 7 fa fd ["_law_script"] (spLaw K) := by
  obtain ⟨f, od, an, sl, oc, kV, dc, pm, cd, ct, a, l1, c, kk⟩ := t.d_law
  have e := hfa.symm.trans (PySem.W.mg_of X G a)
  cases e
  refine ⟨PySem.W.fnOf "law" "law" (defArgs sLaw) (defBody sLaw) (defScope sLaw) .none kV dc pm an cd ct, fun s v => .of_eq rfl, fun base b1 b2 => ?_⟩
  obtain ⟨tm, aM⟩ := hM
  have T := bs.bare X G
  have T2 := bs2.bare X G
  have gC := PySem.W.mg_of X G aC
  have gCC := PySem.W.mg_of X G aCC
  have NB := NR base
  have cInt : Cal P w K mg base 1 "is_int" ["value"] (spIsInt K) := cal X G p.d_is_int (fun _ _ _ _ _ _ us hl => match us, hl with | [_], _ => rfl) fun f fd F => ok_is_int F T
  have cBet : Cal P w K mg base 2 "is_between" ["value", "low", "high"] spBetweenX := cal X G p.d_is_between (fun _ _ _ _ _ _ us hl => match us, hl with | [_, _, _], _ => rfl) fun f fd F => ok_betweenX F cInt
  have cNum : Cal P w K mg base 2 "check_number" ["value", "which", "low", "high"] spGood := cal X G p.d_check_number (fun _ _ _ _ _ _ us hl => match us, hl with | [_, _, _, _], _ => rfl) fun f fd F => ok_check_number F cInt
  have cLotE : CalE P w K mg base 3 "lot_of" ["value", "size"] (spLotOfX K BL) := calE X G p.d_lot_of (fun _ _ _ _ _ _ us hl => match us, hl with | [_, _], _ => rfl) fun f fd F => ok_lot_ofX F T T2 NE.lot cBet
  have cLot : Cal P w K mg base 3 "lot_of" ["value", "size"] spLotOf := by
    obtain ⟨g, gd, ok, b, kp, mf⟩ := cLotE.ex
    exact ⟨g, gd, lot_of_good ok, b, kp, mf⟩
  have cMaskOf : Cal P w K mg base 1 "mask_of" ["lot"] spMaskOf := cal X G p.d_mask_of (fun _ _ _ _ _ _ us hl => match us, hl with | [_], _ => rfl) fun f fd F => ok_mask_of F
  have cLM : Cal P w K mg base 1 "lot_of_mask" ["mask", "size"] spLotOfMask := cal X G p.d_lot_of_mask (fun _ _ _ _ _ _ us hl => match us, hl with | [_, _], _ => rfl) fun f fd F => ok_lot_of_mask F T
  have cWord : CalE P w K mg base 3 "check_word" ["word"] (spCheckWord B) := calE X G p.d_check_word (fun _ _ _ _ _ _ us hl => match us, hl with | [_], _ => rfl) fun f fd F => ok_check_word F T T2 NB gC Wd
  obtain ⟨fI, mI⟩ := fm.d_init
  obtain ⟨dI, FI, eI, bI⟩ := met_of (ps := ["self", "size", "lots"]) mI (fun _ _ _ _ _ _ us hl => match us, hl with | [_, _, _], _ => rfl)
  obtain ⟨fT, mT⟩ := fm.d_iter
  obtain ⟨dT, FT, eT, bT⟩ := met_of (ps := ["self"]) mT (fun _ _ _ _ _ _ us hl => match us, hl with | [_], _ => rfl)
  obtain ⟨fK, mK⟩ := fm.d_looks
  obtain ⟨dK, FK, eK, bK⟩ := met_of (ps := ["self", "lot"]) mK (fun _ _ _ _ _ _ us hl => match us, hl with | [_, _], _ => rfl)
  obtain ⟨fH, mH⟩ := fm.d_held
  obtain ⟨dH, FH, eH, bH⟩ := met_of (ps := ["self", "inside", "outside"]) mH (fun _ _ _ _ _ _ us hl => match us, hl with | [_, _, _], _ => rfl)
  obtain ⟨fCI, mCI⟩ := cm.d_init
  obtain ⟨dCI, FCI, eCI, bCI⟩ := met_of (ps := ["self", "family", "word"]) mCI (fun _ _ _ _ _ _ us hl => match us, hl with | [_, _, _], _ => rfl)
  obtain ⟨fCP, mCP⟩ := cm.d_parts_in
  obtain ⟨dCP, FCP, eCP, bCP⟩ := met_of (ps := ["self", "single"]) mCP (fun _ _ _ _ _ _ us hl => match us, hl with | [_, _], _ => rfl)
  obtain ⟨fCB, mCB⟩ := cm.d_is_broken
  obtain ⟨dCB, FCB, eCB, bCB⟩ := met_of (ps := ["self", "both", "single"]) mCB (fun _ _ _ _ _ _ us hl => match us, hl with | [_, _, _], _ => rfl)
  obtain ⟨fCM, mCM⟩ := cm.d_misses
  obtain ⟨dCM, FCM, eCM, bCM⟩ := met_of (ps := ["self", "both", "single"]) mCM (fun _ _ _ _ _ _ us hl => match us, hl with | [_, _, _], _ => rfl)
  obtain ⟨fCT, mCT⟩ := cm.d_third
  obtain ⟨dCT, FCT, eCT, bCT⟩ := met_of (ps := ["self", "both", "single"]) mCT (fun _ _ _ _ _ _ us hl => match us, hl with | [_, _, _], _ => rfl)
  have O : OwnIt P w K mg base C fT "lots" := fam_iter FT T2.iter FC.cl FC.lots eT.at_ eT.fn
  have okI := ok_fam_init (P := P) (w := w) (mg := mg) (base := base) (qs := C) FI T T2 FC ⟨tm, PySem.W.mg_of X G aM⟩ cNum cLot cMaskOf
  have MI : Mk K C fI := ⟨mC, eI.at_, eI.fn, kC⟩
  have okK := ok_f_looks FK T T2 FC cLotE cMaskOf
  have okH := ok_f_held FH FC cLotE cMaskOf
  have okCI := ok_cl_init (P := P) (w := w) (mg := mg) (base := base) FCI CL FC O cMaskOf
  have okCP : FnOk P w K mg base CX0 1 fCP dCP ["self", "single"] (spPartsIn C CC) := ok_parts_in FCP T CL
  have okCM := ok_misses FCM T2 CL FC eCP okCP bCP
  have okCB := ok_is_broken FCB CL eCM okCM bCM
  have okCT : FnOk P w K mg base CX0 1 fCT dCT ["self", "both", "single"] (spThird C CC) := ok_third FCT CL FC
  have cBrE : CalE P w K mg base 5 "broken" ["family", "word"] (spBroken B C) := calE X G p.d_broken (fun _ _ _ _ _ _ us hl => match us, hl with | [_, _], _ => rfl) fun f fd F => ok_broken F T T2 CL FC gCC cWord cLM ⟨mCC, eCI.at_, eCI.fn, kCC⟩ okCI bCI eCB okCB bCB eCT okCT bCT
  have cBr := broken_told cBrE
  have okKg := looks_good okK
  have lFull : Cal P w K mg base 1 "_law_full" ["_law_size"] spFull := cal X G t.d_l_full (fun _ _ _ _ _ _ us hl => match us, hl with | [_], _ => rfl) fun f fd F => ok_full F T
  have lTake : Cal P w K mg base 1 "_law_take" ["_law_tape", "_law_many"] spDraw := cal X G t.d_l_take (fun _ _ _ _ _ _ us hl => match us, hl with | [_, _], _ => rfl) fun f fd F => ok_draw (ok_take F T)
  have lOnes : Cal P w K mg base 1 "_law_ones" ["_law_mask_here"] spOnes := cal X G t.d_l_ones (fun _ _ _ _ _ _ us hl => match us, hl with | [_], _ => rfl) fun f fd F => ok_ones F T
  have lLot : Cal P w K mg base 1 "_law_lot" ["_law_mask_here"] spLot := cal X G t.d_l_lot (fun _ _ _ _ _ _ us hl => match us, hl with | [_], _ => rfl) fun f fd F => ok_lot F T
  have lMask : Cal P w K mg base 2 "_law_mask" ["_law_lot_here"] (spMask K) := cal X G t.d_l_mask (fun _ _ _ _ _ _ us hl => match us, hl with | [_], _ => rfl) fun f fd F => ok_mask F T lFull
  have lFam : Cal P w K mg base 2 "_law_family" ["_law_tape", "_law_size"] spFamily := cal X G t.d_l_family (fun _ _ _ _ _ _ us hl => match us, hl with | [_, _], _ => rfl) fun f fd F => ok_family F T lTake lFull lOnes
  have lAll : Cal P w K mg base 2 "_law_all_lots" ["_law_size"] spAllLots := cal X G t.d_l_all_lots (fun _ _ _ _ _ _ us hl => match us, hl with | [_], _ => rfl) fun f fd F => ok_all_lots F T lLot lFull
  have lOrd : Cal P w K mg base 3 "_law_order" ["_law_size"] spOrder := cal X G t.d_l_order (fun _ _ _ _ _ _ us hl => match us, hl with | [_], _ => rfl) fun f fd F => ok_order F T lMask lAll
  have lDraws : Cal P w K mg base 1 "_law_draws" ["_law_script"] (spDraws K) := cal X G t.d_l_draws (fun _ _ _ _ _ _ us hl => match us, hl with | [_], _ => rfl) fun f fd F => ok_draws F T
  have lLots : Cal P w K mg base 2 "_law_lots_of" ["_law_masks"] (spLotsOf K) := cal X G t.d_l_lots_of (fun _ _ _ _ _ _ us hl => match us, hl with | [_], _ => rfl) fun f fd F => ok_lots_of F T lLot
  have lDM : Cal P w K mg base 3 "_law_drawn_masks" ["_law_tape", "_law_size"] spFamily := cal X G t.d_l_drawn_masks (fun _ _ _ _ _ _ us hl => match us, hl with | [_, _], _ => rfl) fun f fd F => ok_drawn_masks F T lTake lFam
  have lShown : Cal P w K mg base 2 "_law_shown" ["_law_found"] (spShown K) := cal X G t.d_l_shown (fun _ _ _ _ _ _ us hl => match us, hl with | [_], _ => rfl) fun f fd F => ok_shown F T lLot
  have lPD : Cal P w K mg base 4 "_law_pair_due" ["_law_masks", "_law_size"] (spPairDue K) := cal X G t.d_l_pair_due (fun _ _ _ _ _ _ us hl => match us, hl with | [_, _], _ => rfl) fun f fd F => ok_pair_due F T lOrd
  have lTD : Cal P w K mg base 4 "_law_triple_due" ["_law_masks", "_law_size"] (spTripleDue K) := cal X G t.d_l_triple_due (fun _ _ _ _ _ _ us hl => match us, hl with | [_, _], _ => rfl) fun f fd F => ok_triple_due F T lOrd
  have lCB : Cal P w K mg base 1 "_law_closed_by" ["_law_masks", "_law_word_here"] (spClosedBy K) := cal X G t.d_l_closed_by (fun _ _ _ _ _ _ us hl => match us, hl with | [_, _], _ => rfl) fun f fd F => ok_closed_by F T
  have lHS : Cal P w K mg base 2 "_law_held_so" ["_law_masks", "_law_mask_here", "_law_size"] (spHeldSo K) := cal X G t.d_l_held_so (fun _ _ _ _ _ _ us hl => match us, hl with | [_, _, _], _ => rfl) fun f fd F => ok_held_so F T lFull
  have lLk : Cal P w K mg base 2 "_law_looks" ["_law_masks", "_law_mask_here", "_law_size"] (spLooks K) := cal X G t.d_l_looks (fun _ _ _ _ _ _ us hl => match us, hl with | [_, _, _], _ => rfl) fun f fd F => ok_law_looks F T lFull
  have lTO : Cal P w K mg base 6 "_law_told_ok" ["_law_family_here", "_law_masks"] (spToldOk K C) := cal X G t.d_l_told_ok (fun _ _ _ _ _ _ us hl => match us, hl with | [_, _], _ => rfl) fun f fd F => ok_told_ok F T FC cBr lPD lTD lShown
  have lAO : Cal P w K mg base 6 "_law_all_ok" ["_law_family_here", "_law_masks"] (spToldOk K C) := cal X G t.d_l_all_ok (fun _ _ _ _ _ _ us hl => match us, hl with | [_, _], _ => rfl) fun f fd F => ok_all_ok F T FC eK okKg bK cBr lFull lHS lLk lLot
  have lWd : Cal P w K mg base 6 "_law_word" ["_law_door", "_law_family_here", "_law_thing"] (spWordL K C) := cal X G t.d_l_word (fun _ _ _ _ _ _ us hl => match us, hl with | [_, _, _], _ => rfl) fun f fd F => ok_wordL F FC NE eK okK bK eH okH bH cBrE
  have lLO : Cal P w K mg base 6 "_law_large_ok" ["_law_tape"] spLargeOk := cal X G t.d_l_large_ok (fun _ _ _ _ _ _ us hl => match us, hl with | [_], _ => rfl) fun f fd F => ok_large_ok F T FC gC MI okI bI eK okKg bK cBr lFull lTake lLots lTD lShown
  exact ok_law (fun_mk l1 c kk) T FC gC MI okI bI eK okKg bK cBr lDraws lTake lDM lCB lLots lTO lAO lWd lLO
theorem walk7 {l : PySem.W.OpenLaw} {q : Program} {loose : List Str} {XP : (Str → Option Value) → Heap → Prop} {YP : World → Heap → Prop} {d : DefRec} {K : Params → PySem.W.Frag} (hn : l.most = some 63) (hdf : d.params.defaults = [])
    (hY : ∀ (w : World) (h : Heap), YP w h → (K w.params).In h)
    (F : ∀ (w : World) (mg : Str → Option Value) (fa : Addr) (h : Heap), (K w.params).In h → h.Ns mainGlobals mg → mg d.name = some (.ref fa) →
      ∃ fd : FuncData, (∀ (s : Shared) (u : Value), BindsTo s fd ⟨[u], []⟩ [("_law_script", u)]) ∧ ∀ base : Heap, (K w.params).In base → base.Ns mainGlobals mg → FnOk l.prog w (K w.params) mg base CX0 7 fa fd ["_law_script"] (spLaw (K w.params))) :
    PySem.W.WalkO q loose XP YP l.row.toRowW d [] (fun f vs => PySem.call f vs) :=
  L2.walk_of (n := 63) (k := 7) (x := "_law_script") (CX := fun _ => CX0) (sp := fun w => spLaw (K w.params)) hn (by decide) hdf ⟨rfl, by decide, by decide⟩ hY F (fun _ _ a ns hl _ hS => ⟨a, ns, rfl, hS, hl, fun _ => rfl⟩) fun _ _ _ _ _ z => z
end Fam

open PySem PySem.W PyProof.Rows
set_option maxHeartbeats 0 in
set_option maxRecDepth 100000 in
theorem PySem.Challenge.cw_lotsayings_k51_and_by_holders_two_by_pai_holds : PySem.Challenge.rw_lotsayings_k51_and_by_holders_two_by_pai.Holds := by
  w_on; o_law; k_head; (case hw => w_witness2)
  k_fill
  refine Fam.walk7 (l := PySem.Challenge.rw_lotsayings_k51_and_by_holders_two_by_pai) rfl rfl (fun w h Y => PySem.W.kIn_of Y) ?F
  case F =>
    intro w mg fa h KX G hmg
    refine' Fam.all_mk (C := ?C) (CC := ?CC) (B := ?B) (BL := ?BL) KX G hmg ?h1 ?h2 ?h3 ⟨?h4, ?h5, ?h6, ?h7, ?h8, ?h9, ?h10, ?h11⟩ ⟨?h12, ?h13, ?h14, ?h15, ?h16, ?h17, ?h18, ?h19, ?h20, ?h21, ?h22, ?h23, ?h24, ?h25, ?h26, ?h27, ?h28, ?h29, ?h30, ?h31, ?h32, ?h33⟩ ⟨?h34, ?h35, ?h36, ?h37, ?h38, ?h39, ?h40, ?h41, ?h42, ?h43⟩ ⟨?h44, ?h45, ?h46, ?h47, ?h48, ?h49, ?h50, ?h51⟩
      (Fam.words_mk (mc := .type "type") ?h52 ?h53 ?h54 ?h55 ?h56 ?h57 ?h58)
      (Fam.err_mk KX G (Fam.bad_mk KX G ?h59 ?h60 ?h61 ?h62 ?h63 ?h64 ?h65 ?h66 ?h67) ?h68 PySem.F.excBase_ValueError ?h69 ?h70 ?h71 ?h72 ?h73 ?h74 ?h75)
      (fun base => Fam.bad_raise_mk KX G ?h76 ?h77 ?h78 ?h79 ?h80 ?h81 ?h82 ?h83 ?h84 ?h85 ?h86 ?h87 ?h88)
      (Fam.fam_c ?h89 ?h90 ?h91 ?h92 ?h93 ?h94 ?h95) (Fam.clo_c ?h96 ?h97 ?h98 ?h99 ?h100 ?h101 ?h102 ?h103 ?h104 ?h105) ?h106 ?h107 ?h108 ?h109 ⟨?h110, ?h111, ?h112, ?h113⟩ ⟨?h114, ?h115, ?h116, ?h117, ?h118⟩
    case h1 => k_is
    case h2 => k_is
    case h3 => exact ⟨_, rfl⟩
    case h4 => (refine' Fam.def_at ?a ?l ?c ?k; (case a => k_is); (case l => k_is); (case c => k_is); (case k => k_is))
    case h5 => (refine' Fam.def_at ?a ?l ?c ?k; (case a => k_is); (case l => k_is); (case c => k_is); (case k => k_is))
    case h6 => (refine' Fam.def_at ?a ?l ?c ?k; (case a => k_is); (case l => k_is); (case c => k_is); (case k => k_is))
    case h7 => (refine' Fam.def_at ?a ?l ?c ?k; (case a => k_is); (case l => k_is); (case c => k_is); (case k => k_is))
    case h8 => (refine' Fam.def_at ?a ?l ?c ?k; (case a => k_is); (case l => k_is); (case c => k_is); (case k => k_is))
    case h9 => (refine' Fam.def_at ?a ?l ?c ?k; (case a => k_is); (case l => k_is); (case c => k_is); (case k => k_is))
    case h10 => (refine' Fam.def_at ?a ?l ?c ?k; (case a => k_is); (case l => k_is); (case c => k_is); (case k => k_is))
    case h11 => (refine' Fam.def_at ?a ?l ?c ?k; (case a => k_is); (case l => k_is); (case c => k_is); (case k => k_is))
    case h12 => (refine' Fam.def_at ?a ?l ?c ?k; (case a => k_is); (case l => k_is); (case c => k_is); (case k => k_is))
    case h13 => (refine' Fam.def_at ?a ?l ?c ?k; (case a => k_is); (case l => k_is); (case c => k_is); (case k => k_is))
    case h14 => (refine' Fam.def_at ?a ?l ?c ?k; (case a => k_is); (case l => k_is); (case c => k_is); (case k => k_is))
    case h15 => (refine' Fam.def_at ?a ?l ?c ?k; (case a => k_is); (case l => k_is); (case c => k_is); (case k => k_is))
    case h16 => (refine' Fam.def_at ?a ?l ?c ?k; (case a => k_is); (case l => k_is); (case c => k_is); (case k => k_is))
    case h17 => (refine' Fam.def_at ?a ?l ?c ?k; (case a => k_is); (case l => k_is); (case c => k_is); (case k => k_is))
    case h18 => (refine' Fam.def_at ?a ?l ?c ?k; (case a => k_is); (case l => k_is); (case c => k_is); (case k => k_is))
    case h19 => (refine' Fam.def_at ?a ?l ?c ?k; (case a => k_is); (case l => k_is); (case c => k_is); (case k => k_is))
    case h20 => (refine' Fam.def_at ?a ?l ?c ?k; (case a => k_is); (case l => k_is); (case c => k_is); (case k => k_is))
    case h21 => (refine' Fam.def_at ?a ?l ?c ?k; (case a => k_is); (case l => k_is); (case c => k_is); (case k => k_is))
    case h22 => (refine' Fam.def_at ?a ?l ?c ?k; (case a => k_is); (case l => k_is); (case c => k_is); (case k => k_is))
    case h23 => (refine' Fam.def_at ?a ?l ?c ?k; (case a => k_is); (case l => k_is); (case c => k_is); (case k => k_is))
    case h24 => (refine' Fam.def_at ?a ?l ?c ?k; (case a => k_is); (case l => k_is); (case c => k_is); (case k => k_is))
    case h25 => (refine' Fam.def_at ?a ?l ?c ?k; (case a => k_is); (case l => k_is); (case c => k_is); (case k => k_is))
    case h26 => (refine' Fam.def_at ?a ?l ?c ?k; (case a => k_is); (case l => k_is); (case c => k_is); (case k => k_is))
    case h27 => (refine' Fam.def_at ?a ?l ?c ?k; (case a => k_is); (case l => k_is); (case c => k_is); (case k => k_is))
    case h28 => (refine' Fam.def_at ?a ?l ?c ?k; (case a => k_is); (case l => k_is); (case c => k_is); (case k => k_is))
    case h29 => (refine' Fam.def_at ?a ?l ?c ?k; (case a => k_is); (case l => k_is); (case c => k_is); (case k => k_is))
    case h30 => (refine' Fam.def_at ?a ?l ?c ?k; (case a => k_is); (case l => k_is); (case c => k_is); (case k => k_is))
    case h31 => (refine' Fam.def_at ?a ?l ?c ?k; (case a => k_is); (case l => k_is); (case c => k_is); (case k => k_is))
    case h32 => (refine' Fam.def_at ?a ?l ?c ?k; (case a => k_is); (case l => k_is); (case c => k_is); (case k => k_is))
    case h33 => (refine' Fam.def_at ?a ?l ?c ?k; (case a => k_is); (case l => k_is); (case c => k_is); (case k => k_is))
    case h34 => k_is
    case h35 => k_is
    case h36 => k_is
    case h37 => k_is
    case h38 => k_is
    case h39 => k_is
    case h40 => k_is
    case h41 => k_is
    case h42 => k_is
    case h43 => k_is
    case h44 => k_is
    case h45 => k_is
    case h46 => k_is
    case h47 => k_is
    case h48 => k_is
    case h49 => k_is
    case h50 => k_is
    case h51 => k_is
    case h52 => k_is
    case h53 => k_is
    case h54 => k_is
    case h55 => k_is
    case h56 => k_is
    case h57 => decide
    case h58 => exact .cons ⟨_, rfl⟩ (.cons ⟨_, rfl⟩ (.cons ⟨_, rfl⟩ (.cons ⟨_, rfl⟩ (.cons ⟨_, rfl⟩ .nil))))
    case h59 => k_is
    case h60 => k_is
    case h61 => k_is
    case h62 => k_is
    case h63 => k_is
    case h64 => k_is
    case h65 => k_is
    case h66 => k_is
    case h67 => k_is
    case h68 => k_is
    case h69 => k_exc
    case h70 => k_is
    case h71 => k_is
    case h72 => k_is
    case h73 => k_is
    case h74 => k_is
    case h75 => k_is
    case h76 => k_is
    case h77 => k_is
    case h78 => decide +kernel
    case h79 => k_is
    case h80 => k_is
    case h81 => k_is
    case h82 => k_is
    case h83 => k_is
    case h84 => k_is
    case h85 => k_is
    case h86 => k_is
    case h87 => k_is
    case h88 => k_is
    case h89 => k_is
    case h90 => k_is
    case h91 => k_is
    case h92 => k_is
    case h93 => k_is
    case h94 => k_is
    case h95 => k_is
    case h96 => k_is
    case h97 => k_is
    case h98 => k_is
    case h99 => k_is
    case h100 => k_is
    case h101 => k_is
    case h102 => k_is
    case h103 => k_is
    case h104 => k_is
    case h105 => k_is
    case h106 => k_is
    case h107 => k_is
    case h108 => k_is
    case h109 => k_is
    case h110 => (refine' Fam.met_at ?a ?b ?l ?c ?k; (case a => k_is); (case b => k_is); (case l => k_is); (case c => k_is); (case k => k_is))
    case h111 => (refine' Fam.met_at ?a ?b ?l ?c ?k; (case a => k_is); (case b => k_is); (case l => k_is); (case c => k_is); (case k => k_is))
    case h112 => (refine' Fam.met_at ?a ?b ?l ?c ?k; (case a => k_is); (case b => k_is); (case l => k_is); (case c => k_is); (case k => k_is))
    case h113 => (refine' Fam.met_at ?a ?b ?l ?c ?k; (case a => k_is); (case b => k_is); (case l => k_is); (case c => k_is); (case k => k_is))
    case h114 => (refine' Fam.met_at ?a ?b ?l ?c ?k; (case a => k_is); (case b => k_is); (case l => k_is); (case c => k_is); (case k => k_is))
    case h115 => (refine' Fam.met_at ?a ?b ?l ?c ?k; (case a => k_is); (case b => k_is); (case l => k_is); (case c => k_is); (case k => k_is))
    case h116 => (refine' Fam.met_at ?a ?b ?l ?c ?k; (case a => k_is); (case b => k_is); (case l => k_is); (case c => k_is); (case k => k_is))
    case h117 => (refine' Fam.met_at ?a ?b ?l ?c ?k; (case a => k_is); (case b => k_is); (case l => k_is); (case c => k_is); (case k => k_is))
    case h118 => (refine' Fam.met_at ?a ?b ?l ?c ?k; (case a => k_is); (case b => k_is); (case l => k_is); (case c => k_is); (case k => k_is))
