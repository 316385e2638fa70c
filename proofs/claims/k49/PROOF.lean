import PyProof.Rows.All
import Wide.All
import OpenK.AllK
import Wide.FinOn
import HandS.ForMost
import HandS.Codes
import HandS.Conv
import HandS.IsInst
import HandS.NamedTupSort
import HandS.ForExc
import HandS.Style
import HandS.WideBits
import HandS.ClsMeth
import HandS.TryMany
import HandS.ExcField
import HandS.ExcInit
import HandS.SortKw
import HandS.IterVal
import HandS.Words
import HandS.SetFor
import HandS.DictComp
import HandS.Strs
import PySem.Challenge.RW_lotsayings_k49_box_by_all_weights
set_option Elab.async false
set_option linter.all false
set_option maxRecDepth 100000
set_option maxHeartbeats 4000000
/-! The law's own part of the row by places. -/
namespace Fam
open PySem
def top (i : Nat) : Stmt := PySem.Challenge.pw_lotsayings_k49_box_by_all_weights.main.body.getD i (.Pass ⟨0, 0, 0, 0⟩)

abbrev sDraws : Stmt := top 51
abbrev sTake : Stmt := top 52
abbrev sLawInt : Stmt := top 53
abbrev sFull : Stmt := top 54
abbrev sOnes : Stmt := top 55
abbrev sLot : Stmt := top 56
abbrev sMask : Stmt := top 57
abbrev sFamily : Stmt := top 58
abbrev sBest : Stmt := top 59
abbrev sInts : Stmt := top 60
abbrev sAllLots : Stmt := top 61
abbrev sDrawnMasks : Stmt := top 62
abbrev sOrder : Stmt := top 63
abbrev sLotsOf : Stmt := top 64
abbrev sShown : Stmt := top 65
abbrev sWhole : Stmt := top 66
abbrev sBoxDue : Stmt := top 67
abbrev sPlaceSum : Stmt := top 68
abbrev sWeightsOk : Stmt := top 69
abbrev sWord : Stmt := top 70
abbrev sLargeOk : Stmt := top 71
abbrev sLaw : Stmt := top 72
end Fam
/-! The tape and the numbers of the families' laws. -/
namespace Fam
open PySem L2
open C8 (pss_cut tCut)

/-- built-in names that the top leaves as they are -/
structure Bare (mg : Str → Option Value) : Prop where
  len : mg "len" = none
  int : mg "int" = none
  range : mg "range" = none
  min : mg "min" = none
  bool : mg "bool" = none
  isi : mg "isinstance" = none
  tuple : mg "tuple" = none
  list : mg "list" = none
  abs : mg "abs" = none
  sorted : mg "sorted" = none

theorem ixN_at {n j : Nat} (h : j < n) : ixN n (j : Int) = some j := by
  unfold ixN
  rw [if_pos (Int.natCast_nonneg j), if_pos (by omega)]
  rfl
theorem small {n m : Nat} (h : n ≤ m) (hm : m ≤ 16777216 := by decide) : n ≤ sizeLine := by
  rw [sizeLine_eq]
  omega
theorem below {n m : Nat} (h : n ≤ m) (hm : m < 16777216 := by decide) : n < sizeLine := by
  rw [sizeLine_eq]
  omega
/-- a new address: all that stood stands -/
theorem same_new {H : Hp} {p : Addr} {o : HO} (h : H p = none) : Same H (upd H p o) := fun b x e => by
  rw [upd_ne (ne_of_none e h)]
  exact e

theorem fm {x b : Int} (h : 0 < b) (h2 : b ≤ 2147483648) : 0 ≤ x.fmod b ∧ x.fmod b < 2147483648 := ⟨Int.fmod_nonneg_of_pos _ h, Int.lt_of_lt_of_le (Int.fmod_lt_of_pos _ h) h2⟩

/-! ### the tape -/
/-- the tape at a: its cursor c and the numbers behind it -/
def TapeAt (H : Hp) (a : Addr) (c : Nat) (ts : List Int) : Prop := H a = some (.lst (V.int (c : Int) :: ts.map V.int))
/-- what one draw gives, and the cursor behind it -/
def drawn (c : Nat) (ts : List Int) (m : Int) : Int := if c < ts.length then (ts.getD c 0).fmod m else 0
def after (c : Nat) (ts : List Int) : Nat := if c < ts.length then c + 1 else c
theorem drawn_lt {c : Nat} {ts : List Int} {m : Int} (hm : 0 < m) : 0 ≤ drawn c ts m ∧ drawn c ts m < m := by
  unfold drawn
  split
  · exact ⟨Int.fmod_nonneg_of_pos _ hm, Int.fmod_lt_of_pos _ hm⟩
  · exact ⟨Int.le_refl _, hm⟩

def spTake : Sp := fun vs H Q _ => ∃ (a : Addr) (c : Nat) (ts : List Int) (m : Int), vs = [.ref a, .int m] ∧ TapeAt H a c ts ∧ m ≠ 0 ∧
  ∀ H' : Hp, (∀ b, b ≠ a → H' b = H b) → TapeAt H' a (after c ts) ts → Q (.int (drawn c ts m)) H'
/-- the numbers of a tape, laid from a script -/
def spDraws (K : PySem.W.Frag) : Sp := fun vs H Q _ => ∃ (a : Addr) (ns : List Int), vs = [.ref a] ∧ SqL K H a (ns.map V.int) ∧ ns.length ≤ 63 ∧
  ∀ (H' : Hp) (p : Addr) (ts : List Int), Same H H' → H p = none → TapeAt H' p 0 ts → Q (.ref p) H'

section
variable {P : Program} {w : World} {K : PySem.W.Frag} {mg : Str → Option Value} {base : Heap}
theorem scT : FnScope ["_law_tape", "_law_many", "_law_at"] ["_law_tape", "_law_many"] (defScope sTake) := ⟨rfl, rfl, rfl, by decide +kernel, rfl, by decide +kernel, by decide +kernel⟩
theorem ok_take {f : Addr} {fd : FuncData} (F : Fun K "_law_take" "_law_take" sTake f fd) (T : Bare mg) : FnOk P w K mg base CX0 1 f fd ["_law_tape", "_law_many"] spTake := by
  refine F.ok scT (fun vs H Q E h => ?_) (fun cdv A outer s H vs Q E hr h => ?_)
  · obtain ⟨a, c, ts, m, rfl, _⟩ := h
    rfl
  · obtain ⟨a, c, ts, m, rfl, hT, hm, k⟩ := h
    refine ⟨_, pss_cons (ps_set (i := 2) scT.nd rfl (Or.inl rfl) (pe_op op_add (pe_ix ix_list (pv 0) pe_int (fun _ _ => rfl)) pe_int))
      (pss_cons (ps_if (pt_cmpR op_ge (pv 2) (pe_callB call_len_seq (by rfl) T.len PySem.boot_len (pa_cons (pv 0) pa_nil)) (nomark _)) (pss_one (ps_ret pe_int)) pss_nil)
      (pss_cons (ps_asg (pv 2) (pg_sub (pv 0) pe_int set_list))
      (pss_one (ps_ret (pe_op op_modN (pe_callTy call_int1 (by rfl) T.int (by decide +kernel) (pa_cons (pe_ix ix_list (pv 0) (pv 2) (fun _ _ => rfl)) pa_nil)) (pv 1)))))), ?_⟩
    refine ⟨_, rfl, a, _, _, _, rfl, rfl, SqL.of hT, atI_nat (j := 0) rfl, _, _, rfl, rfl, ?_⟩
    refine ⟨_, rfl, _, rfl, a, _, rfl, .inl (SqL.of hT), _, _, rfl, rfl, _, rfl, ?_⟩
    have el : ((V.int (c : Int) :: ts.map V.int).length : Int) = (ts.length : Int) + 1 := by
      rw [List.length_cons, List.length_map]
      omega
    refine ite2 (fun z => ?_) (fun z => ?_)
    · have z' := of_decide_eq_true z
      have hc : ¬ c < ts.length := by omega
      have e1 : drawn c ts m = 0 := if_neg hc
      have e2 : after c ts = c := if_neg hc
      have q := k H (fun _ _ => rfl) (by rw [e2]; exact hT)
      rw [e1] at q
      exact q
    · have z' := fun q => z (decide_eq_true q)
      have hc : c < ts.length := by
        have z2 : ¬ (((V.int (c : Int) :: ts.map V.int).length : Int) ≤ (c : Int) + 1) := z'
        omega
      have e1 : drawn c ts m = (ts.getD c 0).fmod m := if_pos hc
      have e2 : after c ts = c + 1 := if_pos hc
      have hi : (V.int (c : Int) :: ts.map V.int)[c + 1]? = some (V.int (ts.getD c 0)) := by
        rw [List.getElem?_cons_succ, List.getElem?_map, List.getD_eq_getElem?_getD, List.getElem?_eq_getElem hc]
        rfl
      refine ⟨_, rfl, _, rfl, a, _, _, 0, rfl, rfl, hT, ixN_at (j := 0) (by rw [List.length_cons]; omega), ?_⟩
      have eu : (V.int (c : Int) :: ts.map V.int).set 0 (V.int ((c : Int) + 1)) = V.int (((c + 1 : Nat)) : Int) :: ts.map V.int := rfl
      have hi2 : ((V.int (c : Int) :: ts.map V.int).set 0 (V.int ((c : Int) + 1)))[c + 1]? = some (V.int (ts.getD c 0)) := hi
      refine ⟨_, rfl, _, rfl, a, _, _, V.int (ts.getD c 0), rfl, rfl, SqL.of upd_same, atI_nat (j := c + 1) hi2, .inl ⟨_, rfl, _, rfl, _, _, rfl, rfl, hm, ?_⟩⟩
      have q := k (upd H a (.lst (V.int ((c + 1 : Nat) : Int) :: ts.map V.int))) (fun b hb => upd_ne hb) (by rw [e2]; exact upd_same)
      rw [e1] at q
      exact q

theorem scD : FnScope ["_law_script", "_law_tape", "_law_place", "_law_cell", "_law_k", "_law_mixed"] ["_law_script"] (defScope sDraws) := ⟨rfl, rfl, rfl, by decide +kernel, rfl, by decide +kernel, by decide +kernel⟩
theorem ok_draws {f : Addr} {fd : FuncData} (F : Fun K "_law_draws" "_law_draws" sDraws f fd) (T : Bare mg) : FnOk P w K mg base CX0 1 f fd ["_law_script"] (spDraws K) := by
  refine F.ok scD (fun vs H Q E h => ?_) (fun cdv A outer s H vs Q E hr h => ?_)
  · obtain ⟨a, ns, rfl, _⟩ := h
    rfl
  · obtain ⟨a, ns, rfl, hS, hl, k⟩ := h
    refine ⟨_, pss_cons (ps_set (i := 1) scD.nd rfl (Or.inl rfl) (pe_lst (pa_cons pe_int pa_nil)))
      (pss_cons (ps_for PassesOwn.never rfl (pi_range1 rfl T.range (pa_cons (pe_callB (call_min2 rfl) (by rfl) T.min (by decide +kernel) (pa_cons (pe_callB call_len_seq (by rfl) T.len PySem.boot_len (pa_cons (pv 0) pa_nil)) (pa_cons pe_int pa_nil))) pa_nil))
          (pg_name (i := 2) scD.nd rfl (Or.inl rfl))
        (pss_cons (ps_set (i := 3) scD.nd rfl (Or.inl rfl) (pe_callTy call_int1 (by rfl) T.int (by decide +kernel) (pa_cons (pe_ix ix_list (pv 0) (pv 2) (fun _ _ => rfl)) pa_nil)))
        (pss_cut (ps_if (pt_cmpR op_lt (pv 3) pe_int (nomark _)) (pss_one (ps_set (i := 3) scD.nd rfl (Or.inl rfl) (pe_op op_sub pe_int (pv 3)))) pss_nil)
        (pss_one (ps_if (pt_cmpR op_ge (pv 3) (pe_op op_pow pe_int pe_int) (nomark _))
          (pss_one (ps_for PassesOwn.never rfl (pi_range1 rfl T.range (pa_cons pe_int pa_nil)) (pg_name (i := 4) scD.nd rfl (Or.inl rfl))
            (pss_one (ps_if (pt_cmpR op_gt (pv 3) pe_int (nomark _))
              (pss_cons (ps_expr (pe_bm PySem.F.plainAttrs_list PySem.F.slot_list_append PySem.F.type_list_append mt_append (pv 1) (pa_cons (pe_op op_modN (pe_callTy call_int1 (by rfl) T.int (by decide +kernel) (pa_cons (pv 3) pa_nil)) pe_int) pa_nil)))
              (pss_one (ps_set (i := 3) scD.nd rfl (Or.inl rfl) (pe_op op_fdivN (pv 3) pe_int)))) pss_nil))))
          (pss_cons (ps_set (i := 5) scD.nd rfl (Or.inl rfl) (pe_op op_modN (pe_callTy call_int1 (by rfl) T.int (by decide +kernel) (pa_cons (pe_op op_add (pe_op op_add (pe_op op_mul (pv 3) pe_int) (pe_op op_mul (pv 2) pe_int)) pe_int) pa_nil)) pe_int))
          (pss_one (ps_for PassesOwn.never rfl (pi_range1 rfl T.range (pa_cons pe_int pa_nil)) (pg_name (i := 4) scD.nd rfl (Or.inl rfl))
            (pss_cons (ps_set (i := 5) scD.nd rfl (Or.inl rfl) (pe_op op_modN (pe_callTy call_int1 (by rfl) T.int (by decide +kernel) (pa_cons (pe_op op_add (pe_op op_add (pe_op op_add (pe_op op_mul (pv 5) (pv 5)) (pe_op op_mul (pv 4) pe_int)) (pe_op op_mul (pv 2) pe_int)) pe_int) pa_nil)) pe_int))
            (pss_one (ps_expr (pe_bm PySem.F.plainAttrs_list PySem.F.slot_list_append PySem.F.type_list_append mt_append (pv 1) (pa_cons (pv 5) pa_nil)))))))))))))
      (pss_one (ps_ret (pv 1)))), ?_⟩
    refine ⟨small (m := 1) (Nat.le_refl _), fun p hp => ?_⟩
    have s1 : Same H (upd H p (.lst [V.int 0])) := same_new hp
    refine ⟨_, rfl, a, _, rfl, .inl (s1.seq hS), _, _, rfl, ?_⟩
    obtain ⟨j, hj⟩ : ∃ j : Nat, (if (63 : Int) < ((ns.map V.int).length : Int) then (63 : Int) else ((ns.map V.int).length : Int)) = (j : Int) ∧ j ≤ ns.length := by
      rw [List.length_map]
      by_cases q : (63 : Int) < (ns.length : Int)
      · exact ⟨63, by rw [if_pos q]; rfl, by omega⟩
      · exact ⟨ns.length, by rw [if_neg q], Nat.le_refl _⟩
    rw [hj.1]
    refine ⟨_, rfl, by omega, by omega, for_range (lo := 0) (n := j) (fun i σ H' => ∃ (ts : List Int) (y2 y3 y4 y5 : Option V), σ = [some (.ref a), some (.ref p), y2, y3, y4, y5] ∧ Same H H' ∧ TapeAt H' p 0 ts ∧ ts.length ≤ 48 * i)
      ⟨[], none, none, none, none, rfl, s1, upd_same, by simp⟩ ?_ ?_⟩
    · rintro i σ H1 hi ⟨ts, y2, y3, y4, y5, rfl, sm, hT, hlen⟩
      have hin : i < ns.length := by omega
      have gi : (ns.map V.int)[i]? = some (V.int ns[i]) := by
        rw [List.getElem?_map, List.getElem?_eq_getElem hin]
        rfl
      refine ⟨_, rfl, _, rfl, a, _, _, V.int ns[i], rfl, rfl, sm.seq hS, by rw [Int.zero_add]; exact atI_nat gi, .inl ⟨_, rfl, ?_⟩⟩
      refine ⟨fun σ' H' => H' = H1 ∧ ∃ c : Int, σ' = [some (.ref a), some (.ref p), some (.int (0 + (i : Int))), some (.int c), y4, y5], ⟨_, rfl, _, _, rfl, rfl, _, rfl, ite2 (fun _ => ⟨_, rfl, _, _, rfl, rfl, rfl, _, rfl⟩) fun _ => ⟨rfl, _, rfl⟩⟩, ?_⟩
      rintro _ _ ⟨rfl, c, rfl⟩
      -- the word of both loops within
      refine ⟨_, rfl, _, _, rfl, rfl, ⟨by decide, by decide, by decide⟩, _, _, rfl, rfl, _, rfl, ite2 (fun z => ?_) (fun z => ?_)⟩
      · refine ⟨_, rfl, by decide, by decide, for_range (lo := 0) (n := 48) (fun q σ' H' => ∃ (ts' : List Int) (c : Int) (y4 : Option V), σ' = [some (.ref a), some (.ref p), some (.int (0 + (i : Int))), some (.int c), y4, y5] ∧ Same H H' ∧ TapeAt H' p 0 ts' ∧ ts'.length ≤ 48 * i + q)
          ⟨ts, c, y4, rfl, sm, hT, hlen⟩ ?_ ?_⟩
        · rintro q σ H2 hq ⟨ts', c, y4, rfl, sm, hT, hlen⟩
          refine ⟨_, rfl, _, _, rfl, rfl, _, rfl, ite2 (fun z => ?_) (fun z => ⟨ts', c, _, rfl, sm, hT, by omega⟩)⟩
          refine ⟨_, rfl, .inl ⟨rfl, _, SqL.of hT⟩, _, rfl, .inl ⟨_, rfl, _, _, rfl, rfl, (by show (30 : Int) ≠ 0; decide), p, _, _, rfl, rfl, hT, ?_, ?_⟩⟩
          · rw [List.length_cons, List.length_map]
            exact below (m := 4000) (by omega)
          · refine ⟨_, rfl, _, _, rfl, rfl, ⟨by decide, by decide⟩, ts' ++ [c.fmod 30], _, _, rfl, fun b o e => ?_, ?_, ?_⟩
            · rw [upd_ne (ne_of_none e hp)]
              exact sm _ _ e
            · unfold TapeAt
              rw [upd_same, List.map_append]
              rfl
            · rw [List.length_append]
              show ts'.length + 1 ≤ _
              omega
        · rintro σ H2 ⟨ts', c, y4, rfl, sm, hT, hlen⟩
          exact ⟨ts', _, _, _, _, rfl, sm, hT, by omega⟩
      · refine ⟨_, rfl, _, _, rfl, rfl, .inr ⟨by decide, by decide⟩, _, rfl, _, _, rfl, rfl, .inr ⟨by decide, by decide⟩, _, _, rfl, rfl, _, _, rfl, rfl, .inl ⟨_, rfl, _, _, rfl, rfl, (by show (2147483629 : Int) ≠ 0; decide), ?_⟩⟩
        refine ⟨_, rfl, by decide, by decide, for_range (lo := 0) (n := 5) (fun q σ' H' => ∃ (ts' : List Int) (m : Int) (y4 : Option V), σ' = [some (.ref a), some (.ref p), some (.int (0 + (i : Int))), some (.int c), y4, some (.int m)] ∧ Same H H' ∧ TapeAt H' p 0 ts' ∧ ts'.length ≤ 48 * i + q ∧ 0 ≤ m ∧ m < 2147483648)
          ⟨ts, _, y4, rfl, sm, hT, by omega, fm (by decide) (by decide)⟩ ?_ ?_⟩
        · rintro q σ H2 hq ⟨ts', m, y4, rfl, sm, hT, hlen, hm0, hm1⟩
          refine ⟨_, rfl, _, rfl, _, _, rfl, rfl, .inl ⟨by omega, by omega⟩, _, rfl, _, _, rfl, rfl, .inr ⟨by decide, by decide⟩, _, _, rfl, rfl, _, rfl, _, _, rfl, rfl, .inr ⟨by decide, by decide⟩, _, _, rfl, rfl, _, _, rfl, rfl, .inl ⟨_, rfl, _, _, rfl, rfl, (by show (2147483587 : Int) ≠ 0; decide), ?_⟩⟩
          refine ⟨_, rfl, .inl ⟨rfl, _, SqL.of hT⟩, _, rfl, p, _, _, rfl, rfl, hT, ?_, ts' ++ [(m * m + (0 + (q : Int)) * 48611 + (0 + (i : Int)) * 31 + 11).fmod 2147483587], _, _, rfl, fun b o e => ?_, ?_, ?_, fm (by decide) (by decide)⟩
          · rw [List.length_cons, List.length_map]
            exact below (m := 4000) (by omega)
          · rw [upd_ne (ne_of_none e hp)]
            exact sm _ _ e
          · unfold TapeAt
            rw [upd_same, List.map_append]
            rfl
          · rw [List.length_append]
            show ts'.length + 1 ≤ _
            omega
        · rintro σ H2 ⟨ts', m, y4, rfl, sm, hT, hlen, _⟩
          exact ⟨ts', _, _, _, _, rfl, sm, hT, by omega⟩
    · rintro σ H1 ⟨ts, y2, y3, y4, y5, rfl, sm, hT, hlen⟩
      exact ⟨_, rfl, k H1 p ts sm hp hT⟩
end
end Fam
/-! Masks and lots of the families' laws. -/
namespace Fam
open PySem L2
open C8 (pss_cut tCut)

/-! ### the law's words, told by whole numbers -/
/-- how many of the lower n places the mask m has -/
def onesN (m : Nat) : Nat → Nat
  | 0 => 0
  | n + 1 => onesN m n + m / 2 ^ n % 2
/-- the places among the lower n that the mask m has -/
def lotN (m : Nat) : Nat → List Nat
  | 0 => []
  | n + 1 => if m / 2 ^ n % 2 = 1 then lotN m n ++ [n] else lotN m n
/-- the mask of a lot -/
def maskN (l : List Nat) : Nat := (l.map (fun i => 2 ^ i)).sum
abbrev vInt (n : Nat) : V := .int (n : Int)
abbrev lotV (m : Nat) : List V := (lotN m 12).map vInt

theorem fmod2 (n : Nat) : ((n : Int).fmod 2) = ((n % 2 : Nat) : Int) := by
  rw [Int.fmod_eq_emod_of_nonneg _ (by decide)]
  rfl
theorem fdiv2 (n : Nat) : ((n : Int).fdiv 2) = ((n / 2 : Nat) : Int) := by
  rw [Int.fdiv_eq_ediv_of_nonneg _ (by decide)]
  rfl
theorem half (m i : Nat) : m / 2 ^ i / 2 = m / 2 ^ (i + 1) := by rw [Nat.div_div_eq_div_mul, Nat.pow_succ]

def spFull : Sp := fun vs H Q _ => ∃ n : Nat, vs = [vInt n] ∧ n ≤ 60 ∧ Q (vInt (2 ^ n)) H
def spOnes : Sp := fun vs H Q _ => ∃ m : Nat, vs = [vInt m] ∧ Q (vInt (onesN m 12)) H
def spLot : Sp := fun vs H Q _ => ∃ m : Nat, vs = [vInt m] ∧ ∀ (H' : Hp) (p : Addr), Same H H' → H p = none → H' p = some (.tup (lotV m)) → Q (.ref p) H'

section
variable {P : Program} {w : World} {K : PySem.W.Frag} {mg : Str → Option Value} {base : Heap}
theorem scF : FnScope ["_law_size", "_law_full_here", "_law_k"] ["_law_size"] (defScope sFull) := ⟨rfl, rfl, rfl, by decide +kernel, rfl, by decide +kernel, by decide +kernel⟩
theorem ok_full {f : Addr} {fd : FuncData} (F : Fun K "_law_full" "_law_full" sFull f fd) (T : Bare mg) : FnOk P w K mg base CX0 1 f fd ["_law_size"] spFull := by
  refine F.ok scF (fun vs H Q E h => ?_) (fun cdv A outer s H vs Q E hr h => ?_)
  · obtain ⟨n, rfl, _⟩ := h
    rfl
  · obtain ⟨n, rfl, hn, k⟩ := h
    refine ⟨_, pss_cons (ps_set (i := 1) scF.nd rfl (Or.inl rfl) pe_int)
      (pss_cons (ps_for PassesOwn.never rfl (pi_range1 rfl T.range (pa_cons (pv 0) pa_nil)) (pg_name (i := 2) scF.nd rfl (Or.inl rfl))
        (pss_one (ps_set (i := 1) scF.nd rfl (Or.inl rfl) (pe_op op_mul (pv 1) pe_int))))
      (pss_one (ps_ret (pv 1)))), ?_⟩
    refine ⟨_, rfl, ?_⟩
    refine ⟨_, rfl, by omega, by omega, for_range (lo := 0) (n := n) (fun i σ H' => ∃ y : Option V, σ = [some (vInt n), some (vInt (2 ^ i)), y] ∧ H' = H) ⟨none, rfl, rfl⟩ ?_ ?_⟩
    · rintro i σ H1 hi ⟨y, rfl, rfl⟩
      refine ⟨_, rfl, _, _, rfl, rfl, .inr ⟨by decide, by decide⟩, ⟨some (.int (0 + (i : Int))), ?_, rfl⟩⟩
      show [_, some (V.int (((2 ^ i : Nat) : Int) * 2)), _] = _
      rw [show ((2 ^ i : Nat) : Int) * 2 = ((2 ^ (i + 1) : Nat) : Int) by rw [Nat.pow_succ]; omega]
    · rintro σ H1 ⟨y, rfl, rfl⟩
      exact ⟨_, rfl, k⟩

theorem scO : FnScope ["_law_mask_here", "_law_ones_here", "_law_k"] ["_law_mask_here"] (defScope sOnes) := ⟨rfl, rfl, rfl, by decide +kernel, rfl, by decide +kernel, by decide +kernel⟩
theorem ok_ones {f : Addr} {fd : FuncData} (F : Fun K "_law_ones" "_law_ones" sOnes f fd) (T : Bare mg) : FnOk P w K mg base CX0 1 f fd ["_law_mask_here"] spOnes := by
  refine F.ok scO (fun vs H Q E h => ?_) (fun cdv A outer s H vs Q E hr h => ?_)
  · obtain ⟨n, rfl, _⟩ := h
    rfl
  · obtain ⟨m, rfl, k⟩ := h
    refine ⟨_, pss_cons (ps_set (i := 1) scO.nd rfl (Or.inl rfl) pe_int)
      (pss_cons (ps_for PassesOwn.never rfl (pi_range1 rfl T.range (pa_cons pe_int pa_nil)) (pg_name (i := 2) scO.nd rfl (Or.inl rfl))
        (pss_cons (ps_aug (i := 1) scO.nd rfl (Or.inl rfl) (pe_op op_modN (pe_callTy call_int1 (by rfl) T.int (by decide +kernel) (pa_cons (pv 0) pa_nil)) pe_int) ip_add)
        (pss_one (ps_set (i := 0) scO.nd rfl (Or.inl rfl) (pe_op op_fdivN (pv 0) pe_int)))))
      (pss_one (ps_ret (pv 1)))), ?_⟩
    refine ⟨_, rfl, by decide, by decide, for_range (lo := 0) (n := 12) (fun i σ H' => ∃ y : Option V, σ = [some (vInt (m / 2 ^ i)), some (vInt (onesN m i)), y] ∧ H' = H) ⟨none, by rw [Nat.pow_zero, Nat.div_one]; rfl, rfl⟩ ?_ ?_⟩
    · rintro i σ H1 hi ⟨y, rfl, rfl⟩
      refine ⟨_, rfl, _, rfl, .inl ⟨_, rfl, _, _, rfl, rfl, (by show (2 : Int) ≠ 0; decide), _, _, rfl, rfl, _, rfl, _, _, rfl, rfl, ⟨by decide, by decide⟩, ⟨some (.int (0 + (i : Int))), ?_, rfl⟩⟩⟩
      show [some (V.int (((m / 2 ^ i : Nat) : Int).fdiv 2)), some (V.int (((onesN m i : Nat) : Int) + ((m / 2 ^ i : Nat) : Int).fmod 2)), _] = _
      rw [fdiv2, fmod2, half]
      rfl
    · rintro σ H1 ⟨y, rfl, rfl⟩
      exact ⟨_, rfl, k⟩

theorem scL : FnScope ["_law_mask_here", "_law_lot_here", "_law_place"] ["_law_mask_here"] (defScope sLot) := ⟨rfl, rfl, rfl, by decide +kernel, rfl, by decide +kernel, by decide +kernel⟩
theorem lotN_yes {m n : Nat} (h : m / 2 ^ n % 2 = 1) : lotN m (n + 1) = lotN m n ++ [n] := if_pos h
theorem lotN_no {m n : Nat} (h : ¬ m / 2 ^ n % 2 = 1) : lotN m (n + 1) = lotN m n := if_neg h
theorem lotN_len (m : Nat) : ∀ n, (lotN m n).length ≤ n
  | 0 => Nat.le_refl _
  | n + 1 => by
    unfold lotN
    have := lotN_len m n
    split
    · rw [List.length_append]
      show _ + 1 ≤ _
      omega
    · omega
theorem none_new {H : Hp} {p q : Addr} {o : HO} (h : upd H p o q = none) : H q = none := by
  by_cases e : q = p
  · subst e
    rw [upd_same] at h
    cases h
  · rw [upd_ne e] at h
    exact h
theorem ok_lot {f : Addr} {fd : FuncData} (F : Fun K "_law_lot" "_law_lot" sLot f fd) (T : Bare mg) : FnOk P w K mg base CX0 1 f fd ["_law_mask_here"] spLot := by
  refine F.ok scL (fun vs H Q E h => ?_) (fun cdv A outer s H vs Q E hr h => ?_)
  · obtain ⟨n, rfl, _⟩ := h
    rfl
  · obtain ⟨m, rfl, k⟩ := h
    refine ⟨_, pss_cons (ps_set (i := 1) scL.nd rfl (Or.inl rfl) (pe_lst pa_nil))
      (pss_cons (ps_for PassesOwn.never rfl (pi_range1 rfl T.range (pa_cons pe_int pa_nil)) (pg_name (i := 2) scL.nd rfl (Or.inl rfl))
        (pss_cut (ps_if (pt_cmpR op_eq (pe_op op_modN (pe_callTy call_int1 (by rfl) T.int (by decide +kernel) (pa_cons (pv 0) pa_nil)) pe_int) pe_int (nomark _))
          (pss_one (ps_expr (pe_bm PySem.F.plainAttrs_list PySem.F.slot_list_append PySem.F.type_list_append mt_append (pv 1) (pa_cons (pv 2) pa_nil)))) pss_nil)
        (pss_one (ps_set (i := 0) scL.nd rfl (Or.inl rfl) (pe_op op_fdivN (pv 0) pe_int)))))
      (pss_one (ps_ret (pe_tupleOf rfl T.tuple (pv 1))))), ?_⟩
    refine ⟨small (m := 1) (Nat.zero_le _), fun p hp => ?_⟩
    refine ⟨_, rfl, by decide, by decide, for_range (lo := 0) (n := 12) (fun i σ H' => ∃ y : Option V, σ = [some (vInt (m / 2 ^ i)), some (.ref p), y] ∧ Same H H' ∧ H' p = some (.lst ((lotN m i).map vInt))) ⟨none, by rw [Nat.pow_zero, Nat.div_one]; rfl, same_new hp, upd_same⟩ ?_ ?_⟩
    · rintro i σ H1 hi ⟨y, rfl, sm, hT⟩
      refine ⟨fun σ' H' => σ' = [some (vInt (m / 2 ^ i)), some (.ref p), some (.int (0 + (i : Int)))] ∧ Same H H' ∧ H' p = some (.lst ((lotN m (i + 1)).map vInt)), ?_, ?_⟩
      · refine ⟨_, rfl, .inl ⟨_, rfl, _, _, rfl, rfl, (by show (2 : Int) ≠ 0; decide), rfl, _, rfl, ?_⟩⟩
        have e0 : (((m / 2 ^ i : Nat) : Int).fmod 2) = ((m / 2 ^ i % 2 : Nat) : Int) := fmod2 _
        refine ite2 (fun z => ?_) (fun z => ?_)
        · have z1 : m / 2 ^ i % 2 = 1 := by
            have z2 := of_decide_eq_true z
            have z3 := V.int.inj z2
            omega
          refine ⟨_, rfl, .inl ⟨rfl, _, SqL.of hT⟩, _, rfl, p, _, _, rfl, rfl, hT, ?_, rfl, fun b o e => ?_, ?_⟩
          · rw [List.length_map]
            have := lotN_len m i
            exact below (m := 12) (by omega)
          · rw [upd_ne (ne_of_none e hp)]
            exact sm _ _ e
          · rw [upd_same, lotN_yes z1, List.map_append, Int.zero_add]
            rfl
        · have z1 : ¬ m / 2 ^ i % 2 = 1 := fun q => z (by rw [decide_eq_true_iff]; show V.int _ = V.int _; rw [e0, q]; rfl)
          exact ⟨rfl, sm, by rw [lotN_no z1]; exact hT⟩
      · rintro _ H2 ⟨rfl, sm, hT⟩
        refine ⟨_, rfl, _, _, rfl, rfl, ⟨by decide, by decide⟩, ⟨some (.int (0 + (i : Int))), ?_, sm, hT⟩⟩
        show [some (V.int (((m / 2 ^ i : Nat) : Int).fdiv 2)), _, _] = _
        rw [fdiv2, half]
    · rintro σ H1 ⟨y, rfl, sm, hT⟩
      refine ⟨_, rfl, .inl ⟨p, _, rfl, SqL.of hT, fun q hq => ?_⟩⟩
      refine k _ q (fun b o e => ?_) ?_ upd_same
      · rw [upd_ne (ne_of_none (sm _ _ e) hq)]
        exact sm _ _ e
      · cases e : H q with
        | none => rfl
        | some o => rw [sm _ _ e] at hq; cases hq
end
end Fam
/-! Calls of the law's own defs; rows of lots. -/
namespace Fam
open PySem L2
open C8 (pss_cut tCut)

/-- a def of the top that keeps its promise, with all that a call of it wants -/
structure Cal (P : Program) (w : World) (K : PySem.W.Frag) (mg : Str → Option Value) (base : Heap) (k : Nat) (x : Str) (ps : List Str) (sp : Sp) : Prop where
  ex : ∃ (g : Addr) (gd : FuncData), FnOk P w K mg base CX0 k g gd ps sp ∧ Binds K gd ps [] ∧ PySem.W.keepIn K (.ref g) = true ∧ mg x = some (.ref g)

/-- a row: a list or a tuple -/
def Row (K : PySem.W.Frag) (H : Hp) (a : Addr) (xs : List V) : Prop := SqL K H a xs ∨ SqT K H a xs
theorem same_rd {H H' : Hp} {a : Addr} {o : HO} (s : Same H H') : Rd H a o → Rd H' a o
  | .inl h => .inl (s _ _ h)
  | .inr ⟨p, h⟩ => .inr ⟨p, s _ _ h⟩
theorem same_seqT {K : PySem.W.Frag} {H H' : Hp} {a : Addr} {xs : List V} (s : Same H H') : SqT K H a xs → SqT K H' a xs
  | .inl h => .inl (same_rd s h)
  | .inr h => .inr h
theorem Row.same {K : PySem.W.Frag} {H H' : Hp} {a : Addr} {xs : List V} (s : Same H H') : Row K H a xs → Row K H' a xs
  | .inl h => .inl (s.seq h)
  | .inr h => .inr (same_seqT s h)
/-- a walk over a row that a name of the def holds -/
def iRow (K : PySem.W.Frag) (j : Nat) : TI := fun σ H R => iList K (tVar j) σ H R ∨ iTup K (tVar j) σ H R
theorem pi_row {X : Cx} {tg l : Expr} {j : Nat} (h : PE X l (tVar j)) : PI X tg l (iRow X.K j) := PI.mk fun pins s σ H R hi hw => by
  rcases hw with hw | hw
  · exact (pi_list (tg := tg) h).run pins s σ H R hi hw
  · exact (pi_tup (tg := tg) h).run pins s σ H R hi hw
theorem row_for {K : PySem.W.Frag} {b : Addr} {xs : List V} {j : Nat} {g : TG} {tb : TS} {D : Ends} {σ : St} {H : Hp} (e : σ[j]? = some (some (.ref b))) (hW : Row K H b xs)
    (Pv : Nat → St → Hp → Prop) (h0 : Pv 0 σ H) (hl : ∀ i σ' H', i ≤ xs.length → Pv i σ' H' → Same H H')
    (hs : ∀ i x σ H, xs[i]? = some x → Pv i σ H → g x σ H fun σ2 H2 => tb { nx := Pv (i + 1), rt := D.rt, bk := D.nx, ct := Pv (i + 1) } σ2 H2)
    (hd : ∀ σ H, Pv xs.length σ H → D.nx σ H) : tFor (iRow K j) g tb D σ H := by
  rcases hW with hW | hW
  · exact .inl ⟨_, e, b, rfl, ⟨_, hW⟩, for_list (xs := xs) Pv h0 (fun i σ' H' hi h => (hl i σ' H' hi h).seq hW) hs hd⟩
  · exact .inr ⟨_, e, b, rfl, ⟨_, hW⟩, for_tup (xs := xs) Pv h0 (fun i σ' H' hi h => same_seqT (hl i σ' H' hi h) hW) hs hd⟩
/-- a comprehension over such a row -/
theorem row_lc {K : PySem.W.Frag} {b : Addr} {xs : List V} {j : Nat} {g : TG} {tt : TT} {te : TE} {vs : List Nat} {σ : St} {H : Hp} {Q : VK} (e : σ[j]? = some (some (.ref b))) (hW : Row K H b xs)
    (h : ∀ D, H D = none → ∃ Pv : Nat → Hp → Prop, Pv 0 (upd H D (.lst [])) ∧ (∀ i H', i ≤ xs.length → Pv i H' → Same H H') ∧
      (∀ i x H, xs[i]? = some x → Pv i H → g x (wipe σ vs) H fun σ2 H2 => wipe σ2 vs = wipe σ vs ∧ tt σ2 H2 fun c H3 =>
        if c = true then te σ2 H3 fun y H4 => ∃ acc, H4 D = some (.lst acc) ∧ acc.length < sizeLine ∧ Pv (i + 1) (upd H4 D (.lst (acc ++ [y]))) else Pv (i + 1) H3) ∧
      (∀ H, Pv xs.length H → Q (.ref D) H)) : tLc (iRow K j) g tt te vs σ H Q := by
  rcases hW with hW | hW
  · refine .inl ⟨_, e, b, rfl, ⟨_, hW⟩, fun D hD => ?_⟩
    obtain ⟨Pv, h0, hl, hs, hd⟩ := h D hD
    exact lc_list (xs := xs) Pv h0 (fun i H' hi h => (hl i H' hi h).seq hW) hs hd
  · refine .inr ⟨_, e, b, rfl, ⟨_, hW⟩, fun D hD => ?_⟩
    obtain ⟨Pv, h0, hl, hs, hd⟩ := h D hD
    exact lc_tup (xs := xs) Pv h0 (fun i H' hi h => same_seqT (hl i H' hi h) hW) hs hd

def spMask (K : PySem.W.Frag) : Sp := fun vs H Q _ => ∃ (a : Addr) (l : List Nat), vs = [.ref a] ∧ SqT K H a (l.map vInt) ∧ (∀ i ∈ l, i ≤ 60) ∧ Q (vInt (maskN l)) H
/-- rows of lots: ps are addresses of tuples, one for each mask -/
def LotsAt (H : Hp) : List V → List Nat → Prop
  | [], [] => True
  | v :: vs, m :: ms => (∃ p, v = .ref p ∧ H p = some (.tup (lotV m))) ∧ LotsAt H vs ms
  | _, _ => False
theorem LotsAt.same {H H' : Hp} (s : Same H H') : ∀ {vs : List V} {ms : List Nat}, LotsAt H vs ms → LotsAt H' vs ms
  | [], [], h => h
  | v :: vs, m :: ms, h => by
    obtain ⟨⟨p, e, h1⟩, h2⟩ := h
    exact ⟨⟨p, e, s _ _ h1⟩, h2.same s⟩
theorem LotsAt.add {H : Hp} : ∀ {vs : List V} {ms : List Nat} {p : Addr} {m : Nat}, LotsAt H vs ms → H p = some (.tup (lotV m)) → LotsAt H (vs ++ [.ref p]) (ms ++ [m])
  | [], [], p, m, _, h1 => ⟨⟨p, rfl, h1⟩, trivial⟩
  | v :: vs, n :: ms, p, m, h, h1 => ⟨h.1, h.2.add h1⟩
theorem LotsAt.len {H : Hp} : ∀ {vs : List V} {ms : List Nat}, LotsAt H vs ms → vs.length = ms.length
  | [], [], _ => rfl
  | v :: vs, n :: ms, h => by rw [List.length_cons, List.length_cons, h.2.len]

theorem LotsAt.upd {H : Hp} {D : Addr} {xs : List V} {o : HO} (hD : H D = some (.lst xs)) : ∀ {vs : List V} {ms : List Nat}, LotsAt H vs ms → LotsAt (upd H D o) vs ms
  | [], [], h => h
  | v :: vs, m :: ms, h => by
    obtain ⟨⟨p, e, h1⟩, h2⟩ := h
    exact ⟨⟨p, e, by rw [upd_ne (ne_of h1 hD (by intro z; cases z))]; exact h1⟩, h2.upd hD⟩
/-- all that stood ahead of the new D stands, D written again -/
theorem same_upd {H H' : Hp} {D : Addr} {o : HO} (s : Same H H') (hD : H D = none) : Same H (upd H' D o) := fun b x e => by
  rw [upd_ne (ne_of_none e hD)]
  exact s _ _ e

def spLotsOf (K : PySem.W.Frag) : Sp := fun vs H Q _ => ∃ (a : Addr) (ms : List Nat), vs = [.ref a] ∧ SqL K H a (ms.map vInt) ∧ ms.length ≤ 100000 ∧
  ∀ (H' : Hp) (p : Addr) (xs : List V), Same H H' → H p = none → H' p = some (.lst xs) → LotsAt H' xs ms → Q (.ref p) H'

theorem maskN_snoc (l : List Nat) (i : Nat) : maskN (l ++ [i]) = maskN l + 2 ^ i := by
  unfold maskN
  rw [List.map_append, List.sum_append]
  rfl
theorem take_more {α : Type} {l : List α} {i : Nat} (h : i < l.length) : l.take (i + 1) = l.take i ++ [l[i]] := (List.take_append_getElem h).symm

section
variable {P : Program} {w : World} {K : PySem.W.Frag} {mg : Str → Option Value} {base : Heap}
theorem scM : FnScope ["_law_lot_here", "_law_mask_here", "_law_place"] ["_law_lot_here"] (defScope sMask) := ⟨rfl, rfl, rfl, by decide +kernel, rfl, by decide +kernel, by decide +kernel⟩
theorem ok_mask {f : Addr} {fd : FuncData} (F : Fun K "_law_mask" "_law_mask" sMask f fd) (T : Bare mg) (G : Cal P w K mg base 1 "_law_full" ["_law_size"] spFull) : FnOk P w K mg base CX0 2 f fd ["_law_lot_here"] (spMask K) := by
  obtain ⟨g, gd, ok, b, kp, mf⟩ := G.ex
  refine F.ok scM (fun vs H Q E h => ?_) (fun cdv A outer s H vs Q E hr h => ?_)
  · obtain ⟨a, l, rfl, _⟩ := h
    rfl
  · obtain ⟨a, l, rfl, hS, hl, k⟩ := h
    refine ⟨_, pss_cons (ps_set (i := 1) scM.nd rfl (Or.inl rfl) pe_int)
      (pss_cons (ps_for PassesOwn.never rfl (pi_tup (pv 0)) (pg_name (i := 2) scM.nd rfl (Or.inl rfl))
        (pss_one (ps_aug (i := 1) scM.nd rfl (Or.inl rfl) (pe_call ok hr rfl mf kp b .nil pass0 (pa_cons (pv 2) pa_nil)) ip_add)))
      (pss_one (ps_ret (pv 1)))), ?_⟩
    refine ⟨_, rfl, a, rfl, ⟨_, hS⟩, for_tup (xs := l.map vInt) (fun i σ H' => ∃ y : Option V, σ = [some (.ref a), some (vInt (maskN (l.take i))), y] ∧ H' = H) ⟨none, rfl, rfl⟩ ?_ ?_ ?_⟩
    · rintro i σ H1 hi ⟨y, rfl, rfl⟩
      exact hS
    · rintro i x σ H1 hx ⟨y, rfl, rfl⟩
      have hi : i < l.length := by
        have := (List.getElem?_eq_some_iff.mp hx).1
        rwa [List.length_map] at this
      have ex : x = vInt l[i] := by
        rw [List.getElem?_map, List.getElem?_eq_getElem hi] at hx
        exact (Option.some.inj hx).symm
      subst ex
      refine ⟨_, rfl, _, rfl, l[i], rfl, hl _ (List.getElem_mem hi), _, _, rfl, rfl, ⟨some (vInt l[i]), ?_, rfl⟩⟩
      show [_, some (V.int (((maskN (l.take i) : Nat) : Int) + ((2 ^ l[i] : Nat) : Int))), _] = _
      rw [take_more hi, maskN_snoc]
      rfl
    · rintro σ H1 ⟨y, rfl, rfl⟩
      rw [List.length_map, List.take_length]
      exact ⟨_, rfl, k⟩

abbrev nLO : List Str := ["_law_masks", "_law_mask_here"]
theorem scLO : FnScope nLO ["_law_masks"] (defScope sLotsOf) := ⟨rfl, rfl, rfl, by decide +kernel, rfl, by decide +kernel, by decide +kernel⟩
theorem ok_lots_of {f : Addr} {fd : FuncData} (F : Fun K "_law_lots_of" "_law_lots_of" sLotsOf f fd) (T : Bare mg) (G : Cal P w K mg base 1 "_law_lot" ["_law_mask_here"] spLot) : FnOk P w K mg base CX0 2 f fd ["_law_masks"] (spLotsOf K) := by
  obtain ⟨g, gd, ok, b, kp, mf⟩ := G.ex
  refine F.ok scLO (fun vs H Q E h => ?_) (fun cdv A outer s H vs Q E hr h => ?_)
  · obtain ⟨a, l, rfl, _⟩ := h
    rfl
  · obtain ⟨a, ms, rfl, hS, hl, k⟩ := h
    refine ⟨_, pss_one (ps_ret (pe_lc (own := [("_law_mask_here", 1)]) (g := gName 1) (tt := tYes) rfl scLO.nd (pi_list (pv 0)) (blkOk_by (own := [("_law_mask_here", 1)]) (N := nLO) (sc := defScope sLotsOf) (by decide +kernel)) (fun _ _ _ _ _ => pg_name (i := 1) scLO.nd rfl (Or.inl rfl)) (fun _ _ _ _ _ => pts_nil)
      (fun _ _ _ _ _ => pe_call ok hr rfl mf kp b .nil pass0 (pa_cons (pv 1) pa_nil)))), ?_⟩
    refine ⟨_, rfl, a, rfl, ⟨_, hS⟩, fun D hD => ?_⟩
    have s1 : Same H (upd H D (.lst [])) := same_new hD
    refine lc_list (K := K) (a := a) (xs := ms.map vInt) (fun i H' => Same H H' ∧ ∃ xs, H' D = some (.lst xs) ∧ LotsAt H' xs (ms.take i)) ⟨s1, [], upd_same, trivial⟩ ?_ ?_ ?_
    · rintro i H1 hi ⟨sm, _⟩
      exact sm.seq hS
    · rintro i x H1 hx ⟨sm, xs, hT, hL⟩
      have hi : i < ms.length := by
        have := (List.getElem?_eq_some_iff.mp hx).1
        rwa [List.length_map] at this
      have ex : x = vInt ms[i] := by
        rw [List.getElem?_map, List.getElem?_eq_getElem hi] at hx
        exact (Option.some.inj hx).symm
      subst ex
      refine ⟨rfl, _, rfl, ms[i], rfl, fun H2 p s2 hp ht => ?_⟩
      refine ⟨_, s2 _ _ hT, ?_, same_upd (sm.trans s2) hD, _, upd_same, ?_⟩
      · rw [hL.len, List.length_take]
        exact below (m := 100000) (by omega)
      · rw [take_more hi]
        exact ((hL.same s2).add ht).upd (s2 _ _ hT)
    · rintro H1 ⟨sm, xs, hT, hL⟩
      rw [List.length_map, List.take_length] at hL
      exact k H1 D xs sm hD hT hL
end
end Fam
/-! The best of a family by weights; what is shown of a find. -/
namespace Fam
open PySem L2
open C8 (pss_cut tCut)

/-- the weight of a mask's first n places -/
def wsN (m : Nat) (ws : List Int) : Nat → Int
  | 0 => 0
  | n + 1 => if m / 2 ^ n % 2 = 1 then wsN m ws n + ws.getD n 0 else wsN m ws n
theorem wsN_yes {m n : Nat} {ws : List Int} (h : m / 2 ^ n % 2 = 1) : wsN m ws (n + 1) = wsN m ws n + ws.getD n 0 := if_pos h
theorem wsN_no {m n : Nat} {ws : List Int} (h : ¬ m / 2 ^ n % 2 = 1) : wsN m ws (n + 1) = wsN m ws n := if_neg h
abbrev wsum (m : Nat) (ws : List Int) : Int := wsN m ws ws.length
/-- the greater one of what was found and t -/
def better (b : Option Int) (t : Int) : Option Int :=
  match b with
  | none => some t
  | some x => if t > x then some t else some x
def bestOf (ws : List Int) (ms : List Nat) : Option Int := ms.foldl (fun b m => better b (wsum m ws)) none
def optV : Option Int → V
  | none => .non
  | some i => .int i

theorem bestOf_snoc (ws : List Int) (ms : List Nat) (m : Nat) : bestOf ws (ms ++ [m]) = better (bestOf ws ms) (wsum m ws) := by
  unfold bestOf
  rw [List.foldl_append]
  rfl

def spBest (K : PySem.W.Frag) : Sp := fun vs H Q _ => ∃ (a b : Addr) (ms : List Nat) (ws : List Int), vs = [.ref a, .ref b] ∧ SqL K H a (ms.map vInt) ∧ Row K H b (ws.map V.int) ∧ Q (optV (bestOf ws ms)) H

theorem item {α : Type} {l : List α} {g : α → V} {i : Nat} {x : V} (h : (l.map g)[i]? = some x) : ∃ hi : i < l.length, x = g l[i] := by
  have hi : i < l.length := by
    have := (List.getElem?_eq_some_iff.mp h).1
    rwa [List.length_map] at this
  refine ⟨hi, ?_⟩
  rw [List.getElem?_map, List.getElem?_eq_getElem hi] at h
  exact (Option.some.inj h).symm

section
variable {P : Program} {w : World} {K : PySem.W.Frag} {mg : Str → Option Value} {base : Heap}
abbrev nBE : List Str := ["_law_masks", "_law_weights", "_law_best_here", "_law_mask_here", "_law_total", "_law_rest", "_law_weight"]
theorem scBE : FnScope nBE ["_law_masks", "_law_weights"] (defScope sBest) := ⟨rfl, rfl, rfl, by decide +kernel, rfl, by decide +kernel, by decide +kernel⟩
theorem ok_best {f : Addr} {fd : FuncData} (F : Fun K "_law_best" "_law_best" sBest f fd) (T : Bare mg) : FnOk P w K mg base CX0 1 f fd ["_law_masks", "_law_weights"] (spBest K) := by
  refine F.ok scBE (fun vs H Q E h => ?_) (fun cdv A outer s H vs Q E hr h => ?_)
  · obtain ⟨a, b, ms, ws, rfl, _⟩ := h
    rfl
  · obtain ⟨a, b, ms, ws, rfl, hS, hW, k⟩ := h
    refine ⟨_, pss_cons (ps_set (i := 2) scBE.nd rfl (Or.inl rfl) pe_non)
      (pss_cons (ps_for PassesOwn.never rfl (pi_list (pv 0)) (pg_name (i := 3) scBE.nd rfl (Or.inl rfl))
        (pss_cons (ps_set (i := 4) scBE.nd rfl (Or.inl rfl) pe_int)
        (pss_cons (ps_set (i := 5) scBE.nd rfl (Or.inl rfl) (pv 3))
        (pss_cons (ps_for PassesOwn.never rfl (pi_row (pv 1)) (pg_name (i := 6) scBE.nd rfl (Or.inl rfl))
          (pss_cut (ps_if (pt_cmpR op_eq (pe_op op_modN (pe_callTy call_int1 (by rfl) T.int (by decide +kernel) (pa_cons (pv 5) pa_nil)) pe_int) pe_int (nomark _))
            (pss_one (ps_aug (i := 4) scBE.nd rfl (Or.inl rfl) (pv 6) ip_add)) pss_nil)
          (pss_one (ps_set (i := 5) scBE.nd rfl (Or.inl rfl) (pe_op op_fdivN (pv 5) pe_int)))))
        (pss_one (ps_if (PW.pt (pw_or (pt_cmpR op_isN (pv 2) pe_non (nomark _)) (pw_or1 (pt_cmpR op_gt (pv 4) (pv 2) (nomark _)))))
          (pss_one (ps_set (i := 2) scBE.nd rfl (Or.inl rfl) (pv 4))) pss_nil))))))
      (pss_one (ps_ret (pv 2)))), ?_⟩
    refine ⟨_, rfl, a, rfl, ⟨_, hS⟩, for_list (xs := ms.map vInt) (fun i σ H' => ∃ y3 y4 y5 y6 : Option V, σ = [some (.ref a), some (.ref b), some (optV (bestOf ws (ms.take i))), y3, y4, y5, y6] ∧ H' = H) ⟨none, none, none, none, rfl, rfl⟩ ?_ ?_ ?_⟩
    · rintro i σ H1 hi ⟨y3, y4, y5, y6, rfl, rfl⟩
      exact hS
    · rintro i x σ H1 hx ⟨y3, y4, y5, y6, rfl, rfl⟩
      obtain ⟨hi, rfl⟩ := item hx
      refine ⟨_, rfl, row_for (xs := ws.map V.int) rfl hW (fun j σ H' => ∃ y6 : Option V, σ = [some (.ref a), some (.ref b), some (optV (bestOf ws (ms.take i))), some (vInt ms[i]), some (.int (wsN ms[i] ws j)), some (vInt (ms[i] / 2 ^ j)), y6] ∧ H' = H1) ⟨y6, by rw [Nat.pow_zero, Nat.div_one]; rfl, rfl⟩ ?_ ?_ ?_⟩
      · rintro j σ H2 hj ⟨y6, rfl, rfl⟩
        exact Same.refl _
      · rintro j x σ H2 hx ⟨y6, rfl, rfl⟩
        obtain ⟨hj, rfl⟩ := item hx
        refine ⟨fun σ' H' => σ' = [some (.ref a), some (.ref b), some (optV (bestOf ws (ms.take i))), some (vInt ms[i]), some (.int (wsN ms[i] ws (j + 1))), some (vInt (ms[i] / 2 ^ j)), some (.int ws[j])] ∧ H' = H2, ?_, ?_⟩
        · refine ⟨_, rfl, .inl ⟨_, rfl, _, _, rfl, rfl, (by show (2 : Int) ≠ 0; decide), rfl, _, rfl, ?_⟩⟩
          have e0 : (((ms[i] / 2 ^ j : Nat) : Int).fmod 2) = ((ms[i] / 2 ^ j % 2 : Nat) : Int) := fmod2 _
          refine ite2 (fun z => ?_) (fun z => ?_)
          · have z1 : ms[i] / 2 ^ j % 2 = 1 := by
              have z2 := of_decide_eq_true z
              have z3 := V.int.inj z2
              omega
            refine ⟨_, rfl, _, rfl, _, _, rfl, rfl, ?_, rfl⟩
            rw [wsN_yes z1, List.getD_eq_getElem?_getD, List.getElem?_eq_getElem hj]
            rfl
          · have z1 : ¬ ms[i] / 2 ^ j % 2 = 1 := fun q => z (by rw [decide_eq_true_iff]; show V.int _ = V.int _; rw [e0, q]; rfl)
            refine ⟨?_, rfl⟩
            rw [wsN_no z1]
            rfl
        · rintro _ _ ⟨rfl, rfl⟩
          refine ⟨_, rfl, _, _, rfl, rfl, ⟨by decide, by decide⟩, ⟨some (.int ws[j]), ?_, rfl⟩⟩
          show [_, _, _, _, _, some (V.int (((ms[i] / 2 ^ j : Nat) : Int).fdiv 2)), _] = _
          rw [fdiv2, half]
      · rintro σ H2 ⟨y6, rfl, rfl⟩
        rw [List.length_map]
        refine ⟨_, rfl, rfl, _, rfl, ?_⟩
        have e1 : bestOf ws (ms.take (i + 1)) = better (bestOf ws (ms.take i)) (wsum ms[i] ws) := by rw [take_more hi, bestOf_snoc]
        cases eb : bestOf ws (ms.take i) with
        | none =>
          rw [eb] at e1
          refine iteT (iteT ⟨_, rfl, ⟨some (vInt ms[i]), some (.int (wsum ms[i] ws)), some (vInt (ms[i] / 2 ^ ws.length)), y6, ?_, rfl⟩⟩)
          rw [e1]
          rfl
        | some x =>
          rw [eb] at e1
          refine iteF ⟨_, rfl, _, rfl, _, _, rfl, rfl, _, rfl, ?_⟩
          refine ite2 (fun z => ?_) (fun z => ?_)
          · refine ⟨_, rfl, ⟨some (vInt ms[i]), some (.int (wsum ms[i] ws)), some (vInt (ms[i] / 2 ^ ws.length)), y6, ?_, rfl⟩⟩
            have z1 : better (some x) (wsum ms[i] ws) = some (wsum ms[i] ws) := if_pos (of_decide_eq_true z)
            rw [e1, z1]
            rfl
          · refine ⟨some (vInt ms[i]), some (.int (wsum ms[i] ws)), some (vInt (ms[i] / 2 ^ ws.length)), y6, ?_, rfl⟩
            have z1 : better (some x) (wsum ms[i] ws) = some x := if_neg (fun q => z (decide_eq_true q))
            rw [e1, z1]
    · rintro σ H1 ⟨y3, y4, y5, y6, rfl, rfl⟩
      rw [List.length_map, List.take_length]
      exact ⟨_, rfl, k⟩
end
end Fam
/-! Rows of whole numbers; what is shown of a find. -/
namespace Fam
open PySem L2
open C8 (pss_cut tCut)

def spLawInt : Sp := fun vs H Q _ => ∃ i : Int, vs = [.int i] ∧ Q (.bl true) H
def spInts (K : PySem.W.Frag) : Sp := fun vs H Q _ => ∃ (a : Addr) (ws : List Int) (n : Nat), vs = [.ref a, vInt n] ∧ SqT K H a (ws.map V.int) ∧ ws.length < 100000 ∧ ∀ H', Same H H' → Q (.bl (decide (ws.length = n))) H'
def spShown (K : PySem.W.Frag) : Sp := fun vs H Q _ => (vs = [.non] ∧ Q .non H) ∨ ∃ (a : Addr) (ms : List Nat), vs = [.ref a] ∧ SqT K H a (ms.map vInt) ∧ ms.length ≤ 100000 ∧
  ∀ (H' : Hp) (p : Addr) (xs : List V), Same H H' → H p = none → H' p = some (.tup xs) → LotsAt H' xs ms → Q (.ref p) H'

theorem ty_tup {K : PySem.W.Frag} {H : Hp} {a : Addr} {xs : List V} : SqT K H a xs → TyX K H (.ref a) (.type "tuple")
  | .inl (.inl h) => .base (.tup h)
  | .inl (.inr ⟨_, h⟩) => .fTuple h
  | .inr ⟨o, _, _, h, c, _⟩ => .kTuple h c

theorem pe_ty {X : Cx} {x : Str} {pos : Pos} {n : String} (hg : Gl X x) (hm : X.mg x = none) (hv : bootBuiltins x = some (.type n)) (h1 : x ≠ "__name__" := by decide +kernel) (h2 : (x == ("__debug__" : Str)) = false := by decide +kernel) : PE X (.Name x pos) (tC (.ty n)) := pe_bltn hg hm hv rfl (hn := h1) (hd := h2)
def spWhole (K : PySem.W.Frag) : Sp := fun vs H Q _ => ∃ (a : Addr) (ws : List Int) (n : Nat), vs = [.ref a, vInt n] ∧ SqT K H a (ws.map V.int) ∧ ws.length < 100000 ∧ (∀ x ∈ ws, x.natAbs < 10 ^ 60) ∧ ∀ H', Same H H' → Q (.bl (decide (ws.length = n))) H'

section
variable {P : Program} {w : World} {K : PySem.W.Frag} {mg : Str → Option Value} {base : Heap}
theorem scLI : FnScope ["_law_value"] ["_law_value"] (defScope sLawInt) := ⟨rfl, rfl, rfl, by decide +kernel, rfl, by decide +kernel, by decide +kernel⟩
theorem ok_law_int {f : Addr} {fd : FuncData} (F : Fun K "_law_int" "_law_int" sLawInt f fd) (T : Bare mg) : FnOk P w K mg base CX0 1 f fd ["_law_value"] spLawInt := by
  refine F.ok scLI (fun vs H Q E h => ?_) (fun cdv A outer s H vs Q E hr h => ?_)
  · obtain ⟨a, rfl, _⟩ := h
    rfl
  · obtain ⟨i, rfl, k⟩ := h
    refine ⟨_, pss_one (ps_ret (pe_and (pe_callB call_isi (by rfl) T.isi (by decide +kernel) (pa_cons (pv 0) (pa_cons (pe_ty (n := "int") (by rfl) T.int (by decide +kernel)) pa_nil)))
      (pe_one (pe_not (pe_callB call_isi (by rfl) T.isi (by decide +kernel) (pa_cons (pv 0) (pa_cons (pe_ty (n := "bool") (by rfl) T.bool (by decide +kernel)) pa_nil))))))), ?_⟩
    refine ⟨_, rfl, _, _, _, _, true, rfl, .ty _, .base (.int i), kit_ty (by decide +kernel), _, rfl, iteT ?_⟩
    exact ⟨_, rfl, _, _, _, _, false, rfl, .ty _, .base (.int i), kit_ty (by decide +kernel), _, rfl, k⟩

abbrev nIN : List Str := ["_law_row", "_law_many", "_law_one"]
theorem scIN : FnScope nIN ["_law_row", "_law_many"] (defScope sInts) := ⟨rfl, rfl, rfl, by decide +kernel, rfl, by decide +kernel, by decide +kernel⟩
theorem ok_ints {f : Addr} {fd : FuncData} (F : Fun K "_law_ints" "_law_ints" sInts f fd) (T : Bare mg) (G : Cal P w K mg base 1 "_law_int" ["_law_value"] spLawInt) : FnOk P w K mg base CX0 2 f fd ["_law_row", "_law_many"] (spInts K) := by
  obtain ⟨g, gd, ok, b, kp, mf⟩ := G.ex
  refine F.ok scIN (fun vs H Q E h => ?_) (fun cdv A outer s H vs Q E hr h => ?_)
  · obtain ⟨a, ws, n, rfl, _⟩ := h
    rfl
  · obtain ⟨a, ws, n, rfl, hS, hl, k⟩ := h
    refine ⟨_, pss_one (ps_ret (pe_and (pe_callB call_isi (by rfl) T.isi (by decide +kernel) (pa_cons (pv 0) (pa_cons (pe_ty (n := "tuple") (by rfl) T.tuple (by decide +kernel)) pa_nil)))
      (pe_and (pe_cmpR op_eq (pe_callB call_len_seq (by rfl) T.len PySem.boot_len (pa_cons (pv 0) pa_nil)) (pv 1) (nomark _))
      (pe_one (pe_cmpR op_eq (pe_callB call_len_seq (by rfl) T.len PySem.boot_len (pa_cons (pe_lc (own := [("_law_one", 2)]) (g := gName 2) rfl scIN.nd (pi_row (j := 0) (pv 0)) (blkOk_by (own := [("_law_one", 2)]) (N := nIN) (sc := defScope sInts) (by decide +kernel)) (fun _ _ _ _ _ => pg_name (i := 2) scIN.nd rfl (Or.inl rfl))
        (fun _ _ _ _ _ => pts_one (pt_not (pt_val (pe_call ok hr rfl mf kp b .nil pass0 (pa_cons (pv 2) pa_nil))))) (fun _ _ _ _ _ => pv 2)) pa_nil)) pe_int (nomark _)))))), ?_⟩
    refine ⟨_, rfl, _, _, _, _, true, rfl, .ty _, ty_tup hS, kit_ty (by decide +kernel), _, rfl, iteT ?_⟩
    refine ⟨_, rfl, a, _, rfl, .inr hS, _, rfl, rfl, _, rfl, ?_⟩
    have hb : (decide (V.int ((ws.map V.int).length : Int) = vInt n)) = decide (ws.length = n) := by
      rw [List.length_map, decide_eq_decide]
      exact ⟨fun q => Int.ofNat.inj (V.int.inj q), fun q => by rw [q]⟩
    rw [hb]
    refine ite2 (fun z => ?_) (fun z => ?_)
    · rw [z] at k
      delta tOp tCB tCons
      show tLc (iRow K 0) _ _ _ _ _ _ _
      refine row_lc (K := K) (b := a) (xs := ws.map V.int) (by rfl) (.inr hS) (fun D hD => ⟨fun i H' => Same H H' ∧ H' D = some (.lst []), ⟨same_new hD, upd_same⟩, fun i H' _ h => h.1, ?_, ?_⟩)
      · rintro i x H1 hx ⟨sm, hT⟩
        obtain ⟨hi, rfl⟩ := item hx
        exact ⟨rfl, _, rfl, ws[i], rfl, true, rfl, sm, hT⟩
      · rintro H1 ⟨sm, hT⟩
        exact ⟨D, _, rfl, .inl (SqL.of hT), rfl, by rw [decide_eq_true (show V.int (([] : List V).length : Int) = V.int 0 from rfl)]; exact k _ sm⟩
    · have z2 : decide (ws.length = n) = false := by
        cases e : decide (ws.length = n) with
        | true => exact absurd e z
        | false => rfl
      rw [z2] at k
      exact k _ (Same.refl _)

abbrev nSH : List Str := ["_law_found", "_law_mask_here"]
theorem scSH : FnScope nSH ["_law_found"] (defScope sShown) := ⟨rfl, rfl, rfl, by decide +kernel, rfl, by decide +kernel, by decide +kernel⟩
theorem ok_shown {f : Addr} {fd : FuncData} (F : Fun K "_law_shown" "_law_shown" sShown f fd) (T : Bare mg) (G : Cal P w K mg base 1 "_law_lot" ["_law_mask_here"] spLot) : FnOk P w K mg base CX0 2 f fd ["_law_found"] (spShown K) := by
  obtain ⟨g, gd, ok, b, kp, mf⟩ := G.ex
  refine F.ok scSH (fun vs H Q E h => ?_) (fun cdv A outer s H vs Q E hr h => ?_)
  · rcases h with ⟨rfl, _⟩ | ⟨a, ms, rfl, _⟩
    all_goals rfl
  · refine ⟨_, pss_cons (ps_if (pt_cmpR op_isN (pv 0) pe_non (nomark _)) (pss_one (ps_ret pe_non)) pss_nil)
      (pss_one (ps_ret (pe_tupleOf rfl T.tuple (pe_lc (own := [("_law_mask_here", 1)]) (g := gName 1) (tt := tYes) rfl scSH.nd (pi_tup (pv 0)) (blkOk_by (own := [("_law_mask_here", 1)]) (N := nSH) (sc := defScope sShown) (by decide +kernel)) (fun _ _ _ _ _ => pg_name (i := 1) scSH.nd rfl (Or.inl rfl)) (fun _ _ _ _ _ => pts_nil)
      (fun _ _ _ _ _ => pe_call ok hr rfl mf kp b .nil pass0 (pa_cons (pv 1) pa_nil)))))), ?_⟩
    rcases h with ⟨rfl, k⟩ | ⟨a, ms, rfl, hS, hl, k⟩
    · exact ⟨_, rfl, rfl, _, rfl, iteT k⟩
    · refine ⟨_, rfl, rfl, _, rfl, iteF ⟨_, rfl, a, rfl, ⟨_, hS⟩, fun D hD => ?_⟩⟩
      refine lc_tup (K := K) (a := a) (xs := ms.map vInt) (fun i H' => Same H H' ∧ ∃ xs, H' D = some (.lst xs) ∧ LotsAt H' xs (ms.take i)) ⟨same_new hD, [], upd_same, trivial⟩ ?_ ?_ ?_
      · rintro i H1 hi ⟨sm, _⟩
        exact same_seqT sm hS
      · rintro i x H1 hx ⟨sm, xs, hT, hL⟩
        obtain ⟨hi, rfl⟩ := item hx
        refine ⟨rfl, _, rfl, ms[i], rfl, fun H2 p s2 hp ht => ?_⟩
        refine ⟨_, s2 _ _ hT, ?_, same_upd (sm.trans s2) hD, _, upd_same, ?_⟩
        · rw [hL.len, List.length_take]
          exact below (m := 100000) (by omega)
        · rw [take_more hi]
          exact ((hL.same s2).add ht).upd (s2 _ _ hT)
      · rintro H1 ⟨sm, xs, hT, hL⟩
        rw [List.length_map, List.take_length] at hL
        refine .inl ⟨D, _, rfl, SqL.of hT, fun q hq => k _ q xs (fun b o e => ?_) (sm.free hq) upd_same (hL.same (same_new hq))⟩
        rw [upd_ne (ne_of_none (sm _ _ e) hq)]
        exact sm _ _ e

abbrev nWH : List Str := ["_law_row", "_law_many", "_law_one"]
theorem scWH : FnScope nWH ["_law_row", "_law_many"] (defScope sWhole) := ⟨rfl, rfl, rfl, by decide +kernel, rfl, by decide +kernel, by decide +kernel⟩
theorem ok_whole {f : Addr} {fd : FuncData} (F : Fun K "_law_whole" "_law_whole" sWhole f fd) (T : Bare mg) (G : Cal P w K mg base 2 "_law_ints" ["_law_row", "_law_many"] (spInts K)) : FnOk P w K mg base CX0 3 f fd ["_law_row", "_law_many"] (spWhole K) := by
  obtain ⟨g, gd, ok, b, kp, mf⟩ := G.ex
  refine F.ok scWH (fun vs H Q E h => ?_) (fun cdv A outer s H vs Q E hr h => ?_)
  · obtain ⟨a, ws, n, rfl, _⟩ := h
    rfl
  · obtain ⟨a, ws, n, rfl, hS, hl, hw, k⟩ := h
    refine ⟨_, pss_one (ps_ret (pe_and (pe_call ok hr rfl mf kp b .nil pass0 (pa_cons (pv 0) (pa_cons (pv 1) pa_nil)))
      (pe_one (pe_cmpR op_eq (pe_callB call_len_seq (by rfl) T.len PySem.boot_len (pa_cons (pe_lc (own := [("_law_one", 2)]) (g := gName 2) rfl scWH.nd (pi_row (j := 0) (pv 0)) (blkOk_by (own := [("_law_one", 2)]) (N := nWH) (sc := defScope sWhole) (by decide +kernel)) (fun _ _ _ _ _ => pg_name (i := 2) scWH.nd rfl (Or.inl rfl))
        (fun _ _ _ _ _ => pts_one (pt_cmpR op_ge (pe_callB call_abs (by rfl) T.abs (by decide +kernel) (pa_cons (pv 2) pa_nil)) (pe_op op_pow pe_int pe_int) (nomark _))) (fun _ _ _ _ _ => pv 2)) pa_nil)) pe_int (nomark _))))), ?_⟩
    refine ⟨_, rfl, _, rfl, a, ws, n, rfl, hS, hl, fun H1 s1 => ⟨_, rfl, ite2 (fun z => ?_) (fun z => ?_)⟩⟩
    · rw [z] at k
      delta tOp tCB tCons
      show tLc (iRow K 0) _ _ _ _ _ _ _
      refine row_lc (K := K) (b := a) (xs := ws.map V.int) (by rfl) (.inr (same_seqT s1 hS)) (fun D hD => ⟨fun i H' => Same H1 H' ∧ H' D = some (.lst []), ⟨same_new hD, upd_same⟩, fun i H' _ h => h.1, ?_, ?_⟩)
      · rintro i x H2 hx ⟨sm, hT⟩
        obtain ⟨hi, rfl⟩ := item hx
        refine ⟨rfl, _, rfl, ws[i], rfl, _, _, rfl, rfl, ⟨by decide, by decide, by decide⟩, _, _, rfl, rfl, _, rfl, ?_⟩
        have q := hw ws[i] (List.getElem_mem hi)
        refine ite2 (fun z => ?_) (fun _ => ⟨sm, hT⟩)
        have z1 := of_decide_eq_true z
        have z2 : (if ws[i] < 0 then -ws[i] else ws[i]) ≥ (10 : Int) ^ 60 := z1
        have z3 : (if ws[i] < 0 then -ws[i] else ws[i]) = ((ws[i]).natAbs : Int) := by split <;> omega
        rw [z3] at z2
        omega
      · rintro H2 ⟨sm, hT⟩
        exact ⟨D, _, rfl, .inl (SqL.of hT), rfl, by rw [decide_eq_true (show V.int (([] : List V).length : Int) = V.int 0 from rfl)]; exact k _ (s1.trans sm)⟩
    · have z2 : decide (ws.length = n) = false := by
        cases e : decide (ws.length = n) with
        | true => exact absurd e z
        | false => rfl
      rw [z2] at k
      exact k _ s1
end
end Fam
/-! A drawn family of masks. -/
namespace Fam
open PySem L2
open C8 (pss_cut tCut)

/-! ### and, or, not of masks -/
theorem bitAnd_nat (a b : Nat) : Builtin.bitAnd (a : Int) (b : Int) = ((a &&& b : Nat) : Int) := by
  unfold Builtin.bitAnd
  rw [decide_eq_true (Int.natCast_nonneg a), decide_eq_true (Int.natCast_nonneg b)]
  rfl
theorem bitOr_nat (a b : Nat) : Builtin.bitOr (a : Int) (b : Int) = ((a ||| b : Nat) : Int) := by
  have n1 : ∀ c : Nat, decide ((0 : Int) ≤ Builtin.bitNot (c : Int)) = false := fun c => decide_eq_false (by unfold Builtin.bitNot; omega)
  have n2 : ∀ c : Nat, (Builtin.bitNot (Builtin.bitNot (c : Int))).toNat = c := fun c => by unfold Builtin.bitNot; omega
  unfold Builtin.bitOr Builtin.bitAnd
  rw [n1 a, n1 b]
  show Builtin.bitNot (Builtin.bitNot _) = _
  rw [n2 a, n2 b]
  unfold Builtin.bitNot
  omega
theorem and_le_or (a b : Nat) : a &&& b ≤ a ||| b := Nat.le_trans Nat.and_le_left Nat.left_le_or
/-- the one or the other, not both: as the law's ^ tells it -/
def xorN (a b : Nat) : Nat := (a ||| b) - (a &&& b)
theorem bitXor_nat (a b : Nat) : Builtin.bitXor (a : Int) (b : Int) = ((xorN a b : Nat) : Int) := by
  unfold Builtin.bitXor xorN
  rw [bitOr_nat, bitAnd_nat]
  have := and_le_or a b
  omega
theorem xorN_lt {a b n : Nat} (ha : a < 2 ^ n) (hb : b < 2 ^ n) : xorN a b < 2 ^ n := Nat.lt_of_le_of_lt (Nat.sub_le _ _) (Nat.or_lt_two_pow ha hb)

/-! ### the heap but for the tape -/
/-- all that stood but the tape at a stands -/
def Kp (a : Addr) (H H' : Hp) : Prop := ∀ b o, b ≠ a → H b = some o → H' b = some o
theorem Kp.refl (a : Addr) (H : Hp) : Kp a H H := fun _ _ _ h => h
theorem Kp.trans {a : Addr} {H H1 H2 : Hp} (h1 : Kp a H H1) (h2 : Kp a H1 H2) : Kp a H H2 := fun b o hb h => h2 b o hb (h1 b o hb h)
theorem Kp.of {a : Addr} {H H' : Hp} (h : ∀ b, b ≠ a → H' b = H b) : Kp a H H' := fun b o hb e => by rw [h b hb]; exact e
theorem kp_same {a : Addr} {H H' : Hp} (s : Same H H') : Kp a H H' := fun b o _ e => s b o e
/-- D, new since H, written again -/
theorem Kp.upd {a D : Addr} {H H' : Hp} {o : HO} (h : Kp a H H') (hD : H D = none) : Kp a H (upd H' D o) := fun b u hb e => by
  rw [upd_ne (ne_of_none e hD)]
  exact h b u hb e
theorem TapeAt.same {H H' : Hp} {a : Addr} {c : Nat} {ts : List Int} (h : TapeAt H a c ts) (s : Same H H') : TapeAt H' a c ts := s _ _ h
theorem TapeAt.upd {H : Hp} {a D : Addr} {c : Nat} {ts : List Int} {o : HO} (h : TapeAt H a c ts) (hD : D ≠ a) : TapeAt (upd H D o) a c ts := by
  unfold TapeAt
  rw [upd_ne (Ne.symm hD)]
  exact h

/-- a draw below m: any number below m -/
def spDraw : Sp := fun vs H Q _ => ∃ (a : Addr) (c : Nat) (ts : List Int) (m : Nat), vs = [.ref a, vInt m] ∧ TapeAt H a c ts ∧ 0 < m ∧
  ∀ (H' : Hp) (c' n : Nat), n < m → (∀ b, b ≠ a → H' b = H b) → TapeAt H' a c' ts → Q (vInt n) H'
/-- masks of n places, told once each -/
structure Masks (n : Nat) (ms : List Nat) : Prop where
  lt : ∀ m ∈ ms, m < 2 ^ n
  nd : ms.Nodup
def spFamily : Sp := fun vs H Q _ => ∃ (a : Addr) (c : Nat) (ts : List Int) (n : Nat), vs = [.ref a, vInt n] ∧ TapeAt H a c ts ∧ n ≤ 10 ∧
  ∀ (H' : Hp) (c' : Nat) (p : Addr) (ms : List Nat), Masks n ms → Kp a H H' → TapeAt H' a c' ts → H p = none → H' p = some (.lst (ms.map vInt)) → Q (.ref p) H'

theorem pow_le10 {n : Nat} (h : n ≤ 10) : 2 ^ n ≤ 1024 := Nat.pow_le_pow_right (by decide) h
theorem tape_ne {H : Hp} {a D : Addr} {c : Nat} {ts : List Int} (h : TapeAt H a c ts) (hD : H D = none) : D ≠ a := fun e => by
  subst e
  rw [h] at hD
  cases hD

section
variable {P : Program} {w : World} {K : PySem.W.Frag} {mg : Str → Option Value} {base : Heap}
theorem ok_draw {k : Nat} {f : Addr} {fd : FuncData} (G : FnOk P w K mg base CX0 k f fd ["_law_tape", "_law_many"] spTake) : FnOk P w K mg base CX0 k f fd ["_law_tape", "_law_many"] spDraw :=
  G.imp fun vs H Q E h => by
    obtain ⟨a, c, ts, m, rfl, hT, hm, k⟩ := h
    refine ⟨a, c, ts, m, rfl, hT, by omega, fun H' hH hT' => ?_⟩
    have q := drawn_lt (c := c) (ts := ts) (m := (m : Int)) (by omega)
    have e : drawn c ts (m : Int) = ((drawn c ts (m : Int)).toNat : Int) := by omega
    rw [e]
    exact k H' _ _ (by omega) hH hT'

/-- the slots of _law_family -/
abbrev faS (a p : Addr) (n w : Nat) (y4 y6 y7 y8 y9 : Option V) : St := [some (.ref a), some (vInt n), some (vInt (2 ^ n)), some (vInt w), y4, some (.ref p), y6, y7, y8, y9]
theorem lc_map {K : PySem.W.Frag} {te : TE} {H : Hp} {a p : Addr} {n w : Nat} {y4 y6 y7 y8 y9 : Option V} {ms : List Nat} {Q : VK} (hp : H p = some (.lst (ms.map vInt))) (hl : ms.length ≤ 100000)
    (hte : ∀ m ∈ ms, ∀ (H' : Hp) (Q' : VK), Same H H' → (∀ r : Nat, r < 2 ^ n → Q' (vInt r) H') → te (faS a p n w y4 (some (vInt m)) y7 y8 y9) H' Q')
    (k : ∀ (D : Addr) (H' : Hp) (rs : List Nat), H D = none → Same H H' → H' D = some (.lst (rs.map vInt)) → rs.length = ms.length → (∀ r ∈ rs, r < 2 ^ n) → Q (.ref D) H') :
    tLc (iList K (tVar 5)) (gName 6) tYes te [6] (faS a p n w y4 y6 y7 y8 y9) H Q := by
  refine ⟨_, rfl, p, rfl, ⟨_, SqL.of hp⟩, fun D hD => ?_⟩
  refine lc_list (K := K) (a := p) (xs := ms.map vInt) (fun i H' => Same H H' ∧ ∃ rs : List Nat, H' D = some (.lst (rs.map vInt)) ∧ rs.length = i ∧ ∀ r ∈ rs, r < 2 ^ n) ⟨same_new hD, [], upd_same, rfl, fun r hr => by cases hr⟩ ?_ ?_ ?_
  · rintro i H1 hi ⟨sm, _⟩
    exact SqL.of (sm _ _ hp)
  · rintro i x H1 hx ⟨sm, rs, hT, hlen, hr⟩
    obtain ⟨hi, rfl⟩ := item hx
    refine ⟨rfl, ?_⟩
    refine hte _ (List.getElem_mem hi) H1 _ sm (fun r hr2 => ⟨_, hT, ?_, same_upd sm hD, rs ++ [r], ?_, ?_, ?_⟩)
    · rw [List.length_map]
      exact below (m := 100000) (by omega)
    · rw [upd_same, List.map_append]
      rfl
    · rw [List.length_append, hlen]
      rfl
    · intro q hq
      rcases List.mem_append.mp hq with hq | hq
      · exact hr q hq
      · rw [List.mem_singleton.mp hq]
        exact hr2
  · rintro H1 ⟨sm, rs, hT, hlen, hr⟩
    rw [List.length_map] at hlen
    exact k D H1 rs hD sm hT hlen hr
theorem lc_filter {tt : TT} {H : Hp} {a p : Addr} {n w : Nat} {y4 y6 y7 y8 y9 : Option V} {Q : VK} (hn : n ≤ 10)
    (htt : ∀ m : Nat, ∀ (H' : Hp) (Q' : Bool → Hp → Prop), Same H H' → (∀ b, Q' b H') → tt (faS a p n w y4 (some (.int (0 + (m : Int)))) y7 y8 y9) H' Q')
    (k : ∀ (D : Addr) (H' : Hp) (rs : List Nat), H D = none → Same H H' → H' D = some (.lst (rs.map vInt)) → rs.length ≤ 2 ^ n → (∀ r ∈ rs, r < 2 ^ n) → Q (.ref D) H') :
    tLc (iRng1 (tCons (tVar 2) tNil)) (gName 6) tt (tVar 6) [6] (faS a p n w y4 y6 y7 y8 y9) H Q := by
  have h10 := pow_le10 hn
  refine ⟨_, rfl, _, rfl, Int.le_trans (by decide) (Int.natCast_nonneg _), Int.lt_of_le_of_lt (Int.ofNat_le.mpr h10) (by decide), fun D hD => ?_⟩
  refine lc_range (lo := 0) (n := 2 ^ n) (fun i H' => Same H H' ∧ ∃ rs : List Nat, H' D = some (.lst (rs.map vInt)) ∧ rs.length ≤ i ∧ ∀ r ∈ rs, r < 2 ^ n) ⟨same_new hD, [], upd_same, Nat.le_refl _, fun r hr => by cases hr⟩ ?_ ?_
  · rintro i H1 hi ⟨sm, rs, hT, hlen, hr⟩
    refine ⟨rfl, htt i H1 _ sm (fun b => ?_)⟩
    cases b with
    | false => exact iteF ⟨sm, rs, hT, by omega, hr⟩
    | true =>
      refine iteT ⟨_, rfl, _, hT, ?_, same_upd sm hD, rs ++ [i], ?_, ?_, ?_⟩
      · rw [List.length_map]
        exact below (m := 100000) (by omega)
      · rw [upd_same, List.map_append, Int.zero_add]
        rfl
      · rw [List.length_append]
        show rs.length + 1 ≤ _
        omega
      · intro q hq
        rcases List.mem_append.mp hq with hq | hq
        · exact hr q hq
        · rw [List.mem_singleton.mp hq]
          exact hi
  · rintro H1 ⟨sm, rs, hT, hlen, hr⟩
    exact k D H1 rs hD sm hT hlen hr
theorem first_at {ms : List Nat} (h : ms ≠ []) : ∃ m, m ∈ ms ∧ atI (ms.map vInt) 0 = some (vInt m) := by
  cases ms with
  | nil => exact absurd rfl h
  | cons m ms => exact ⟨m, List.mem_cons_self, atI_nat (j := 0) rfl⟩
theorem last_at {ms : List Nat} (h : ms ≠ []) : ∃ m, m ∈ ms ∧ atI (ms.map vInt) (-1) = some (vInt m) := by
  have hl : 0 < ms.length := List.length_pos_iff.mpr h
  refine ⟨ms[ms.length - 1], List.getElem_mem _, ?_⟩
  have e : ixN (ms.map vInt).length (-1) = some (ms.length - 1) := by
    unfold ixN
    rw [if_neg (by decide), List.length_map, if_pos (by omega)]
    congr 1
    omega
  unfold atI
  rw [e]
  show (ms.map vInt)[ms.length - 1]? = _
  rw [List.getElem?_map, List.getElem?_eq_getElem (by omega)]
  rfl

theorem Kp.free {a D : Addr} {H H' : Hp} {c : Nat} {ts : List Int} (h : Kp a H H') (hT : TapeAt H' a c ts) (hD : H' D = none) : H D = none := by
  cases e : H D with
  | none => rfl
  | some o =>
    rw [h D o (tape_ne hT hD) e] at hD
    cases hD
theorem inV_nat (m : Nat) (rs : List Nat) : inV (vInt m) (rs.map vInt) = decide (m ∈ rs) := by
  induction rs with
  | nil => rfl
  | cons r rs ih =>
    unfold inV at ih ⊢
    rw [List.map_cons, List.any_cons, ih]
    show (((r : Int) == (m : Int)) || _) = _
    by_cases e : r = m
    · subst e
      simp
    · have e2 : ((r : Int) == (m : Int)) = false := beq_eq_false_iff_ne.mpr (by omega)
      rw [e2, Bool.false_or, decide_eq_decide, List.mem_cons]
      exact ⟨Or.inr, fun h => h.resolve_left (fun q => e q.symm)⟩
theorem flat_all (rs : List Nat) : (rs.map vInt).all flatV = true := by
  rw [List.all_map, List.all_eq_true]
  intro x _
  rfl
/-- what holds between the words of _law_family -/
def FaInv (H : Hp) (a : Addr) (n w : Nat) (ts : List Int) (b : Nat) (ne : Bool) (σ : St) (H' : Hp) : Prop := ∃ (c : Nat) (p : Addr) (ms : List Nat) (y4 y6 y7 y8 y9 : Option V),
  σ = faS a p n w y4 y6 y7 y8 y9 ∧ Kp a H H' ∧ TapeAt H' a c ts ∧ H p = none ∧ H' p = some (.lst (ms.map vInt)) ∧ (∀ m ∈ ms, m < 2 ^ n) ∧ ms.length ≤ b ∧ (ne = true → ms ≠ [])
theorem FaInv.cat {H H1 : Hp} {a p2 : Addr} {n w c b : Nat} {ts : List Int} {ms rs : List Nat} {y4 y6 y7 y8 y9 : Option V} (kp : Kp a H H1) (hT : TapeAt H1 a c ts) (hp2 : H1 p2 = none) (hr : ∀ m ∈ ms, m < 2 ^ n) (hr2 : ∀ m ∈ rs, m < 2 ^ n)
    (hb : ms.length + rs.length ≤ b) (ne : ms ≠ []) : FaInv H a n w ts b true (faS a p2 n w y4 y6 y7 y8 y9) (upd H1 p2 (.lst (ms.map vInt ++ rs.map vInt))) := by
  refine ⟨c, p2, ms ++ rs, _, _, _, _, _, rfl, kp.upd (kp.free hT hp2), hT.upd (tape_ne hT hp2), kp.free hT hp2, by rw [upd_same, List.map_append], fun m hm => ?_, by rw [List.length_append]; exact hb, fun _ e => ne (List.append_eq_nil_iff.mp e).1⟩
  rcases List.mem_append.mp hm with q | q
  · exact hr m q
  · exact hr2 m q
abbrev nFA : List Str := ["_law_tape", "_law_size", "_law_full_here", "_law_word_here", "_law_k", "_law_masks", "_law_mask_here", "_law_low", "_law_high", "_law_different"]
theorem scFA : FnScope nFA ["_law_tape", "_law_size"] (defScope sFamily) := ⟨rfl, rfl, rfl, by decide +kernel, rfl, by decide +kernel, by decide +kernel⟩
theorem ok_family {f : Addr} {fd : FuncData} (F : Fun K "_law_family" "_law_family" sFamily f fd) (T : Bare mg) (GT : Cal P w K mg base 1 "_law_take" ["_law_tape", "_law_many"] spDraw)
    (GF : Cal P w K mg base 1 "_law_full" ["_law_size"] spFull) (GO : Cal P w K mg base 1 "_law_ones" ["_law_mask_here"] spOnes) : FnOk P w K mg base CX0 2 f fd ["_law_tape", "_law_size"] spFamily := by
  obtain ⟨gt, gtd, okt, bt, kt, mt⟩ := GT.ex
  obtain ⟨gf, gfd, okf, bf, kf, mf⟩ := GF.ex
  obtain ⟨go, god, oko, bo, ko, mo⟩ := GO.ex
  refine F.ok scFA (fun vs H Q E h => ?_) (fun cdv A outer s H vs Q E hr h => ?_)
  · obtain ⟨a, c, ts, n, rfl, _⟩ := h
    rfl
  · obtain ⟨a, c, ts, n, rfl, hT, hn, k⟩ := h
    refine ⟨_, pss_cons (ps_set (i := 2) scFA.nd rfl (Or.inr rfl) (pe_call okf hr rfl mf kf bf .nil pass0 (pa_cons (pv 1) pa_nil)))
      (pss_cons (ps_set (i := 3) scFA.nd rfl (Or.inl rfl) (pe_call okt hr rfl mt kt bt .nil pass0 (pa_cons (pv 0) (pa_cons pe_int pa_nil))))
      (pss_cons (ps_set (i := 5) scFA.nd rfl (Or.inr rfl) (pe_lc (own := [("_law_k", 4)]) (g := gName 4) (tt := tYes) rfl scFA.nd (pi_range1 rfl T.range (pa_cons (pe_op op_add pe_int (pe_call okt hr rfl mt kt bt .nil pass0 (pa_cons (pv 0) (pa_cons pe_int pa_nil)))) pa_nil))
          (blkOk_by (own := [("_law_k", 4)]) (N := nFA) (sc := defScope sFamily) (by decide +kernel)) (fun _ _ _ _ _ => pg_name (i := 4) scFA.nd rfl (Or.inl rfl)) (fun _ _ _ _ _ => pts_nil)
          (fun _ _ _ _ _ => pe_call okt hr rfl mt kt bt .nil pass0 (pa_cons (pv 0) (pa_cons (pv 2) pa_nil)))))
      (pss_cut (ps_if (pt_cmpR op_eq (pv 3) pe_int (nomark _))
          (pss_one (ps_for PassesOwn.never rfl (pi_range1 rfl T.range (pa_cons pe_int pa_nil)) (pg_name (i := 4) scFA.nd rfl (Or.inl rfl))
            (pss_one (ps_set (i := 5) scFA.nd rfl (Or.inr rfl) (pe_op op_cat (pv 5) (pe_lc (own := [("_law_mask_here", 6)]) (g := gName 6) (tt := tYes) rfl scFA.nd (pi_list (pv 5))
              (blkOk_by (own := [("_law_mask_here", 6)]) (N := nFA) (sc := defScope sFamily) (by decide +kernel)) (fun _ _ _ _ _ => pg_name (i := 6) scFA.nd rfl (Or.inl rfl)) (fun _ _ _ _ _ => pts_nil)
              (fun _ _ _ _ _ => pe_op op_or (pe_ix (ix_list : IxR _ (rIxL K)) (pv 5) pe_int (fun _ _ => rfl)) (pv 6)))))))) pss_nil)
      (pss_cut (ps_if (pt_cmpR op_eq (pv 3) pe_int (nomark _))
            (pss_one (ps_set (i := 5) scFA.nd rfl (Or.inr rfl) (pe_op op_cat (pv 5) (pe_lc (own := [("_law_mask_here", 6)]) (g := gName 6) (tt := tYes) rfl scFA.nd (pi_list (pv 5))
              (blkOk_by (own := [("_law_mask_here", 6)]) (N := nFA) (sc := defScope sFamily) (by decide +kernel)) (fun _ _ _ _ _ => pg_name (i := 6) scFA.nd rfl (Or.inl rfl)) (fun _ _ _ _ _ => pts_nil)
              (fun _ _ _ _ _ => pe_op op_xor (pe_op op_xor (pe_ix (ix_list : IxR _ (rIxL K)) (pv 5) pe_int (fun _ _ => rfl)) (pe_ix (ix_list : IxR _ (rIxL K)) (pv 5) (pe_un un_neg pe_int) (fun _ _ => rfl))) (pv 6)))))) pss_nil)
      (pss_cut (ps_if (pt_cmpR op_eq (pv 3) pe_int (nomark _))
            (pss_cons (ps_set (i := 7) scFA.nd rfl (Or.inr rfl) (pe_op op_and (pe_ix ix_list (pv 5) pe_int (fun _ _ => rfl)) (pe_ix ix_list (pv 5) (pe_un un_neg pe_int) (fun _ _ => rfl))))
            (pss_cons (ps_set (i := 8) scFA.nd rfl (Or.inr rfl) (pe_op op_or (pe_ix ix_list (pv 5) pe_int (fun _ _ => rfl)) (pe_ix ix_list (pv 5) (pe_un un_neg pe_int) (fun _ _ => rfl))))
            (pss_one (ps_set (i := 5) scFA.nd rfl (Or.inr rfl) (pe_lc (own := [("_law_mask_here", 6)]) (g := gName 6) rfl scFA.nd (pi_range1 rfl T.range (pa_cons (pv 2) pa_nil))
              (blkOk_by (own := [("_law_mask_here", 6)]) (N := nFA) (sc := defScope sFamily) (by decide +kernel)) (fun _ _ _ _ _ => pg_name (i := 6) scFA.nd rfl (Or.inl rfl))
              (fun _ _ _ _ _ => pts_one (PW.pt (pw_and (pt_cmpR op_eq (pe_op op_and (pv 6) (pv 7)) (pv 7) (nomark _)) (pw_and1 (pt_cmpR op_eq (pe_op op_or (pv 6) (pv 8)) (pv 8) (nomark _))))))
              (fun _ _ _ _ _ => pv 6)))))) pss_nil)
      (pss_cut (ps_if (pt_cmpR op_eq (pv 3) pe_int (nomark _))
            (pss_one (ps_set (i := 5) scFA.nd rfl (Or.inr rfl) (pe_lc (own := [("_law_mask_here", 6)]) (g := gName 6) rfl scFA.nd (pi_range1 rfl T.range (pa_cons (pv 2) pa_nil))
              (blkOk_by (own := [("_law_mask_here", 6)]) (N := nFA) (sc := defScope sFamily) (by decide +kernel)) (fun _ _ _ _ _ => pg_name (i := 6) scFA.nd rfl (Or.inl rfl))
              (fun _ _ _ _ _ => pts_one (pt_cmpR op_eq (pe_call oko hr rfl mo ko bo .nil pass0 (pa_cons (pv 6) pa_nil)) pe_int (nomark _)))
              (fun _ _ _ _ _ => pv 6)))) pss_nil)
      (pss_cons (ps_set (i := 9) scFA.nd rfl (Or.inl rfl) (pe_lst pa_nil))
      (pss_cons (ps_for PassesOwn.never rfl (pi_list (pv 5)) (pg_name (i := 6) scFA.nd rfl (Or.inl rfl))
        (pss_one (ps_if (pt_cmpR op_notIn_seq (pv 6) (pv 9) (by rfl))
          (pss_one (ps_expr (pe_bm PySem.F.plainAttrs_list PySem.F.slot_list_append PySem.F.type_list_append mt_append (pv 9) (pa_cons (pv 6) pa_nil)))) pss_nil)))
      (pss_one (ps_ret (pv 9)))))))))))
      , ?_⟩
    have h10 := pow_le10 hn
    refine ⟨_, rfl, n, rfl, by omega, ?_⟩
    refine ⟨_, rfl, a, c, ts, 6, rfl, hT, by decide, fun H1 c1 w hw h1 hT1 => ?_⟩
    refine ⟨_, rfl, a, c1, ts, 6, rfl, hT1, by decide, fun H2 c2 m0 hm0 h2 hT2 => ⟨_, _, rfl, rfl, _, rfl, by omega, by omega, fun D hD => ?_⟩⟩
    have kp2 : Kp a H H2 := (Kp.of h1).trans (Kp.of h2)
    have hDa := tape_ne hT2 hD
    have hD0 := kp2.free hT2 hD
    refine lc_range (lo := 0) (n := ((1 : Int) + m0).toNat) (fun i H' => Kp a H H' ∧ (∃ c, TapeAt H' a c ts) ∧ ∃ ms : List Nat, H' D = some (.lst (ms.map vInt)) ∧ ms.length = i ∧ ∀ m ∈ ms, m < 2 ^ n)
      ⟨kp2.upd hD0, ⟨_, hT2.upd hDa⟩, [], upd_same, rfl, fun m hm => by cases hm⟩ ?_ ?_
    · rintro i H3 hi ⟨kp, ⟨c3, hT3⟩, ms, hM, hl, hr⟩
      refine ⟨rfl, _, rfl, _, rfl, a, c3, ts, 2 ^ n, rfl, hT3, Nat.two_pow_pos n, fun H4 c4 r hr4 h4 hT4 => ?_⟩
      refine ⟨_, by rw [h4 D hDa]; exact hM, ?_, (kp.trans (Kp.of h4)).upd hD0, ⟨_, hT4.upd hDa⟩, ms ++ [r], ?_, ?_, ?_⟩
      · rw [List.length_map]
        exact below (m := 100000) (by omega)
      · rw [upd_same, List.map_append]
        rfl
      · rw [List.length_append, hl]
        rfl
      · intro q hq
        rcases List.mem_append.mp hq with hq | hq
        · exact hr q hq
        · rw [List.mem_singleton.mp hq]
          exact hr4
    · rintro H3 ⟨kp, ⟨c3, hT3⟩, ms, hM, hl, hr⟩
      have ne : ms ≠ [] := by
        intro e
        rw [e] at hl
        have : ((1 : Int) + m0).toNat = 0 := hl.symm
        omega
      have b0 : ms.length ≤ 6 := by omega
      have inv0 : FaInv H a n w ts 6 true [some (.ref a), some (vInt n), some (vInt (2 ^ n)), some (vInt w), none, some (.ref D), none, none, none, none] H3 := ⟨c3, D, ms, _, _, _, _, _, rfl, kp, hT3, hD0, hM, hr, b0, fun _ => ne⟩
      -- the first word
      refine ⟨FaInv H a n w ts 24 true, ?_, ?_⟩
      · refine ⟨_, rfl, rfl, _, rfl, ite2 (fun z => ?_) (fun z => ?_)⟩
        · refine ⟨_, rfl, by decide, by decide, for_range (lo := 0) (n := 2) (fun i σ H' => FaInv H a n w ts (6 * 2 ^ i) true σ H') inv0 ?_ (fun σ H' h => h)⟩
          rintro i σ H4 hi ⟨c4, p4, ms4, y4, y6, y7, y8, y9, rfl, kp4, hT4, hp4, hM4, hr4, b4, ne4⟩
          obtain ⟨m1, hm1, e1⟩ := first_at (ne4 rfl)
          have bb : 6 * 2 ^ i ≤ 24 := by
            have : 2 ^ i ≤ 2 ^ 2 := Nat.pow_le_pow_right (by decide) (by omega)
            omega
          refine ⟨_, rfl, lc_map hM4 (by omega) (fun m hm H5 Q' s5 q => ?_) (fun D5 H5 rs hD5 s5 hM5 hl5 hr5 => ?_)⟩
          · refine ⟨_, rfl, p4, _, _, _, rfl, rfl, SqL.of (s5 _ _ hM4), e1, _, rfl, _, _, rfl, rfl, ?_⟩
            show Q' (V.int (Builtin.bitOr (m1 : Int) (m : Int))) H5
            rw [bitOr_nat]
            exact q _ (Nat.or_lt_two_pow (hr4 _ hm1) (hr4 _ hm))
          · refine ⟨p4, D5, _, _, rfl, rfl, s5 _ _ hM4, hM5, ?_, fun p6 hp6 => ?_⟩
            · rw [List.length_map, List.length_map]
              exact small (m := 100000) (by omega)
            · refine FaInv.cat (kp4.trans (kp_same s5)) (hT4.same s5) hp6 hr4 hr5 ?_ (ne4 rfl)
              rw [Nat.pow_succ]
              omega
        · exact ⟨c3, D, ms, _, _, _, _, _, rfl, kp, hT3, hD0, hM, hr, by omega, fun _ => ne⟩
      rintro _ H4 ⟨c4, p4, ms4, y4, y6, y7, y8, y9, rfl, kp4, hT4, hp4, hM4, hr4, b4, ne4⟩
      -- the second
      refine ⟨FaInv H a n w ts 48 true, ?_, ?_⟩
      · refine ⟨_, rfl, rfl, _, rfl, ite2 (fun z => ?_) (fun z => ?_)⟩
        · obtain ⟨m1, hm1, e1⟩ := first_at (ne4 rfl)
          obtain ⟨m2, hm2, e2⟩ := last_at (ne4 rfl)
          refine ⟨_, rfl, lc_map hM4 (by omega) (fun m hm H5 Q' s5 q => ?_) (fun D5 H5 rs hD5 s5 hM5 hl5 hr5 => ?_)⟩
          · refine ⟨_, rfl, p4, _, _, _, rfl, rfl, SqL.of (s5 _ _ hM4), e1, _, rfl, _, rfl, p4, _, _, _, rfl, rfl, SqL.of (s5 _ _ hM4), e2, _, _, rfl, rfl, _, rfl, _, _, rfl, rfl, ?_⟩
            show Q' (V.int (Builtin.bitXor (Builtin.bitXor (m1 : Int) (m2 : Int)) (m : Int))) H5
            rw [bitXor_nat, bitXor_nat]
            exact q _ (xorN_lt (xorN_lt (hr4 _ hm1) (hr4 _ hm2)) (hr4 _ hm))
          · refine ⟨p4, D5, _, _, rfl, rfl, s5 _ _ hM4, hM5, ?_, fun p6 hp6 => ?_⟩
            · rw [List.length_map, List.length_map]
              exact small (m := 100000) (by omega)
            · exact FaInv.cat (kp4.trans (kp_same s5)) (hT4.same s5) hp6 hr4 hr5 (by omega) (ne4 rfl)
        · exact ⟨c4, p4, ms4, _, _, _, _, _, rfl, kp4, hT4, hp4, hM4, hr4, by omega, ne4⟩
      rintro _ H5 ⟨c5, p5, ms5, y4, y6, y7, y8, y9, rfl, kp5, hT5, hp5, hM5, hr5, b5, ne5⟩
      -- the third
      refine ⟨FaInv H a n w ts 1024 false, ?_, ?_⟩
      · refine ⟨_, rfl, rfl, _, rfl, ite2 (fun z => ?_) (fun z => ?_)⟩
        · obtain ⟨m1, hm1, e1⟩ := first_at (ne5 rfl)
          obtain ⟨m2, hm2, e2⟩ := last_at (ne5 rfl)
          refine ⟨_, rfl, p5, _, _, _, rfl, rfl, SqL.of hM5, e1, _, rfl, _, rfl, p5, _, _, _, rfl, rfl, SqL.of hM5, e2, _, _, rfl, rfl, ?_⟩
          refine ⟨_, rfl, p5, _, _, _, rfl, rfl, SqL.of hM5, e1, _, rfl, _, rfl, p5, _, _, _, rfl, rfl, SqL.of hM5, e2, _, _, rfl, rfl, ?_⟩
          show tAsg (tLc (iRng1 (tCons (tVar 2) tNil)) (gName 6) _ (tVar 6) [6]) (gName 5) _ (faS a p5 n w y4 y6 (some (.int (Builtin.bitAnd (m1 : Int) (m2 : Int)))) (some (.int (Builtin.bitOr (m1 : Int) (m2 : Int)))) y9) H5
          refine lc_filter hn (fun m H6 Q' s6 q => ?_) (fun D6 H6 rs hD6 s6 hM6 hl6 hr6 => ?_)
          · refine ⟨_, rfl, _, rfl, _, _, rfl, rfl, _, rfl, rfl, _, rfl, ite2 (fun _ => ?_) (fun _ => q _)⟩
            exact ⟨_, rfl, _, rfl, _, _, rfl, rfl, _, rfl, rfl, _, rfl, q _⟩
          · exact ⟨c5, D6, rs, _, _, _, _, _, rfl, kp5.trans (kp_same s6), hT5.same s6, kp5.free hT5 hD6, hM6, hr6, by omega, fun q => by cases q⟩
        · exact ⟨c5, p5, ms5, _, _, _, _, _, rfl, kp5, hT5, hp5, hM5, hr5, by omega, fun q => by cases q⟩
      rintro _ H6 ⟨c6, p6, ms6, y4, y6, y7, y8, y9, rfl, kp6, hT6, hp6, hM6, hr6, b6, ne6⟩
      -- the fourth
      refine ⟨FaInv H a n w ts 1024 false, ?_, ?_⟩
      · refine ⟨_, rfl, rfl, _, rfl, ite2 (fun z => ?_) (fun z => ?_)⟩
        · refine lc_filter hn (fun m H6 Q' s7 q => ?_) (fun D7 H7 rs hD7 s7 hM7 hl7 hr7 => ?_)
          · exact ⟨_, rfl, m, by rw [Int.zero_add]; rfl, rfl, _, rfl, q _⟩
          · exact ⟨c6, D7, rs, _, _, _, _, _, rfl, kp6.trans (kp_same s7), hT6.same s7, kp6.free hT6 hD7, hM7, hr7, by omega, fun q => by cases q⟩
        · exact ⟨c6, p6, ms6, _, _, _, _, _, rfl, kp6, hT6, hp6, hM6, hr6, b6, ne6⟩
      rintro _ H7 ⟨c7, p7, ms7, y4, y6, y7, y8, y9, rfl, kp7, hT7, hp7, hM7, hr7, b7, ne7⟩
      -- each mask once
      refine ⟨small (m := 1) (Nat.zero_le _), fun q hq => ?_⟩
      have hqa := tape_ne hT7 hq
      have hq0 := kp7.free hT7 hq
      have hqp : p7 ≠ q := ne_of_none hM7 hq
      refine ⟨_, rfl, p7, rfl, ⟨_, SqL.of (by rw [upd_ne hqp]; exact hM7)⟩, for_list (K := K) (xs := ms7.map vInt) (fun i σ H' => ∃ (rs : List Nat) (y6 : Option V), σ = faS a p7 n w y4 y6 y7 y8 (some (.ref q)) ∧ Kp a H H' ∧ TapeAt H' a c7 ts ∧ H' p7 = some (.lst (ms7.map vInt)) ∧ H' q = some (.lst (rs.map vInt)) ∧ rs.Nodup ∧ (∀ r ∈ rs, r < 2 ^ n) ∧ rs.length ≤ i)
        ⟨[], y6, rfl, kp7.upd hq0, hT7.upd hqa, by rw [upd_ne hqp]; exact hM7, upd_same, List.nodup_nil, (fun r hr => by cases hr), Nat.le_refl _⟩ ?_ ?_ ?_⟩
      · rintro i σ H8 hi ⟨rs, y6, rfl, kp, hT, hM, hR, _⟩
        exact SqL.of hM
      · rintro i x σ H8 hx ⟨rs, y6, rfl, kp, hT, hM, hR, nd, hr, hl⟩
        obtain ⟨hi, rfl⟩ := item hx
        refine ⟨_, rfl, _, rfl, q, _, rfl, .inl (SqL.of hR), rfl, flat_all rs, _, rfl, ?_⟩
        rw [inV_nat]
        refine ite2 (fun z => ?_) (fun z => ?_)
        · have z1 : ¬ ms7[i] ∈ rs := by
            intro q
            rw [decide_eq_true q] at z
            cases z
          refine ⟨_, rfl, .inl ⟨rfl, _, SqL.of hR⟩, _, rfl, q, _, _, rfl, rfl, hR, ?_, rs ++ [ms7[i]], _, rfl, kp.upd hq0, hT.upd hqa, ?_, ?_, ?_, ?_, ?_⟩
          · rw [List.length_map]
            exact below (m := 100000) (by omega)
          · rw [upd_ne hqp]
            exact hM
          · rw [upd_same, List.map_append]
            rfl
          · exact List.nodup_append.mpr ⟨nd, List.pairwise_singleton _ _, fun x hx y hy e => z1 (by rw [List.mem_singleton.mp hy] at e; rw [← e]; exact hx)⟩
          · intro x hx
            rcases List.mem_append.mp hx with q | q
            · exact hr x q
            · rw [List.mem_singleton.mp q]
              exact hr7 _ (List.getElem_mem hi)
          · rw [List.length_append]
            show rs.length + 1 ≤ _
            omega
        · exact ⟨rs, _, rfl, kp, hT, hM, hR, nd, hr, by omega⟩
      · rintro σ H8 ⟨rs, y6, rfl, kp, hT, hM, hR, nd, hr, hl⟩
        exact ⟨_, rfl, k H8 c7 q rs ⟨hr, nd⟩ kp hT hq0 hR⟩
end
end Fam
/-! Masks as drawn; the sum place by place. -/
namespace Fam
open PySem L2
open C8 (pss_cut tCut)

/-- an item of a row -/
def rIxRow (K : PySem.W.Frag) : R2 := fun x y H Q => ∃ p xs i v, x = .ref p ∧ y = .int i ∧ Row K H p xs ∧ atI xs i = some v ∧ Q v H
theorem ix_row {X : Cx} : IxR X (rIxRow X.K) := fun value slice pins s σ H x y v u Q hi rv ru h e => by
  obtain ⟨p, xs, i, w, e1, e2, hS | hS, ha, q⟩ := h
  · exact ix_list value slice pins s σ H x y v u Q hi rv ru ⟨p, xs, i, w, e1, e2, hS, ha, q⟩ e
  · exact ix_tup value slice pins s σ H x y v u Q hi rv ru ⟨p, xs, i, w, e1, e2, hS, ha, q⟩ e

def lowOf (ms : List Nat) : Nat := ms.foldl (· &&& ·) (ms.headD 0)
def highOf (ms : List Nat) : Nat := ms.foldl (· ||| ·) (ms.headD 0)
/-- the sum place by place: what all masks have, and what some mask has if its weight is above 0 -/
def placeN (low high : Nat) (ws : List Int) : Nat → Int
  | 0 => 0
  | n + 1 => if 0 < low &&& 2 ^ n ∨ (0 < high &&& 2 ^ n ∧ 0 < ws.getD n 0) then placeN low high ws n + ws.getD n 0 else placeN low high ws n
theorem placeN_yes {low high n : Nat} {ws : List Int} (h : 0 < low &&& 2 ^ n ∨ (0 < high &&& 2 ^ n ∧ 0 < ws.getD n 0)) : placeN low high ws (n + 1) = placeN low high ws n + ws.getD n 0 := if_pos h
theorem placeN_no {low high n : Nat} {ws : List Int} (h : ¬ (0 < low &&& 2 ^ n ∨ (0 < high &&& 2 ^ n ∧ 0 < ws.getD n 0))) : placeN low high ws (n + 1) = placeN low high ws n := if_neg h
abbrev placeSum (ms : List Nat) (ws : List Int) : Int := placeN (lowOf ms) (highOf ms) ws ws.length

def spPlaceSum (K : PySem.W.Frag) : Sp := fun vs H Q _ => ∃ (a b : Addr) (ms : List Nat) (ws : List Int), vs = [.ref a, .ref b] ∧ SqL K H a (ms.map vInt) ∧ ms ≠ [] ∧ Row K H b (ws.map V.int) ∧ ws.length ≤ 60 ∧ Q (.int (placeSum ms ws)) H

section
variable {P : Program} {w : World} {K : PySem.W.Frag} {mg : Str → Option Value} {base : Heap}
abbrev nDM : List Str := ["_law_tape", "_law_size", "_law_masks"]
theorem scDM : FnScope nDM ["_law_tape", "_law_size"] (defScope sDrawnMasks) := ⟨rfl, rfl, rfl, by decide +kernel, rfl, by decide +kernel, by decide +kernel⟩
theorem ok_drawn_masks {f : Addr} {fd : FuncData} (F : Fun K "_law_drawn_masks" "_law_drawn_masks" sDrawnMasks f fd) (T : Bare mg) (GT : Cal P w K mg base 1 "_law_take" ["_law_tape", "_law_many"] spDraw)
    (GF : Cal P w K mg base 2 "_law_family" ["_law_tape", "_law_size"] spFamily) : FnOk P w K mg base CX0 3 f fd ["_law_tape", "_law_size"] spFamily := by
  obtain ⟨gt, gtd, okt, bt, kt, mt⟩ := GT.ex
  obtain ⟨gf, gfd, okf, bf, kf, mf⟩ := GF.ex
  refine F.ok scDM (fun vs H Q E h => ?_) (fun cdv A outer s H vs Q E hr h => ?_)
  · obtain ⟨a, c, ts, n, rfl, _⟩ := h
    rfl
  · obtain ⟨a, c, ts, n, rfl, hT, hn, k⟩ := h
    refine ⟨_, pss_cons (ps_set (i := 2) scDM.nd rfl (Or.inl rfl) (pe_call okf hr rfl mf kf bf .nil pass0 (pa_cons (pv 0) (pa_cons (pv 1) pa_nil))))
      (pss_cons (ps_if (pt_cmpR op_eq (pe_call okt (hr.mono (by decide)) rfl mt kt bt .nil pass0 (pa_cons (pv 0) (pa_cons pe_int pa_nil))) pe_int (nomark _)) (pss_one (ps_ret (pe_lst pa_nil))) pss_nil)
      (pss_one (ps_ret (pv 2)))), ?_⟩
    refine ⟨_, rfl, _, rfl, a, c, ts, n, rfl, hT, hn, fun H1 c1 p ms hms kp hT1 hp hM => ?_⟩
    refine ⟨_, rfl, a, c1, ts, 8, rfl, hT1, by decide, fun H2 c2 d hd h2 hT2 => ⟨rfl, _, rfl, ite2 (fun z => ?_) (fun z => ?_)⟩⟩
    · refine ⟨small (m := 1) (Nat.zero_le _), fun q hq => ?_⟩
      have kp2 := kp.trans (Kp.of h2)
      exact k _ c2 q [] ⟨(fun m hm => by cases hm), List.nodup_nil⟩ (kp2.upd (kp2.free hT2 hq)) (hT2.upd (tape_ne hT2 hq)) (kp2.free hT2 hq) upd_same
    · have hpa : p ≠ a := fun e => by
        subst e
        rw [hT] at hp
        cases hp
      exact ⟨_, rfl, k H2 c2 p ms hms (kp.trans (Kp.of h2)) hT2 hp (by rw [h2 p hpa]; exact hM)⟩

abbrev nPS : List Str := ["_law_masks", "_law_weights", "_law_low", "_law_high", "_law_mask_here", "_law_total", "_law_place", "_law_bit"]
theorem scPS : FnScope nPS ["_law_masks", "_law_weights"] (defScope sPlaceSum) := ⟨rfl, rfl, rfl, by decide +kernel, rfl, by decide +kernel, by decide +kernel⟩
theorem ok_place_sum {f : Addr} {fd : FuncData} (F : Fun K "_law_place_sum" "_law_place_sum" sPlaceSum f fd) (T : Bare mg) (GF : Cal P w K mg base 1 "_law_full" ["_law_size"] spFull) : FnOk P w K mg base CX0 2 f fd ["_law_masks", "_law_weights"] (spPlaceSum K) := by
  obtain ⟨gf, gfd, okf, bf, kf, mf⟩ := GF.ex
  refine F.ok scPS (fun vs H Q E h => ?_) (fun cdv A outer s H vs Q E hr h => ?_)
  · obtain ⟨a, b, ms, ws, rfl, _⟩ := h
    rfl
  · obtain ⟨a, b, ms, ws, rfl, hS, hne, hW, hl, k⟩ := h
    refine ⟨_, pss_cons (ps_set (i := 2) scPS.nd rfl (Or.inl rfl) (pe_ix ix_list (pv 0) pe_int (fun _ _ => rfl)))
      (pss_cons (ps_set (i := 3) scPS.nd rfl (Or.inl rfl) (pe_ix ix_list (pv 0) pe_int (fun _ _ => rfl)))
      (pss_cons (ps_for PassesOwn.never rfl (pi_list (pv 0)) (pg_name (i := 4) scPS.nd rfl (Or.inl rfl))
        (pss_cons (ps_set (i := 2) scPS.nd rfl (Or.inl rfl) (pe_op op_and (pv 2) (pv 4)))
        (pss_one (ps_set (i := 3) scPS.nd rfl (Or.inl rfl) (pe_op op_or (pv 3) (pv 4))))))
      (pss_cons (ps_set (i := 5) scPS.nd rfl (Or.inl rfl) pe_int)
      (pss_cons (ps_for PassesOwn.never rfl (pi_range1 rfl T.range (pa_cons (pe_callB call_len_seq (by rfl) T.len PySem.boot_len (pa_cons (pv 1) pa_nil)) pa_nil)) (pg_name (i := 6) scPS.nd rfl (Or.inl rfl))
        (pss_cons (ps_set (i := 7) scPS.nd rfl (Or.inl rfl) (pe_call okf hr rfl mf kf bf .nil pass0 (pa_cons (pv 6) pa_nil)))
        (pss_one (ps_if (PW.pt (pw_or (pt_cmpR op_gt (pe_op op_and (pv 2) (pv 7)) pe_int (nomark _)) (pw_or1 (PW.pt (pw_and (pt_cmpR op_gt (pe_op op_and (pv 3) (pv 7)) pe_int (nomark _))
            (pw_and1 (pt_cmpR op_gt (pe_ix ix_row (pv 1) (pv 6) (fun _ _ => rfl)) pe_int (nomark _))))))))
          (pss_one (ps_aug (i := 5) scPS.nd rfl (Or.inl rfl) (pe_ix ix_row (pv 1) (pv 6) (fun _ _ => rfl)) ip_add)) pss_nil))))
      (pss_one (ps_ret (pv 5))))))), ?_⟩
    obtain ⟨m0, mr, rfl⟩ : ∃ m0 mr, ms = m0 :: mr := by
      cases ms with
      | nil => exact absurd rfl hne
      | cons m0 mr => exact ⟨m0, mr, rfl⟩
    have e0 : atI ((m0 :: mr).map vInt) 0 = some (vInt m0) := atI_nat (j := 0) rfl
    refine ⟨_, rfl, a, _, _, _, rfl, rfl, hS, e0, ?_⟩
    refine ⟨_, rfl, a, _, _, _, rfl, rfl, hS, e0, ?_⟩
    refine ⟨_, rfl, a, rfl, ⟨_, hS⟩, for_list (K := K) (xs := (m0 :: mr).map vInt) (fun i σ H' => ∃ y4 : Option V, σ = [some (.ref a), some (.ref b), some (vInt (((m0 :: mr).take i).foldl (· &&& ·) m0)), some (vInt (((m0 :: mr).take i).foldl (· ||| ·) m0)), y4, none, none, none] ∧ H' = H) ⟨none, rfl, rfl⟩ ?_ ?_ ?_⟩
    · rintro i σ H1 hi ⟨y4, rfl, rfl⟩
      exact hS
    · rintro i x σ H1 hx ⟨y4, rfl, rfl⟩
      obtain ⟨hi, rfl⟩ := item hx
      refine ⟨_, rfl, _, rfl, _, _, rfl, rfl, _, rfl, _, rfl, _, _, rfl, rfl, ⟨some (vInt (m0 :: mr)[i]), ?_, rfl⟩⟩
      rw [take_more hi, List.foldl_append, List.foldl_append]
      show [_, _, some (V.int (Builtin.bitAnd _ _)), some (V.int (Builtin.bitOr _ _)), _, _, _, _] = _
      rw [bitAnd_nat, bitOr_nat]
      rfl
    · rintro σ H1 ⟨y4, rfl, rfl⟩
      rw [List.length_map, List.take_length]
      have en : (((ws.map V.int).length : Nat) : Int).toNat = ws.length := by rw [Int.toNat_natCast, List.length_map]
      have el : (((ws.map V.int).length : Nat) : Int) = (ws.length : Int) := by rw [List.length_map]
      refine ⟨_, rfl, b, _, rfl, hW, _, rfl, by rw [el]; omega, by rw [el]; omega, for_range (lo := 0) (n := (((ws.map V.int).length : Nat) : Int).toNat) (fun i σ H' => ∃ y6 y7 : Option V, σ = [some (.ref a), some (.ref b), some (vInt (lowOf (m0 :: mr))), some (vInt (highOf (m0 :: mr))), y4, some (.int (placeN (lowOf (m0 :: mr)) (highOf (m0 :: mr)) ws i)), y6, y7] ∧ H' = H1) ⟨none, none, rfl, rfl⟩ ?_ ?_⟩
      · rintro i σ H2 hi ⟨y6, y7, rfl, rfl⟩
        rw [en] at hi
        have ei : atI (ws.map V.int) (0 + (i : Int)) = some (V.int (ws.getD i 0)) := by
          rw [Int.zero_add]
          refine atI_nat ?_
          rw [List.getElem?_map, List.getElem?_eq_getElem hi, List.getD_eq_getElem?_getD, List.getElem?_eq_getElem hi]
          rfl
        refine ⟨_, rfl, i, by rw [Int.zero_add]; rfl, by omega, ?_⟩
        have yes : ∀ h : (0 < lowOf (m0 :: mr) &&& 2 ^ i ∨ (0 < highOf (m0 :: mr) &&& 2 ^ i ∧ 0 < ws.getD i 0)), ∃ y6 y7 : Option V,
            [some (V.ref a), some (V.ref b), some (vInt (lowOf (m0 :: mr))), some (vInt (highOf (m0 :: mr))), y4, some (V.int (placeN (lowOf (m0 :: mr)) (highOf (m0 :: mr)) ws i + ws.getD i 0)), some (V.int (0 + (i : Int))), some (vInt (2 ^ i))]
              = [some (.ref a), some (.ref b), some (vInt (lowOf (m0 :: mr))), some (vInt (highOf (m0 :: mr))), y4, some (.int (placeN (lowOf (m0 :: mr)) (highOf (m0 :: mr)) ws (i + 1))), y6, y7] ∧ H2 = H2 :=
          fun h => ⟨_, _, by rw [placeN_yes h], rfl⟩
        have no : ∀ h : ¬ (0 < lowOf (m0 :: mr) &&& 2 ^ i ∨ (0 < highOf (m0 :: mr) &&& 2 ^ i ∧ 0 < ws.getD i 0)), ∃ y6 y7 : Option V,
            [some (V.ref a), some (V.ref b), some (vInt (lowOf (m0 :: mr))), some (vInt (highOf (m0 :: mr))), y4, some (V.int (placeN (lowOf (m0 :: mr)) (highOf (m0 :: mr)) ws i)), some (V.int (0 + (i : Int))), some (vInt (2 ^ i))]
              = [some (.ref a), some (.ref b), some (vInt (lowOf (m0 :: mr))), some (vInt (highOf (m0 :: mr))), y4, some (.int (placeN (lowOf (m0 :: mr)) (highOf (m0 :: mr)) ws (i + 1))), y6, y7] ∧ H2 = H2 :=
          fun h => ⟨_, _, by rw [placeN_no h], rfl⟩
        have ea : ∀ x : Nat, (decide ((0 : Int) < Builtin.bitAnd (x : Int) ((2 ^ i : Nat) : Int))) = decide (0 < x &&& 2 ^ i) := fun x => by
          rw [bitAnd_nat, decide_eq_decide]
          omega
        refine ⟨_, rfl, _, rfl, _, _, rfl, rfl, _, _, rfl, rfl, _, rfl, ?_⟩
        have ga : ∀ x : Nat, (decide ((0 : Int) < Builtin.bitAnd (x : Int) ((2 ^ i : Nat) : Int)) = true) → 0 < x &&& 2 ^ i := fun x z => of_decide_eq_true ((ea x) ▸ z)
        have gn : ∀ x : Nat, ¬ (decide ((0 : Int) < Builtin.bitAnd (x : Int) ((2 ^ i : Nat) : Int)) = true) → ¬ 0 < x &&& 2 ^ i := fun x z h => z ((ea x).symm ▸ decide_eq_true h)
        refine ite2 (fun z => ?_) (fun z => ?_)
        · exact ⟨_, rfl, _, rfl, _, rfl, b, _, _, _, rfl, rfl, hW, ei, _, _, rfl, rfl, yes (.inl (ga _ z))⟩
        · refine ⟨_, rfl, _, rfl, _, _, rfl, rfl, _, _, rfl, rfl, _, rfl, ite2 (fun z2 => ?_) (fun z2 => ?_)⟩
          · refine ⟨_, rfl, _, rfl, b, _, _, _, rfl, rfl, hW, ei, _, _, rfl, rfl, _, rfl, ite2 (fun z3 => ?_) (fun z3 => ?_)⟩
            · exact ⟨_, rfl, _, rfl, _, rfl, b, _, _, _, rfl, rfl, hW, ei, _, _, rfl, rfl, yes (.inr ⟨ga _ z2, of_decide_eq_true z3⟩)⟩
            · refine no (fun h => ?_)
              rcases h with h | h
              · exact gn _ z h
              · exact z3 (decide_eq_true h.2)
          · refine no (fun h => ?_)
            rcases h with h | h
            · exact gn _ z h
            · exact gn _ z2 h.1
      · rintro σ H2 ⟨y6, y7, rfl, rfl⟩
        rw [en]
        exact ⟨_, rfl, k⟩
end
end Fam
/-! sorted of a list of tuples of ints, of any lengths, the first of them empty. -/
namespace TSort
open PySem PySem.W PySem.Calls PyProof.Rows Builtin

/-- v is a tuple of these numbers -/
def IsTI (h : Heap) (v : Value) (ns : List Int) : Prop :=
  ∃ (a : Addr) (dd : Option Addr) (items : Array Value) (n : Nat) (sl : Array (Option Value)), v = .ref a ∧ h.get? a = some { cls := .type "tuple", dict := dd, data := .seq items n, slots := sl } ∧ IntsAre items.toList ns
theorem IsTI.keeps {h h' : Heap} {v : Value} {ns : List Int} (x : IsTI h v ns) (k : ∀ b o, v = .ref b → h.get? b = some o → h'.get? b = some o) : IsTI h' v ns := by
  obtain ⟨a, dd, items, n, sl, e, g, i⟩ := x
  exact ⟨a, dd, items, n, sl, e, k _ _ e g, i⟩
theorem IsTI.type {M : Model} {h : Heap} {v : Value} {ns : List Int} (x : IsTI h v ns) : Looks M h (typeOf v) (.type "tuple") := by
  obtain ⟨a, dd, items, n, sl, rfl, g, i⟩ := x
  exact (Looks.ld g).andThen .now
section
variable {prog : Program} {w : World} {A : Around} {E : Value → Shared → Prop} {s : Shared}
theorem lt_ti {v u : Value} {ns ms : List Int} {Q : Bool → Shared → Prop} (hu : A.units < cLine) (hv : IsTI s.heap v ns) (hw : IsTI s.heap u ms) (h : Q (HT.lexLt ns ms) s) : wpAny (model prog w) A (keyLt' oneType' v u) Q E s := by
  obtain ⟨a, dd, items, n, sl, rfl, ga, ia⟩ := hv
  obtain ⟨b, dd2, items2, n2, sl2, rfl, gb, ib⟩ := hw
  rw [keyLt'_oneType, oneLt'_eq]
  simp only [if_true]
  refine wpAny_bind (wpAny_cRoomFor hu ?_)
  refine wpAny_bind (wpAny_callSpecialIfBound?_slot (T := "tuple") ⟨_, ga, rfl⟩ PySem.F.slot_tuple_lt (call_meets PySem.F.slot_tuple_lt ⟨_, ga, rfl⟩ PySem.F.entry_tuple_lt (PySem.F.args_tuple_lt_2 _ _) (HT.tuple_lt_ints a b items items2 n n2 dd dd2 sl sl2 ns ms ia ib) ⟨ga, gb, ?_⟩))
  exact wpAny_truthy_bool h
theorem ti_cmp {vs : List Value} {k : Value → List Int} (hu : A.units < cLine) (hv : ∀ v ∈ vs, IsTI s.heap v (k v)) : SrtO.Cmp prog w A s oneType' (fun p => p.1 ∈ vs) (SrtO.lt2 fun v u => HT.lexLt (k v) (k u)) := by
  intro p q hp hq
  exact lt_ti (Q := fun r s' => s' = s ∧ r = HT.lexLt (k p.1) (k q.1)) (E := fun _ _ => False) hu (hv p.1 hp) (hv q.1 hq) ⟨rfl, rfl⟩
theorem ti_firsts {M : Model} {k : Value → List Int} : ∀ (vs : List Value), (∀ v ∈ vs, IsTI s.heap v (k v)) → ∃ fs : List (Option Value), fs.length = vs.length ∧ (∀ v r, vs = v :: r → k v = [] → ∃ fr, fs = none :: fr) ∧
    ∀ (Q : List (Option Value) → Shared → Prop), Q fs s → wpAny M A (vs.mapM firstOfTuple') Q E s
  | [], _ => ⟨[], rfl, (fun v r e => by cases e), (fun Q h => by rw [List.mapM_nil]; exact wpAny_pure h)⟩
  | v :: vs, hv => by
    obtain ⟨fs, hl, _, hw⟩ := ti_firsts vs fun u hu => hv u (.tail _ hu)
    have hv0 := hv v (.head _)
    have ty := hv0.type (M := M)
    obtain ⟨a, dd, items, n, sl, rfl, ga, ia⟩ := hv0
    refine ⟨items[0]? :: fs, by rw [List.length_cons, List.length_cons, hl], fun u r e h0 => ?_, fun Q h => ?_⟩
    · cases e
      rw [h0] at ia
      have z : items.toList = [] := by
        cases hi : items.toList with
        | nil => rfl
        | cons x y => rw [hi] at ia; cases ia
      refine ⟨fs, ?_⟩
      have z2 : items = #[] := Array.toList_eq_nil_iff.mp z
      rw [z2]
      rfl
    · rw [List.mapM_cons]
      refine wpAny_bind ?_
      rw [kas_first_eq]
      refine wpAny_bind (ty.here ?_)
      rw [if_neg (by first | decide | simp)]
      refine wpAny_bind (listItems_at ga rfl (wpAny_pure ?_))
      exact wpAny_bind (hw (fun bs s' => wpAny M A (pure (items[0]? :: bs)) Q E s') (wpAny_pure h))
theorem ti_kind {M : Model} {v₁ v₂ : Value} {vs : List Value} {k : Value → List Int} {Q : SortKind → Shared → Prop} (hv : ∀ v ∈ v₁ :: v₂ :: vs, IsTI s.heap v (k v)) (h0 : k v₁ = []) (h : Q oneType' s) : wpAny M A (keyKind' (v₁ :: v₂ :: vs).toArray) Q E s := by
  obtain ⟨fs, hl, hf, hw⟩ := ti_firsts (M := M) (A := A) (E := E) (v₁ :: v₂ :: vs) hv
  obtain ⟨fr, rfl⟩ := hf _ _ rfl h0
  rw [keyKind'_eq, List.mapM_toArray, map_eq_pure_bind]
  refine wpAny_bind (wpAny_bind (hw _ (wpAny_pure ?_)))
  rw [if_neg (by simp), if_neg (by simp)]
  rw [oneTypeOnly'_eq, List.mapM_toArray, map_eq_pure_bind]
  refine wpAny_bind (wpAny_bind (wpAny_bind (kas_mapM (r := .type "tuple") _ (fun v hm Q' hq => ((hv v hm).type (M := M)).here hq) (wpAny_pure ?_))))
  have hall : ((List.map (fun _ => Value.type "tuple") (v₁ :: v₂ :: vs)).toArray.all fun x => x == Value.type "tuple") = true := by
    simp only [List.all_toArray, List.all_map, List.all_eq_true]
    intro _ _
    rfl
  have hx : (List.map (fun _ => Value.type "tuple") (v₁ :: v₂ :: vs)).toArray[0]? = some (Value.type "tuple") := by simp
  rw [hx]
  simp only [hall, if_true]
  exact wpAny_pure (wpAny_pure h)
theorem ti_sortable {a : Addr} {v₁ v₂ : Value} {vs : List Value} {k : Value → List Int} (hu : A.units < cLine) (hv : ∀ v ∈ v₁ :: v₂ :: vs, IsTI s.heap v (k v)) (h0 : k v₁ = []) (ha : ∀ v ∈ v₁ :: v₂ :: vs, v ≠ .ref a) :
    SrtO.SortableO prog w A s a (v₁ :: v₂ :: vs) fun v u => HT.lexLt (k v) (k u) := by
  intro h' keep
  have hv' : ∀ v ∈ v₁ :: v₂ :: vs, IsTI h' v (k v) := fun v hm => (hv v hm).keeps fun b o e g => keep b o (fun z => ha v hm (by rw [e, z])) g
  exact ⟨oneType', fun Q E hq => ti_kind (s := { s with heap := h' }) hv' h0 hq, ti_cmp (s := { s with heap := h' }) hu hv'⟩
end
end TSort
namespace L2
open PySem PySem.Spec PyProof.Rows
/-- sorted(xs), xs tuples of ints (k says which), the first of them empty: a new list, sorted -/
def rSortedTI (K : PySem.W.Frag) : List V → Hp → VK → Prop := fun vs H Q => ∃ (a : Addr) (t0 t1 : Addr) (ts : List Addr) (k : Addr → List Int), vs = [V.ref a] ∧ SqL K H a ((t0 :: t1 :: ts).map V.ref) ∧ (∀ t ∈ t0 :: t1 :: ts, H t = some (.tup ((k t).map V.int))) ∧ k t0 = [] ∧
  ∀ (ts' : List Addr) (p : Addr), ts'.Perm (t0 :: t1 :: ts) → ts'.Pairwise (fun p q => HT.lexLt (k q) (k p) = false) → H p = none → Q (.ref p) (upd H p (.lst (ts'.map V.ref)))
section
variable {X : Cx}
theorem cr_sortedTI (hu : X.A.units + 64 < cLine) : CallR X (.builtin "sorted") (rSortedTI X.K) := by
  intro pins s σ H vs us Q I r h
  obtain ⟨a, t0, t1, ts, k, rfl, hs, hx, h0, q⟩ := h
  obtain ⟨its, rv, hl, hz⟩ := I.list hs
  obtain ⟨u, rfl, ru⟩ := vals1 r
  obtain rfl : u = Value.ref a := ru
  have ei := nts_of rv
  have hzs : its.length ≤ sizeLine := by rw [← rv.length]; exact hz
  have hv : ∀ u ∈ its, TSort.IsTI s.heap u (k (adO u)) := fun u hm => by
    rw [ei] at hm
    obtain ⟨t, ht, rfl⟩ := List.mem_map.mp hm
    obtain ⟨_, its2, r2, o, ho, hc, n, hd⟩ := I.hok _ _ (hx t ht)
    obtain ⟨cls, dd, data, sl⟩ := o
    simp only at hc hd
    subst hc hd
    exact ⟨t, dd, its2.toArray, n, sl, rfl, ho, intsAre_of r2⟩
  have hm0 : ∀ t ∈ t0 :: t1 :: ts, TSort.IsTI s.heap (.ref t) (k t) := fun t ht => hv (.ref t) (by rw [ei]; exact List.mem_map.mpr ⟨t, ht, rfl⟩)
  subst ei
  refine SrtO.sorted_ord (NtL.swo_lexL fun u => k (adO u)) hl.isList hzs (fun h2 h₁ b hb kk => ?_) fun out h1 h2 => ?_
  · refine TSort.ti_sortable (s := { s with heap := h₁ }) (by show X.A.units + 1 + 1 < cLine; omega) (fun v hm => (hv v hm).keeps fun b o e g => (kk b o g).2) h0 (fun v hm z => ?_)
    obtain ⟨c, dd, items, n, sl, e, g, i⟩ := hv v hm
    rw [e] at z
    exact (kk _ _ g).1 (Value.ref.inj z)
  · have eo : out = (out.map adO).map Value.ref := ref_map fun u hm => by
      obtain ⟨t, _, e⟩ := List.mem_map.mp (h2.perm.mem_iff.mp hm)
      exact ⟨t, e.symm⟩
    have hp : (out.map adO).Perm (t0 :: t1 :: ts) := by
      have p1 := h2.perm.map adO
      rw [ad_map] at p1
      exact p1
    have hs2 : (out.map adO).Pairwise (fun p q => HT.lexLt (k q) (k p) = false) := List.pairwise_map.mpr (h1.imp fun {x y} z => z)
    have rvo : Vals ((out.map adO).map V.ref) out := by
      have z := of_nts (out.map adO)
      rw [← eo] at z
      exact z
    have hd : s.heap.objs.size ≤ s.heap.objs.size + 1 := Nat.le_succ _
    obtain ⟨n, hn⟩ := sortedAll_at s.heap ((t0 :: t1 :: ts).map Value.ref) out.toArray
    refine ⟨.ref _, upd H (s.heap.objs.size + 1) (.lst ((out.map adO).map V.ref)), I.laid (t' := s.toks) (fun b o e => sortedAll_old e) hd ⟨?_, out, n, rvo, hn⟩, rfl, q _ _ hp hs2 (I.hok.fresh hd)⟩
    rw [List.length_map, hp.length_eq]
    rw [List.length_map] at hz
    exact hz
end
end L2
/-! All lots in their order. -/
namespace Fam
open PySem L2
open C8 (pss_cut tCut)

abbrev lotI (m : Nat) : List Int := (lotN m 12).map (fun n : Nat => (n : Int))
theorem lotV_eq (m : Nat) : lotV m = (lotI m).map V.int := by
  unfold lotV lotI
  rw [List.map_map]
  rfl
/-- a stands ahead of b, or they are one -/
def lotLe (a b : Nat) : Prop := HT.lexLt (lotI b) (lotI a) = false
/-- all masks of n places in the order of their lots -/
structure OrderOf (n : Nat) (ms : List Nat) : Prop where
  perm : ms.Perm (List.range (2 ^ n))
  srt : ms.Pairwise lotLe
theorem maskN_lotN (m : Nat) : ∀ n, maskN (lotN m n) = m % 2 ^ n
  | 0 => by rw [Nat.pow_zero, Nat.mod_one]; rfl
  | n + 1 => by
    rw [Nat.mod_pow_succ, ← maskN_lotN m n]
    by_cases h : m / 2 ^ n % 2 = 1
    · rw [lotN_yes h, maskN_snoc, h, Nat.mul_one]
    · have h0 : m / 2 ^ n % 2 = 0 := by omega
      rw [lotN_no h, h0, Nat.mul_zero, Nat.add_zero]
theorem lotN_lt (m : Nat) : ∀ n, ∀ i ∈ lotN m n, i < n
  | 0, i, h => by cases h
  | n + 1, i, h => by
    by_cases e : m / 2 ^ n % 2 = 1
    · rw [lotN_yes e] at h
      rcases List.mem_append.mp h with q | q
      · have := lotN_lt m n i q
        omega
      · rw [List.mem_singleton.mp q]
        omega
    · rw [lotN_no e] at h
      have := lotN_lt m n i h
      omega

/-! ### rows of lots, rearranged -/
theorem LotsAt.refs {H : Hp} : ∀ {vs : List V} {ms : List Nat}, LotsAt H vs ms → ∃ ts : List Addr, vs = ts.map V.ref
  | [], [], _ => ⟨[], rfl⟩
  | v :: vs, m :: ms, h => by
    obtain ⟨⟨p, rfl, _⟩, h2⟩ := h
    obtain ⟨ts, rfl⟩ := h2.refs
    exact ⟨p :: ts, rfl⟩
theorem LotsAt.get {H : Hp} : ∀ {vs : List V} {ms : List Nat} {i : Nat} {x : V}, LotsAt H vs ms → vs[i]? = some x → ∃ (hi : i < ms.length) (p : Addr), x = .ref p ∧ H p = some (.tup (lotV ms[i]))
  | [], [], i, x, _, e => by cases e
  | v :: vs, m :: ms, 0, x, h, e => by
    obtain ⟨⟨p, rfl, h1⟩, _⟩ := h
    cases e
    exact ⟨Nat.succ_pos _, p, rfl, h1⟩
  | v :: vs, m :: ms, i + 1, x, h, e => by
    obtain ⟨hi, p, e1, e2⟩ := h.2.get (i := i) e
    exact ⟨Nat.succ_lt_succ hi, p, e1, e2⟩
theorem LotsAt.mem {H : Hp} : ∀ {ts : List Addr} {ms : List Nat}, LotsAt H (ts.map V.ref) ms → (∀ m ∈ ms, ∃ t ∈ ts, H t = some (.tup (lotV m))) ∧ (∀ t ∈ ts, ∃ m ∈ ms, H t = some (.tup (lotV m)))
  | [], [], _ => ⟨(fun m h => by cases h), (fun m h => by cases h)⟩
  | t :: ts, m :: ms, h => by
    obtain ⟨⟨p, e, h1⟩, h2⟩ := h
    cases e
    obtain ⟨a, b⟩ := LotsAt.mem h2
    refine ⟨fun x hx => ?_, fun x hx => ?_⟩
    · rcases List.mem_cons.mp hx with e | q
      · rw [e]
        exact ⟨_, List.mem_cons_self, h1⟩
      · obtain ⟨u, hu, hh⟩ := a x q
        exact ⟨u, List.mem_cons_of_mem _ hu, hh⟩
    · rcases List.mem_cons.mp hx with e | q
      · rw [e]
        exact ⟨m, List.mem_cons_self, h1⟩
      · obtain ⟨u, hu, hh⟩ := b x q
        exact ⟨u, List.mem_cons_of_mem _ hu, hh⟩
theorem LotsAt.perm {H : Hp} {ts ts' : List Addr} (p : ts.Perm ts') : ∀ {ms : List Nat}, LotsAt H (ts.map V.ref) ms → ∃ ms' : List Nat, ms.Perm ms' ∧ LotsAt H (ts'.map V.ref) ms' := by
  induction p with
  | nil => exact fun h => ⟨_, List.Perm.refl _, h⟩
  | cons x p ih =>
    intro ms h
    cases ms with
    | nil => exact h.elim
    | cons m ms =>
      obtain ⟨ms', p2, h2⟩ := ih h.2
      exact ⟨m :: ms', p2.cons m, h.1, h2⟩
  | swap x y l =>
    intro ms h
    match ms, h with
    | [], h => exact h.elim
    | [_], h => exact h.2.elim
    | m :: m' :: ms, h => exact ⟨m' :: m :: ms, List.Perm.swap _ _ _, h.2.1, h.1, h.2.2⟩
  | trans p q ih1 ih2 =>
    intro ms h
    obtain ⟨ms1, p1, h1⟩ := ih1 h
    obtain ⟨ms2, p2, h2⟩ := ih2 h1
    exact ⟨ms2, p1.trans p2, h2⟩
def unI : V → Int
  | .int i => i
  | _ => 0
/-- the numbers of the tuple at t -/
def kOf (H : Hp) (t : Addr) : List Int :=
  match H t with
  | some (.tup xs) => xs.map unI
  | _ => []
theorem kOf_lot {H : Hp} {t : Addr} {m : Nat} (h : H t = some (.tup (lotV m))) : kOf H t = lotI m := by
  unfold kOf
  rw [h]
  show (lotV m).map unI = _
  rw [lotV_eq, List.map_map]
  exact (List.map_congr_left fun _ _ => rfl).trans (List.map_id _)
theorem LotsAt.srt {H : Hp} : ∀ {ts : List Addr} {ms : List Nat}, LotsAt H (ts.map V.ref) ms → ts.Pairwise (fun p q => HT.lexLt (kOf H q) (kOf H p) = false) → ms.Pairwise lotLe
  | [], [], _, _ => List.Pairwise.nil
  | t :: ts, m :: ms, h, hp => by
    obtain ⟨⟨p, e, h1⟩, h2⟩ := h
    cases e
    obtain ⟨q1, q2⟩ := List.pairwise_cons.mp hp
    refine List.pairwise_cons.mpr ⟨fun x hx => ?_, LotsAt.srt h2 q2⟩
    obtain ⟨u, hu, hh⟩ := (LotsAt.mem h2).1 x hx
    have := q1 u hu
    rw [kOf_lot hh, kOf_lot h1] at this
    exact this

def spAllLots : Sp := fun vs H Q _ => ∃ n : Nat, vs = [vInt n] ∧ 1 ≤ n ∧ n ≤ 10 ∧ ∀ (H' : Hp) (p : Addr) (ms : List Nat) (xs : List V), OrderOf n ms → Same H H' → H p = none → H' p = some (.lst xs) → LotsAt H' xs ms → Q (.ref p) H'
def spOrder : Sp := fun vs H Q _ => ∃ n : Nat, vs = [vInt n] ∧ 1 ≤ n ∧ n ≤ 10 ∧ ∀ (H' : Hp) (p : Addr) (ms : List Nat), OrderOf n ms → Same H H' → H p = none → H' p = some (.lst (ms.map vInt)) → Q (.ref p) H'

section
variable {P : Program} {w : World} {K : PySem.W.Frag} {mg : Str → Option Value} {base : Heap}
abbrev nAL : List Str := ["_law_size", "_law_mask_here"]
theorem scAL : FnScope nAL ["_law_size"] (defScope sAllLots) := ⟨rfl, rfl, rfl, by decide +kernel, rfl, by decide +kernel, by decide +kernel⟩
theorem ok_all_lots {f : Addr} {fd : FuncData} (F : Fun K "_law_all_lots" "_law_all_lots" sAllLots f fd) (T : Bare mg) (GL : Cal P w K mg base 1 "_law_lot" ["_law_mask_here"] spLot)
    (GF : Cal P w K mg base 1 "_law_full" ["_law_size"] spFull) : FnOk P w K mg base CX0 2 f fd ["_law_size"] spAllLots := by
  obtain ⟨gl, gld, okl, bl, kl, ml⟩ := GL.ex
  obtain ⟨gf, gfd, okf, bf, kf, mf⟩ := GF.ex
  refine F.ok scAL (fun vs H Q E h => ?_) (fun cdv A outer s H vs Q E hr h => ?_)
  · obtain ⟨n, rfl, _⟩ := h
    rfl
  · obtain ⟨n, rfl, h1, h2, k⟩ := h
    have h10 := pow_le10 h2
    refine ⟨_, pss_one (ps_ret (pe_callB (cr_sortedTI hr.units) (by rfl) T.sorted (by decide +kernel) (pa_cons (pe_lc (own := [("_law_mask_here", 1)]) (g := gName 1) (tt := tYes) rfl scAL.nd
      (pi_range1 rfl T.range (pa_cons (pe_call okf hr rfl mf kf bf .nil pass0 (pa_cons (pv 0) pa_nil)) pa_nil)) (blkOk_by (own := [("_law_mask_here", 1)]) (N := nAL) (sc := defScope sAllLots) (by decide +kernel)) (fun _ _ _ _ _ => pg_name (i := 1) scAL.nd rfl (Or.inl rfl)) (fun _ _ _ _ _ => pts_nil)
      (fun _ _ _ _ _ => pe_call okl hr rfl ml kl bl .nil pass0 (pa_cons (pv 1) pa_nil))) pa_nil))), ?_⟩
    refine ⟨_, rfl, n, rfl, by omega, _, rfl, Int.le_trans (by decide) (Int.natCast_nonneg _), Int.lt_of_le_of_lt (Int.ofNat_le.mpr h10) (by decide), fun D hD => ?_⟩
    refine lc_range (lo := 0) (n := 2 ^ n) (fun i H' => Same H H' ∧ ∃ xs, H' D = some (.lst xs) ∧ LotsAt H' xs (List.range i)) ⟨same_new hD, [], upd_same, trivial⟩ ?_ ?_
    · rintro i H1 hi ⟨sm, xs, hT, hL⟩
      refine ⟨rfl, _, rfl, i, by rw [Int.zero_add]; rfl, fun H2 p s2 hp ht => ?_⟩
      refine ⟨_, s2 _ _ hT, ?_, same_upd (sm.trans s2) hD, _, upd_same, ?_⟩
      · rw [hL.len, List.length_range]
        exact below (m := 100000) (by omega)
      · rw [List.range_succ]
        exact ((hL.same s2).add ht).upd (s2 _ _ hT)
    · rintro H1 ⟨sm, xs, hT, hL⟩
      obtain ⟨ts, rfl⟩ := hL.refs
      have hlen := hL.len
      rw [List.length_map, List.length_range] at hlen
      have h2n : 2 ≤ 2 ^ n := by
        have : 2 ^ 1 ≤ 2 ^ n := Nat.pow_le_pow_right (by decide) h1
        omega
      obtain ⟨t0, t1, tr, rfl⟩ : ∃ t0 t1 tr, ts = t0 :: t1 :: tr := by
        match ts, hlen with
        | [], e => simp at e; omega
        | [_], e => simp at e; omega
        | t0 :: t1 :: tr, _ => exact ⟨t0, t1, tr, rfl⟩
      have e0 : kOf H1 t0 = [] := by
        have er : List.range (2 ^ n) = 0 :: (List.range (2 ^ n - 1)).map Nat.succ := by
          have : 2 ^ n = (2 ^ n - 1) + 1 := by omega
          rw [this, List.range_succ_eq_map]
          rfl
        rw [er] at hL
        obtain ⟨⟨p, e, hp⟩, _⟩ := hL
        cases e
        rw [kOf_lot hp]
        decide +kernel
      refine ⟨D, t0, t1, tr, kOf H1, rfl, SqL.of hT, fun t ht => ?_, e0, fun ts' p hp hs hpn => ?_⟩
      · obtain ⟨m, _, hm⟩ := (LotsAt.mem hL).2 t ht
        rw [kOf_lot hm, ← lotV_eq]
        exact hm
      · obtain ⟨ms', pm, hL'⟩ := LotsAt.perm hp.symm hL
        exact k _ p ms' _ ⟨pm.symm, LotsAt.srt hL' hs⟩ (sm.trans (same_new hpn)) (sm.free hpn) upd_same (hL'.same (same_new hpn))

abbrev nOR : List Str := ["_law_size", "_law_lot_here"]
theorem scOR : FnScope nOR ["_law_size"] (defScope sOrder) := ⟨rfl, rfl, rfl, by decide +kernel, rfl, by decide +kernel, by decide +kernel⟩
theorem ok_order {f : Addr} {fd : FuncData} (F : Fun K "_law_order" "_law_order" sOrder f fd) (T : Bare mg) (GM : Cal P w K mg base 2 "_law_mask" ["_law_lot_here"] (spMask K))
    (GA : Cal P w K mg base 2 "_law_all_lots" ["_law_size"] spAllLots) : FnOk P w K mg base CX0 3 f fd ["_law_size"] spOrder := by
  obtain ⟨gm, gmd, okm, bm, km, mm⟩ := GM.ex
  obtain ⟨ga, gad, oka, ba, ka, ma⟩ := GA.ex
  refine F.ok scOR (fun vs H Q E h => ?_) (fun cdv A outer s H vs Q E hr h => ?_)
  · obtain ⟨n, rfl, _⟩ := h
    rfl
  · obtain ⟨n, rfl, h1, h2, k⟩ := h
    have h10 := pow_le10 h2
    refine ⟨_, pss_one (ps_ret (pe_lc (own := [("_law_lot_here", 1)]) (g := gName 1) (tt := tYes) rfl scOR.nd
      (pi_list (pe_call oka hr rfl ma ka ba .nil pass0 (pa_cons (pv 0) pa_nil))) (blkOk_by (own := [("_law_lot_here", 1)]) (N := nOR) (sc := defScope sOrder) (by decide +kernel)) (fun _ _ _ _ _ => pg_name (i := 1) scOR.nd rfl (Or.inl rfl)) (fun _ _ _ _ _ => pts_nil)
      (fun _ _ _ _ _ => pe_call okm hr rfl mm km bm .nil pass0 (pa_cons (pv 1) pa_nil)))), ?_⟩
    refine ⟨_, rfl, n, rfl, h1, h2, fun H1 p ms xs ho s1 hp hT hL => ⟨p, rfl, ⟨_, SqL.of hT⟩, fun D hD => ?_⟩⟩
    have hD0 : H D = none := s1.free hD
    have hlm : ms.length = 2 ^ n := by rw [ho.perm.length_eq, List.length_range]
    refine lc_list (K := K) (a := p) (xs := xs) (fun i H' => Same H1 H' ∧ H' D = some (.lst ((ms.take i).map vInt))) ⟨same_new hD, upd_same⟩ ?_ ?_ ?_
    · rintro i H2 hi ⟨sm, _⟩
      exact SqL.of (sm _ _ hT)
    · rintro i x H2 hx ⟨sm, hR⟩
      obtain ⟨hi, q, rfl, hq⟩ := hL.get hx
      have hm : ms[i] < 2 ^ n := List.mem_range.mp (ho.perm.mem_iff.mp (List.getElem_mem hi))
      have e1 : maskN (lotN ms[i] 12) = ms[i] := by
        rw [maskN_lotN]
        exact Nat.mod_eq_of_lt (by omega)
      refine ⟨rfl, _, rfl, q, lotN ms[i] 12, rfl, SqT.of (sm _ _ hq), fun j hj => by have := lotN_lt _ _ j hj; omega, ?_⟩
      rw [e1]
      refine ⟨_, hR, ?_, same_upd sm hD, ?_⟩
      · rw [List.length_map, List.length_take]
        exact below (m := 100000) (by omega)
      · rw [upd_same, take_more hi, List.map_append]
        rfl
    · rintro H2 ⟨sm, hR⟩
      rw [hL.len, List.take_length] at hR
      exact k H2 D ms ho (s1.trans sm) hD0 hR
end
end Fam
/-! The first three lots that break a box. -/
namespace Fam
open PySem L2
open C8 (pss_cut tCut)

theorem find_at {α : Type} {p : α → Bool} : ∀ {l : List α} {k : Nat} (hk : k < l.length), (∀ z ∈ l.take k, p z = false) → p l[k] = true → l.find? p = some l[k]
  | x :: l, 0, _, _, hp => List.find?_cons_of_pos (p := p) (a := x) (l := l) hp
  | x :: l, k + 1, hk, h, hp => by
    rw [List.find?_cons_of_neg (by rw [h x (by rw [List.take_succ_cons]; exact List.mem_cons_self)]; decide)]
    exact find_at (Nat.lt_of_succ_lt_succ hk) (fun z hz => h z (by rw [List.take_succ_cons]; exact List.mem_cons_of_mem _ hz)) hp
theorem findSome_at {α β : Type} {f : α → Option β} {r : β} : ∀ {l : List α} {k : Nat} (hk : k < l.length), (∀ z ∈ l.take k, f z = none) → f l[k] = some r → l.findSome? f = some r
  | x :: l, 0, _, _, hp => by
    rw [List.findSome?_cons]
    show (match f x with | some b => some b | none => _) = _
    have : f x = some r := hp
    rw [this]
  | x :: l, k + 1, hk, h, hp => by
    rw [List.findSome?_cons, h x (by rw [List.take_succ_cons]; exact List.mem_cons_self)]
    exact findSome_at (Nat.lt_of_succ_lt_succ hk) (fun z hz => h z (by rw [List.take_succ_cons]; exact List.mem_cons_of_mem _ hz)) hp

/-- z is missing between x and y -/
def gap (ms : List Nat) (x y z : Nat) : Bool := !decide (z ∈ ms) && (decide (x &&& y &&& z = x &&& y) && decide (x ||| y ||| z = x ||| y))
def due2 (ms os : List Nat) (x y : Nat) : Option (Nat × Nat × Nat) := (os.find? (gap ms x y)).map fun z => (x, y, z)
def due1 (ms os ins : List Nat) (x : Nat) : Option (Nat × Nat × Nat) := ins.findSome? (due2 ms os x)
def insideOf (ms os : List Nat) : List Nat := os.filter fun m => decide (m ∈ ms)
/-- the first three, in the order os, that break the box ms -/
def boxDue (ms os : List Nat) : Option (Nat × Nat × Nat) := (insideOf ms os).findSome? (due1 ms os (insideOf ms os))

def spBoxDue (K : PySem.W.Frag) : Sp := fun vs H Q _ => ∃ (a : Addr) (ms : List Nat) (n : Nat), vs = [.ref a, vInt n] ∧ SqL K H a (ms.map vInt) ∧ 1 ≤ n ∧ n ≤ 10 ∧ ∀ (H' : Hp) (os : List Nat), OrderOf n os → Same H H' →
  (boxDue ms os = none → Q .non H') ∧ (∀ x y z p, boxDue ms os = some (x, y, z) → H p = none → H' p = some (.tup [vInt x, vInt y, vInt z]) → Q (.ref p) H')

section
variable {P : Program} {w : World} {K : PySem.W.Frag} {mg : Str → Option Value} {base : Heap}
abbrev nBD : List Str := ["_law_masks", "_law_size", "_law_order_here", "_law_inside", "_law_x", "_law_y", "_law_z", "_law_mask_here"]
theorem scBD : FnScope nBD ["_law_masks", "_law_size"] (defScope sBoxDue) := ⟨rfl, rfl, rfl, by decide +kernel, rfl, by decide +kernel, by decide +kernel⟩
theorem ok_box_due {f : Addr} {fd : FuncData} (F : Fun K "_law_box_due" "_law_box_due" sBoxDue f fd) (T : Bare mg) (GO : Cal P w K mg base 3 "_law_order" ["_law_size"] spOrder) : FnOk P w K mg base CX0 4 f fd ["_law_masks", "_law_size"] (spBoxDue K) := by
  obtain ⟨go, god, oko, bo, ko, mo⟩ := GO.ex
  refine F.ok scBD (fun vs H Q E h => ?_) (fun cdv A outer s H vs Q E hr h => ?_)
  · obtain ⟨a, ms, n, rfl, _⟩ := h
    rfl
  · obtain ⟨a, ms, n, rfl, hS, h1, h2, k⟩ := h
    have h10 := pow_le10 h2
    refine ⟨_, pss_cons (ps_set (i := 2) scBD.nd rfl (Or.inl rfl) (pe_call oko hr rfl mo ko bo .nil pass0 (pa_cons (pv 1) pa_nil)))
      (pss_cons (ps_setLc (i := 3) (own := [("_law_mask_here", 7)]) (g := gName 7) (by rfl) scBD.nd rfl rfl (sw_true rfl rfl rfl (by decide +kernel)) (pi_list (pv 2)) (blkOk_by (own := [("_law_mask_here", 7)]) (N := nBD) (sc := defScope sBoxDue) (by decide +kernel)) (fun _ _ _ _ _ => pg_name (i := 7) scBD.nd rfl (Or.inl rfl))
        (fun _ _ _ _ _ => pts_one (pt_cmpR (op_in_seq : OpR _ _ (rIn K false)) (pv 7) (pv 0) (by rfl))) (fun _ _ _ _ _ => pv 7))
      (pss_cons (ps_for PassesOwn.never rfl (pi_list (pv 3)) (pg_name (i := 4) scBD.nd rfl (Or.inl rfl))
        (pss_one (ps_for PassesOwn.never rfl (pi_list (pv 3)) (pg_name (i := 5) scBD.nd rfl (Or.inl rfl))
          (pss_one (ps_for PassesOwn.never rfl (pi_list (pv 2)) (pg_name (i := 6) scBD.nd rfl (Or.inl rfl))
            (pss_one (ps_if (PW.pt (pw_and (pt_cmpR op_notIn_seq (pv 6) (pv 0) (by rfl)) (pw_and (pt_cmpR op_eq (pe_op op_and (pe_op op_and (pv 4) (pv 5)) (pv 6)) (pe_op op_and (pv 4) (pv 5)) (nomark _))
                (pw_and1 (pt_cmpR op_eq (pe_op op_or (pe_op op_or (pv 4) (pv 5)) (pv 6)) (pe_op op_or (pv 4) (pv 5)) (nomark _))))))
              (pss_one (ps_ret (pe_tup (pa_cons (pv 4) (pa_cons (pv 5) (pa_cons (pv 6) pa_nil)))))) pss_nil)))))))
      (pss_one (ps_ret pe_non)))), ?_⟩
    refine ⟨_, rfl, n, rfl, h1, h2, fun H1 o os ho s1 hpo hO => ?_⟩
    have hlm : os.length ≤ 1024 := by rw [ho.perm.length_eq, List.length_range]; omega
    refine ⟨_, rfl, o, rfl, ⟨_, SqL.of hO⟩, fun q hq => ?_⟩
    refine lc_list (K := K) (a := o) (xs := os.map vInt) (fun i H' => Same H1 H' ∧ H' q = some (.lst ((insideOf ms (os.take i)).map vInt))) ⟨same_new hq, upd_same⟩ ?_ ?_ ?_
    · rintro i H2 hi ⟨sm, _⟩
      exact SqL.of (sm _ _ hO)
    · rintro i x H2 hx ⟨sm, hR⟩
      obtain ⟨hi, rfl⟩ := item hx
      refine ⟨rfl, _, rfl, _, rfl, a, _, rfl, .inl ((s1.trans sm).seq hS), rfl, flat_all ms, _, rfl, ?_⟩
      rw [inV_nat]
      have e1 : insideOf ms (os.take (i + 1)) = insideOf ms (os.take i) ++ [os[i]].filter fun m => decide (m ∈ ms) := by
        unfold insideOf
        rw [take_more hi, List.filter_append]
      refine ite2 (fun z => ?_) (fun z => ?_)
      · refine ⟨_, rfl, _, hR, ?_, same_upd sm hq, ?_⟩
        · rw [List.length_map]
          have h3 : (insideOf ms (os.take i)).length ≤ (os.take i).length := List.length_filter_le _ _
          rw [List.length_take] at h3
          exact below (m := 100000) (by omega)
        · rw [upd_same, e1, List.filter_cons_of_pos (by exact z), List.map_append]
          rfl
      · refine ⟨sm, ?_⟩
        rw [e1, List.filter_cons_of_neg (by exact z), List.filter_nil, List.append_nil]
        exact hR
    · rintro H2 ⟨sm, hR⟩
      rw [List.length_map, List.take_length] at hR
      have s2 := s1.trans sm
      have hO2 := sm _ _ hO
      -- the three walks
      refine ⟨_, rfl, q, rfl, ⟨_, SqL.of hR⟩, for_list (K := K) (xs := (insideOf ms os).map vInt) (fun i σ H' => ∃ y4 y5 y6 : Option V, σ = [some (.ref a), some (vInt n), some (.ref o), some (.ref q), y4, y5, y6, none] ∧ H' = H2 ∧ ∀ x ∈ (insideOf ms os).take i, due1 ms os (insideOf ms os) x = none)
        ⟨none, none, none, rfl, rfl, fun x hx => by cases hx⟩ ?_ ?_ ?_⟩
      · rintro i σ H3 hi ⟨y4, y5, y6, rfl, rfl, _⟩
        exact SqL.of hR
      · rintro i x σ H3 hx ⟨y4, y5, y6, rfl, rfl, nx⟩
        obtain ⟨hi, rfl⟩ := item hx
        generalize ex : (insideOf ms os)[i] = x
        refine ⟨_, rfl, q, rfl, ⟨_, SqL.of hR⟩, for_list (K := K) (xs := (insideOf ms os).map vInt) (fun j σ H' => ∃ y5 y6 : Option V, σ = [some (.ref a), some (vInt n), some (.ref o), some (.ref q), some (vInt x), y5, y6, none] ∧ H' = H3 ∧ ∀ y ∈ (insideOf ms os).take j, due2 ms os x y = none)
          ⟨y5, y6, rfl, rfl, fun x hx => by cases hx⟩ ?_ ?_ ?_⟩
        · rintro j σ H4 hj ⟨y5, y6, rfl, rfl, _⟩
          exact SqL.of hR
        · rintro j y σ H4 hy ⟨y5, y6, rfl, rfl, ny⟩
          obtain ⟨hj, rfl⟩ := item hy
          generalize ey : (insideOf ms os)[j] = y
          refine ⟨_, rfl, o, rfl, ⟨_, SqL.of hO2⟩, for_list (K := K) (xs := os.map vInt) (fun k σ H' => ∃ y6 : Option V, σ = [some (.ref a), some (vInt n), some (.ref o), some (.ref q), some (vInt x), some (vInt y), y6, none] ∧ H' = H4 ∧ ∀ z ∈ os.take k, gap ms x y z = false)
            ⟨y6, rfl, rfl, fun x hx => by cases hx⟩ ?_ ?_ ?_⟩
          · rintro m σ H5 hm ⟨y6, rfl, rfl, _⟩
            exact SqL.of hO2
          · rintro m z σ H5 hz ⟨y6, rfl, rfl, nz⟩
            obtain ⟨hm, rfl⟩ := item hz
            generalize ez : os[m] = z
            have eA : (decide (V.int (Builtin.bitAnd (Builtin.bitAnd (x : Int) (y : Int)) (z : Int)) = V.int (Builtin.bitAnd (x : Int) (y : Int)))) = decide (x &&& y &&& z = x &&& y) := by
              rw [bitAnd_nat, bitAnd_nat, decide_eq_decide]
              exact ⟨fun q => Int.ofNat.inj (V.int.inj q), fun q => by rw [q]⟩
            have eO : (decide (V.int (Builtin.bitOr (Builtin.bitOr (x : Int) (y : Int)) (z : Int)) = V.int (Builtin.bitOr (x : Int) (y : Int)))) = decide (x ||| y ||| z = x ||| y) := by
              rw [bitOr_nat, bitOr_nat, decide_eq_decide]
              exact ⟨fun q => Int.ofNat.inj (V.int.inj q), fun q => by rw [q]⟩
            have no : gap ms x y z = false → ∃ y6 : Option V, [some (V.ref a), some (vInt n), some (.ref o), some (.ref q), some (vInt x), some (vInt y), some (vInt z), none] = [some (.ref a), some (vInt n), some (.ref o), some (.ref q), some (vInt x), some (vInt y), y6, none] ∧ H5 = H5 ∧ ∀ z ∈ os.take (m + 1), gap ms x y z = false := fun hg => by
              refine ⟨_, rfl, rfl, fun u hu => ?_⟩
              rw [take_more hm] at hu
              rcases List.mem_append.mp hu with hu | hu
              · exact nz u hu
              · rw [List.mem_singleton.mp hu, ez]
                exact hg
            refine ⟨_, rfl, _, rfl, a, _, rfl, .inl (s2.seq hS), rfl, flat_all ms, _, rfl, ?_⟩
            rw [inV_nat]
            refine ite2 (fun z1 => ?_) (fun z1 => ?_)
            · refine ⟨_, rfl, _, rfl, _, _, rfl, rfl, _, rfl, _, _, rfl, rfl, _, rfl, _, rfl, _, _, rfl, rfl, rfl, _, rfl, ?_⟩
              refine ite2 (fun z2 => ?_) (fun z2 => ?_)
              · refine ⟨_, rfl, _, rfl, _, _, rfl, rfl, _, rfl, _, _, rfl, rfl, _, rfl, _, rfl, _, _, rfl, rfl, rfl, _, rfl, ?_⟩
                refine ite2 (fun z3 => ?_) (fun z3 => ?_)
                · have g1 : gap ms x y z = true := by
                    unfold gap
                    have a1 : (!decide (z ∈ ms)) = true := z1
                    have a2 : decide (x &&& y &&& z = x &&& y) = true := by rw [← eA]; exact z2
                    have a3 : decide (x ||| y ||| z = x ||| y) = true := by rw [← eO]; exact z3
                    rw [a1, a2, a3]
                    rfl
                  have f1 : os.find? (gap ms x y) = some z := by
                    have := find_at hm nz (by rw [ez]; exact g1)
                    rw [ez] at this
                    exact this
                  have f2 : due2 ms os x y = some (x, y, z) := by
                    unfold due2
                    rw [f1]
                    rfl
                  have f3 : due1 ms os (insideOf ms os) x = some (x, y, z) := findSome_at hj ny (by rw [ey]; exact f2)
                  have f4 : boxDue ms os = some (x, y, z) := findSome_at hi nx (by rw [ex]; exact f3)
                  refine ⟨_, rfl, _, rfl, _, rfl, small (m := 3) (Nat.le_refl _), fun t ht => ?_⟩
                  exact (k _ os ho (s2.trans (same_new ht))).2 x y z t f4 (s2.free ht) upd_same
                · refine no ?_
                  unfold gap
                  have a3 : decide (x ||| y ||| z = x ||| y) = false := by
                    rw [← eO]
                    exact Bool.eq_false_iff.mpr z3
                  rw [a3, Bool.and_false, Bool.and_false]
              · refine no ?_
                unfold gap
                have a2 : decide (x &&& y &&& z = x &&& y) = false := by
                  rw [← eA]
                  exact Bool.eq_false_iff.mpr z2
                rw [a2, Bool.false_and, Bool.and_false]
            · refine no ?_
              unfold gap
              have a1 : (!decide (z ∈ ms)) = false := Bool.eq_false_iff.mpr z1
              rw [a1, Bool.false_and]
          · rintro σ H5 ⟨y6, rfl, rfl, nz⟩
            rw [List.length_map, List.take_length] at nz
            refine ⟨_, _, rfl, rfl, fun u hu => ?_⟩
            rw [take_more hj] at hu
            rcases List.mem_append.mp hu with hu | hu
            · exact ny u hu
            · rw [List.mem_singleton.mp hu, ey]
              unfold due2
              rw [List.find?_eq_none.mpr (fun u hu => by rw [nz u hu]; decide)]
              rfl
        · rintro σ H4 ⟨y5, y6, rfl, rfl, ny⟩
          rw [List.length_map, List.take_length] at ny
          refine ⟨_, _, _, rfl, rfl, fun u hu => ?_⟩
          rw [take_more hi] at hu
          rcases List.mem_append.mp hu with hu | hu
          · exact nx u hu
          · rw [List.mem_singleton.mp hu, ex]
            exact List.findSome?_eq_none_iff.mpr ny
      · rintro σ H3 ⟨y4, y5, y6, rfl, rfl, nx⟩
        rw [List.length_map, List.take_length] at nx
        exact (k H3 os ho s2).1 (List.findSome?_eq_none_iff.mpr nx)
end
end Fam
/-! Boxes of lots: what is between the least and the greatest lot, and the best by weights. -/
namespace Fam

theorem bit_iff (m n : Nat) : m / 2 ^ n % 2 = 1 ↔ m.testBit n = true := by
  rw [Nat.testBit_eq_decide_div_mod_eq, decide_eq_true_eq]
theorem and_pow (m n : Nat) : (0 < m &&& 2 ^ n) ↔ m.testBit n = true := by
  constructor
  · intro h
    cases e : m.testBit n with
    | true => rfl
    | false =>
      exfalso
      have z : m &&& 2 ^ n = 0 := by
        apply Nat.eq_of_testBit_eq
        intro i
        rw [Nat.testBit_and, Nat.testBit_two_pow, Nat.zero_testBit]
        by_cases q : n = i
        · subst q
          rw [e, Bool.false_and]
        · rw [decide_eq_false q, Bool.and_false]
      omega
  · intro h
    apply Nat.pos_of_ne_zero
    intro z
    have q : (m &&& 2 ^ n).testBit n = true := by rw [Nat.testBit_and, h, Nat.testBit_two_pow_self] <;> rfl
    rw [z, Nat.zero_testBit] at q
    cases q
/-- a lies within b -/
def In (a b : Nat) : Prop := ∀ i, a.testBit i = true → b.testBit i = true
theorem In.refl (a : Nat) : In a a := fun _ h => h
theorem In.trans {a b c : Nat} (h : In a b) (k : In b c) : In a c := fun i q => k i (h i q)
theorem and_in {a z : Nat} : a &&& z = a ↔ In a z := by
  constructor
  · intro h i q
    have e : (a &&& z).testBit i = true := by rw [h]; exact q
    rw [Nat.testBit_and, q] at e
    simpa using e
  · intro h
    apply Nat.eq_of_testBit_eq
    intro i
    rw [Nat.testBit_and]
    cases e : a.testBit i with
    | false => rfl
    | true => rw [h i e] <;> rfl
theorem or_in {a z : Nat} : a ||| z = a ↔ In z a := by
  constructor
  · intro h i q
    have e : (a ||| z).testBit i = true := by rw [Nat.testBit_or, q, Bool.or_true]
    rw [h] at e
    exact e
  · intro h
    apply Nat.eq_of_testBit_eq
    intro i
    rw [Nat.testBit_or]
    cases e : z.testBit i with
    | false => rw [Bool.or_false]
    | true => rw [h i e] <;> rfl
theorem gap_iff {ms : List Nat} {x y z : Nat} : gap ms x y z = true ↔ z ∉ ms ∧ In (x &&& y) z ∧ In z (x ||| y) := by
  unfold gap
  rw [Bool.and_eq_true, Bool.and_eq_true, Bool.not_eq_true', decide_eq_false_iff_not, decide_eq_true_eq, decide_eq_true_eq, and_in, or_in]
/-- with x and y all between them -/
def Closed (ms : List Nat) : Prop := ∀ x ∈ ms, ∀ y ∈ ms, ∀ z, In (x &&& y) z → In z (x ||| y) → z ∈ ms
theorem in_lt {z m n : Nat} (h : In z m) (hm : m < 2 ^ n) : z < 2 ^ n := by
  have e : z &&& m = z := and_in.mpr h
  rw [← e]
  exact Nat.lt_of_le_of_lt Nat.and_le_right hm
theorem closed_iff {n : Nat} {ms os : List Nat} (hm : ∀ m ∈ ms, m < 2 ^ n) (ho : OrderOf n os) : boxDue ms os = none ↔ Closed ms := by
  have mo : ∀ z, z ∈ os ↔ z < 2 ^ n := fun z => by rw [ho.perm.mem_iff, List.mem_range]
  have mi : ∀ z, z ∈ insideOf ms os ↔ z ∈ ms := fun z => by
    unfold insideOf
    rw [List.mem_filter, decide_eq_true_eq, mo]
    exact ⟨fun h => h.2, fun h => ⟨hm z h, h⟩⟩
  unfold boxDue
  rw [List.findSome?_eq_none_iff]
  constructor
  · intro h x hx y hy z h1 h2
    have q1 := h x ((mi x).mpr hx)
    unfold due1 at q1
    have q2 := List.findSome?_eq_none_iff.mp q1 y ((mi y).mpr hy)
    unfold due2 at q2
    have q3 := Option.map_eq_none_iff.mp q2
    have q4 := List.find?_eq_none.mp q3 z ((mo z).mpr (in_lt h2 (Nat.or_lt_two_pow (hm x hx) (hm y hy))))
    by_cases hz : z ∈ ms
    · exact hz
    · exact absurd (gap_iff.mpr ⟨hz, h1, h2⟩) q4
  · intro h x hx
    unfold due1
    rw [List.findSome?_eq_none_iff]
    intro y hy
    unfold due2
    rw [Option.map_eq_none_iff, List.find?_eq_none]
    intro z hz q
    obtain ⟨a, b, c⟩ := gap_iff.mp q
    exact a (h x ((mi x).mp hx) y ((mi y).mp hy) z b c)
theorem in_and_l (a b : Nat) : In (a &&& b) a := fun i h => by rw [Nat.testBit_and, Bool.and_eq_true] at h; exact h.1
theorem in_and_r (a b : Nat) : In (a &&& b) b := fun i h => by rw [Nat.testBit_and, Bool.and_eq_true] at h; exact h.2
theorem in_or_l (a b : Nat) : In a (a ||| b) := fun i h => by rw [Nat.testBit_or, h] <;> rfl
theorem in_or_r (a b : Nat) : In b (a ||| b) := fun i h => by rw [Nat.testBit_or, h, Bool.or_true]
theorem foldl_low {ms : List Nat} (c : Closed ms) : ∀ (l : List Nat) (a : Nat), (∀ m ∈ l, m ∈ ms) → a ∈ ms → l.foldl (· &&& ·) a ∈ ms
  | [], a, _, h => h
  | x :: l, a, hl, h => foldl_low c l (a &&& x) (fun m hm => hl m (List.mem_cons_of_mem _ hm)) (c a h x (hl x List.mem_cons_self) _ (In.refl _) ((in_and_l a x).trans (in_or_l a x)))
theorem foldl_high {ms : List Nat} (c : Closed ms) : ∀ (l : List Nat) (a : Nat), (∀ m ∈ l, m ∈ ms) → a ∈ ms → l.foldl (· ||| ·) a ∈ ms
  | [], a, _, h => h
  | x :: l, a, hl, h => foldl_high c l (a ||| x) (fun m hm => hl m (List.mem_cons_of_mem _ hm)) (c a h x (hl x List.mem_cons_self) _ ((in_and_l a x).trans (in_or_l a x)) (In.refl _))
theorem foldl_low_in : ∀ (l : List Nat) (a : Nat), In (l.foldl (· &&& ·) a) a ∧ ∀ m ∈ l, In (l.foldl (· &&& ·) a) m
  | [], a => ⟨In.refl a, fun m h => by cases h⟩
  | x :: l, a => by
    obtain ⟨h1, h2⟩ := foldl_low_in l (a &&& x)
    refine ⟨h1.trans (in_and_l a x), fun m hm => ?_⟩
    rcases List.mem_cons.mp hm with e | q
    · rw [e]
      exact h1.trans (in_and_r a x)
    · exact h2 m q
theorem foldl_high_in : ∀ (l : List Nat) (a : Nat), In a (l.foldl (· ||| ·) a) ∧ ∀ m ∈ l, In m (l.foldl (· ||| ·) a)
  | [], a => ⟨In.refl a, fun m h => by cases h⟩
  | x :: l, a => by
    obtain ⟨h1, h2⟩ := foldl_high_in l (a ||| x)
    refine ⟨(in_or_l a x).trans h1, fun m hm => ?_⟩
    rcases List.mem_cons.mp hm with e | q
    · rw [e]
      exact (in_or_r a x).trans h1
    · exact h2 m q
theorem low_in {ms : List Nat} {m : Nat} (h : m ∈ ms) : In (lowOf ms) m := (foldl_low_in ms _).2 m h
theorem high_in {ms : List Nat} {m : Nat} (h : m ∈ ms) : In m (highOf ms) := (foldl_high_in ms _).2 m h
/-- a closed family that is not empty: all between its least and its greatest lot -/
theorem closed_box {ms : List Nat} (c : Closed ms) (ne : ms ≠ []) {z : Nat} (h1 : In (lowOf ms) z) (h2 : In z (highOf ms)) : z ∈ ms := by
  obtain ⟨m0, mr, rfl⟩ : ∃ m0 mr, ms = m0 :: mr := by
    cases ms with
    | nil => exact absurd rfl ne
    | cons m0 mr => exact ⟨m0, mr, rfl⟩
  have hl : lowOf (m0 :: mr) ∈ m0 :: mr := foldl_low c _ _ (fun m hm => hm) List.mem_cons_self
  have hh : highOf (m0 :: mr) ∈ m0 :: mr := foldl_high c _ _ (fun m hm => hm) List.mem_cons_self
  exact c _ hl _ hh z ((in_and_l _ _).trans h1) (h2.trans (in_or_r _ _))

/-! ### weights -/
/-- a mask with given bits -/
theorem mask_of (p : Nat → Bool) : ∀ n, ∃ z : Nat, ∀ i, z.testBit i = (decide (i < n) && p i)
  | 0 => ⟨0, fun i => by rw [Nat.zero_testBit, decide_eq_false (Nat.not_lt_zero i), Bool.false_and]⟩
  | n + 1 => by
    obtain ⟨z, hz⟩ := mask_of p n
    cases e : p n with
    | false =>
      refine ⟨z, fun i => ?_⟩
      rw [hz i]
      by_cases q : i = n
      · subst q
        rw [e, Bool.and_false, Bool.and_false]
      · have : decide (i < n) = decide (i < n + 1) := by rw [decide_eq_decide]; omega
        rw [this]
    | true =>
      refine ⟨z ||| 2 ^ n, fun i => ?_⟩
      rw [Nat.testBit_or, hz i, Nat.testBit_two_pow]
      by_cases q : n = i
      · subst q
        rw [e, decide_eq_true rfl, Bool.or_true, decide_eq_true (Nat.lt_succ_self n), Bool.and_true]
      · rw [decide_eq_false q, Bool.or_false]
        have : decide (i < n) = decide (i < n + 1) := by rw [decide_eq_decide]; omega
        rw [this]
theorem wsN_bit (m : Nat) (ws : List Int) (n : Nat) : wsN m ws (n + 1) = wsN m ws n + (if m.testBit n = true then ws.getD n 0 else 0) := by
  by_cases h : m / 2 ^ n % 2 = 1
  · rw [wsN_yes h, if_pos ((bit_iff m n).mp h)]
  · rw [wsN_no h, if_neg (fun q => h ((bit_iff m n).mpr q)), Int.add_zero]
theorem placeN_bit (lo hi : Nat) (ws : List Int) (n : Nat) : placeN lo hi ws (n + 1) = placeN lo hi ws n + (if lo.testBit n = true ∨ (hi.testBit n = true ∧ 0 < ws.getD n 0) then ws.getD n 0 else 0) := by
  by_cases h : 0 < lo &&& 2 ^ n ∨ (0 < hi &&& 2 ^ n ∧ 0 < ws.getD n 0)
  · rw [placeN_yes h, if_pos (by rwa [and_pow, and_pow] at h)]
  · rw [placeN_no h, if_neg (by rwa [and_pow, and_pow] at h), Int.add_zero]
/-- no lot between the two weighs more than the sum place by place -/
theorem ws_le {lo hi m : Nat} {ws : List Int} (h1 : In lo m) (h2 : In m hi) : ∀ n, wsN m ws n ≤ placeN lo hi ws n
  | 0 => Int.le_refl _
  | n + 1 => by
    rw [wsN_bit, placeN_bit]
    have ih := ws_le (ws := ws) h1 h2 n
    by_cases a : m.testBit n = true
    · rw [if_pos a]
      have b := h2 n a
      by_cases c : lo.testBit n = true ∨ (hi.testBit n = true ∧ 0 < ws.getD n 0)
      · rw [if_pos c]
        omega
      · rw [if_neg c]
        have : ¬ 0 < ws.getD n 0 := fun q => c (.inr ⟨b, q⟩)
        omega
    · rw [if_neg a]
      have b : ¬ lo.testBit n = true := fun q => a (h1 n q)
      by_cases c : lo.testBit n = true ∨ (hi.testBit n = true ∧ 0 < ws.getD n 0)
      · rw [if_pos c]
        rcases c with c | c
        · exact absurd c b
        · omega
      · rw [if_neg c]
        omega
/-- the lot that has what all have and what weighs above 0 -/
theorem ws_best {lo hi : Nat} (ws : List Int) (hlh : In lo hi) (N : Nat) (hN : hi < 2 ^ N) : ∃ z, In lo z ∧ In z hi ∧ ∀ n, n ≤ N → wsN z ws n = placeN lo hi ws n := by
  obtain ⟨p, hp⟩ := mask_of (fun i => decide (0 < ws.getD i 0)) N
  refine ⟨lo ||| (hi &&& p), in_or_l _ _, fun i h => ?_, fun n => ?_⟩
  · rw [Nat.testBit_or, Nat.testBit_and, Bool.or_eq_true, Bool.and_eq_true] at h
    rcases h with h | h
    · exact hlh i h
    · exact h.1
  · induction n with
    | zero => intro _; rfl
    | succ n ih =>
      intro hn
      rw [wsN_bit, placeN_bit, ih (by omega)]
      have e : ((lo ||| (hi &&& p)).testBit n = true) ↔ (lo.testBit n = true ∨ (hi.testBit n = true ∧ 0 < ws.getD n 0)) := by
        rw [Nat.testBit_or, Nat.testBit_and, hp n, decide_eq_true (by omega : n < N), Bool.true_and, Bool.or_eq_true, Bool.and_eq_true, decide_eq_true_eq]
      by_cases c : (lo ||| (hi &&& p)).testBit n = true
      · rw [if_pos c, if_pos (e.mp c)]
      · rw [if_neg c, if_neg (fun q => c (e.mpr q))]

theorem better_max (b : Option Int) (t : Int) : ∃ v, better b t = some v ∧ t ≤ v ∧ (∀ x, b = some x → x ≤ v) ∧ (v = t ∨ b = some v) := by
  cases b with
  | none => exact ⟨t, rfl, Int.le_refl _, (fun x h => by cases h), .inl rfl⟩
  | some x =>
    by_cases h : t > x
    · exact ⟨t, if_pos h, Int.le_refl _, (fun y e => by cases e; omega), .inl rfl⟩
    · exact ⟨x, if_neg h, by omega, (fun y e => by cases e; omega), .inr rfl⟩
theorem snoc_ind {α : Type} {p : List α → Prop} (h0 : p []) (h : ∀ l a, p l → p (l ++ [a])) : ∀ l, p l := by
  have q : ∀ n (l : List α), l.length = n → p l := by
    intro n
    induction n with
    | zero => exact fun l e => by rw [List.length_eq_zero_iff.mp e]; exact h0
    | succ n ih =>
      intro l e
      rcases List.eq_nil_or_concat l with r | ⟨k, b, r⟩
      · rw [r] at e
        cases e
      · rw [r, List.concat_eq_append] at e ⊢
        rw [List.length_append] at e
        exact h k b (ih k (by simpa using e))
  exact fun l => q _ l rfl
/-- the best is the greatest weight, and some lot has it -/
theorem best_spec (ws : List Int) : ∀ ms : List Nat, ms ≠ [] → ∃ v, bestOf ws ms = some v ∧ (∀ m ∈ ms, wsum m ws ≤ v) ∧ ∃ m ∈ ms, wsum m ws = v := by
  refine snoc_ind (fun h => absurd rfl h) fun l m ih => ?_
  · intro _
    rw [bestOf_snoc]
    by_cases e : l = []
    · subst e
      exact ⟨_, rfl, fun x hx => by rw [List.mem_singleton.mp hx]; exact Int.le_refl _, m, List.mem_singleton.mpr rfl, rfl⟩
    · obtain ⟨v, h1, h2, x, hx, h3⟩ := ih e
      rw [h1]
      obtain ⟨u, g1, g2, g3, g4⟩ := better_max (some v) (wsum m ws)
      refine ⟨u, g1, fun y hy => ?_, ?_⟩
      · rcases List.mem_append.mp hy with q | q
        · exact Int.le_trans (h2 y q) (g3 v rfl)
        · rw [List.mem_singleton.mp q]
          exact g2
      · rcases g4 with g | g
        · exact ⟨m, List.mem_append.mpr (.inr (List.mem_singleton.mpr rfl)), g.symm⟩
        · cases g
          exact ⟨x, List.mem_append.mpr (.inl hx), h3⟩
/-- a box: the best is found place by place -/
theorem box_best {ms : List Nat} {ws : List Int} (c : Closed ms) (ne : ms ≠ []) (hm : ∀ m ∈ ms, m < 2 ^ ws.length) : bestOf ws ms = some (placeSum ms ws) := by
  obtain ⟨v, h1, h2, m, hm1, h3⟩ := best_spec ws ms ne
  have hlh : In (lowOf ms) (highOf ms) := (low_in hm1).trans (high_in hm1)
  have hh : highOf ms ∈ ms := closed_box c ne hlh (In.refl _)
  obtain ⟨z, z1, z2, z3⟩ := ws_best ws hlh ws.length (hm _ hh)
  have a := h2 z (closed_box c ne z1 z2)
  have b : wsum z ws = placeSum ms ws := z3 _ (Nat.le_refl _)
  have d : wsum m ws ≤ placeSum ms ws := ws_le (low_in hm1) (high_in hm1) _
  rw [h1]
  congr 1
  omega
/-- weights that tell a missing lot: above 0 within it, below 0 outside it -/
theorem tell_lt {z m : Nat} {ws : List Int} (hp : ∀ i, i < ws.length → z.testBit i = true → 0 < ws.getD i 0) (hn : ∀ i, i < ws.length → z.testBit i = false → ws.getD i 0 < 0) :
    ∀ n, n ≤ ws.length → wsN m ws n ≤ wsN z ws n ∧ ((∃ i, i < n ∧ m.testBit i ≠ z.testBit i) → wsN m ws n < wsN z ws n)
  | 0, _ => ⟨Int.le_refl _, fun ⟨i, h, _⟩ => absurd h (Nat.not_lt_zero i)⟩
  | n + 1, h => by
    obtain ⟨a, b⟩ := tell_lt (m := m) hp hn n (by omega)
    rw [wsN_bit, wsN_bit]
    cases ez : z.testBit n with
    | true =>
      have w := hp n (by omega) ez
      rw [if_pos rfl]
      cases em : m.testBit n with
      | true =>
        rw [if_pos rfl]
        refine ⟨by omega, fun ⟨i, hi, hd⟩ => ?_⟩
        by_cases q : i = n
        · subst q
          rw [ez, em] at hd
          exact absurd rfl hd
        · have := b ⟨i, by omega, hd⟩
          omega
      | false =>
        rw [if_neg (by decide)]
        exact ⟨by omega, fun _ => by omega⟩
    | false =>
      have w := hn n (by omega) ez
      rw [if_neg (by decide : ¬ (false = true))]
      cases em : m.testBit n with
      | true =>
        rw [if_pos rfl]
        exact ⟨by omega, fun _ => by omega⟩
      | false =>
        rw [if_neg (by decide)]
        refine ⟨by omega, fun ⟨i, hi, hd⟩ => ?_⟩
        by_cases q : i = n
        · subst q
          rw [ez, em] at hd
          exact absurd rfl hd
        · have := b ⟨i, by omega, hd⟩
          omega
theorem bit_apart {m z n : Nat} (hm : m < 2 ^ n) (hz : z < 2 ^ n) (h : m ≠ z) : ∃ i, i < n ∧ m.testBit i ≠ z.testBit i := by
  refine Classical.byContradiction fun q => h (Nat.eq_of_testBit_eq fun i => ?_)
  by_cases hi : i < n
  · exact Classical.byContradiction fun e => q ⟨i, hi, e⟩
  · have le : 2 ^ n ≤ 2 ^ i := Nat.pow_le_pow_right (by decide) (by omega)
    rw [Nat.testBit_lt_two_pow (by omega), Nat.testBit_lt_two_pow (by omega)]
/-- not a box: such weights of a missing lot between the least and the greatest one make the sum place by place more than the best -/
theorem gap_best {ms : List Nat} {ws : List Int} {z : Nat} (ne : ms ≠ []) (hm : ∀ m ∈ ms, m < 2 ^ ws.length) (hz : z ∉ ms) (hz2 : z < 2 ^ ws.length) (h1 : In (lowOf ms) z) (h2 : In z (highOf ms))
    (hp : ∀ i, i < ws.length → z.testBit i = true → 0 < ws.getD i 0) (hn : ∀ i, i < ws.length → z.testBit i = false → ws.getD i 0 < 0) : bestOf ws ms ≠ some (placeSum ms ws) := by
  obtain ⟨v, e1, _, m, hm1, e3⟩ := best_spec ws ms ne
  have lt := (tell_lt (m := m) hp hn ws.length (Nat.le_refl _)).2 (bit_apart (hm m hm1) hz2 (fun q => hz (by rw [← q]; exact hm1)))
  have le : wsum z ws ≤ placeSum ms ws := ws_le h1 h2 _
  rw [e1]
  intro q
  have q2 := Option.some.inj q
  have l2 : wsum m ws < wsum z ws := lt
  omega
end Fam
/-! From the top's facts to what each def of the law promises. -/
namespace Fam
open PySem L2

/-- a def of the top stands there as the text says -/
def DefAt (K : PySem.W.Frag) (x : Str) (st : Stmt) (f : Addr) : Prop :=
  ∃ (od an : Option Addr) (sl : Array (Option Value)) (oc kV dc pm cd ct : Value), PySem.W.nsIn K mainGlobals x = some (some (.ref f)) ∧
    K.lookup f = some ⟨oc, od, .func (PySem.W.fnOf x x (defArgs st) (defBody st) (defScope st) .none kV dc pm an cd ct), sl⟩ ∧ PySem.W.codeIn K cd x = true ∧ PySem.W.keepIn K (.ref f) = true
theorem def_at {K : PySem.W.Frag} {x : Str} {st : Stmt} {f : Addr} {od an : Option Addr} {sl : Array (Option Value)} {oc kV dc pm cd ct : Value} (a : PySem.W.nsIn K mainGlobals x = some (some (.ref f)))
    (l : K.lookup f = some ⟨oc, od, .func (PySem.W.fnOf x x (defArgs st) (defBody st) (defScope st) .none kV dc pm an cd ct), sl⟩) (c : PySem.W.codeIn K cd x = true) (k : PySem.W.keepIn K (.ref f) = true) : ∃ f, DefAt K x st f := ⟨f, od, an, sl, oc, kV, dc, pm, cd, ct, a, l, c, k⟩
theorem cal {P : Program} {w : World} {K : PySem.W.Frag} {mg : Str → Option Value} {base : Heap} {h : Heap} {k : Nat} {x : Str} {st : Stmt} {ps : List Str} {sp : Sp} (X : K.In h) (G : h.Ns mainGlobals mg) (D : ∃ f, DefAt K x st f)
    (hb : ∀ (kV doc pm : Value) (an : Option Addr) (cdv ct : Value) (us : List Value), us.length = ps.length → bindArgs (PySem.W.fnOf x x (defArgs st) (defBody st) (defScope st) .none kV doc pm an cdv ct) ⟨us, []⟩ = pure (ps.zip us))
    (ok : ∀ f fd, Fun K x x st f fd → FnOk P w K mg base CX0 k f fd ps sp) : Cal P w K mg base k x ps sp := by
  obtain ⟨f, od, an, sl, oc, kV, dc, pm, cd, ct, a, l, c, kk⟩ := D
  have F := fun_mk (st := st) l c kk
  exact ⟨f, _, ok f _ F, F.binds hb, kk, PySem.W.mg_of X G a⟩
/-- where the law's own defs stand -/
structure Tops (K : PySem.W.Frag) : Prop where
  draws : ∃ f, DefAt K "_law_draws" sDraws f
  take : ∃ f, DefAt K "_law_take" sTake f
  int : ∃ f, DefAt K "_law_int" sLawInt f
  full : ∃ f, DefAt K "_law_full" sFull f
  ones : ∃ f, DefAt K "_law_ones" sOnes f
  lot : ∃ f, DefAt K "_law_lot" sLot f
  mask : ∃ f, DefAt K "_law_mask" sMask f
  family : ∃ f, DefAt K "_law_family" sFamily f
  best : ∃ f, DefAt K "_law_best" sBest f
  rows : ∃ f, DefAt K "_law_ints" sInts f
  allLots : ∃ f, DefAt K "_law_all_lots" sAllLots f
  drawnMasks : ∃ f, DefAt K "_law_drawn_masks" sDrawnMasks f
  order : ∃ f, DefAt K "_law_order" sOrder f
  lotsOf : ∃ f, DefAt K "_law_lots_of" sLotsOf f
  shown : ∃ f, DefAt K "_law_shown" sShown f
  whole : ∃ f, DefAt K "_law_whole" sWhole f
  boxDue : ∃ f, DefAt K "_law_box_due" sBoxDue f
  placeSum : ∃ f, DefAt K "_law_place_sum" sPlaceSum f
/-- names that are the built-in ones -/
structure Bares (K : PySem.W.Frag) : Prop where
  len : PySem.W.nsIn K mainGlobals "len" = some none
  int : PySem.W.nsIn K mainGlobals "int" = some none
  range : PySem.W.nsIn K mainGlobals "range" = some none
  min : PySem.W.nsIn K mainGlobals "min" = some none
  bool : PySem.W.nsIn K mainGlobals "bool" = some none
  isi : PySem.W.nsIn K mainGlobals "isinstance" = some none
  tuple : PySem.W.nsIn K mainGlobals "tuple" = some none
  list : PySem.W.nsIn K mainGlobals "list" = some none
  abs : PySem.W.nsIn K mainGlobals "abs" = some none
  sorted : PySem.W.nsIn K mainGlobals "sorted" = some none
theorem Bares.bare {K : PySem.W.Frag} {h : Heap} {mg : Str → Option Value} (X : K.In h) (G : h.Ns mainGlobals mg) (b : Bares K) : Bare mg :=
  ⟨PySem.W.mg_none_of X G b.len, PySem.W.mg_none_of X G b.int, PySem.W.mg_none_of X G b.range, PySem.W.mg_none_of X G b.min, PySem.W.mg_none_of X G b.bool, PySem.W.mg_none_of X G b.isi, PySem.W.mg_none_of X G b.tuple, PySem.W.mg_none_of X G b.list, PySem.W.mg_none_of X G b.abs, PySem.W.mg_none_of X G b.sorted⟩
/-- the law's own defs, each with its promise -/
structure Helps (P : Program) (w : World) (K : PySem.W.Frag) (mg : Str → Option Value) (base : Heap) : Prop where
  bare : Bare mg
  draws : Cal P w K mg base 1 "_law_draws" ["_law_script"] (spDraws K)
  take : Cal P w K mg base 1 "_law_take" ["_law_tape", "_law_many"] spDraw
  full : Cal P w K mg base 1 "_law_full" ["_law_size"] spFull
  ones : Cal P w K mg base 1 "_law_ones" ["_law_mask_here"] spOnes
  lot : Cal P w K mg base 1 "_law_lot" ["_law_mask_here"] spLot
  best : Cal P w K mg base 1 "_law_best" ["_law_masks", "_law_weights"] (spBest K)
  drawnMasks : Cal P w K mg base 3 "_law_drawn_masks" ["_law_tape", "_law_size"] spFamily
  lotsOf : Cal P w K mg base 2 "_law_lots_of" ["_law_masks"] (spLotsOf K)
  shown : Cal P w K mg base 2 "_law_shown" ["_law_found"] (spShown K)
  whole : Cal P w K mg base 3 "_law_whole" ["_law_row", "_law_many"] (spWhole K)
  boxDue : Cal P w K mg base 4 "_law_box_due" ["_law_masks", "_law_size"] (spBoxDue K)
  placeSum : Cal P w K mg base 2 "_law_place_sum" ["_law_masks", "_law_weights"] (spPlaceSum K)
theorem helps {P : Program} {w : World} {K : PySem.W.Frag} {mg : Str → Option Value} {base h : Heap} (X : K.In h) (G : h.Ns mainGlobals mg) (t : Tops K) (bs : Bares K) : Helps P w K mg base := by
  have T := bs.bare X G
  have cFull : Cal P w K mg base 1 "_law_full" ["_law_size"] spFull := cal X G t.full (fun _ _ _ _ _ _ us hl => match us, hl with | [_], _ => rfl) fun f fd F => ok_full F T
  have cTake : Cal P w K mg base 1 "_law_take" ["_law_tape", "_law_many"] spDraw := cal X G t.take (fun _ _ _ _ _ _ us hl => match us, hl with | [_, _], _ => rfl) fun f fd F => ok_draw (ok_take F T)
  have cOnes : Cal P w K mg base 1 "_law_ones" ["_law_mask_here"] spOnes := cal X G t.ones (fun _ _ _ _ _ _ us hl => match us, hl with | [_], _ => rfl) fun f fd F => ok_ones F T
  have cLot : Cal P w K mg base 1 "_law_lot" ["_law_mask_here"] spLot := cal X G t.lot (fun _ _ _ _ _ _ us hl => match us, hl with | [_], _ => rfl) fun f fd F => ok_lot F T
  have cMask : Cal P w K mg base 2 "_law_mask" ["_law_lot_here"] (spMask K) := cal X G t.mask (fun _ _ _ _ _ _ us hl => match us, hl with | [_], _ => rfl) fun f fd F => ok_mask F T cFull
  have cInt : Cal P w K mg base 1 "_law_int" ["_law_value"] spLawInt := cal X G t.int (fun _ _ _ _ _ _ us hl => match us, hl with | [_], _ => rfl) fun f fd F => ok_law_int F T
  have cInts : Cal P w K mg base 2 "_law_ints" ["_law_row", "_law_many"] (spInts K) := cal X G t.rows (fun _ _ _ _ _ _ us hl => match us, hl with | [_, _], _ => rfl) fun f fd F => ok_ints F T cInt
  have cFam : Cal P w K mg base 2 "_law_family" ["_law_tape", "_law_size"] spFamily := cal X G t.family (fun _ _ _ _ _ _ us hl => match us, hl with | [_, _], _ => rfl) fun f fd F => ok_family F T cTake cFull cOnes
  have cAll : Cal P w K mg base 2 "_law_all_lots" ["_law_size"] spAllLots := cal X G t.allLots (fun _ _ _ _ _ _ us hl => match us, hl with | [_], _ => rfl) fun f fd F => ok_all_lots F T cLot cFull
  have cOrd : Cal P w K mg base 3 "_law_order" ["_law_size"] spOrder := cal X G t.order (fun _ _ _ _ _ _ us hl => match us, hl with | [_], _ => rfl) fun f fd F => ok_order F T cMask cAll
  exact ⟨T, cal X G t.draws (fun _ _ _ _ _ _ us hl => match us, hl with | [_], _ => rfl) fun f fd F => ok_draws F T, cTake, cFull, cOnes, cLot,
    cal X G t.best (fun _ _ _ _ _ _ us hl => match us, hl with | [_, _], _ => rfl) fun f fd F => ok_best F T,
    cal X G t.drawnMasks (fun _ _ _ _ _ _ us hl => match us, hl with | [_, _], _ => rfl) fun f fd F => ok_drawn_masks F T cTake cFam,
    cal X G t.lotsOf (fun _ _ _ _ _ _ us hl => match us, hl with | [_], _ => rfl) fun f fd F => ok_lots_of F T cLot,
    cal X G t.shown (fun _ _ _ _ _ _ us hl => match us, hl with | [_], _ => rfl) fun f fd F => ok_shown F T cLot,
    cal X G t.whole (fun _ _ _ _ _ _ us hl => match us, hl with | [_, _], _ => rfl) fun f fd F => ok_whole F T cInts,
    cal X G t.boxDue (fun _ _ _ _ _ _ us hl => match us, hl with | [_, _], _ => rfl) fun f fd F => ok_box_due F T cOrd,
    cal X G t.placeSum (fun _ _ _ _ _ _ us hl => match us, hl with | [_, _], _ => rfl) fun f fd F => ok_place_sum F T cFull⟩
end Fam
/-! What the law asks of the program's defs, as promises; the weights. -/
namespace Fam
open PySem L2
open C8 (pss_cut tCut)

/-- a def that may raise, called where it does not -/
theorem passE0 {P : Program} {w : World} {X : Cx} : Passes (L2.CX P w) X E0 := fun _ _ _ _ _ _ _ h => by
  obtain ⟨_, _, _, _, _, _, _, _, _, _, _, _, h⟩ := h
  exact h.elim
/-- words that broken does not take -/
def badAll (v : V) : Prop := v = .str "" ∨ v = .str "xor" ∨ v = .non ∨ v = .int 0 ∨ v = .str "Box" ∨ v = .str "or-and"
/-- words that weights_against does not take -/
def badTold (v : V) : Prop := v = .str "" ∨ v = .str "xor" ∨ v = .non ∨ v = .int 0 ∨ v = .str "Box" ∨ v = .str "or"
/-- what weights_against told -/
def Told (H : Hp) (n : Nat) (ms : List Nat) (v : V) : Prop := (v = .non ∧ Closed ms) ∨ (¬ Closed ms ∧ ∃ (p : Addr) (ws : List Int), v = .ref p ∧ H p = some (.tup (ws.map V.int)) ∧ ws.length = n ∧ (∀ x ∈ ws, x.natAbs < 10 ^ 60) ∧ bestOf ws ms ≠ some (placeSum ms ws))
section
variable (K : PySem.W.Frag) (C B : Addr) (At : Hp → Addr → Nat → List Nat → Prop)
def spInit : Sp := fun vs H Q _ => ∃ (x dx a : Addr) (n : Nat) (xs : List V) (ms : List Nat), vs = [.ref x, vInt n, .ref a] ∧ H x = some (.ins C dx []) ∧ H dx = some (.own x) ∧ SqL K H a xs ∧ LotsAt H xs ms ∧ 1 ≤ n ∧ n ≤ 10 ∧ Masks n ms ∧
  ∀ H' : Hp, (∀ b o, b ≠ x → b ≠ dx → H b = some o → H' b = some o) → At H' x n ms → Q .non H'
def spTop : Sp := fun vs H Q _ => ∃ (f b : Addr) (n : Nat) (ms : List Nat) (ws : List Int), vs = [.ref f, .ref b] ∧ At H f n ms ∧ Row K H b (ws.map V.int) ∧ ws.length = n ∧ ∀ H', Same H H' → Q (optV (bestOf ws ms)) H'
def spBroken : Sp := fun vs H Q E => ∃ (f : Addr) (n : Nat) (ms : List Nat) (word : V), vs = [.ref f, word] ∧ At H f n ms ∧ Masks n ms ∧ 1 ≤ n ∧ n ≤ 10 ∧
  ((word = .str "box" ∧ ∀ (H' : Hp) (os : List Nat), OrderOf n os → Same H H' → (boxDue ms os = none → Q .non H') ∧
      (∀ x y z p q1 q2 q3, boxDue ms os = some (x, y, z) → H' p = some (.tup [.ref q1, .ref q2, .ref q3]) → H' q1 = some (.tup (lotV x)) → H' q2 = some (.tup (lotV y)) → H' q3 = some (.tup (lotV z)) → Q (.ref p) H'))
    ∨ (badAll word ∧ ∀ (d : Addr) (H' : Hp), Same H H' → H d = none → H' d = some (.xd [("which", .str "word")]) → E (.ref B) (some d) H'))
def spAgainst : Sp := fun vs H Q E => ∃ (f : Addr) (n : Nat) (ms : List Nat) (word : V), vs = [.ref f, word] ∧ At H f n ms ∧ Masks n ms ∧ 1 ≤ n ∧ n ≤ 10 ∧
  ((word = .str "box" ∧ ∀ (v : V) (H' : Hp), Same H H' → Told H' n ms v → Q v H')
    ∨ (badTold word ∧ ∀ (d : Addr) (H' : Hp), Same H H' → H d = none → H' d = some (.xd [("which", .str "word")]) → E (.ref B) (some d) H'))
end
/-- a def of the program, at a level below 40 -/
structure CalX (P : Program) (w : World) (K : PySem.W.Frag) (mg : Str → Option Value) (base : Heap) (k : Nat) (x : Str) (ps : List Str) (sp : Sp) : Prop where
  ex : ∃ (g : Addr) (gd : FuncData), FnOk P w K mg base (L2.CX P w) k g gd ps sp ∧ Binds K gd ps [] ∧ PySem.W.keepIn K (.ref g) = true ∧ mg x = some (.ref g)
/-- the program's Family and what asks it -/
structure FamFacts (P : Program) (w : World) (K : PySem.W.Frag) (mg : Str → Option Value) (base : Heap) (C B : Addr) (At : Hp → Addr → Nat → List Nat → Prop) : Prop where
  cl : Cls K C
  mgC : mg "Family" = some (.ref C)
  same : ∀ {H H' : Hp} {f : Addr} {n : Nat} {ms : List Nat}, At H f n ms → Same H H' → At H' f n ms
  keep : ∀ {H H' : Hp} {a f : Addr} {n : Nat} {ms : List Nat} {xs : List V}, At H f n ms → H a = some (.lst xs) → Kp a H H' → At H' f n ms
  perm : ∀ {H : Hp} {f : Addr} {n : Nat} {ms ms' : List Nat}, At H f n ms → ms.Perm ms' → At H f n ms'
  ins : ∀ {H : Hp} {f : Addr} {n : Nat} {ms : List Nat}, At H f n ms → ∃ dx fs, H f = some (.ins C dx fs) ∧ fs.lookup ("size" : Str) = some (vInt n) ∧ fs.lookup ("top_weight" : Str) = none
  size : NoAttr K C "size"
  make : ∃ (g : Addr) (gd : FuncData), Mk K C g ∧ FnOk P w K mg base (L2.CX P w) 19 g gd ["self", "size", "lots"] (spInit K C At) ∧ Binds K gd ["self", "size", "lots"] []
  top : ∃ (g : Addr) (gd : FuncData), Meth K C "top_weight" g ∧ FnOk P w K mg base (L2.CX P w) 20 g gd ["self", "weights"] (spTop K At) ∧ Binds K gd ["self", "weights"] []
  broken : CalX P w K mg base 20 "broken" ["family", "word"] (spBroken B At)
  against : CalX P w K mg base 20 "weights_against" ["family", "word"] (spAgainst B At)

def spWeightsOk (At : Hp → Addr → Nat → List Nat → Prop) : Sp := fun vs H Q _ => ∃ (a f m : Addr) (c : Bool) (cu : Nat) (ts : List Int) (n : Nat) (ms : List Nat), vs = [.ref a, .ref f, .ref m, .bl c] ∧ TapeAt H a cu ts ∧ At H f n ms ∧ H m = some (.lst (ms.map vInt)) ∧ m ≠ a ∧ Masks n ms ∧ 1 ≤ n ∧ n ≤ 10 ∧ ms.length ≤ 1024 ∧ (c = true ↔ Closed ms) ∧
  ∀ (H' : Hp) (c' : Nat), Kp a H H' → TapeAt H' a c' ts → Q (.bl true) H'

theorem ne_same {o : Option Int} {Q : VK} {H : Hp} (h : Q (.bl false) H) : rNe (optV o) (optV o) H Q := by
  cases o with
  | none => exact ⟨rfl, h⟩
  | some i =>
    refine ⟨rfl, ?_⟩
    have e : (decide (V.int i ≠ V.int i)) = false := decide_eq_false (fun q => q rfl)
    first
      | (rw [e]; exact h)
      | (show Q (.bl (!decide (V.int i = V.int i))) H; rw [decide_eq_true rfl]; exact h)
theorem best_some {ms : List Nat} (ws : List Int) (h : ms ≠ []) : ∃ v, bestOf ws ms = some v := by
  obtain ⟨v, e, _⟩ := best_spec ws ms h
  exact ⟨v, e⟩

section
variable {P : Program} {w : World} {K : PySem.W.Frag} {mg : Str → Option Value} {base : Heap} {C B : Addr} {At : Hp → Addr → Nat → List Nat → Prop}
abbrev nWO : List Str := ["_law_tape", "_law_family_here", "_law_masks", "_law_closed", "_law_told", "_law_k", "_law_weights", "_law_place"]
theorem scWO : FnScope nWO ["_law_tape", "_law_family_here", "_law_masks", "_law_closed"] (defScope sWeightsOk) := ⟨rfl, rfl, rfl, by decide +kernel, rfl, by decide +kernel, by decide +kernel⟩
theorem ok_weights_ok {f : Addr} {fd : FuncData} (F : Fun K "_law_weights_ok" "_law_weights_ok" sWeightsOk f fd) (L : Helps P w K mg base) (I : FamFacts P w K mg base C B At) : FnOk P w K mg base CX0 21 f fd ["_law_tape", "_law_family_here", "_law_masks", "_law_closed"] (spWeightsOk At) := by
  have T := L.bare
  obtain ⟨ga, gad, oka, ba, ka, ma⟩ := I.against.ex
  obtain ⟨gw, gwd, okw, bw, kw, mw⟩ := L.whole.ex
  obtain ⟨gb, gbd, okb, bb, kb, mb⟩ := L.best.ex
  obtain ⟨gp, gpd, okp, bp, kp, mp⟩ := L.placeSum.ex
  obtain ⟨gt, gtd, okt, bt, kt, mt⟩ := L.take.ex
  obtain ⟨gm, gmd, Me, okm, bm⟩ := I.top
  refine F.ok scWO (fun vs H Q E h => ?_) (fun cdv A outer s H vs Q E hr h => ?_)
  · obtain ⟨a, f, m, c, cu, ts, n, ms, rfl, _⟩ := h
    rfl
  · obtain ⟨a, f, m, c, cu, ts, n, ms, rfl, hT, hF, hM, hma, hms, h1, h2, hl, hc, k⟩ := h
    have hr1 := hr.mono (j := 1) (by decide)
    have hr2 := hr.mono (j := 2) (by decide)
    have hr3 := hr.mono (j := 3) (by decide)
    refine ⟨_, pss_cons (ps_set (i := 4) scWO.nd rfl (Or.inl rfl) (pe_call oka hr rfl ma ka ba .nil passE0 (pa_cons (pv 1) (pa_cons pe_str pa_nil))))
      (pss_cut (ps_if (PW.pt (pw_or (pt_val (pv 3)) (pw_or1 (pt_cmpR op_eq (pe_callB call_len_seq (by rfl) T.len PySem.boot_len (pa_cons (pv 2) pa_nil)) pe_int (nomark _)))))
          (pss_one (ps_if (pt_cmpR op_notN (pv 4) pe_non (nomark _)) (pss_one (ps_ret pe_bl)) pss_nil))
          (pss_cons (ps_if (PW.pt (pw_or (pt_not (pt_val (pe_call okw hr3 rfl mw kw bw .nil pass0 (pa_cons (pv 4) (pa_cons (pe_fld (pv 1) rfl) pa_nil)))))
              (pw_or1 (pt_cmpR op_eq (pe_call okb hr1 rfl mb kb bb .nil pass0 (pa_cons (pv 2) (pa_cons (pv 4) pa_nil))) (pe_call okp hr2 rfl mp kp bp .nil pass0 (pa_cons (pv 2) (pa_cons (pv 4) pa_nil))) (nomark _))))) (pss_one (ps_ret pe_bl)) pss_nil)
          (pss_one (ps_if (pt_cmpR op_eq (pe_meth (pv 1) I.cl Me okm hr bm .nil passE0 (pa_cons (pv 4) pa_nil)) (pe_call okp hr2 rfl mp kp bp .nil pass0 (pa_cons (pv 2) (pa_cons (pv 4) pa_nil))) (nomark _)) (pss_one (ps_ret pe_bl)) pss_nil))))
      (pss_cons (ps_for PassesOwn.never rfl (pi_range1 rfl T.range (pa_cons pe_int pa_nil)) (pg_name (i := 5) scWO.nd rfl (Or.inl rfl))
        (pss_cons (ps_setLc (i := 6) (own := [("_law_place", 7)]) (g := gName 7) (tt := tYes) (by rfl) scWO.nd rfl rfl (sw_true rfl rfl rfl (by decide +kernel)) (pi_range1 rfl T.range (pa_cons (pe_fld (pv 1) rfl) pa_nil)) (blkOk_by (own := [("_law_place", 7)]) (N := nWO) (sc := defScope sWeightsOk) (by decide +kernel)) (fun _ _ _ _ _ => pg_name (i := 7) scWO.nd rfl (Or.inl rfl))
          (fun _ _ _ _ _ => pts_nil) (fun _ _ _ _ _ => pe_op op_sub (pe_call okt hr1 rfl mt kt bt .nil pass0 (pa_cons (pv 0) (pa_cons pe_int pa_nil))) pe_int))
        (pss_cons (ps_if (pt_cmpR op_ne (pe_meth (pv 1) I.cl Me okm hr bm .nil passE0 (pa_cons (pv 6) pa_nil)) (pe_call okb hr1 rfl mb kb bb .nil pass0 (pa_cons (pv 2) (pa_cons (pv 6) pa_nil))) (nomark _)) (pss_one (ps_ret pe_bl)) pss_nil)
        (pss_one (ps_if (PW.pt (pw_and (pt_val (pv 3)) (pw_and (pt_cmpR op_gt (pe_callB call_len_seq (by rfl) T.len PySem.boot_len (pa_cons (pv 2) pa_nil)) pe_int (nomark _))
            (pw_and1 (pt_cmpR op_ne (pe_meth (pv 1) I.cl Me okm hr bm .nil passE0 (pa_cons (pv 6) pa_nil)) (pe_call okp hr2 rfl mp kp bp .nil pass0 (pa_cons (pv 2) (pa_cons (pv 6) pa_nil))) (nomark _)))))) (pss_one (ps_ret pe_bl)) pss_nil)))))
      (pss_one (ps_ret pe_bl)))), ?_⟩
    have hS : ∀ {H' : Hp}, Same H H' → SqL K H' m (ms.map vInt) := fun s => SqL.of (s _ _ hM)
    refine ⟨_, rfl, f, n, ms, _, rfl, hF, hms, h1, h2, .inl ⟨rfl, fun v H1 s1 hv => ?_⟩⟩
    refine ⟨fun σ' H' => σ' = [some (.ref a), some (.ref f), some (.ref m), some (.bl c), some v, none, none, none] ∧ Same H H', ?_, ?_⟩
    · refine ⟨_, rfl, c, rfl, ?_⟩
      rcases hv with ⟨rfl, hcl⟩ | ⟨ncl, p, ws, rfl, hp, hw, hwb, hne⟩
      · have ec : c = true := hc.mpr hcl
        subst ec
        refine iteT ⟨_, rfl, rfl, _, rfl, iteF ⟨rfl, s1⟩⟩
      · have ec : c = false := Bool.eq_false_iff.mpr (fun q => ncl (hc.mp q))
        subst ec
        have ne : ms ≠ [] := fun e => ncl (by rw [e]; exact fun x hx => by cases hx)
        obtain ⟨v, eb⟩ := best_some ws ne
        refine iteF ⟨_, rfl, m, _, rfl, .inl (hS s1), rfl, _, rfl, ite2 (fun z => ?_) (fun z => ?_)⟩
        · have z1 := V.int.inj (of_decide_eq_true z)
          rw [List.length_map] at z1
          exact absurd (List.length_eq_zero_iff.mp (by omega)) ne
        · obtain ⟨dx, fs, e1, e2, e3⟩ := I.ins (I.same hF s1)
          refine ⟨_, rfl, _, rfl, f, C, dx, fs, _, rfl, e1, I.cl, I.size, e2, p, ws, n, rfl, SqT.of hp, by omega, hwb, fun H2 s2 => ?_⟩
          refine ⟨_, rfl, ite2 (fun z => ?_) (fun z => ?_)⟩
          · rw [decide_eq_true hw] at z
            cases z
          · have s12 := s1.trans s2
            refine ⟨_, rfl, _, rfl, m, p, ms, ws, rfl, hS s12, .inr (SqT.of (s2 _ _ hp)), ?_⟩
            rw [eb]
            refine ⟨_, rfl, _, rfl, m, p, ms, ws, rfl, hS s12, ne, .inr (SqT.of (s2 _ _ hp)), by omega, rfl, _, rfl, ite2 (fun z => ?_) (fun z => ?_)⟩
            · exact absurd (by rw [eb]; exact congrArg some (V.int.inj (of_decide_eq_true z))) hne
            · refine ⟨_, rfl, f, dx, fs, rfl, s2 _ _ e1, e3, _, rfl, f, p, n, ms, ws, rfl, I.same hF s12, .inr (SqT.of (s2 _ _ hp)), hw, fun H3 s3 => ?_⟩
              rw [eb]
              refine ⟨_, rfl, _, rfl, m, p, ms, ws, rfl, hS (s12.trans s3), ne, .inr (SqT.of (s3 _ _ (s2 _ _ hp))), by omega, rfl, _, rfl, ite2 (fun z => ?_) (fun z => ⟨rfl, s12.trans s3⟩)⟩
              exact absurd (by rw [eb]; exact congrArg some (V.int.inj (of_decide_eq_true z))) hne
    · rintro _ H2 ⟨rfl, s2⟩
      refine ⟨_, rfl, by decide, by decide, for_range (lo := 0) (n := 3) (fun i σ H' => ∃ y5 y6 : Option V, σ = [some (.ref a), some (.ref f), some (.ref m), some (.bl c), some v, y5, y6, none] ∧ Kp a H H' ∧ ∃ c', TapeAt H' a c' ts)
        ⟨none, none, rfl, kp_same s2, _, hT.same s2⟩ ?_ ?_⟩
      · rintro i σ H3 hi ⟨y5, y6, rfl, kp, c3, hT3⟩
        have hF3 := I.keep hF hT kp
        obtain ⟨dx, fs, e1, e2, e3⟩ := I.ins hF3
        refine ⟨_, rfl, f, C, dx, fs, _, rfl, e1, I.cl, I.size, e2, _, rfl, by omega, by omega, fun D hD => ?_⟩
        have hDa := tape_ne hT3 hD
        have hD0 := kp.free hT3 hD
        refine lc_range (lo := 0) (n := n) (fun i H' => Kp a H H' ∧ (∃ c, TapeAt H' a c ts) ∧ ∃ ws : List Int, H' D = some (.lst (ws.map V.int)) ∧ ws.length = i) ⟨kp.upd hD0, ⟨_, hT3.upd hDa⟩, [], upd_same, rfl⟩ ?_ ?_
        · rintro j H4 hj ⟨kp4, ⟨c4, hT4⟩, ws, hW, hwl⟩
          refine ⟨rfl, _, rfl, a, c4, ts, 19, rfl, hT4, by decide, fun H5 c5 r hr5 h5 hT5 => ⟨_, _, rfl, rfl, _, by rw [h5 D hDa]; exact hW, ?_, (kp4.trans (Kp.of h5)).upd hD0, ⟨_, hT5.upd hDa⟩, ws ++ [(r : Int) - 9], ?_, ?_⟩⟩
          · rw [List.length_map]
            exact below (m := 100000) (by omega)
          · rw [upd_same, List.map_append]
            rfl
          · rw [List.length_append, hwl]
            rfl
        · rintro H4 ⟨kp4, ⟨c4, hT4⟩, ws, hW, hwl⟩
          have hF4 := I.keep hF hT kp4
          have hM4 : SqL K H4 m (ms.map vInt) := SqL.of (kp4 m _ hma hM)
          obtain ⟨dx, fs, e1, e2, e3⟩ := I.ins hF4
          refine ⟨_, rfl, f, dx, fs, rfl, e1, e3, _, rfl, f, D, n, ms, ws, rfl, hF4, .inl (SqL.of hW), hwl, fun H5 s5 => ?_⟩
          refine ⟨_, rfl, _, rfl, m, D, ms, ws, rfl, s5.seq hM4, .inl (SqL.of (s5 _ _ hW)), ?_⟩
          have done : ∀ {H' : Hp}, Same H4 H' → ∃ y5 y6 : Option V, [some (V.ref a), some (.ref f), some (.ref m), some (.bl c), some v, some (.int (0 + (i : Int))), some (.ref D), none] = [some (.ref a), some (.ref f), some (.ref m), some (.bl c), some v, y5, y6, none] ∧ Kp a H H' ∧ ∃ c', TapeAt H' a c' ts :=
            fun s => ⟨_, _, rfl, kp4.trans (kp_same s), _, hT4.same s⟩
          refine ne_same (o := bestOf ws ms) ⟨_, rfl, iteF ?_⟩
          refine ⟨_, rfl, c, rfl, ite2 (fun z => ?_) (fun _ => done s5)⟩
          have hcl := hc.mp z
          refine ⟨_, rfl, m, _, rfl, .inl (s5.seq hM4), _, _, rfl, rfl, _, rfl, ite2 (fun z2 => ?_) (fun _ => done s5)⟩
          have ne : ms ≠ [] := fun e => by
            rw [e] at z2
            exact absurd (of_decide_eq_true z2) (by show ¬ (0 : Int) < (([] : List V).length : Int); decide)
          refine ⟨_, rfl, f, dx, fs, rfl, s5 _ _ e1, e3, _, rfl, f, D, n, ms, ws, rfl, I.same hF4 s5, .inl (SqL.of (s5 _ _ hW)), hwl, fun H6 s6 => ?_⟩
          rw [box_best hcl ne (by rw [hwl]; exact hms.lt)]
          refine ⟨_, rfl, _, rfl, m, D, ms, ws, rfl, s6.seq (s5.seq hM4), ne, .inl (SqL.of (s6 _ _ (s5 _ _ hW))), by omega, ?_⟩
          exact ne_same (o := some (placeSum ms ws)) ⟨_, rfl, iteF (done (s5.trans s6))⟩
      · rintro σ H3 ⟨y5, y6, rfl, kp, c3, hT3⟩
        exact k H3 c3 kp hT3
end
end Fam
/-! A box of up to 64 lots, with a lot taken out. -/
namespace Fam
open PySem L2
open C8 (pss_cut tCut)

/-! ### which masks lie within drawn places -/
theorem onesN_len (m : Nat) : ∀ n, onesN m n = ((List.range n).filter fun i => decide (m / 2 ^ i % 2 = 1)).length
  | 0 => rfl
  | n + 1 => by
    show onesN m n + m / 2 ^ n % 2 = _
    rw [List.range_succ, List.filter_append, List.length_append, onesN_len m n]
    congr 1
    by_cases h : m / 2 ^ n % 2 = 1
    · rw [List.filter_cons_of_pos (by simpa using h), h]
      rfl
    · rw [List.filter_cons_of_neg (by simpa using h)]
      show m / 2 ^ n % 2 = 0
      omega
/-- how many of the places fs the mask m has -/
def hasN (fs : List Nat) (m : Nat) : Nat := (fs.filter fun i => decide (m / 2 ^ i % 2 = 1)).length
/-- the masks below 64 with no place outside fs -/
def within (fs : List Nat) : List Nat := (List.range 64).filter fun m => decide (hasN fs m = onesN m 12)
theorem within_iff {b : Nat → Bool} {m : Nat} : m ∈ within ((List.range 6).filter b) ↔ m < 64 ∧ ∀ i, m.testBit i = true → i < 6 ∧ b i = true := by
  unfold within
  rw [List.mem_filter, List.mem_range, decide_eq_true_eq]
  constructor
  · rintro ⟨hm, h⟩
    refine ⟨hm, fun i hi => ?_⟩
    have i6 : i < 6 := by
      apply Classical.byContradiction
      intro q
      have le : 2 ^ 6 ≤ 2 ^ i := Nat.pow_le_pow_right (by decide) (by omega)
      rw [Nat.testBit_lt_two_pow (by omega)] at hi
      cases hi
    refine ⟨i6, ?_⟩
    have e6 : onesN m 12 = onesN m 6 := by
      have z : ∀ j, 6 ≤ j → m / 2 ^ j % 2 = 0 := fun j hj => by
        have le : 2 ^ 6 ≤ 2 ^ j := Nat.pow_le_pow_right (by decide) hj
        rw [Nat.div_eq_of_lt (by omega)]
      show onesN m 6 + m / 2 ^ 6 % 2 + m / 2 ^ 7 % 2 + m / 2 ^ 8 % 2 + m / 2 ^ 9 % 2 + m / 2 ^ 10 % 2 + m / 2 ^ 11 % 2 = _
      rw [z 6 (by omega), z 7 (by omega), z 8 (by omega), z 9 (by omega), z 10 (by omega), z 11 (by omega)]
      rfl
    unfold hasN at h
    rw [e6, onesN_len, List.filter_filter] at h
    have comm : (List.range 6).filter (fun a => decide (m / 2 ^ a % 2 = 1) && b a) = ((List.range 6).filter fun i => decide (m / 2 ^ i % 2 = 1)).filter b := by
      rw [List.filter_filter]
      congr 1
      funext a
      rw [Bool.and_comm]
    rw [comm] at h
    exact List.length_filter_eq_length_iff.mp h i (List.mem_filter.mpr ⟨List.mem_range.mpr i6, decide_eq_true ((bit_iff m i).mpr hi)⟩)
  · rintro ⟨hm, h⟩
    refine ⟨hm, ?_⟩
    have e6 : onesN m 12 = onesN m 6 := by
      have z : ∀ j, 6 ≤ j → m / 2 ^ j % 2 = 0 := fun j hj => by
        have le : 2 ^ 6 ≤ 2 ^ j := Nat.pow_le_pow_right (by decide) hj
        rw [Nat.div_eq_of_lt (by omega)]
      show onesN m 6 + m / 2 ^ 6 % 2 + m / 2 ^ 7 % 2 + m / 2 ^ 8 % 2 + m / 2 ^ 9 % 2 + m / 2 ^ 10 % 2 + m / 2 ^ 11 % 2 = _
      rw [z 6 (by omega), z 7 (by omega), z 8 (by omega), z 9 (by omega), z 10 (by omega), z 11 (by omega)]
      rfl
    unfold hasN
    rw [e6, onesN_len, List.filter_filter]
    have comm : (List.range 6).filter (fun a => decide (m / 2 ^ a % 2 = 1) && b a) = ((List.range 6).filter fun i => decide (m / 2 ^ i % 2 = 1)).filter b := by
      rw [List.filter_filter]
      congr 1
      funext a
      rw [Bool.and_comm]
    rw [comm]
    refine List.length_filter_eq_length_iff.mpr fun i hi => ?_
    obtain ⟨_, q⟩ := List.mem_filter.mp hi
    exact (h i ((bit_iff m i).mp (of_decide_eq_true q))).2
theorem within_closed (b : Nat → Bool) : Closed (within ((List.range 6).filter b)) := by
  intro x hx y hy z _ h2
  obtain ⟨x1, x2⟩ := within_iff.mp hx
  obtain ⟨y1, y2⟩ := within_iff.mp hy
  refine within_iff.mpr ⟨in_lt (n := 6) h2 (Nat.or_lt_two_pow (n := 6) x1 y1), fun i hi => ?_⟩
  have q := h2 i hi
  rw [Nat.testBit_or, Bool.or_eq_true] at q
  exact q.elim (x2 i) (y2 i)
theorem within_masks (fs : List Nat) : Masks 6 (within fs) := ⟨fun m hm => List.mem_range.mp (List.mem_filter.mp hm).1, List.nodup_range.filter _⟩
theorem within_zero (b : Nat → Bool) : 0 ∈ within ((List.range 6).filter b) := within_iff.mpr ⟨by decide, fun i h => by rw [Nat.zero_testBit] at h; cases h⟩
theorem Closed.perm {ms ms' : List Nat} (p : ms.Perm ms') : Closed ms ↔ Closed ms' := by
  have m : ∀ z, z ∈ ms ↔ z ∈ ms' := fun z => p.mem_iff
  constructor
  · intro c x hx y hy z h1 h2
    exact (m z).mp (c x ((m x).mpr hx) y ((m y).mpr hy) z h1 h2)
  · intro c x hx y hy z h1 h2
    exact (m z).mpr (c x ((m x).mp hx) y ((m y).mp hy) z h1 h2)
end Fam
/-! _law_large_ok. -/
namespace Fam
open PySem L2
open C8 (pss_cut tCut)
def spLargeOk : Sp := fun vs H Q _ => ∃ (a : Addr) (c : Nat) (ts : List Int), vs = [.ref a] ∧ TapeAt H a c ts ∧ ∀ (H' : Hp) (c' : Nat), Kp a H H' → TapeAt H' a c' ts → Q (.bl true) H'
theorem filt_yes (b : Nat → Bool) (i : Nat) : (List.range (i + 1)).filter (fun j => if j = i then true else b j) = (List.range i).filter b ++ [i] := by
  rw [List.range_succ, List.filter_append]
  congr 1
  · exact List.filter_congr fun j hj => if_neg (by have := List.mem_range.mp hj; omega)
  · rw [List.filter_cons_of_pos (by rw [if_pos rfl])]
    rfl
theorem filt_no (b : Nat → Bool) (i : Nat) : (List.range (i + 1)).filter (fun j => if j = i then false else b j) = (List.range i).filter b := by
  rw [List.range_succ, List.filter_append]
  have e : [i].filter (fun j => if j = i then false else b j) = [] := by
    rw [List.filter_cons_of_neg (by rw [if_pos rfl]; decide)]
    rfl
  rw [e, List.append_nil]
  exact List.filter_congr fun j hj => if_neg (by have := List.mem_range.mp hj; omega)
/-- a new instance at x, its own dict at dx: what stood stands -/
theorem made_same {H H' : Hp} {x dx C : Addr} (hx : H x = none) (hdx : H dx = none) (k : ∀ b o, b ≠ x → b ≠ dx → upd (upd H dx (.own x)) x (.ins C dx []) b = some o → H' b = some o) : Same H H' := fun b o e => by
  have h1 : b ≠ x := ne_of_none e hx
  have h2 : b ≠ dx := ne_of_none e hdx
  refine k b o h1 h2 ?_
  rw [upd_ne h1, upd_ne h2]
  exact e
theorem made_new {H : Hp} {x dx C : Addr} (hx : H x = none) (hdx : H dx = none) : Same H (upd (upd H dx (.own x)) x (.ins C dx [])) := fun b o e => by
  rw [upd_ne (ne_of_none e hx), upd_ne (ne_of_none e hdx)]
  exact e

section
variable {P : Program} {w : World} {K : PySem.W.Frag} {mg : Str → Option Value} {base : Heap} {C B : Addr} {At : Hp → Addr → Nat → List Nat → Prop}
abbrev nLG : List Str := ["_law_tape", "_law_free", "_law_masks", "_law_mask_here", "_law_family_here", "_law_gone", "_law_rest", "_law_closed", "_law_lesser", "_law_place"]
theorem scLG : FnScope nLG ["_law_tape"] (defScope sLargeOk) := ⟨rfl, rfl, rfl, by decide +kernel, rfl, by decide +kernel, by decide +kernel⟩
theorem ok_large_ok {f : Addr} {fd : FuncData} (F : Fun K "_law_large_ok" "_law_large_ok" sLargeOk f fd) (L : Helps P w K mg base) (I : FamFacts P w K mg base C B At)
    (W : Cal P w K mg base 21 "_law_weights_ok" ["_law_tape", "_law_family_here", "_law_masks", "_law_closed"] (spWeightsOk At)) : FnOk P w K mg base CX0 22 f fd ["_law_tape"] spLargeOk := by
  have T := L.bare
  obtain ⟨ga, gad, oka, ba, ka, ma⟩ := I.against.ex
  obtain ⟨gr, grd, okr, br, kr, mr⟩ := I.broken.ex
  obtain ⟨gi, gid, Mi, oki, bi⟩ := I.make
  obtain ⟨gt, gtd, okt, bt, kt, mt⟩ := L.take.ex
  obtain ⟨gf, gfd, okf, bf, kf, mf⟩ := L.full.ex
  obtain ⟨go, god, oko, bo, ko, mo⟩ := L.ones.ex
  obtain ⟨gl, gld, okl, bl, kl, ml⟩ := L.lotsOf.ex
  obtain ⟨gd, gdd, okd, bd, kd, md⟩ := L.boxDue.ex
  obtain ⟨gw, gwd, okw, bw, kw, mw⟩ := W.ex
  refine F.ok scLG (fun vs H Q E h => ?_) (fun cdv A outer s H vs Q E hr h => ?_)
  · obtain ⟨a, c, ts, rfl, _⟩ := h
    rfl
  · obtain ⟨a, c, ts, rfl, hT, k⟩ := h
    have hr1 := hr.mono (j := 1) (by decide)
    have hr2 := hr.mono (j := 2) (by decide)
    have hr4 := hr.mono (j := 4) (by decide)
    have hr20 := hr.mono (j := 20) (by decide)
    refine ⟨_, pss_cons (ps_setLc (i := 1) (own := [("_law_place", 9)]) (g := gName 9) (by rfl) scLG.nd rfl rfl (sw_true rfl rfl rfl (by decide +kernel)) (pi_range1 rfl T.range (pa_cons pe_int pa_nil)) (blkOk_by (own := [("_law_place", 9)]) (N := nLG) (sc := defScope sLargeOk) (by decide +kernel)) (fun _ _ _ _ _ => pg_name (i := 9) scLG.nd rfl (Or.inl rfl))
          (fun _ _ _ _ _ => pts_one (pt_cmpR op_ne (pv 9) (pe_call okt hr1 rfl mt kt bt .nil pass0 (pa_cons (pv 0) (pa_cons pe_int pa_nil))) (nomark _))) (fun _ _ _ _ _ => pv 9))
      (pss_cons (ps_set (i := 2) scLG.nd rfl (Or.inl rfl) (pe_lst pa_nil))
      (pss_cons (ps_for PassesOwn.never rfl (pi_range1 rfl T.range (pa_cons pe_int pa_nil)) (pg_name (i := 3) scLG.nd rfl (Or.inr rfl))
        (pss_one (ps_if (pt_cmpR op_eq (pe_callB call_len_seq (by rfl) T.len PySem.boot_len (pa_cons (pe_lc (own := [("_law_place", 9)]) (g := gName 9) rfl scLG.nd (pi_list (pv 1)) (blkOk_by (own := [("_law_place", 9)]) (N := nLG) (sc := defScope sLargeOk) (by decide +kernel)) (fun _ _ _ _ _ => pg_name (i := 9) scLG.nd rfl (Or.inl rfl))
              (fun _ _ _ _ _ => pts_one (pt_cmpR op_eq (pe_op op_modN (pe_callTy call_int1 (by rfl) T.int (by decide +kernel) (pa_cons (pe_op op_fdivNN (pv 3) (pe_call okf hr1 rfl mf kf bf .nil pass0 (pa_cons (pv 9) pa_nil))) pa_nil)) pe_int) pe_int (nomark _))) (fun _ _ _ _ _ => pv 9)) pa_nil))
            (pe_call oko hr1 rfl mo ko bo .nil pass0 (pa_cons (pv 3) pa_nil)) (nomark _))
          (pss_one (ps_expr (pe_bm PySem.F.plainAttrs_list PySem.F.slot_list_append PySem.F.type_list_append mt_append (pv 2) (pa_cons (pv 3) pa_nil)))) pss_nil)))
      (pss_cons (ps_set (i := 4) scLG.nd rfl (Or.inl rfl) (pe_make Mi oki hr20 rfl I.mgC bi .nil passE0 (pa_cons pe_int (pa_cons (pe_call okl hr2 rfl ml kl bl .nil pass0 (pa_cons (pv 2) pa_nil)) pa_nil))))
      (pss_cons (ps_if (PW.pt (pw_or (pt_cmpR op_notN (pe_call okr hr20 rfl mr kr br .nil passE0 (pa_cons (pv 4) (pa_cons pe_str pa_nil))) pe_non (nomark _))
          (pw_or1 (pt_cmpR op_notN (pe_call oka hr20 rfl ma ka ba .nil passE0 (pa_cons (pv 4) (pa_cons pe_str pa_nil))) pe_non (nomark _))))) (pss_one (ps_ret pe_bl)) pss_nil)
      (pss_cons (ps_set (i := 5) scLG.nd rfl (Or.inr rfl) (pe_ix ix_list (pv 2) (pe_call okt hr1 rfl mt kt bt .nil pass0 (pa_cons (pv 0) (pa_cons (pe_callB call_len_seq (by rfl) T.len PySem.boot_len (pa_cons (pv 2) pa_nil)) pa_nil))) (fun _ _ => rfl)))
      (pss_cons (ps_setLc (i := 6) (own := [("_law_mask_here", 3)]) (g := gName 3) (by rfl) scLG.nd rfl rfl (sw_true rfl rfl rfl (by decide +kernel)) (pi_list (pv 2)) (blkOk_by (own := [("_law_mask_here", 3)]) (N := nLG) (sc := defScope sLargeOk) (by decide +kernel)) (fun _ _ _ _ _ => pg_name (i := 3) scLG.nd rfl (Or.inl rfl))
          (fun _ _ _ _ _ => pts_one (pt_cmpR op_ne (pv 3) (pv 5) (nomark _))) (fun _ _ _ _ _ => pv 3))
      (pss_cut (ps_set (i := 7) scLG.nd rfl (Or.inl rfl) (pe_cmpR op_isN (pe_call okd hr4 rfl md kd bd .nil pass0 (pa_cons (pv 6) (pa_cons pe_int pa_nil))) pe_non (nomark _)))
      (pss_cons (ps_set (i := 8) scLG.nd rfl (Or.inl rfl) (pe_make Mi oki hr20 rfl I.mgC bi .nil passE0 (pa_cons pe_int (pa_cons (pe_call okl hr2 rfl ml kl bl .nil pass0 (pa_cons (pe_revL (pv 6)) pa_nil)) pa_nil))))
      (pss_cons (ps_if (pt_cmpR op_ne (pe_cmpR op_isN (pe_call okr hr20 rfl mr kr br .nil passE0 (pa_cons (pv 8) (pa_cons pe_str pa_nil))) pe_non (nomark _)) (pv 7) (nomark _)) (pss_one (ps_ret pe_bl)) pss_nil)
      (pss_one (ps_ret (pe_call okw hr rfl mw kw bw .nil pass0 (pa_cons (pv 0) (pa_cons (pv 8) (pa_cons (pv 6) (pa_cons (pv 7) pa_nil)))))))))))))))), ?_⟩
    refine ⟨_, rfl, by decide, by decide, fun D hD => ?_⟩
    have hDa := tape_ne hT hD
    refine lc_range (lo := 0) (n := 6) (fun i H' => Kp a H H' ∧ (∃ c, TapeAt H' a c ts) ∧ ∃ b : Nat → Bool, H' D = some (.lst (((List.range i).filter b).map vInt))) ⟨kp_same (same_new hD), ⟨_, hT.upd hDa⟩, fun _ => true, upd_same⟩ ?_ ?_
    · rintro i H1 hi ⟨kp, ⟨c1, hT1⟩, b, hL⟩
      rw [Int.zero_add]
      refine ⟨rfl, _, rfl, _, rfl, a, c1, ts, 6, rfl, hT1, by decide, fun H2 c2 r hr2 h2 hT2 => ⟨rfl, _, rfl, ite2 (fun z => ?_) (fun z => ?_)⟩⟩
      · refine ⟨_, rfl, _, by rw [h2 D hDa]; exact hL, ?_, (kp.trans (Kp.of h2)).upd hD, ⟨_, hT2.upd hDa⟩, (fun j => if j = i then true else b j), ?_⟩
        · rw [List.length_map]
          have h3 : ((List.range i).filter b).length ≤ (List.range i).length := List.length_filter_le _ _
          rw [List.length_range] at h3
          exact below (m := 100000) (by omega)
        · rw [upd_same, filt_yes, List.map_append]
          rfl
      · refine ⟨kp.trans (Kp.of h2), ⟨_, hT2⟩, (fun j => if j = i then false else b j), ?_⟩
        rw [filt_no, h2 D hDa]
        exact hL
    · rintro H1 ⟨kp, ⟨c1, hT1⟩, b, hL⟩
      refine ⟨small (m := 1) (Nat.zero_le _), fun q hq => ?_⟩
      have hqa := tape_ne hT1 hq
      have hqD : D ≠ q := ne_of_none hL hq
      generalize hfs : (List.range 6).filter b = fs at hL
      have hf6 : ∀ p ∈ fs, p < 6 := fun p hp => by
        rw [← hfs] at hp
        exact List.mem_range.mp (List.mem_filter.mp hp).1
      have hfl : fs.length ≤ 6 := by
        rw [← hfs]
        have h3 : ((List.range 6).filter b).length ≤ (List.range 6).length := List.length_filter_le _ _
        rw [List.length_range] at h3
        exact h3
      refine ⟨_, rfl, by decide, by decide, for_range (lo := 0) (n := 64) (fun i σ H' => ∃ y3 : Option V, σ = [some (.ref a), some (.ref D), some (.ref q), y3, none, none, none, none, none, none] ∧ Kp a H H' ∧ TapeAt H' a c1 ts ∧ H' D = some (.lst (fs.map vInt)) ∧ H' q = some (.lst (((List.range i).filter fun m => decide (hasN fs m = onesN m 12)).map vInt)))
        ⟨none, rfl, kp.upd (kp.free hT1 hq), hT1.upd hqa, by rw [upd_ne hqD]; exact hL, upd_same⟩ ?_ ?_⟩
      · rintro i σ H2 hi ⟨y3, rfl, kp2, hT2, hL2, hQ2⟩
        rw [Int.zero_add]
        have hq0 := (kp.free hT1 hq)
        refine ⟨_, rfl, D, rfl, ⟨_, SqL.of hL2⟩, fun R hR => ?_⟩
        refine lc_list (K := K) (a := D) (xs := fs.map vInt) (fun j H' => Same H2 H' ∧ H' R = some (.lst (((fs.take j).filter fun p => decide (i / 2 ^ p % 2 = 1)).map vInt))) ⟨same_new hR, upd_same⟩ ?_ ?_ ?_
        · rintro j H3 hj ⟨sm, _⟩
          exact SqL.of (sm _ _ hL2)
        · rintro j x H3 hx ⟨sm, hR3⟩
          obtain ⟨hj, rfl⟩ := item hx
          have hp6 := hf6 _ (List.getElem_mem hj)
          have hpw : 2 ^ fs[j] ≤ 2 ^ 6 := Nat.pow_le_pow_right (by decide) (by omega)
          refine ⟨rfl, _, rfl, _, rfl, fs[j], rfl, by omega, i, 2 ^ fs[j], rfl, rfl, ⟨Nat.two_pow_pos _, by omega⟩, .inl ⟨_, rfl, _, _, rfl, rfl, (by show (2 : Int) ≠ 0; decide), rfl, _, rfl, ?_⟩⟩
          have e0 : (((i / 2 ^ fs[j] : Nat) : Int).fmod 2) = ((i / 2 ^ fs[j] % 2 : Nat) : Int) := fmod2 _
          refine ite2 (fun z => ?_) (fun z => ?_)
          · have z1 : i / 2 ^ fs[j] % 2 = 1 := by
              have z3 := V.int.inj (of_decide_eq_true z)
              omega
            refine ⟨_, rfl, _, hR3, ?_, same_upd sm hR, ?_⟩
            · rw [List.length_map]
              have h3 : ((fs.take j).filter fun p => decide (i / 2 ^ p % 2 = 1)).length ≤ (fs.take j).length := List.length_filter_le _ _
              rw [List.length_take] at h3
              exact below (m := 100000) (by omega)
            · rw [upd_same, take_more hj, List.filter_append, List.filter_cons_of_pos (by exact decide_eq_true z1), List.map_append]
              rfl
          · have z1 : ¬ i / 2 ^ fs[j] % 2 = 1 := fun q => z (by rw [decide_eq_true_iff]; show V.int _ = V.int _; rw [e0, q]; rfl)
            refine ⟨sm, ?_⟩
            rw [take_more hj, List.filter_append, List.filter_cons_of_neg (by rw [decide_eq_true_eq]; exact z1), List.filter_nil, List.append_nil]
            exact hR3
        · rintro H3 ⟨sm, hR3⟩
          rw [List.length_map, List.take_length] at hR3
          refine ⟨R, _, rfl, .inl (SqL.of hR3), _, rfl, i, rfl, rfl, _, rfl, ?_⟩
          have el : ((((fs.filter fun p => decide (i / 2 ^ p % 2 = 1)).map vInt).length : Nat) : Int) = ((hasN fs i : Nat) : Int) := by
            rw [List.length_map]
            rfl
          rw [el]
          have e1 : (List.range (i + 1)).filter (fun m => decide (hasN fs m = onesN m 12)) = (List.range i).filter (fun m => decide (hasN fs m = onesN m 12)) ++ [i].filter (fun m => decide (hasN fs m = onesN m 12)) := by
            rw [List.range_succ, List.filter_append]
          have kp3 := kp2.trans (kp_same sm)
          refine ite2 (fun z => ?_) (fun z => ?_)
          · have z1 : hasN fs i = onesN i 12 := Int.ofNat.inj (V.int.inj (of_decide_eq_true z))
            refine ⟨_, rfl, .inl ⟨rfl, _, SqL.of (sm _ _ hQ2)⟩, _, rfl, q, _, _, rfl, rfl, sm _ _ hQ2, ?_, some (vInt i), rfl, kp3.upd hq0, (hT2.same sm).upd hqa, by rw [upd_ne hqD]; exact sm _ _ hL2, ?_⟩
            · rw [List.length_map]
              have h3 : ((List.range i).filter fun m => decide (hasN fs m = onesN m 12)).length ≤ (List.range i).length := List.length_filter_le _ _
              rw [List.length_range] at h3
              exact below (m := 100000) (by omega)
            · rw [upd_same, e1, List.filter_cons_of_pos (by exact decide_eq_true z1), List.map_append]
              rfl
          · have z1 : ¬ hasN fs i = onesN i 12 := fun q => z (by rw [decide_eq_true_iff, q])
            refine ⟨some (vInt i), rfl, kp3, hT2.same sm, sm _ _ hL2, ?_⟩
            rw [e1, List.filter_cons_of_neg (by rw [decide_eq_true_eq]; exact z1), List.filter_nil, List.append_nil]
            exact sm _ _ hQ2
      · rintro σ H2 ⟨y3, rfl, kp2, hT2, hL2, hQ2⟩
        have ems : ∃ ms, ms = within fs := ⟨_, rfl⟩
        obtain ⟨ms, ems⟩ := ems
        have hQ2 : H2 q = some (.lst (ms.map vInt)) := by rw [ems]; exact hQ2
        have hms : Masks 6 ms := by rw [ems]; exact within_masks fs
        have hcl : Closed ms := by rw [ems, ← hfs]; exact within_closed b
        have h0 : 0 ∈ ms := by rw [ems, ← hfs]; exact within_zero b
        have hlen : ms.length ≤ 64 := by
          rw [ems]
          have h3 : (within fs).length ≤ (List.range 64).length := List.length_filter_le _ _
          rw [List.length_range] at h3
          exact h3
        have hpos : 0 < ms.length := List.length_pos_of_mem h0
        have hq0 := kp.free hT1 hq
        -- the box's family
        refine ⟨_, rfl, q, ms, rfl, SqL.of hQ2, by omega, fun H3 p xs s3 hp hxs hL x dx hx hdx hne => ?_⟩
        refine ⟨x, dx, p, 6, xs, ms, rfl, upd_same, by rw [upd_ne hne]; exact upd_same, SqL.of (made_new hx hdx _ _ hxs), hL.same (made_new hx hdx), by decide, by decide, hms, fun H4 k4 hAt => ⟨rfl, ?_⟩⟩
        have s24 := s3.trans (made_same hx hdx k4)
        refine ⟨_, rfl, x, 6, ms, _, rfl, hAt, hms, by decide, by decide, .inl ⟨rfl, fun H5 os ho s5 => ⟨fun _ => ?_, fun x' y z p1 q1 q2 q3 e => by rw [(closed_iff hms.lt ho).mpr hcl] at e; cases e⟩⟩⟩
        refine ⟨rfl, _, rfl, iteF ?_⟩
        refine ⟨_, rfl, x, 6, ms, _, rfl, I.same hAt s5, hms, by decide, by decide, .inl ⟨rfl, fun v H6 s6 told => ?_⟩⟩
        rcases told with ⟨rfl, _⟩ | ⟨ncl, _⟩
        case inr => exact absurd hcl ncl
        refine ⟨rfl, _, rfl, iteF ?_⟩
        have s26 := (s24.trans s5).trans s6
        -- the lot that goes
        refine ⟨_, rfl, _, rfl, _, rfl, q, _, rfl, .inl (SqL.of (s26 _ _ hQ2)), a, c1, ts, (ms.map vInt).length, rfl, hT2.same s26, by rw [List.length_map]; exact hpos, fun H7 c7 r hr7 h7 hT7 => ?_⟩
        rw [List.length_map] at hr7
        have hQ7 : H7 q = some (.lst (ms.map vInt)) := by rw [h7 q hqa]; exact s26 _ _ hQ2
        have kp7 := (kp2.trans (kp_same s26)).trans (Kp.of h7)
        refine ⟨q, _, _, vInt ms[r], rfl, rfl, SqL.of hQ7, atI_nat (j := r) (by rw [List.getElem?_map, List.getElem?_eq_getElem hr7]; rfl), ?_⟩
        generalize hg : ms[r] = g
        refine ⟨_, rfl, q, rfl, ⟨_, SqL.of hQ7⟩, fun R hR => ?_⟩
        have hRa := tape_ne hT7 hR
        refine lc_list (K := K) (a := q) (xs := ms.map vInt) (fun j H' => Same H7 H' ∧ H' R = some (.lst (((ms.take j).filter fun m => decide (m ≠ g)).map vInt))) ⟨same_new hR, upd_same⟩ ?_ ?_ ?_
        · rintro j H8 hj ⟨sm, _⟩
          exact SqL.of (sm _ _ hQ7)
        · rintro j x H8 hx ⟨sm, hR8⟩
          obtain ⟨hj, rfl⟩ := item hx
          refine ⟨rfl, _, rfl, _, rfl, rfl, _, rfl, ite2 (fun z => ?_) (fun z => ?_)⟩
          · have z1 : ms[j] ≠ g := fun e => by
              rw [decide_eq_true (show V.int ((ms[j] : Nat) : Int) = V.int ((g : Nat) : Int) by rw [e])] at z
              cases z
            refine ⟨_, rfl, _, hR8, ?_, same_upd sm hR, ?_⟩
            · rw [List.length_map]
              have h3 : ((ms.take j).filter fun m => decide (m ≠ g)).length ≤ (ms.take j).length := List.length_filter_le _ _
              rw [List.length_take] at h3
              exact below (m := 100000) (by omega)
            · rw [upd_same, take_more hj, List.filter_append, List.filter_cons_of_pos (by exact decide_eq_true z1), List.map_append]
              rfl
          · have z1 : ¬ ms[j] ≠ g := fun e => z (by rw [decide_eq_false (show ¬ V.int ((ms[j] : Nat) : Int) = V.int ((g : Nat) : Int) from fun q => e (Int.ofNat.inj (V.int.inj q)))]; rfl)
            refine ⟨sm, ?_⟩
            rw [take_more hj, List.filter_append, List.filter_cons_of_neg (by rw [decide_eq_true_eq]; exact z1), List.filter_nil, List.append_nil]
            exact hR8
        · rintro H8 ⟨sm, hR8⟩
          rw [List.length_map, List.take_length] at hR8
          generalize erest : ms.filter (fun m => decide (m ≠ g)) = rest at hR8
          have hrm : Masks 6 rest := by
            rw [← erest]
            exact ⟨fun m hm => hms.lt m (List.mem_filter.mp hm).1, hms.nd.filter _⟩
          have hrl : rest.length ≤ 64 := by
            rw [← erest]
            have h3 : (ms.filter fun m => decide (m ≠ g)).length ≤ ms.length := List.length_filter_le _ _
            omega
          refine ⟨fun σ' H' => ∃ c : Bool, σ' = [some (.ref a), some (.ref D), some (.ref q), y3, some (.ref x), some (vInt g), some (.ref R), some (.bl c), none, none] ∧ (c = true ↔ Closed rest) ∧ Same H8 H', ?_, ?_⟩
          · refine ⟨_, rfl, R, rest, 6, rfl, SqL.of hR8, by decide, by decide, fun H9 os ho s9 => ⟨fun hn => ?_, fun x' y z p' e hp' ht => ?_⟩⟩
            · exact ⟨rfl, true, rfl, ⟨fun _ => (closed_iff hrm.lt ho).mp hn, fun _ => rfl⟩, s9⟩
            · refine ⟨rfl, false, rfl, ⟨(fun q => by cases q), fun q => ?_⟩, s9⟩
              rw [(closed_iff hrm.lt ho).mpr q] at e
              cases e
          · rintro _ H9 ⟨c, rfl, hc, s9⟩
            have hR9 := s9 _ _ hR8
            refine ⟨_, rfl, R, _, rfl, SqL.of hR9, fun p2 hp2 => ?_⟩
            refine ⟨p2, rest.reverse, rfl, SqL.of (by rw [upd_same, List.map_reverse]), by rw [List.length_reverse]; omega, fun H10 p3 xs3 s10 hp3 hxs3 hL3 y dy hy hdy hne2 => ?_⟩
            have hrr : Masks 6 rest.reverse := ⟨fun m hm => hrm.lt m (List.mem_reverse.mp hm), (List.reverse_perm rest).nodup_iff.mpr hrm.nd⟩
            refine ⟨y, dy, p3, 6, xs3, rest.reverse, rfl, upd_same, by rw [upd_ne hne2]; exact upd_same, SqL.of (made_new hy hdy _ _ hxs3), hL3.same (made_new hy hdy), by decide, by decide, hrr, fun H11 k11 hAt2 => ⟨rfl, ?_⟩⟩
            have s811 : Same H8 H11 := ((s9.trans (same_new hp2)).trans s10).trans (made_same hy hdy k11)
            have fin : ∀ {H' : Hp}, Same H11 H' → spWeightsOk At [.ref a, .ref y, .ref R, .bl c] H' Q E0 := fun {H'} s12 => by
              have s := (sm.trans s811).trans s12
              exact ⟨a, y, R, c, c7, ts, 6, rest, rfl, hT7.same s, I.perm (I.same hAt2 s12) (List.reverse_perm rest), s12 _ _ (s811 _ _ hR8), hRa, hrm, by decide, by decide, by omega, hc, fun H13 c13 kp13 hT13 => k H13 c13 ((kp7.trans (kp_same s)).trans kp13) hT13⟩
            refine ⟨_, rfl, y, 6, rest.reverse, _, rfl, hAt2, hrr, by decide, by decide, .inl ⟨rfl, fun H12 os ho s12 => ⟨fun hn => ?_, fun x' y' z' p' q1 q2 q3 e _ _ _ _ => ?_⟩⟩⟩
            · have ec : c = true := hc.mpr ((Closed.perm (List.reverse_perm rest)).mp ((closed_iff hrr.lt ho).mp hn))
              subst ec
              exact ⟨rfl, _, rfl, rfl, _, rfl, iteF ⟨_, rfl, _, rfl, _, rfl, _, rfl, fin s12⟩⟩
            · have ec : c = false := Bool.eq_false_iff.mpr fun q => by
                rw [(closed_iff hrr.lt ho).mpr ((Closed.perm (List.reverse_perm rest)).mpr (hc.mp q))] at e
                cases e
              subst ec
              exact ⟨rfl, _, rfl, rfl, _, rfl, iteF ⟨_, rfl, _, rfl, _, rfl, _, rfl, fin s12⟩⟩
end
end Fam
/-! The law's own def. -/
namespace Fam
open PySem L2
open C8 (pss_cut tCut)

/-! ### the order is one -/
theorem uniq_of {R : Nat → Nat → Prop} : ∀ {l m : List Nat}, (∀ a b, a ∈ l → b ∈ l → R a b → R b a → a = b) → l.Pairwise R → m.Pairwise R → l.Perm m → l = m
  | [], m, _, _, _, p => (List.Perm.eq_nil p.symm).symm
  | a :: l, [], _, _, _, p => absurd p.length_eq (by simp)
  | a :: l, b :: m, anti, hl, hm, p => by
    obtain ⟨hl1, hl2⟩ := List.pairwise_cons.mp hl
    obtain ⟨hm1, hm2⟩ := List.pairwise_cons.mp hm
    have hb : b ∈ a :: l := p.mem_iff.mpr List.mem_cons_self
    have ha : a ∈ b :: m := p.mem_iff.mp List.mem_cons_self
    have e : a = b := by
      rcases List.mem_cons.mp ha with e | h1
      · exact e
      · rcases List.mem_cons.mp hb with e | h2
        · exact e.symm
        · exact anti a b List.mem_cons_self hb (hl1 b h2) (hm1 a h1)
    subst e
    rw [uniq_of (fun x y hx hy => anti x y (List.mem_cons_of_mem _ hx) (List.mem_cons_of_mem _ hy)) hl2 hm2 p.cons_inv]
theorem lex_tot : ∀ xs ys : List Int, HT.lexLt xs ys = false → HT.lexLt ys xs = false → xs = ys
  | [], [], _, _ => rfl
  | [], y :: ys, h, _ => by rw [HT.lexLt_nil_cons] at h; cases h
  | x :: xs, [], _, h => by rw [HT.lexLt_nil_cons] at h; cases h
  | x :: xs, y :: ys, h1, h2 => by
    rw [HT.lexLt_cons] at h1 h2
    by_cases e : x = y
    · rw [if_pos e] at h1
      rw [if_pos e.symm] at h2
      rw [e, lex_tot xs ys h1 h2]
    · rw [if_neg e] at h1
      rw [if_neg (Ne.symm e)] at h2
      have a := of_decide_eq_false h1
      have b := of_decide_eq_false h2
      omega
theorem lotI_inj {a b n : Nat} (hn : n ≤ 10) (ha : a < 2 ^ n) (hb : b < 2 ^ n) (h : lotI a = lotI b) : a = b := by
  have le : 2 ^ n ≤ 2 ^ 12 := Nat.pow_le_pow_right (by decide) (by omega)
  have e : lotN a 12 = lotN b 12 := List.map_inj_right (fun _ _ q => Int.ofNat.inj q) |>.mp h
  have e2 := congrArg maskN e
  rw [maskN_lotN, maskN_lotN, Nat.mod_eq_of_lt (by omega), Nat.mod_eq_of_lt (by omega)] at e2
  exact e2
theorem order_uniq {n : Nat} {os os' : List Nat} (hn : n ≤ 10) (h : OrderOf n os) (h' : OrderOf n os') : os = os' := by
  have lt : ∀ a ∈ os, a < 2 ^ n := fun a ha => List.mem_range.mp (h.perm.mem_iff.mp ha)
  exact uniq_of (fun a b ha hb h1 h2 => lotI_inj hn (lt a ha) (lt b hb) (lex_tot _ _ h2 h1)) h.srt h'.srt (h.perm.trans h'.perm.symm)

/-! ### what is compared, as data -/
abbrev dLot (m : Nat) : PyData := .tuple ((lotI m).map PyData.int)
def dTold : Option (Nat × Nat × Nat) → PyData
  | none => .none
  | some (x, y, z) => .tuple [dLot x, dLot y, dLot z]
theorem can_ints (l : List Int) : PyData.canLayAll0 (l.map PyData.int) = true := by
  induction l with
  | nil => rfl
  | cons x l ih => simp [PyData.canLayAll0, PyData.canLay0, ih]
theorem depth_ints (l : List Int) : PyData.depthAll (l.map PyData.int) ≤ 1 := by
  induction l with
  | nil => simp [PyData.depthAll]
  | cons x l ih =>
    simp only [List.map_cons, PyData.depthAll, PyData.depth]
    omega
theorem can_lot (m : Nat) : (dLot m).canLay0 = true := by
  simp only [PyData.canLay0]
  exact can_ints _
theorem depth_lot (m : Nat) : (dLot m).depth ≤ 3 := by
  simp only [PyData.depth]
  have := depth_ints (lotI m)
  omega
theorem can_lots (ms : List Nat) : PyData.canLayAll0 (ms.map dLot) = true := by
  induction ms with
  | nil => rfl
  | cons x l ih =>
    rw [List.map_cons]
    simp only [PyData.canLayAll0, ih, can_lot, Bool.and_self]
theorem depth_lots (ms : List Nat) : PyData.depthAll (ms.map dLot) ≤ 3 := by
  induction ms with
  | nil => simp [PyData.depthAll]
  | cons x l ih =>
    rw [List.map_cons]
    simp only [PyData.depthAll]
    have := depth_lot x
    omega
theorem shaped_lots (ms : List Nat) : SeqAt.shaped (.list (ms.map dLot)) = true := by
  unfold SeqAt.shaped
  have := depth_lots ms
  rw [Bool.and_eq_true]
  exact ⟨by simp only [PyData.canLay0]; exact can_lots ms, decide_eq_true (by simp only [PyData.depth]; omega)⟩
theorem shaped_told (o : Option (Nat × Nat × Nat)) : SeqAt.shaped (dTold o) = true := by
  match o with
  | none => rfl
  | some (x, y, z) =>
    have c := can_lots [x, y, z]
    have d := depth_lots [x, y, z]
    show SeqAt.shaped (.tuple ([x, y, z].map dLot)) = true
    unfold SeqAt.shaped
    rw [Bool.and_eq_true]
    exact ⟨by simp only [PyData.canLay0]; exact c, decide_eq_true (by simp only [PyData.depth]; omega)⟩
theorem dp_ints {K : PySem.W.Frag} {H : Hp} : ∀ l : List Int, DpAll K H (l.map V.int) (l.map PyData.int)
  | [] => .nil
  | _ :: l => .cons (.int _) (dp_ints l)
theorem dp_lot {K : PySem.W.Frag} {H : Hp} {p : Addr} {m : Nat} (h : H p = some (.tup (lotV m))) : Dp K H (.ref p) (dLot m) := by
  rw [lotV_eq] at h
  exact .tup (SqT.of h) (dp_ints _)
theorem dp_lots {K : PySem.W.Frag} {H : Hp} : ∀ {xs : List V} {ms : List Nat}, LotsAt H xs ms → DpAll K H xs (ms.map dLot)
  | [], [], _ => .nil
  | v :: vs, m :: ms, h => by
    obtain ⟨⟨p, rfl, h1⟩, h2⟩ := h
    exact .cons (dp_lot h1) (dp_lots h2)
/-- what broken told -/
def ToldBy (H : Hp) (o : Option (Nat × Nat × Nat)) (v : V) : Prop :=
  match o with
  | none => v = .non
  | some (x, y, z) => ∃ p q1 q2 q3, v = .ref p ∧ H p = some (.tup [.ref q1, .ref q2, .ref q3]) ∧ H q1 = some (.tup (lotV x)) ∧ H q2 = some (.tup (lotV y)) ∧ H q3 = some (.tup (lotV z))
theorem ToldBy.same {H H' : Hp} {o : Option (Nat × Nat × Nat)} {v : V} (h : ToldBy H o v) (s : Same H H') : ToldBy H' o v := by
  match o, h with
  | none, h => exact h
  | some (x, y, z), ⟨p, q1, q2, q3, e, h0, h1, h2, h3⟩ => exact ⟨p, q1, q2, q3, e, s _ _ h0, s _ _ h1, s _ _ h2, s _ _ h3⟩
theorem ToldBy.keep {H H' : Hp} {a : Addr} {xs : List V} {o : Option (Nat × Nat × Nat)} {v : V} (h : ToldBy H o v) (ha : H a = some (.lst xs)) (k : Kp a H H') : ToldBy H' o v := by
  match o, h with
  | none, h => exact h
  | some (x, y, z), ⟨p, q1, q2, q3, e, h0, h1, h2, h3⟩ => exact ⟨p, q1, q2, q3, e, k _ _ (ne_of h0 ha (by intro z; cases z)) h0, k _ _ (ne_of h1 ha (by intro z; cases z)) h1, k _ _ (ne_of h2 ha (by intro z; cases z)) h2, k _ _ (ne_of h3 ha (by intro z; cases z)) h3⟩
theorem ToldBy.dp {K : PySem.W.Frag} {H : Hp} {o : Option (Nat × Nat × Nat)} {v : V} (h : ToldBy H o v) : Dp K H v (dTold o) := by
  match o, h with
  | none, h =>
    rw [show v = .non from h]
    exact .non
  | some (x, y, z), ⟨p, q1, q2, q3, e, h0, h1, h2, h3⟩ =>
    rw [e]
    exact .tup (SqT.of h0) (.cons (dp_lot h1) (.cons (dp_lot h2) (.cons (dp_lot h3) .nil)))
theorem eqv_same {d : PyData} (h : SeqAt.shaped d = true) : PyData.eqv d d = true := by
  unfold SeqAt.shaped at h
  rw [Bool.and_eq_true] at h
  exact PySem.SeqAt.eqv_refl d h.1
end Fam
/-! The law's own def, over the promises. -/
namespace Fam
open PySem L2
open C8 (pss_cut tCut)
open ClX (pe_cval)

def spWord (At : Hp → Addr → Nat → List Nat → Prop) : Sp := fun vs H Q _ => ∃ (d : Int) (f : Addr) (n : Nat) (ms : List Nat) (v : V), vs = [.int d, .ref f, v] ∧ At H f n ms ∧ Masks n ms ∧ 1 ≤ n ∧ n ≤ 10 ∧ ((d = 0 ∧ badAll v) ∨ (d = 1 ∧ badTold v)) ∧ ∀ H', Same H H' → Q (.str "word") H'
/-- Family.WORDS -/
structure Words (K : PySem.W.Frag) (C : Addr) : Prop where
  ex : ∃ (mc u : Value) (t : Addr), ClX.CRead K C mc ∧ ClX.CVal K C mc "WORDS" (.ref t) u ∧ ∀ H, SqT K H t [.str "box", .str "or", .str "and", .str "two", .str "even"]
def spLaw (K : PySem.W.Frag) : Sp := fun vs H Q _ => ∃ (a : Addr) (ns : List Int), vs = [.ref a] ∧ SqL K H a (ns.map V.int) ∧ ns.length ≤ 63 ∧ ∀ H', Q (.bl true) H'

theorem nodup_len : ∀ (N : Nat) (l : List Nat), l.Nodup → (∀ m ∈ l, m < N) → l.length ≤ N
  | 0, l, _, h => by
    cases l with
    | nil => exact Nat.le_refl _
    | cons x l => exact absurd (h x List.mem_cons_self) (Nat.not_lt_zero x)
  | N + 1, l, nd, h => by
    by_cases e : N ∈ l
    · have q := nodup_len N (l.erase N) (nd.erase N) (fun m hm => by
        have := nd.mem_erase_iff.mp hm
        have := h m this.2
        omega)
      rw [List.length_erase_of_mem e] at q
      omega
    · have q := nodup_len N l nd (fun m hm => by
        have h1 := h m hm
        have h2 : m ≠ N := fun z => e (by rw [← z]; exact hm)
        omega)
      omega
theorem LotsAt.keep {H H' : Hp} {a : Addr} {ys : List V} (ha : H a = some (.lst ys)) (k : Kp a H H') : ∀ {vs : List V} {ms : List Nat}, LotsAt H vs ms → LotsAt H' vs ms
  | [], [], h => h
  | v :: vs, m :: ms, h => by
    obtain ⟨⟨p, e, h1⟩, h2⟩ := h
    exact ⟨⟨p, e, k _ _ (ne_of h1 ha (by intro z; cases z)) h1⟩, h2.keep ha k⟩
/-- what the law holds in its heap -/
structure LawH (At : Hp → Addr → Nat → List Nat → Prop) (H : Hp) (t : Addr) (ts : List Int) (n : Nat) (m : Addr) (ms : List Nat) (l f : Addr) : Prop where
  tape : ∃ c, TapeAt H t c ts
  row : H m = some (.lst (ms.map vInt))
  mt : m ≠ t
  lots : ∃ xs, H l = some (.lst xs) ∧ LotsAt H xs ms
  lt : l ≠ t
  fam : At H f n ms
/-- the due find -/
def DueAt (H : Hp) (o : Option (Nat × Nat × Nat)) (v : V) : Prop :=
  match o with
  | none => v = .non
  | some (x, y, z) => ∃ p, v = .ref p ∧ H p = some (.tup [vInt x, vInt y, vInt z])
theorem DueAt.same {H H' : Hp} {o : Option (Nat × Nat × Nat)} {v : V} (h : DueAt H o v) (s : Same H H') : DueAt H' o v := by
  match o, h with
  | none, h => exact h
  | some (x, y, z), ⟨p, e, h0⟩ => exact ⟨p, e, s _ _ h0⟩
theorem DueAt.non {H : Hp} {o : Option (Nat × Nat × Nat)} {v : V} (h : DueAt H o v) : decide (v = .non) = true ↔ o = none := by
  rw [decide_eq_true_iff]
  match o, h with
  | none, h => exact ⟨fun _ => rfl, fun _ => h⟩
  | some (x, y, z), ⟨p, e, _⟩ =>
    rw [e]
    exact ⟨(fun q => by cases q), (fun q => by cases q)⟩
abbrev lawS (a t : Addr) (n : Nat) (m l f : Addr) (y6 y7 y8 y9 : Option V) : St := [some (.ref a), some (.ref t), some (vInt n), some (.ref m), some (.ref l), some (.ref f), y6, y7, y8, y9, none, none]

theorem wordne {A B : Prop} (h : B) : if (!decide (V.str "word" = V.str "word")) = true then A else B := by
  rw [decide_eq_true rfl]
  exact iteF h
theorem rg_eq : rgV 0 1024 = (List.range 1024).map vInt := by
  unfold rgV
  rw [show ((1024 : Int) - 0).toNat = 1024 from rfl]
  exact List.map_congr_left fun i _ => by rw [Int.zero_add]
theorem masks10 : Masks 10 (List.range 1024) := ⟨fun m hm => List.mem_range.mp hm, List.nodup_range⟩
theorem closed10 : Closed (List.range 1024) := fun x hx y hy z _ h2 => List.mem_range.mpr (in_lt (n := 10) h2 (Nat.or_lt_two_pow (n := 10) (List.mem_range.mp hx) (List.mem_range.mp hy)))
abbrev ws10 : List Int := [1, 1, 1, 1, 1, 1, 1, 1, 1, -1]
theorem best10 : bestOf ws10 (List.range 1024) = some 9 := by
  rw [box_best (ws := ws10) closed10 (fun e => by cases e) masks10.lt]
  have e : placeSum (List.range 1024) ws10 = 9 := by decide +kernel
  rw [e]
abbrev dWords : PyData := .tuple [.str "box", .str "or", .str "and", .str "two", .str "even"]
theorem dp_words {K : PySem.W.Frag} {H : Hp} : DpAll K H [.str "box", .str "or", .str "and", .str "two", .str "even"] [.str "box", .str "or", .str "and", .str "two", .str "even"] := .cons (.str _) (.cons (.str _) (.cons (.str _) (.cons (.str _) (.cons (.str _) .nil))))

section
variable {P : Program} {w : World} {K : PySem.W.Frag} {mg : Str → Option Value} {base : Heap} {C B : Addr} {At : Hp → Addr → Nat → List Nat → Prop}
theorem LawH.same (I : FamFacts P w K mg base C B At) {H H' : Hp} {t m l f : Addr} {ts : List Int} {n : Nat} {ms : List Nat} (h : LawH At H t ts n m ms l f) (s : Same H H') : LawH At H' t ts n m ms l f := by
  obtain ⟨⟨c, h1⟩, h2, h3, ⟨xs, h4, h5⟩, h6, h7⟩ := h
  exact ⟨⟨c, h1.same s⟩, s _ _ h2, h3, ⟨xs, s _ _ h4, h5.same s⟩, h6, I.same h7 s⟩
theorem LawH.keep (I : FamFacts P w K mg base C B At) {H H' : Hp} {t m l f : Addr} {ts : List Int} {n c' : Nat} {ms : List Nat} (h : LawH At H t ts n m ms l f) (k : Kp t H H') (hT : TapeAt H' t c' ts) : LawH At H' t ts n m ms l f := by
  obtain ⟨⟨c, h1⟩, h2, h3, ⟨xs, h4, h5⟩, h6, h7⟩ := h
  exact ⟨⟨c', hT⟩, k _ _ h3 h2, h3, ⟨xs, k _ _ h6 h4, h5.keep h1 k⟩, h6, I.keep h7 h1 k⟩
abbrev nLW : List Str := ["_law_script", "_law_tape", "_law_size", "_law_masks", "_law_lots", "_law_family_here", "_law_due", "_law_told", "_law_wrong", "_law_whole_here", "_law_lot_here", "_law_k"]
theorem scLW : FnScope nLW ["_law_script"] (defScope sLaw) := ⟨rfl, rfl, rfl, by decide +kernel, rfl, by decide +kernel, by decide +kernel⟩
theorem ok_law {f : Addr} {fd : FuncData} (F : Fun K "law" "law" sLaw f fd) (L : Helps P w K mg base) (I : FamFacts P w K mg base C B At) (Wd : Words K C)
    (W : Cal P w K mg base 21 "_law_weights_ok" ["_law_tape", "_law_family_here", "_law_masks", "_law_closed"] (spWeightsOk At)) (WG : Cal P w K mg base 22 "_law_large_ok" ["_law_tape"] spLargeOk)
    (WW : Cal P w K mg base 22 "_law_word" ["_law_door", "_law_family_here", "_law_word_here"] (spWord At)) : FnOk P w K mg base CX0 23 f fd ["_law_script"] (spLaw K) := by
  have T := L.bare
  obtain ⟨gr, grd, okr, br, kr, mr⟩ := I.broken.ex
  obtain ⟨gi, gid, Mi, oki, bi⟩ := I.make
  obtain ⟨gm, gmd, Me, okm, bm⟩ := I.top
  obtain ⟨gc, gcd, okc, bc, kc, mc⟩ := L.draws.ex
  obtain ⟨gt, gtd, okt, bt, kt, mt⟩ := L.take.ex
  obtain ⟨gf, gfd, okf, bf, kf, mf⟩ := L.drawnMasks.ex
  obtain ⟨gl, gld, okl, bl, kl, ml⟩ := L.lotsOf.ex
  obtain ⟨gd, gdd, okd, bd, kd, md⟩ := L.boxDue.ex
  obtain ⟨gs, gsd, oks, bs, ks, ms⟩ := L.shown.ex
  obtain ⟨gw, gwd, okw, bw, kw, mw⟩ := W.ex
  obtain ⟨gg, ggd, okg, bg, kg, mg1⟩ := WG.ex
  obtain ⟨gx, gxd, okx, bx, kx, mx⟩ := WW.ex
  obtain ⟨wc, wu, wt, wr, wv, wS⟩ := Wd.ex
  refine F.ok scLW (fun vs H Q E h => ?_) (fun cdv A outer s H vs Q E hr h => ?_)
  · obtain ⟨a, ns, rfl, _⟩ := h
    rfl
  · obtain ⟨a, ns, rfl, hS, hl, k⟩ := h
    have hr1 := hr.mono (j := 1) (by decide)
    have hr2 := hr.mono (j := 2) (by decide)
    have hr3 := hr.mono (j := 3) (by decide)
    have hr4 := hr.mono (j := 4) (by decide)
    have hr20 := hr.mono (j := 20) (by decide)
    have hr21 := hr.mono (j := 21) (by decide)
    refine ⟨_, pss_cons (ps_set (i := 1) scLW.nd rfl (Or.inl rfl) (pe_call okc hr1 rfl mc kc bc .nil pass0 (pa_cons (pv 0) pa_nil)))
      (pss_cons (ps_set (i := 2) scLW.nd rfl (Or.inl rfl) (pe_op op_add pe_int (pe_call okt hr1 rfl mt kt bt .nil pass0 (pa_cons (pv 1) (pa_cons pe_int pa_nil)))))
      (pss_cons (ps_set (i := 3) scLW.nd rfl (Or.inl rfl) (pe_call okf hr3 rfl mf kf bf .nil pass0 (pa_cons (pv 1) (pa_cons (pv 2) pa_nil))))
      (pss_cons (ps_set (i := 4) scLW.nd rfl (Or.inl rfl) (pe_call okl hr2 rfl ml kl bl .nil pass0 (pa_cons (pv 3) pa_nil)))
      (pss_cons (ps_set (i := 5) scLW.nd rfl (Or.inl rfl) (pe_make Mi oki hr20 rfl I.mgC bi .nil passE0 (pa_cons (pv 2) (pa_cons (pv 4) pa_nil))))
      (pss_cut (ps_set (i := 6) scLW.nd rfl (Or.inl rfl) (pe_call okd hr4 rfl md kd bd .nil pass0 (pa_cons (pv 3) (pa_cons (pv 2) pa_nil))))
      (pss_cut (ps_set (i := 7) scLW.nd rfl (Or.inl rfl) (pe_call okr hr20 rfl mr kr br .nil passE0 (pa_cons (pv 5) (pa_cons pe_str pa_nil))))
      (pss_cut (ps_if (pt_cmpR (op_neD hr.units) (pv 7) (pe_call oks hr2 rfl ms ks bs .nil pass0 (pa_cons (pv 6) pa_nil)) (nomark _)) (pss_one (ps_ret pe_bl)) pss_nil)
      (pss_cut (ps_if (PW.pt (pw_and (pt_cmpR op_notN (pv 7) pe_non (nomark _)) (pw_and1 (PW.pt (pw_or (pt_not (pt_val (pe_callB call_isi (by rfl) T.isi (by decide +kernel) (pa_cons (pv 7) (pa_cons (pe_ty (n := "tuple") (by rfl) T.tuple (by decide +kernel)) pa_nil)))))
          (pw_or1 (pt_cmpR op_gt (pe_callB call_len_seq (by rfl) T.len PySem.boot_len (pa_cons (pe_lc (own := [("_law_lot_here", 10)]) (g := gName 10) rfl scLW.nd (pi_tup (pv 7)) (blkOk_by (own := [("_law_lot_here", 10)]) (N := nLW) (sc := defScope sLaw) (by decide +kernel)) (fun _ _ _ _ _ => pg_name (i := 10) scLW.nd rfl (Or.inl rfl))
            (fun _ _ _ _ _ => pts_one (pt_not (pt_val (pe_callB (call_isi : CallR _ _ (rIsi K)) (by rfl) T.isi (by decide +kernel) (pa_cons (pv 10) (pa_cons (pe_ty (n := "tuple") (by rfl) T.tuple (by decide +kernel)) pa_nil)))))) (fun _ _ _ _ _ => pv 10)) pa_nil)) pe_int (nomark _)))))))) (pss_one (ps_ret pe_bl)) pss_nil)
      (pss_cons (ps_if (pt_not (pt_val (pe_call okw hr21 rfl mw kw bw .nil pass0 (pa_cons (pv 1) (pa_cons (pv 5) (pa_cons (pv 3) (pa_cons (pe_cmpR op_isN (pv 6) pe_non (nomark _)) pa_nil)))))))
          (pss_one (ps_ret pe_bl)) pss_nil)
      (pss_cut (ps_if (PW.pt (pw_or (pt_cmpR (op_neD hr.units) (pv 4) (pe_call okl hr2 rfl ml kl bl .nil pass0 (pa_cons (pv 3) pa_nil)) (nomark _))
          (pw_or1 (pt_cmpR (op_neD hr.units) (pe_call okr hr20 rfl mr kr br .nil passE0 (pa_cons (pv 5) (pa_cons pe_str pa_nil))) (pv 7) (nomark _))))) (pss_one (ps_ret pe_bl)) pss_nil)
      (pss_cut (ps_set (i := 8) scLW.nd rfl (Or.inl rfl) (pe_ix ix_list (pe_lst (pa_cons pe_str (pa_cons pe_str (pa_cons pe_non (pa_cons pe_int (pa_cons pe_str pa_nil)))))) (pe_call okt hr1 rfl mt kt bt .nil pass0 (pa_cons (pv 1) (pa_cons pe_int pa_nil))) (fun _ _ => rfl)))
      (pss_cons (ps_if (PW.pt (pw_or (pt_cmpR op_ne (pe_call okx hr rfl mx kx bx .nil pass0 (pa_cons pe_int (pa_cons (pv 5) (pa_cons (pv 8) pa_nil)))) pe_str (nomark _))
          (pw_or1 (pt_cmpR op_ne (pe_call okx hr rfl mx kx bx .nil pass0 (pa_cons pe_int (pa_cons (pv 5) (pa_cons (pv 8) pa_nil)))) pe_str (nomark _))))) (pss_one (ps_ret pe_bl)) pss_nil)
      (pss_cons (ps_if (PW.pt (pw_or (pt_cmpR op_ne (pe_call okx hr rfl mx kx bx .nil pass0 (pa_cons pe_int (pa_cons (pv 5) (pa_cons pe_str pa_nil)))) pe_str (nomark _))
          (pw_or1 (pt_cmpR op_ne (pe_call okx hr rfl mx kx bx .nil pass0 (pa_cons pe_int (pa_cons (pv 5) (pa_cons pe_str pa_nil)))) pe_str (nomark _))))) (pss_one (ps_ret pe_bl)) pss_nil)
      (pss_cons (ps_if (pt_cmpR (op_neD hr.units) (pe_cval (pe_glob (v := .ref C) rfl I.mgC rfl) rfl) (pe_tup (pa_cons pe_str (pa_cons pe_str (pa_cons pe_str (pa_cons pe_str (pa_cons pe_str pa_nil)))))) (nomark _)) (pss_one (ps_ret pe_bl)) pss_nil)
      (pss_cut (ps_if (PW.pt (pw_and (pt_cmpR op_eq (pe_call okt hr1 rfl mt kt bt .nil pass0 (pa_cons (pv 1) (pa_cons pe_int pa_nil))) pe_int (nomark _)) (pw_and1 (pt_not (pt_val (pe_call okg hr rfl mg1 kg bg .nil pass0 (pa_cons (pv 1) pa_nil))))))) (pss_one (ps_ret pe_bl)) pss_nil)
      (pss_cons (ps_if (pt_cmpR op_eq (pe_call okt hr1 rfl mt kt bt .nil pass0 (pa_cons (pv 1) (pa_cons pe_int pa_nil))) pe_int (nomark _))
          (pss_cons (ps_set (i := 9) scLW.nd rfl (Or.inl rfl) (pe_make Mi oki hr20 rfl I.mgC bi .nil passE0 (pa_cons pe_int (pa_cons (pe_call okl hr2 rfl ml kl bl .nil pass0 (pa_cons (pe_listRg rfl rfl T.list (prg_1 rfl T.range pe_int)) pa_nil)) pa_nil))))
          (pss_one (ps_ret (pe_and (pe_cmpR op_isN (pe_call okr hr20 rfl mr kr br .nil passE0 (pa_cons (pv 9) (pa_cons pe_str pa_nil))) pe_non (nomark _))
            (pe_one (pe_cmpR op_eq (pe_meth (pv 9) I.cl Me okm hr20 bm .nil passE0 (pa_cons (pe_op op_cat (pe_lc (own := [("_law_k", 11)]) (g := gName 11) (tt := tYes) rfl scLW.nd (pi_range1 rfl T.range (pa_cons pe_int pa_nil)) (blkOk_by (own := [("_law_k", 11)]) (N := nLW) (sc := defScope sLaw) (by decide +kernel)) (fun _ _ _ _ _ => pg_name (i := 11) scLW.nd rfl (Or.inl rfl)) (fun _ _ _ _ _ => pts_nil) (fun _ _ _ _ _ => pe_int))
              (pe_lst (pa_cons (pe_un un_neg pe_int) pa_nil))) pa_nil)) pe_int (nomark _))))))) pss_nil)
      (pss_one (ps_ret pe_bl)))))))))))))))))), ?_⟩
    refine ⟨_, rfl, a, ns, rfl, hS, hl, fun H1 t ts s1 ht hT1 => ?_⟩
    refine ⟨_, rfl, t, 0, ts, 4, rfl, hT1, by decide, fun H2 c2 r hr2' h2 hT2 => ⟨_, _, rfl, rfl, ?_⟩⟩
    refine ⟨_, rfl, _, rfl, t, c2, ts, 1 + r, rfl, hT2, by omega, fun H3 c3 m mks hms kp3 hT3 hm0 hM3 => ?_⟩
    have p2 : 2 ^ (1 + r) ≤ 1024 := pow_le10 (by omega)
    have hlen : mks.length ≤ 1024 := Nat.le_trans (nodup_len _ _ hms.nd hms.lt) p2
    have hmt : m ≠ t := tape_ne hT2 hm0
    refine ⟨_, rfl, m, mks, rfl, SqL.of hM3, by omega, fun H4 l xs s4 hl4 hxs hL4 => ?_⟩
    have hlt : l ≠ t := tape_ne hT3 hl4
    refine ⟨_, rfl, _, rfl, fun x dx hx hdx hne => ⟨x, dx, l, 1 + r, xs, mks, rfl, upd_same, by rw [upd_ne hne]; exact upd_same, SqL.of (made_new hx hdx _ _ hxs), hL4.same (made_new hx hdx), by omega, by omega, hms, fun H5 k5 hAt => ⟨rfl, ?_⟩⟩⟩
    have s5 : Same H4 H5 := made_same hx hdx k5
    have h5 : LawH At H5 t ts (1 + r) m mks l x := ⟨⟨c3, (hT3.same s4).same s5⟩, s5 _ _ (s4 _ _ hM3), hmt, ⟨xs, s5 _ _ hxs, hL4.same s5⟩, hlt, hAt⟩
    refine ⟨fun σ' H' => ∃ os v6, OrderOf (1 + r) os ∧ σ' = lawS a t (1 + r) m l x (some v6) none none none ∧ DueAt H' (boxDue mks os) v6 ∧ Same H5 H', ?_, ?_⟩
    · refine ⟨_, rfl, _, rfl, m, mks, 1 + r, rfl, SqL.of h5.row, by omega, by omega, fun H6 os ho s6 => ⟨fun e => ?_, fun x' y z p e hp ht => ?_⟩⟩
      · exact ⟨os, _, ho, rfl, by rw [e]; exact rfl, s6⟩
      · exact ⟨os, _, ho, rfl, by rw [e]; exact ⟨p, rfl, ht⟩, s6⟩
    rintro _ H6 ⟨os, v6, ho, rfl, hdue, s6⟩
    have h6 := h5.same I s6
    generalize eo : boxDue mks os = o at hdue
    -- what broken tells
    have told0 : ∀ {H'' : Hp} {os' : List Nat}, OrderOf (1 + r) os' → boxDue mks os' = none → ToldBy H'' o .non := fun {H'' os'} ho' e => by
      have e2 := order_uniq (by omega) ho' ho
      subst e2
      rw [← eo, e]
      exact rfl
    have told1 : ∀ {H'' : Hp} {os' : List Nat} {x' y z : Nat} {p q1 q2 q3 : Addr}, OrderOf (1 + r) os' → boxDue mks os' = some (x', y, z) → H'' p = some (.tup [.ref q1, .ref q2, .ref q3]) → H'' q1 = some (.tup (lotV x')) → H'' q2 = some (.tup (lotV y)) → H'' q3 = some (.tup (lotV z)) → ToldBy H'' o (.ref p) :=
      fun {H'' os' x' y z p q1 q2 q3} ho' e g0 g1 g2 g3 => by
        have e2 := order_uniq (by omega) ho' ho
        subst e2
        rw [← eo, e]
        exact ⟨p, q1, q2, q3, rfl, g0, g1, g2, g3⟩
    refine ⟨fun σ' H' => ∃ v7, σ' = lawS a t (1 + r) m l x (some v6) (some v7) none none ∧ ToldBy H' o v7 ∧ Same H6 H', ?_, ?_⟩
    · exact ⟨_, rfl, x, 1 + r, mks, _, rfl, h6.fam, hms, by omega, by omega, .inl ⟨rfl, fun H7 os' ho' s7 => ⟨fun e => ⟨_, rfl, told0 ho' e, s7⟩, fun x' y z p q1 q2 q3 e g0 g1 g2 g3 => ⟨_, rfl, told1 ho' e g0 g1 g2 g3, s7⟩⟩⟩⟩
    rintro _ H7 ⟨v7, rfl, hv7, s7⟩
    have h7 := h6.same I s7
    have hdue7 := hdue.same s7
    refine ⟨fun σ' H' => σ' = lawS a t (1 + r) m l x (some v6) (some v7) none none ∧ Same H7 H', ?_, ?_⟩
    · refine ⟨_, rfl, _, rfl, ?_⟩
      have fin : ∀ {v8 : V} {H8 : Hp} {D : Ends}, Same H7 H8 → Dp K H8 v8 (dTold o) → rNeD K v7 v8 H8 (fun z H' => ∃ k, z = .bl k ∧ if k = true then D.rt (.bl false) H' else (lawS a t (1 + r) m l x (some v6) (some v7) none none = lawS a t (1 + r) m l x (some v6) (some v7) none none ∧ Same H7 H')) := fun {v8 H8 D} s8 d8 => by
        refine ⟨dTold o, dTold o, (hv7.same s8).dp, d8, shaped_told o, shaped_told o, _, rfl, ?_⟩
        rw [eqv_same (shaped_told o)]
        exact iteF ⟨rfl, s8⟩
      cases o with
      | none =>
        have e : v6 = .non := hdue7
        subst e
        exact .inl ⟨rfl, fin (D := { nx := fun _ _ => True, rt := Q }) (Same.refl _) .non⟩
      | some o3 =>
        obtain ⟨x', y, z⟩ := o3
        obtain ⟨p, e, hp⟩ := hdue7
        subst e
        exact .inr ⟨p, [x', y, z], rfl, SqT.of hp, (by show 3 ≤ 100000; decide), fun H8 p8 xs8 s8 _ hx8 hL8 => fin (D := { nx := fun _ _ => True, rt := Q }) s8 (.tup (SqT.of hx8) (dp_lots hL8))⟩
    rintro _ H8 ⟨rfl, s8⟩
    have h8 := h7.same I s8
    have hv8 := hv7.same s8
    have hdue8 := hdue7.same s8
    refine ⟨fun σ' H' => σ' = lawS a t (1 + r) m l x (some v6) (some v7) none none ∧ Same H8 H', ?_, ?_⟩
    · refine ⟨_, rfl, rfl, _, rfl, ?_⟩
      match o, hv8 with
      | none, hd =>
        have e : v7 = .non := hd
        subst e
        exact iteF ⟨rfl, Same.refl _⟩
      | some (x', y, z), ⟨p, q1, q2, q3, e, g0, g1, g2, g3⟩ =>
        subst e
        refine iteT ⟨_, rfl, _, _, _, _, true, rfl, .ty _, .base (.tup g0), kit_ty (by decide +kernel), _, rfl, iteF ?_⟩
        delta tTest tOp tCB tCons
        refine ⟨_, rfl, p, rfl, ⟨_, SqT.of g0⟩, fun D hD => ?_⟩
        refine lc_tup (K := K) (a := p) (xs := [.ref q1, .ref q2, .ref q3]) (fun i H' => Same H8 H' ∧ H' D = some (.lst [])) ⟨same_new hD, upd_same⟩ ?_ ?_ ?_
        · rintro i H9 hi ⟨sm, _⟩
          exact SqT.of (sm _ _ g0)
        · rintro i x9 H9 hx9 ⟨sm, hD9⟩
          have ex : ∃ q mm, x9 = .ref q ∧ H8 q = some (.tup (lotV mm)) := by
            match i, hx9 with
            | 0, hx9 => cases hx9; exact ⟨q1, _, rfl, g1⟩
            | 1, hx9 => cases hx9; exact ⟨q2, _, rfl, g2⟩
            | 2, hx9 => cases hx9; exact ⟨q3, _, rfl, g3⟩
            | i + 3, hx9 => cases hx9
          obtain ⟨q, mm, rfl, hq⟩ := ex
          exact ⟨rfl, _, rfl, _, _, _, _, true, rfl, .ty _, .base (.tup (sm _ _ hq)), kit_ty (by decide +kernel), _, rfl, iteF ⟨sm, hD9⟩⟩
        · rintro H9 ⟨sm, hD9⟩
          exact ⟨D, _, rfl, .inl (SqL.of hD9), _, _, rfl, rfl, _, rfl, iteF ⟨rfl, sm⟩⟩
    rintro _ H9 ⟨rfl, s9⟩
    have h9 := h8.same I s9
    obtain ⟨c9, hT9⟩ := h9.tape
    have hv9 := hv8.same s9
    have hdue9 := hdue8.same s9
    -- the weights
    refine ⟨_, rfl, _, rfl, _, rfl, _, rfl, rfl, t, x, m, decide (v6 = .non), c9, ts, 1 + r, mks, rfl, hT9, h9.fam, h9.row, hmt, hms, by omega, by omega, hlen, ?_, fun H10 c10 kp10 hT10 => ⟨_, rfl, iteF ?_⟩⟩
    · rw [hdue9.non, ← closed_iff hms.lt ho, eo]
    have h10 := h9.keep I kp10 hT10
    have hv10 := hv9.keep hT9 kp10
    refine ⟨fun σ' H' => σ' = lawS a t (1 + r) m l x (some v6) (some v7) none none ∧ Same H10 H', ?_, ?_⟩
    · obtain ⟨xs10, hx10, hL10⟩ := h10.lots
      refine ⟨_, rfl, _, rfl, m, mks, rfl, SqL.of h10.row, by omega, fun H11 p11 xs11 s11 _ hx11 hL11 => ?_⟩
      refine ⟨.list (mks.map dLot), .list (mks.map dLot), .lst (SqL.of (s11 _ _ hx10)) (dp_lots (hL10.same s11)), .lst (SqL.of hx11) (dp_lots hL11), shaped_lots _, shaped_lots _, _, rfl, ?_⟩
      rw [eqv_same (shaped_lots mks)]
      refine iteF ⟨_, rfl, x, 1 + r, mks, _, rfl, (h10.same I s11).fam, hms, by omega, by omega, .inl ⟨rfl, fun H12 os' ho' s12 => ⟨fun e => ?_, fun x' y z p q1 q2 q3 e g0 g1 g2 g3 => ?_⟩⟩⟩
      · refine ⟨_, rfl, dTold o, dTold o, (told0 ho' e).dp, (hv10.same (s11.trans s12)).dp, shaped_told o, shaped_told o, _, rfl, ?_⟩
        rw [eqv_same (shaped_told o)]
        exact iteF ⟨rfl, s11.trans s12⟩
      · refine ⟨_, rfl, dTold o, dTold o, (told1 ho' e g0 g1 g2 g3).dp, (hv10.same (s11.trans s12)).dp, shaped_told o, shaped_told o, _, rfl, ?_⟩
        rw [eqv_same (shaped_told o)]
        exact iteF ⟨rfl, s11.trans s12⟩
    rintro _ H11 ⟨rfl, s11⟩
    have h11 := h10.same I s11
    obtain ⟨c11, hT11⟩ := h11.tape
    refine ⟨fun σ' H' => ∃ v8, σ' = lawS a t (1 + r) m l x (some v6) (some v7) (some v8) none ∧ badAll v8 ∧ badTold v8 ∧ LawH At H' t ts (1 + r) m mks l x, ?_, ?_⟩
    · refine ⟨small (m := 5) (Nat.le_refl _), fun p hp => ?_⟩
      have hpt := tape_ne hT11 hp
      refine ⟨_, rfl, t, c11, ts, 5, rfl, hT11.upd hpt, by decide, fun H12 c12 d hd h12 hT12 => ?_⟩
      have hL : SqL K H12 p [V.str "", .str "xor", .non, .int 0, .str "Box"] := SqL.of (by rw [h12 p hpt]; exact upd_same)
      have hh := h11.keep I ((kp_same (same_new hp)).trans (Kp.of h12)) hT12
      match d, hd with
      | 0, _ => exact ⟨p, _, _, .str "", rfl, rfl, hL, atI_nat (j := 0) rfl, _, rfl, .inl rfl, .inl rfl, hh⟩
      | 1, _ => exact ⟨p, _, _, .str "xor", rfl, rfl, hL, atI_nat (j := 1) rfl, _, rfl, .inr (.inl rfl), .inr (.inl rfl), hh⟩
      | 2, _ => exact ⟨p, _, _, .non, rfl, rfl, hL, atI_nat (j := 2) rfl, _, rfl, .inr (.inr (.inl rfl)), .inr (.inr (.inl rfl)), hh⟩
      | 3, _ => exact ⟨p, _, _, .int 0, rfl, rfl, hL, atI_nat (j := 3) rfl, _, rfl, .inr (.inr (.inr (.inl rfl))), .inr (.inr (.inr (.inl rfl))), hh⟩
      | 4, _ => exact ⟨p, _, _, .str "Box", rfl, rfl, hL, atI_nat (j := 4) rfl, _, rfl, .inr (.inr (.inr (.inr (.inl rfl)))), .inr (.inr (.inr (.inr (.inl rfl)))), hh⟩
    rintro _ H12 ⟨v8, rfl, b1, b2, h12⟩
    refine ⟨_, rfl, _, rfl, 0, x, 1 + r, mks, v8, rfl, h12.fam, hms, by omega, by omega, .inl ⟨rfl, b1⟩, fun H13 s13 => ⟨rfl, _, rfl, wordne ?_⟩⟩
    have h13 := h12.same I s13
    refine ⟨_, rfl, _, rfl, 1, x, 1 + r, mks, v8, rfl, h13.fam, hms, by omega, by omega, .inr ⟨rfl, b2⟩, fun H14 s14 => ⟨rfl, _, rfl, wordne ?_⟩⟩
    have h14 := h13.same I s14
    refine ⟨_, rfl, 1, x, 1 + r, mks, _, rfl, h14.fam, hms, by omega, by omega, .inr ⟨rfl, .inr (.inr (.inr (.inr (.inr rfl))))⟩, fun H15 s15 => ⟨rfl, _, rfl, wordne ?_⟩⟩
    have h15 := h14.same I s15
    refine ⟨_, rfl, 0, x, 1 + r, mks, _, rfl, h15.fam, hms, by omega, by omega, .inl ⟨rfl, .inr (.inr (.inr (.inr (.inr rfl))))⟩, fun H16 s16 => ⟨rfl, _, rfl, wordne ?_⟩⟩
    have h16 := h15.same I s16
    refine ⟨C, wc, .ref wt, wu, rfl, wr, wv, small (m := 5) (Nat.le_refl _), fun p17 hp17 => ⟨dWords, dWords, .tup (wS _) dp_words, .tup (SqT.of upd_same) dp_words, by decide +kernel, by decide +kernel, _, rfl, ?_⟩⟩
    rw [eqv_same (d := dWords) (by decide +kernel)]
    refine iteF ?_
    obtain ⟨c17, hT17⟩ := (h16.same I (same_new hp17)).tape
    refine ⟨fun σ' H' => σ' = lawS a t (1 + r) m l x (some v6) (some v7) (some v8) none ∧ ∃ c, TapeAt H' t c ts, ?_, ?_⟩
    · refine ⟨_, rfl, t, c17, ts, 12, rfl, hT17, by decide, fun H18 c18 d _ _ hT18 => ⟨rfl, _, rfl, ite2 (fun z => ?_) (fun z => ⟨rfl, _, hT18⟩)⟩⟩
      exact ⟨_, rfl, t, c18, ts, rfl, hT18, fun H19 c19 _ hT19 => ⟨_, rfl, iteF ⟨rfl, _, hT19⟩⟩⟩
    rintro _ H18 ⟨rfl, c18, hT18⟩
    refine ⟨_, rfl, t, c18, ts, 24, rfl, hT18, by decide, fun H19 c19 d _ _ hT19 => ⟨rfl, _, rfl, ite2 (fun z => ?_) (fun z => k _)⟩⟩
    refine ⟨1024, rfl, ⟨by decide, by decide, by decide, by decide, by decide⟩, fun q hq => ⟨q, List.range 1024, rfl, SqL.of (by rw [upd_same, rg_eq]), by rw [List.length_range]; decide, fun H20 p20 xs20 s20 hp20 hx20 hL20 y dy hy hdy hne2 => ?_⟩⟩
    refine ⟨y, dy, p20, 10, xs20, List.range 1024, rfl, upd_same, by rw [upd_ne hne2]; exact upd_same, SqL.of (made_new hy hdy _ _ hx20), hL20.same (made_new hy hdy), by decide, by decide, masks10, fun H21 k21 hAt21 => ⟨rfl, ?_⟩⟩
    refine ⟨_, rfl, y, 10, List.range 1024, _, rfl, hAt21, masks10, by decide, by decide, .inl ⟨rfl, fun H22 os' ho' s22 => ⟨fun e => ⟨rfl, _, rfl, iteT ?_⟩, fun x' y' z' p q1 q2 q3 e => by rw [(closed_iff masks10.lt ho').mpr closed10] at e; cases e⟩⟩⟩
    have hA22 := I.same hAt21 s22
    obtain ⟨dz, fs, e1, e2, e3⟩ := I.ins hA22
    refine ⟨_, rfl, y, dz, fs, rfl, e1, e3, _, rfl, by decide, by decide, fun D hD => ?_⟩
    refine lc_range (lo := 0) (n := 9) (fun i H' => Same H22 H' ∧ H' D = some (.lst (List.replicate i (V.int 1)))) ⟨same_new hD, upd_same⟩ ?_ ?_
    · rintro i H23 hi ⟨sm, hD23⟩
      refine ⟨rfl, _, hD23, ?_, same_upd sm hD, ?_⟩
      · rw [List.length_replicate]
        exact below (m := 100) (by omega)
      · rw [upd_same, List.replicate_succ']
    · rintro H23 ⟨sm, hD23⟩
      refine ⟨_, rfl, small (m := 1) (Nat.le_refl _), fun q24 hq24 => ?_⟩
      refine ⟨D, q24, _, _, rfl, rfl, by rw [upd_ne (ne_of_none hD23 hq24)]; exact hD23, upd_same, small (m := 100) (by rw [List.length_replicate]; decide), fun p25 hp25 => ?_⟩
      refine ⟨y, p25, 10, List.range 1024, ws10, rfl, I.same (I.same (I.same hA22 sm) (same_new hq24)) (same_new hp25), .inl (SqL.of upd_same), rfl, fun H26 s26 => ?_⟩
      rw [best10]
      refine ⟨rfl, ?_⟩
      have e9 : (decide (optV (some 9) = V.int 9)) = true := decide_eq_true rfl
      rw [e9]
      exact k H26
end
end Fam
/-! try with several clauses, the first one with a name, where the first one takes all that the body raises. -/
namespace Fam
open PySem L2 PyProof.Rows
/-- what is wished of an exception of the body: the clause's class takes it, and the suite goes on from there -/
def wFirst (K : PySem.W.Frag) (c : Value) (i : Nat) (ts : Addr → Value → Option Addr → TS) (D : Ends) : WX := fun cls d σ H => PySem.W.exmOne K cls c = some true ∧
  ∀ a, H a = none → ts a cls d ⟨fun g h => D.nx (g.set i none) h, D.rt, fun g h => D.bk (g.set i none) h, fun g h => D.ct (g.set i none) h⟩ (σ.set i (some (.ref a))) H
section
variable {X : Cx} {x n : Str} {c : Value} {i : Nat} {body su : List Stmt} {b : Stmt} {np p1 p2 : Pos} {tb : WX → TS} {ts : Addr → Value → Option Addr → TS} {rest : List ExceptHandler}
theorem ps_try_first (st : X.stack = X.env :: X.outer) (fr : X.env.frame = some X.env.locals) (nd : X.N.Nodup) (at_ : X.N[i]? = some n) (lc : X.env.kindOf n = some .local) (nm : Names X x c)
    (bd : ∀ (W : WX) (pn : List (Addr × Obj)) (xe : Value → Shared → Prop), Takes (X.tr pn xe) W → PassesOwn (model X.prog X.w) X.A X.env xe → PSs (X.tr pn xe) body (tb W))
    (ss : ∀ (a : Addr) (o : Obj) (cls : Value) (d : Option Addr) (pn : List (Addr × Obj)), Zc cls d o → (∃ fs, o.data = .fields fs) → PSs (X.suite a ((a, o) :: pn)) (b :: su) (ts a cls d)) :
    PS X (.Try body (.ExceptHandler (some (.Name x np)) (some n) (b :: su) p1 :: rest) [] [] p2) (fun D σ H => tb (wFirst X.K c i ts D) D σ H) := PS.mk fun pins s σ H D inv rd => by
  have ctx := inv.ok
  have fs0 : X.A.frames = some (X.env :: X.outer) := by rw [ctx.frames, st]
  apply wpAny_Try_except
  have run := (bd (wFirst X.K c i ts D) (X.pn ++ pins)
    (fun e t1 => wpAny (model X.prog X.w) X.A (noteFrame e X.env) (fun _ t2 => wpAny (model X.prog X.w) X.A (setFlight e none)
      (fun _ t3 => wpAny (model X.prog X.w) X.A (handleBy e X.env (.ExceptHandler (some (.Name x np)) (some n) (b :: su) p1 :: rest)) (SP X pins D) X.xe t3) X.xe t2) X.xe t1)
    (fun u t cat => ?caught) PassesOwn.looking).run [] s σ H D (inv.toTry _) rd
  case caught =>
    obtain ⟨a, B, tI, pn, g, G, cls, d, rfl, j, nb, up, sky, na, os, ag, yes, on⟩ := cat
    have jI : L2.Inv X pins g G tI := j.ofTry ctx
    show wpAny (model X.prog X.w) X.A (noteFrame (.ref a) X.env) _ _ _
    have sky1 : Sky B (X.env :: X.outer) a (Zc cls d) X.env.locals t.heap := st ▸ sky
    refine Sky.land Zc.steady fs0 fr sky1 fun k fly upk => ?_
    have jk : L2.Inv X pins g G { t with heap := k } := jI.landed nb fly.1 (up.trans upk) os ag
    obtain ⟨o, fv, ho, hz, hd⟩ := fly.there
    -- no frame of the stack is the exception
    have off : a ∉ frs (X.env :: X.outer) := fun hm => by
      obtain ⟨_, o1, e1, nf⟩ := fly.2.2.1.mem hm
      have e2 : o = o1 := Option.some.inj (ho.symm.trans e1)
      exact nf _ (e2 ▸ hd)
    have offL : a ≠ X.env.locals := fun z => off (List.mem_filterMap.mpr ⟨X.env, List.mem_cons_self, by rw [fr, z]⟩)
    have offF : a ∉ X.fs := fun hm => by
      obtain ⟨e, he, q⟩ := List.mem_filterMap.mp hm
      exact off (List.mem_filterMap.mpr ⟨e, .tail _ he, q⟩)
    have inS := jk.suite ho hd na offL offF
    refine wpAny_handleBy_cons (codeAny_handlers_test ?_) (fun q => by cases q)
    have ty : PySem.W.Looks (model X.prog X.w) k (typeOf (.ref a)) cls := fun _ _ _ _ kk q => wpAny_typeOf_ref (kk _ _ ho) (by rw [hz.1]; exact q)
    have named : ∀ {R : Value → Shared → Prop} {E1 : Value → Shared → Prop}, R c { t with heap := k } → wpAny (model X.prog X.w) (X.A.mark (some (.ref a))) (eval (.Name x np) X.env) R E1 { t with heap := k } := fun q => by
      obtain ⟨gl, db, w1 | ⟨w1, w2, w3⟩⟩ := nm
      · exact ld_glob (X := X.suite a ((a, o) :: (X.pn ++ pins))) inS gl w1 q db
      · exact ld_blt (X := X.suite a ((a, o) :: (X.pn ++ pins))) inS gl w1 w2 q w3 db
    refine named ((PySem.W.exm_one (M := model X.prog X.w) jk.kIn ty yes).here ?_)
    refine codeAny_handlers_suite_as (HandSPX.lands_againZ fly fun k2 fly2 up2 => ?_)
    obtain ⟨o2, fv2, ho2, hz2, hd2⟩ := fly2.there
    have jk2 : L2.Inv X pins g G { t with heap := k2 } := jI.landed nb fly2.1 ((up.trans upk).trans up2) os ag
    have in2 := jk2.suite ho2 hd2 na offL offF
    refine store_ok (X := X.suite a ((a, o2) :: (X.pn ++ pins))) (v := .ref a) in2 nd at_ (.inl lc) rfl (fun t5 in5 => ?_) (.inr lc)
    refine wpAny_mono ((ss a o2 cls d (X.pn ++ pins) hz2 ⟨_, hd2⟩).run [] t5 _ G _ in5 (on a na)) (fun r t6 out => ?_) (fun _ _ no => no.elim)
    -- the name goes again
    have gone : ∀ {g6 : L2.St} {G6 : Hp} {R : Shared → Prop}, L2.Inv (X.suite a ((a, o2) :: (X.pn ++ pins))) [] g6 G6 t6 → (∀ t7, L2.Inv X pins (g6.set i none) G6 t7 → R t7) →
        wpAny (model X.prog X.w) X.A (do bindName X.env n .none; unbindBehindTheSuite X.env n p1) (fun _ t7 => R t7) X.xe t6 := fun in6 q => gone_ok (in6.unsuite ctx) nd at_ lc q
    match r, out with
    | .next, ⟨_, _, in6, q6⟩ => exact gone in6 fun t7 j7 => ⟨_, _, j7, q6⟩
    | .brk, ⟨_, _, in6, q6⟩ => exact gone in6 fun t7 j7 => ⟨_, _, j7, q6⟩
    | .cont, ⟨_, _, in6, q6⟩ => exact gone in6 fun t7 j7 => ⟨_, _, j7, q6⟩
    | .ret u, ⟨_, _, _, in6, rv, q6⟩ => exact gone in6 fun t7 j7 => ⟨_, _, _, j7, rv, q6⟩
  refine wpAny_mono run (fun r t1 out => ?_) (fun _ _ q => q)
  match r, out with
  | .next, ⟨_, _, j1, q1⟩ => exact wpAny_execs_nil ⟨_, _, j1.ofTry ctx, q1⟩
  | .brk, ⟨_, _, j1, q1⟩ => exact ⟨_, _, j1.ofTry ctx, q1⟩
  | .cont, ⟨_, _, j1, q1⟩ => exact ⟨_, _, j1.ofTry ctx, q1⟩
  | .ret u, ⟨_, _, _, j1, rv, q1⟩ => exact ⟨_, _, _, j1.ofTry ctx, rv, q1⟩
end
end Fam
/-! _law_word. -/
namespace Fam
open PySem L2
open C8 (pss_cut tCut)
/-- the class BadNumber -/
structure BadFacts (K : PySem.W.Frag) (mg : Str → Option Value) (B : Addr) : Prop where
  gB : mg "BadNumber" = some (.ref B)
  xf : XfC K B
  no : PySem.W.findIn K (.ref B) "which" = some none
  te : PySem.W.exmOne K (.ref B) (.ref B) = some true
section
variable {P : Program} {w : World} {K : PySem.W.Frag} {mg : Str → Option Value} {base : Heap} {C B : Addr} {At : Hp → Addr → Nat → List Nat → Prop}
abbrev nWD : List Str := ["_law_door", "_law_family_here", "_law_word_here", "_law_told", "refused"]
theorem scWD : FnScope nWD ["_law_door", "_law_family_here", "_law_word_here"] (defScope sWord) := ⟨rfl, rfl, rfl, by decide +kernel, rfl, by decide +kernel, by decide +kernel⟩
theorem ok_word {f : Addr} {fd : FuncData} (F : Fun K "_law_word" "_law_word" sWord f fd) (I : FamFacts P w K mg base C B At) (N : BadFacts K mg B) : FnOk P w K mg base CX0 22 f fd ["_law_door", "_law_family_here", "_law_word_here"] (spWord At) := by
  obtain ⟨ga, gad, oka, ba, ka, ma⟩ := I.against.ex
  obtain ⟨gr, grd, okr, br, kr, mr⟩ := I.broken.ex
  refine F.ok scWD (fun vs H Q E h => ?_) (fun cdv A outer s H vs Q E hr h => ?_)
  · obtain ⟨d, f, n, ms, v, rfl, _⟩ := h
    rfl
  · obtain ⟨d, f, n, ms, v, rfl, hAt, hms, h1, h2, hbad, k⟩ := h
    have hr20 := hr.mono (j := 20) (by decide)
    refine ⟨_, pss_cons (ps_set (i := 3) scWD.nd rfl (Or.inl rfl) pe_str)
      (pss_cons (ps_try_first (i := 4) rfl rfl scWD.nd rfl rfl ⟨rfl, by decide +kernel, .inl N.gB⟩
          (fun W pn xe tk _ => pss_one (ps_if (pt_cmpR op_eq (pv 0) pe_int (nomark _))
            (pss_one (ps_expr (pe_callS okr hr20 rfl mr kr br (fun σ => passAt tk σ) (pa_cons (pv 1) (pa_cons (pv 2) pa_nil)))))
            (pss_one (ps_expr (pe_callS oka hr20 rfl ma ka ba (fun σ => passAt tk σ) (pa_cons (pv 1) (pa_cons (pv 2) pa_nil)))))))
          (fun a oe cls d pn hz hf => pss_one (ps_set (i := 3) scWD.nd rfl (Or.inl rfl) (by exact pe_xf N.xf N.no hz hf (pv 4)))))
      (pss_one (ps_ret (pv 3)))), ?_⟩
    rcases hbad with ⟨rfl, hb⟩ | ⟨rfl, hb⟩
    · refine ⟨_, rfl, rfl, _, rfl, iteT ⟨_, rfl, _, rfl, f, n, ms, v, rfl, hAt, hms, h1, h2, .inr ⟨hb, fun d H' s hd hd' => ⟨N.te, fun a ha => ?_⟩⟩⟩⟩
      exact ⟨_, rfl, rfl, rfl, d, _, _, rfl, hd', rfl, _, rfl, k H' s⟩
    · refine ⟨_, rfl, rfl, _, rfl, iteF ⟨_, rfl, _, rfl, f, n, ms, v, rfl, hAt, hms, h1, h2, .inr ⟨hb, fun d H' s hd hd' => ⟨N.te, fun a ha => ?_⟩⟩⟩⟩
      exact ⟨_, rfl, rfl, rfl, d, _, _, rfl, hd', rfl, _, rfl, k H' s⟩
end
end Fam
/-! From the top's facts and the promises of the program's defs to the law. -/
namespace Fam
open PySem L2
/-- where the other defs of the law stand -/
structure Tops2 (K : PySem.W.Frag) : Prop where
  weightsOk : ∃ f, DefAt K "_law_weights_ok" sWeightsOk f
  word : ∃ f, DefAt K "_law_word" sWord f
  largeOk : ∃ f, DefAt K "_law_large_ok" sLargeOk f
  law : ∃ f, DefAt K "law" sLaw f
theorem te_of {K : PySem.W.Frag} {B : Addr} (b : PySem.W.subIn K (.ref B) (.type "BaseException") = some true) (i : PySem.W.isClsIn K B = true) (t : PySem.W.typeIn K (.ref B) = some (.type "type")) (o : PySem.W.subIn K (.ref B) (.ref B) = some true) : PySem.W.exmOne K (.ref B) (.ref B) = some true := by
  have i2 : (PySem.W.clsIn K B).isSome = true := i
  unfold PySem.W.exmOne PySem.W.kitCls
  simp only [b, i2, t, o]
  rfl
theorem words_mk {K : PySem.W.Frag} {C t : Addr} {mc : Value} {od : Option Addr} {its : Array Value} {n : Nat} {sl : Array (Option Value)} (_ : PySem.W.nsIn K mainGlobals "Family" = some (some (.ref C))) (r : PySem.W.readsIn K C mc = true) (g : PySem.W.specialIn K (.ref C) "__getattribute__" = some (some (.builtin "type.__getattribute__")))
    (f : PySem.W.findCls K (.ref C) mc "WORDS" = some (.val (.ref t))) (l : K.lookup t = some ⟨.type "tuple", od, .seq its n, sl⟩) (z : its.size ≤ 100) (v : Vals [.str "box", .str "or", .str "and", .str "two", .str "even"] its.toList) : Words K C :=
  ⟨mc, .ref t, t, ⟨r, g⟩, ⟨f, rfl⟩, fun H => .inr ⟨_, its, n, l, rfl, rfl, small z, v⟩⟩
theorem bad_mk {K : PySem.W.Frag} {h : Heap} {mg : Str → Option Value} {B : Addr} (X : K.In h) (G : h.Ns mainGlobals mg) (a : PySem.W.nsIn K mainGlobals "BadNumber" = some (some (.ref B)))
    (ga : PySem.W.findIn K (.ref B) "__getattribute__" = some (some (.builtin "BaseException.__getattribute__"))) (gg : PySem.W.findIn K (.ref B) "__getattr__" = some none) (e : PySem.W.subIn K (.ref B) (.type "BaseException") = some true) (d : PySem.W.hasDictIn K B = true)
    (no : PySem.W.findIn K (.ref B) "which" = some none) (i : PySem.W.isClsIn K B = true) (t : PySem.W.typeIn K (.ref B) = some (.type "type")) (o : PySem.W.subIn K (.ref B) (.ref B) = some true) : BadFacts K mg B := ⟨PySem.W.mg_of X G a, ⟨ga, gg, e, d⟩, no, te_of e i t o⟩
theorem all_mk2 {l : PySem.W.OpenLaw} {w : World} {K : PySem.W.Frag} {h : Heap} {mg : Str → Option Value} {fa C B : Addr} {At : Hp → Addr → Nat → List Nat → Prop} (X : K.In h) (G : h.Ns mainGlobals mg) (hfa : mg "law" = some (.ref fa)) (t : Tops K) (t2 : Tops2 K) (bs : Bares K)
    (Wd : Words K C) (N : BadFacts K mg B) (I : ∀ base : Heap, K.In base → base.Ns mainGlobals mg → FamFacts l.prog w K mg base C B At) :
    ∃ fd : FuncData, (∀ (s : Shared) (v : Value), BindsTo s fd ⟨[v], []⟩ [("_law_script", v)]) ∧ ∀ base : Heap, K.In base → base.Ns mainGlobals mg → FnOk l.prog w K mg base CX0 23 fa fd ["_law_script"] (spLaw K) := by
  obtain ⟨f, od, an, sl, oc, kV, dc, pm, cd, ct, a, l1, c, kk⟩ := t2.law
  have e := hfa.symm.trans (PySem.W.mg_of X G a)
  cases e
  refine ⟨PySem.W.fnOf "law" "law" (defArgs sLaw) (defBody sLaw) (defScope sLaw) .none kV dc pm an cd ct, fun s v => .of_eq rfl, fun base b1 b2 => ?_⟩
  have H := helps (P := l.prog) (w := w) (base := base) X G t bs
  have J := I base b1 b2
  have cW : Cal l.prog w K mg base 21 "_law_weights_ok" ["_law_tape", "_law_family_here", "_law_masks", "_law_closed"] (spWeightsOk At) := cal X G t2.weightsOk (fun _ _ _ _ _ _ us hl => match us, hl with | [_, _, _, _], _ => rfl) fun f fd F => ok_weights_ok F H J
  have cL : Cal l.prog w K mg base 22 "_law_large_ok" ["_law_tape"] spLargeOk := cal X G t2.largeOk (fun _ _ _ _ _ _ us hl => match us, hl with | [_], _ => rfl) fun f fd F => ok_large_ok F H J cW
  have cD : Cal l.prog w K mg base 22 "_law_word" ["_law_door", "_law_family_here", "_law_word_here"] (spWord At) := cal X G t2.word (fun _ _ _ _ _ _ us hl => match us, hl with | [_, _, _], _ => rfl) fun f fd F => ok_word F J N
  exact ok_law (fun_mk l1 c kk) H J Wd cW cL cD
theorem walk23 {l : PySem.W.OpenLaw} {q : Program} {loose : List Str} {XP : (Str → Option Value) → Heap → Prop} {YP : World → Heap → Prop} {d : DefRec} {K : Params → PySem.W.Frag} (hn : l.most = some 63) (hdf : d.params.defaults = [])
    (hY : ∀ (w : World) (h : Heap), YP w h → (K w.params).In h)
    (F : ∀ (w : World) (mg : Str → Option Value) (fa : Addr) (h : Heap), (K w.params).In h → h.Ns mainGlobals mg → mg d.name = some (.ref fa) →
      ∃ fd : FuncData, (∀ (s : Shared) (u : Value), BindsTo s fd ⟨[u], []⟩ [("_law_script", u)]) ∧ ∀ base : Heap, (K w.params).In base → base.Ns mainGlobals mg → FnOk l.prog w (K w.params) mg base CX0 23 fa fd ["_law_script"] (spLaw (K w.params))) :
    PySem.W.WalkO q loose XP YP l.row.toRowW d [] (fun f vs => PySem.call f vs) :=
  L2.walk_of (n := 63) (k := 23) (x := "_law_script") (CX := fun _ => CX0) (sp := fun w => spLaw (K w.params)) hn (by decide) hdf ⟨rfl, by decide, by decide⟩ hY F (fun _ _ a ns hl _ hS => ⟨a, ns, rfl, hS, hl, fun _ => rfl⟩) fun _ _ _ _ _ z => z
end Fam
/-! raise BadNumber(..) in a def of the program. -/
namespace Fam
open PySem L2
abbrev sBadInit : Stmt := inClass (top 3) 0
/-- BadNumber.__init__: the exception at a gets its own dict -/
def spBadInit (K : PySem.W.Frag) (B : Addr) : Sp := fun vs H Q _ => ∃ (a : Addr) (v : V), vs = [.ref a, v] ∧ H a = some (exo a B none) ∧ OexC K B ∧ PySem.W.findIn K (.ref B) "which" = some none ∧
  ∀ dx, H dx = none → dx ≠ a → Q .non (upd (upd H dx (exd dx [("which", v)])) a (exo a B (some dx)))
section
variable {P : Program} {w : World} {K : PySem.W.Frag} {mg : Str → Option Value} {base : Heap} {B : Addr}
theorem scBI : FnScope ["self", "which"] ["self", "which"] (defScope sBadInit) := ⟨rfl, rfl, rfl, by decide +kernel, rfl, by decide +kernel, by decide +kernel⟩
theorem ok_bad_init {f : Addr} {fd : FuncData} (F : Fun K "__init__" "BadNumber.__init__" sBadInit f fd) : FnOk P w K mg base CX0 1 f fd ["self", "which"] (spBadInit K B) := by
  refine F.ok scBI (fun vs H Q E h => ?_) (fun cdv A outer s H vs Q E hr h => ?_)
  · obtain ⟨a, v, rfl, _⟩ := h
    rfl
  · obtain ⟨a, v, rfl, ha, T, no, k⟩ := h
    refine ⟨_, pss_one (ps_ost (pv 0) (pv 1)), ?_⟩
    exact ⟨_, rfl, _, rfl, a, B, rfl, T, no, .inl ⟨ha, fun dx h1 h2 => k dx h1 h2⟩⟩
/-- all that raise BadNumber(..) wants -/
structure BadRaise (P : Program) (w : World) (K : PySem.W.Frag) (mg : Str → Option Value) (base : Heap) (B : Addr) : Prop where
  oex : OexC K B
  no : PySem.W.findIn K (.ref B) "which" = some none
  gB : mg "BadNumber" = some (.ref B)
  init : ∃ (g : Addr) (gd : FuncData), PySem.W.findIn K (.ref B) "__init__" = some (some (.ref g)) ∧ PySem.W.typeIn K (.ref g) = some (.type "function") ∧ FnOk P w K mg base CX0 1 g gd ["self", "which"] (spBadInit K B) ∧ Binds K gd ["self", "which"] []
theorem bad_read {ta : TA} {σ : L2.St} {H : Hp} {Q : XK} {v : V} (N : BadRaise P w K mg base B) (hv : ∀ Q' : List V → Hp → Prop, Q' [v] H → ta σ H Q')
    (k : ∀ (d : Addr) (H' : Hp), Same H H' → H d = none → H' d = some (.xd [("which", v)]) → Q (.ref B) (some d) H') : tMkO B (spBadInit K B) [] ta σ H Q := by
  refine hv _ ⟨(by show 1 ≤ 1000; decide), fun a ha => ⟨a, v, rfl, upd_same, N.oex, N.no, fun dx hdx hne => ⟨rfl, dx, [("which", v)], upd_same, ?_, none_new hdx, ?_⟩⟩⟩
  · rw [upd_ne hne]
    exact upd_same
  · refine k dx _ (fun b o e => ?_) (none_new hdx) upd_same
    have h1 : b ≠ a := ne_of_none e ha
    have h2 : b ≠ dx := ne_of_none e (none_new hdx)
    rw [upd_ne h2, del_ne h1, upd_ne h1, upd_ne h2, upd_ne h1]
    exact e
theorem bad_raise_mk {h : Heap} {f : Addr} {nm q : Str} {N : Addr} {bs bm : List Value} {sn : List Str} {sub : List Value} {ab : Bool} {col : Option Bool} {dd : Option Addr} {m0 m1 m2 m3 m5 : Option Value} {od an : Option Addr} {sl : Array (Option Value)} {oc kV dc pm cd ct : Value}
    (X : K.In h) (G : h.Ns mainGlobals mg) (aB : PySem.W.nsIn K mainGlobals "BadNumber" = some (some (.ref B))) (x : K.lookup B = some (excClassObj nm q B N bs bm true sn sub ab col dd m0 m1 m2 m3 m5 "ValueError.__new__")) (xb : PySem.HandSPX.refsVE bm = true)
    (sa : PySem.W.findIn K (.ref B) "__setattr__" = some (some (.builtin "object.__setattr__"))) (e : PySem.W.subIn K (.ref B) (.type "BaseException") = some true) (t : PySem.W.typeIn K (.ref B) = some (.type "type")) (kB : PySem.W.keepIn K (.ref B) = true) (no : PySem.W.findIn K (.ref B) "which" = some none)
    (iB : PySem.W.findIn K (.ref B) "__init__" = some (some (.ref f))) (tf : PySem.W.typeIn K (.ref f) = some (.type "function"))
    (l : K.lookup f = some ⟨oc, od, .func (PySem.W.fnOf "__init__" "BadNumber.__init__" (defArgs sBadInit) (defBody sBadInit) (defScope sBadInit) .none kV dc pm an cd ct), sl⟩) (c : PySem.W.codeIn K cd "BadNumber.__init__" = true) (kf : PySem.W.keepIn K (.ref f) = true) : BadRaise P w K mg base B := by
  have F := fun_mk (st := sBadInit) l c kf
  exact ⟨⟨⟨nm, q, N, bs, bm, sn, sub, ab, col, dd, m0, m1, m2, m3, m5, x, xb⟩, sa, e, t, kB⟩, no, PySem.W.mg_of X G aB, ⟨f, _, iB, tf, ok_bad_init F, F.binds (ps := ["self", "which"]) fun _ _ _ _ _ _ us hl => match us, hl with | [_, _], _ => rfl⟩⟩

end
end Fam
/-! cuts.is_int, cuts.check_number where the number is good. -/
namespace Fam
open PySem L2
abbrev sIsInt : Stmt := top 9
abbrev sCheckNumber : Stmt := top 12
def spIsInt (K : PySem.W.Frag) : Sp := fun vs H Q _ => ∃ v : V, vs = [v] ∧ ((∃ i : Int, v = .int i ∧ Q (.bl true) H) ∨ (∃ b : Bool, v = .bl b ∧ Q (.bl false) H) ∨ (∃ T : String, TyX K H v (.type T) ∧ kitB T "int" = some false ∧ Q (.bl false) H))
/-- an integer within its bounds; none: no bound -/
def spGood : Sp := fun vs H Q _ => ∃ (i : Int) (n lo hi : V), vs = [.int i, n, lo, hi] ∧ (lo = .non ∨ ∃ a : Int, lo = .int a ∧ a ≤ i) ∧ (hi = .non ∨ ∃ b : Int, hi = .int b ∧ i ≤ b) ∧ Q (.int i) H
section
variable {P : Program} {w : World} {K : PySem.W.Frag} {mg : Str → Option Value} {base : Heap} {B : Addr}
theorem scII : FnScope ["value"] ["value"] (defScope sIsInt) := ⟨rfl, rfl, rfl, by decide +kernel, rfl, by decide +kernel, by decide +kernel⟩
theorem ok_is_int {f : Addr} {fd : FuncData} (F : Fun K "is_int" "is_int" sIsInt f fd) (T : Bare mg) : FnOk P w K mg base CX0 1 f fd ["value"] (spIsInt K) := by
  refine F.ok scII (fun vs H Q E h => ?_) (fun cdv A outer s H vs Q E hr h => ?_)
  · obtain ⟨v, rfl, _⟩ := h
    rfl
  · obtain ⟨v, rfl, h⟩ := h
    refine ⟨_, pss_one (ps_ret (pe_and (pe_callB call_isi (by rfl) T.isi (by decide +kernel) (pa_cons (pv 0) (pa_cons (pe_ty (n := "int") (by rfl) T.int (by decide +kernel)) pa_nil)))
      (pe_one (pe_not (pe_callB call_isi (by rfl) T.isi (by decide +kernel) (pa_cons (pv 0) (pa_cons (pe_ty (n := "bool") (by rfl) T.bool (by decide +kernel)) pa_nil))))))), ?_⟩
    rcases h with ⟨i, rfl, k⟩ | ⟨b, rfl, k⟩ | ⟨t, ht, hk, k⟩
    · exact ⟨_, rfl, _, _, _, _, true, rfl, .ty _, .base (.int i), kit_ty (by decide +kernel), _, rfl, iteT ⟨_, rfl, _, _, _, _, false, rfl, .ty _, .base (.int i), kit_ty (by decide +kernel), _, rfl, k⟩⟩
    · exact ⟨_, rfl, _, _, _, _, true, rfl, .ty _, .base (.bl b), kit_ty (by decide +kernel), _, rfl, iteT ⟨_, rfl, _, _, _, _, true, rfl, .ty _, .base (.bl b), kit_ty (by decide +kernel), _, rfl, k⟩⟩
    · exact ⟨_, rfl, _, _, _, _, false, rfl, .ty _, ht, kit_ty hk, _, rfl, iteF k⟩
abbrev nCN : List Str := ["value", "which", "low", "high"]
theorem scCN : FnScope nCN nCN (defScope sCheckNumber) := ⟨rfl, rfl, rfl, by decide +kernel, rfl, by decide +kernel, by decide +kernel⟩
theorem ok_check_number {f : Addr} {fd : FuncData} (F : Fun K "check_number" "check_number" sCheckNumber f fd) (N : BadRaise P w K mg base B) (G : Cal P w K mg base 1 "is_int" ["value"] (spIsInt K)) : FnOk P w K mg base (L2.CX P w) 3 f fd nCN spGood := by
  obtain ⟨g, gd, iC, tI, ok, b⟩ := N.init
  obtain ⟨gi, gid, oki, bi, ki, mi⟩ := G.ex
  refine F.okX scCN (fun vs H Q E h => ?_) (fun cdv A outer s H vs Q E hr h => ?_)
  · obtain ⟨i, n, lo, hi, rfl, _⟩ := h
    rfl
  · obtain ⟨i, n, lo, hi, rfl, hlo, hhi, k⟩ := h
    refine ⟨_, pss_cons (ps_if (pt_not (pt_val (pe_call oki (hr.mono (by decide)) rfl mi ki bi .nil pass0 (pa_cons (pv 0) pa_nil))))
        (pss_one (ps_raise rfl (takes_of rfl rfl rfl rfl) (pmk_oex N.oex iC tI ok hr b .nil pass0 rfl N.gB (pa_cons (pv 1) pa_nil)))) pss_nil)
      (pss_cons (ps_if (PW.pt (pw_and (pt_cmpR op_notN (pv 2) pe_non (nomark _)) (pw_and1 (pt_cmpR op_lt (pv 0) (pv 2) (nomark _)))))
        (pss_one (ps_raise rfl (takes_of rfl rfl rfl rfl) (pmk_oex N.oex iC tI ok hr b .nil pass0 rfl N.gB (pa_cons (pv 1) pa_nil)))) pss_nil)
      (pss_cons (ps_if (PW.pt (pw_and (pt_cmpR op_notN (pv 3) pe_non (nomark _)) (pw_and1 (pt_cmpR op_gt (pv 0) (pv 3) (nomark _)))))
        (pss_one (ps_raise rfl (takes_of rfl rfl rfl rfl) (pmk_oex N.oex iC tI ok hr b .nil pass0 rfl N.gB (pa_cons (pv 1) pa_nil)))) pss_nil)
      (pss_one (ps_ret (pv 0))))), ?_⟩
    refine ⟨_, rfl, _, rfl, .inl ⟨i, rfl, _, rfl, iteF ?_⟩⟩
    rcases hlo with rfl | ⟨a, rfl, ha⟩
    · refine ⟨_, rfl, rfl, _, rfl, iteF ?_⟩
      rcases hhi with rfl | ⟨c, rfl, hc⟩
      · exact ⟨_, rfl, rfl, _, rfl, iteF ⟨_, rfl, k⟩⟩
      · exact ⟨_, rfl, rfl, _, rfl, iteT ⟨_, rfl, _, rfl, _, _, rfl, rfl, _, rfl, ite2 (fun z => absurd (of_decide_eq_true z) (by show ¬ c < i; omega)) (fun _ => ⟨_, rfl, k⟩)⟩⟩
    · refine ⟨_, rfl, rfl, _, rfl, iteT ⟨_, rfl, _, rfl, _, _, rfl, rfl, _, rfl, ite2 (fun z => absurd (of_decide_eq_true z) (by show ¬ i < a; omega)) (fun _ => ?_)⟩⟩
      rcases hhi with rfl | ⟨c, rfl, hc⟩
      · exact ⟨_, rfl, rfl, _, rfl, iteF ⟨_, rfl, k⟩⟩
      · exact ⟨_, rfl, rfl, _, rfl, iteT ⟨_, rfl, _, rfl, _, _, rfl, rfl, _, rfl, ite2 (fun z => absurd (of_decide_eq_true z) (by show ¬ c < i; omega)) (fun _ => ⟨_, rfl, k⟩)⟩⟩
end
end Fam
/-! sorted of a list of tuples of ints: any lengths, any number, the empty one wherever it stands. -/
namespace TSort
open PySem PySem.W PySem.Calls PyProof.Rows Builtin
section
variable {prog : Program} {w : World} {A : Around} {E : Value → Shared → Prop} {s : Shared}
theorem katlex_ints {b : Bool} {Q : Bool → Shared → Prop} : ∀ {vs ws : List Value} {ns ms : List Int} (i : Nat) (fin : Bool), IntsAre vs ns → IntsAre ws ms → fin = decide (ns.length < ms.length) → Q (HT.lexLt ns ms) s → KatLex prog w A b fin Q (vs.zip ws) i s
  | _, _, _, _, i, fin, .nil, .nil, hf, hq => by
    rw [HT.lexLt_nil_nil] at hq
    rw [hf]
    exact kat_nil hq
  | _, _, _, _, i, fin, .nil, .cons y u hw, hf, hq => by
    rw [HT.lexLt_nil_cons] at hq
    rw [hf, decide_eq_true (by show 0 < _ + 1; omega)]
    exact kat_nil hq
  | _, _, _, _, i, fin, .cons x t hv, .nil, hf, hq => by
    rw [HT.lexLt_cons_nil] at hq
    rw [hf, decide_eq_false (by show ¬ _ + 1 < 0; omega)]
    exact kat_nil hq
  | _, _, _, _, i, fin, .cons x t hv, .cons y u hw, hf, hq => by
    rw [HT.lexLt_cons] at hq
    refine kat_cons (SeqAt.EqAt.int_int x t y u prog w _ _ ?_)
    refine kat_go (fun e1 => ?_) (fun e1 => ?_)
    · have ex : x = y := by simpa using e1
      rw [if_pos ex] at hq
      refine kat_yes (katlex_ints (i + 1) fin hv hw ?_ hq)
      rw [hf, decide_eq_decide]
      show _ + 1 < _ + 1 ↔ _
      omega
    · have ex : ¬ x = y := by simpa using e1
      rw [if_neg ex] at hq
      refine kat_no ?_
      cases (b && i == 0) with
      | true => exact oneLt_int hq
      | false => exact kat_one _ _ (PyProof.Rows.lt_int hq)
/-- all of them hold a number -/
theorem cmp_full {vs : List Value} {k : Value → List Int} (hv : ∀ v ∈ vs, IsTI s.heap v (k v)) : SrtO.Cmp prog w A s (tuples' true) (fun p => p.1 ∈ vs) (SrtO.lt2 fun v u => HT.lexLt (k v) (k u)) := by
  intro p q hp hq
  show wpAny (model prog w) A (keyLt' (tuples' true) p.1 q.1) (fun r s' => s' = s ∧ r = HT.lexLt (k p.1) (k q.1)) (fun _ _ => False) s
  obtain ⟨a, dd, items, n, sl, e, ga, ia⟩ := hv _ hp
  obtain ⟨a2, dd2, items2, n2, sl2, e2, ga2, ia2⟩ := hv _ hq
  generalize k p.1 = ns at ia ⊢
  generalize k q.1 = ms at ia2 ⊢
  rw [e, e2]
  refine kat_lt ga rfl ga2 rfl (katlex_ints 0 _ ia ia2 ?_ ⟨rfl, rfl⟩)
  have z1 : items.size = ns.length := by rw [← ia.length]; simp
  have z2 : items2.size = ms.length := by rw [← ia2.length]; simp
  rw [z1, z2]
theorem tups_of {h : Heap} {k : Value → List Int} : ∀ (vs : List Value), (∀ v ∈ vs, IsTI h v (k v)) → (∀ v ∈ vs, k v ≠ []) → ∃ fs : List Value, KatTups h vs fs ∧ fs.length = vs.length ∧ ∀ f ∈ fs, ∃ x t, f = .int x t
  | [], _, _ => ⟨[], .nil, rfl, (fun f hf => by cases hf)⟩
  | v :: vs, hv, hn => by
    obtain ⟨fs, h1, h2, h3⟩ := tups_of vs (fun u hu => hv u (.tail _ hu)) (fun u hu => hn u (.tail _ hu))
    obtain ⟨a, dd, items, n, sl, rfl, ga, ia⟩ := hv v (.head _)
    have ne := hn _ (.head _)
    generalize k (.ref a) = ns at ia ne
    cases hi : items.toList with
    | nil =>
      rw [hi] at ia
      cases ia
      exact absurd rfl ne
    | cons f r =>
      rw [hi] at ia
      have hf : items[0]? = some f := by rw [← Array.getElem?_toList, hi]; rfl
      cases ia with
      | cons x t ir => exact ⟨.int x t :: fs, .cons ga rfl rfl hf h1, by rw [List.length_cons, List.length_cons, h2], fun g hg => (List.mem_cons.mp hg).elim (fun e => ⟨x, t, e⟩) (h3 g)⟩
/-- general kind: each two by < -/
theorem cmp_gen {vs : List Value} {k : Value → List Int} (hu : A.units < cLine) (hv : ∀ v ∈ vs, IsTI s.heap v (k v)) : SrtO.Cmp prog w A s general' (fun p => p.1 ∈ vs) (SrtO.lt2 fun v u => HT.lexLt (k v) (k u)) := by
  intro p q hp hq
  show wpAny (model prog w) A (oneLt' false p.1 q.1) (fun r s' => s' = s ∧ r = HT.lexLt (k p.1) (k q.1)) (fun _ _ => False) s
  obtain ⟨a, dd, items, n, sl, e, ga, ia⟩ := hv _ hp
  obtain ⟨a2, dd2, items2, n2, sl2, e2, ga2, ia2⟩ := hv _ hq
  generalize k p.1 = ns at ia ⊢
  generalize k q.1 = ms at ia2 ⊢
  rw [e, e2]
  exact kat_one _ _ (HT.lt_tupInts ⟨_, ga, rfl, n, rfl⟩ ⟨_, ga2, rfl, n2, rfl⟩ ia ia2 hu ⟨rfl, rfl⟩)
/-- the firsts of all: there where the tuple is not empty -/
theorem firsts_all {M : Model} {k : Value → List Int} : ∀ (vs : List Value), (∀ v ∈ vs, IsTI s.heap v (k v)) → ∃ fs : List (Option Value), fs.map Option.isSome = vs.map (fun v => !(k v).isEmpty) ∧ ∀ (Q : List (Option Value) → Shared → Prop), Q fs s → wpAny M A (vs.mapM firstOfTuple') Q E s
  | [], _ => ⟨[], rfl, (fun Q h => by rw [List.mapM_nil]; exact wpAny_pure h)⟩
  | v :: vs, hv => by
    obtain ⟨fs, hm, hw⟩ := firsts_all vs fun u hu => hv u (.tail _ hu)
    have hv0 := hv v (.head _)
    have ty := hv0.type (M := M)
    obtain ⟨a, dd, items, n, sl, rfl, ga, ia⟩ := hv0
    refine ⟨items[0]? :: fs, ?_, fun Q h => ?_⟩
    · rw [List.map_cons, List.map_cons, hm]
      congr 1
      generalize k (.ref a) = ns at ia
      rw [← Array.getElem?_toList]
      cases hi : items.toList with
      | nil =>
        rw [hi] at ia
        cases ia
        rfl
      | cons f r =>
        rw [hi] at ia
        cases ia
        rfl
    · rw [List.mapM_cons]
      refine wpAny_bind ?_
      rw [kas_first_eq]
      refine wpAny_bind (ty.here ?_)
      rw [if_neg (by first | decide | simp)]
      refine wpAny_bind (listItems_at ga rfl (wpAny_pure ?_))
      exact wpAny_bind (hw (fun bs s' => wpAny M A (pure (items[0]? :: bs)) Q E s') (wpAny_pure h))
theorem gen_kind {M : Model} {v₁ v₂ : Value} {vs : List Value} {k : Value → List Int} {Q : SortKind → Shared → Prop} (hv : ∀ v ∈ v₁ :: v₂ :: vs, IsTI s.heap v (k v)) (h1 : k v₁ ≠ []) (h2 : ∃ v ∈ v₁ :: v₂ :: vs, k v = []) (h : Q general' s) :
    wpAny M A (keyKind' (v₁ :: v₂ :: vs).toArray) Q E s := by
  obtain ⟨fs, hm, hw⟩ := firsts_all (M := M) (A := A) (E := E) (v₁ :: v₂ :: vs) hv
  rw [keyKind'_eq, List.mapM_toArray, map_eq_pure_bind]
  refine wpAny_bind (wpAny_bind (hw _ (wpAny_pure ?_)))
  obtain ⟨f, fr, rfl⟩ : ∃ f fr, fs = f :: fr := by
    cases fs with
    | nil => cases hm
    | cons f fr => exact ⟨f, fr, rfl⟩
  have e1 : f.isSome = true := by
    have q := (List.cons.inj hm).1
    rw [q]
    cases hk : k v₁ with
    | nil => exact absurd hk h1
    | cons x y =>
      show (!(k v₁).isEmpty) = true
      rw [hk]
      rfl
  have e2 : ((f :: fr).toArray.all fun x => x.isSome) = false := by
    rw [List.all_toArray]
    obtain ⟨v, hvm, hk⟩ := h2
    have hmem : false ∈ (f :: fr).map Option.isSome := by
      rw [hm]
      exact List.mem_map.mpr ⟨v, hvm, by rw [hk]; rfl⟩
    obtain ⟨g, hg, eg⟩ := List.mem_map.mp hmem
    exact List.all_eq_false.mpr ⟨g, hg, by rw [eg]; decide⟩
  rw [if_neg (by rw [e2]; decide)]
  have e3 : (((f :: fr).toArray[0]?).bind id).isSome = true := by
    show f.isSome = true
    exact e1
  rw [if_pos e3]
  exact wpAny_pure h
/-- sortable, however the empty ones stand -/
theorem any_sortable {a : Addr} {v₁ v₂ : Value} {vs : List Value} {k : Value → List Int} (hu : A.units < cLine) (hv : ∀ v ∈ v₁ :: v₂ :: vs, IsTI s.heap v (k v)) (ha : ∀ v ∈ v₁ :: v₂ :: vs, v ≠ .ref a) :
    SrtO.SortableO prog w A s a (v₁ :: v₂ :: vs) fun v u => HT.lexLt (k v) (k u) := by
  by_cases h0 : k v₁ = []
  · exact ti_sortable hu hv h0 ha
  · intro h' keep
    have hv' : ∀ v ∈ v₁ :: v₂ :: vs, IsTI h' v (k v) := fun v hm => (hv v hm).keeps fun b o e g => keep b o (fun z => ha v hm (by rw [e, z])) g
    by_cases hn : ∃ v ∈ v₁ :: v₂ :: vs, k v = []
    · exact ⟨general', fun Q E hq => gen_kind (s := { s with heap := h' }) hv' h0 hn hq, cmp_gen (s := { s with heap := h' }) hu hv'⟩
    · obtain ⟨fs, f1, f2, f3⟩ := tups_of (h := h') _ hv' (fun v hm e => hn ⟨v, hm, e⟩)
      refine ⟨tuples' true, fun Q E hq => ?_, cmp_full (s := { s with heap := h' }) hv'⟩
      refine kat_kind (s := { s with heap := h' }) (T := .type "int") f1 (by rw [f2]; exact Nat.succ_pos _) (fun f hm => ?_) (by rfl) ?_
      · obtain ⟨x, t, rfl⟩ := f3 f hm
        exact PySem.W.Looks.now
      · have e : (Value.type "int" != Value.type "tuple") = true := by decide +kernel
        rw [e]
        exact hq
end
end TSort
namespace L2
open PySem PySem.Spec PyProof.Rows
/-- sorted(xs), xs tuples of ints (k says which), of any lengths and any number: a new list, sorted -/
def rSortedTA (K : PySem.W.Frag) : List V → Hp → VK → Prop := fun vs H Q => ∃ (a : Addr) (ts : List Addr) (k : Addr → List Int), vs = [V.ref a] ∧ SqL K H a (ts.map V.ref) ∧ (∀ t ∈ ts, H t = some (.tup ((k t).map V.int))) ∧
  ∀ (ts' : List Addr) (p : Addr), ts'.Perm ts → ts'.Pairwise (fun p q => HT.lexLt (k q) (k p) = false) → H p = none → Q (.ref p) (upd H p (.lst (ts'.map V.ref)))
section
variable {X : Cx}
theorem cr_sortedTA (hu : X.A.units + 64 < cLine) : CallR X (.builtin "sorted") (rSortedTA X.K) := by
  intro pins s σ H vs us Q I r h
  obtain ⟨a, ts, k, rfl, hs, hx, q⟩ := h
  obtain ⟨its, rv, hl, hz⟩ := I.list hs
  obtain ⟨u, rfl, ru⟩ := vals1 r
  obtain rfl : u = Value.ref a := ru
  have ei := nts_of rv
  have hzs : its.length ≤ sizeLine := by rw [← rv.length]; exact hz
  have hv : ∀ u ∈ its, TSort.IsTI s.heap u (k (adO u)) := fun u hm => by
    rw [ei] at hm
    obtain ⟨t, ht, rfl⟩ := List.mem_map.mp hm
    obtain ⟨_, its2, r2, o, ho, hc, n, hd⟩ := I.hok _ _ (hx t ht)
    obtain ⟨cls, dd, data, sl⟩ := o
    simp only at hc hd
    subst hc hd
    exact ⟨t, dd, its2.toArray, n, sl, rfl, ho, intsAre_of r2⟩
  subst ei
  refine SrtO.sorted_ord (NtL.swo_lexL fun u => k (adO u)) hl.isList hzs (fun h2 h₁ b hb kk => ?_) fun out h1 h2 => ?_
  · obtain ⟨v₁, v₂, rest, ev⟩ : ∃ v₁ v₂ rest, ts.map Value.ref = v₁ :: v₂ :: rest := by
      match ts.map Value.ref, h2 with
      | [], h2 => exact absurd h2 (by decide)
      | [_], h2 => exact absurd h2 (by show ¬ 2 ≤ 1; decide)
      | v₁ :: v₂ :: rest, _ => exact ⟨v₁, v₂, rest, rfl⟩
    rw [ev] at hv ⊢
    refine TSort.any_sortable (s := { s with heap := h₁ }) (by show X.A.units + 1 + 1 < cLine; omega) (fun v hm => (hv v hm).keeps fun b o e g => (kk b o g).2) (fun v hm z => ?_)
    obtain ⟨c, dd, items, n, sl, e, g, i⟩ := hv v hm
    rw [e] at z
    exact (kk _ _ g).1 (Value.ref.inj z)
  · have eo : out = (out.map adO).map Value.ref := ref_map fun u hm => by
      obtain ⟨t, _, e⟩ := List.mem_map.mp (h2.perm.mem_iff.mp hm)
      exact ⟨t, e.symm⟩
    have hp : (out.map adO).Perm ts := by
      have p1 := h2.perm.map adO
      rw [ad_map] at p1
      exact p1
    have hs2 : (out.map adO).Pairwise (fun p q => HT.lexLt (k q) (k p) = false) := List.pairwise_map.mpr (h1.imp fun {x y} z => z)
    have rvo : Vals ((out.map adO).map V.ref) out := by
      have z := of_nts (out.map adO)
      rw [← eo] at z
      exact z
    have hd : s.heap.objs.size ≤ s.heap.objs.size + 1 := Nat.le_succ _
    obtain ⟨n, hn⟩ := sortedAll_at s.heap (ts.map Value.ref) out.toArray
    refine ⟨.ref _, upd H (s.heap.objs.size + 1) (.lst ((out.map adO).map V.ref)), I.laid (t' := s.toks) (fun b o e => sortedAll_old e) hd ⟨?_, out, n, rvo, hn⟩, rfl, q _ _ hp hs2 (I.hok.fresh hd)⟩
    rw [List.length_map, hp.length_eq]
    rw [List.length_map] at hz
    exact hz
end
end L2
/-! max(xs, default=None) of a list of ints. -/
namespace MaxD
open PySem PySem.Spec PyProof.Rows L2
abbrev kwD : List (Str × Value) := [(Str.ofString "default", .none)]
theorem ok_args (a : Value) : argsOk "max" ⟨[a], kwD⟩ := by unfold argsOk; kernel_rfl
theorem loop_name : (toString "max" ++ toString ".loop" : String) = "max.loop" := by decide
section
variable {prog : Program} {w : World} {A : Around} {R : Result → Shared → Prop} {I S : Addr} {fp wr : List Addr} {n : Nat} {P : Nat → Value → Prop} {St : Nat → Heap → Prop}
/-- the pair of the best item so far -/
abbrev two (v : Value) (c : Nat) : Obj := { cls := .type "list", dict := none, data := .seq #[v, v] c, slots := #[] }

theorem rest_loop (W : Walks prog w A.in1 I fp wr n P St) (gt : Nat → Nat → Bool) (G : CmpOf prog w A.in1 .Gt P gt) (hS : S ∉ fp)
    (k : Nat) : ∀ (j : Nat) (s : Shared) (b : Value) (c : Nat), n - (j + 1) = k → j + 1 ≤ n → St (j + 1) s.heap → P (argBest gt j) b → s.heap.get? S = some (two b c) →
    (∀ v h' tk, P (argBest gt (n - 1)) v → (∀ x o, x ∉ wr → x ≠ S → s.heap.get? x = some o → h'.get? x = some o) → R (.ok (.ret v)) { s with heap := h', toks := tk }) →
      codeAny (model prog w) A (.builtin "max.loop" ⟨[.ref I, .none, .ref S], kwD⟩) R s := by
  have hw : S ∉ wr := fun h => hS (W.sub _ h)
  induction k with
  | zero =>
    intro j s b c hk hj hst hb hs hR
    have e : j + 1 = n := by omega
    refine codeAny_builtin F.entry_max_loop ?_; rw [Around.under_plainId F.plain_max_loop _]
    show wpAny _ A.in1 (seqItems? (.ref S) >>= fun _ => _) _ _ s
    refine wpAny_bind (wpAny_seqItems hs rfl ?_); show wpAny _ A.in1 (tryCatch (pyNext (.ref I)) _ >>= fun _ => _) _ _ s
    refine wpAny_bind (wpAny_tryCatch (W.done s _ _ (e ▸ hst) fun h' tk hk' => ?_)); have hs' := hk' S _ hw hs
    show wpAny _ A.in1 (updateSeq S (fun _ => #[]) >>= fun _ => _) _ _ _
    refine wpAny_bind (wpAny_updateSeq hs' rfl (wpAny_bind (wpAny_letGo (wpAny_pure ?_))))
    exact hR b _ tk (by rw [← e]; exact hb) fun x o hx hxS q => (Heap.get?_update_other _ _ (Ne.symm hxS)).trans (hk' x o hx q)
  | succ k ih =>
    intro j s b c hk hj hst hb hs hR
    have lt : j + 1 < n := by omega
    refine codeAny_builtin F.entry_max_loop ?_; rw [Around.under_plainId F.plain_max_loop _]
    show wpAny _ A.in1 (seqItems? (.ref S) >>= fun _ => _) _ _ s
    refine wpAny_bind (wpAny_seqItems hs rfl ?_); show wpAny _ A.in1 (tryCatch (pyNext (.ref I)) _ >>= fun _ => _) _ _ s
    refine wpAny_bind (wpAny_tryCatch (W.item (j + 1) s _ _ lt hst fun v h' tk hv hst' hk' => ?_)); have hs' := hk' S _ hw hs
    show wpAny _ A.in1 (tryCatch (holding [v, v] (richCompare .Gt v b >>= fun _ => _)) _ >>= fun _ => _) _ _ _
    refine wpAny_bind (wpAny_tryCatch (wpAny_holding (wpAny_bind (G (j + 1) (argBest gt j) v b _ _ _ hv hb ?_)))); refine wpAny_bind (wpAny_holding (wpAny_truthy_bool ?_))
    refine wpAny_bind (wpAny_letGo (wpAny_pure ?_)); cases hb2 : gt (j + 1) (argBest gt j) with
    | true =>
      simp only [if_true]
      refine wpAny_bind (wpAny_updateSeq hs' rfl (wpAny_bind (wpAny_letGo ?_))); rw [loop_name]
      refine wpAny_pure ⟨plainId_quiet F.plain_max_loop _, ih (j + 1) _ v _ (by omega) lt (W.frame _ _ _ hst' fun x hx o q => ?_) (by simp only [argBest, hb2, if_true]; exact hv) (Heap.get?_update_self _ hs' rfl) fun v' h2 t2 hv' hk2 => ?_⟩
      · exact (Heap.get?_update_other _ _ (fun z : S = x => hS (by rw [z]; exact hx))).trans q
      · exact hR v' h2 t2 hv' fun x o hx hxS q => hk2 x o hx hxS ((Heap.get?_update_other _ _ (Ne.symm hxS)).trans (hk' x o hx q))
    | false =>
      simp only [Bool.false_eq_true, if_false]
      refine wpAny_bind (wpAny_letGo ?_); rw [loop_name]
      refine wpAny_pure ⟨plainId_quiet F.plain_max_loop _, ih (j + 1) _ b c (by omega) lt hst' (by simp only [argBest, hb2, Bool.false_eq_true, if_false]; exact hb) hs' fun v' h2 t2 hv' hk2 => ?_⟩
      exact hR v' h2 t2 hv' fun x o hx hxS q => hk2 x o hx hxS (hk' x o hx q)

/-- from the empty list: the first item, or the default -/
theorem first_loop (W : Walks prog w A.in1 I fp wr n P St) (gt : Nat → Nat → Bool) (G : CmpOf prog w A.in1 .Gt P gt) (hS : S ∉ fp) {s : Shared} {c : Nat} (hst : St 0 s.heap) (hs : s.heap.get? S = some { cls := .type "list", dict := none, data := .seq #[] c, slots := #[] })
    (hR : ∀ v h' tk, ((n = 0 ∧ v = .none) ∨ (0 < n ∧ P (argBest gt (n - 1)) v)) → (∀ x o, x ∉ wr → x ≠ S → s.heap.get? x = some o → h'.get? x = some o) → R (.ok (.ret v)) { s with heap := h', toks := tk }) :
      codeAny (model prog w) A (.builtin "max.loop" ⟨[.ref I, .none, .ref S], kwD⟩) R s := by
  have hw : S ∉ wr := fun h => hS (W.sub _ h)
  refine codeAny_builtin F.entry_max_loop ?_; rw [Around.under_plainId F.plain_max_loop _]
  show wpAny _ A.in1 (seqItems? (.ref S) >>= fun _ => _) _ _ s
  refine wpAny_bind (wpAny_seqItems hs rfl ?_); show wpAny _ A.in1 (tryCatch (pyNext (.ref I)) _ >>= fun _ => _) _ _ s
  by_cases hn : n = 0
  · refine wpAny_bind (wpAny_tryCatch (W.done s _ _ (hn ▸ hst) fun h' tk hk' => ?_))
    show wpAny _ A.in1 (rule _ >>= fun _ => _) _ _ _
    refine wpAny_bind (wpAny_rule (wpAny_pure ?_))
    exact hR .none h' tk (.inl ⟨hn, rfl⟩) fun x o hx _ q => hk' x o hx q
  · have lt : 0 < n := by omega
    refine wpAny_bind (wpAny_tryCatch (W.item 0 s _ _ lt hst fun v h' tk hv hst' hk' => ?_)); have hs' := hk' S _ hw hs
    show wpAny _ A.in1 (updateSeq S (fun _ => #[v, v]) >>= fun _ => _) _ _ _
    refine wpAny_bind (wpAny_updateSeq hs' rfl ?_); rw [loop_name]
    refine wpAny_pure ⟨plainId_quiet F.plain_max_loop _, rest_loop W gt G hS _ 0 _ v _ rfl lt (W.frame _ _ _ hst' fun x hx o q => ?_) hv (Heap.get?_update_self _ hs' rfl) fun v' h2 t2 hv' hk2 => ?_⟩
    · exact (Heap.get?_update_other _ _ (fun z : S = x => hS (by rw [z]; exact hx))).trans q
    · exact hR v' h2 t2 (.inr ⟨lt, hv'⟩) fun x o hx hxS q => hk2 x o hx hxS ((Heap.get?_update_other _ _ (Ne.symm hxS)).trans (hk' x o hx q))
end
section
variable {prog : Program} {w : World} {A : Around} {E : Value → Shared → Prop} {s : Shared} {l : Addr} {xs : Array (Int × Tok)}
theorem call_maxD {Q : Value → Shared → Prop} (hh : A.handled = none) (hl : s.heap.IsList l (intItems xs))
    (h : ∀ v h' tk, ((xs.size = 0 ∧ v = .none) ∨ (0 < xs.size ∧ (intItems xs)[argBest (fun i j => decide (numAt xs i > numAt xs j)) (xs.size - 1)]? = some v)) → (∀ b o, s.heap.get? b = some o → h'.get? b = some o) → Q v { s with heap := h', toks := tk }) :
    wpAny (model prog w) A (call (.builtin "max") [.ref l] kwD) Q E s := by
  refine wpAny_call (codeAny_call_builtin F.plain_max F.entry_max ?_)
  have hc : wpAny (model prog w) A.in1 (Builtin.«max» ⟨[.ref l], kwD⟩) (fun fin s' => match fin with
      | .done f => (match (Except.ok f : Result) with | .ok (.ret v) => Q v s' | .ok _ => False | .error e => E e s')
      | .again c' => c'.quiet = true ∧ codeAny (model prog w) A c' (fun r s' => match r with | .ok (.ret v) => Q v s' | .ok _ => False | .error e => E e s') s') E s := by
    show wpAny _ A.in1 (Builtin.Builtins.bindParams "max" ["key", "default"] 0 ⟨[], kwD⟩ >>= fun _ => _) _ _ s
    refine wpAny_bind (wpAny_of_eq (show Builtin.Builtins.bindParams "max" ["key", "default"] 0 ⟨[], kwD⟩ = pure [none, some .none] from by first | rfl | kernel_rfl) ?_)
    refine wpAny_bind (wpAny_pure ?_)
    refine wpAny_bind (iter_intList hl fun s₂ e st hfp hlI => ?_)
    subst e
    refine wpAny_bind (wpAny_newObj_type ?_)
    rw [loop_name]
    have hS : (s.heap.push { cls := .type "list_iterator", data := .fields #[.ref l, .int 0 0] }).objs.size ∉ [s.heap.objs.size, l] := fun hm => Nat.lt_irrefl _ (hfp _ hm)
    refine wpAny_pure ⟨plainId_quiet F.plain_max_loop _, ?_⟩
    refine first_loop (A := A) (Walks.list (A := A.in1) hh _ l hlI (intItems xs)) _ (CmpOf.ints_gt (numAt xs) (fun _ _ => intItems_at)) hS ?_ (Heap.get?_push_size _ rfl) fun v h' tk hv hk => ?_
    · exact (Walks.list (A := A.in1) (prog := prog) (w := w) hh _ l hlI (intItems xs)).frame _ _ _ st fun b _ o q => Heap.get?_push_of_some _ q
    · refine h v h' tk (by simpa [intItems] using hv) fun b o q => ?_
      have lt := Heap.lt_size q
      refine hk b o (fun hm => ?_) (fun z => ?_) (Heap.get?_push_of_some _ (Heap.get?_push_of_some _ q))
      · rcases List.mem_cons.mp hm with z | z
        · exact absurd (z ▸ lt) (Nat.lt_irrefl _)
        · cases z
      · rw [z, Heap.size_push] at lt
        exact absurd (Nat.lt_of_succ_lt lt) (Nat.lt_irrefl _)
  simp only [checkBuiltinCall, F.kind_max]
  cases hsig : Manifest.signature? "max" with
  | none => exact wpAny_pure hc
  | some sig =>
    have ha' : Bind.checkArgs "max" sig ⟨[.ref l], kwD⟩ = pure () := by simpa only [argsOk, hsig] using ok_args (.ref l)
    simp only [ha']
    exact wpAny_pure hc
end
/-- max(xs, default=None) -/
def rMaxD (K : PySem.W.Frag) : List V → List V → Hp → VK → Prop := fun vs zs H Q => ∃ (a : Addr) (ns : List Int), vs = [V.ref a] ∧ zs = [.non] ∧ SqL K H a (ns.map V.int) ∧
  ((ns = [] ∧ Q .non H) ∨ (ns ≠ [] ∧ ∀ M : Int, M ∈ ns → (∀ a, a ∈ ns → a ≤ M) → Q (.int M) H))
theorem cr_maxD {X : Cx} (hc : X.calm = true) : CallRK X (.builtin "max") [Str.ofString "default"] (rMaxD X.K) := by
  intro pins s σ H vs zs us ws Q I r rz h
  obtain ⟨a, ns, rfl, rfl, hs, q⟩ := h
  obtain ⟨its, rv, hl, _⟩ := I.list hs
  obtain rfl := Vals.ref1 r
  obtain ⟨w1, rfl, e1⟩ := vals1 rz
  obtain rfl : w1 = Value.none := e1
  have hi := rv.ints
  obtain ⟨xs, e⟩ := hi.allInts.items
  have hn : numsOf (intItems xs).toList = ns := by rw [← e]; exact hi.numsOf
  rw [nums_intItems] at hn
  subst hn
  have hl2 := hl.isList
  rw [e] at hl2
  refine call_maxD (I.ok.hd hc) hl2 fun v h' tk hv hk => ?_
  have J : Inv X pins σ H { s with heap := h', toks := tk } := I.kept hk
  rcases hv with ⟨h0, rfl⟩ | ⟨h0, hv⟩
  · rcases q with ⟨_, q⟩ | ⟨ne, _⟩
    · exact ⟨.non, H, J, rfl, q⟩
    · refine absurd ?_ ne
      rw [Array.size_eq_zero_iff] at h0
      rw [h0]
      rfl
  · obtain ⟨t, rfl⟩ := intItems_at hv
    obtain ⟨h1, h2⟩ := argBest_gt (numAt xs) (xs.size - 1)
    rcases q with ⟨e0, _⟩ | ⟨_, q⟩
    · have z := congrArg List.length e0
      rw [List.length_map, Array.length_toList] at z
      exact absurd h0 (by rw [z]; exact Nat.lt_irrefl _)
    · refine ⟨.int _, H, J, ⟨_, rfl⟩, q _ ?_ fun a ha => ?_⟩
      · rw [numAt_eq]; exact PySem.getD_mem (by rw [List.length_map, Array.length_toList]; omega)
      · obtain ⟨j, hj, rfl⟩ := mem_getD ha
        rw [List.length_map, Array.length_toList] at hj
        rw [← numAt_eq]; exact h2 j (by omega)
end MaxD
/-! for x in o, o an object of a class whose __iter__ returns iter(self.f), f a tuple. -/
namespace OwnX
open PySem PySem.Spec PyProof.Rows L2 ItX
abbrev tItObj (t : Addr) : Obj := { cls := .type "tuple_iterator", data := .fields #[.ref t, .int 0 0] }
/-- the iterator at it over the tuple at t, nothing taken yet -/
def ItT (t it : Addr) : HO := .ext fun h => h.get? it = some (tItObj t)
theorem itT_ok {P : Program} {w : World} {H : Hp} {h : Heap} {t it : Addr} (e : h.get? it = some (tItObj t)) : ObjOk P w H h it (ItT t it) := ⟨e, ⟨_, e⟩, fun h1 h2 q k => k _ q⟩
/-- iter(t): a new object, younger than the def's entry -/
def rIterT (K : PySem.W.Frag) (n : Nat) : List V → Hp → VK → Prop := fun xs H Q => ∃ (l : Addr) (zs : List V), xs = [.ref l] ∧ SqT K H l zs ∧ ∀ it, H it = Option.none → n ≤ it → Q (.ref it) (upd H it (ItT l it))
theorem call_iterT {X : Cx} : CallR X (.builtin "iter") (rIterT X.K X.s_0.heap.objs.size) := by
  intro pins s σ H xs us Q I r h
  obtain ⟨l, zs, rfl, hq, q⟩ := h
  obtain ⟨u, rfl, ru⟩ := vals1 r
  cases ru
  obtain ⟨its, rv, pl, hz⟩ := I.tuple hq
  refine Calls.call_function_entry (by decide +kernel) (by decide +kernel) PySem.W.kdk_entry_iter (PySem.W.kdk_args_iter _) (?_ : wpAny _ _ (Builtin.«iter» ⟨[.ref l], []⟩) _ _ _)
  unfold Builtin.«iter»
  refine wpAny_bind (m := someArgs "iter" 1 2 _) (wpAny_of_eq (a := [Value.ref l]) (by first | rfl | kernel_rfl!) ?_); show wpAny _ _ (pyIter (.ref l) >>= fun _ => _) _ _ _
  refine wpAny_bind (wpAny_pyIter_tuple (show s.heap.IsTuple l its.toArray from pl) (wpAny_pure ⟨_, rfl, ?_⟩))
  exact ⟨.ref s.heap.objs.size, _, I.laid (t' := s.toks) (fun b u e => Heap.get?_push_of_some _ e) (Nat.le_refl _) (itT_ok (Heap.get?_push_size _ rfl)), rfl, q _ (I.hok.fresh (Nat.le_refl _)) I.sz⟩

/-- a def whose promise speaks of the heap's size at the call -/
theorem fn_sized {CX : CXT} {P : Program} {w : World} {K : PySem.W.Frag} {mg : Str → Option Value} {base : Heap} {k : Nat} {x qual : Str} {st : Stmt} {f : Addr} {fd : FuncData} {N ps : List Str} {sp : Nat → Sp} (F : Fun K x qual st f fd) (S : FnScope N ps (defScope st)) (len : ∀ n vs H Q E, sp n vs H Q E → vs.length = ps.length)
    (body : ∀ (cdv : Value) (A : Around) (outer : List Env) (s : Shared) (H : Hp) (vs : List V) (Q : VK) (E : XK), Room k (A.deeper (envOfC qual (defScope st) s.heap.objs.size f cdv)) → sp s.heap.objs.size vs H Q E →
      ∃ t, PSs (cxOf CX P w K mg base N qual (defScope st) f cdv A outer s H E) (defBody st) t ∧ t { nx := fun _ H' => Q .non H', rt := Q } (start N vs) H)
    {A : Around} {outer : List Env} {s : Shared} {H : Hp} {args : Args} {us : List Value} {vs : List V} {Q : VK} {E : XK} (hr : Room (k + 1) A) (e0 : Env0 P w K mg base A outer s H) (hb : BindsTo s fd args (ps.zip us)) (r : Vals vs us) (hsp : sp s.heap.objs.size vs H Q E) :
    codeAny (model P w) A (.call (.ref f) args) (CR CX outer P w H s Q E) s := by
  obtain ⟨oc, od, kV, doc, pm, an, cdv, ct, osl, rfl, lk, hcd⟩ := F.ex
  have hl := len _ _ _ _ _ hsp
  have KX : K.In s.heap := e0.mod.kin.keeps (fun b o e => (e0.bs b o e).1)
  have lim : s.heap.NoLimit := e0.mod.nolimit.keeps (fun b o e => (e0.bs b o e).1)
  have kinds : ∀ y ∈ ps.zip us, (defScope st).names.lookup y.1 = some .local ∨ ((defScope st).names.lookup y.1 = some .cell ∧ ((cellsFrom (s.heap.objs.size + 1) (defScope st).names []).lookup y.1).isSome = true) := by
    rintro ⟨n, v⟩ hy
    rcases S.par n (List.of_mem_zip hy).1 with q | q
    · exact .inl q
    · exact .inr ⟨q, PySem.W.cellsFrom_some _ _ _ (.inl q)⟩
  refine codeAny_call_function hr.depth (KX _ _ lk) rfl S.co S.gen rfl (PySem.W.codeRec_of KX hcd) (hb _ _ _ _ (wpAny_newFunctionEnv_cells S.kind kinds fun env he s1 x => ?_))
  subst he; refine ⟨lim.keeps x.toInCall.keep, codeAny_func ?_⟩
  obtain ⟨t, ht, hq⟩ := body cdv A outer s H vs Q E (hr.deeper _) hsp
  refine wpAny_mono (ht.run [] s1 (start N vs) H _ (inv_start S hr.hd e0 hl r x) hq) (fun fl s' hs => ?_) (fun e s' hs => hs)
  cases fl with
  | ret u => exact (let ⟨v, _, H', J, rv, q⟩ := hs; ⟨v, H', J.os, J.bare, J.base, J.hok, rv, q⟩)
  | next => exact (let ⟨_, H', J, q⟩ := hs; ⟨V.non, H', J.os, J.bare, J.base, J.hok, rfl, q⟩)
  | brk => exact (let ⟨_, _, _, q⟩ := hs; q.elim)
  | cont => exact (let ⟨_, _, _, q⟩ := hs; q.elim)
end OwnX
namespace OwnX
open PySem PySem.Spec PyProof.Rows L2 ItX Fam
abbrev sFamIter : Stmt := inClass (top 38) 4
theorem scFI : FnScope ["self"] ["self"] (defScope sFamIter) := ⟨rfl, rfl, rfl, by decide +kernel, rfl, by decide +kernel, by decide +kernel⟩
/-- a class whose __iter__ at f gives iter(self.lots) -/
structure OwnIt (P : Program) (w : World) (K : PySem.W.Frag) (mg : Str → Option Value) (base : Heap) (C f : Addr) (fl : Str) : Prop where
  find : PySem.W.findIn K (.ref C) "__iter__" = some (some (.ref f))
  fn : PySem.W.isFn K (.ref f) = true
  run : ∀ (A : Around) (outer : List Env) (s : Shared) (H : Hp) (x dx l : Addr) (fs : List (Str × V)) (xs : List V) (Q : VK), Room 1 A → Env0 P w K mg base A outer s H → H x = some (.ins C dx fs) → fs.lookup fl = some (.ref l) → SqT K H l xs →
    (∀ it, H it = Option.none → s.heap.objs.size ≤ it → Q (.ref it) (upd H it (ItT l it))) → codeAny (model P w) A (.call (.ref f) ⟨[.ref x], []⟩) (CR L2.CX0 outer P w H s Q L2.E0) s
theorem fam_iter {P : Program} {w : World} {K : PySem.W.Frag} {mg : Str → Option Value} {base : Heap} {C f : Addr} {fd : FuncData} (F : Fun K "__iter__" "Family.__iter__" sFamIter f fd) (mi : mg "iter" = Option.none) (c : Cls K C) (n : NoAttr K C "lots")
    (find : PySem.W.findIn K (.ref C) "__iter__" = some (some (.ref f))) (fn : PySem.W.isFn K (.ref f) = true) : OwnIt P w K mg base C f "lots" := by
  refine ⟨find, fn, fun A outer s H x dx l fs xs Q hr e0 hx hl hq k => ?_⟩
  have b : BindsTo s fd ⟨[.ref x], []⟩ ((["self"] : List Str).zip [Value.ref x]) := F.binds (ps := ["self"]) (fun _ _ _ _ _ _ us hl => match us, hl with | [_], _ => rfl) s [Value.ref x] (e0.mod.kin.keeps (fun b o e => (e0.bs b o e).1)) rfl
  refine fn_sized (k := 0) (sp := fun n vs H Q _ => ∃ (x dx l : Addr) (fs : List (Str × V)) (xs : List V), vs = [.ref x] ∧ H x = some (.ins C dx fs) ∧ fs.lookup ("lots" : Str) = some (.ref l) ∧ SqT K H l xs ∧ ∀ it, H it = Option.none → n ≤ it → Q (.ref it) (upd H it (ItT l it)))
    F scFI ?_ ?_ hr e0 b (show Vals [V.ref x] [Value.ref x] from .cons rfl .nil) ⟨x, dx, l, fs, xs, rfl, hx, hl, hq, k⟩
  · rintro n vs H Q E ⟨x, _, _, _, _, rfl, _⟩
    rfl
  · rintro cdv A outer s H vs Q E hr ⟨x, dx, l, fs, xs, rfl, hx, hl, hq, k⟩
    refine ⟨_, pss_one (ps_ret (pe_callB call_iterT (by rfl) mi (by decide +kernel) (pa_cons (pe_fld (pv 0) rfl) pa_nil))), ?_⟩
    exact ⟨_, rfl, x, C, dx, fs, _, rfl, hx, c, n, hl, l, xs, rfl, hq, fun it h1 h2 => k it h1 h2⟩
/-- for v in e, e such an object -/
def iOwn (K : PySem.W.Frag) (C : Addr) (fl : Str) (tl : TE) : TI := fun σ H R => tl σ H fun x H1 => ∃ (a dx l : Addr) (fs : List (Str × V)), x = .ref a ∧ H1 a = some (.ins C dx fs) ∧ fs.lookup fl = some (.ref l) ∧ (∃ xs, SqT K H1 l xs) ∧ R (Itt K l) H1
theorem pi_own {X : Cx} {tg e : Expr} {te : TE} {C f : Addr} {fl : Str} (O : OwnIt X.prog X.w X.K X.mg X.base C f fl) (hr : Room 1 X.A) (he : PE X e te) : PI X tg e (iOwn X.K C fl te) := by
  refine ⟨fun pins s σ H R I h => ?_⟩
  refine thn (he.run pins s σ H _ I h) fun v s1 ⟨x, H1, I1, r1, q1⟩ => ?_
  obtain ⟨a, dx, l, fs, e, ha, hfl, ⟨xs, hq⟩, q⟩ := q1
  subst e
  cases r1
  obtain ⟨mA, J, _⟩ := ins_get I1.hok ha
  obtain ⟨od, J, _⟩ := J.look
  obtain ⟨m, hF⟩ := I1.fr
  refine PySem.W.owit_iter hF I1.ok.mod.kin J O.find O.fn ?_
  refine wpAny_call (codeAny_mono (O.run X.A X.stack s1 H1 a dx l fs xs (fun v H' => ∃ it, v = .ref it ∧ s1.heap.objs.size ≤ it ∧ H1 it = Option.none ∧ H' = upd H1 it (ItT l it)) hr I1.env0 ha hfl hq fun it h1 h2 => ⟨it, rfl, h2, h1, rfl⟩) fun r s' hr' => ?_)
  cases r with
  | error e => exact False.elim hr'
  | ok fl' =>
    cases fl' with
    | next => exact False.elim hr'
    | brk => exact False.elim hr'
    | cont => exact False.elim hr'
    | ret u =>
      obtain ⟨v, H', I', rv, it, rfl, hsz, hn, rfl⟩ := I1.after hr'
      cases rv
      have hu : (upd H1 it (ItT l it)) it = some (.ext fun h => h.get? it = some (tItObj l)) := upd_same
      have hi : s'.heap.get? it = some (tItObj l) := (I'.hok it _ hu).1
      have hT : s'.TypeIs (.ref it) "tuple_iterator" := ⟨_, hi, rfl⟩
      show wpAny _ _ (specialOf (.ref it) "__next__") _ _ _
      refine wpAny_specialOf hT F.slot_tuple_iterator_next.lookup ?_
      have I2 := inv_drop I' hu
      have hf := inv_fp I' hu (Nat.le_trans I1.sz hsz)
      rw [dropH_upd hn] at I2 hf
      refine ⟨it, [it], _, _, H1, rfl, I2, turn_tuple l it, ⟨_, hi, rfl, rfl⟩, fun b hb => ?_, q⟩
      have e : b = it := by simpa using hb
      rw [e]
      exact hf
end OwnX
/-! The program's small defs: numbers, masks, lots. -/
namespace Fam
open PySem L2
open C8 (pss_cut tCut)
abbrev sIsBetween : Stmt := top 10
abbrev sAreInts : Stmt := top 11
abbrev sLotOf : Stmt := top 14
abbrev sMaskOf : Stmt := top 16
abbrev sLotOfMask : Stmt := top 17
abbrev sAllOf : Stmt := top 34
abbrev sWeightOf : Stmt := top 37
/-- more built-in names that the top leaves as they are -/
structure Bare2 (mg : Str → Option Value) : Prop where
  set : mg "set" = none
  iter : mg "iter" = none
  max : mg "max" = none
  sum : mg "sum" = none
  any : mg "any" = none
  all : mg "all" = none
  enumerate : mg "enumerate" = none
  str : mg "str" = none

/-! ### masks and lots by numbers -/
theorem or_pow {a n : Nat} (h : a < 2 ^ n) : a ||| 2 ^ n = a + 2 ^ n := by
  have e := Nat.two_pow_add_eq_or_of_lt h 1
  rw [Nat.mul_one] at e
  rw [Nat.or_comm, ← e, Nat.add_comm]
theorem fold_lot (m : Nat) : ∀ n, (lotN m n).foldl (fun a x => a ||| 2 ^ x) 0 = m % 2 ^ n
  | 0 => by rw [Nat.pow_zero, Nat.mod_one]; rfl
  | n + 1 => by
    have hlt : m % 2 ^ n < 2 ^ n := Nat.mod_lt _ (Nat.pow_pos (by decide))
    rw [Nat.mod_pow_succ]
    by_cases h : m / 2 ^ n % 2 = 1
    · rw [lotN_yes h, List.foldl_append, fold_lot m n, h, Nat.mul_one]
      exact or_pow hlt
    · have h0 : m / 2 ^ n % 2 = 0 := by omega
      rw [lotN_no h, fold_lot m n, h0, Nat.mul_zero, Nat.add_zero]
theorem lotN_more {m n : Nat} (h : m < 2 ^ n) : ∀ k, lotN m (n + k) = lotN m n
  | 0 => rfl
  | k + 1 => by
    have e : m / 2 ^ (n + k) = 0 := Nat.div_eq_of_lt (Nat.lt_of_lt_of_le h (Nat.pow_le_pow_right (by decide) (Nat.le_add_right _ _)))
    show lotN m (n + k + 1) = _
    rw [lotN_no (by rw [e]; decide), lotN_more h k]
theorem lotN_top {m n : Nat} (h : m < 2 ^ n) (hn : n ≤ 12) : lotN m 12 = lotN m n := by
  have e := lotN_more h (12 - n)
  rwa [show n + (12 - n) = 12 by omega] at e
theorem lotN_asc (m : Nat) : ∀ n, (lotN m n).Pairwise (· < ·)
  | 0 => List.Pairwise.nil
  | n + 1 => by
    by_cases h : m / 2 ^ n % 2 = 1
    · rw [lotN_yes h]
      refine List.pairwise_append.mpr ⟨lotN_asc m n, List.pairwise_singleton _ _, fun a ha b hb => ?_⟩
      rw [List.mem_singleton.mp hb]
      exact lotN_lt m n a ha
    · rw [lotN_no h]
      exact lotN_asc m n
theorem ty_lst {K : PySem.W.Frag} {H : Hp} {a : Addr} {xs : List V} (h : SqL K H a xs) : TyX K H (.ref a) (.type "list") := by
  rcases h with (h | ⟨o, h⟩) | ⟨o, _, _, h, c, _⟩
  · exact .base (.lst h)
  · exact .base (.frz h)
  · exact .kList h c
theorem any_lst {K : PySem.W.Frag} : PySem.W.kitAny K (.type "list") [.type "list", .type "tuple"] = some true := kitAny_cons (b := true) (kit_ty (by decide +kernel)) (fun z => nomatch z) fun _ => rfl
theorem any_tup {K : PySem.W.Frag} : PySem.W.kitAny K (.type "tuple") [.type "list", .type "tuple"] = some true := kitAny_cons (b := false) (kit_ty (by decide +kernel)) (fun _ => kitAny_cons (b := true) (kit_ty (by decide +kernel)) (fun z => nomatch z) fun _ => rfl) (fun z => nomatch z)
/-- isinstance(x, (list, tuple)) of a row -/
theorem isi_row {K : PySem.W.Frag} {H : Hp} {a : Addr} {xs : List V} (h : Row K H a xs) : ∃ ty, TyX K H (.ref a) ty ∧ PySem.W.kitAny K ty [.type "list", .type "tuple"] = some true := by
  rcases h with h | h
  · exact ⟨_, ty_lst h, any_lst⟩
  · exact ⟨_, ty_tup h, any_tup⟩
/-- the truth of an int -/
def tInt (ta : TE) : TT := fun σ H Q => ta σ H fun x H' => ∃ i : Int, x = .int i ∧ Q (i != 0) H'
theorem pt_int {X : Cx} {a : Expr} {ta : TE} (ha : PE X a ta) (he : ∀ whole, isTrue a X.env whole = (do let v ← whole; standAt a.pos; holding [v] (truthy v))) : PT X a (tInt ta) := by
  refine ⟨fun pins s σ H Q I h => PyProof.Rows.isTrue_plain (thn (ha.run pins s σ H _ I h) fun v s1 ⟨x, H1, I1, r1, q1⟩ => ?_) (he _)⟩
  obtain ⟨i, rfl, q⟩ := q1
  exact tru_ok pins s1 σ H1 _ v Q I1 r1 ⟨_, rfl, q⟩

def spBetween : Sp := fun vs H Q _ => ∃ i lo hi : Int, vs = [.int i, .int lo, .int hi] ∧ lo ≤ i ∧ i ≤ hi ∧ Q (.bl true) H
def spAreInts (K : PySem.W.Frag) : Sp := fun vs H Q _ => ∃ (b : Addr) (ws : List Int), vs = [.ref b, vInt ws.length] ∧ Row K H b (ws.map V.int) ∧ ws.length ≤ 100 ∧ ∀ H', Same H H' → Q (.bl true) H'
def spMaskOf : Sp := fun vs H Q _ => ∃ (p : Addr) (m : Nat), vs = [.ref p] ∧ H p = some (.tup (lotV m)) ∧ m < 2 ^ 12 ∧ Q (vInt m) H
def spLotOfMask : Sp := fun vs H Q _ => ∃ m n : Nat, vs = [vInt m, vInt n] ∧ m < 2 ^ n ∧ n ≤ 10 ∧ ∀ (H' : Hp) (p : Addr), Same H H' → H p = none → H' p = some (.tup (lotV m)) → Q (.ref p) H'
def spLotOf : Sp := fun vs H Q _ => ∃ (p : Addr) (m n : Nat), vs = [.ref p, vInt n] ∧ H p = some (.tup (lotV m)) ∧ m < 2 ^ n ∧ n ≤ 10 ∧ ∀ (H' : Hp) (q : Addr), Same H H' → H q = none → H' q = some (.tup (lotV m)) → Q (.ref q) H'
def spWeightOf (K : PySem.W.Frag) : Sp := fun vs H Q _ => ∃ (p b : Addr) (m : Nat) (ws : List Int), vs = [.ref p, .ref b] ∧ H p = some (.tup (lotV m)) ∧ Row K H b (ws.map V.int) ∧ m < 2 ^ ws.length ∧ ws.length ≤ 10 ∧ ∀ H', Same H H' → Q (.int (wsum m ws)) H'

section
variable {P : Program} {w : World} {K : PySem.W.Frag} {mg : Str → Option Value} {base : Heap} {B : Addr}
theorem scIB : FnScope ["value", "low", "high"] ["value", "low", "high"] (defScope sIsBetween) := ⟨rfl, rfl, rfl, by decide +kernel, rfl, by decide +kernel, by decide +kernel⟩
theorem ok_between {f : Addr} {fd : FuncData} (F : Fun K "is_between" "is_between" sIsBetween f fd) (G : Cal P w K mg base 1 "is_int" ["value"] (spIsInt K)) : FnOk P w K mg base CX0 2 f fd ["value", "low", "high"] spBetween := by
  obtain ⟨g, gd, ok, b, kp, mf⟩ := G.ex
  refine F.ok scIB (fun vs H Q E h => ?_) (fun cdv A outer s H vs Q E hr h => ?_)
  · obtain ⟨i, lo, hi, rfl, _⟩ := h
    rfl
  · obtain ⟨i, lo, hi, rfl, h1, h2, k⟩ := h
    refine ⟨_, pss_one (ps_ret (pe_and (pe_call ok hr rfl mf kp b .nil pass0 (pa_cons (pv 0) pa_nil)) (pe_one (pe_chain op_le op_le (pv 1) (pv 0) (pv 2))))), ?_⟩
    refine ⟨_, rfl, _, rfl, .inl ⟨i, rfl, _, rfl, iteT ⟨_, rfl, _, rfl, _, _, rfl, rfl, _, rfl, ?_⟩⟩⟩
    refine ite2 (fun _ => ⟨_, rfl, _, _, rfl, rfl, ?_⟩) (fun z => absurd (decide_eq_true h1) z)
    show Q (.bl (decide (i ≤ hi))) H
    rw [decide_eq_true h2]
    exact k
abbrev nAI : List Str := ["value", "many", "number"]
theorem scAI : FnScope nAI ["value", "many"] (defScope sAreInts) := ⟨rfl, rfl, rfl, by decide +kernel, rfl, by decide +kernel, by decide +kernel⟩
theorem ok_are_ints {f : Addr} {fd : FuncData} (F : Fun K "are_integers" "are_integers" sAreInts f fd) (T : Bare mg) (T2 : Bare2 mg) (G : Cal P w K mg base 1 "is_int" ["value"] (spIsInt K)) : FnOk P w K mg base CX0 2 f fd ["value", "many"] (spAreInts K) := by
  obtain ⟨g, gd, ok, b, kp, mf⟩ := G.ex
  refine F.ok scAI (fun vs H Q E h => ?_) (fun cdv A outer s H vs Q E hr h => ?_)
  · obtain ⟨a, ws, rfl, _⟩ := h
    rfl
  · obtain ⟨a, ws, rfl, hW, hl, k⟩ := h
    refine ⟨_, pss_one (ps_ret (pe_and (pe_callB call_isiT (by rfl) T.isi (by decide +kernel) (pa_cons (pv 0) (pa_cons (pe_tup (pa_cons (pe_ty (n := "list") (by rfl) T.list (by decide +kernel)) (pa_cons (pe_ty (n := "tuple") (by rfl) T.tuple (by decide +kernel)) pa_nil))) pa_nil)))
      (pe_and (pe_cmpR op_eq (pe_callB call_len_seq (by rfl) T.len PySem.boot_len (pa_cons (pv 0) pa_nil)) (pv 1) (nomark _))
      (pe_one (pe_callB (cr_all rfl) (by rfl) T2.all (by decide +kernel) (pa_cons (pe_lc (own := [("number", 2)]) (g := gName 2) (tt := tYes) rfl scAI.nd (pi_row (j := 0) (pv 0)) (blkOk_by (own := [("number", 2)]) (N := nAI) (sc := defScope sAreInts) (by decide +kernel)) (fun _ _ _ _ _ => pg_name (i := 2) scAI.nd rfl (Or.inl rfl))
        (fun _ _ _ _ _ => pts_nil) (fun _ _ _ _ _ => pe_call ok hr rfl mf kp b .nil pass0 (pa_cons (pv 2) pa_nil))) pa_nil)))))), ?_⟩
    refine ⟨_, rfl, (by show 2 ≤ sizeLine; exact small (m := 2) (Nat.le_refl _)), fun t ht => ?_⟩
    have s1 : Same H (upd H t (.tup [.ty "list", .ty "tuple"])) := same_new ht
    obtain ⟨ty, y1, y2⟩ := isi_row (hW.same s1)
    refine ⟨_, t, _, ty, _, true, rfl, upd_same, .cons (.ty _) (.cons (.ty _) .nil), y1, y2, _, rfl, iteT ?_⟩
    refine ⟨_, rfl, a, _, rfl, hW.same s1, _, rfl, rfl, _, rfl, ?_⟩
    rw [decide_eq_true (show V.int ((ws.map V.int).length : Int) = vInt ws.length by rw [List.length_map])]
    refine iteT ?_
    delta tOp tCB tCons
    show tLc (iRow K 0) _ _ _ _ _ _ _
    refine row_lc (K := K) (b := a) (xs := ws.map V.int) (by rfl) (hW.same s1) (fun D hD => ⟨fun i H' => Same H H' ∧ Same (upd H t (.tup [.ty "list", .ty "tuple"])) H' ∧ H' D = some (.lst ((List.replicate i true).map V.bl)), ⟨s1.trans (same_new hD), same_new hD, upd_same⟩, fun i H' _ h => h.2.1, ?_, ?_⟩)
    · rintro i x H1 hx ⟨sm, s2, hT⟩
      obtain ⟨hi, rfl⟩ := item hx
      refine ⟨rfl, _, rfl, _, rfl, .inl ⟨ws[i], rfl, _, hT, ?_, same_upd sm (s1.free hD), same_upd s2 hD, ?_⟩⟩
      · rw [List.length_map, List.length_replicate]
        exact below (m := 100) (by omega)
      · rw [upd_same, List.replicate_succ', List.map_append]
        rfl
    · rintro H1 ⟨sm, _, hT⟩
      rw [List.length_map] at hT
      refine ⟨D, _, rfl, SqL.of hT, ?_⟩
      rw [show (List.replicate ws.length true).all id = true from List.all_eq_true.mpr fun x hx => List.eq_of_mem_replicate hx]
      exact k _ sm

theorem scMO : FnScope ["lot", "mask", "place"] ["lot"] (defScope sMaskOf) := ⟨rfl, rfl, rfl, by decide +kernel, rfl, by decide +kernel, by decide +kernel⟩
theorem ok_mask_of {f : Addr} {fd : FuncData} (F : Fun K "mask_of" "mask_of" sMaskOf f fd) : FnOk P w K mg base CX0 1 f fd ["lot"] spMaskOf := by
  refine F.ok scMO (fun vs H Q E h => ?_) (fun cdv A outer s H vs Q E hr h => ?_)
  · obtain ⟨p, m, rfl, _⟩ := h
    rfl
  · obtain ⟨p, m, rfl, hp, hm, k⟩ := h
    refine ⟨_, pss_cons (ps_set (i := 1) scMO.nd rfl (Or.inl rfl) pe_int)
      (pss_cons (ps_for PassesOwn.never rfl (pi_tup (pv 0)) (pg_name (i := 2) scMO.nd rfl (Or.inl rfl)) (pss_one (ps_set (i := 1) scMO.nd rfl (Or.inl rfl) (pe_op op_or (pv 1) (pe_op op_shl pe_int (pv 2))))))
      (pss_one (ps_ret (pv 1)))), ?_⟩
    refine ⟨_, rfl, p, rfl, ⟨_, SqT.of hp⟩, for_tup (K := K) (a := p) (xs := lotV m) (fun i σ H' => H' = H ∧ ∃ y2, σ = [some (.ref p), some (vInt (((lotN m 12).take i).foldl (fun a x => a ||| 2 ^ x) 0)), y2]) ⟨rfl, none, rfl⟩ ?_ ?_ ?_⟩
    · rintro i σ H' _ ⟨rfl, _⟩
      exact SqT.of hp
    · rintro i x σ H' hx ⟨rfl, y2, rfl⟩
      obtain ⟨hi, rfl⟩ := item hx
      have h12 := lotN_lt m 12 _ (List.getElem_mem hi)
      refine ⟨_, rfl, _, rfl, _, _, rfl, rfl, ⟨by omega, by omega, by decide⟩, _, _, rfl, rfl, rfl, some (vInt ((lotN m 12)[i])), ?_⟩
      have e : (1 : Int) * 2 ^ ((((lotN m 12)[i] : Nat) : Int)).toNat = ((2 ^ (lotN m 12)[i] : Nat) : Int) := by
        rw [Int.toNat_natCast, Int.one_mul, Int.natCast_pow]
        rfl
      show [some (V.ref p), some (V.int (Builtin.bitOr _ ((1 : Int) * 2 ^ ((((lotN m 12)[i] : Nat) : Int)).toNat))), _] = _
      rw [e, bitOr_nat, List.take_add_one, List.getElem?_eq_getElem hi, List.foldl_append]
      rfl
    · rintro σ H' ⟨rfl, y2, rfl⟩
      refine ⟨_, rfl, ?_⟩
      rw [List.length_map, List.take_length, fold_lot, Nat.mod_eq_of_lt hm]
      exact k

abbrev nLM : List Str := ["mask", "size", "place"]
theorem scLM : FnScope nLM ["mask", "size"] (defScope sLotOfMask) := ⟨rfl, rfl, rfl, by decide +kernel, rfl, by decide +kernel, by decide +kernel⟩
theorem ok_lot_of_mask {f : Addr} {fd : FuncData} (F : Fun K "lot_of_mask" "lot_of_mask" sLotOfMask f fd) (T : Bare mg) : FnOk P w K mg base CX0 1 f fd ["mask", "size"] spLotOfMask := by
  refine F.ok scLM (fun vs H Q E h => ?_) (fun cdv A outer s H vs Q E hr h => ?_)
  · obtain ⟨m, n, rfl, _⟩ := h
    rfl
  · obtain ⟨m, n, rfl, hm, hn, k⟩ := h
    refine ⟨_, pss_one (ps_ret (pe_tupleOf rfl T.tuple (pe_lc (own := [("place", 2)]) (g := gName 2) rfl scLM.nd (pi_range1 rfl T.range (pa_cons (pv 1) pa_nil)) (blkOk_by (own := [("place", 2)]) (N := nLM) (sc := defScope sLotOfMask) (by decide +kernel)) (fun _ _ _ _ _ => pg_name (i := 2) scLM.nd rfl (Or.inl rfl))
      (fun _ _ _ _ _ => pts_one (pt_int (pe_op op_and (pe_op op_shr (pv 0) (pv 2)) pe_int) (by intro _; rfl))) (fun _ _ _ _ _ => pv 2)))), ?_⟩
    refine ⟨_, rfl, _, rfl, by omega, by omega, fun D hD => ?_⟩
    refine lc_range (lo := 0) (n := n) (fun i H' => Same H H' ∧ H' D = some (.lst ((lotN m i).map vInt))) ⟨same_new hD, upd_same⟩ ?_ ?_
    · rintro i H1 hi ⟨sm, hT⟩
      have e : Builtin.bitAnd ((m : Int) / 2 ^ ((0 + (i : Int))).toNat) 1 = ((m / 2 ^ i % 2 : Nat) : Int) := by
        have e1 : ((m : Int) / 2 ^ ((0 + (i : Int))).toNat) = ((m / 2 ^ i : Nat) : Int) := by
          rw [Int.zero_add, Int.toNat_natCast, Int.natCast_ediv, Int.natCast_pow]
          rfl
        rw [e1, show (1 : Int) = ((1 : Nat) : Int) from rfl, bitAnd_nat, Nat.and_one_is_mod]
      refine ⟨rfl, _, rfl, _, rfl, _, _, rfl, rfl, (by omega), _, _, rfl, rfl, _, rfl, ?_⟩
      rw [e]
      by_cases h : m / 2 ^ i % 2 = 1
      · rw [h]
        refine iteT ⟨_, rfl, _, hT, ?_, same_upd sm hD, ?_⟩
        · have := lotN_len m i
          rw [List.length_map]
          exact below (m := 100) (by omega)
        · rw [upd_same, lotN_yes h, List.map_append, Int.zero_add]
          rfl
      · have h0 : m / 2 ^ i % 2 = 0 := by omega
        rw [h0]
        refine iteF ⟨sm, ?_⟩
        rw [lotN_no h]
        exact hT
    · rintro H1 ⟨sm, hT⟩
      refine .inl ⟨D, _, rfl, SqL.of hT, fun q hq => k _ q (fun b o e => ?_) (sm.free hq) ?_⟩
      · rw [upd_ne (ne_of_none (sm _ _ e) hq)]
        exact sm _ _ e
      · rw [upd_same, ← lotN_top hm (by omega)]
end
end Fam
/-! all_lots_of, weight_of, lot_of. -/
namespace Fam
open PySem L2
open C8 (pss_cut tCut)
theorem sum_lot (m : Nat) (ws : List Int) : ∀ n, ((lotN m n).map fun x => ws.getD x 0).sum = wsN m ws n
  | 0 => rfl
  | n + 1 => by
    by_cases h : m / 2 ^ n % 2 = 1
    · rw [lotN_yes h, wsN_yes h, List.map_append, List.sum_append, sum_lot m ws n]
      show _ + (ws.getD n 0 + 0) = _
      rw [Int.add_zero]
    · rw [lotN_no h, wsN_no h, sum_lot m ws n]
theorem lot_lt {m n : Nat} (hm : m < 2 ^ n) (hn : n ≤ 12) : ∀ x ∈ lotN m 12, x < n := fun x hx => lotN_lt m n x (by rw [← lotN_top hm hn]; exact hx)
/-- ascending lists with the same members are one -/
theorem asc_uniq : ∀ {l m : List Int}, l.Pairwise (· < ·) → m.Pairwise (· < ·) → (∀ k, k ∈ l ↔ k ∈ m) → l = m
  | [], [], _, _, _ => rfl
  | [], b :: m, _, _, h => by cases (h b).mpr List.mem_cons_self
  | a :: l, [], _, _, h => by cases (h a).mp List.mem_cons_self
  | a :: l, b :: m, h1, h2, h => by
    obtain ⟨q1, p1⟩ := List.pairwise_cons.mp h1
    obtain ⟨q2, p2⟩ := List.pairwise_cons.mp h2
    have e : a = b := by
      rcases List.mem_cons.mp ((h a).mp List.mem_cons_self) with e | e
      · exact e
      · rcases List.mem_cons.mp ((h b).mpr List.mem_cons_self) with z | z
        · exact z.symm
        · have := q2 a e
          have := q1 b z
          omega
    subst e
    rw [asc_uniq p1 p2 fun k => ⟨fun hk => ?_, fun hk => ?_⟩]
    · rcases List.mem_cons.mp ((h k).mp (List.mem_cons_of_mem _ hk)) with z | z
      · have := q1 k hk
        omega
      · exact z
    · rcases List.mem_cons.mp ((h k).mpr (List.mem_cons_of_mem _ hk)) with z | z
      · have := q2 k hk
        omega
      · exact z
theorem lotI_asc (m : Nat) : (lotI m).Pairwise (· < ·) := by
  unfold lotI
  refine List.pairwise_map.mpr ((lotN_asc m 12).imp fun {a b} h => Int.ofNat_lt.mpr h)

/-! ### set(t) of a tuple of ints -/
def rSetI (K : PySem.W.Frag) (w : World) : List V → Hp → VK → Prop := fun xs H Q => ∃ (p : Addr) (ns : List Int), xs = [.ref p] ∧ SqT K H p (ns.map V.int) ∧ ns.length ≤ 1000 ∧ ∀ (q : Addr) (c : Nat), H q = none → c ≤ ns.length → Q (.ref q) (upd H q (SetO w q (fun j => decide (j ∈ ns)) c))
theorem cr_setI {X : Cx} (hc : X.calm = true) : CallR X (.type "set") (rSetI X.K X.w) := by
  intro pins s σ H xs us Q I r h
  obtain ⟨p, ns, rfl, hq, hl, q⟩ := h
  obtain ⟨its, rv, pt, hz⟩ := I.tuple hq
  rw [Vals.ref1 r]
  refine call_set_tupI ns (I.ok.hd hc) (show s.heap.IsTuple p its.toArray from pt) (ints_of_vals rv) (by unfold scanBound; omega) fun h' tk c R hcn k => ?_
  exact ⟨.ref _, upd H s.heap.objs.size (SetO X.w s.heap.objs.size (fun j => decide (j ∈ ns)) c), I.laid (t' := tk) (fun b u e => k b u e) (Nat.le_refl _) (setO_new R), rfl, q _ c (I.hok.fresh (Nat.le_refl _)) hcn⟩

section
variable {P : Program} {w : World} {K : PySem.W.Frag} {mg : Str → Option Value} {base : Heap} {B : Addr}
abbrev nAO : List Str := ["size", "mask"]
theorem scAO : FnScope nAO ["size"] (defScope sAllOf) := ⟨rfl, rfl, rfl, by decide +kernel, rfl, by decide +kernel, by decide +kernel⟩
theorem ok_all_of {f : Addr} {fd : FuncData} (F : Fun K "all_lots_of" "all_lots_of" sAllOf f fd) (T : Bare mg) (GL : Cal P w K mg base 1 "lot_of_mask" ["mask", "size"] spLotOfMask) : FnOk P w K mg base CX0 2 f fd ["size"] spAllLots := by
  obtain ⟨gl, gld, okl, bl, kl, ml⟩ := GL.ex
  refine F.ok scAO (fun vs H Q E h => ?_) (fun cdv A outer s H vs Q E hr h => ?_)
  · obtain ⟨n, rfl, _⟩ := h
    rfl
  · obtain ⟨n, rfl, h1, h2, k⟩ := h
    have h10 := pow_le10 h2
    refine ⟨_, pss_one (ps_ret (pe_callB (cr_sortedTA hr.units) (by rfl) T.sorted (by decide +kernel) (pa_cons (pe_lc (own := [("mask", 1)]) (g := gName 1) (tt := tYes) rfl scAO.nd
      (pi_range1 rfl T.range (pa_cons (pe_op op_shl pe_int (pv 0)) pa_nil)) (blkOk_by (own := [("mask", 1)]) (N := nAO) (sc := defScope sAllOf) (by decide +kernel)) (fun _ _ _ _ _ => pg_name (i := 1) scAO.nd rfl (Or.inl rfl)) (fun _ _ _ _ _ => pts_nil)
      (fun _ _ _ _ _ => pe_call okl hr rfl ml kl bl .nil pass0 (pa_cons (pv 1) (pa_cons (pv 0) pa_nil)))) pa_nil))), ?_⟩
    have e : (1 : Int) * 2 ^ ((n : Int)).toNat = ((2 ^ n : Nat) : Int) := by
      rw [Int.toNat_natCast, Int.one_mul, Int.natCast_pow]
      rfl
    refine ⟨_, rfl, _, _, rfl, rfl, ⟨by omega, by omega, by decide⟩, ((2 ^ n : Nat) : Int), congrArg (fun z => [V.int z]) e, Int.le_trans (by decide) (Int.natCast_nonneg _), Int.lt_of_le_of_lt (Int.ofNat_le.mpr h10) (by decide), fun D hD => ?_⟩
    refine lc_range (lo := 0) (n := 2 ^ n) (fun i H' => Same H H' ∧ ∃ xs, H' D = some (.lst xs) ∧ LotsAt H' xs (List.range i)) ⟨same_new hD, [], upd_same, trivial⟩ ?_ ?_
    · rintro i H1 hi ⟨sm, xs, hT, hL⟩
      refine ⟨rfl, _, rfl, _, rfl, i, n, by rw [Int.zero_add]; rfl, hi, h2, fun H2 p s2 hp ht => ?_⟩
      refine ⟨_, s2 _ _ hT, ?_, same_upd (sm.trans s2) hD, _, upd_same, ?_⟩
      · rw [hL.len, List.length_range]
        exact below (m := 100000) (by omega)
      · rw [List.range_succ]
        exact ((hL.same s2).add ht).upd (s2 _ _ hT)
    · rintro H1 ⟨sm, xs, hT, hL⟩
      obtain ⟨ts, rfl⟩ := hL.refs
      refine ⟨D, ts, kOf H1, rfl, SqL.of hT, fun t ht => ?_, fun ts' p hp hs hpn => ?_⟩
      · obtain ⟨m, _, hm⟩ := (LotsAt.mem hL).2 t ht
        rw [kOf_lot hm, ← lotV_eq]
        exact hm
      · obtain ⟨ms', pm, hL'⟩ := LotsAt.perm hp.symm hL
        exact k _ p ms' _ ⟨pm.symm, LotsAt.srt hL' hs⟩ (sm.trans (same_new hpn)) (sm.free hpn) upd_same (hL'.same (same_new hpn))

abbrev nWE : List Str := ["lot", "weights", "place"]
theorem scWE : FnScope nWE ["lot", "weights"] (defScope sWeightOf) := ⟨rfl, rfl, rfl, by decide +kernel, rfl, by decide +kernel, by decide +kernel⟩
theorem ok_weight_of {f : Addr} {fd : FuncData} (F : Fun K "weight_of" "weight_of" sWeightOf f fd) (T2 : Bare2 mg) : FnOk P w K mg base CX0 1 f fd ["lot", "weights"] (spWeightOf K) := by
  refine F.ok scWE (fun vs H Q E h => ?_) (fun cdv A outer s H vs Q E hr h => ?_)
  · obtain ⟨p, b, m, ws, rfl, _⟩ := h
    rfl
  · obtain ⟨p, b, m, ws, rfl, hp, hW, hm, hl, k⟩ := h
    refine ⟨_, pss_one (ps_ret (pe_callB (cr_sum rfl) (by rfl) T2.sum (by decide +kernel) (pa_cons (pe_lc (own := [("place", 2)]) (g := gName 2) (tt := tYes) rfl scWE.nd (pi_tup (pv 0)) (blkOk_by (own := [("place", 2)]) (N := nWE) (sc := defScope sWeightOf) (by decide +kernel)) (fun _ _ _ _ _ => pg_name (i := 2) scWE.nd rfl (Or.inl rfl)) (fun _ _ _ _ _ => pts_nil)
      (fun _ _ _ _ _ => pe_ix (ix_row : IxR _ (rIxRow K)) (pv 1) (pv 2) (fun _ _ => rfl))) pa_nil))), ?_⟩
    refine ⟨_, rfl, p, rfl, ⟨_, SqT.of hp⟩, fun D hD => ?_⟩
    have top := lotN_top hm (by omega)
    refine lc_tup (K := K) (a := p) (xs := lotV m) (fun i H' => Same H H' ∧ H' D = some (.lst ((((lotN m 12).take i).map fun x => ws.getD x 0).map V.int))) ⟨same_new hD, upd_same⟩ (fun i H' _ h => SqT.of (h.1 _ _ hp)) ?_ ?_
    · rintro i x H1 hx ⟨sm, hT⟩
      obtain ⟨hi, rfl⟩ := item hx
      have hlt := lot_lt hm (by omega) _ (List.getElem_mem hi)
      have hg : (ws.map V.int)[(lotN m 12)[i]]? = some (V.int (ws.getD (lotN m 12)[i] 0)) := by
        rw [List.getElem?_map, List.getD_eq_getElem?_getD, List.getElem?_eq_getElem hlt]
        rfl
      refine ⟨rfl, _, rfl, _, rfl, b, _, _, _, rfl, rfl, hW.same sm, atI_nat hg, _, hT, ?_, same_upd sm hD, ?_⟩
      · rw [List.length_map, List.length_map, List.length_take]
        have := lotN_len m 12
        exact below (m := 100) (by omega)
      · rw [upd_same, List.take_add_one, List.getElem?_eq_getElem hi, List.map_append, List.map_append]
        rfl
    · rintro H1 ⟨sm, hT⟩
      rw [List.length_map, List.take_length, top] at hT
      refine ⟨D, _, rfl, SqL.of hT, ?_⟩
      rw [sum_lot]
      exact k _ sm

abbrev nLF : List Str := ["value", "size", "place", "lot"]
theorem scLF : FnScope nLF ["value", "size"] (defScope sLotOf) := ⟨rfl, rfl, rfl, by decide +kernel, rfl, by decide +kernel, by decide +kernel⟩
theorem ok_lot_of {f : Addr} {fd : FuncData} (F : Fun K "lot_of" "lot_of" sLotOf f fd) (T : Bare mg) (T2 : Bare2 mg) (GB : Cal P w K mg base 2 "is_between" ["value", "low", "high"] spBetween) : FnOk P w K mg base CX0 3 f fd ["value", "size"] spLotOf := by
  obtain ⟨gb, gbd, okb, bb, kb, mb⟩ := GB.ex
  refine F.ok scLF (fun vs H Q E h => ?_) (fun cdv A outer s H vs Q E hr h => ?_)
  · obtain ⟨p, m, n, rfl, _⟩ := h
    rfl
  · obtain ⟨p, m, n, rfl, hp, hm, hn, k⟩ := h
    refine ⟨_, pss_cons (ps_if (pt_not (pt_val (pe_callB call_isiT (by rfl) T.isi (by decide +kernel) (pa_cons (pv 0) (pa_cons (pe_tup (pa_cons (pe_ty (n := "list") (by rfl) T.list (by decide +kernel)) (pa_cons (pe_ty (n := "tuple") (by rfl) T.tuple (by decide +kernel)) pa_nil))) pa_nil))))) (pss_one ps_never) pss_nil)
      (pss_cons (ps_for PassesOwn.never rfl (pi_tup (pv 0)) (pg_name (i := 2) scLF.nd rfl (Or.inl rfl))
        (pss_one (ps_if (pt_not (pt_val (pe_call okb hr rfl mb kb bb .nil pass0 (pa_cons (pv 2) (pa_cons pe_int (pa_cons (pe_op op_sub (pv 1) pe_int) pa_nil)))))) (pss_one ps_never) pss_nil)))
      (pss_cons (ps_set (i := 3) scLF.nd rfl (Or.inl rfl) (pe_tupleOf rfl T.tuple (pe_callB (cr_sortedSet rfl) (by rfl) T.sorted (by decide +kernel) (pa_cons (pe_callTy (cr_setI rfl) (by rfl) T2.set (by decide +kernel) (pa_cons (pv 0) pa_nil)) pa_nil))))
      (pss_cons (ps_if (pt_cmpR op_ne (pe_callB call_len_seq (by rfl) T.len PySem.boot_len (pa_cons (pv 3) pa_nil)) (pe_callB call_len_seq (by rfl) T.len PySem.boot_len (pa_cons (pv 0) pa_nil)) (nomark _)) (pss_one ps_never) pss_nil)
      (pss_one (ps_ret (pv 3)))))), ?_⟩
    refine ⟨_, rfl, (by show 2 ≤ sizeLine; exact small (m := 2) (Nat.le_refl _)), fun t ht => ?_⟩
    have s1 : Same H (upd H t (.tup [.ty "list", .ty "tuple"])) := same_new ht
    refine ⟨_, t, _, _, _, true, rfl, upd_same, .cons (.ty _) (.cons (.ty _) .nil), ty_tup (SqT.of (s1 _ _ hp)), any_tup, _, rfl, iteF ?_⟩
    have top := lotN_top hm (by omega)
    refine ⟨_, rfl, p, rfl, ⟨_, SqT.of (s1 _ _ hp)⟩, for_tup (K := K) (a := p) (xs := lotV m) (fun i σ H' => Same H H' ∧ ∃ y2, σ = [some (.ref p), some (vInt n), y2, none]) ⟨s1, none, rfl⟩ (fun i σ H' _ h => SqT.of (h.1 _ _ hp)) ?_ ?_⟩
    · rintro i x σ H1 hx ⟨sm, y2, rfl⟩
      obtain ⟨hi, rfl⟩ := item hx
      have hlt := lot_lt hm (by omega) _ (List.getElem_mem hi)
      refine ⟨_, rfl, _, rfl, _, _, rfl, rfl, _, _, _, rfl, by omega, by omega, _, rfl, iteF ⟨sm, _, rfl⟩⟩
    · rintro σ H1 ⟨sm, y2, rfl⟩
      have hp1 := sm _ _ hp
      have hlen := lotN_len m 12
      have eI := lotV_eq m
      refine ⟨_, rfl, p, lotI m, rfl, by rw [← eI]; exact SqT.of hp1, by rw [List.length_map]; omega, fun q c hq hc => ?_⟩
      rw [List.length_map] at hc
      refine ⟨q, _, c, rfl, upd_same, by omega, fun ns r h1 h2 h3 hr' => .inl ⟨r, _, rfl, SqL.of upd_same, fun u hu => ?_⟩⟩
      have e : ns = lotI m := asc_uniq h1 (lotI_asc m) fun k => by rw [h2 k, decide_eq_true_eq]
      subst e
      have s2 : Same H1 (upd (upd (upd H1 q _) r _) u (.tup ((lotI m).map V.int))) := ((same_new hq).trans (same_new hr')).trans (same_new hu)
      refine ⟨_, rfl, u, _, rfl, .inr (SqT.of upd_same), _, rfl, p, _, rfl, .inr (SqT.of (s2 _ _ hp1)), rfl, _, rfl, ?_⟩
      refine iteNS (by rw [eI]) ⟨_, rfl, k _ u (sm.trans s2) ?_ (by rw [eI]; exact upd_same)⟩
      exact sm.free (((same_new hq).trans (same_new hr')).free hu)
end
end Fam
/-! Family: what stands in the heap, __init__, check_weights, top_weight. -/
namespace Fam
open PySem L2
open C8 (pss_cut tCut)
abbrev sFInit : Stmt := inClass (top 38) 1
abbrev sCheckW : Stmt := inClass (top 38) 11
abbrev sTopW : Stmt := inClass (top 38) 12
theorem lk_same {f : Str} {v : V} {fs : List (Str × V)} : (putF f v fs).lookup f = some v := by rw [lookup_putF, if_pos rfl]
theorem lk_ne {f g : Str} {v : V} {fs : List (Str × V)} (h : g ≠ f) : (putF f v fs).lookup g = fs.lookup g := by rw [lookup_putF, if_neg h]
theorem putF_len (f : Str) (v : V) : ∀ fs : List (Str × V), (putF f v fs).length ≤ fs.length + 1
  | [] => Nat.le_refl _
  | (g, x) :: r => by
    unfold putF
    split
    · exact Nat.le_succ _
    · exact Nat.succ_le_succ (putF_len f v r)
/-- the dict of the masks -/
def mK (ms : List Nat) : List (Key × V) := ms.map fun (m : Nat) => ((Sum.inl (m : Int) : Key), V.bl true)
theorem valV_mK (x : Nat) : ∀ ms : List Nat, valV (mK ms) (Sum.inl (x : Int) : Key) = if x ∈ ms then some (.bl true) else none
  | [] => rfl
  | m :: ms => by
    show valV (((Sum.inl (m : Int) : Key), V.bl true) :: mK ms) _ = _
    by_cases h : m = x
    · subst h
      rw [valV_pos rfl, if_pos List.mem_cons_self]
    · rw [valV_neg (fun z => h (Int.ofNat.inj (Sum.inl.inj z))), valV_mK x ms]
      by_cases q : x ∈ ms
      · rw [if_pos q, if_pos (List.mem_cons_of_mem _ q)]
      · rw [if_neg q, if_neg (fun z => (List.mem_cons.mp z).elim (fun e => h e.symm) q)]
theorem some_mK (x : Nat) (ms : List Nat) : (valV (mK ms) (Sum.inl (x : Int) : Key)).isSome = decide (x ∈ ms) := by
  rw [valV_mK]
  by_cases q : x ∈ ms
  · rw [if_pos q, decide_eq_true q]
    rfl
  · rw [if_neg q, decide_eq_false q]
    rfl
theorem mK_snoc (ms : List Nat) (m : Nat) (h : m ∉ ms) : putK (mK ms) (Sum.inl (m : Int) : Key) (.bl true) = mK (ms ++ [m]) := by
  rw [putK_new (V.bl true) (by rw [valV_mK, if_neg h])]
  unfold mK
  rw [List.map_append]
  rfl
/-- a family of n places with the masks ms stands at f -/
structure FAt (C : Addr) (H : Hp) (f : Addr) (n : Nat) (ms : List Nat) : Prop where
  ex : ∃ (dx l d : Addr) (fs : List (Str × V)) (ts : List V) (ms0 : List Nat), H f = some (.ins C dx fs) ∧ fs.lookup ("size" : Str) = some (vInt n) ∧ fs.lookup ("lots" : Str) = some (.ref l) ∧ fs.lookup ("masks" : Str) = some (.ref d) ∧
    fs.lookup ("top_weight" : Str) = none ∧ fs.lookup ("check_weights" : Str) = none ∧ H l = some (.tup ts) ∧ LotsAt H ts ms0 ∧ ms0.Perm ms ∧ ms0.Pairwise lotLe ∧ H d = some (.dK (mK ms0))
  ms : Masks n ms
  h1 : 1 ≤ n
  h2 : n ≤ 10
theorem LotsAt.tups {H H' : Hp} (k : ∀ p xs, H p = some (.tup xs) → H' p = some (.tup xs)) : ∀ {vs : List V} {ms : List Nat}, LotsAt H vs ms → LotsAt H' vs ms
  | [], [], h => h
  | v :: vs, m :: ms, h => by
    obtain ⟨⟨p, e, h1⟩, h2⟩ := h
    exact ⟨⟨p, e, k _ _ h1⟩, h2.tups k⟩
theorem FAt.same {C : Addr} {H H' : Hp} {f : Addr} {n : Nat} {ms : List Nat} (h : FAt C H f n ms) (s : Same H H') : FAt C H' f n ms := by
  obtain ⟨⟨dx, l, d, fs, ts, ms0, a1, a2, a3, a4, a5, a6, a7, a8, a9, a10, a11⟩, h1, h2, h3⟩ := h
  exact ⟨⟨dx, l, d, fs, ts, ms0, s _ _ a1, a2, a3, a4, a5, a6, s _ _ a7, a8.same s, a9, a10, s _ _ a11⟩, h1, h2, h3⟩
theorem FAt.keep {C : Addr} {H H' : Hp} {a f : Addr} {n : Nat} {ms : List Nat} {xs : List V} (h : FAt C H f n ms) (ha : H a = some (.lst xs)) (k : Kp a H H') : FAt C H' f n ms := by
  obtain ⟨⟨dx, l, d, fs, ts, ms0, a1, a2, a3, a4, a5, a6, a7, a8, a9, a10, a11⟩, h1, h2, h3⟩ := h
  exact ⟨⟨dx, l, d, fs, ts, ms0, k _ _ (ne_of a1 ha (by intro z; cases z)) a1, a2, a3, a4, a5, a6, k _ _ (ne_of a7 ha (by intro z; cases z)) a7, a8.keep ha k, a9, a10, k _ _ (ne_of a11 ha (by intro z; cases z)) a11⟩, h1, h2, h3⟩
theorem FAt.perm {C : Addr} {H : Hp} {f : Addr} {n : Nat} {ms ms' : List Nat} (h : FAt C H f n ms) (p : ms.Perm ms') : FAt C H f n ms' := by
  obtain ⟨⟨dx, l, d, fs, ts, ms0, a1, a2, a3, a4, a5, a6, a7, a8, a9, a10, a11⟩, h1, h2, h3⟩ := h
  exact ⟨⟨dx, l, d, fs, ts, ms0, a1, a2, a3, a4, a5, a6, a7, a8, a9.trans p, a10, a11⟩, ⟨fun m hm => h1.lt m (p.mem_iff.mpr hm), p.nodup_iff.mp h1.nd⟩, h2, h3⟩
/-- the class Family -/
structure FamC (K : PySem.W.Frag) (C : Addr) : Prop where
  cl : Cls K C
  size : NoAttr K C "size"
  lots : NoAttr K C "lots"
  masks : NoAttr K C "masks"
def spCheckW (K : PySem.W.Frag) (C : Addr) : Sp := fun vs H Q _ => ∃ (f b : Addr) (n : Nat) (ms : List Nat) (ws : List Int), vs = [.ref f, .ref b] ∧ FAt C H f n ms ∧ Row K H b (ws.map V.int) ∧ ws.length = n ∧ ∀ H', Same H H' → Q .non H'

section
variable {P : Program} {w : World} {K : PySem.W.Frag} {mg : Str → Option Value} {base : Heap} {C : Addr}
abbrev nFI : List Str := ["self", "size", "lots", "told", "lot"]
theorem scFIn : FnScope nFI ["self", "size", "lots"] (defScope sFInit) := ⟨rfl, rfl, rfl, by decide +kernel, rfl, by decide +kernel, by decide +kernel⟩
theorem ok_fam_init {f : Addr} {fd : FuncData} (F : Fun K "__init__" "Family.__init__" sFInit f fd) (T : Bare mg) (T2 : Bare2 mg) (FC : FamC K C) (mp : ∃ t, mg "MOST_PLACES" = some (.int 10 t)) {qs : Addr}
    (GC : CalX P w K mg base 3 "check_number" ["value", "which", "low", "high"] spGood) (GL : Cal P w K mg base 3 "lot_of" ["value", "size"] spLotOf) (GM : Cal P w K mg base 1 "mask_of" ["lot"] spMaskOf) :
    FnOk P w K mg base (L2.CX P w) 4 f fd ["self", "size", "lots"] (spInit K C (FAt C)) := by
  obtain ⟨gc, gcd, okc, bc, kc, mc⟩ := GC.ex
  obtain ⟨gl, gld, okl, bl, kl, ml⟩ := GL.ex
  obtain ⟨gm, gmd, okm, bm, km, mm⟩ := GM.ex
  obtain ⟨tm, mp⟩ := mp
  refine F.okX scFIn (fun vs H Q E h => ?_) (fun cdv A outer s H vs Q E hr h => ?_)
  · obtain ⟨x, dx, a, n, xs, ms, rfl, _⟩ := h
    rfl
  · obtain ⟨x, dx, a, n, xs, ms, rfl, hx, hdx, hS, hL, h1, h2, hms, k⟩ := h
    have hr1 := hr.mono (j := 1) (by decide)
    refine ⟨_, pss_cons (ps_expr (pe_call okc hr rfl mc kc bc .nil passE0 (pa_cons (pv 1) (pa_cons pe_str (pa_cons pe_int (pa_cons (pe_glob (v := .int 10) rfl mp ⟨_, rfl⟩) pa_nil))))))
      (pss_cons (ps_if (pt_not (pt_val (pe_callB call_isiT (by rfl) T.isi (by decide +kernel) (pa_cons (pv 2) (pa_cons (pe_tup (pa_cons (pe_ty (n := "list") (by rfl) T.list (by decide +kernel)) (pa_cons (pe_ty (n := "tuple") (by rfl) T.tuple (by decide +kernel)) pa_nil))) pa_nil))))) (pss_one ps_never) pss_nil)
      (pss_cons (ps_setLc (i := 3) (own := [("lot", 4)]) (g := gName 4) (tt := tYes) (by rfl) scFIn.nd rfl rfl (sw_true rfl rfl rfl (by decide +kernel)) (pi_list (pv 2)) (blkOk_by (own := [("lot", 4)]) (N := nFI) (sc := defScope sFInit) (by decide +kernel)) (fun _ _ _ _ _ => pg_name (i := 4) scFIn.nd rfl (Or.inl rfl))
          (fun _ _ _ _ _ => pts_nil) (fun _ _ _ _ _ => pe_call okl hr rfl ml kl bl .nil pass0 (pa_cons (pv 4) (pa_cons (pv 1) pa_nil))))
      (pss_cons (ps_fld (pv 0) (pv 1) rfl)
      (pss_cons (ps_fld (pv 0) (pe_tupleOf rfl T.tuple (pe_callB (cr_sortedTA hr.units) (by rfl) T.sorted (by decide +kernel) (pa_cons (pv 3) pa_nil))) rfl)
      (pss_cons (ps_fld (pv 0) (pe_dc (own := [("lot", 4)]) (g := gName 4) (tt := tYes) rfl scFIn.nd (pi_tup (pe_fld (pv 0) rfl)) (blkOk_by (own := [("lot", 4)]) (N := nFI) (sc := defScope sFInit) (by decide +kernel)) (fun _ _ _ _ _ => pg_name (i := 4) scFIn.nd rfl (Or.inl rfl))
          (fun _ _ _ _ _ => pts_nil) (fun _ _ _ _ _ => pe_call okm hr1 rfl mm km bm .nil pass0 (pa_cons (pv 4) pa_nil)) (fun _ _ _ _ _ => pe_bl)) rfl)
      (pss_one (ps_if (pt_cmpR op_ne (pe_callB call_lenD (by rfl) T.len PySem.boot_len (pa_cons (pe_fld (pv 0) rfl) pa_nil)) (pe_callB call_len_seq (by rfl) T.len PySem.boot_len (pa_cons (pe_fld (pv 0) rfl) pa_nil)) (nomark _)) (pss_one ps_never) pss_nil))))))), ?_⟩
    refine ⟨_, rfl, (n : Int), _, _, _, rfl, .inr ⟨1, rfl, by omega⟩, .inr ⟨10, rfl, by omega⟩, ?_⟩
    refine ⟨_, rfl, (by show 2 ≤ sizeLine; exact small (m := 2) (Nat.le_refl _)), fun t ht => ?_⟩
    have s1 : Same H (upd H t (.tup [.ty "list", .ty "tuple"])) := same_new ht
    refine ⟨_, t, _, _, _, true, rfl, upd_same, .cons (.ty _) (.cons (.ty _) .nil), ty_lst (s1.seq hS), any_lst, _, rfl, iteF ?_⟩
    refine ⟨_, rfl, a, rfl, ⟨_, s1.seq hS⟩, fun D hD => ?_⟩
    have hl := hL.len
    have hle : ms.length ≤ 1024 := Nat.le_trans (nodup_len _ ms hms.nd hms.lt) (pow_le10 h2)
    refine lc_list (K := K) (a := a) (xs := xs) (fun i H' => Same (upd H t (.tup [.ty "list", .ty "tuple"])) H' ∧ ∃ ys, H' D = some (.lst ys) ∧ LotsAt H' ys (ms.take i)) ⟨same_new hD, [], upd_same, trivial⟩ (fun i H' _ h => (s1.trans h.1).seq hS) ?_ ?_
    · rintro i x H1 hx ⟨sm, ys, hT, hY⟩
      obtain ⟨hi, p, rfl, hp⟩ := hL.get hx
      refine ⟨rfl, _, rfl, _, rfl, p, ms[i], n, rfl, (s1.trans sm) _ _ hp, hms.lt _ (List.getElem_mem hi), h2, fun H2 q s2 hq hq' => ?_⟩
      refine ⟨_, s2 _ _ hT, ?_, same_upd (sm.trans s2) hD, _, upd_same, ?_⟩
      · rw [hY.len, List.length_take]
        exact below (m := 100000) (by omega)
      · rw [take_more hi]
        exact ((hY.same s2).add hq').upd (s2 _ _ hT)
    · rintro H2 ⟨sm, ys, hT, hY⟩
      rw [hl, List.take_length] at hY
      have s2 : Same H H2 := s1.trans sm
      obtain ⟨ts, rfl⟩ := hY.refs
      have hx2 := s2 _ _ hx
      -- self.size = size
      refine ⟨_, rfl, _, rfl, x, C, dx, _, rfl, hx2, FC.cl, FC.size, (by show 0 < 1000; decide), ?_⟩
      have hDx : D ≠ x := ne_of hT hx2 (by intro z; cases z)
      have hT3 : (upd H2 x (.ins C dx (putF "size" (vInt n) []))) D = some (.lst (ts.map V.ref)) := by rw [upd_ne hDx]; exact hT
      have tk3 : ∀ p xs, H2 p = some (.tup xs) → (upd H2 x (.ins C dx (putF "size" (vInt n) []))) p = some (.tup xs) := fun p xs e => by
        rw [upd_ne (ne_of e hx2 (by intro z; cases z))]
        exact e
      have hY3 := hY.tups tk3
      -- self.lots = tuple(sorted(told))
      refine ⟨_, rfl, D, ts, kOf (upd H2 x (.ins C dx (putF "size" (vInt n) []))), rfl, SqL.of hT3, fun u hu => ?_, fun ts' p hp hs hpn => .inl ⟨p, _, rfl, SqL.of upd_same, fun l hln => ?_⟩⟩
      · obtain ⟨m, _, hm⟩ := (LotsAt.mem hY3).2 u hu
        rw [kOf_lot hm, ← lotV_eq]
        exact hm
      obtain ⟨ms0, pm, hY4⟩ := LotsAt.perm hp.symm hY3
      have srt := LotsAt.srt hY4 hs
      have s4 : Same (upd H2 x (.ins C dx (putF "size" (vInt n) []))) (upd (upd (upd H2 x (.ins C dx (putF "size" (vInt n) []))) p (.lst (ts'.map V.ref))) l (.tup (ts'.map V.ref))) := (same_new hpn).trans (same_new hln)
      have hx4 := s4 _ _ (upd_same (H := H2) (a := x))
      have hY5 := hY4.same s4
      refine ⟨_, rfl, x, C, dx, _, rfl, hx4, FC.cl, FC.lots, (by show 1 < 1000; decide), ?_⟩
      generalize hH5 : (upd (upd (upd H2 x (.ins C dx (putF "size" (vInt n) []))) p (.lst (ts'.map V.ref))) l (.tup (ts'.map V.ref))) = H5 at *
      have hl5 : H5 l = some (.tup (ts'.map V.ref)) := by rw [← hH5]; exact upd_same
      have tk6 : ∀ q ys, H5 q = some (.tup ys) → (upd H5 x (.ins C dx (putF "lots" (.ref l) (putF "size" (vInt n) [])))) q = some (.tup ys) := fun q ys e => by
        rw [upd_ne (ne_of e hx4 (by intro z; cases z))]
        exact e
      have hl6 := tk6 _ _ hl5
      have hY6 := hY5.tups tk6
      have nd0 : ms0.Nodup := pm.nodup_iff.mp hms.nd
      have hlen0 : ms0.length = ms.length := pm.length_eq.symm
      -- self.masks = {..}
      refine ⟨_, rfl, x, C, dx, _, _, rfl, upd_same, FC.cl, FC.lots, lk_same, l, rfl, ⟨_, SqT.of hl6⟩, fun d hd => ?_⟩
      refine dc_tup (K := K) (a := l) (xs := ts'.map V.ref) (fun i H' => Same (upd H5 x (.ins C dx (putF "lots" (.ref l) (putF "size" (vInt n) [])))) H' ∧ H' d = some (.dK (mK (ms0.take i)))) ⟨same_new hd, upd_same⟩ (fun i H' _ h => SqT.of (h.1 _ _ hl6)) ?_ ?_
      · rintro i y H7 hy ⟨sm7, hK⟩
        obtain ⟨hi, q, rfl, hq⟩ := hY6.get hy
        have hlt : ms0[i] < 2 ^ n := hms.lt _ (pm.mem_iff.mpr (List.getElem_mem hi))
        have h10 := pow_le10 h2
        refine ⟨rfl, _, rfl, q, ms0[i], rfl, sm7 _ _ hq, by omega, _, (Sum.inl ((ms0[i] : Nat) : Int) : Key), rfl, hK, ?_, same_upd sm7 hd, ?_⟩
        · show ((ms0.take i).map _).length < _
          rw [List.length_map, List.length_take]
          exact below (m := 100000) (by omega)
        · rw [upd_same, take_more hi]
          refine congrArg (fun z => some (HO.dK z)) (mK_snoc _ _ fun hm => ?_)
          obtain ⟨j, hj, e⟩ := List.getElem_of_mem hm
          rw [List.length_take] at hj
          rw [List.getElem_take] at e
          have := (List.getElem_inj nd0).mp e
          omega
      · rintro H7 ⟨sm7, hK⟩
        have lts : (ts'.map V.ref).length = ms0.length := hY6.len
        rw [lts, List.take_length] at hK
        have hx7 := sm7 _ _ (upd_same (H := H5) (a := x))
        refine ⟨_, rfl, x, C, dx, _, rfl, hx7, FC.cl, FC.masks, (by show 2 < 1000; decide), ?_⟩
        have hdx : d ≠ x := ne_of hK hx7 (by intro z; cases z)
        have hlx : l ≠ x := ne_of (sm7 _ _ hl6) hx7 (by intro z; cases z)
        refine ⟨_, rfl, x, C, dx, _, _, rfl, upd_same, FC.cl, FC.masks, lk_same, d, _, rfl, by rw [upd_ne hdx]; exact hK, ?_⟩
        refine ⟨_, rfl, x, C, dx, _, _, rfl, upd_same, FC.cl, FC.lots, ?_, l, _, rfl, .inr (SqT.of (by rw [upd_ne hlx]; exact sm7 _ _ hl6)), rfl, _, rfl, ?_⟩
        · exact (lk_ne (by decide +kernel)).trans lk_same
        refine iteNS ?_ ?_
        · show V.int ((mK ms0).length : Int) = V.int ((ts'.map V.ref).length : Int)
          rw [lts]
          unfold mK
          rw [List.length_map]
        · refine k _ (fun b o nb1 nb2 e => ?_) ⟨⟨dx, l, d, _, ts'.map V.ref, ms0, upd_same, ?_, ?_, lk_same, ?_, ?_, ?_, ?_, pm.symm, srt, ?_⟩, hms, h1, h2⟩
          · rw [upd_ne nb1]
            refine sm7 _ _ ?_
            rw [upd_ne nb1]
            refine s4 _ _ ?_
            rw [upd_ne nb1]
            exact s2 _ _ e
          · exact (lk_ne (by decide +kernel)).trans ((lk_ne (by decide +kernel)).trans lk_same)
          · exact (lk_ne (by decide +kernel)).trans lk_same
          · exact (lk_ne (by decide +kernel)).trans ((lk_ne (by decide +kernel)).trans ((lk_ne (by decide +kernel)).trans rfl))
          · exact (lk_ne (by decide +kernel)).trans ((lk_ne (by decide +kernel)).trans ((lk_ne (by decide +kernel)).trans rfl))
          · rw [upd_ne hlx]
            exact sm7 _ _ hl6
          · refine (hY6.same sm7).tups fun q ys e => ?_
            rw [upd_ne (ne_of e hx7 (by intro z; cases z))]
            exact e
          · rw [upd_ne hdx]
            exact hK
end
end Fam
/-! check_weights, top_weight. -/
namespace Fam
open PySem L2
open C8 (pss_cut tCut)
/-- the greatest of a row of weights -/
theorem best_max {ws : List Int} {ms ms0 : List Nat} {M : Int} (p : ms0.Perm ms) (h1 : M ∈ ms0.map fun m => wsum m ws) (h2 : ∀ a ∈ ms0.map fun m => wsum m ws, a ≤ M) : bestOf ws ms = some M := by
  obtain ⟨m, hm, rfl⟩ := List.mem_map.mp h1
  have hm' := p.mem_iff.mp hm
  obtain ⟨v, e, q, m2, hm2, e2⟩ := best_spec ws ms (fun z => by rw [z] at hm'; cases hm')
  have a1 := q m hm'
  have a2 := h2 _ (List.mem_map.mpr ⟨m2, p.mem_iff.mpr hm2, rfl⟩)
  have a2' : wsum m2 ws ≤ wsum m ws := a2
  rw [e]
  exact congrArg some (by omega)
section
variable {P : Program} {w : World} {K : PySem.W.Frag} {mg : Str → Option Value} {base : Heap} {C : Addr}
theorem scCW : FnScope ["self", "weights"] ["self", "weights"] (defScope sCheckW) := ⟨rfl, rfl, rfl, by decide +kernel, rfl, by decide +kernel, by decide +kernel⟩
theorem ok_check_w {f : Addr} {fd : FuncData} (F : Fun K "check_weights" "Family.check_weights" sCheckW f fd) (FC : FamC K C) (GA : Cal P w K mg base 2 "are_integers" ["value", "many"] (spAreInts K)) : FnOk P w K mg base CX0 3 f fd ["self", "weights"] (spCheckW K C) := by
  obtain ⟨ga, gad, oka, ba, ka, ma⟩ := GA.ex
  refine F.ok scCW (fun vs H Q E h => ?_) (fun cdv A outer s H vs Q E hr h => ?_)
  · obtain ⟨x, b, n, ms, ws, rfl, _⟩ := h
    rfl
  · obtain ⟨x, b, n, ms, ws, rfl, hA, hW, hl, k⟩ := h
    obtain ⟨dx, l, d, fs, ts, ms0, a1, a2, _⟩ := hA.ex
    have hn := hA.h2
    refine ⟨_, pss_one (ps_if (pt_not (pt_val (pe_call oka hr rfl ma ka ba .nil pass0 (pa_cons (pv 1) (pa_cons (pe_fld (pv 0) rfl) pa_nil))))) (pss_one ps_never) pss_nil), ?_⟩
    subst hl
    refine ⟨_, rfl, _, rfl, x, C, dx, fs, _, rfl, a1, FC.cl, FC.size, a2, b, ws, rfl, hW, by omega, fun H1 s1 => ⟨_, rfl, iteF (k _ s1)⟩⟩
abbrev nTW : List Str := ["self", "weights", "lot"]
theorem scTW : FnScope nTW ["self", "weights"] (defScope sTopW) := ⟨rfl, rfl, rfl, by decide +kernel, rfl, by decide +kernel, by decide +kernel⟩
theorem ok_top_w {f g : Addr} {fd gd : FuncData} (F : Fun K "top_weight" "Family.top_weight" sTopW f fd) (T2 : Bare2 mg) (FC : FamC K C) (Mc : Meth K C "check_weights" g) (okc : FnOk P w K mg base CX0 3 g gd ["self", "weights"] (spCheckW K C)) (bc : Binds K gd ["self", "weights"] [])
    (GW : Cal P w K mg base 1 "weight_of" ["lot", "weights"] (spWeightOf K)) : FnOk P w K mg base (L2.CX P w) 4 f fd ["self", "weights"] (spTop K (FAt C)) := by
  obtain ⟨gw, gwd, okw, bw, kw, mw⟩ := GW.ex
  refine F.okX scTW (fun vs H Q E h => ?_) (fun cdv A outer s H vs Q E hr h => ?_)
  · obtain ⟨x, b, n, ms, ws, rfl, _⟩ := h
    rfl
  · obtain ⟨x, b, n, ms, ws, rfl, hA, hW, hl, k⟩ := h
    obtain ⟨dx, l, d, fs, ts, ms0, a1, a2, a3, a4, a5, a6, a7, a8, a9, a10, a11⟩ := hA.ex
    have hn := hA.h2
    have hr1 := hr.mono (j := 1) (by decide)
    refine ⟨_, pss_cons (ps_expr (pe_meth (pv 0) FC.cl Mc okc hr bc .nil pass0 (pa_cons (pv 1) pa_nil)))
      (pss_one (ps_ret (pe_callBK (MaxD.cr_maxD rfl) (by rfl) T2.max (by decide +kernel) (pa_cons (pe_lc (own := [("lot", 2)]) (g := gName 2) (tt := tYes) rfl scTW.nd (pi_tup (pe_fld (pv 0) rfl)) (blkOk_by (own := [("lot", 2)]) (N := nTW) (sc := defScope sTopW) (by decide +kernel)) (fun _ _ _ _ _ => pg_name (i := 2) scTW.nd rfl (Or.inl rfl)) (fun _ _ _ _ _ => pts_nil)
        (fun _ _ _ _ _ => pe_call okw hr1 rfl mw kw bw .nil pass0 (pa_cons (pv 2) (pa_cons (pv 1) pa_nil)))) pa_nil) (pk_cons pe_non pk_nil)))), ?_⟩
    subst hl
    refine ⟨_, rfl, x, dx, fs, rfl, a1, a6, _, rfl, x, b, _, ms, ws, rfl, hA, hW, rfl, fun H1 s1 => ?_⟩
    refine ⟨_, rfl, x, C, dx, fs, _, rfl, s1 _ _ a1, FC.cl, FC.lots, a3, l, rfl, ⟨_, SqT.of (s1 _ _ a7)⟩, fun D hD => ?_⟩
    have hY := a8.same s1
    have hlen : ms0.length ≤ 1024 := by
      rw [a9.length_eq]
      exact Nat.le_trans (nodup_len _ ms hA.ms.nd hA.ms.lt) (pow_le10 hn)
    refine lc_tup (K := K) (a := l) (xs := ts) (fun i H' => Same H1 H' ∧ H' D = some (.lst (((ms0.take i).map fun m => wsum m ws).map V.int))) ⟨same_new hD, upd_same⟩ (fun i H' _ h => SqT.of (h.1 _ _ (s1 _ _ a7))) ?_ ?_
    · rintro i y H2 hy ⟨sm, hT⟩
      obtain ⟨hi, p, rfl, hp⟩ := hY.get hy
      refine ⟨rfl, _, rfl, _, rfl, p, b, ms0[i], ws, rfl, sm _ _ hp, (hW.same s1).same sm, hA.ms.lt _ (a9.mem_iff.mp (List.getElem_mem hi)), hn, fun H3 s3 => ?_⟩
      refine ⟨_, s3 _ _ hT, ?_, same_upd (sm.trans s3) hD, ?_⟩
      · rw [List.length_map, List.length_map, List.length_take]
        exact below (m := 100000) (by omega)
      · rw [upd_same, take_more hi, List.map_append, List.map_append]
        rfl
    · rintro H2 ⟨sm, hT⟩
      rw [hY.len, List.take_length] at hT
      have kk := k H2 (s1.trans sm)
      refine ⟨D, _, rfl, rfl, SqL.of hT, ?_⟩
      by_cases e : ms0 = []
      · refine .inl ⟨by rw [e]; rfl, ?_⟩
        have e2 : ms = [] := by
          have := a9.length_eq
          rw [e] at this
          exact List.length_eq_zero_iff.mp this.symm
        rw [e2] at kk
        exact kk
      · refine .inr ⟨fun z => e (List.map_eq_nil_iff.mp z), fun M h1 h2 => ?_⟩
        rw [best_max a9 h1 h2] at kk
        exact kk
end
end Fam
/-! What the program's search for a broken box finds: plain Lean. -/
namespace Fam
open PySem L2
/-- numbers without a common digit: their sum has the digits of both -/
theorem add_disj : ∀ a b : Nat, a &&& b = 0 → a + b = a ||| b := by
  intro a
  induction a using Nat.strongRecOn with
  | _ a ih =>
    intro b h
    by_cases ha : a = 0
    · rw [ha, Nat.zero_add, Nat.zero_or]
    · have h2 : a / 2 &&& b / 2 = 0 := by rw [← Nat.and_div_two, h]
      have i2 := ih (a / 2) (by omega) (b / 2) h2
      have e1 : (a ||| b) / 2 = a / 2 + b / 2 := by rw [Nat.or_div_two, i2]
      have e2 : (a ||| b) % 2 = a % 2 ||| b % 2 := Nat.or_mod_two_pow (n := 1)
      have e3 : a % 2 &&& b % 2 = 0 := by
        have : (a &&& b) % 2 = a % 2 &&& b % 2 := Nat.and_mod_two_pow (n := 1)
        rw [← this, h]
      have ca : a % 2 = 0 ∨ a % 2 = 1 := by omega
      have cb : b % 2 = 0 ∨ b % 2 = 1 := by omega
      have e4 : (a ||| b) % 2 = a % 2 + b % 2 := by
        rw [e2]
        rcases ca with ca | ca <;> rcases cb with cb | cb <;> rw [ca, cb] at e3 ⊢ <;> first | rfl | exact absurd e3 (by decide)
      omega
theorem xorN_eq (a b : Nat) : xorN a b = a ^^^ b := by
  have d : (a ^^^ b) &&& (a &&& b) = 0 := Nat.eq_of_testBit_eq fun i => by
    rw [Nat.testBit_and, Nat.testBit_xor, Nat.testBit_and, Nat.zero_testBit]
    cases a.testBit i <;> cases b.testBit i <;> rfl
  have s := add_disj _ _ d
  have o : (a ^^^ b) ||| (a &&& b) = a ||| b := Nat.eq_of_testBit_eq fun i => by
    rw [Nat.testBit_or, Nat.testBit_xor, Nat.testBit_and, Nat.testBit_or]
    cases a.testBit i <;> cases b.testBit i <;> rfl
  unfold xorN
  omega
theorem sub_and (z s : Nat) : z - (z &&& s) = z ^^^ (z &&& s) := by
  have d : (z ^^^ (z &&& s)) &&& (z &&& s) = 0 := Nat.eq_of_testBit_eq fun i => by
    rw [Nat.testBit_and, Nat.testBit_xor, Nat.testBit_and, Nat.zero_testBit]
    cases z.testBit i <;> cases s.testBit i <;> rfl
  have t := add_disj _ _ d
  have o : (z ^^^ (z &&& s)) ||| (z &&& s) = z := Nat.eq_of_testBit_eq fun i => by
    rw [Nat.testBit_or, Nat.testBit_xor, Nat.testBit_and]
    cases z.testBit i <;> cases s.testBit i <;> rfl
  omega
/-- the digits of z that s lacks, as Python tells them -/
theorem bit_less (z s : Nat) : Builtin.bitAnd (z : Int) (Builtin.bitNot (s : Int)) = ((z ^^^ (z &&& s) : Nat) : Int) := by
  have n1 : decide ((0 : Int) ≤ Builtin.bitNot (s : Int)) = false := decide_eq_false (by unfold Builtin.bitNot; omega)
  have n2 : (Builtin.bitNot (Builtin.bitNot (s : Int))).toNat = s := by unfold Builtin.bitNot; omega
  rw [← sub_and]
  unfold Builtin.bitAnd
  rw [n1, decide_eq_true (Int.natCast_nonneg z)]
  show (z : Int) - (((z : Int).toNat &&& (Builtin.bitNot (Builtin.bitNot (s : Int))).toNat : Nat) : Int) = _
  rw [n2, Int.toNat_natCast]
  have : z &&& s ≤ z := Nat.and_le_left
  omega
theorem less_iff (x y z : Nat) : (z ^^^ (z &&& xorN x y) = x &&& y) ↔ In (x &&& y) z ∧ In z (x ||| y) := by
  rw [xorN_eq]
  constructor
  · intro h
    refine ⟨fun i hi => ?_, fun i hi => ?_⟩
    · have e := congrArg (fun n => Nat.testBit n i) h
      simp only [Nat.testBit_xor, Nat.testBit_and] at e hi
      revert e hi
      cases x.testBit i <;> cases y.testBit i <;> cases z.testBit i <;> decide
    · have e := congrArg (fun n => Nat.testBit n i) h
      simp only [Nat.testBit_xor, Nat.testBit_and] at e
      rw [Nat.testBit_or]
      revert e hi
      cases x.testBit i <;> cases y.testBit i <;> cases z.testBit i <;> decide
  · rintro ⟨h1, h2⟩
    refine Nat.eq_of_testBit_eq fun i => ?_
    have a := h1 i
    have b := h2 i
    rw [Nat.testBit_or] at b
    simp only [Nat.testBit_xor, Nat.testBit_and] at a ⊢
    revert a b
    cases x.testBit i <;> cases y.testBit i <;> cases z.testBit i <;> decide
/-- what third asks of a lot -/
def thirdP (ms : List Nat) (b s z : Nat) : Bool := !decide (z ∈ ms) && decide (z ^^^ (z &&& s) = b)
theorem thirdP_gap (ms : List Nat) (x y : Nat) : thirdP ms (x &&& y) (xorN x y) = gap ms x y := by
  funext z
  refine Bool.eq_iff_iff.mpr ?_
  rw [gap_iff]
  unfold thirdP
  rw [Bool.and_eq_true, Bool.not_eq_true', decide_eq_false_iff_not, decide_eq_true_eq, less_iff]
/-- what is_broken tells -/
def brk (ms os : List Nat) (b s : Nat) : Bool := os.any fun o => !decide (b ||| (o &&& s) ∈ ms)
theorem brk_iff {n : Nat} {ms os : List Nat} (ho : OrderOf n os) {x y : Nat} (hx : x < 2 ^ n) (hy : y < 2 ^ n) : brk ms os (x &&& y) (xorN x y) = true ↔ ∃ z ∈ os, gap ms x y z = true := by
  have mo : ∀ z, z ∈ os ↔ z < 2 ^ n := fun z => by rw [ho.perm.mem_iff, List.mem_range]
  unfold brk
  rw [List.any_eq_true]
  constructor
  · rintro ⟨o, ho1, h⟩
    rw [Bool.not_eq_true', decide_eq_false_iff_not] at h
    have h2 : In (x &&& y) (x &&& y ||| (o &&& xorN x y)) := in_or_l _ _
    have h3 : In (x &&& y ||| (o &&& xorN x y)) (x ||| y) := fun i hi => by
      rw [xorN_eq] at hi
      simp only [Nat.testBit_or, Nat.testBit_and, Nat.testBit_xor] at hi ⊢
      revert hi
      cases x.testBit i <;> cases y.testBit i <;> cases o.testBit i <;> decide
    exact ⟨_, (mo _).mpr (in_lt h3 (Nat.or_lt_two_pow hx hy)), gap_iff.mpr ⟨h, h2, h3⟩⟩
  · rintro ⟨z, hz, h⟩
    obtain ⟨h1, h2, h3⟩ := gap_iff.mp h
    refine ⟨z, hz, ?_⟩
    rw [Bool.not_eq_true', decide_eq_false_iff_not]
    have e : x &&& y ||| (z &&& xorN x y) = z := Nat.eq_of_testBit_eq fun i => by
      have a := h2 i
      have b := h3 i
      rw [xorN_eq]
      simp only [Nat.testBit_or, Nat.testBit_and, Nat.testBit_xor] at a b ⊢
      revert a b
      cases x.testBit i <;> cases y.testBit i <;> cases z.testBit i <;> decide
    rw [e]
    exact h1
theorem gap_comm (ms : List Nat) (x y : Nat) : gap ms x y = gap ms y x := by
  funext z
  unfold gap
  rw [Nat.and_comm x y, Nat.or_comm x y]
theorem due2_comm {ms os : List Nat} {x y : Nat} (h : due2 ms os x y = none) : due2 ms os y x = none := by
  unfold due2 at *
  rw [Option.map_eq_none_iff] at *
  rw [gap_comm]
  exact h
theorem due2_none {n : Nat} {ms os : List Nat} (ho : OrderOf n os) {x y : Nat} (hx : x < 2 ^ n) (hy : y < 2 ^ n) (h : brk ms os (x &&& y) (xorN x y) = false) : due2 ms os x y = none := by
  unfold due2
  rw [Option.map_eq_none_iff, List.find?_eq_none]
  intro z hz q
  rw [(brk_iff ho hx hy).mpr ⟨z, hz, q⟩] at h
  cases h
theorem due2_some {n : Nat} {ms os : List Nat} (ho : OrderOf n os) {x y : Nat} (hx : x < 2 ^ n) (hy : y < 2 ^ n) (h : brk ms os (x &&& y) (xorN x y) = true) : ∃ z, os.find? (thirdP ms (x &&& y) (xorN x y)) = some z ∧ due2 ms os x y = some (x, y, z) := by
  obtain ⟨z, hz, q⟩ := (brk_iff ho hx hy).mp h
  rw [thirdP_gap]
  cases e : os.find? (gap ms x y) with
  | none => exact absurd q (List.find?_eq_none.mp e z hz)
  | some z' => exact ⟨z', rfl, by unfold due2; rw [e]; rfl⟩
/-- no pair ahead of (i, j) breaks the box -/
def NoBreak (ms os ins : List Nat) (i j : Nat) : Prop := ∀ i' j', i' ≤ j' → j' < ins.length → (i' < i ∨ (i' = i ∧ j' < j)) → due2 ms os (ins.getD i' 0) (ins.getD j' 0) = none
theorem NoBreak.next {ms os ins : List Nat} {i : Nat} (h : NoBreak ms os ins i ins.length) : NoBreak ms os ins (i + 1) (i + 1) := fun i' j' h1 h2 h3 => by
  refine h i' j' h1 h2 ?_
  rcases h3 with h3 | ⟨h3, h4⟩
  · by_cases e : i' = i
    · exact .inr ⟨e, h2⟩
    · exact .inl (by omega)
  · omega
theorem NoBreak.step {ms os ins : List Nat} {i j : Nat} (h : NoBreak ms os ins i j) (hd : due2 ms os (ins.getD i 0) (ins.getD j 0) = none) : NoBreak ms os ins i (j + 1) := fun i' j' h1 h2 h3 => by
  by_cases e : i' = i ∧ j' = j
  · rw [e.1, e.2]
    exact hd
  · exact h i' j' h1 h2 (by omega)
theorem getD_at {l : List Nat} {i : Nat} (h : i < l.length) : l.getD i 0 = l[i] := by rw [List.getD_eq_getElem?_getD, List.getElem?_eq_getElem h]; rfl
theorem nobreak_all {ms os ins : List Nat} (h : NoBreak ms os ins ins.length ins.length) : ins.findSome? (due1 ms os ins) = none := by
  refine List.findSome?_eq_none_iff.mpr fun x hx => List.findSome?_eq_none_iff.mpr fun y hy => ?_
  obtain ⟨i, hi, rfl⟩ := List.getElem_of_mem hx
  obtain ⟨j, hj, rfl⟩ := List.getElem_of_mem hy
  by_cases le : i ≤ j
  · have := h i j le hj (.inl hi)
    rwa [getD_at hi, getD_at hj] at this
  · have := h j i (by omega) hi (.inl hj)
    rw [getD_at hi, getD_at hj] at this
    exact due2_comm this
theorem nobreak_at {ms os ins : List Nat} {i j : Nat} {r : Nat × Nat × Nat} (hi : i < ins.length) (hj : j < ins.length) (hij : i ≤ j) (h : NoBreak ms os ins i j) (hd : due2 ms os (ins.getD i 0) (ins.getD j 0) = some r) : ins.findSome? (due1 ms os ins) = some r := by
  rw [getD_at hi, getD_at hj] at hd
  refine findSome_at hi (fun x hx => List.findSome?_eq_none_iff.mpr fun y hy => ?_) (findSome_at hj (fun y hy => ?_) hd)
  · obtain ⟨i', hi', rfl⟩ := List.getElem_of_mem hx
    obtain ⟨j', hj', rfl⟩ := List.getElem_of_mem hy
    rw [List.length_take] at hi'
    rw [List.getElem_take]
    by_cases le : i' ≤ j'
    · have := h i' j' le hj' (.inl (by omega))
      rwa [getD_at (by omega), getD_at hj'] at this
    · have := h j' i' (by omega) (by omega) (.inl (by omega))
      rw [getD_at hj', getD_at (by omega)] at this
      exact due2_comm this
  · obtain ⟨j', hj', rfl⟩ := List.getElem_of_mem hy
    rw [List.length_take] at hj'
    rw [List.getElem_take]
    by_cases le : i ≤ j'
    · have := h i j' le (by omega) (.inr ⟨rfl, by omega⟩)
      rwa [getD_at hi, getD_at (by omega)] at this
    · have := h j' i (by omega) hi (.inl (by omega))
      rw [getD_at (by omega), getD_at hi] at this
      exact due2_comm this
theorem inside_eq {n : Nat} {ms ms0 os : List Nat} (hn : n ≤ 10) (hm : Masks n ms) (p : ms0.Perm ms) (hs : ms0.Pairwise lotLe) (ho : OrderOf n os) : insideOf ms os = ms0 := by
  have mo : ∀ z, z ∈ os ↔ z < 2 ^ n := fun z => by rw [ho.perm.mem_iff, List.mem_range]
  have mem : ∀ z, z ∈ insideOf ms os ↔ z ∈ ms0 := fun z => by
    unfold insideOf
    rw [List.mem_filter, decide_eq_true_eq, mo, p.mem_iff]
    exact ⟨fun h => h.2, fun h => ⟨hm.lt z h, h⟩⟩
  refine uniq_of (R := lotLe) (fun a b ha hb h1 h2 => ?_) (ho.srt.filter _) hs ?_
  · have la := hm.lt a (p.mem_iff.mp ((mem a).mp ha))
    have lb := hm.lt b (p.mem_iff.mp ((mem b).mp hb))
    exact lotI_inj hn la lb (lex_tot _ _ h2 h1)
  · refine (List.perm_ext_iff_of_nodup ?_ (p.nodup_iff.mpr hm.nd)).mpr mem
    exact (ho.perm.nodup_iff.mpr List.nodup_range).filter _
end Fam
/-! check_word; Closing: what stands in the heap, parts_in, misses. -/
namespace Fam
open PySem L2
open C8 (pss_cut tCut)
abbrev sCheckWord : Stmt := top 42
abbrev sClInit : Stmt := inClass (top 43) 0
abbrev sPartsIn : Stmt := inClass (top 43) 1
abbrev sIsBroken : Stmt := inClass (top 43) 2
abbrev sMisses : Stmt := inClass (top 43) 3
abbrev sThird : Stmt := inClass (top 43) 4
def spCheckWord (B : Addr) : Sp := fun vs H Q E => ∃ word : V, vs = [word] ∧ ((word = .str "box" ∧ Q .non H) ∨ (badAll word ∧ ∀ (d : Addr) (H' : Hp), Same H H' → H d = none → H' d = some (.xd [("which", .str "word")]) → E (.ref B) (some d) H'))
/-- a dict comprehension over a list -/
theorem dc_lst {K : PySem.W.Frag} {a : Addr} {xs : List V} {g : TG} {tt : TT} {tk tv : TE} {vs : List Nat} {σ : L2.St} {H1 : Hp} {D : Addr} {Qd : Hp → Prop} (Pv : Nat → Hp → Prop) (h0 : Pv 0 (upd H1 D (.dK []))) (hl : ∀ i H, i ≤ xs.length → Pv i H → SqL K H a xs)
    (hs : ∀ i x H, xs[i]? = some x → Pv i H → g x (wipe σ vs) H fun σ2 H2 => wipe σ2 vs = wipe σ vs ∧ tt σ2 H2 fun b H3 =>
      if b = true then tk σ2 H3 fun y H4 => tv σ2 H4 fun z H5 => ∃ kvs k, y = kV k ∧ H5 D = some (.dK kvs) ∧ kvs.length < sizeLine ∧ Pv (i + 1) (upd H5 D (.dK (putK kvs k z))) else Pv (i + 1) H3) (hd : ∀ H, Pv xs.length H → Qd H) :
    ∃ W : Nat → Nat → Hp → Prop, (∃ m, W 0 m (upd H1 D (.dK []))) ∧ ∀ i m H, W i m H →
      ((Itl K a).stop i H ∧ Qd H) ∨ ((Itl K a).go i H ∧ ∃ Nx : Hp → Prop, (∀ H', Nx H' → ∃ m', m' < m ∧ W (i + 1) m' H') ∧ ∀ x H', (Itl K a).yld i H x H' → g x (wipe σ vs) H' fun σ2 H2 => wipe σ2 vs = wipe σ vs ∧ tt σ2 H2 fun b H3 =>
        if b = true then tk σ2 H3 fun y H4 => tv σ2 H4 fun z H5 => ∃ kvs k, y = kV k ∧ H5 D = some (.dK kvs) ∧ kvs.length < sizeLine ∧ Nx (upd H5 D (.dK (putK kvs k z))) else Nx H3) := by
  refine ⟨fun i m H => m = xs.length - i ∧ i ≤ xs.length ∧ Pv i H, ⟨xs.length, rfl, Nat.zero_le _, h0⟩, ?_⟩
  rintro i _ H ⟨rfl, hi, p⟩
  have q := hl i H hi p
  rcases Nat.lt_or_ge i xs.length with lt | ge
  · exact .inr ⟨⟨xs, xs[i], q, List.getElem?_eq_getElem lt⟩, Pv (i + 1), fun H' p' => ⟨xs.length - (i + 1), by omega, rfl, lt, p'⟩, fun x H' ⟨e, y⟩ => by subst e; exact hs i x _ (y xs q) p⟩
  · have e : i = xs.length := Nat.le_antisymm hi ge
    subst e
    exact .inl ⟨⟨xs, q, Nat.le_refl _⟩, hd H p⟩
theorem mK_old {ms : List Nat} {m : Nat} (h : m ∈ ms) : putK (mK ms) (Sum.inl (m : Int) : Key) (.bl true) = mK ms := by
  have ha : ((mK ms).any fun kv => decide (kv.1 = (Sum.inl (m : Int) : Key))) = true := by
    refine List.any_eq_true.mpr ⟨(Sum.inl (m : Int), .bl true), List.mem_map.mpr ⟨m, h, rfl⟩, decide_eq_true rfl⟩
  unfold putK
  rw [if_pos ha]
  unfold mK
  rw [List.map_map]
  refine List.map_congr_left fun x _ => ?_
  show (if (Sum.inl (x : Int) : Key) = Sum.inl (m : Int) then ((Sum.inl (x : Int) : Key), V.bl true) else _) = _
  by_cases e : (Sum.inl (x : Int) : Key) = Sum.inl (m : Int)
  · rw [if_pos e]
  · rw [if_neg e]
/-- the class Closing -/
structure CloC (K : PySem.W.Frag) (CC : Addr) : Prop where
  cl : Cls K CC
  family : NoAttr K CC "family"
  how : NoAttr K CC "how"
  order : NoAttr K CC "order"
  others : NoAttr K CC "others"
  parts : NoAttr K CC "parts"
  known : NoAttr K CC "known"
/-- the heap without two addresses -/
def hide (H : Hp) (dp dk : Addr) : Hp := fun b => if b = dp ∨ b = dk then none else H b
theorem hide_some {H : Hp} {dp dk b : Addr} {o : HO} (h : hide H dp dk b = some o) : b ≠ dp ∧ b ≠ dk ∧ H b = some o := by
  unfold hide at h
  split at h
  · cases h
  · rename_i n
    exact ⟨fun e => n (.inl e), fun e => n (.inr e), h⟩
theorem hide_of {H : Hp} {dp dk b : Addr} {o : HO} (h1 : b ≠ dp) (h2 : b ≠ dk) (h : H b = some o) : hide H dp dk b = some o := by
  unfold hide
  rw [if_neg (fun z => z.elim h1 h2)]
  exact h
theorem hide_same (H : Hp) (dp dk : Addr) : Same (hide H dp dk) H := fun _ _ h => (hide_some h).2.2
/-- all that stood but the dicts at dp, dk stands -/
def KpD (dp dk : Addr) (H H' : Hp) : Prop := ∀ b o, b ≠ dp → b ≠ dk → H b = some o → H' b = some o
theorem KpD.hide {dp dk : Addr} {H H' : Hp} (k : KpD dp dk H H') : Same (hide H dp dk) (hide H' dp dk) := fun b o h => by
  obtain ⟨h1, h2, h3⟩ := hide_some h
  exact hide_of h1 h2 (k _ _ h1 h2 h3)
theorem KpD.of {dp dk : Addr} {H H' : Hp} (s : Same H H') : KpD dp dk H H' := fun b o _ _ e => s b o e
theorem KpD.trans {dp dk : Addr} {H H1 H2 : Hp} (a : KpD dp dk H H1) (b : KpD dp dk H1 H2) : KpD dp dk H H2 := fun x o h1 h2 e => b x o h1 h2 (a x o h1 h2 e)
/-- a Closing by "box" of the family at f stands at c -/
structure CAt (C CC : Addr) (H : Hp) (c f lo dp dk : Addr) (n : Nat) (ms os : List Nat) (tp tk : Nat) : Prop where
  fam : FAt C (hide H dp dk) f n ms
  ob : ∃ (dx la : Addr) (fs : List (Str × V)), H c = some (.ins CC dx fs) ∧ fs.lookup ("family" : Str) = some (.ref f) ∧ fs.lookup ("how" : Str) = some (.str "box") ∧ fs.lookup ("order" : Str) = some (.ref lo) ∧ fs.lookup ("others" : Str) = some (.ref la) ∧
    fs.lookup ("parts" : Str) = some (.ref dp) ∧ fs.lookup ("known" : Str) = some (.ref dk) ∧ fs.lookup ("parts_in" : Str) = none ∧ fs.lookup ("misses" : Str) = none ∧ fs.lookup ("is_broken" : Str) = none ∧ fs.lookup ("third" : Str) = none ∧ H la = some (.lst (os.map vInt))
  row : H lo = some (.lst (ms.map vInt))
  ord : OrderOf n os
  pa : ∃ kp, H dp = some (.dK kp) ∧ kp.length ≤ tp ∧ ∀ (s : Nat) (v : V), valV kp (Sum.inl (s : Int) : Key) = some v → ∃ (p : Addr) (ps : List Nat), v = .ref p ∧ H p = some (.lst (ps.map vInt)) ∧ ps.length ≤ 1024 ∧ ∀ q, q ∈ ps ↔ ∃ o ∈ os, o &&& s = q
  kn : ∃ kk, H dk = some (.dT kk) ∧ kk.length ≤ tk ∧ ∀ (b s : Nat) (v : V), valV kk [(Sum.inl (b : Int) : Key), Sum.inl (s : Int)] = some v → v = .bl (brk ms os b s)
theorem CAt.same {C CC : Addr} {H H' : Hp} {c f lo dp dk : Addr} {n : Nat} {ms os : List Nat} {tp tk : Nat} (h : CAt C CC H c f lo dp dk n ms os tp tk) (s : Same H H') : CAt C CC H' c f lo dp dk n ms os tp tk := by
  obtain ⟨h1, ⟨dx, la, fs, a1, a2, a3, a4, a5, a6, a7, a8, a9, b1, b2, b3⟩, h3, h4, ⟨kp, p1, p2, p3⟩, ⟨kk, k1, k2, k3⟩⟩ := h
  refine ⟨h1.same (KpD.of s).hide, ⟨dx, la, fs, s _ _ a1, a2, a3, a4, a5, a6, a7, a8, a9, b1, b2, s _ _ b3⟩, s _ _ h3, h4, ⟨kp, s _ _ p1, p2, fun x v e => ?_⟩, ⟨kk, s _ _ k1, k2, k3⟩⟩
  obtain ⟨p, ps, q1, q2, q3⟩ := p3 x v e
  exact ⟨p, ps, q1, s _ _ q2, q3⟩
def spPartsIn (C CC : Addr) : Sp := fun vs H Q _ => ∃ (c f lo dp dk : Addr) (n : Nat) (ms os : List Nat) (tp tk s : Nat), vs = [.ref c, vInt s] ∧ CAt C CC H c f lo dp dk n ms os tp tk ∧ tp < 4000000 ∧
  ∀ (H' : Hp) (p : Addr) (ps : List Nat), CAt C CC H' c f lo dp dk n ms os (tp + 1) tk → KpD dp dk H H' → H' p = some (.lst (ps.map vInt)) → ps.length ≤ 1024 → (∀ q, q ∈ ps ↔ ∃ o ∈ os, o &&& s = q) → Q (.ref p) H'
def spMisses (C CC : Addr) : Sp := fun vs H Q _ => ∃ (c f lo dp dk : Addr) (n : Nat) (ms os : List Nat) (tp tk b s : Nat), vs = [.ref c, vInt b, vInt s] ∧ CAt C CC H c f lo dp dk n ms os tp tk ∧ tp < 4000000 ∧
  ∀ H', CAt C CC H' c f lo dp dk n ms os (tp + 1) tk → KpD dp dk H H' → Q (.bl (brk ms os b s)) H'
def spIsBroken (C CC : Addr) : Sp := fun vs H Q _ => ∃ (c f lo dp dk : Addr) (n : Nat) (ms os : List Nat) (tp tk b s : Nat), vs = [.ref c, vInt b, vInt s] ∧ CAt C CC H c f lo dp dk n ms os tp tk ∧ tp < 4000000 ∧ tk < 4000000 ∧
  ∀ H', CAt C CC H' c f lo dp dk n ms os (tp + 1) (tk + 1) → KpD dp dk H H' → Q (.bl (brk ms os b s)) H'
def optL : Option Nat → List V
  | none => []
  | some z => [vInt z]
def spThird (C CC : Addr) : Sp := fun vs H Q _ => ∃ (c f lo dp dk : Addr) (n : Nat) (ms os : List Nat) (tp tk b s : Nat), vs = [.ref c, vInt b, vInt s] ∧ CAt C CC H c f lo dp dk n ms os tp tk ∧
  ∀ (H' : Hp) (p : Addr), Same H H' → H p = none → H' p = some (.tup (optL (os.find? (thirdP ms b s)))) → Q (.ref p) H'

section
variable {P : Program} {w : World} {K : PySem.W.Frag} {mg : Str → Option Value} {base : Heap} {C CC B : Addr}
theorem scCWd : FnScope ["word"] ["word"] (defScope sCheckWord) := ⟨rfl, rfl, rfl, by decide +kernel, rfl, by decide +kernel, by decide +kernel⟩
theorem ok_check_word {f : Addr} {fd : FuncData} (F : Fun K "check_word" "check_word" sCheckWord f fd) (T : Bare mg) (T2 : Bare2 mg) (N : BadRaise P w K mg base B) (mC : mg "Family" = some (.ref C)) (Wd : Words K C) : FnOk P w K mg base (L2.CX P w) 3 f fd ["word"] (spCheckWord B) := by
  obtain ⟨g, gd, iC, tI, ok, b⟩ := N.init
  obtain ⟨mc, wu, wt, wr, wv, wS⟩ := Wd.ex
  refine F.okX scCWd (fun vs H Q E h => ?_) (fun cdv A outer s H vs Q E hr h => ?_)
  · obtain ⟨v, rfl, _⟩ := h
    rfl
  · obtain ⟨v, rfl, hv⟩ := h
    refine ⟨_, pss_one (ps_if (PW.pt (pw_or (pt_not (pt_val (pe_callB call_isi (by rfl) T.isi (by decide +kernel) (pa_cons (pv 0) (pa_cons (pe_ty (n := "str") (by rfl) T2.str (by decide +kernel)) pa_nil)))))
        (pw_or1 (pt_cmpR op_notIn_seq (pv 0) (ClX.pe_cval (pe_glob (v := .ref C) rfl mC rfl)) (by rfl)))))
        (pss_one (ps_raise rfl (takes_of rfl rfl rfl rfl) (pmk_oex N.oex iC tI ok hr b .nil pass0 rfl N.gB (pa_cons pe_str pa_nil)))) pss_nil), ?_⟩
    rcases hv with ⟨rfl, k⟩ | ⟨hb, k⟩
    · refine ⟨_, rfl, _, _, _, _, true, rfl, .ty _, .base (.str _), kit_ty (by decide +kernel), _, rfl, iteF ?_⟩
      exact ⟨_, rfl, C, mc, .ref wt, wu, rfl, wr, wv, wt, _, rfl, .inr (wS H), rfl, by decide +kernel, _, rfl, iteF k⟩
    · rcases hb with rfl | rfl | rfl | rfl | rfl | rfl
      · refine ⟨_, rfl, _, _, _, _, true, rfl, .ty _, .base (.str _), kit_ty (by decide +kernel), _, rfl, iteF ?_⟩
        refine ⟨_, rfl, C, mc, .ref wt, wu, rfl, wr, wv, wt, _, rfl, .inr (wS H), rfl, by decide +kernel, _, rfl, iteT ?_⟩
        exact bad_read N (fun Q' q => q) k
      · refine ⟨_, rfl, _, _, _, _, true, rfl, .ty _, .base (.str _), kit_ty (by decide +kernel), _, rfl, iteF ?_⟩
        refine ⟨_, rfl, C, mc, .ref wt, wu, rfl, wr, wv, wt, _, rfl, .inr (wS H), rfl, by decide +kernel, _, rfl, iteT ?_⟩
        exact bad_read N (fun Q' q => q) k
      · refine ⟨_, rfl, _, _, _, _, false, rfl, .ty _, .base .non, kit_ty (by decide +kernel), _, rfl, iteT (iteT ?_)⟩
        exact bad_read N (fun Q' q => q) k
      · refine ⟨_, rfl, _, _, _, _, false, rfl, .ty _, .base (.int _), kit_ty (by decide +kernel), _, rfl, iteT (iteT ?_)⟩
        exact bad_read N (fun Q' q => q) k
      · refine ⟨_, rfl, _, _, _, _, true, rfl, .ty _, .base (.str _), kit_ty (by decide +kernel), _, rfl, iteF ?_⟩
        refine ⟨_, rfl, C, mc, .ref wt, wu, rfl, wr, wv, wt, _, rfl, .inr (wS H), rfl, by decide +kernel, _, rfl, iteT ?_⟩
        exact bad_read N (fun Q' q => q) k
      · refine ⟨_, rfl, _, _, _, _, true, rfl, .ty _, .base (.str _), kit_ty (by decide +kernel), _, rfl, iteF ?_⟩
        refine ⟨_, rfl, C, mc, .ref wt, wu, rfl, wr, wv, wt, _, rfl, .inr (wS H), rfl, by decide +kernel, _, rfl, iteT ?_⟩
        exact bad_read N (fun Q' q => q) k
end
end Fam
/-! Closing: parts_in, misses. -/
namespace Fam
open PySem L2
open C8 (pss_cut tCut)
section
variable {P : Program} {w : World} {K : PySem.W.Frag} {mg : Str → Option Value} {base : Heap} {C CC B : Addr}
abbrev nPI : List Str := ["self", "single", "other"]
theorem scPI : FnScope nPI ["self", "single"] (defScope sPartsIn) := ⟨rfl, rfl, rfl, by decide +kernel, rfl, by decide +kernel, by decide +kernel⟩
theorem ok_parts_in {f : Addr} {fd : FuncData} (F : Fun K "parts_in" "Closing.parts_in" sPartsIn f fd) (T : Bare mg) (CL : CloC K CC) : FnOk P w K mg base CX0 1 f fd ["self", "single"] (spPartsIn C CC) := by
  refine F.ok scPI (fun vs H Q E h => ?_) (fun cdv A outer s H vs Q E hr h => ?_)
  · obtain ⟨c, fa, lo, dp, dk, n, ms, os, tp, tk, x, rfl, _⟩ := h
    rfl
  · obtain ⟨c, fa, lo, dp, dk, n, ms, os, tp, tk, x, rfl, hC, ht, k⟩ := h
    have hu := hu_of hr
    obtain ⟨hF, ⟨dx, la, fs, a1, a2, a3, a4, a5, a6, a7, a8, a9, b1, b2, b3⟩, hrow, hord, ⟨kp, p1, p2, p3⟩, hkn⟩ := id hC
    obtain ⟨kk, k1, k2, k3⟩ := id hkn
    refine ⟨_, pss_cons (ps_if (pt_cmp (pc_dnotin hu (pv 1) (pe_fld (pv 0) rfl)))
        (pss_one (ps_dput hu (pe_fld (pv 0) rfl) (pv 1) (pe_callTy (call_list_dK rfl) (by rfl) T.list (by decide +kernel) (pa_cons (pe_dc (own := [("other", 2)]) (g := gName 2) (tt := tYes) rfl scPI.nd (pi_list (pe_fld (pv 0) rfl)) (blkOk_by (own := [("other", 2)]) (N := nPI) (sc := defScope sPartsIn) (by decide +kernel)) (fun _ _ _ _ _ => pg_name (i := 2) scPI.nd rfl (Or.inl rfl)) (fun _ _ _ _ _ => pts_nil)
          (fun _ _ _ _ _ => pe_op op_and (pv 2) (pv 1)) (fun _ _ _ _ _ => pe_bl)) pa_nil)) rfl)) pss_nil)
      (pss_one (ps_ret (pe_dget hu (pe_fld (pv 0) rfl) (pv 1) (fun _ _ => rfl)))), ?_⟩
    refine ⟨_, rfl, _, rfl, c, CC, dx, fs, _, rfl, a1, CL.cl, CL.parts, a6, dp, _, rfl, DGet.k (k := (Sum.inl (x : Int) : Key)) p1, _, rfl, ?_⟩
    cases e : valV kp (Sum.inl (x : Int) : Key) with
    | some v =>
      obtain ⟨p, ps, rfl, q2, q4, q3⟩ := p3 x v e
      refine iteF ⟨_, rfl, c, CC, dx, fs, _, rfl, a1, CL.cl, CL.parts, a6, _, rfl, dp, _, rfl, (by have z := DGet.k (k := (Sum.inl (x : Int) : Key)) p1; rw [e] at z; exact z), ?_⟩
      exact k H p ps ⟨hF, ⟨dx, la, fs, a1, a2, a3, a4, a5, a6, a7, a8, a9, b1, b2, b3⟩, hrow, hord, ⟨kp, p1, by omega, p3⟩, hkn⟩ (KpD.of (Same.refl _)) q2 q4 q3
    | none =>
      refine iteT ⟨_, rfl, c, CC, dx, fs, _, rfl, a1, CL.cl, CL.others, a5, la, rfl, ⟨_, SqL.of b3⟩, fun D hD => ?_⟩
      have h1024 : os.length ≤ 1024 := by
        rw [hord.perm.length_eq, List.length_range]
        exact pow_le10 hF.h2
      refine dc_lst (K := K) (a := la) (xs := os.map vInt) (fun i H' => Same H H' ∧ ∃ ks : List Nat, H' D = some (.dK (mK ks)) ∧ ks.length ≤ i ∧ ∀ q, q ∈ ks ↔ ∃ o ∈ os.take i, o &&& x = q) ⟨same_new hD, [], upd_same, Nat.le_refl _, fun q => ⟨fun z => (by cases z), fun ⟨_, z, _⟩ => (by cases z)⟩⟩ (fun i H' _ h => SqL.of (h.1 _ _ b3)) ?_ ?_
      · rintro i y H1 hy ⟨sm, ks, hT, hl, hm⟩
        obtain ⟨hi, rfl⟩ := item hy
        refine ⟨rfl, _, rfl, _, rfl, _, _, rfl, rfl, mK ks, (Sum.inl ((os[i] &&& x : Nat) : Int) : Key), congrArg V.int (bitAnd_nat _ _), hT, ?_, same_upd sm hD, ?_⟩
        · unfold mK
          rw [List.length_map]
          exact below (m := 100000) (by omega)
        · have hm2 : ∀ ks' : List Nat, (∀ q, q ∈ ks' ↔ q ∈ ks ∨ q = os[i] &&& x) → ∀ q, q ∈ ks' ↔ ∃ o ∈ os.take (i + 1), o &&& x = q := fun ks' h q => by
            rw [h, hm, take_more hi]
            constructor
            · rintro (⟨o, ho, e⟩ | e)
              · exact ⟨o, List.mem_append_left _ ho, e⟩
              · exact ⟨os[i], List.mem_append_right _ List.mem_cons_self, e.symm⟩
            · rintro ⟨o, ho, e⟩
              rcases List.mem_append.mp ho with z | z
              · exact .inl ⟨o, z, e⟩
              · rw [List.mem_singleton.mp z] at e
                exact .inr e.symm
          by_cases hin : (os[i] &&& x) ∈ ks
          · refine ⟨ks, by rw [upd_same, mK_old hin], by omega, hm2 ks fun q => ⟨.inl, fun z => z.elim id fun e => e ▸ hin⟩⟩
          · refine ⟨ks ++ [os[i] &&& x], by rw [upd_same, mK_snoc _ _ hin], by rw [List.length_append]; exact Nat.succ_le_succ hl, hm2 _ fun q => ?_⟩
            rw [List.mem_append, List.mem_singleton]
      · rintro H1 ⟨sm, ks, hT, hl, hm⟩
        rw [List.length_map, List.take_length] at hm
        rw [List.length_map] at hl
        have hl2 : ks.length ≤ 1024 := Nat.le_trans hl h1024
        refine ⟨D, mK ks, rfl, hT, fun p hp => ?_⟩
        have ek : ((mK ks).map fun kv => kV kv.1) = ks.map vInt := by
          unfold mK
          rw [List.map_map]
          rfl
        rw [ek]
        have s2 : Same H (upd H1 p (.lst (ks.map vInt))) := sm.trans (same_new hp)
        have a1' := s2 _ _ a1
        have p1' := s2 _ _ p1
        refine ⟨_, rfl, c, CC, dx, fs, _, rfl, a1', CL.cl, CL.parts, a6, _, rfl, dp, _, rfl, DPut.k (k := (Sum.inl (x : Int) : Key)) p1' (below (m := 4000000) (by omega)), ?_⟩
        have hne : ∀ b o, b ≠ dp → H b = some o → (upd (upd H1 p (.lst (ks.map vInt))) dp (.dK (putK kp (Sum.inl (x : Int) : Key) (.ref p)))) b = some o := fun b o nb e => by
          rw [upd_ne nb]
          exact s2 _ _ e
        have npd : p ≠ dp := ne_of (upd_same (H := H1) (a := p)) p1' (by intro z; cases z)
        have hp' : (upd (upd H1 p (.lst (ks.map vInt))) dp (.dK (putK kp (Sum.inl (x : Int) : Key) (.ref p)))) p = some (.lst (ks.map vInt)) := by
          rw [upd_ne npd]
          exact upd_same
        have kd : KpD dp dk H (upd (upd H1 p (.lst (ks.map vInt))) dp (.dK (putK kp (Sum.inl (x : Int) : Key) (.ref p)))) := fun b o h1 _ e => hne b o h1 e
        have hcd : c ≠ dp := ne_of a1 p1 (by intro z; cases z)
        have hC' : CAt C CC (upd (upd H1 p (.lst (ks.map vInt))) dp (.dK (putK kp (Sum.inl (x : Int) : Key) (.ref p)))) c fa lo dp dk n ms os (tp + 1) tk := by
          refine ⟨hF.same kd.hide, ⟨dx, la, fs, hne _ _ hcd a1, a2, a3, a4, a5, a6, a7, a8, a9, b1, b2, hne _ _ (ne_of b3 p1 (by intro z; cases z)) b3⟩, hne _ _ (ne_of hrow p1 (by intro z; cases z)) hrow, hord,
            ⟨_, upd_same, Nat.le_trans (length_putK _ _ _) (Nat.succ_le_succ p2), fun s' v hv => ?_⟩, ⟨kk, hne _ _ (ne_of k1 p1 (by intro z; cases z)) k1, k2, k3⟩⟩
          rw [valV_put] at hv
          by_cases es : (Sum.inl (s' : Int) : Key) = Sum.inl (x : Int)
          · rw [if_pos es] at hv
            cases hv
            rw [Int.ofNat.inj (Sum.inl.inj es)]
            exact ⟨p, ks, rfl, hp', hl2, hm⟩
          · rw [if_neg es] at hv
            obtain ⟨p', ps, q1, q2, q4, q3⟩ := p3 s' v hv
            exact ⟨p', ps, q1, hne _ _ (ne_of q2 p1 (by intro z; cases z)) q2, q4, q3⟩
        refine ⟨_, rfl, c, CC, dx, fs, _, rfl, hne _ _ hcd a1, CL.cl, CL.parts, a6, _, rfl, dp, _, rfl, (by have z := DGet.k (H := (upd (upd H1 p (.lst (ks.map vInt))) dp (.dK (putK kp (Sum.inl (x : Int) : Key) (.ref p))))) (k := (Sum.inl (x : Int) : Key)) upd_same; rw [valV_put, if_pos rfl] at z; exact z), ?_⟩
        exact k _ p ks hC' kd hp' hl2 hm
end
end Fam
/-! Closing: misses, is_broken, third. -/
namespace Fam
open PySem L2
open C8 (pss_cut tCut)
theorem brk_of {ms os ps : List Nat} {b s : Nat} (h : ∀ q, q ∈ ps ↔ ∃ o ∈ os, o &&& s = q) : (ps.map fun q => !decide (b ||| q ∈ ms)).any id = brk ms os b s := by
  refine Bool.eq_iff_iff.mpr ?_
  unfold brk
  rw [List.any_eq_true, List.any_eq_true]
  constructor
  · rintro ⟨y, hy, e⟩
    obtain ⟨q, hq, rfl⟩ := List.mem_map.mp hy
    obtain ⟨o, ho, rfl⟩ := (h q).mp hq
    exact ⟨o, ho, e⟩
  · rintro ⟨o, ho, e⟩
    exact ⟨_, List.mem_map.mpr ⟨o &&& s, (h _).mpr ⟨o, ho, rfl⟩, rfl⟩, e⟩
section
variable {P : Program} {w : World} {K : PySem.W.Frag} {mg : Str → Option Value} {base : Heap} {C CC B : Addr}
abbrev nMI : List Str := ["self", "both", "single", "masks", "other", "part"]
theorem scMI : FnScope nMI ["self", "both", "single"] (defScope sMisses) := ⟨rfl, rfl, rfl, by decide +kernel, rfl, by decide +kernel, by decide +kernel⟩
theorem ok_misses {f g : Addr} {fd gd : FuncData} (F : Fun K "misses" "Closing.misses" sMisses f fd) (T2 : Bare2 mg) (CL : CloC K CC) (FC : FamC K C) (Mp : Meth K CC "parts_in" g) (okp : FnOk P w K mg base CX0 1 g gd ["self", "single"] (spPartsIn C CC)) (bp : Binds K gd ["self", "single"] []) :
    FnOk P w K mg base CX0 2 f fd ["self", "both", "single"] (spMisses C CC) := by
  refine F.ok scMI (fun vs H Q E h => ?_) (fun cdv A outer s H vs Q E hr h => ?_)
  · obtain ⟨c, fa, lo, dp, dk, n, ms, os, tp, tk, b, x, rfl, _⟩ := h
    rfl
  · obtain ⟨c, fa, lo, dp, dk, n, ms, os, tp, tk, b, x, rfl, hC, ht, k⟩ := h
    have hu := hu_of hr
    obtain ⟨hF, ⟨dx, la, fs, a1, a2, a3, a4, a5, a6, a7, a8, a9, b1, b2, b3⟩, hrow, hord, hpa, hkn⟩ := id hC
    obtain ⟨dy, l, d, gs, ts, ms0, f1, f2, f3, f4, f5, f6, f7, f8, f9, f10, f11⟩ := hF.ex
    have f1' := hide_same _ _ _ _ _ f1
    have hms0 : ∀ q, decide (q ∈ ms0) = decide (q ∈ ms) := fun q => decide_eq_decide.mpr f9.mem_iff
    refine ⟨_, pss_cons (ps_set (i := 3) scMI.nd rfl (Or.inr rfl) (pe_fld (pe_fld (pv 0) rfl) rfl))
      (pss_cons (ps_if (pt_cmpR op_eq (pe_fld (pv 0) rfl) pe_str (nomark _)) (pss_one ps_never) pss_nil)
      (pss_cons (ps_if (pt_cmpR op_eq (pe_fld (pv 0) rfl) pe_str (nomark _)) (pss_one ps_never) pss_nil)
      (pss_cons (ps_if (pt_cmpR op_eq (pe_fld (pv 0) rfl) pe_str (nomark _)) (pss_one ps_never) pss_nil)
      (pss_one (ps_ret (pe_callB (cr_any rfl) (by rfl) T2.any (by decide +kernel) (pa_cons (pe_lc (own := [("part", 5)]) (g := gName 5) (tt := tYes) rfl scMI.nd (pi_list (pe_meth (pv 0) CL.cl Mp okp hr bp .nil pass0 (pa_cons (pv 2) pa_nil))) (blkOk_by (own := [("part", 5)]) (N := nMI) (sc := defScope sMisses) (by decide +kernel)) (fun _ _ _ _ _ => pg_name (i := 5) scMI.nd rfl (Or.inl rfl)) (fun _ _ _ _ _ => pts_nil)
        (fun _ _ _ _ _ => pe_cmp (pc_dnotin hu (pe_op op_or (pv 1) (pv 5)) (pv 3)) rfl)) pa_nil))))))), ?_⟩
    refine ⟨_, rfl, c, CC, dx, fs, _, rfl, a1, CL.cl, CL.family, a2, fa, C, dy, gs, _, rfl, f1', FC.cl, FC.masks, f4, ?_⟩
    refine ⟨_, rfl, c, CC, dx, fs, _, rfl, a1, CL.cl, CL.how, a3, rfl, _, rfl, ite2 (fun z => absurd (of_decide_eq_true z) (by decide +kernel)) fun _ => ?_⟩
    refine ⟨_, rfl, c, CC, dx, fs, _, rfl, a1, CL.cl, CL.how, a3, rfl, _, rfl, ite2 (fun z => absurd (of_decide_eq_true z) (by decide +kernel)) fun _ => ?_⟩
    refine ⟨_, rfl, c, CC, dx, fs, _, rfl, a1, CL.cl, CL.how, a3, rfl, _, rfl, ite2 (fun z => absurd (of_decide_eq_true z) (by decide +kernel)) fun _ => ?_⟩
    refine ⟨_, rfl, c, dx, fs, rfl, a1, a8, _, rfl, c, fa, lo, dp, dk, n, ms, os, tp, tk, x, rfl, hC, ht, fun H1 p ps hC1 kd hp hpl hm => ⟨p, rfl, ⟨_, SqL.of hp⟩, fun D hD => ?_⟩⟩
    have hfd := hide_some f11
    have d1 := kd _ _ hfd.1 hfd.2.1 hfd.2.2
    refine lc_list (K := K) (a := p) (xs := ps.map vInt) (fun i H' => Same H1 H' ∧ H' D = some (.lst (((ps.take i).map fun q => !decide (b ||| q ∈ ms)).map V.bl))) ⟨same_new hD, upd_same⟩ (fun i H' _ h => SqL.of (h.1 _ _ hp)) ?_ ?_
    · rintro i y H2 hy ⟨sm, hT⟩
      obtain ⟨hi, rfl⟩ := item hy
      refine ⟨rfl, _, rfl, _, rfl, _, _, rfl, rfl, _, rfl, d, _, rfl, (by show DGet _ _ (V.int (Builtin.bitOr ((b : Nat) : Int) ((ps[i] : Nat) : Int))) _; rw [bitOr_nat]; exact DGet.k (k := (Sum.inl ((b ||| ps[i] : Nat) : Int) : Key)) (sm _ _ d1)), ?_⟩
      rw [some_mK, hms0]
      refine ⟨_, hT, ?_, same_upd sm hD, ?_⟩
      · rw [List.length_map, List.length_map, List.length_take]
        exact below (m := 100000) (by omega)
      · rw [upd_same, take_more hi, List.map_append, List.map_append]
        rfl
    · rintro H2 ⟨sm, hT⟩
      rw [List.length_map, List.take_length] at hT
      refine ⟨D, _, rfl, SqL.of hT, ?_⟩
      rw [brk_of hm]
      exact k H2 (hC1.same sm) (kd.trans (KpD.of sm))
end
end Fam
/-! Closing: is_broken, third. -/
namespace Fam
open PySem L2
open C8 (pss_cut tCut)
section
variable {P : Program} {w : World} {K : PySem.W.Frag} {mg : Str → Option Value} {base : Heap} {C CC B : Addr}
abbrev nIBr : List Str := ["self", "both", "single", "key"]
theorem scIBr : FnScope nIBr ["self", "both", "single"] (defScope sIsBroken) := ⟨rfl, rfl, rfl, by decide +kernel, rfl, by decide +kernel, by decide +kernel⟩
theorem ok_is_broken {f g : Addr} {fd gd : FuncData} (F : Fun K "is_broken" "Closing.is_broken" sIsBroken f fd) (CL : CloC K CC) (Mm : Meth K CC "misses" g) (okm : FnOk P w K mg base CX0 2 g gd ["self", "both", "single"] (spMisses C CC)) (bm : Binds K gd ["self", "both", "single"] []) :
    FnOk P w K mg base CX0 3 f fd ["self", "both", "single"] (spIsBroken C CC) := by
  refine F.ok scIBr (fun vs H Q E h => ?_) (fun cdv A outer s H vs Q E hr h => ?_)
  · obtain ⟨c, fa, lo, dp, dk, n, ms, os, tp, tk, b, x, rfl, _⟩ := h
    rfl
  · obtain ⟨c, fa, lo, dp, dk, n, ms, os, tp, tk, b, x, rfl, hC, ht, ht2, k⟩ := h
    have hu := hu_of hr
    obtain ⟨hF, ⟨dx, la, fs, a1, a2, a3, a4, a5, a6, a7, a8, a9, b1, b2, b3⟩, hrow, hord, ⟨kp, p1, _⟩, ⟨kk, k1, k2, k3⟩⟩ := id hC
    refine ⟨_, pss_cons (ps_set (i := 3) scIBr.nd rfl (Or.inl rfl) (pe_tup (pa_cons (pe_ifExp (pt_cmpR op_eq (pe_fld (pv 0) rfl) pe_str (nomark _)) pe_int (pv 1)) (pa_cons (pv 2) pa_nil))))
      (pss_cons (ps_if (pt_cmp (pc_dnotin hu (pv 3) (pe_fld (pv 0) rfl))) (pss_one (ps_dput hu (pe_fld (pv 0) rfl) (pv 3) (pe_meth (pv 0) CL.cl Mm okm hr bm .nil pass0 (pa_cons (pv 1) (pa_cons (pv 2) pa_nil))) rfl)) pss_nil)
      (pss_one (ps_ret (pe_dget hu (pe_fld (pv 0) rfl) (pv 3) (fun _ _ => rfl))))), ?_⟩
    refine ⟨_, rfl, c, CC, dx, fs, _, rfl, a1, CL.cl, CL.how, a3, rfl, _, rfl, ite2 (fun z => absurd (of_decide_eq_true z) (by decide +kernel)) fun _ => ?_⟩
    refine ⟨_, rfl, _, rfl, small (m := 2) (Nat.le_refl _), fun t ht' => ?_⟩
    have s1 : Same H (upd H t (.tup [vInt b, vInt x])) := same_new ht'
    have hC1 := hC.same s1
    have tT : (upd H t (.tup [vInt b, vInt x])) t = some (.tup ([(Sum.inl (b : Int) : Key), Sum.inl (x : Int)].map kV)) := upd_same
    have k1' := s1 _ _ k1
    have a1' := s1 _ _ a1
    refine ⟨_, rfl, _, rfl, c, CC, dx, fs, _, rfl, a1', CL.cl, CL.known, a7, dk, _, rfl, DGet.t k1' tT, _, rfl, ?_⟩
    cases e : valV kk [(Sum.inl (b : Int) : Key), Sum.inl (x : Int)] with
    | some v =>
      refine iteF ⟨_, rfl, c, CC, dx, fs, _, rfl, a1', CL.cl, CL.known, a7, _, rfl, dk, _, rfl, (by have z := DGet.t k1' tT; rw [e] at z; exact z), ?_⟩
      rw [k3 b x v e]
      refine k _ ?_ (KpD.of s1)
      obtain ⟨q1, q2, q3, q4, ⟨kp', q5, q6, q7⟩, ⟨kk', q8, q9, q10⟩⟩ := hC1
      exact ⟨q1, q2, q3, q4, ⟨kp', q5, by omega, q7⟩, ⟨kk', q8, by omega, q10⟩⟩
    | none =>
      refine iteT ⟨_, rfl, c, dx, fs, rfl, a1', a9, _, rfl, _, rfl, c, fa, lo, dp, dk, n, ms, os, tp, tk, b, x, rfl, hC1, ht, fun H1 hC2 kd => ?_⟩
      have tdp : t ≠ dp := ne_of tT (s1 _ _ p1) (by intro z; cases z)
      have tdk : t ≠ dk := ne_of tT k1' (by intro z; cases z)
      have tT1 := kd _ _ tdp tdk tT
      obtain ⟨hF2, ⟨dx2, la2, fs2, c1, c2, c3, c4, c5, c6, c7, c8, c9, d1, d2, d3⟩, hrow2, hord2, ⟨kp2, p1', p2', p3'⟩, ⟨kk2, kk1, kk2', kk3⟩⟩ := id hC2
      refine ⟨_, rfl, c, CC, dx2, fs2, _, rfl, c1, CL.cl, CL.known, c7, _, rfl, dk, _, rfl, DPut.t kk1 tT1 (below (m := 4000000) (by omega)), ?_⟩
      have hne : ∀ y o, y ≠ dk → H1 y = some o → (upd H1 dk (.dT (putK kk2 [(Sum.inl (b : Int) : Key), Sum.inl (x : Int)] (.bl (brk ms os b x))))) y = some o := fun y o ny e => by
        rw [upd_ne ny]
        exact e
      have kd2 : KpD dp dk H1 (upd H1 dk (.dT (putK kk2 [(Sum.inl (b : Int) : Key), Sum.inl (x : Int)] (.bl (brk ms os b x))))) := fun y o _ h2 e => hne y o h2 e
      have hcd : c ≠ dk := ne_of c1 kk1 (by intro z; cases z)
      refine ⟨_, rfl, c, CC, dx2, fs2, _, rfl, hne _ _ hcd c1, CL.cl, CL.known, c7, _, rfl, dk, _, rfl, (by
        have z := DGet.t (H := (upd H1 dk (.dT (putK kk2 [(Sum.inl (b : Int) : Key), Sum.inl (x : Int)] (.bl (brk ms os b x)))))) upd_same (hne _ _ tdk tT1)
        rw [valV_put, if_pos rfl] at z
        exact z), ?_⟩
      refine k _ ⟨hF2.same kd2.hide, ⟨dx2, la2, fs2, hne _ _ hcd c1, c2, c3, c4, c5, c6, c7, c8, c9, d1, d2, hne _ _ (ne_of d3 kk1 (by intro z; cases z)) d3⟩, hne _ _ (ne_of hrow2 kk1 (by intro z; cases z)) hrow2, hord2,
        ⟨kp2, hne _ _ (ne_of p1' kk1 (by intro z; cases z)) p1', p2', fun y v hv => ?_⟩, ⟨_, upd_same, Nat.le_trans (length_putK _ _ _) (Nat.succ_le_succ kk2'), fun b' x' v hv => ?_⟩⟩ ((KpD.of s1).trans (kd.trans kd2))
      · obtain ⟨p, ps, q1, q2, q3, q4⟩ := p3' y v hv
        exact ⟨p, ps, q1, hne _ _ (ne_of q2 kk1 (by intro z; cases z)) q2, q3, q4⟩
      · rw [valV_put] at hv
        by_cases es : [(Sum.inl (b' : Int) : Key), Sum.inl (x' : Int)] = [(Sum.inl (b : Int) : Key), Sum.inl (x : Int)]
        · rw [if_pos es] at hv
          cases hv
          have e1 := (List.cons.inj es).1
          have e2 := (List.cons.inj (List.cons.inj es).2).1
          rw [Int.ofNat.inj (Sum.inl.inj e1), Int.ofNat.inj (Sum.inl.inj e2)]
        · rw [if_neg es] at hv
          exact kk3 b' x' v hv

abbrev nTH : List Str := ["self", "both", "single", "masks", "other"]
theorem scTH : FnScope nTH ["self", "both", "single"] (defScope sThird) := ⟨rfl, rfl, rfl, by decide +kernel, rfl, by decide +kernel, by decide +kernel⟩
theorem ok_third {f : Addr} {fd : FuncData} (F : Fun K "third" "Closing.third" sThird f fd) (CL : CloC K CC) (FC : FamC K C) : FnOk P w K mg base CX0 1 f fd ["self", "both", "single"] (spThird C CC) := by
  refine F.ok scTH (fun vs H Q E h => ?_) (fun cdv A outer s H vs Q E hr h => ?_)
  · obtain ⟨c, fa, lo, dp, dk, n, ms, os, tp, tk, b, x, rfl, _⟩ := h
    rfl
  · obtain ⟨c, fa, lo, dp, dk, n, ms, os, tp, tk, b, x, rfl, hC, k⟩ := h
    have hu := hu_of hr
    obtain ⟨hF, ⟨dx, la, fs, a1, a2, a3, a4, a5, a6, a7, a8, a9, b1, b2, b3⟩, hrow, hord, _, _⟩ := id hC
    obtain ⟨dy, l, d, gs, ts, ms0, f1, f2, f3, f4, f5, f6, f7, f8, f9, f10, f11⟩ := hF.ex
    have f1' := hide_same _ _ _ _ _ f1
    have d1 := hide_same _ _ _ _ _ f11
    have hms0 : ∀ q, decide (q ∈ ms0) = decide (q ∈ ms) := fun q => decide_eq_decide.mpr f9.mem_iff
    refine ⟨_, pss_cons (ps_set (i := 3) scTH.nd rfl (Or.inl rfl) (pe_fld (pe_fld (pv 0) rfl) rfl))
      (pss_cons (ps_if (PW.pt (pw_or (pt_cmpR op_eq (pe_fld (pv 0) rfl) pe_str (nomark _)) (pw_or1 (pt_cmpR op_eq (pe_fld (pv 0) rfl) pe_str (nomark _))))) (pss_one ps_never) pss_nil)
      (pss_cons (ps_for PassesOwn.never rfl (pi_list (pe_fld (pv 0) rfl)) (pg_name (i := 4) scTH.nd rfl (Or.inl rfl))
        (pss_cons (ps_if (PW.pt (pw_and (pt_cmpR op_eq (pe_fld (pv 0) rfl) pe_str (nomark _)) (pw_and1 (pt_cmp (pc_dnotin hu (pe_op op_xor (pv 4) (pv 2)) (pv 3)))))) (pss_one ps_never) pss_nil)
        (pss_cons (ps_if (PW.pt (pw_and (pt_cmpR op_eq (pe_fld (pv 0) rfl) pe_str (nomark _)) (pw_and1 (pt_cmp (pc_dnotin hu (pe_op op_or (pv 1) (pe_op op_and (pv 4) (pv 2))) (pv 3)))))) (pss_one ps_never) pss_nil)
        (pss_one (ps_if (PW.pt (pw_and (pt_cmpR op_eq (pe_fld (pv 0) rfl) pe_str (nomark _)) (pw_and (pt_cmp (pc_dnotin hu (pv 4) (pv 3))) (pw_and1 (pt_cmpR op_eq (pe_op op_and (pv 4) (pe_un un_inv (pv 2))) (pv 1) (nomark _))))))
          (pss_one (ps_ret (pe_tup (pa_cons (pv 4) pa_nil)))) pss_nil)))))
      (pss_one (ps_ret (pe_tup pa_nil))))), ?_⟩
    refine ⟨_, rfl, c, CC, dx, fs, _, rfl, a1, CL.cl, CL.family, a2, fa, C, dy, gs, _, rfl, f1', FC.cl, FC.masks, f4, ?_⟩
    refine ⟨_, rfl, c, CC, dx, fs, _, rfl, a1, CL.cl, CL.how, a3, rfl, _, rfl, ite2 (fun z => absurd (of_decide_eq_true z) (by decide +kernel)) fun _ => ?_⟩
    refine ⟨_, rfl, c, CC, dx, fs, _, rfl, a1, CL.cl, CL.how, a3, rfl, _, rfl, ite2 (fun z => absurd (of_decide_eq_true z) (by decide +kernel)) fun _ => ?_⟩
    refine ⟨_, rfl, c, CC, dx, fs, _, rfl, a1, CL.cl, CL.others, a5, la, rfl, ⟨_, SqL.of b3⟩, ?_⟩
    refine for_list (xs := os.map vInt) (fun i σ H' => H' = H ∧ (∃ y, σ = [some (.ref c), some (vInt b), some (vInt x), some (.ref d), y]) ∧ ∀ z ∈ os.take i, thirdP ms b x z = false) ⟨rfl, ⟨none, rfl⟩, fun z hz => by cases hz⟩ (fun i σ H' _ h => by rw [h.1]; exact SqL.of b3) ?_ ?_
    · rintro i y σ H' hy ⟨rfl, ⟨y4, rfl⟩, hno⟩
      obtain ⟨hi, rfl⟩ := item hy
      refine ⟨_, rfl, c, CC, dx, fs, _, rfl, a1, CL.cl, CL.how, a3, rfl, _, rfl, ite2 (fun z => absurd (of_decide_eq_true z) (by decide +kernel)) fun _ => ?_⟩
      refine ⟨_, rfl, c, CC, dx, fs, _, rfl, a1, CL.cl, CL.how, a3, rfl, _, rfl, ite2 (fun z => absurd (of_decide_eq_true z) (by decide +kernel)) fun _ => ?_⟩
      refine ⟨_, rfl, c, CC, dx, fs, _, rfl, a1, CL.cl, CL.how, a3, rfl, _, rfl, ite2 (fun _ => ?_) fun z => absurd (decide_eq_true rfl) z⟩
      have step : thirdP ms b x os[i] = false → (∀ z ∈ os.take (i + 1), thirdP ms b x z = false) := fun h z hz => by
        rw [take_more hi] at hz
        rcases List.mem_append.mp hz with q | q
        · exact hno z q
        · rw [List.mem_singleton.mp q]
          exact h
      refine ⟨_, rfl, _, rfl, d, _, rfl, DGet.k (k := (Sum.inl ((os[i] : Nat) : Int) : Key)) d1, _, rfl, ?_⟩
      rw [some_mK, hms0]
      by_cases hin : os[i] ∈ ms
      · rw [decide_eq_true hin]
        refine iteF ⟨rfl, ⟨_, rfl⟩, step ?_⟩
        unfold thirdP
        rw [decide_eq_true hin]
        rfl
      · rw [decide_eq_false hin]
        refine iteT ⟨_, rfl, _, rfl, _, rfl, _, _, rfl, rfl, _, rfl, rfl, _, rfl, ?_⟩
        have eb : decide (V.int (Builtin.bitAnd ((os[i] : Nat) : Int) (Builtin.bitNot ((x : Nat) : Int))) = vInt b) = decide (os[i] ^^^ (os[i] &&& x) = b) := by
          rw [bit_less]
          exact decide_eq_decide.mpr ⟨fun z => Int.ofNat.inj (V.int.inj z), fun z => by rw [z]⟩
        rw [eb]
        by_cases hq : os[i] ^^^ (os[i] &&& x) = b
        · rw [decide_eq_true hq]
          refine iteT ⟨_, rfl, small (m := 1) (Nat.le_refl _), fun p hp => k _ p (same_new hp) hp ?_⟩
          rw [find_at hi hno (by unfold thirdP; rw [decide_eq_false hin, decide_eq_true hq]; rfl)]
          exact upd_same
        · rw [decide_eq_false hq]
          refine iteF ⟨rfl, ⟨_, rfl⟩, step ?_⟩
          unfold thirdP
          rw [decide_eq_false hq, Bool.and_false]
    · rintro σ H' ⟨rfl, ⟨y4, rfl⟩, hno⟩
      rw [List.length_map, List.take_length] at hno
      refine ⟨Nat.zero_le _, fun p hp => k _ p (same_new hp) hp ?_⟩
      rw [List.find?_eq_none.mpr fun z hz q => by rw [hno z hz] at q; cases q]
      exact upd_same
end
end Fam
/-! Closing.__init__. -/
namespace Fam
open PySem L2 OwnX
open C8 (pss_cut tCut)
/-- all that stood but x stands -/
def But (x : Addr) (H H' : Hp) : Prop := ∀ b o, b ≠ x → H b = some o → H' b = some o
theorem But.refl (x : Addr) (H : Hp) : But x H H := fun _ _ _ e => e
theorem But.trans {x : Addr} {H H1 H2 : Hp} (a : But x H H1) (b : But x H1 H2) : But x H H2 := fun y o n e => b y o n (a y o n e)
theorem But.of {x : Addr} {H H' : Hp} (s : Same H H') : But x H H' := fun b o _ e => s b o e
theorem But.put {x : Addr} {H : Hp} {o : HO} : But x H (upd H x o) := fun b u n e => by
  rw [upd_ne n]
  exact e
theorem FAt.but {C CC : Addr} {H H' : Hp} {x dx f : Addr} {fs : List (Str × V)} {n : Nat} {ms : List Nat} (h : FAt C H f n ms) (hx : H x = some (.ins CC dx fs)) (hf : f ≠ x) (k : But x H H') : FAt C H' f n ms := by
  obtain ⟨⟨dy, l, d, gs, ts, ms0, a1, a2, a3, a4, a5, a6, a7, a8, a9, a10, a11⟩, h1, h2, h3⟩ := h
  refine ⟨⟨dy, l, d, gs, ts, ms0, k _ _ hf a1, a2, a3, a4, a5, a6, k _ _ (ne_of a7 hx (by intro z; cases z)) a7, a8.tups fun p ys e => k _ _ (ne_of e hx (by intro z; cases z)) e, a9, a10, k _ _ (ne_of a11 hx (by intro z; cases z)) a11⟩, h1, h2, h3⟩
theorem FAt.ne {C CC : Addr} {H : Hp} {x dx f : Addr} {n : Nat} {ms : List Nat} (h : FAt C H f n ms) (hx : H x = some (.ins CC dx [])) : f ≠ x := by
  obtain ⟨⟨dy, l, d, gs, ts, ms0, a1, a2, _⟩, _⟩ := h
  intro e
  rw [e, hx] at a1
  cases a1
  cases a2
def spClInit (C CC : Addr) : Sp := fun vs H Q _ => ∃ (x dx f : Addr) (n : Nat) (ms : List Nat), vs = [.ref x, .ref f, .str "box"] ∧ H x = some (.ins CC dx []) ∧ FAt C H f n ms ∧
  ∀ (H' : Hp) (lo dp dk : Addr) (ms0 os : List Nat), But x H H' → H dp = none → H dk = none → dp ≠ x → dk ≠ x → ms0.Perm ms → ms0.Pairwise lotLe → CAt C CC H' x f lo dp dk n ms0 os 0 0 → Q .non H'

section
variable {P : Program} {w : World} {K : PySem.W.Frag} {mg : Str → Option Value} {base : Heap} {C CC B : Addr}
abbrev nCI : List Str := ["self", "family", "word", "lot"]
theorem scCI : FnScope nCI ["self", "family", "word"] (defScope sClInit) := ⟨rfl, rfl, rfl, by decide +kernel, rfl, by decide +kernel, by decide +kernel⟩
theorem ok_cl_init {f fi : Addr} {fd : FuncData} (F : Fun K "__init__" "Closing.__init__" sClInit f fd) (CL : CloC K CC) (FC : FamC K C) (O : OwnIt P w K mg base C fi "lots") (GM : Cal P w K mg base 1 "mask_of" ["lot"] spMaskOf) (GA : Cal P w K mg base 2 "all_lots_of" ["size"] spAllLots) :
    FnOk P w K mg base CX0 3 f fd ["self", "family", "word"] (spClInit C CC) := by
  obtain ⟨gm, gmd, okm, bm, km, mm⟩ := GM.ex
  obtain ⟨ga, gad, oka, ba, ka, ma⟩ := GA.ex
  refine F.ok scCI (fun vs H Q E h => ?_) (fun cdv A outer s H vs Q E hr h => ?_)
  · obtain ⟨x, dx, fa, n, ms, rfl, _⟩ := h
    rfl
  · obtain ⟨x, dx, fa, n, ms, rfl, hx, hF, k⟩ := h
    have hr1 := hr.mono (j := 1) (by decide)
    have hfx := hF.ne hx
    have h10 := pow_le10 hF.h2
    refine ⟨_, pss_cons (ps_fld (pv 0) (pv 1) rfl)
      (pss_cons (ps_fld (pv 0) (pv 2) rfl)
      (pss_cons (ps_fld (pv 0) (pe_lc (own := [("lot", 3)]) (g := gName 3) (tt := tYes) rfl scCI.nd (pi_own O hr1 (pv 1)) (blkOk_by (own := [("lot", 3)]) (N := nCI) (sc := defScope sClInit) (by decide +kernel)) (fun _ _ _ _ _ => pg_name (i := 3) scCI.nd rfl (Or.inl rfl)) (fun _ _ _ _ _ => pts_nil)
        (fun _ _ _ _ _ => pe_call okm hr1 rfl mm km bm .nil pass0 (pa_cons (pv 3) pa_nil))) rfl)
      (pss_cons (ps_fld (pv 0) (pe_ifExp (pt_cmpR op_eq (pv 2) pe_str (nomark _)) (pe_lc (own := [("lot", 3)]) (g := gName 3) (tt := tYes) rfl scCI.nd (pi_list (pe_call oka hr rfl ma ka ba .nil pass0 (pa_cons (pe_fld (pv 1) rfl) pa_nil))) (blkOk_by (own := [("lot", 3)]) (N := nCI) (sc := defScope sClInit) (by decide +kernel)) (fun _ _ _ _ _ => pg_name (i := 3) scCI.nd rfl (Or.inl rfl)) (fun _ _ _ _ _ => pts_nil)
        (fun _ _ _ _ _ => pe_call okm hr1 rfl mm km bm .nil pass0 (pa_cons (pv 3) pa_nil))) (pe_fld (pv 0) rfl)) rfl)
      (pss_cons (ps_fld (pv 0) pe_dnewK rfl)
      (pss_one (ps_fld (pv 0) pe_dnewT rfl)))))), ?_⟩
    -- self.family, self.how
    refine ⟨_, rfl, _, rfl, x, CC, dx, _, rfl, hx, CL.cl, CL.family, (by show 0 < 1000; decide), ?_⟩
    refine ⟨_, rfl, _, rfl, x, CC, dx, _, rfl, upd_same, CL.cl, CL.how, (by show 1 < 1000; decide), ?_⟩
    obtain ⟨F2, hF2⟩ : ∃ F2, F2 = putF "how" (.str "box") (putF "family" (.ref fa) []) := ⟨_, rfl⟩
    obtain ⟨H2, hH2⟩ : ∃ H2, H2 = upd (upd H x (.ins CC dx (putF "family" (.ref fa) []))) x (.ins CC dx F2) := ⟨_, rfl⟩
    rw [← hF2, ← hH2]
    have but2 : But x H H2 := by rw [hH2]; exact But.put.trans But.put
    have hx2 : H2 x = some (.ins CC dx F2) := by rw [hH2]; exact upd_same
    have fam2 := hF.but hx hfx but2
    obtain ⟨⟨dy, l, d, gs, ts, ms0, f1, f2, f3, f4, f5, f6, f7, f8, f9, f10, f11⟩, _⟩ := id fam2
    have hlen : ms0.length ≤ 1024 := by
      rw [f9.length_eq]
      exact Nat.le_trans (nodup_len _ ms hF.ms.nd hF.ms.lt) h10
    -- self.order
    refine ⟨_, rfl, fa, dy, l, gs, rfl, f1, f3, ⟨_, SqT.of f7⟩, fun D hD => ?_⟩
    refine lc_tup (K := K) (a := l) (xs := ts) (fun i H' => Same H2 H' ∧ H' D = some (.lst ((ms0.take i).map vInt))) ⟨same_new hD, upd_same⟩ (fun i H' _ h => SqT.of (h.1 _ _ f7)) ?_ ?_
    · rintro i y H3 hy ⟨sm, hT⟩
      obtain ⟨hi, p, rfl, hp⟩ := f8.get hy
      have hlt := hF.ms.lt _ (f9.mem_iff.mp (List.getElem_mem hi))
      refine ⟨rfl, _, rfl, p, ms0[i], rfl, sm _ _ hp, by omega, _, hT, ?_, same_upd sm hD, ?_⟩
      · rw [List.length_map, List.length_take]
        exact below (m := 100000) (by omega)
      · rw [upd_same, take_more hi, List.map_append]
        rfl
    rintro H3 ⟨sm3, hT3⟩
    rw [f8.len, List.take_length] at hT3
    have hx3 := sm3 _ _ hx2
    refine ⟨_, rfl, x, CC, dx, _, rfl, hx3, CL.cl, CL.order, (by rw [hF2]; show 2 < 1000; decide), ?_⟩
    obtain ⟨F3, hF3⟩ : ∃ F3, F3 = putF "order" (.ref D) F2 := ⟨_, rfl⟩
    obtain ⟨H4, hH4⟩ : ∃ H4, H4 = upd H3 x (.ins CC dx F3) := ⟨_, rfl⟩
    rw [← hF3, ← hH4]
    have but4 : But x H2 H4 := by rw [hH4]; exact (But.of sm3).trans But.put
    have hx4 : H4 x = some (.ins CC dx F3) := by rw [hH4]; exact upd_same
    have hDx : D ≠ x := ne_of hT3 hx3 (by intro z; cases z)
    have hT4 : H4 D = some (.lst (ms0.map vInt)) := by rw [hH4, upd_ne hDx]; exact hT3
    have g1 := but4 _ _ hfx f1
    -- self.others
    refine ⟨_, rfl, rfl, _, rfl, ite2 (fun _ => ?_) fun z => absurd (decide_eq_true rfl) z⟩
    refine ⟨_, rfl, fa, C, dy, gs, _, rfl, g1, FC.cl, FC.size, f2, n, rfl, hF.h1, hF.h2, fun H5 p os xs ho s5 hp hT5 hL5 => ⟨p, rfl, ⟨_, SqL.of hT5⟩, fun D2 hD2 => ?_⟩⟩
    have hol : os.length = 2 ^ n := by rw [ho.perm.length_eq, List.length_range]
    refine lc_list (K := K) (a := p) (xs := xs) (fun i H' => Same H5 H' ∧ H' D2 = some (.lst ((os.take i).map vInt))) ⟨same_new hD2, upd_same⟩ (fun i H' _ h => SqL.of (h.1 _ _ hT5)) ?_ ?_
    · rintro i y H6 hy ⟨sm, hT⟩
      obtain ⟨hi, q, rfl, hq⟩ := hL5.get hy
      have hlt : os[i] < 2 ^ n := List.mem_range.mp (ho.perm.mem_iff.mp (List.getElem_mem hi))
      refine ⟨rfl, _, rfl, q, os[i], rfl, sm _ _ hq, by omega, _, hT, ?_, same_upd sm hD2, ?_⟩
      · rw [List.length_map, List.length_take]
        exact below (m := 100000) (by omega)
      · rw [upd_same, take_more hi, List.map_append]
        rfl
    rintro H6 ⟨sm6, hT6⟩
    rw [hL5.len, List.take_length] at hT6
    have s46 : Same H4 H6 := s5.trans sm6
    have hx6 := s46 _ _ hx4
    refine ⟨_, rfl, x, CC, dx, _, rfl, hx6, CL.cl, CL.others, (by rw [hF3, hF2]; show 3 < 1000; decide), ?_⟩
    obtain ⟨F4, hF4⟩ : ∃ F4, F4 = putF "others" (.ref D2) F3 := ⟨_, rfl⟩
    obtain ⟨H7, hH7⟩ : ∃ H7, H7 = upd H6 x (.ins CC dx F4) := ⟨_, rfl⟩
    rw [← hF4, ← hH7]
    have but7 : But x H4 H7 := by rw [hH7]; exact (But.of s46).trans But.put
    have hx7 : H7 x = some (.ins CC dx F4) := by rw [hH7]; exact upd_same
    have hD2x : D2 ≠ x := ne_of hT6 hx6 (by intro z; cases z)
    have hT7 : H7 D2 = some (.lst (os.map vInt)) := by rw [hH7, upd_ne hD2x]; exact hT6
    have hT7' := but7 _ _ hDx hT4
    have but07 : But x H H7 := but2.trans (but4.trans but7)
    -- self.parts, self.known
    intro d1 hd1
    have hd1x : d1 ≠ x := (ne_of_none hx7 hd1).symm
    refine ⟨_, rfl, x, CC, dx, _, rfl, by rw [upd_ne hd1x.symm]; exact hx7, CL.cl, CL.parts, (by rw [hF4, hF3, hF2]; show 4 < 1000; decide), ?_⟩
    intro d2 hd2
    have hd2x : d2 ≠ x := (ne_of_none (upd_same (H := upd H7 d1 (.dK [])) (a := x)) hd2).symm
    have hd21 : d2 ≠ d1 := by
      intro e
      rw [e, upd_ne hd1x, upd_same] at hd2
      cases hd2
    have hd27 : H7 d2 = none := by
      rw [upd_ne hd2x, upd_ne hd21] at hd2
      exact hd2
    refine ⟨_, rfl, x, CC, dx, _, rfl, by rw [upd_ne hd2x.symm]; exact upd_same, CL.cl, CL.known, (by rw [hF4, hF3, hF2]; show 5 < 1000; decide), ?_⟩
    have free0 : ∀ {e : Addr}, H7 e = none → e ≠ x → H e = none := fun {e} h1 h2 => by
      cases q : H e with
      | none => rfl
      | some o => rw [but07 _ _ h2 q] at h1; cases h1
    obtain ⟨H9, hH9⟩ : ∃ H9, H9 = upd (upd (upd (upd H7 d1 (.dK [])) x (.ins CC dx (putF "parts" (.ref d1) F4))) d2 (.dT [])) x (.ins CC dx (putF "known" (.ref d2) (putF "parts" (.ref d1) F4))) := ⟨_, rfl⟩
    rw [← hH9]
    have but9 : But x H7 H9 := by
      rw [hH9]
      intro b o hb e
      rw [upd_ne hb, upd_ne (ne_of_none e hd27), upd_ne hb, upd_ne (ne_of_none e hd1)]
      exact e
    have h9d1 : H9 d1 = some (.dK []) := by rw [hH9, upd_ne hd1x, upd_ne hd21.symm, upd_ne hd1x]; exact upd_same
    have h9d2 : H9 d2 = some (.dT []) := by rw [hH9, upd_ne hd2x]; exact upd_same
    have but09 := but07.trans but9
    have fam9 : FAt C (hide H9 d1 d2) fa n ms := by
      refine hF.but hx hfx fun b o hb e => hide_of ?_ ?_ (but09 _ _ hb e)
      · intro z
        rw [z, free0 hd1 hd1x] at e
        cases e
      · intro z
        rw [z, free0 hd27 hd2x] at e
        cases e
    refine k H9 D d1 d2 ms0 os but09 (free0 hd1 hd1x) (free0 hd27 hd2x) hd1x hd2x f9 f10 ⟨fam9.perm f9.symm, ⟨dx, D2, _, by rw [hH9]; exact upd_same, ?_, ?_, ?_, ?_, ?_, ?_, ?_, ?_, ?_, ?_, but9 _ _ hD2x hT7⟩, but9 _ _ hDx hT7', ho, ⟨[], h9d1, Nat.le_refl _, fun s v z => by cases z⟩, ⟨[], h9d2, Nat.le_refl _, fun b s v z => by cases z⟩⟩
    all_goals
      rw [hF4, hF3, hF2]
      repeat (first | exact lk_same | exact rfl | refine (lk_ne (by decide +kernel)).trans ?_)
end
end Fam
/-! broken. -/
namespace Fam
open PySem L2 OwnX
open C8 (pss_cut tCut)
abbrev sBroken : Stmt := top 44
theorem for_enum {K : PySem.W.Frag} {a : Addr} {xs : List V} {g : TG} {tb : TS} {D : Ends} {σ : L2.St} {H : Hp} (Pv : Nat → L2.St → Hp → Prop) (h0 : Pv 0 σ H) (hl : ∀ i σ H, i ≤ xs.length → Pv i σ H → SqL K H a xs)
    (hs : ∀ i x σ H T, xs[i]? = some x → Pv i σ H → H T = none → g (.ref T) σ (upd H T (.tup [.int (i : Nat), x])) fun σ2 H2 => tb { D with nx := Pv (i + 1), ct := Pv (i + 1), bk := D.nx } σ2 H2) (hd : ∀ σ H, Pv xs.length σ H → D.nx σ H) :
    ∃ W : Nat → Nat → L2.St → Hp → Prop, (∃ m, W 0 m σ H) ∧ ∀ i m σ H, W i m σ H →
      ((Ite K a).stop i H ∧ D.nx σ H) ∨ ((Ite K a).go i H ∧ ∃ N : L2.St → Hp → Prop, (∀ σ' H', N σ' H' → ∃ m', m' < m ∧ W (i + 1) m' σ' H') ∧ ∀ x H', (Ite K a).yld i H x H' → g x σ H' fun σ2 H2 => tb { D with nx := N, ct := N, bk := D.nx } σ2 H2) := by
  refine ⟨fun i m σ H => m = xs.length - i ∧ i ≤ xs.length ∧ Pv i σ H, ⟨xs.length, rfl, Nat.zero_le _, h0⟩, ?_⟩
  rintro i _ σ H ⟨rfl, hi, p⟩
  have q := hl i σ H hi p
  rcases Nat.lt_or_ge i xs.length with lt | ge
  · refine .inr ⟨⟨xs, xs[i], q, List.getElem?_eq_getElem lt⟩, Pv (i + 1), fun σ' H' p' => ⟨xs.length - (i + 1), by omega, rfl, lt, p'⟩, ?_⟩
    rintro y H' ⟨T, x, rfl, hT, rfl, hx⟩
    exact hs i x σ H T (hx xs q) p hT
  · have e : i = xs.length := Nat.le_antisymm hi ge
    subst e
    exact .inl ⟨⟨xs, q, Nat.le_refl _⟩, hd σ H p⟩
theorem cut_drop (xs : List V) {i : Nat} (h : i ≤ xs.length) : cutV xs (some (i : Int)) none = xs.drop i := by
  unfold cutV
  rw [HT.sIx_nat, HT.sIx_none, Nat.min_eq_left h]
  exact List.take_of_length_le (by rw [List.length_drop]; exact Nat.le_refl _)
theorem gap_perm {ms ms0 : List Nat} (p : ms0.Perm ms) : gap ms = gap ms0 := by
  funext x y z
  unfold gap
  rw [show decide (z ∈ ms) = decide (z ∈ ms0) from decide_eq_decide.mpr p.mem_iff.symm]
theorem boxDue_perm {ms ms0 os : List Nat} (p : ms0.Perm ms) : boxDue ms os = boxDue ms0 os := by
  have e2 : insideOf ms os = insideOf ms0 os := by
    unfold insideOf
    exact List.filter_congr fun z _ => decide_eq_decide.mpr p.mem_iff.symm
  unfold boxDue due1 due2
  rw [e2, gap_perm p]
theorem kpd_old {dp dk : Addr} {H H1 H2 : Hp} (s : Same H H1) (k : KpD dp dk H1 H2) (h1 : H dp = none) (h2 : H dk = none) : Same H H2 := fun b o e => k b o (ne_of_none e h1) (ne_of_none e h2) (s b o e)
theorem lots3 {H : Hp} {ys : List V} {x y z : Nat} (h : LotsAt H ys [x, y, z]) : ∃ q1 q2 q3, ys = [.ref q1, .ref q2, .ref q3] ∧ H q1 = some (.tup (lotV x)) ∧ H q2 = some (.tup (lotV y)) ∧ H q3 = some (.tup (lotV z)) := by
  match ys, h with
  | [a, b, c], h =>
    obtain ⟨⟨q1, rfl, h1⟩, ⟨q2, rfl, h2⟩, ⟨q3, rfl, h3⟩, _⟩ := h
    exact ⟨q1, q2, q3, rfl, h1, h2, h3⟩
  | [], h => exact h.elim
  | [_], h => exact h.2.elim
  | [_, _], h => exact h.2.2.elim
  | _ :: _ :: _ :: _ :: _, h => exact h.2.2.2.elim
section
variable {P : Program} {w : World} {K : PySem.W.Frag} {mg : Str → Option Value} {base : Heap} {C CC B : Addr}
abbrev nBR : List Str := ["family", "word", "closing", "at", "one", "two", "masks", "mask"]
theorem scBR : FnScope nBR ["family", "word"] (defScope sBroken) := ⟨rfl, rfl, rfl, by decide +kernel, rfl, by decide +kernel, by decide +kernel⟩
theorem ok_broken {f gi gb gt : Addr} {fd gid gbd gtd : FuncData} (F : Fun K "broken" "broken" sBroken f fd) (T : Bare mg) (T2 : Bare2 mg) (CL : CloC K CC) (FC : FamC K C) (mCC : mg "Closing" = some (.ref CC))
    (GW : CalX P w K mg base 3 "check_word" ["word"] (spCheckWord B)) (GL : Cal P w K mg base 1 "lot_of_mask" ["mask", "size"] spLotOfMask)
    (MK : Mk K CC gi) (oki : FnOk P w K mg base CX0 3 gi gid ["self", "family", "word"] (spClInit C CC)) (bi : Binds K gid ["self", "family", "word"] [])
    (Mb : Meth K CC "is_broken" gb) (okb : FnOk P w K mg base CX0 3 gb gbd ["self", "both", "single"] (spIsBroken C CC)) (bb : Binds K gbd ["self", "both", "single"] [])
    (Mt : Meth K CC "third" gt) (okt : FnOk P w K mg base CX0 1 gt gtd ["self", "both", "single"] (spThird C CC)) (bt : Binds K gtd ["self", "both", "single"] []) :
    FnOk P w K mg base (L2.CX P w) 5 f fd ["family", "word"] (spBroken B (FAt C)) := by
  obtain ⟨gw, gwd, okw, bw, kw, mw⟩ := GW.ex
  obtain ⟨gl, gld, okl, bl, kl, ml⟩ := GL.ex
  refine F.okX scBR (fun vs H Q E h => ?_) (fun cdv A outer s H vs Q E hr h => ?_)
  · obtain ⟨fa, n, ms, word, rfl, _⟩ := h
    rfl
  · obtain ⟨fa, n, ms, word, rfl, hF, hms, h1, h2, hw⟩ := h
    have hr3 := hr.mono (j := 3) (by decide)
    have hr1 := hr.mono (j := 1) (by decide)
    refine ⟨_, pss_cons (ps_expr (pe_call okw hr3 rfl mw kw bw .nil (passes_call (takes_of rfl rfl rfl rfl) (fun _ _ _ _ h => h)) (pa_cons (pv 1) pa_nil)))
      (PSs.nox (pss_cons (ps_set (i := 2) scBR.nd rfl (Or.inl rfl) (pe_make MK oki hr rfl mCC bi .nil pass0 (pa_cons (pv 0) (pa_cons (pv 1) pa_nil))))
      (pss_cons (ps_for PassesOwn.never rfl (pi_enum (by rfl) T2.enumerate (pa_cons (pe_fld (pv 2) rfl) pa_nil)) (pg_tup rfl (pgs_cons (pg_name (i := 3) scBR.nd rfl (Or.inl rfl)) (pgs_cons (pg_name (i := 4) scBR.nd rfl (Or.inl rfl)) pgs_nil)))
        (pss_one (ps_for PassesOwn.never rfl (pi_list (pe_slice sl_list (pe_fld (pv 2) rfl) (po_some (pv 3)) po_none)) (pg_name (i := 5) scBR.nd rfl (Or.inl rfl))
          (pss_one (ps_if (pt_val (pe_meth (pv 2) CL.cl Mb okb hr3 bb .nil pass0 (pa_cons (pe_op op_and (pv 4) (pv 5)) (pa_cons (pe_op op_xor (pv 4) (pv 5)) pa_nil))))
            (pss_cons (ps_set (i := 6) scBR.nd rfl (Or.inl rfl) (pe_op op_catT (pe_tup (pa_cons (pv 4) (pa_cons (pv 5) pa_nil))) (pe_meth (pv 2) CL.cl Mt okt hr1 bt .nil pass0 (pa_cons (pe_op op_and (pv 4) (pv 5)) (pa_cons (pe_op op_xor (pv 4) (pv 5)) pa_nil)))))
            (pss_one (ps_ret (pe_tupleOf rfl T.tuple (pe_lc (own := [("mask", 7)]) (g := gName 7) (tt := tYes) rfl scBR.nd (pi_tup (pv 6)) (blkOk_by (own := [("mask", 7)]) (N := nBR) (sc := defScope sBroken) (by decide +kernel)) (fun _ _ _ _ _ => pg_name (i := 7) scBR.nd rfl (Or.inl rfl)) (fun _ _ _ _ _ => pts_nil)
              (fun _ _ _ _ _ => pe_call okl hr1 rfl ml kl bl .nil pass0 (pa_cons (pv 7) (pa_cons (pe_fld (pv 0) rfl : PE _ _ (tFld K (tVar 0) "size")) pa_nil))))))))
            pss_nil)))))
      (pss_one (ps_ret pe_non))))), ?_⟩
    rcases hw with ⟨rfl, kb⟩ | ⟨hb, kb⟩
    rotate_left
    · exact ⟨_, rfl, word, rfl, .inr ⟨hb, kb⟩⟩
    refine ⟨_, rfl, _, rfl, .inl ⟨rfl, ?_⟩⟩
    refine ⟨_, rfl, _, rfl, fun x dx hx hdx hne => ?_⟩
    have sm0 : Same H (upd (upd H dx (.own x)) x (.ins CC dx [])) := made_new hx hdx
    refine ⟨x, dx, fa, n, ms, rfl, upd_same, hF.same sm0, fun H1 lo dp dk ms0 os but hdp hdk hdpx hdkx pm srt hC => ⟨rfl, ?_⟩⟩
    have od : H dp = none := sm0.free hdp
    have ok_ : H dk = none := sm0.free hdk
    have s1 : Same H H1 := fun b o e => but b o (ne_of_none e hx) (sm0 b o e)
    have hins : insideOf ms0 os = ms0 := inside_eq h2 ⟨fun m hm => hms.lt m (pm.mem_iff.mp hm), pm.nodup_iff.mpr hms.nd⟩ (List.Perm.refl _) srt hC.ord
    have hlen : ms0.length ≤ 1024 := by
      rw [pm.length_eq]
      exact Nat.le_trans (nodup_len _ ms hms.nd hms.lt) (pow_le10 h2)
    have hlt : ∀ {i : Nat} (hi : i < ms0.length), ms0[i] < 2 ^ n := fun hi => hms.lt _ (pm.mem_iff.mp (List.getElem_mem hi))
    have due : boxDue ms os = ms0.findSome? (due1 ms0 os ms0) := by
      rw [boxDue_perm pm]
      unfold boxDue
      rw [hins]
    obtain ⟨dx1, la, fs, a1, a2, a3, a4, a5, a6, a7, a8, a9, b1, b2, b3⟩ := hC.ob
    refine ⟨_, rfl, x, CC, dx1, fs, _, rfl, a1, CL.cl, CL.order, a4, lo, ms0.map vInt, rfl, SqL.of hC.row, ?_⟩
    refine for_enum (xs := ms0.map vInt) (fun i σ H' => (∃ y3 y4 y5, σ = [some (.ref fa), some (.str "box"), some (.ref x), y3, y4, y5, none, none]) ∧ (∃ tp tk, tp ≤ i * 1025 ∧ tk ≤ i * 1025 ∧ CAt C CC H' x fa lo dp dk n ms0 os tp tk) ∧ Same H H' ∧ NoBreak ms0 os ms0 i i)
      ⟨⟨none, none, none, rfl⟩, ⟨0, 0, Nat.zero_le _, Nat.zero_le _, hC⟩, s1, fun i' j' _ _ h => by omega⟩ (fun i σ H' _ h => by obtain ⟨_, ⟨_, _, _, _, hc⟩, _⟩ := h; exact SqL.of hc.row) ?_ ?_
    · rintro i y σ H2 t hy ⟨⟨y3, y4, y5, rfl⟩, ⟨tp, tk, t1, t2, hC2⟩, s2, nb⟩ hT
      obtain ⟨hi, rfl⟩ := item hy
      have sT : Same H2 (upd H2 t (.tup [.int (i : Nat), vInt ms0[i]])) := same_new hT
      have hC3 := hC2.same sT
      refine ⟨t, _, rfl, SqT.of upd_same, rfl, _, _, rfl, _, _, rfl, rfl, ?_⟩
      obtain ⟨dx3, la3, fs3, c1, c2, c3, c4, _⟩ := hC3.ob
      refine ⟨_, rfl, x, CC, dx3, fs3, _, rfl, c1, CL.cl, CL.order, c4, _, rfl, _, rfl, lo, ms0.map vInt, rfl, SqL.of hC3.row, fun p hp => ?_⟩
      have ec : cutV (ms0.map vInt) (some (i : Int)) none = (ms0.drop i).map vInt := by
        rw [cut_drop _ (by rw [List.length_map]; omega), List.map_drop]
      have hp4 : (upd (upd H2 t (.tup [.int (i : Nat), vInt ms0[i]])) p (.lst (cutV (ms0.map vInt) (some (i : Int)) none))) p = some (.lst ((ms0.drop i).map vInt)) := by rw [upd_same, ec]
      have s4 : Same H (upd (upd H2 t (.tup [.int (i : Nat), vInt ms0[i]])) p (.lst (cutV (ms0.map vInt) (some (i : Int)) none))) := (s2.trans sT).trans (same_new hp)
      have hC4 := hC3.same (same_new (o := .lst (cutV (ms0.map vInt) (some (i : Int)) none)) hp)
      refine ⟨p, rfl, ⟨_, SqL.of hp4⟩, ?_⟩
      refine for_list (xs := (ms0.drop i).map vInt) (fun j σ H' => (∃ y5, σ = [some (.ref fa), some (.str "box"), some (.ref x), some (.int (i : Nat)), some (vInt ms0[i]), y5, none, none]) ∧ (∃ tp tk, tp ≤ i * 1025 + j ∧ tk ≤ i * 1025 + j ∧ CAt C CC H' x fa lo dp dk n ms0 os tp tk) ∧ Same H H' ∧ H' p = some (.lst ((ms0.drop i).map vInt)) ∧ NoBreak ms0 os ms0 i (i + j))
        ⟨⟨y5, rfl⟩, ⟨tp, tk, t1, t2, hC4⟩, s4, hp4, nb⟩ (fun j σ H' _ h => SqL.of h.2.2.2.1) ?_ ?_
      · rintro j y σ H5 hy ⟨⟨y5, rfl⟩, ⟨tp, tk, t1, t2, hC5⟩, s5, hp5, nb⟩
        obtain ⟨hj, rfl⟩ := item hy
        rw [List.length_drop] at hj
        have hij : i + j < ms0.length := by omega
        have ej : (ms0.drop i)[j]'(by rw [List.length_drop]; exact hj) = ms0[i + j] := List.getElem_drop
        rw [ej]
        obtain ⟨dx5, la5, fs5, e1, e2, e3, e4, e5, e6, e7, e8, e9, g1, g2, g3⟩ := hC5.ob
        have ev : ∀ (v : V), [v, V.int (Builtin.bitAnd ((ms0[i] : Nat) : Int) ((ms0[i + j] : Nat) : Int)), V.int (Builtin.bitXor ((ms0[i] : Nat) : Int) ((ms0[i + j] : Nat) : Int))] = [v, vInt (ms0[i] &&& ms0[i + j]), vInt (xorN ms0[i] ms0[i + j])] := fun v => by
          rw [bitAnd_nat, bitXor_nat]
        refine ⟨_, rfl, x, dx5, fs5, rfl, e1, g1, _, rfl, _, rfl, _, _, rfl, rfl, _, rfl, _, rfl, _, _, rfl, rfl, x, fa, lo, dp, dk, n, ms0, os, tp, tk, _, _, ev _, hC5, by omega, by omega, fun H6 hC6 kd => ⟨_, rfl, ?_⟩⟩
        have s6 : Same H H6 := kpd_old s5 kd od ok_
        have hpd : p ≠ dp := by
          obtain ⟨kp, q, _⟩ := hC5.pa
          exact ne_of hp5 q (by intro z; cases z)
        have hpk : p ≠ dk := by
          obtain ⟨kk, q, _⟩ := hC5.kn
          exact ne_of hp5 q (by intro z; cases z)
        have hp6 := kd _ _ hpd hpk hp5
        cases hb : brk ms0 os (ms0[i] &&& ms0[i + j]) (xorN ms0[i] ms0[i + j]) with
        | false =>
          refine iteF ⟨⟨_, rfl⟩, ⟨tp + 1, tk + 1, by omega, by omega, hC6⟩, s6, hp6, ?_⟩
          refine nb.step ?_
          rw [getD_at hi, getD_at hij]
          exact due2_none hC.ord (hlt hi) (hlt hij) hb
        | true =>
          obtain ⟨z, hz, hd2⟩ := due2_some hC.ord (hlt hi) (hlt hij) hb
          have hdue : boxDue ms os = some (ms0[i], ms0[i + j], z) := by
            rw [due]
            refine nobreak_at hi hij (Nat.le_add_right _ _) nb ?_
            rw [getD_at hi, getD_at hij]
            exact hd2
          have hzn : z < 2 ^ n := List.mem_range.mp (hC.ord.perm.mem_iff.mp (List.mem_of_find?_eq_some hz))
          refine iteT ⟨_, rfl, _, rfl, small (m := 2) (Nat.le_refl _), fun u hu => ?_⟩
          have sU : Same H6 (upd H6 u (.tup [vInt ms0[i], vInt ms0[i + j]])) := same_new hu
          have hC7 := hC6.same sU
          obtain ⟨dx7, la7, fs7, k1, k2, k3, k4, k5, k6, k7, k8, k9, m1, m2, m3⟩ := hC7.ob
          refine ⟨_, rfl, x, dx7, fs7, rfl, k1, m2, _, rfl, _, rfl, _, _, rfl, rfl, _, rfl, _, rfl, _, _, rfl, rfl, x, fa, lo, dp, dk, n, ms0, os, _, _, _, _, ev _, hC7, fun H8 q s8 hq hq' => ?_⟩
          rw [hz] at hq'
          refine ⟨u, q, _, _, rfl, rfl, SqT.of (s8 _ _ upd_same), SqT.of hq', (by intro z; cases z), (by show 3 ≤ sizeLine; exact small (m := 3) (Nat.le_refl _)), (fun z => by cases z), fun _ v hv => ?_⟩
          have s9 : Same H (upd H8 v (.tup ([vInt ms0[i], vInt ms0[i + j]] ++ optL (some z)))) := ((s6.trans sU).trans s8).trans (same_new hv)
          refine ⟨_, rfl, v, rfl, ⟨_, SqT.of upd_same⟩, fun D hD => ?_⟩
          obtain ⟨⟨dy, l, d, gs, ts, ms1, f1, f2, _⟩, _⟩ := hF.same s9
          refine lc_tup (K := K) (a := v) (xs := [ms0[i], ms0[i + j], z].map vInt) (fun r H' => Same (upd H8 v (.tup ([vInt ms0[i], vInt ms0[i + j]] ++ optL (some z)))) H' ∧ ∃ ys, H' D = some (.lst ys) ∧ LotsAt H' ys ([ms0[i], ms0[i + j], z].take r)) ⟨same_new hD, [], upd_same, trivial⟩ (fun r H' _ h => SqT.of (h.1 _ _ upd_same)) ?_ ?_
          · rintro r y H9 hy ⟨sm, ys, hY, hL⟩
            obtain ⟨hr', rfl⟩ := item hy
            have hmr : [ms0[i], ms0[i + j], z][r] < 2 ^ n := by
              have hall : ∀ m ∈ [ms0[i], ms0[i + j], z], m < 2 ^ n := fun m hm => by
                rcases List.mem_cons.mp hm with rfl | hm
                · exact hlt hi
                · rcases List.mem_cons.mp hm with rfl | hm
                  · exact hlt hij
                  · rw [List.mem_singleton.mp hm]
                    exact hzn
              exact hall _ (List.getElem_mem hr')
            refine ⟨rfl, _, rfl, _, rfl, fa, C, dy, gs, _, rfl, sm _ _ f1, FC.cl, FC.size, f2, _, n, rfl, hmr, h2, fun H10 q' s10 hq1 hq2 => ?_⟩
            refine ⟨_, s10 _ _ hY, ?_, same_upd (sm.trans s10) hD, _, upd_same, ?_⟩
            · rw [hL.len, List.length_take]
              exact below (m := 100) (Nat.le_trans (Nat.min_le_right _ _) (by show 3 ≤ 100; decide))
            · rw [take_more hr']
              exact ((hL.same s10).add hq2).upd (s10 _ _ hY)
          · rintro H9 ⟨sm, ys, hY, hL⟩
            obtain ⟨q1, q2, q3, rfl, w1, w2, w3⟩ := lots3 hL
            refine .inl ⟨D, _, rfl, SqL.of hY, fun e he => ?_⟩
            have sE := same_new (o := .tup [.ref q1, .ref q2, .ref q3]) he
            exact (kb _ os hC.ord ((s9.trans sm).trans sE)).2 _ _ _ e q1 q2 q3 hdue upd_same (sE _ _ w1) (sE _ _ w2) (sE _ _ w3)
      · rintro σ H5 ⟨⟨y5, rfl⟩, ⟨tp, tk, t1, t2, hC5⟩, s5, hp5, nb⟩
        rw [List.length_map, List.length_drop] at nb t1 t2
        refine ⟨⟨_, _, _, rfl⟩, ⟨tp, tk, by omega, by omega, hC5⟩, s5, ?_⟩
        rw [show i + (ms0.length - i) = ms0.length by omega] at nb
        exact nb.next
    · rintro σ H2 ⟨⟨y3, y4, y5, rfl⟩, ⟨tp, tk, t1, t2, hC2⟩, s2, nb⟩
      rw [List.length_map] at nb
      refine (kb H2 os hC.ord s2).1 ?_
      rw [due]
      exact nobreak_all nb
end
end Fam
/-! weights_against_box, weights_against. -/
namespace Fam
open PySem L2 OwnX
open C8 (pss_cut tCut)
abbrev sAgainst : Stmt := top 46
abbrev sAgainstBox : Stmt := top 47
theorem mem_lotN (m : Nat) : ∀ n i, i ∈ lotN m n ↔ i < n ∧ m.testBit i = true
  | 0, i => ⟨fun h => (by cases h), fun h => absurd h.1 (Nat.not_lt_zero _)⟩
  | n + 1, i => by
    have tb : m.testBit n = decide (m / 2 ^ n % 2 = 1) := Nat.testBit_eq_decide_div_mod_eq
    by_cases h : m / 2 ^ n % 2 = 1
    · rw [lotN_yes h, List.mem_append, List.mem_singleton, mem_lotN m n i]
      constructor
      · rintro (⟨a, b⟩ | e)
        · exact ⟨by omega, b⟩
        · rw [e, tb]
          exact ⟨Nat.lt_succ_self _, decide_eq_true h⟩
      · rintro ⟨a, b⟩
        by_cases e : i = n
        · exact .inr e
        · exact .inl ⟨by omega, b⟩
    · rw [lotN_no h, mem_lotN m n i]
      constructor
      · rintro ⟨a, b⟩
        exact ⟨by omega, b⟩
      · rintro ⟨a, b⟩
        refine ⟨?_, b⟩
        by_cases e : i = n
        · rw [e, tb, decide_eq_false h] at b
          cases b
        · omega
/-- the weights that are told: 1 within the lot z, -1 elsewhere -/
def wsOf (z n : Nat) : List Int := (List.range n).map fun i => if i ∈ lotN z 12 then (1 : Int) else -1
theorem wsOf_len (z n : Nat) : (wsOf z n).length = n := by
  unfold wsOf
  rw [List.length_map, List.length_range]
theorem wsOf_at (z : Nat) {n i : Nat} (h : i < n) : (wsOf z n).getD i 0 = if i ∈ lotN z 12 then (1 : Int) else -1 := by
  rw [List.getD_eq_getElem?_getD]
  unfold wsOf
  rw [List.getElem?_map, List.getElem?_range h]
  rfl
theorem due_of {ms os : List Nat} {x y z : Nat} (h : boxDue ms os = some (x, y, z)) : x ∈ ms ∧ y ∈ ms ∧ z ∈ os ∧ gap ms x y z = true := by
  have mi : ∀ a, a ∈ insideOf ms os → a ∈ ms := fun a ha => of_decide_eq_true (List.mem_filter.mp ha).2
  obtain ⟨a, ha, h1⟩ := List.exists_of_findSome?_eq_some h
  obtain ⟨b, hb, h2⟩ := List.exists_of_findSome?_eq_some h1
  unfold due2 at h2
  obtain ⟨c, hc, h3⟩ := Option.map_eq_some_iff.mp h2
  cases h3
  exact ⟨mi _ ha, mi _ hb, List.mem_of_find?_eq_some hc, List.find?_some hc⟩
theorem told_of {n : Nat} {ms os : List Nat} {x y z : Nat} (hn : n ≤ 10) (hm : Masks n ms) (ho : OrderOf n os) (h : boxDue ms os = some (x, y, z)) : ¬ Closed ms ∧ bestOf (wsOf z n) ms ≠ some (placeSum ms (wsOf z n)) := by
  obtain ⟨hx, hy, hz, hg⟩ := due_of h
  obtain ⟨g1, g2, g3⟩ := gap_iff.mp hg
  have hzn : z < 2 ^ n := List.mem_range.mp (ho.perm.mem_iff.mp hz)
  refine ⟨fun c => g1 (c x hx y hy z g2 g3), ?_⟩
  have lz : In (lowOf ms) z := In.trans (fun i hi => by
    rw [Nat.testBit_and, low_in hx i hi, low_in hy i hi]
    rfl) g2
  have hz2 : In z (highOf ms) := fun i hi => by
    have := g3 i hi
    rw [Nat.testBit_or, Bool.or_eq_true] at this
    rcases this with q | q
    · exact high_in hx i q
    · exact high_in hy i q
  refine gap_best (fun e => by rw [e] at hx; cases hx) (by rw [wsOf_len]; exact hm.lt) g1 (by rw [wsOf_len]; exact hzn) lz hz2 (fun i hi hb => ?_) (fun i hi hb => ?_)
  · rw [wsOf_len] at hi
    rw [wsOf_at z hi, if_pos ((mem_lotN z 12 i).mpr ⟨by omega, hb⟩)]
    decide
  · rw [wsOf_len] at hi
    rw [wsOf_at z hi, if_neg (fun q => by rw [((mem_lotN z 12 i).mp q).2] at hb; cases hb)]
    decide
def spTold (At : Hp → Addr → Nat → List Nat → Prop) : Sp := fun vs H Q _ => ∃ (f : Addr) (n : Nat) (ms : List Nat), vs = [.ref f] ∧ At H f n ms ∧ Masks n ms ∧ 1 ≤ n ∧ n ≤ 10 ∧ ∀ (v : V) (H' : Hp), Same H H' → Told H' n ms v → Q v H'
section
variable {P : Program} {w : World} {K : PySem.W.Frag} {mg : Str → Option Value} {base : Heap} {C CC B : Addr}
abbrev nAB : List Str := ["family", "found", "place"]
theorem scAB : FnScope nAB ["family"] (defScope sAgainstBox) := ⟨rfl, rfl, rfl, by decide +kernel, rfl, by decide +kernel, by decide +kernel⟩
theorem ok_against_box {f : Addr} {fd : FuncData} (F : Fun K "weights_against_box" "weights_against_box" sAgainstBox f fd) (T : Bare mg) (FC : FamC K C) (GB : CalX P w K mg base 5 "broken" ["family", "word"] (spBroken B (FAt C))) : FnOk P w K mg base CX0 6 f fd ["family"] (spTold (FAt C)) := by
  obtain ⟨gb, gbd, okb, bb, kb, mb⟩ := GB.ex
  refine F.ok scAB (fun vs H Q E h => ?_) (fun cdv A outer s H vs Q E hr h => ?_)
  · obtain ⟨fa, n, ms, rfl, _⟩ := h
    rfl
  · obtain ⟨fa, n, ms, rfl, hF, hms, h1, h2, k⟩ := h
    refine ⟨_, pss_cons (ps_set (i := 1) scAB.nd rfl (Or.inr rfl) (pe_call okb hr rfl mb kb bb .nil passE0 (pa_cons (pv 0) (pa_cons pe_str pa_nil))))
      (pss_cons (ps_if (pt_cmpR op_isN (pv 1) pe_non (nomark _)) (pss_one (ps_ret pe_non)) pss_nil)
      (pss_one (ps_ret (pe_tupleOf rfl T.tuple (pe_lc (own := [("place", 2)]) (g := gName 2) (tt := tYes) rfl scAB.nd (pi_range1 rfl T.range (pa_cons (pe_fld (pv 0) rfl) pa_nil)) (blkOk_by (own := [("place", 2)]) (N := nAB) (sc := defScope sAgainstBox) (by decide +kernel)) (fun _ _ _ _ _ => pg_name (i := 2) scAB.nd rfl (Or.inl rfl)) (fun _ _ _ _ _ => pts_nil)
        (fun _ _ _ _ _ => pe_ifExp (pt_cmpR (op_in_seq : OpR _ _ (rIn K false)) (pv 2) (pe_ix (ix_row : IxR _ (rIxRow K)) (pv 1) pe_int (fun _ _ => rfl)) (by rfl)) pe_int (pe_un un_neg pe_int))))))), ?_⟩
    refine ⟨_, rfl, fa, n, ms, .str "box", rfl, hF, hms, h1, h2, .inl ⟨rfl, fun H1 os ho s1 => ⟨fun e => ?_, fun x y z p q1 q2 q3 e hp hq1 hq2 hq3 => ?_⟩⟩⟩
    · exact ⟨_, rfl, rfl, _, rfl, iteT (k .non H1 s1 (.inl ⟨rfl, (closed_iff hms.lt ho).mp e⟩))⟩
    · obtain ⟨⟨dy, l, d, gs, ts, ms1, f1, f2, _⟩, _⟩ := hF.same s1
      refine ⟨_, rfl, rfl, _, rfl, iteF ⟨_, rfl, fa, C, dy, gs, _, rfl, f1, FC.cl, FC.size, f2, _, rfl, by omega, by omega, fun D hD => ?_⟩⟩
      refine lc_range (lo := 0) (n := n) (fun i H' => Same H1 H' ∧ H' D = some (.lst ((wsOf z i).map V.int))) ⟨same_new hD, upd_same⟩ ?_ ?_
      · rintro i H2 hi ⟨sm, hT⟩
        refine ⟨rfl, _, rfl, _, rfl, p, _, 2, .ref q3, rfl, rfl, .inr (SqT.of (sm _ _ hp)), rfl, q3, lotV z, rfl, .inr (SqT.of (sm _ _ hq3)), rfl, flat_all _, _, rfl, ?_⟩
        have ein : inV (V.int (0 + (i : Int))) (lotV z) = decide (i ∈ lotN z 12) := by
          rw [Int.zero_add]
          exact inV_nat i _
        have ew : wsOf z (i + 1) = wsOf z i ++ [if i ∈ lotN z 12 then (1 : Int) else -1] := by
          unfold wsOf
          rw [List.range_succ, List.map_append]
          rfl
        have len : ((wsOf z i).map V.int).length < sizeLine := by
          rw [List.length_map, wsOf_len]
          exact below (m := 100) (by omega)
        rw [ein]
        by_cases hin : i ∈ lotN z 12
        · rw [decide_eq_true hin]
          refine iteT ⟨_, hT, len, same_upd sm hD, ?_⟩
          rw [upd_same, ew, if_pos hin, List.map_append]
          rfl
        · rw [decide_eq_false hin]
          refine iteF ⟨_, rfl, _, hT, len, same_upd sm hD, ?_⟩
          rw [upd_same, ew, if_neg hin, List.map_append]
          rfl
      · rintro H2 ⟨sm, hT⟩
        refine .inl ⟨D, _, rfl, SqL.of hT, fun q hq => ?_⟩
        obtain ⟨nc, nb⟩ := told_of h2 hms ho e
        refine k _ _ ((s1.trans sm).trans (same_new hq)) (.inr ⟨nc, q, wsOf z n, rfl, upd_same, wsOf_len z n, fun v hv => ?_, nb⟩)
        obtain ⟨i, _, rfl⟩ := List.mem_map.mp hv
        by_cases hin : i ∈ lotN z 12
        · rw [if_pos hin]
          decide
        · rw [if_neg hin]
          decide
theorem scAg : FnScope ["family", "word"] ["family", "word"] (defScope sAgainst) := ⟨rfl, rfl, rfl, by decide +kernel, rfl, by decide +kernel, by decide +kernel⟩
theorem ok_against {f : Addr} {fd : FuncData} (F : Fun K "weights_against" "weights_against" sAgainst f fd) (N : BadRaise P w K mg base B) (GX : Cal P w K mg base 6 "weights_against_box" ["family"] (spTold (FAt C))) : FnOk P w K mg base (L2.CX P w) 7 f fd ["family", "word"] (spAgainst B (FAt C)) := by
  obtain ⟨g, gd, iC, tI, ok, b⟩ := N.init
  obtain ⟨gx, gxd, okx, bx, kx, mx⟩ := GX.ex
  refine F.okX scAg (fun vs H Q E h => ?_) (fun cdv A outer s H vs Q E hr h => ?_)
  · obtain ⟨fa, n, ms, word, rfl, _⟩ := h
    rfl
  · obtain ⟨fa, n, ms, word, rfl, hF, hms, h1, h2, hw⟩ := h
    refine ⟨_, pss_cons (ps_if (pt_cmpR op_eq (pv 1) pe_str (nomark _)) (pss_one (ps_ret (pe_call okx hr rfl mx kx bx .nil pass0 (pa_cons (pv 0) pa_nil)))) pss_nil)
      (pss_cons (ps_if (pt_cmpR op_ne (pv 1) pe_str (nomark _)) (pss_one (ps_raise rfl (takes_of rfl rfl rfl rfl) (pmk_oex N.oex iC tI ok (hr.mono (by decide)) b .nil pass0 rfl N.gB (pa_cons pe_str pa_nil)))) pss_nil)
      (pss_one ps_never)), ?_⟩
    rcases hw with ⟨rfl, k⟩ | ⟨hb, k⟩
    · exact ⟨_, rfl, rfl, _, rfl, ite2 (fun _ => ⟨_, rfl, fa, n, ms, rfl, hF, hms, h1, h2, k⟩) fun z => absurd (decide_eq_true rfl) z⟩
    · rcases hb with rfl | rfl | rfl | rfl | rfl | rfl
      all_goals
        refine ⟨_, rfl, rfl, _, rfl, ite2 (fun z => absurd (of_decide_eq_true z) (by decide +kernel)) fun _ => ⟨_, rfl, rfl, _, rfl, iteT ?_⟩⟩
        exact bad_read N (fun Q' q => q) k
end
end Fam
/-! From the top's facts to what the law asks of the program's defs. -/
namespace Fam
open PySem L2 OwnX
/-- a method of a class stands there as the text says -/
def MetAt (K : PySem.W.Frag) (C : Addr) (x qual : Str) (st : Stmt) (f : Addr) : Prop :=
  ∃ (od an : Option Addr) (sl : Array (Option Value)) (oc kV dc pm cd ct : Value), PySem.W.findIn K (.ref C) x = some (some (.ref f)) ∧ PySem.W.isFn K (.ref f) = true ∧
    K.lookup f = some ⟨oc, od, .func (PySem.W.fnOf x qual (defArgs st) (defBody st) (defScope st) .none kV dc pm an cd ct), sl⟩ ∧ PySem.W.codeIn K cd qual = true ∧ PySem.W.keepIn K (.ref f) = true
theorem met_at {K : PySem.W.Frag} {C : Addr} {x qual : Str} {st : Stmt} {f : Addr} {od an : Option Addr} {sl : Array (Option Value)} {oc kV dc pm cd ct : Value} (a : PySem.W.findIn K (.ref C) x = some (some (.ref f))) (b : PySem.W.isFn K (.ref f) = true)
    (l : K.lookup f = some ⟨oc, od, .func (PySem.W.fnOf x qual (defArgs st) (defBody st) (defScope st) .none kV dc pm an cd ct), sl⟩) (c : PySem.W.codeIn K cd qual = true) (k : PySem.W.keepIn K (.ref f) = true) : ∃ f, MetAt K C x qual st f := ⟨f, od, an, sl, oc, kV, dc, pm, cd, ct, a, b, l, c, k⟩
theorem met_of {K : PySem.W.Frag} {C : Addr} {x qual : Str} {st : Stmt} {f : Addr} {ps : List Str} (M : MetAt K C x qual st f)
    (hb : ∀ (kV doc pm : Value) (an : Option Addr) (cdv ct : Value) (us : List Value), us.length = ps.length → bindArgs (PySem.W.fnOf x qual (defArgs st) (defBody st) (defScope st) .none kV doc pm an cdv ct) ⟨us, []⟩ = pure (ps.zip us)) :
    ∃ fd : FuncData, Fun K x qual st f fd ∧ Meth K C x f ∧ Binds K fd ps [] := by
  obtain ⟨od, an, sl, oc, kV, dc, pm, cd, ct, a, b, l, c, k⟩ := M
  have F := fun_mk (st := st) l c k
  exact ⟨_, F, ⟨a, b, k⟩, F.binds hb⟩
/-- a def of the top that may raise -/
theorem calX {P : Program} {w : World} {K : PySem.W.Frag} {mg : Str → Option Value} {base : Heap} {h : Heap} {k : Nat} {x : Str} {st : Stmt} {ps : List Str} {sp : Sp} (X : K.In h) (G : h.Ns mainGlobals mg) (D : ∃ f, DefAt K x st f)
    (hb : ∀ (kV doc pm : Value) (an : Option Addr) (cdv ct : Value) (us : List Value), us.length = ps.length → bindArgs (PySem.W.fnOf x x (defArgs st) (defBody st) (defScope st) .none kV doc pm an cdv ct) ⟨us, []⟩ = pure (ps.zip us))
    (ok : ∀ f fd, Fun K x x st f fd → FnOk P w K mg base (L2.CX P w) k f fd ps sp) : CalX P w K mg base k x ps sp := by
  obtain ⟨f, od, an, sl, oc, kV, dc, pm, cd, ct, a, l, c, kk⟩ := D
  have F := fun_mk (st := st) l c kk
  exact ⟨⟨f, _, ok f _ F, F.binds hb, kk, PySem.W.mg_of X G a⟩⟩
/-- where the program's own defs stand -/
structure ProgTops (K : PySem.W.Frag) : Prop where
  isInt : ∃ f, DefAt K "is_int" sIsInt f
  between : ∃ f, DefAt K "is_between" sIsBetween f
  areInts : ∃ f, DefAt K "are_integers" sAreInts f
  checkNumber : ∃ f, DefAt K "check_number" sCheckNumber f
  lotOf : ∃ f, DefAt K "lot_of" sLotOf f
  maskOf : ∃ f, DefAt K "mask_of" sMaskOf f
  lotOfMask : ∃ f, DefAt K "lot_of_mask" sLotOfMask f
  allOf : ∃ f, DefAt K "all_lots_of" sAllOf f
  weightOf : ∃ f, DefAt K "weight_of" sWeightOf f
  checkWord : ∃ f, DefAt K "check_word" sCheckWord f
  broken : ∃ f, DefAt K "broken" sBroken f
  againstBox : ∃ f, DefAt K "weights_against_box" sAgainstBox f
  against : ∃ f, DefAt K "weights_against" sAgainst f
structure FamMet (K : PySem.W.Frag) (C : Addr) : Prop where
  init : ∃ f, MetAt K C "__init__" "Family.__init__" sFInit f
  iter : ∃ f, MetAt K C "__iter__" "Family.__iter__" sFamIter f
  checkW : ∃ f, MetAt K C "check_weights" "Family.check_weights" sCheckW f
  topW : ∃ f, MetAt K C "top_weight" "Family.top_weight" sTopW f
structure CloMet (K : PySem.W.Frag) (CC : Addr) : Prop where
  init : ∃ f, MetAt K CC "__init__" "Closing.__init__" sClInit f
  partsIn : ∃ f, MetAt K CC "parts_in" "Closing.parts_in" sPartsIn f
  isBroken : ∃ f, MetAt K CC "is_broken" "Closing.is_broken" sIsBroken f
  misses : ∃ f, MetAt K CC "misses" "Closing.misses" sMisses f
  third : ∃ f, MetAt K CC "third" "Closing.third" sThird f
structure Bares2 (K : PySem.W.Frag) : Prop where
  set : PySem.W.nsIn K mainGlobals "set" = some none
  iter : PySem.W.nsIn K mainGlobals "iter" = some none
  max : PySem.W.nsIn K mainGlobals "max" = some none
  sum : PySem.W.nsIn K mainGlobals "sum" = some none
  any : PySem.W.nsIn K mainGlobals "any" = some none
  all : PySem.W.nsIn K mainGlobals "all" = some none
  enumerate : PySem.W.nsIn K mainGlobals "enumerate" = some none
  str : PySem.W.nsIn K mainGlobals "str" = some none
theorem Bares2.bare {K : PySem.W.Frag} {h : Heap} {mg : Str → Option Value} (X : K.In h) (G : h.Ns mainGlobals mg) (b : Bares2 K) : Bare2 mg :=
  ⟨PySem.W.mg_none_of X G b.set, PySem.W.mg_none_of X G b.iter, PySem.W.mg_none_of X G b.max, PySem.W.mg_none_of X G b.sum, PySem.W.mg_none_of X G b.any, PySem.W.mg_none_of X G b.all, PySem.W.mg_none_of X G b.enumerate, PySem.W.mg_none_of X G b.str⟩
theorem fam_all {P : Program} {w : World} {K : PySem.W.Frag} {h : Heap} {mg : Str → Option Value} {C CC B : Addr} {tm : Tok} (X : K.In h) (G : h.Ns mainGlobals mg) (bs : Bares K) (bs2 : Bares2 K) (aC : PySem.W.nsIn K mainGlobals "Family" = some (some (.ref C))) (aCC : PySem.W.nsIn K mainGlobals "Closing" = some (some (.ref CC)))
    (aM : PySem.W.nsIn K mainGlobals "MOST_PLACES" = some (some (.int 10 tm))) (FC : FamC K C) (CL : CloC K CC) (mC : PySem.W.makesIn K C = true) (kC : PySem.W.keepIn K (.ref C) = true) (mCC : PySem.W.makesIn K CC = true) (kCC : PySem.W.keepIn K (.ref CC) = true)
    (t : ProgTops K) (fm : FamMet K C) (cm : CloMet K CC) (Wd : Words K C) (N : ∀ base : Heap, BadRaise P w K mg base B) : ∀ base : Heap, K.In base → base.Ns mainGlobals mg → FamFacts P w K mg base C B (FAt C) := by
  intro base _ _
  have T := bs.bare X G
  have T2 := bs2.bare X G
  have NB := N base
  have gC := PySem.W.mg_of X G aC
  have gCC := PySem.W.mg_of X G aCC
  have cInt : Cal P w K mg base 1 "is_int" ["value"] (spIsInt K) := cal X G t.isInt (fun _ _ _ _ _ _ us hl => match us, hl with | [_], _ => rfl) fun f fd F => ok_is_int F T
  have cBet : Cal P w K mg base 2 "is_between" ["value", "low", "high"] spBetween := cal X G t.between (fun _ _ _ _ _ _ us hl => match us, hl with | [_, _, _], _ => rfl) fun f fd F => ok_between F cInt
  have cInts : Cal P w K mg base 2 "are_integers" ["value", "many"] (spAreInts K) := cal X G t.areInts (fun _ _ _ _ _ _ us hl => match us, hl with | [_, _], _ => rfl) fun f fd F => ok_are_ints F T T2 cInt
  have cNum : CalX P w K mg base 3 "check_number" ["value", "which", "low", "high"] spGood := calX X G t.checkNumber (fun _ _ _ _ _ _ us hl => match us, hl with | [_, _, _, _], _ => rfl) fun f fd F => ok_check_number F NB cInt
  have cLot : Cal P w K mg base 3 "lot_of" ["value", "size"] spLotOf := cal X G t.lotOf (fun _ _ _ _ _ _ us hl => match us, hl with | [_, _], _ => rfl) fun f fd F => ok_lot_of F T T2 cBet
  have cMask : Cal P w K mg base 1 "mask_of" ["lot"] spMaskOf := cal X G t.maskOf (fun _ _ _ _ _ _ us hl => match us, hl with | [_], _ => rfl) fun f fd F => ok_mask_of F
  have cLM : Cal P w K mg base 1 "lot_of_mask" ["mask", "size"] spLotOfMask := cal X G t.lotOfMask (fun _ _ _ _ _ _ us hl => match us, hl with | [_, _], _ => rfl) fun f fd F => ok_lot_of_mask F T
  have cAll : Cal P w K mg base 2 "all_lots_of" ["size"] spAllLots := cal X G t.allOf (fun _ _ _ _ _ _ us hl => match us, hl with | [_], _ => rfl) fun f fd F => ok_all_of F T cLM
  have cW : Cal P w K mg base 1 "weight_of" ["lot", "weights"] (spWeightOf K) := cal X G t.weightOf (fun _ _ _ _ _ _ us hl => match us, hl with | [_, _], _ => rfl) fun f fd F => ok_weight_of F T2
  have cWord : CalX P w K mg base 3 "check_word" ["word"] (spCheckWord B) := calX X G t.checkWord (fun _ _ _ _ _ _ us hl => match us, hl with | [_], _ => rfl) fun f fd F => ok_check_word F T T2 NB gC Wd
  obtain ⟨fI, mI⟩ := fm.init
  obtain ⟨dI, FI, meI, bI⟩ := met_of (ps := ["self", "size", "lots"]) mI (fun _ _ _ _ _ _ us hl => match us, hl with | [_, _, _], _ => rfl)
  obtain ⟨fT, mT⟩ := fm.iter
  obtain ⟨dT, FT, meT, bT⟩ := met_of (ps := ["self"]) mT (fun _ _ _ _ _ _ us hl => match us, hl with | [_], _ => rfl)
  obtain ⟨fK, mK'⟩ := fm.checkW
  obtain ⟨dK, FK, meK, bK⟩ := met_of (ps := ["self", "weights"]) mK' (fun _ _ _ _ _ _ us hl => match us, hl with | [_, _], _ => rfl)
  obtain ⟨fW, mW⟩ := fm.topW
  obtain ⟨dW, FW, meW, bW⟩ := met_of (ps := ["self", "weights"]) mW (fun _ _ _ _ _ _ us hl => match us, hl with | [_, _], _ => rfl)
  obtain ⟨cI, nI⟩ := cm.init
  obtain ⟨eI, GI, neI, aI⟩ := met_of (ps := ["self", "family", "word"]) nI (fun _ _ _ _ _ _ us hl => match us, hl with | [_, _, _], _ => rfl)
  obtain ⟨cP, nP⟩ := cm.partsIn
  obtain ⟨eP, GP, neP, aP⟩ := met_of (ps := ["self", "single"]) nP (fun _ _ _ _ _ _ us hl => match us, hl with | [_, _], _ => rfl)
  obtain ⟨cB, nB⟩ := cm.isBroken
  obtain ⟨eB, GB, neB, aB⟩ := met_of (ps := ["self", "both", "single"]) nB (fun _ _ _ _ _ _ us hl => match us, hl with | [_, _, _], _ => rfl)
  obtain ⟨cM, nM⟩ := cm.misses
  obtain ⟨eM, GM, neM, aM'⟩ := met_of (ps := ["self", "both", "single"]) nM (fun _ _ _ _ _ _ us hl => match us, hl with | [_, _, _], _ => rfl)
  obtain ⟨cT, nT⟩ := cm.third
  obtain ⟨eT, GT, neT, aT⟩ := met_of (ps := ["self", "both", "single"]) nT (fun _ _ _ _ _ _ us hl => match us, hl with | [_, _, _], _ => rfl)
  have O : OwnIt P w K mg base C fT "lots" := fam_iter FT T2.iter FC.cl FC.lots meT.at_ meT.fn
  have okI := ok_cl_init (P := P) (w := w) (mg := mg) (base := base) GI CL FC O cMask cAll
  have okP : FnOk P w K mg base CX0 1 cP eP ["self", "single"] (spPartsIn C CC) := ok_parts_in GP T CL
  have okM := ok_misses GM T2 CL FC neP okP aP
  have okB := ok_is_broken GB CL neM okM aM'
  have okT : FnOk P w K mg base CX0 1 cT eT ["self", "both", "single"] (spThird C CC) := ok_third GT CL FC
  have cBr : CalX P w K mg base 5 "broken" ["family", "word"] (spBroken B (FAt C)) := calX X G t.broken (fun _ _ _ _ _ _ us hl => match us, hl with | [_, _], _ => rfl) fun f fd F =>
    ok_broken F T T2 CL FC gCC cWord cLM ⟨mCC, neI.at_, neI.fn, kCC⟩ okI aI neB okB aB neT okT aT
  have cAB : Cal P w K mg base 6 "weights_against_box" ["family"] (spTold (FAt C)) := cal X G t.againstBox (fun _ _ _ _ _ _ us hl => match us, hl with | [_], _ => rfl) fun f fd F => ok_against_box F T FC cBr
  have cAg : CalX P w K mg base 7 "weights_against" ["family", "word"] (spAgainst B (FAt C)) := calX X G t.against (fun _ _ _ _ _ _ us hl => match us, hl with | [_, _], _ => rfl) fun f fd F => ok_against F NB cAB
  have okK : FnOk P w K mg base CX0 3 fK dK ["self", "weights"] (spCheckW K C) := ok_check_w FK FC cInts
  have okW := ok_top_w FW T2 FC meK okK bK cW
  have okF := ok_fam_init (qs := C) FI T T2 FC ⟨tm, PySem.W.mg_of X G aM⟩ cNum cLot cMask
  refine ⟨FC.cl, gC, fun h s => h.same s, fun h ha k => h.keep ha k, fun h p => h.perm p, fun h => ?_, FC.size, ⟨fI, dI, ⟨mC, meI.at_, meI.fn, kC⟩, okF.mono (by decide), bI⟩, ⟨fW, dW, meW, okW.mono (by decide), bW⟩, ?_, ?_⟩
  · obtain ⟨⟨dx, l, d, fs, ts, ms0, a1, a2, a3, a4, a5, _⟩, _⟩ := h
    exact ⟨dx, fs, a1, a2, a5⟩
  · obtain ⟨g, gd, ok, b, k, m⟩ := cBr.ex
    exact ⟨⟨g, gd, ok.mono (by decide), b, k, m⟩⟩
  · obtain ⟨g, gd, ok, b, k, m⟩ := cAg.ex
    exact ⟨⟨g, gd, ok.mono (by decide), b, k, m⟩⟩
end Fam
namespace Fam
open PySem L2
theorem bad_raise_all {P : Program} {w : World} {K : PySem.W.Frag} {mg : Str → Option Value} {B : Addr} {h : Heap} {f : Addr} {nm q : Str} {N : Addr} {bs bm : List Value} {sn : List Str} {sub : List Value} {ab : Bool} {col : Option Bool} {dd : Option Addr} {m0 m1 m2 m3 m5 : Option Value} {od an : Option Addr} {sl : Array (Option Value)} {oc kV dc pm cd ct : Value}
    (X : K.In h) (G : h.Ns mainGlobals mg) (aB : PySem.W.nsIn K mainGlobals "BadNumber" = some (some (.ref B))) (x : K.lookup B = some (excClassObj nm q B N bs bm true sn sub ab col dd m0 m1 m2 m3 m5 "ValueError.__new__")) (xb : PySem.HandSPX.refsVE bm = true)
    (sa : PySem.W.findIn K (.ref B) "__setattr__" = some (some (.builtin "object.__setattr__"))) (e : PySem.W.subIn K (.ref B) (.type "BaseException") = some true) (t : PySem.W.typeIn K (.ref B) = some (.type "type")) (kB : PySem.W.keepIn K (.ref B) = true) (no : PySem.W.findIn K (.ref B) "which" = some none)
    (iB : PySem.W.findIn K (.ref B) "__init__" = some (some (.ref f))) (tf : PySem.W.typeIn K (.ref f) = some (.type "function"))
    (l : K.lookup f = some ⟨oc, od, .func (PySem.W.fnOf "__init__" "BadNumber.__init__" (defArgs sBadInit) (defBody sBadInit) (defScope sBadInit) .none kV dc pm an cd ct), sl⟩) (c : PySem.W.codeIn K cd "BadNumber.__init__" = true) (kf : PySem.W.keepIn K (.ref f) = true) :
    ∀ base : Heap, BadRaise P w K mg base B := fun base => bad_raise_mk X G aB x xb sa e t kB no iB tf l c kf
theorem fam_c {K : PySem.W.Frag} {C : Addr} (pg : PySem.W.plainGet K C Str.empty = true) (hd : PySem.W.hasDictIn K C = true) (po : PySem.W.plainOver K C = true) (sa : PySem.W.findIn K (.ref C) "__setattr__" = some (some (.builtin "object.__setattr__")))
    (n1 : PySem.W.findIn K (.ref C) "size" = some none) (n2 : PySem.W.findIn K (.ref C) "lots" = some none) (n3 : PySem.W.findIn K (.ref C) "masks" = some none) : FamC K C := ⟨⟨pg, hd, po, sa⟩, n1, n2, n3⟩
theorem clo_c {K : PySem.W.Frag} {C : Addr} (pg : PySem.W.plainGet K C Str.empty = true) (hd : PySem.W.hasDictIn K C = true) (po : PySem.W.plainOver K C = true) (sa : PySem.W.findIn K (.ref C) "__setattr__" = some (some (.builtin "object.__setattr__")))
    (n1 : PySem.W.findIn K (.ref C) "family" = some none) (n2 : PySem.W.findIn K (.ref C) "how" = some none) (n3 : PySem.W.findIn K (.ref C) "order" = some none) (n4 : PySem.W.findIn K (.ref C) "others" = some none) (n5 : PySem.W.findIn K (.ref C) "parts" = some none) (n6 : PySem.W.findIn K (.ref C) "known" = some none) : CloC K C := ⟨⟨pg, hd, po, sa⟩, n1, n2, n3, n4, n5, n6⟩
theorem end_mk {l : PySem.W.OpenLaw} {w : World} {K : PySem.W.Frag} {h : Heap} {mg : Str → Option Value} {fa C CC B : Addr}  (X : K.In h) (G : h.Ns mainGlobals mg) (hfa : mg "law" = some (.ref fa))
    (aC : PySem.W.nsIn K mainGlobals "Family" = some (some (.ref C))) (aCC : PySem.W.nsIn K mainGlobals "Closing" = some (some (.ref CC))) (hM : ∃ tm, PySem.W.nsIn K mainGlobals "MOST_PLACES" = some (some (.int 10 tm)))
    (t : Tops K) (t2 : Tops2 K) (bs : Bares K) (bs2 : Bares2 K) (Wd : Words K C) (NF : BadFacts K mg B) (NR : ∀ base : Heap, BadRaise l.prog w K mg base B)
    (FC : FamC K C) (CL : CloC K CC) (mC : PySem.W.makesIn K C = true) (kC : PySem.W.keepIn K (.ref C) = true) (mCC : PySem.W.makesIn K CC = true) (kCC : PySem.W.keepIn K (.ref CC) = true) (pt : ProgTops K) (fm : FamMet K C) (cm : CloMet K CC) :
    ∃ fd : FuncData, (∀ (s : Shared) (v : Value), BindsTo s fd ⟨[v], []⟩ [("_law_script", v)]) ∧ ∀ base : Heap, K.In base → base.Ns mainGlobals mg → FnOk l.prog w K mg base CX0 23 fa fd ["_law_script"] (spLaw K) :=
  hM.elim fun _ aM => all_mk2 X G hfa t t2 bs Wd NF (fam_all X G bs bs2 aC aCC aM FC CL mC kC mCC kCC pt fm cm Wd NR)
end Fam
open PySem PySem.W PyProof.Rows
set_option maxHeartbeats 0 in
set_option maxRecDepth 100000 in
theorem PySem.Challenge.cw_lotsayings_k49_box_by_all_weights_holds : PySem.Challenge.rw_lotsayings_k49_box_by_all_weights.Holds := by
  w_on; o_law; k_head; (case hw => w_witness2)
  k_fill
  refine Fam.walk23 (l := PySem.Challenge.rw_lotsayings_k49_box_by_all_weights) rfl rfl (fun w h Y => PySem.W.kIn_of Y) ?F
  case F =>
    intro w mg fa h KX G hmg
    refine' Fam.end_mk (C := ?C) (CC := ?CC) (B := ?B)  KX G hmg ?aC ?aCC ?aM ⟨?t1, ?t2, ?t3, ?t4, ?t5, ?t6, ?t7, ?t8, ?t9, ?t10, ?t11, ?t12, ?t13, ?t14, ?t15, ?t16, ?t17, ?t18⟩ ⟨?u1, ?u2, ?u3, ?u4⟩ ⟨?b1, ?b2, ?b3, ?b4, ?b5, ?b6, ?b7, ?b8, ?b9, ?b10⟩ ⟨?c1, ?c2, ?c3, ?c4, ?c5, ?c6, ?c7, ?c8⟩
      (Fam.words_mk (mc := .type "type") ?aC2 ?r ?g ?f ?l ?z ?v) (Fam.bad_mk KX G ?aB ?ga ?gg ?e ?d ?no ?i ?t ?o) (Fam.bad_raise_all KX G ?aB2 ?x ?xb ?sa ?e2 ?tt ?kB ?no2 ?iB ?tf ?ll ?cc ?kf)
      (Fam.fam_c ?fpg ?fhd ?fpo ?fsa ?f1 ?f2 ?f3) (Fam.clo_c ?kpg ?khd ?kpo ?ksa ?k1 ?k2 ?k3 ?k4 ?k5 ?k6) ?mC ?kC ?mCC ?kCC ⟨?p1, ?p2, ?p3, ?p4, ?p5, ?p6, ?p7, ?p8, ?p9, ?p10, ?p11, ?p12, ?p13⟩ ⟨?m1, ?m2, ?m3, ?m4⟩ ⟨?q1, ?q2, ?q3, ?q4, ?q5⟩
    case aC => k_is
    case aCC => k_is
    case aM => exact ⟨_, rfl⟩
    case aC2 => k_is
    case aB => k_is
    case aB2 => k_is
    case r => k_is
    case g => k_is
    case f => k_is
    case l => k_is
    case z => decide
    case v => exact .cons ⟨_, rfl⟩ (.cons ⟨_, rfl⟩ (.cons ⟨_, rfl⟩ (.cons ⟨_, rfl⟩ (.cons ⟨_, rfl⟩ .nil))))
    case ga => k_is
    case gg => k_is
    case e => k_is
    case d => k_is
    case no => k_is
    case i => k_is
    case t => k_is
    case o => k_is
    case x => k_is
    case xb => decide +kernel
    case sa => k_is
    case e2 => k_is
    case tt => k_is
    case kB => k_is
    case no2 => k_is
    case iB => k_is
    case tf => k_is
    case ll => k_is
    case cc => k_is
    case kf => k_is
    case fpg => k_is
    case fhd => k_is
    case fpo => k_is
    case fsa => k_is
    case f1 => k_is
    case f2 => k_is
    case f3 => k_is
    case kpg => k_is
    case khd => k_is
    case kpo => k_is
    case ksa => k_is
    case k1 => k_is
    case k2 => k_is
    case k3 => k_is
    case k4 => k_is
    case k5 => k_is
    case k6 => k_is
    case mC => k_is
    case kC => k_is
    case mCC => k_is
    case kCC => k_is
    case b1 => k_is
    case b2 => k_is
    case b3 => k_is
    case b4 => k_is
    case b5 => k_is
    case b6 => k_is
    case b7 => k_is
    case b8 => k_is
    case b9 => k_is
    case b10 => k_is
    case c1 => k_is
    case c2 => k_is
    case c3 => k_is
    case c4 => k_is
    case c5 => k_is
    case c6 => k_is
    case c7 => k_is
    case c8 => k_is
    case t1 => (refine' Fam.def_at ?a ?l ?c ?k; (case a => k_is); (case l => k_is); (case c => k_is); (case k => k_is))
    case t2 => (refine' Fam.def_at ?a ?l ?c ?k; (case a => k_is); (case l => k_is); (case c => k_is); (case k => k_is))
    case t3 => (refine' Fam.def_at ?a ?l ?c ?k; (case a => k_is); (case l => k_is); (case c => k_is); (case k => k_is))
    case t4 => (refine' Fam.def_at ?a ?l ?c ?k; (case a => k_is); (case l => k_is); (case c => k_is); (case k => k_is))
    case t5 => (refine' Fam.def_at ?a ?l ?c ?k; (case a => k_is); (case l => k_is); (case c => k_is); (case k => k_is))
    case t6 => (refine' Fam.def_at ?a ?l ?c ?k; (case a => k_is); (case l => k_is); (case c => k_is); (case k => k_is))
    case t7 => (refine' Fam.def_at ?a ?l ?c ?k; (case a => k_is); (case l => k_is); (case c => k_is); (case k => k_is))
    case t8 => (refine' Fam.def_at ?a ?l ?c ?k; (case a => k_is); (case l => k_is); (case c => k_is); (case k => k_is))
    case t9 => (refine' Fam.def_at ?a ?l ?c ?k; (case a => k_is); (case l => k_is); (case c => k_is); (case k => k_is))
    case t10 => (refine' Fam.def_at ?a ?l ?c ?k; (case a => k_is); (case l => k_is); (case c => k_is); (case k => k_is))
    case t11 => (refine' Fam.def_at ?a ?l ?c ?k; (case a => k_is); (case l => k_is); (case c => k_is); (case k => k_is))
    case t12 => (refine' Fam.def_at ?a ?l ?c ?k; (case a => k_is); (case l => k_is); (case c => k_is); (case k => k_is))
    case t13 => (refine' Fam.def_at ?a ?l ?c ?k; (case a => k_is); (case l => k_is); (case c => k_is); (case k => k_is))
    case t14 => (refine' Fam.def_at ?a ?l ?c ?k; (case a => k_is); (case l => k_is); (case c => k_is); (case k => k_is))
    case t15 => (refine' Fam.def_at ?a ?l ?c ?k; (case a => k_is); (case l => k_is); (case c => k_is); (case k => k_is))
    case t16 => (refine' Fam.def_at ?a ?l ?c ?k; (case a => k_is); (case l => k_is); (case c => k_is); (case k => k_is))
    case t17 => (refine' Fam.def_at ?a ?l ?c ?k; (case a => k_is); (case l => k_is); (case c => k_is); (case k => k_is))
    case t18 => (refine' Fam.def_at ?a ?l ?c ?k; (case a => k_is); (case l => k_is); (case c => k_is); (case k => k_is))
    case u1 => (refine' Fam.def_at ?a ?l ?c ?k; (case a => k_is); (case l => k_is); (case c => k_is); (case k => k_is))
    case u2 => (refine' Fam.def_at ?a ?l ?c ?k; (case a => k_is); (case l => k_is); (case c => k_is); (case k => k_is))
    case u3 => (refine' Fam.def_at ?a ?l ?c ?k; (case a => k_is); (case l => k_is); (case c => k_is); (case k => k_is))
    case u4 => (refine' Fam.def_at ?a ?l ?c ?k; (case a => k_is); (case l => k_is); (case c => k_is); (case k => k_is))
    case p1 => (refine' Fam.def_at ?a ?l ?c ?k; (case a => k_is); (case l => k_is); (case c => k_is); (case k => k_is))
    case p2 => (refine' Fam.def_at ?a ?l ?c ?k; (case a => k_is); (case l => k_is); (case c => k_is); (case k => k_is))
    case p3 => (refine' Fam.def_at ?a ?l ?c ?k; (case a => k_is); (case l => k_is); (case c => k_is); (case k => k_is))
    case p4 => (refine' Fam.def_at ?a ?l ?c ?k; (case a => k_is); (case l => k_is); (case c => k_is); (case k => k_is))
    case p5 => (refine' Fam.def_at ?a ?l ?c ?k; (case a => k_is); (case l => k_is); (case c => k_is); (case k => k_is))
    case p6 => (refine' Fam.def_at ?a ?l ?c ?k; (case a => k_is); (case l => k_is); (case c => k_is); (case k => k_is))
    case p7 => (refine' Fam.def_at ?a ?l ?c ?k; (case a => k_is); (case l => k_is); (case c => k_is); (case k => k_is))
    case p8 => (refine' Fam.def_at ?a ?l ?c ?k; (case a => k_is); (case l => k_is); (case c => k_is); (case k => k_is))
    case p9 => (refine' Fam.def_at ?a ?l ?c ?k; (case a => k_is); (case l => k_is); (case c => k_is); (case k => k_is))
    case p10 => (refine' Fam.def_at ?a ?l ?c ?k; (case a => k_is); (case l => k_is); (case c => k_is); (case k => k_is))
    case p11 => (refine' Fam.def_at ?a ?l ?c ?k; (case a => k_is); (case l => k_is); (case c => k_is); (case k => k_is))
    case p12 => (refine' Fam.def_at ?a ?l ?c ?k; (case a => k_is); (case l => k_is); (case c => k_is); (case k => k_is))
    case p13 => (refine' Fam.def_at ?a ?l ?c ?k; (case a => k_is); (case l => k_is); (case c => k_is); (case k => k_is))
    case m1 => (refine' Fam.met_at ?a ?b ?l ?c ?k; (case a => k_is); (case b => k_is); (case l => k_is); (case c => k_is); (case k => k_is))
    case m2 => (refine' Fam.met_at ?a ?b ?l ?c ?k; (case a => k_is); (case b => k_is); (case l => k_is); (case c => k_is); (case k => k_is))
    case m3 => (refine' Fam.met_at ?a ?b ?l ?c ?k; (case a => k_is); (case b => k_is); (case l => k_is); (case c => k_is); (case k => k_is))
    case m4 => (refine' Fam.met_at ?a ?b ?l ?c ?k; (case a => k_is); (case b => k_is); (case l => k_is); (case c => k_is); (case k => k_is))
    case q1 => (refine' Fam.met_at ?a ?b ?l ?c ?k; (case a => k_is); (case b => k_is); (case l => k_is); (case c => k_is); (case k => k_is))
    case q2 => (refine' Fam.met_at ?a ?b ?l ?c ?k; (case a => k_is); (case b => k_is); (case l => k_is); (case c => k_is); (case k => k_is))
    case q3 => (refine' Fam.met_at ?a ?b ?l ?c ?k; (case a => k_is); (case b => k_is); (case l => k_is); (case c => k_is); (case k => k_is))
    case q4 => (refine' Fam.met_at ?a ?b ?l ?c ?k; (case a => k_is); (case b => k_is); (case l => k_is); (case c => k_is); (case k => k_is))
    case q5 => (refine' Fam.met_at ?a ?b ?l ?c ?k; (case a => k_is); (case b => k_is); (case l => k_is); (case c => k_is); (case k => k_is))
