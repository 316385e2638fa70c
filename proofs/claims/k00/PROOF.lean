import PyProof.Rows.All
import Wide.All
import OpenK.AllK
import Wide.FinOn
import HandS.ForMost
import HandS.Codes
import HandS.Conv
import HandS.IsInst
import HandS.ForExc
import HandS.WideBits
import HandS.ClsMeth
import HandS.ExcField
import HandS.ExcInit
import HandS.ExcIs
import HandS.Defaults
import HandS.List
import HandS.IterVal
import HandS.Words
import HandS.NamedTupSort
import HandS.SortInts
import HandS.SlotsOwn
import HandS.SetFor
import HandS.Strs
import HandS.TryMany
import HandS.Style
import HandS.ExcOwn
import HandS.Iter
import HandS.Zip0
import HandS.Exc
import HandS.Zip
import HandS.TupSets
import HandS.Sort
import HandS.DictComp
import HandS.TupLe
import HandS.TupAny
import HandS.Deep
import HandS.More
import HandS.MakeKwOnly
import PySem.Challenge.RW_lotsayings_k00_terms_and_webs
set_option Elab.async false
set_option linter.all false
set_option maxRecDepth 100000
set_option maxHeartbeats 4000000
/-! The law's own part of the row by places. -/
namespace Fam
open PySem
def top (i : Nat) : Stmt := PySem.Challenge.pw_lotsayings_k00_terms_and_webs.main.body.getD i (.Pass ⟨0, 0, 0, 0⟩)
abbrev sBadWeb_init : Stmt := L2.inClass (top 3) 0
abbrev sBadBench_init : Stmt := L2.inClass (top 4) 0
abbrev sBadNumber_init : Stmt := L2.inClass (top 5) 0
abbrev sBadTerm_init : Stmt := L2.inClass (top 6) 0
abbrev sIsInt : Stmt := top 9
abbrev sIsBetween : Stmt := top 10
abbrev sCheckNumber : Stmt := top 11
abbrev sPostfix : Stmt := top 13
abbrev sRebuilt : Stmt := top 14
abbrev sLeavesOf : Stmt := top 15
abbrev sWithLeaves : Stmt := top 16
abbrev sAreArrows : Stmt := top 19
abbrev sWeb_init : Stmt := L2.inClass (top 20) 0
abbrev sWeb_eq : Stmt := L2.inClass (top 20) 1
abbrev sWeb_len : Stmt := L2.inClass (top 20) 2
abbrev sWeb_iter : Stmt := L2.inClass (top 20) 3
abbrev sWeb_arrow : Stmt := L2.inClass (top 20) 4
abbrev sWeb_sent : Stmt := L2.inClass (top 20) 5
abbrev sWeb_renumbered : Stmt := L2.inClass (top 20) 6
abbrev sWeb_of_lot : Stmt := L2.inClass (top 20) 7
abbrev sLotOf : Stmt := top 21
abbrev sLotsOfRow : Stmt := top 22
abbrev sIsLeaf : Stmt := top 25
abbrev sIsJoined : Stmt := top 26
abbrev sCheckTerm : Stmt := top 27
abbrev sSizeOf : Stmt := top 28
abbrev sManyOf : Stmt := top 29
abbrev sIsNarrow : Stmt := top 30
abbrev sWebOf : Stmt := top 31
abbrev sLabelsOf : Stmt := top 32
abbrev sBuilt : Stmt := top 33
abbrev sArrowsBetween : Stmt := top 34
abbrev sTracksOf : Stmt := top 35
abbrev sColour : Stmt := top 36
abbrev sBare : Stmt := top 37
abbrev sPut : Stmt := top 38
abbrev sLeafAt : Stmt := top 39
abbrev sChanged : Stmt := top 40
abbrev sHung : Stmt := top 41
abbrev sIsAscending : Stmt := top 45
abbrev sAreLabels : Stmt := top 46
abbrev sAreStarts : Stmt := top 47
abbrev sArePairs : Stmt := top 48
abbrev sIsJoin : Stmt := top 49
abbrev sAreJoins : Stmt := top 50
abbrev sBench_init : Stmt := L2.inClass (top 51) 0
abbrev sBench_eq : Stmt := L2.inClass (top 51) 1
abbrev sBench_len : Stmt := L2.inClass (top 51) 2
abbrev sBench_trees : Stmt := L2.inClass (top 51) 3
abbrev sBench_boughs : Stmt := L2.inClass (top 51) 4
abbrev sBench_cotrees : Stmt := L2.inClass (top 51) 5
abbrev sBench_narrow_rows : Stmt := L2.inClass (top 51) 6
abbrev sDraws : Stmt := top 53
abbrev sTake : Stmt := top 54
abbrev sLawInt : Stmt := top 55
abbrev sLNamed : Stmt := top 56
abbrev sLPairs : Stmt := top 57
abbrev sLDrawnBench : Stmt := top 58
abbrev sLAnyBench : Stmt := top 59
abbrev sLBits : Stmt := top 60
abbrev sLLeaf : Stmt := top 61
abbrev sLTerm : Stmt := top 62
abbrev sLContext : Stmt := top 63
abbrev sLWalk : Stmt := top 64
abbrev sLPut : Stmt := top 65
abbrev sLColoured : Stmt := top 66
abbrev sLJoinWebs : Stmt := top 67
abbrev sLBuilt : Stmt := top 68
abbrev sLTrack : Stmt := top 69
abbrev sLLeaves : Stmt := top 70
abbrev sLWebOk : Stmt := top 71
abbrev sLPutOk : Stmt := top 72
abbrev sLLotRefused : Stmt := top 73
abbrev sLNumberRefused : Stmt := top 74
abbrev sLColourOk : Stmt := top 75
abbrev sLHungOk : Stmt := top 76
abbrev sLPaths : Stmt := top 77
abbrev sLReplaced : Stmt := top 78
abbrev sLBadPart : Stmt := top 79
abbrev sLTermRefused : Stmt := top 80
abbrev sLSpoilsOk : Stmt := top 81
abbrev sLPart : Stmt := top 82
abbrev sLaw : Stmt := top 83
end Fam

/-! The tape and the numbers of the families' laws. -/
namespace Fam
open PySem L2
open C8 (pss_cut tCut)

/-- built-in names that the top leaves as they are -/
structure Bare (mg : Str → Option Value) : Prop where
  len : mg "len" = none
  int : mg "int" = none
  range : mg "range" = none
  min : mg "min" = none
  bool : mg "bool" = none
  isi : mg "isinstance" = none
  tuple : mg "tuple" = none
  list : mg "list" = none
  abs : mg "abs" = none
  sorted : mg "sorted" = none

theorem ixN_at {n j : Nat} (h : j < n) : ixN n (j : Int) = some j := by
  unfold ixN
  rw [if_pos (Int.natCast_nonneg j), if_pos (by omega)]
  rfl
theorem small {n m : Nat} (h : n ≤ m) (hm : m ≤ 16777216 := by decide) : n ≤ sizeLine := by
  rw [sizeLine_eq]
  omega
theorem below {n m : Nat} (h : n ≤ m) (hm : m < 16777216 := by decide) : n < sizeLine := by
  rw [sizeLine_eq]
  omega
/-- a new address: all that stood stands -/
theorem same_new {H : Hp} {p : Addr} {o : HO} (h : H p = none) : Same H (upd H p o) := fun b x e => by
  rw [upd_ne (ne_of_none e h)]
  exact e

theorem fm {x b : Int} (h : 0 < b) (h2 : b ≤ 2147483648) : 0 ≤ x.fmod b ∧ x.fmod b < 2147483648 := ⟨Int.fmod_nonneg_of_pos _ h, Int.lt_of_lt_of_le (Int.fmod_lt_of_pos _ h) h2⟩

/-! ### the tape -/
/-- the tape at a: its cursor c and the numbers behind it -/
def TapeAt (H : Hp) (a : Addr) (c : Nat) (ts : List Int) : Prop := H a = some (.lst (V.int (c : Int) :: ts.map V.int))
/-- what one draw gives, and the cursor behind it -/
def drawn (c : Nat) (ts : List Int) (m : Int) : Int := if c < ts.length then (ts.getD c 0).fmod m else 0
def after (c : Nat) (ts : List Int) : Nat := if c < ts.length then c + 1 else c
theorem drawn_lt {c : Nat} {ts : List Int} {m : Int} (hm : 0 < m) : 0 ≤ drawn c ts m ∧ drawn c ts m < m := by
  unfold drawn
  split
  · exact ⟨Int.fmod_nonneg_of_pos _ hm, Int.fmod_lt_of_pos _ hm⟩
  · exact ⟨Int.le_refl _, hm⟩

def spTake : Sp := fun vs H Q _ => ∃ (a : Addr) (c : Nat) (ts : List Int) (m : Int), vs = [.ref a, .int m] ∧ TapeAt H a c ts ∧ m ≠ 0 ∧
  ∀ H' : Hp, (∀ b, b ≠ a → H' b = H b) → TapeAt H' a (after c ts) ts → Q (.int (drawn c ts m)) H'
/-- the numbers of a tape, laid from a script -/
def spDraws (K : PySem.W.Frag) : Sp := fun vs H Q _ => ∃ (a : Addr) (ns : List Int), vs = [.ref a] ∧ SqL K H a (ns.map V.int) ∧ ns.length ≤ 63 ∧
  ∀ (H' : Hp) (p : Addr) (ts : List Int), Same H H' → H p = none → TapeAt H' p 0 ts → Q (.ref p) H'

section
variable {P : Program} {w : World} {K : PySem.W.Frag} {mg : Str → Option Value} {base : Heap}
theorem scT : FnScope ["_law_tape", "_law_many", "_law_at"] ["_law_tape", "_law_many"] (defScope sTake) := ⟨rfl, rfl, rfl, by decide +kernel, rfl, by decide +kernel, by decide +kernel⟩
theorem ok_take {f : Addr} {fd : FuncData} (F : Fun K "_law_take" "_law_take" sTake f fd) (T : Bare mg) : FnOk P w K mg base CX0 1 f fd ["_law_tape", "_law_many"] spTake := by
  refine F.ok scT (fun vs H Q E h => ?_) (fun cdv A outer s H vs Q E hr h => ?_)
  · obtain ⟨a, c, ts, m, rfl, _⟩ := h
    rfl
  · obtain ⟨a, c, ts, m, rfl, hT, hm, k⟩ := h
    refine ⟨_, pss_cons (ps_set (i := 2) scT.nd rfl (Or.inl rfl) (pe_op op_add (pe_ix ix_list (pv 0) pe_int (fun _ _ => rfl)) pe_int))
      (pss_cons (ps_if (pt_cmpR op_ge (pv 2) (pe_callB call_len_seq (by rfl) T.len PySem.boot_len (pa_cons (pv 0) pa_nil)) (nomark _)) (pss_one (ps_ret pe_int)) pss_nil)
      (pss_cons (ps_asg (pv 2) (pg_sub (pv 0) pe_int set_list))
      (pss_one (ps_ret (pe_op op_modN (pe_callTy call_int1 (by rfl) T.int (by decide +kernel) (pa_cons (pe_ix ix_list (pv 0) (pv 2) (fun _ _ => rfl)) pa_nil)) (pv 1)))))), ?_⟩
    refine ⟨_, rfl, a, _, _, _, rfl, rfl, SqL.of hT, atI_nat (j := 0) rfl, _, _, rfl, rfl, ?_⟩
    refine ⟨_, rfl, _, rfl, a, _, rfl, .inl (SqL.of hT), _, _, rfl, rfl, _, rfl, ?_⟩
    have el : ((V.int (c : Int) :: ts.map V.int).length : Int) = (ts.length : Int) + 1 := by
      rw [List.length_cons, List.length_map]
      omega
    refine ite2 (fun z => ?_) (fun z => ?_)
    · have z' := of_decide_eq_true z
      have hc : ¬ c < ts.length := by omega
      have e1 : drawn c ts m = 0 := if_neg hc
      have e2 : after c ts = c := if_neg hc
      have q := k H (fun _ _ => rfl) (by rw [e2]; exact hT)
      rw [e1] at q
      exact q
    · have z' := fun q => z (decide_eq_true q)
      have hc : c < ts.length := by
        have z2 : ¬ (((V.int (c : Int) :: ts.map V.int).length : Int) ≤ (c : Int) + 1) := z'
        omega
      have e1 : drawn c ts m = (ts.getD c 0).fmod m := if_pos hc
      have e2 : after c ts = c + 1 := if_pos hc
      have hi : (V.int (c : Int) :: ts.map V.int)[c + 1]? = some (V.int (ts.getD c 0)) := by
        rw [List.getElem?_cons_succ, List.getElem?_map, List.getD_eq_getElem?_getD, List.getElem?_eq_getElem hc]
        rfl
      refine ⟨_, rfl, _, rfl, a, _, _, 0, rfl, rfl, hT, ixN_at (j := 0) (by rw [List.length_cons]; omega), ?_⟩
      have eu : (V.int (c : Int) :: ts.map V.int).set 0 (V.int ((c : Int) + 1)) = V.int (((c + 1 : Nat)) : Int) :: ts.map V.int := rfl
      have hi2 : ((V.int (c : Int) :: ts.map V.int).set 0 (V.int ((c : Int) + 1)))[c + 1]? = some (V.int (ts.getD c 0)) := hi
      refine ⟨_, rfl, _, rfl, a, _, _, V.int (ts.getD c 0), rfl, rfl, SqL.of upd_same, atI_nat (j := c + 1) hi2, .inl ⟨_, rfl, _, rfl, _, _, rfl, rfl, hm, ?_⟩⟩
      have q := k (upd H a (.lst (V.int ((c + 1 : Nat) : Int) :: ts.map V.int))) (fun b hb => upd_ne hb) (by rw [e2]; exact upd_same)
      rw [e1] at q
      exact q

theorem scD : FnScope ["_law_script", "_law_tape", "_law_place", "_law_cell", "_law_k", "_law_mixed"] ["_law_script"] (defScope sDraws) := ⟨rfl, rfl, rfl, by decide +kernel, rfl, by decide +kernel, by decide +kernel⟩
theorem ok_draws {f : Addr} {fd : FuncData} (F : Fun K "_law_draws" "_law_draws" sDraws f fd) (T : Bare mg) : FnOk P w K mg base CX0 1 f fd ["_law_script"] (spDraws K) := by
  refine F.ok scD (fun vs H Q E h => ?_) (fun cdv A outer s H vs Q E hr h => ?_)
  · obtain ⟨a, ns, rfl, _⟩ := h
    rfl
  · obtain ⟨a, ns, rfl, hS, hl, k⟩ := h
    refine ⟨_, pss_cons (ps_set (i := 1) scD.nd rfl (Or.inl rfl) (pe_lst (pa_cons pe_int pa_nil)))
      (pss_cons (ps_for PassesOwn.never rfl (pi_range1 rfl T.range (pa_cons (pe_callB (call_min2 rfl) (by rfl) T.min (by decide +kernel) (pa_cons (pe_callB call_len_seq (by rfl) T.len PySem.boot_len (pa_cons (pv 0) pa_nil)) (pa_cons pe_int pa_nil))) pa_nil))
          (pg_name (i := 2) scD.nd rfl (Or.inl rfl))
        (pss_cons (ps_set (i := 3) scD.nd rfl (Or.inl rfl) (pe_callTy call_int1 (by rfl) T.int (by decide +kernel) (pa_cons (pe_ix ix_list (pv 0) (pv 2) (fun _ _ => rfl)) pa_nil)))
        (pss_cut (ps_if (pt_cmpR op_lt (pv 3) pe_int (nomark _)) (pss_one (ps_set (i := 3) scD.nd rfl (Or.inl rfl) (pe_op op_sub pe_int (pv 3)))) pss_nil)
        (pss_one (ps_if (pt_cmpR op_ge (pv 3) (pe_op op_pow pe_int pe_int) (nomark _))
          (pss_one (ps_for PassesOwn.never rfl (pi_range1 rfl T.range (pa_cons pe_int pa_nil)) (pg_name (i := 4) scD.nd rfl (Or.inl rfl))
            (pss_one (ps_if (pt_cmpR op_gt (pv 3) pe_int (nomark _))
              (pss_cons (ps_expr (pe_bm PySem.F.plainAttrs_list PySem.F.slot_list_append PySem.F.type_list_append mt_append (pv 1) (pa_cons (pe_op op_modN (pe_callTy call_int1 (by rfl) T.int (by decide +kernel) (pa_cons (pv 3) pa_nil)) pe_int) pa_nil)))
              (pss_one (ps_set (i := 3) scD.nd rfl (Or.inl rfl) (pe_op op_fdivN (pv 3) pe_int)))) pss_nil))))
          (pss_cons (ps_set (i := 5) scD.nd rfl (Or.inl rfl) (pe_op op_modN (pe_callTy call_int1 (by rfl) T.int (by decide +kernel) (pa_cons (pe_op op_add (pe_op op_add (pe_op op_mul (pv 3) pe_int) (pe_op op_mul (pv 2) pe_int)) pe_int) pa_nil)) pe_int))
          (pss_one (ps_for PassesOwn.never rfl (pi_range1 rfl T.range (pa_cons pe_int pa_nil)) (pg_name (i := 4) scD.nd rfl (Or.inl rfl))
            (pss_cons (ps_set (i := 5) scD.nd rfl (Or.inl rfl) (pe_op op_modN (pe_callTy call_int1 (by rfl) T.int (by decide +kernel) (pa_cons (pe_op op_add (pe_op op_add (pe_op op_add (pe_op op_mul (pv 5) (pv 5)) (pe_op op_mul (pv 4) pe_int)) (pe_op op_mul (pv 2) pe_int)) pe_int) pa_nil)) pe_int))
            (pss_one (ps_expr (pe_bm PySem.F.plainAttrs_list PySem.F.slot_list_append PySem.F.type_list_append mt_append (pv 1) (pa_cons (pv 5) pa_nil)))))))))))))
      (pss_one (ps_ret (pv 1)))), ?_⟩
    refine ⟨small (m := 1) (Nat.le_refl _), fun p hp => ?_⟩
    have s1 : Same H (upd H p (.lst [V.int 0])) := same_new hp
    refine ⟨_, rfl, a, _, rfl, .inl (s1.seq hS), _, _, rfl, ?_⟩
    obtain ⟨j, hj⟩ : ∃ j : Nat, (if (63 : Int) < ((ns.map V.int).length : Int) then (63 : Int) else ((ns.map V.int).length : Int)) = (j : Int) ∧ j ≤ ns.length := by
      rw [List.length_map]
      by_cases q : (63 : Int) < (ns.length : Int)
      · exact ⟨63, by rw [if_pos q]; rfl, by omega⟩
      · exact ⟨ns.length, by rw [if_neg q], Nat.le_refl _⟩
    rw [hj.1]
    refine ⟨_, rfl, by omega, by omega, for_range (lo := 0) (n := j) (fun i σ H' => ∃ (ts : List Int) (y2 y3 y4 y5 : Option V), σ = [some (.ref a), some (.ref p), y2, y3, y4, y5] ∧ Same H H' ∧ TapeAt H' p 0 ts ∧ ts.length ≤ 48 * i)
      ⟨[], none, none, none, none, rfl, s1, upd_same, by simp⟩ ?_ ?_⟩
    · rintro i σ H1 hi ⟨ts, y2, y3, y4, y5, rfl, sm, hT, hlen⟩
      have hin : i < ns.length := by omega
      have gi : (ns.map V.int)[i]? = some (V.int ns[i]) := by
        rw [List.getElem?_map, List.getElem?_eq_getElem hin]
        rfl
      refine ⟨_, rfl, _, rfl, a, _, _, V.int ns[i], rfl, rfl, sm.seq hS, by rw [Int.zero_add]; exact atI_nat gi, .inl ⟨_, rfl, ?_⟩⟩
      refine ⟨fun σ' H' => H' = H1 ∧ ∃ c : Int, σ' = [some (.ref a), some (.ref p), some (.int (0 + (i : Int))), some (.int c), y4, y5], ⟨_, rfl, _, _, rfl, rfl, _, rfl, ite2 (fun _ => ⟨_, rfl, _, _, rfl, rfl, rfl, _, rfl⟩) fun _ => ⟨rfl, _, rfl⟩⟩, ?_⟩
      rintro _ _ ⟨rfl, c, rfl⟩
      -- the word of both loops within
      refine ⟨_, rfl, _, _, rfl, rfl, ⟨by decide, by decide, by decide⟩, _, _, rfl, rfl, _, rfl, ite2 (fun z => ?_) (fun z => ?_)⟩
      · refine ⟨_, rfl, by decide, by decide, for_range (lo := 0) (n := 48) (fun q σ' H' => ∃ (ts' : List Int) (c : Int) (y4 : Option V), σ' = [some (.ref a), some (.ref p), some (.int (0 + (i : Int))), some (.int c), y4, y5] ∧ Same H H' ∧ TapeAt H' p 0 ts' ∧ ts'.length ≤ 48 * i + q)
          ⟨ts, c, y4, rfl, sm, hT, hlen⟩ ?_ ?_⟩
        · rintro q σ H2 hq ⟨ts', c, y4, rfl, sm, hT, hlen⟩
          refine ⟨_, rfl, _, _, rfl, rfl, _, rfl, ite2 (fun z => ?_) (fun z => ⟨ts', c, _, rfl, sm, hT, by omega⟩)⟩
          refine ⟨_, rfl, .inl ⟨rfl, _, SqL.of hT⟩, _, rfl, .inl ⟨_, rfl, _, _, rfl, rfl, (by show (30 : Int) ≠ 0; decide), p, _, _, rfl, rfl, hT, ?_, ?_⟩⟩
          · rw [List.length_cons, List.length_map]
            exact below (m := 4000) (by omega)
          · refine ⟨_, rfl, _, _, rfl, rfl, ⟨by decide, by decide⟩, ts' ++ [c.fmod 30], _, _, rfl, fun b o e => ?_, ?_, ?_⟩
            · rw [upd_ne (ne_of_none e hp)]
              exact sm _ _ e
            · unfold TapeAt
              rw [upd_same, List.map_append]
              rfl
            · rw [List.length_append]
              show ts'.length + 1 ≤ _
              omega
        · rintro σ H2 ⟨ts', c, y4, rfl, sm, hT, hlen⟩
          exact ⟨ts', _, _, _, _, rfl, sm, hT, by omega⟩
      · refine ⟨_, rfl, _, _, rfl, rfl, .inr ⟨by decide, by decide⟩, _, rfl, _, _, rfl, rfl, .inr ⟨by decide, by decide⟩, _, _, rfl, rfl, _, _, rfl, rfl, .inl ⟨_, rfl, _, _, rfl, rfl, (by show (2147483629 : Int) ≠ 0; decide), ?_⟩⟩
        refine ⟨_, rfl, by decide, by decide, for_range (lo := 0) (n := 5) (fun q σ' H' => ∃ (ts' : List Int) (m : Int) (y4 : Option V), σ' = [some (.ref a), some (.ref p), some (.int (0 + (i : Int))), some (.int c), y4, some (.int m)] ∧ Same H H' ∧ TapeAt H' p 0 ts' ∧ ts'.length ≤ 48 * i + q ∧ 0 ≤ m ∧ m < 2147483648)
          ⟨ts, _, y4, rfl, sm, hT, by omega, fm (by decide) (by decide)⟩ ?_ ?_⟩
        · rintro q σ H2 hq ⟨ts', m, y4, rfl, sm, hT, hlen, hm0, hm1⟩
          refine ⟨_, rfl, _, rfl, _, _, rfl, rfl, .inl ⟨by omega, by omega⟩, _, rfl, _, _, rfl, rfl, .inr ⟨by decide, by decide⟩, _, _, rfl, rfl, _, rfl, _, _, rfl, rfl, .inr ⟨by decide, by decide⟩, _, _, rfl, rfl, _, _, rfl, rfl, .inl ⟨_, rfl, _, _, rfl, rfl, (by show (2147483587 : Int) ≠ 0; decide), ?_⟩⟩
          refine ⟨_, rfl, .inl ⟨rfl, _, SqL.of hT⟩, _, rfl, p, _, _, rfl, rfl, hT, ?_, ts' ++ [(m * m + (0 + (q : Int)) * 48611 + (0 + (i : Int)) * 31 + 11).fmod 2147483587], _, _, rfl, fun b o e => ?_, ?_, ?_, fm (by decide) (by decide)⟩
          · rw [List.length_cons, List.length_map]
            exact below (m := 4000) (by omega)
          · rw [upd_ne (ne_of_none e hp)]
            exact sm _ _ e
          · unfold TapeAt
            rw [upd_same, List.map_append]
            rfl
          · rw [List.length_append]
            show ts'.length + 1 ≤ _
            omega
        · rintro σ H2 ⟨ts', m, y4, rfl, sm, hT, hlen, _⟩
          exact ⟨ts', _, _, _, _, rfl, sm, hT, by omega⟩
    · rintro σ H1 ⟨ts, y2, y3, y4, y5, rfl, sm, hT, hlen⟩
      exact ⟨_, rfl, k H1 p ts sm hp hT⟩
end
end Fam

/-! for x in o, o an object of a class whose __iter__ returns iter(self.f), f a tuple. -/
namespace OwnX
open PySem PySem.Spec PyProof.Rows L2 ItX
abbrev tItObj (t : Addr) : Obj := { cls := .type "tuple_iterator", data := .fields #[.ref t, .int 0 0] }
/-- the iterator at it over the tuple at t, nothing taken yet -/
def ItT (t it : Addr) : HO := .ext fun h => h.get? it = some (tItObj t)
theorem itT_ok {P : Program} {w : World} {H : Hp} {h : Heap} {t it : Addr} (e : h.get? it = some (tItObj t)) : ObjOk P w H h it (ItT t it) := ⟨e, ⟨_, e⟩, fun h1 h2 q k => k _ q⟩
/-- iter(t): a new object, younger than the def's entry -/
def rIterT (K : PySem.W.Frag) (n : Nat) : List V → Hp → VK → Prop := fun xs H Q => ∃ (l : Addr) (zs : List V), xs = [.ref l] ∧ SqT K H l zs ∧ ∀ it, H it = Option.none → n ≤ it → Q (.ref it) (upd H it (ItT l it))
theorem call_iterT {X : Cx} : CallR X (.builtin "iter") (rIterT X.K X.s_0.heap.objs.size) := by
  intro pins s σ H xs us Q I r h
  obtain ⟨l, zs, rfl, hq, q⟩ := h
  obtain ⟨u, rfl, ru⟩ := vals1 r
  cases ru
  obtain ⟨its, rv, pl, hz⟩ := I.tuple hq
  refine Calls.call_function_entry (by decide +kernel) (by decide +kernel) PySem.W.kdk_entry_iter (PySem.W.kdk_args_iter _) (?_ : wpAny _ _ (Builtin.«iter» ⟨[.ref l], []⟩) _ _ _)
  unfold Builtin.«iter»
  refine wpAny_bind (m := someArgs "iter" 1 2 _) (wpAny_of_eq (a := [Value.ref l]) (by first | rfl | kernel_rfl!) ?_); show wpAny _ _ (pyIter (.ref l) >>= fun _ => _) _ _ _
  refine wpAny_bind (wpAny_pyIter_tuple (show s.heap.IsTuple l its.toArray from pl) (wpAny_pure ⟨_, rfl, ?_⟩))
  exact ⟨.ref s.heap.objs.size, _, I.laid (t' := s.toks) (fun b u e => Heap.get?_push_of_some _ e) (Nat.le_refl _) (itT_ok (Heap.get?_push_size _ rfl)), rfl, q _ (I.hok.fresh (Nat.le_refl _)) I.sz⟩

/-- a def whose promise speaks of the heap's size at the call -/
theorem fn_sized {CX : CXT} {P : Program} {w : World} {K : PySem.W.Frag} {mg : Str → Option Value} {base : Heap} {k : Nat} {x qual : Str} {st : Stmt} {f : Addr} {fd : FuncData} {N ps : List Str} {sp : Nat → Sp} (F : Fun K x qual st f fd) (S : FnScope N ps (defScope st)) (len : ∀ n vs H Q E, sp n vs H Q E → vs.length = ps.length)
    (body : ∀ (cdv : Value) (A : Around) (outer : List Env) (s : Shared) (H : Hp) (vs : List V) (Q : VK) (E : XK), Room k (A.deeper (envOfC qual (defScope st) s.heap.objs.size f cdv)) → sp s.heap.objs.size vs H Q E →
      ∃ t, PSs (cxOf CX P w K mg base N qual (defScope st) f cdv A outer s H E) (defBody st) t ∧ t { nx := fun _ H' => Q .non H', rt := Q } (start N vs) H)
    {A : Around} {outer : List Env} {s : Shared} {H : Hp} {args : Args} {us : List Value} {vs : List V} {Q : VK} {E : XK} (hr : Room (k + 1) A) (e0 : Env0 P w K mg base A outer s H) (hb : BindsTo s fd args (ps.zip us)) (r : Vals vs us) (hsp : sp s.heap.objs.size vs H Q E) :
    codeAny (model P w) A (.call (.ref f) args) (CR CX outer P w H s Q E) s := by
  obtain ⟨oc, od, kV, doc, pm, an, cdv, ct, osl, rfl, lk, hcd⟩ := F.ex
  have hl := len _ _ _ _ _ hsp
  have KX : K.In s.heap := e0.mod.kin.keeps (fun b o e => (e0.bs b o e).1)
  have lim : s.heap.NoLimit := e0.mod.nolimit.keeps (fun b o e => (e0.bs b o e).1)
  have kinds : ∀ y ∈ ps.zip us, (defScope st).names.lookup y.1 = some .local ∨ ((defScope st).names.lookup y.1 = some .cell ∧ ((cellsFrom (s.heap.objs.size + 1) (defScope st).names []).lookup y.1).isSome = true) := by
    rintro ⟨n, v⟩ hy
    rcases S.par n (List.of_mem_zip hy).1 with q | q
    · exact .inl q
    · exact .inr ⟨q, PySem.W.cellsFrom_some _ _ _ (.inl q)⟩
  refine codeAny_call_function hr.depth (KX _ _ lk) rfl S.co S.gen rfl (PySem.W.codeRec_of KX hcd) (hb _ _ _ _ (wpAny_newFunctionEnv_cells S.kind kinds fun env he s1 x => ?_))
  subst he; refine ⟨lim.keeps x.toInCall.keep, codeAny_func ?_⟩
  obtain ⟨t, ht, hq⟩ := body cdv A outer s H vs Q E (hr.deeper _) hsp
  refine wpAny_mono (ht.run [] s1 (start N vs) H _ (inv_start S hr.hd e0 hl r x) hq) (fun fl s' hs => ?_) (fun e s' hs => hs)
  cases fl with
  | ret u => exact (let ⟨v, _, H', J, rv, q⟩ := hs; ⟨v, H', J.os, J.bare, J.base, J.hok, rv, q⟩)
  | next => exact (let ⟨_, H', J, q⟩ := hs; ⟨V.non, H', J.os, J.bare, J.base, J.hok, rfl, q⟩)
  | brk => exact (let ⟨_, _, _, q⟩ := hs; q.elim)
  | cont => exact (let ⟨_, _, _, q⟩ := hs; q.elim)
end OwnX

/-! sorted of a list of tuples of ints, of any lengths, the first of them empty. -/
namespace TSort
open PySem PySem.W PySem.Calls PyProof.Rows Builtin

/-- v is a tuple of these numbers -/
def IsTI (h : Heap) (v : Value) (ns : List Int) : Prop :=
  ∃ (a : Addr) (dd : Option Addr) (items : Array Value) (n : Nat) (sl : Array (Option Value)), v = .ref a ∧ h.get? a = some { cls := .type "tuple", dict := dd, data := .seq items n, slots := sl } ∧ IntsAre items.toList ns
theorem IsTI.keeps {h h' : Heap} {v : Value} {ns : List Int} (x : IsTI h v ns) (k : ∀ b o, v = .ref b → h.get? b = some o → h'.get? b = some o) : IsTI h' v ns := by
  obtain ⟨a, dd, items, n, sl, e, g, i⟩ := x
  exact ⟨a, dd, items, n, sl, e, k _ _ e g, i⟩
theorem IsTI.type {M : Model} {h : Heap} {v : Value} {ns : List Int} (x : IsTI h v ns) : Looks M h (typeOf v) (.type "tuple") := by
  obtain ⟨a, dd, items, n, sl, rfl, g, i⟩ := x
  exact (Looks.ld g).andThen .now
section
variable {prog : Program} {w : World} {A : Around} {E : Value → Shared → Prop} {s : Shared}
theorem lt_ti {v u : Value} {ns ms : List Int} {Q : Bool → Shared → Prop} (hu : A.units < cLine) (hv : IsTI s.heap v ns) (hw : IsTI s.heap u ms) (h : Q (HT.lexLt ns ms) s) : wpAny (model prog w) A (keyLt' oneType' v u) Q E s := by
  obtain ⟨a, dd, items, n, sl, rfl, ga, ia⟩ := hv
  obtain ⟨b, dd2, items2, n2, sl2, rfl, gb, ib⟩ := hw
  rw [keyLt'_oneType, oneLt'_eq]
  simp only [if_true]
  refine wpAny_bind (wpAny_cRoomFor hu ?_)
  refine wpAny_bind (wpAny_callSpecialIfBound?_slot (T := "tuple") ⟨_, ga, rfl⟩ PySem.F.slot_tuple_lt (call_meets PySem.F.slot_tuple_lt ⟨_, ga, rfl⟩ PySem.F.entry_tuple_lt (PySem.F.args_tuple_lt_2 _ _) (HT.tuple_lt_ints a b items items2 n n2 dd dd2 sl sl2 ns ms ia ib) ⟨ga, gb, ?_⟩))
  exact wpAny_truthy_bool h
theorem ti_cmp {vs : List Value} {k : Value → List Int} (hu : A.units < cLine) (hv : ∀ v ∈ vs, IsTI s.heap v (k v)) : SrtO.Cmp prog w A s oneType' (fun p => p.1 ∈ vs) (SrtO.lt2 fun v u => HT.lexLt (k v) (k u)) := by
  intro p q hp hq
  exact lt_ti (Q := fun r s' => s' = s ∧ r = HT.lexLt (k p.1) (k q.1)) (E := fun _ _ => False) hu (hv p.1 hp) (hv q.1 hq) ⟨rfl, rfl⟩
theorem ti_firsts {M : Model} {k : Value → List Int} : ∀ (vs : List Value), (∀ v ∈ vs, IsTI s.heap v (k v)) → ∃ fs : List (Option Value), fs.length = vs.length ∧ (∀ v r, vs = v :: r → k v = [] → ∃ fr, fs = none :: fr) ∧
    ∀ (Q : List (Option Value) → Shared → Prop), Q fs s → wpAny M A (vs.mapM firstOfTuple') Q E s
  | [], _ => ⟨[], rfl, (fun v r e => by cases e), (fun Q h => by rw [List.mapM_nil]; exact wpAny_pure h)⟩
  | v :: vs, hv => by
    obtain ⟨fs, hl, _, hw⟩ := ti_firsts vs fun u hu => hv u (.tail _ hu)
    have hv0 := hv v (.head _)
    have ty := hv0.type (M := M)
    obtain ⟨a, dd, items, n, sl, rfl, ga, ia⟩ := hv0
    refine ⟨items[0]? :: fs, by rw [List.length_cons, List.length_cons, hl], fun u r e h0 => ?_, fun Q h => ?_⟩
    · cases e
      rw [h0] at ia
      have z : items.toList = [] := by
        cases hi : items.toList with
        | nil => rfl
        | cons x y => rw [hi] at ia; cases ia
      refine ⟨fs, ?_⟩
      have z2 : items = #[] := Array.toList_eq_nil_iff.mp z
      rw [z2]
      rfl
    · rw [List.mapM_cons]
      refine wpAny_bind ?_
      rw [kas_first_eq]
      refine wpAny_bind (ty.here ?_)
      rw [if_neg (by first | decide | simp)]
      refine wpAny_bind (listItems_at ga rfl (wpAny_pure ?_))
      exact wpAny_bind (hw (fun bs s' => wpAny M A (pure (items[0]? :: bs)) Q E s') (wpAny_pure h))
theorem ti_kind {M : Model} {v₁ v₂ : Value} {vs : List Value} {k : Value → List Int} {Q : SortKind → Shared → Prop} (hv : ∀ v ∈ v₁ :: v₂ :: vs, IsTI s.heap v (k v)) (h0 : k v₁ = []) (h : Q oneType' s) : wpAny M A (keyKind' (v₁ :: v₂ :: vs).toArray) Q E s := by
  obtain ⟨fs, hl, hf, hw⟩ := ti_firsts (M := M) (A := A) (E := E) (v₁ :: v₂ :: vs) hv
  obtain ⟨fr, rfl⟩ := hf _ _ rfl h0
  rw [keyKind'_eq, List.mapM_toArray, map_eq_pure_bind]
  refine wpAny_bind (wpAny_bind (hw _ (wpAny_pure ?_)))
  rw [if_neg (by simp), if_neg (by simp)]
  rw [oneTypeOnly'_eq, List.mapM_toArray, map_eq_pure_bind]
  refine wpAny_bind (wpAny_bind (wpAny_bind (kas_mapM (r := .type "tuple") _ (fun v hm Q' hq => ((hv v hm).type (M := M)).here hq) (wpAny_pure ?_))))
  have hall : ((List.map (fun _ => Value.type "tuple") (v₁ :: v₂ :: vs)).toArray.all fun x => x == Value.type "tuple") = true := by
    simp only [List.all_toArray, List.all_map, List.all_eq_true]
    intro _ _
    rfl
  have hx : (List.map (fun _ => Value.type "tuple") (v₁ :: v₂ :: vs)).toArray[0]? = some (Value.type "tuple") := by simp
  rw [hx]
  simp only [hall, if_true]
  exact wpAny_pure (wpAny_pure h)
theorem ti_sortable {a : Addr} {v₁ v₂ : Value} {vs : List Value} {k : Value → List Int} (hu : A.units < cLine) (hv : ∀ v ∈ v₁ :: v₂ :: vs, IsTI s.heap v (k v)) (h0 : k v₁ = []) (ha : ∀ v ∈ v₁ :: v₂ :: vs, v ≠ .ref a) :
    SrtO.SortableO prog w A s a (v₁ :: v₂ :: vs) fun v u => HT.lexLt (k v) (k u) := by
  intro h' keep
  have hv' : ∀ v ∈ v₁ :: v₂ :: vs, IsTI h' v (k v) := fun v hm => (hv v hm).keeps fun b o e g => keep b o (fun z => ha v hm (by rw [e, z])) g
  exact ⟨oneType', fun Q E hq => ti_kind (s := { s with heap := h' }) hv' h0 hq, ti_cmp (s := { s with heap := h' }) hu hv'⟩
end
end TSort
namespace L2
open PySem PySem.Spec PyProof.Rows
/-- sorted(xs), xs tuples of ints (k says which), the first of them empty: a new list, sorted -/
def rSortedTI (K : PySem.W.Frag) : List V → Hp → VK → Prop := fun vs H Q => ∃ (a : Addr) (t0 t1 : Addr) (ts : List Addr) (k : Addr → List Int), vs = [V.ref a] ∧ SqL K H a ((t0 :: t1 :: ts).map V.ref) ∧ (∀ t ∈ t0 :: t1 :: ts, H t = some (.tup ((k t).map V.int))) ∧ k t0 = [] ∧
  ∀ (ts' : List Addr) (p : Addr), ts'.Perm (t0 :: t1 :: ts) → ts'.Pairwise (fun p q => HT.lexLt (k q) (k p) = false) → H p = none → Q (.ref p) (upd H p (.lst (ts'.map V.ref)))
section
variable {X : Cx}
theorem cr_sortedTI (hu : X.A.units + 64 < cLine) : CallR X (.builtin "sorted") (rSortedTI X.K) := by
  intro pins s σ H vs us Q I r h
  obtain ⟨a, t0, t1, ts, k, rfl, hs, hx, h0, q⟩ := h
  obtain ⟨its, rv, hl, hz⟩ := I.list hs
  obtain ⟨u, rfl, ru⟩ := vals1 r
  obtain rfl : u = Value.ref a := ru
  have ei := nts_of rv
  have hzs : its.length ≤ sizeLine := by rw [← rv.length]; exact hz
  have hv : ∀ u ∈ its, TSort.IsTI s.heap u (k (adO u)) := fun u hm => by
    rw [ei] at hm
    obtain ⟨t, ht, rfl⟩ := List.mem_map.mp hm
    obtain ⟨_, its2, r2, o, ho, hc, n, hd⟩ := I.hok _ _ (hx t ht)
    obtain ⟨cls, dd, data, sl⟩ := o
    simp only at hc hd
    subst hc hd
    exact ⟨t, dd, its2.toArray, n, sl, rfl, ho, intsAre_of r2⟩
  have hm0 : ∀ t ∈ t0 :: t1 :: ts, TSort.IsTI s.heap (.ref t) (k t) := fun t ht => hv (.ref t) (by rw [ei]; exact List.mem_map.mpr ⟨t, ht, rfl⟩)
  subst ei
  refine SrtO.sorted_ord (NtL.swo_lexL fun u => k (adO u)) hl.isList hzs (fun h2 h₁ b hb kk => ?_) fun out h1 h2 => ?_
  · refine TSort.ti_sortable (s := { s with heap := h₁ }) (by show X.A.units + 1 + 1 < cLine; omega) (fun v hm => (hv v hm).keeps fun b o e g => (kk b o g).2) h0 (fun v hm z => ?_)
    obtain ⟨c, dd, items, n, sl, e, g, i⟩ := hv v hm
    rw [e] at z
    exact (kk _ _ g).1 (Value.ref.inj z)
  · have eo : out = (out.map adO).map Value.ref := ref_map fun u hm => by
      obtain ⟨t, _, e⟩ := List.mem_map.mp (h2.perm.mem_iff.mp hm)
      exact ⟨t, e.symm⟩
    have hp : (out.map adO).Perm (t0 :: t1 :: ts) := by
      have p1 := h2.perm.map adO
      rw [ad_map] at p1
      exact p1
    have hs2 : (out.map adO).Pairwise (fun p q => HT.lexLt (k q) (k p) = false) := List.pairwise_map.mpr (h1.imp fun {x y} z => z)
    have rvo : Vals ((out.map adO).map V.ref) out := by
      have z := of_nts (out.map adO)
      rw [← eo] at z
      exact z
    have hd : s.heap.objs.size ≤ s.heap.objs.size + 1 := Nat.le_succ _
    obtain ⟨n, hn⟩ := sortedAll_at s.heap ((t0 :: t1 :: ts).map Value.ref) out.toArray
    refine ⟨.ref _, upd H (s.heap.objs.size + 1) (.lst ((out.map adO).map V.ref)), I.laid (t' := s.toks) (fun b o e => sortedAll_old e) hd ⟨?_, out, n, rvo, hn⟩, rfl, q _ _ hp hs2 (I.hok.fresh hd)⟩
    rw [List.length_map, hp.length_eq]
    rw [List.length_map] at hz
    exact hz
end
end L2

/-! sorted of a list of tuples of ints: any lengths, any number, the empty one wherever it stands. -/
namespace TSort
open PySem PySem.W PySem.Calls PyProof.Rows Builtin
section
variable {prog : Program} {w : World} {A : Around} {E : Value → Shared → Prop} {s : Shared}
theorem katlex_ints {b : Bool} {Q : Bool → Shared → Prop} : ∀ {vs ws : List Value} {ns ms : List Int} (i : Nat) (fin : Bool), IntsAre vs ns → IntsAre ws ms → fin = decide (ns.length < ms.length) → Q (HT.lexLt ns ms) s → KatLex prog w A b fin Q (vs.zip ws) i s
  | _, _, _, _, i, fin, .nil, .nil, hf, hq => by
    rw [HT.lexLt_nil_nil] at hq
    rw [hf]
    exact kat_nil hq
  | _, _, _, _, i, fin, .nil, .cons y u hw, hf, hq => by
    rw [HT.lexLt_nil_cons] at hq
    rw [hf, decide_eq_true (by show 0 < _ + 1; omega)]
    exact kat_nil hq
  | _, _, _, _, i, fin, .cons x t hv, .nil, hf, hq => by
    rw [HT.lexLt_cons_nil] at hq
    rw [hf, decide_eq_false (by show ¬ _ + 1 < 0; omega)]
    exact kat_nil hq
  | _, _, _, _, i, fin, .cons x t hv, .cons y u hw, hf, hq => by
    rw [HT.lexLt_cons] at hq
    refine kat_cons (SeqAt.EqAt.int_int x t y u prog w _ _ ?_)
    refine kat_go (fun e1 => ?_) (fun e1 => ?_)
    · have ex : x = y := by simpa using e1
      rw [if_pos ex] at hq
      refine kat_yes (katlex_ints (i + 1) fin hv hw ?_ hq)
      rw [hf, decide_eq_decide]
      show _ + 1 < _ + 1 ↔ _
      omega
    · have ex : ¬ x = y := by simpa using e1
      rw [if_neg ex] at hq
      refine kat_no ?_
      cases (b && i == 0) with
      | true => exact oneLt_int hq
      | false => exact kat_one _ _ (PyProof.Rows.lt_int hq)
/-- all of them hold a number -/
theorem cmp_full {vs : List Value} {k : Value → List Int} (hv : ∀ v ∈ vs, IsTI s.heap v (k v)) : SrtO.Cmp prog w A s (tuples' true) (fun p => p.1 ∈ vs) (SrtO.lt2 fun v u => HT.lexLt (k v) (k u)) := by
  intro p q hp hq
  show wpAny (model prog w) A (keyLt' (tuples' true) p.1 q.1) (fun r s' => s' = s ∧ r = HT.lexLt (k p.1) (k q.1)) (fun _ _ => False) s
  obtain ⟨a, dd, items, n, sl, e, ga, ia⟩ := hv _ hp
  obtain ⟨a2, dd2, items2, n2, sl2, e2, ga2, ia2⟩ := hv _ hq
  generalize k p.1 = ns at ia ⊢
  generalize k q.1 = ms at ia2 ⊢
  rw [e, e2]
  refine kat_lt ga rfl ga2 rfl (katlex_ints 0 _ ia ia2 ?_ ⟨rfl, rfl⟩)
  have z1 : items.size = ns.length := by rw [← ia.length]; simp
  have z2 : items2.size = ms.length := by rw [← ia2.length]; simp
  rw [z1, z2]
theorem tups_of {h : Heap} {k : Value → List Int} : ∀ (vs : List Value), (∀ v ∈ vs, IsTI h v (k v)) → (∀ v ∈ vs, k v ≠ []) → ∃ fs : List Value, KatTups h vs fs ∧ fs.length = vs.length ∧ ∀ f ∈ fs, ∃ x t, f = .int x t
  | [], _, _ => ⟨[], .nil, rfl, (fun f hf => by cases hf)⟩
  | v :: vs, hv, hn => by
    obtain ⟨fs, h1, h2, h3⟩ := tups_of vs (fun u hu => hv u (.tail _ hu)) (fun u hu => hn u (.tail _ hu))
    obtain ⟨a, dd, items, n, sl, rfl, ga, ia⟩ := hv v (.head _)
    have ne := hn _ (.head _)
    generalize k (.ref a) = ns at ia ne
    cases hi : items.toList with
    | nil =>
      rw [hi] at ia
      cases ia
      exact absurd rfl ne
    | cons f r =>
      rw [hi] at ia
      have hf : items[0]? = some f := by rw [← Array.getElem?_toList, hi]; rfl
      cases ia with
      | cons x t ir => exact ⟨.int x t :: fs, .cons ga rfl rfl hf h1, by rw [List.length_cons, List.length_cons, h2], fun g hg => (List.mem_cons.mp hg).elim (fun e => ⟨x, t, e⟩) (h3 g)⟩
/-- general kind: each two by < -/
theorem cmp_gen {vs : List Value} {k : Value → List Int} (hu : A.units < cLine) (hv : ∀ v ∈ vs, IsTI s.heap v (k v)) : SrtO.Cmp prog w A s general' (fun p => p.1 ∈ vs) (SrtO.lt2 fun v u => HT.lexLt (k v) (k u)) := by
  intro p q hp hq
  show wpAny (model prog w) A (oneLt' false p.1 q.1) (fun r s' => s' = s ∧ r = HT.lexLt (k p.1) (k q.1)) (fun _ _ => False) s
  obtain ⟨a, dd, items, n, sl, e, ga, ia⟩ := hv _ hp
  obtain ⟨a2, dd2, items2, n2, sl2, e2, ga2, ia2⟩ := hv _ hq
  generalize k p.1 = ns at ia ⊢
  generalize k q.1 = ms at ia2 ⊢
  rw [e, e2]
  exact kat_one _ _ (HT.lt_tupInts ⟨_, ga, rfl, n, rfl⟩ ⟨_, ga2, rfl, n2, rfl⟩ ia ia2 hu ⟨rfl, rfl⟩)
/-- the firsts of all: there where the tuple is not empty -/
theorem firsts_all {M : Model} {k : Value → List Int} : ∀ (vs : List Value), (∀ v ∈ vs, IsTI s.heap v (k v)) → ∃ fs : List (Option Value), fs.map Option.isSome = vs.map (fun v => !(k v).isEmpty) ∧ ∀ (Q : List (Option Value) → Shared → Prop), Q fs s → wpAny M A (vs.mapM firstOfTuple') Q E s
  | [], _ => ⟨[], rfl, (fun Q h => by rw [List.mapM_nil]; exact wpAny_pure h)⟩
  | v :: vs, hv => by
    obtain ⟨fs, hm, hw⟩ := firsts_all vs fun u hu => hv u (.tail _ hu)
    have hv0 := hv v (.head _)
    have ty := hv0.type (M := M)
    obtain ⟨a, dd, items, n, sl, rfl, ga, ia⟩ := hv0
    refine ⟨items[0]? :: fs, ?_, fun Q h => ?_⟩
    · rw [List.map_cons, List.map_cons, hm]
      congr 1
      generalize k (.ref a) = ns at ia
      rw [← Array.getElem?_toList]
      cases hi : items.toList with
      | nil =>
        rw [hi] at ia
        cases ia
        rfl
      | cons f r =>
        rw [hi] at ia
        cases ia
        rfl
    · rw [List.mapM_cons]
      refine wpAny_bind ?_
      rw [kas_first_eq]
      refine wpAny_bind (ty.here ?_)
      rw [if_neg (by first | decide | simp)]
      refine wpAny_bind (listItems_at ga rfl (wpAny_pure ?_))
      exact wpAny_bind (hw (fun bs s' => wpAny M A (pure (items[0]? :: bs)) Q E s') (wpAny_pure h))
theorem gen_kind {M : Model} {v₁ v₂ : Value} {vs : List Value} {k : Value → List Int} {Q : SortKind → Shared → Prop} (hv : ∀ v ∈ v₁ :: v₂ :: vs, IsTI s.heap v (k v)) (h1 : k v₁ ≠ []) (h2 : ∃ v ∈ v₁ :: v₂ :: vs, k v = []) (h : Q general' s) :
    wpAny M A (keyKind' (v₁ :: v₂ :: vs).toArray) Q E s := by
  obtain ⟨fs, hm, hw⟩ := firsts_all (M := M) (A := A) (E := E) (v₁ :: v₂ :: vs) hv
  rw [keyKind'_eq, List.mapM_toArray, map_eq_pure_bind]
  refine wpAny_bind (wpAny_bind (hw _ (wpAny_pure ?_)))
  obtain ⟨f, fr, rfl⟩ : ∃ f fr, fs = f :: fr := by
    cases fs with
    | nil => cases hm
    | cons f fr => exact ⟨f, fr, rfl⟩
  have e1 : f.isSome = true := by
    have q := (List.cons.inj hm).1
    rw [q]
    cases hk : k v₁ with
    | nil => exact absurd hk h1
    | cons x y =>
      show (!(k v₁).isEmpty) = true
      rw [hk]
      rfl
  have e2 : ((f :: fr).toArray.all fun x => x.isSome) = false := by
    rw [List.all_toArray]
    obtain ⟨v, hvm, hk⟩ := h2
    have hmem : false ∈ (f :: fr).map Option.isSome := by
      rw [hm]
      exact List.mem_map.mpr ⟨v, hvm, by rw [hk]; rfl⟩
    obtain ⟨g, hg, eg⟩ := List.mem_map.mp hmem
    exact List.all_eq_false.mpr ⟨g, hg, by rw [eg]; decide⟩
  rw [if_neg (by rw [e2]; decide)]
  have e3 : (((f :: fr).toArray[0]?).bind id).isSome = true := by
    show f.isSome = true
    exact e1
  rw [if_pos e3]
  exact wpAny_pure h
/-- sortable, however the empty ones stand -/
theorem any_sortable {a : Addr} {v₁ v₂ : Value} {vs : List Value} {k : Value → List Int} (hu : A.units < cLine) (hv : ∀ v ∈ v₁ :: v₂ :: vs, IsTI s.heap v (k v)) (ha : ∀ v ∈ v₁ :: v₂ :: vs, v ≠ .ref a) :
    SrtO.SortableO prog w A s a (v₁ :: v₂ :: vs) fun v u => HT.lexLt (k v) (k u) := by
  by_cases h0 : k v₁ = []
  · exact ti_sortable hu hv h0 ha
  · intro h' keep
    have hv' : ∀ v ∈ v₁ :: v₂ :: vs, IsTI h' v (k v) := fun v hm => (hv v hm).keeps fun b o e g => keep b o (fun z => ha v hm (by rw [e, z])) g
    by_cases hn : ∃ v ∈ v₁ :: v₂ :: vs, k v = []
    · exact ⟨general', fun Q E hq => gen_kind (s := { s with heap := h' }) hv' h0 hn hq, cmp_gen (s := { s with heap := h' }) hu hv'⟩
    · obtain ⟨fs, f1, f2, f3⟩ := tups_of (h := h') _ hv' (fun v hm e => hn ⟨v, hm, e⟩)
      refine ⟨tuples' true, fun Q E hq => ?_, cmp_full (s := { s with heap := h' }) hv'⟩
      refine kat_kind (s := { s with heap := h' }) (T := .type "int") f1 (by rw [f2]; exact Nat.succ_pos _) (fun f hm => ?_) (by rfl) ?_
      · obtain ⟨x, t, rfl⟩ := f3 f hm
        exact PySem.W.Looks.now
      · have e : (Value.type "int" != Value.type "tuple") = true := by decide +kernel
        rw [e]
        exact hq
end
end TSort
namespace L2
open PySem PySem.Spec PyProof.Rows
/-- sorted(xs), xs tuples of ints (k says which), of any lengths and any number: a new list, sorted -/
def rSortedTA (K : PySem.W.Frag) : List V → Hp → VK → Prop := fun vs H Q => ∃ (a : Addr) (ts : List Addr) (k : Addr → List Int), vs = [V.ref a] ∧ SqL K H a (ts.map V.ref) ∧ (∀ t ∈ ts, H t = some (.tup ((k t).map V.int))) ∧
  ∀ (ts' : List Addr) (p : Addr), ts'.Perm ts → ts'.Pairwise (fun p q => HT.lexLt (k q) (k p) = false) → H p = none → Q (.ref p) (upd H p (.lst (ts'.map V.ref)))
section
variable {X : Cx}
theorem cr_sortedTA (hu : X.A.units + 64 < cLine) : CallR X (.builtin "sorted") (rSortedTA X.K) := by
  intro pins s σ H vs us Q I r h
  obtain ⟨a, ts, k, rfl, hs, hx, q⟩ := h
  obtain ⟨its, rv, hl, hz⟩ := I.list hs
  obtain ⟨u, rfl, ru⟩ := vals1 r
  obtain rfl : u = Value.ref a := ru
  have ei := nts_of rv
  have hzs : its.length ≤ sizeLine := by rw [← rv.length]; exact hz
  have hv : ∀ u ∈ its, TSort.IsTI s.heap u (k (adO u)) := fun u hm => by
    rw [ei] at hm
    obtain ⟨t, ht, rfl⟩ := List.mem_map.mp hm
    obtain ⟨_, its2, r2, o, ho, hc, n, hd⟩ := I.hok _ _ (hx t ht)
    obtain ⟨cls, dd, data, sl⟩ := o
    simp only at hc hd
    subst hc hd
    exact ⟨t, dd, its2.toArray, n, sl, rfl, ho, intsAre_of r2⟩
  subst ei
  refine SrtO.sorted_ord (NtL.swo_lexL fun u => k (adO u)) hl.isList hzs (fun h2 h₁ b hb kk => ?_) fun out h1 h2 => ?_
  · obtain ⟨v₁, v₂, rest, ev⟩ : ∃ v₁ v₂ rest, ts.map Value.ref = v₁ :: v₂ :: rest := by
      match ts.map Value.ref, h2 with
      | [], h2 => exact absurd h2 (by decide)
      | [_], h2 => exact absurd h2 (by show ¬ 2 ≤ 1; decide)
      | v₁ :: v₂ :: rest, _ => exact ⟨v₁, v₂, rest, rfl⟩
    rw [ev] at hv ⊢
    refine TSort.any_sortable (s := { s with heap := h₁ }) (by show X.A.units + 1 + 1 < cLine; omega) (fun v hm => (hv v hm).keeps fun b o e g => (kk b o g).2) (fun v hm z => ?_)
    obtain ⟨c, dd, items, n, sl, e, g, i⟩ := hv v hm
    rw [e] at z
    exact (kk _ _ g).1 (Value.ref.inj z)
  · have eo : out = (out.map adO).map Value.ref := ref_map fun u hm => by
      obtain ⟨t, _, e⟩ := List.mem_map.mp (h2.perm.mem_iff.mp hm)
      exact ⟨t, e.symm⟩
    have hp : (out.map adO).Perm ts := by
      have p1 := h2.perm.map adO
      rw [ad_map] at p1
      exact p1
    have hs2 : (out.map adO).Pairwise (fun p q => HT.lexLt (k q) (k p) = false) := List.pairwise_map.mpr (h1.imp fun {x y} z => z)
    have rvo : Vals ((out.map adO).map V.ref) out := by
      have z := of_nts (out.map adO)
      rw [← eo] at z
      exact z
    have hd : s.heap.objs.size ≤ s.heap.objs.size + 1 := Nat.le_succ _
    obtain ⟨n, hn⟩ := sortedAll_at s.heap (ts.map Value.ref) out.toArray
    refine ⟨.ref _, upd H (s.heap.objs.size + 1) (.lst ((out.map adO).map V.ref)), I.laid (t' := s.toks) (fun b o e => sortedAll_old e) hd ⟨?_, out, n, rvo, hn⟩, rfl, q _ _ hp hs2 (I.hok.fresh hd)⟩
    rw [List.length_map, hp.length_eq]
    rw [List.length_map] at hz
    exact hz
end
end L2

/-! sorted(t) of a tuple of ints, any number of them. -/
namespace SrtTup
open PySem PyProof.Rows Srt SrtO
section
variable {prog : Program} {w : World} {A : Around} {E : Value → Shared → Prop} {s : Shared}
theorem collect_tup {l : Addr} {vs : List Value} {Q : List Value → Shared → Prop} (hl : s.heap.IsTuple l vs.toArray)
    (h : Q vs { s with heap := (s.heap.push (seqObj "list" #[] 0)).update s.heap.objs.size (Obj.mapSeq (· ++ vs.toArray)) }) (hsz : vs.length ≤ sizeLine) :
    wpAny (model prog w) A (collect (.ref l)) Q E s := by
  obtain ⟨o, ho, hc, n, hd⟩ := id hl
  unfold collect
  refine wpAny_bind (wpAny_runValue (codeAny_builtin entry_proto_collect' ?_))
  show wpAny _ _ (do again (.builtin "list.__iadd__" ⟨[← newList [], .ref l], []⟩)) _ _ s
  refine wpAny_bind (wpAny_newList (wpAny_pure ⟨Code.quiet_builtin _ (by decide +kernel), codeAny_builtin entry_list_iadd' ?_⟩))
  show wpAny _ _ (Builtin.List.listExtendWith (.ref s.heap.objs.size) (.ref l) (.ref s.heap.objs.size)) _ _ { s with heap := s.heap.push (seqObj "list" #[] 0) }
  unfold Builtin.List.listExtendWith
  have ho' : (s.heap.push (seqObj "list" #[] 0)).get? l = some o := Heap.get?_push_of_some _ ho
  refine wpAny_bind (wpAny_typeOf (T := "tuple") ⟨o, ho', hc⟩ ?_)
  have ht : (Value.type "tuple" == Value.type "tuple") = true := by rfl
  rw [if_pos (by rw [ht]; simp)]
  refine wpAny_bind (listItems_at ho' hd ?_)
  refine wpAny_bind (listItems_at (xs := #[]) (n := 0) (Heap.get?_push_size _ rfl) rfl ?_)
  rw [if_neg (by simp)]
  refine wpAny_bind (listUpdate_at (xs := #[]) (n := 0) (Heap.get?_push_size _ rfl) rfl ?_ (Nat.zero_le _) (by show (#[] ++ vs.toArray).size ≤ sizeLine + 1; simp only [Array.size_append, List.size_toArray, List.length_nil]; omega))
  refine wpAny_pure ?_
  show wpAny (model prog w) A (do
      let o ← load s.heap.objs.size
      match o.data with
      | .seq xs _ => pure xs.toList
      | _ => unsupported "internal:collect") Q E { s with heap := (s.heap.push (seqObj "list" #[] 0)).update s.heap.objs.size (Obj.mapSeq (· ++ vs.toArray)) }
  refine wpAny_bind (wpAny_load (get?_update_seq (Heap.get?_push_size _ rfl) _) ?_)
  show wpAny _ _ (pure ((#[] : Array Value) ++ vs.toArray).toList) Q E _
  rw [show ((#[] : Array Value) ++ vs.toArray).toList = vs by simp]
  exact wpAny_pure h
theorem sorted_ordT {l : Addr} {vs : List Value} {ltv : Value → Value → Bool} {Q : Value → Shared → Prop} (O : Swo ltv) (hl : s.heap.IsTuple l vs.toArray) (hz : vs.length ≤ sizeLine)
    (hS : 2 ≤ vs.length → ∀ (h₁ : Heap) (a : Addr), h₁.get? a = some (seqObj "list" vs.toArray 0) → (∀ b o, s.heap.get? b = some o → b ≠ a ∧ h₁.get? b = some o) → SortableO prog w A.in1.in1 { s with heap := h₁ } a vs ltv)
    (h : ∀ out : List Value, Srtd ltv out → Stb ltv out vs → Q (.ref (s.heap.objs.size + 1)) { s with heap := sortedAll s.heap vs out.toArray }) :
    wpAny (model prog w) A (call (.builtin "sorted") [.ref l]) Q E s := by
  refine Calls.call_function_entry kind_sorted plain_sorted entry_sorted (args_sorted1 _) ?_
  unfold Builtin.«sorted»
  refine wpAny_bind (m := checkCount "sorted" 1 1 _) (wpAny_pure ?_)
  refine wpAny_bind (collect_tup hl ?_ hz)
  refine wpAny_bind (wpAny_newList ?_ hz)
  have hsz : ((s.heap.push (seqObj "list" #[] 0)).update s.heap.objs.size (Obj.mapSeq (· ++ vs.toArray))).objs.size = s.heap.objs.size + 1 := by
    rw [Heap.size_update, size_push']
  have hoL : (((s.heap.push (seqObj "list" #[] 0)).update s.heap.objs.size (Obj.mapSeq (· ++ vs.toArray))).push (seqObj "list" vs.toArray 0)).get? (s.heap.objs.size + 1) = some (seqObj "list" vs.toArray 0) := by
    rw [← hsz]; exact Heap.get?_push_size _ rfl
  have keep : ∀ b o, s.heap.get? b = some o → b ≠ s.heap.objs.size + 1 ∧ (((s.heap.push (seqObj "list" #[] 0)).update s.heap.objs.size (Obj.mapSeq (· ++ vs.toArray))).push (seqObj "list" vs.toArray 0)).get? b = some o := fun b o q => by
    have hlt : b < s.heap.objs.size := Heap.lt_size q
    refine ⟨Nat.ne_of_lt (Nat.lt_succ_of_lt hlt), Heap.get?_push_of_some _ ?_⟩
    rw [Heap.get?_update_ne _ _ _ _ (Nat.ne_of_lt hlt)]
    exact Heap.get?_push_of_some _ q
  show wpAny _ _ _ _ _ { s with heap := ((s.heap.push (seqObj "list" #[] 0)).update s.heap.objs.size (Obj.mapSeq (· ++ vs.toArray))).push (seqObj "list" vs.toArray 0) }
  rw [hsz]
  refine wpAny_bind (wpAny_holding (wpAny_call_entry slot_list_sort ⟨_, hoL, rfl⟩ entry_list_sort (list_sort_ord O hoL hz (fun h2 => hS h2 _ _ hoL keep) fun out hs hb => ⟨_, rfl, ?_⟩) (args_list_sort _)))
  exact wpAny_pure ⟨_, rfl, h out hs hb⟩
end
end SrtTup
namespace L2
open PySem PySem.Spec PyProof.Rows
/-- sorted(t), t a tuple of ints, any number of them -/
def rSortedIT (K : PySem.W.Frag) : List V → Hp → VK → Prop := fun vs H Q => ∃ (a : Addr) (ns : List Int), vs = [V.ref a] ∧ SqT K H a (ns.map V.int) ∧
  ∀ (ns' : List Int) (p : Addr), ns'.Perm ns → ns'.Pairwise (· ≤ ·) → H p = none → Q (.ref p) (upd H p (.lst (ns'.map V.int)))
theorem cr_sortedIT {X : Cx} : CallR X (.builtin "sorted") (rSortedIT X.K) := by
  intro pins s σ H vs us Q I r h
  obtain ⟨a, ns, rfl, hs, q⟩ := h
  obtain ⟨its, rv, hl, hz⟩ := I.tuple hs
  rw [Vals.ref1 r]
  have hi := rv.ints
  refine SrtTup.sorted_ordT SrtO.swo_int hl (by rw [← rv.length]; exact hz) (fun h2 h₁ a' _ _ => SrtO.ints_sortable hi h2) fun out h1 h2 => ?_
  obtain ⟨k1, k2, k3⟩ := SrtO.ints_out hi h1 h2
  obtain ⟨ep, he'⟩ := PyProof.Rows.sortedAll_at s.heap its out.toArray
  have hlen : ((out.map SrtO.iv).map V.int).length ≤ sizeLine := by
    rw [List.length_map, k2.length_eq]
    rw [List.length_map] at hz
    exact hz
  exact ⟨.ref _, upd H (s.heap.objs.size + 1) (.lst ((out.map SrtO.iv).map V.int)), I.laid (t' := s.toks) (fun _ _ => PyProof.Rows.sortedAll_old) (Nat.le_succ _) ⟨hlen, out, ep, vals_of_ints k1, he'⟩, rfl, q _ _ k2 k3 (I.hok.fresh (Nat.le_succ _))⟩
end L2

/-! x & y, x == y, len(x), where x is an instance whose class has a def for it. -/
namespace L2
open PySem PySem.Spec PyProof.Rows
section
variable {X : Cx} {CX : CXT} {k : Nat} {g C : Addr} {gd : FuncData} {ps : List Str} {sp : Sp} {E : XK}
/-- two instances of one class -/
def rBinO (C : Addr) (sp : Sp) (E : XK) : R2 := fun x y H Q => ∃ a dx fs b dy gs, x = V.ref a ∧ y = V.ref b ∧ H a = some (.ins C dx fs) ∧ H b = some (.ins C dy gs) ∧ sp [x, y] H Q E
theorem op_binO {op : Operator} (first : PySem.W.selfFirst X.K C = true) (at_ : PySem.W.findIn X.K (.ref C) (PySem.dunder op.info.2) = some (some (.ref g))) (fn : PySem.W.isFn X.K (.ref g) = true)
    (F : FnOk X.prog X.w X.K X.mg X.base CX k g gd ps sp) (room : Room k X.A) (bi : Binds X.K gd ps []) (pass : Passes CX X E) : OpR X (binaryOp op) (rBinO C sp E) := by
  intro pins s σ H x y v u Q inv rx ry h
  obtain ⟨a, dx, fs, b, dy, gs, rfl, rfl, ha, hb, q⟩ := h
  have ev : v = Value.ref a := rx
  have eu : u = Value.ref b := ry
  subst ev eu
  obtain ⟨mA, O, _⟩ := ins_get inv.hok ha
  obtain ⟨mB, O2, _⟩ := ins_get inv.hok hb
  obtain ⟨od, J, _⟩ := O.look
  obtain ⟨od2, J2, _⟩ := O2.look
  obtain ⟨m, fr⟩ := inv.fr
  refine PySem.W.binop_K fr inv.ok.mod.kin J J2.type first at_ fn (wpAny_mono (run_fn (us := [.ref a, .ref b]) (vs := [.ref a, .ref b]) F room bi .nil pass inv (.cons rfl (.cons rfl .nil)) q) (fun r t z => ?_) fun _ _ z => z)
  obtain ⟨z', H', I', rz, qz⟩ := z
  exact SlX.cmpback rz ⟨z', H', I', rz, qz⟩
/-- x == y, y any value whose class is told -/
def rEqO (K : PySem.W.Frag) (C : Addr) (sp : Sp) (E : XK) : R2 := fun x y H Q => ∃ a dx fs t, x = V.ref a ∧ H a = some (.ins C dx fs) ∧ TyX K H y t ∧ PySem.W.notFirst K C t = true ∧ sp [x, y] H Q E
theorem op_eqO (at_ : PySem.W.findIn X.K (.ref C) "__eq__" = some (some (.ref g))) (fn : PySem.W.isFn X.K (.ref g) = true) (F : FnOk X.prog X.w X.K X.mg X.base CX k g gd ps sp) (room : Room k X.A) (bi : Binds X.K gd ps []) (pass : Passes CX X E) : OpR X (compareOp .Eq) (rEqO X.K C sp E) := by
  intro pins s σ H x y v u Q inv rx ry h
  obtain ⟨a, dx, fs, t, rfl, ha, ty, nf, q⟩ := h
  have ev : v = Value.ref a := rx
  subst ev
  obtain ⟨mA, O, _⟩ := ins_get inv.hok ha
  obtain ⟨od, J, _⟩ := O.look
  obtain ⟨m, fr⟩ := inv.fr
  obtain ⟨PP, Z, zp, _⟩ := kit_of inv ry ty
  show wpAny (model X.prog X.w) X.A (richCompare .Eq (.ref a) u) _ _ _
  refine PySem.W.cmp_K (op := .Eq) (tb := t) room.units0 fr inv.ok.mod.kin J (Z.ty _ _ inv.kIn zp) nf at_ fn (wpAny_mono (run_fn (us := [.ref a, u]) (vs := [.ref a, y]) F room bi .nil pass inv (.cons rfl (.cons ry .nil)) q) (fun r t z => ?_) fun _ _ z => z)
  obtain ⟨z', H', I', rz, qz⟩ := z
  exact SlX.cmpback rz ⟨z', H', I', rz, qz⟩
/-- len(x) -/
def rLenO (C : Addr) (sp : Sp) (E : XK) : List V → Hp → VK → Prop := fun vs H Q => ∃ a dx fs, vs = [V.ref a] ∧ H a = some (.ins C dx fs) ∧ sp [.ref a] H (fun v H' => ∃ n : Nat, v = .int (n : Int) ∧ (n : Int) < 2 ^ 63 ∧ Q v H') E
theorem cr_lenO (at_ : PySem.W.findIn X.K (.ref C) "__len__" = some (some (.ref g))) (fn : PySem.W.isFn X.K (.ref g) = true) (F : FnOk X.prog X.w X.K X.mg X.base CX k g gd ps sp) (room : Room (k + 1) X.A) (bi : Binds X.K gd ps []) (pass : Passes CX X E) : CallR X (.builtin "len") (rLenO C sp E) := by
  intro pins s σ H vs us Q inv r h
  obtain ⟨a, dx, fs, rfl, ha, q⟩ := h
  rw [Vals.ref1 r]
  obtain ⟨mA, O, _⟩ := ins_get inv.hok ha
  obtain ⟨od, J, _⟩ := O.look
  obtain ⟨m, fr⟩ := inv.fr
  have hl : ([Value.ref a] ++ []).length = ps.length := (F.len _ _ _ _ q : [V.ref a].length = ps.length)
  refine PySem.W.len_K fr inv.ok.mod.kin J at_ fn (wpAny_call (codeAny_mono (F.run X.A.in1 X.stack s H ⟨[.ref a], []⟩ [.ref a] [.ref a] _ E room.in1 inv.env0.in1 (bi s [.ref a] inv.kIn hl) (.cons rfl .nil) q) fun z t hz => ?_))
  cases z with
  | error e => exact pass pins σ H s e t inv hz
  | ok fl =>
    cases fl with
    | ret u =>
      obtain ⟨v, H', i2, rv, n, ev, hn, qv⟩ := inv.after hz
      subst ev
      obtain ⟨tk, eu⟩ := (show ∃ tk, u = Value.int (n : Int) tk from rv)
      subst eu
      exact ⟨⟨Int.natCast_nonneg n, hn⟩, .int (n : Int), H', i2.tok _, ⟨_, rfl⟩, qv⟩
    | next => exact False.elim hz
    | brk => exact False.elim hz
    | cont => exact False.elim hz
end
end L2

/-! set(xs) of a list of ints, as a set whose items can be sorted. -/
namespace L2
open PySem PySem.Spec PyProof.Rows
/-- the object that set() lays first -/
abbrev emptySet (w : World) : Obj := { cls := .type "set", dict := none, data := .set #[] 0 (.fresh 0 0 (!w.params.followText "set-order")) }
section
variable {P : Program} {w : World} {A : Around} {E : Value → Shared → Prop} {s : Shared}
set_option maxRecDepth 100000 in
set_option maxHeartbeats 6000000 in
theorem call_set_lstI {l : Addr} {its : Array Value} (ns : List Int) {Q : Value → Shared → Prop} (calm : A.handled = none) (hl : s.heap.IsList l its) (iv : IntsAre its.toList ns) (room : ns.length + 1 < scanBound)
    (k : ∀ (g : Heap) (tk c : Nat), SetR w g s.heap.objs.size (fun j => decide (j ∈ ns)) c → c ≤ ns.length → (∀ b o, s.heap.get? b = some o → g.get? b = some o) → Q (.ref s.heap.objs.size) { s with heap := g, toks := tk }) : wpAny (model P w) A (call (.type "set") [.ref l]) Q E s := by
  have len : its.size = ns.length := by
    have z := IntsAre.length iv
    rwa [Array.length_toList] at z
  obtain ⟨cc, tt, mro⟩ := F.called_set.mro
  have made := F.called_set.made
  have sub := F.called_set.sub
  refine wpAny_call (codeAny_of_tree ?_)
  show wpAny _ _ (callAny (.type "set") _) _ _ _
  refine wpAny_pure ⟨Code.quiet_builtin _ (by decide +kernel), codeAny_builtin F.entry_type_call ?_⟩
  rw [Around.under_plain (weight_type_call_type "set" [.ref l] []) rfl]
  have n1 := F.called_set.notType
  have n2 := F.called_set.canCreate
  have n3 := F.typeCall_set_1 (.ref l)
  repeat (any_goals (first | assumption | wp_step))
  refine codeAny_mono (code_set_led1 (.ref l) (E := E) (Q₁ := fun obj s1 => obj = .ref s.heap.objs.size ∧ s1 = { s with heap := s.heap.push (emptySet w) }) ⟨rfl, rfl⟩) fun r s1 hr => ?_
  match r, hr with
  | .error e, hr => exact hr
  | .ok .next, hr => exact hr.elim
  | .ok .brk, hr => exact hr.elim
  | .ok .cont, hr => exact hr.elim
  | .ok (.ret obj), ⟨eo, es⟩ =>
    subst eo es
    have hS : (s.heap.push (emptySet w)).get? s.heap.objs.size = some (emptySet w) := Heap.get?_push_size _ rfl
    have hT : Shared.TypeIs { s with heap := s.heap.push (emptySet w) } (.ref s.heap.objs.size) "set" := ⟨_, hS, rfl⟩
    have look := F.called_set.init.lookup
    have bind := F.called_set.init.bind (.ref s.heap.objs.size)
    repeat (any_goals (first | assumption | wp_step))
    refine codeAny_mono (codeAny_call_builtin (R := wants (fun r s2 => r = .none ∧ ∃ g tk c, s2 = { s with heap := g, toks := tk } ∧ SetR w g s.heap.objs.size (fun j => decide (j ∈ ns)) c ∧ c ≤ ns.length ∧ (∀ b o, s.heap.get? b = some o → g.get? b = some o)) E)
      F.called_set.init.plain F.entry_set_init (check_set_init_1 hT ?_)) fun r2 s2 hr2 => ?_
    · obtain ⟨ol, hol, hcl, hne, hdl⟩ := hl
      obtain ⟨ocls, odict, odata, oslots⟩ := ol
      simp only at hcl hdl
      subst hcl; subst hdl
      have old : l < s.heap.objs.size := Heap.lt_size hol
      have hol2 := Heap.get?_push_of_some (emptySet w) hol
      have isub := F.sub_list_set
      have isubf := F.sub_list_frozenset
      have ned : (Value.type "list" == Value.type "dict") = false := by decide
      have hl1 : (s.heap.push (emptySet w)).IsList l its := ⟨_, hol2, rfl, hne, rfl⟩
      unfold Builtin.«set.__init__» noKeywords Builtin.Frozenset.updateFrom
      generalize hPI : pyIter = PI
      wp_walk
      subst hPI
      refine wpAny_pyIter_list hl1 (wpAny_bind (wpAny_runValue ?_))
      have calm3 : A.in1.in1.in1.handled = none := by simp [calm]
      have z1 : (s.heap.push (emptySet w)).objs.size = s.heap.objs.size + 1 := Heap.size_push ..
      have off : l ≠ (s.heap.push (emptySet w)).objs.size := by
        rw [Heap.size_push]; exact Nat.ne_of_lt (Nat.lt_succ_of_lt old)
      have offS : s.heap.objs.size ∉ [(s.heap.push (emptySet w)).objs.size, l] := by
        rw [Heap.size_push]
        simp only [List.mem_cons, List.mem_singleton, List.not_mem_nil, or_false, not_or]
        exact ⟨Nat.ne_of_lt (Nat.lt_succ_self _), Nat.ne_of_gt old⟩
      have vals : ∀ (i : Nat) (v : Value), its[i]? = some v → ∃ k t, ns[i]? = some k ∧ v = .int k t := fun i v hv => by
        have hi : i < ns.length := by rw [← len]; exact (Array.getElem?_eq_some_iff.mp hv).1
        obtain ⟨t, e⟩ := IntsAre.int_at iv i v (by rw [Array.getElem?_toList]; exact hv)
        refine ⟨ns[i], t, List.getElem?_eq_getElem hi, ?_⟩
        rw [e, List.getD_eq_getElem?_getD, List.getElem?_eq_getElem hi] <;> rfl
      refine set_update_ints ((Walks.list calm3 _ l off its).toS) s.heap.objs.size offS ns len room vals (its.size - 0) 0 _ (by omega) (Nat.zero_le _) ⟨⟨_, Heap.get?_push_size _ rfl, rfl, rfl⟩, (hl1.push _)⟩ ⟨0, Nat.le_refl 0, setR_new_at (Heap.get?_push_of_some _ hS)⟩ ?_
      intro s' c hm hc hR
      obtain ⟨g, g2, d2, tk, os2⟩ := s'
      have e1 : g2 = s.gens := hm.gens
      have e2 : d2 = s.drawn := hm.drawn
      have e3 : os2 = s.os := hm.os
      subst e1; subst e2; subst e3
      show wpAny _ _ _ _ _ _
      refine wpAny_pure ?_
      show wpAny _ _ (ret Value.none) _ _ _
      rw [len] at hc
      refine wpAny_pure ⟨rfl, g, tk, c, rfl, hR, hc, fun b o e => ?_⟩
      have b0 : b < s.heap.objs.size := Heap.lt_size e
      have b2 : b ≠ (s.heap.push (emptySet w)).objs.size := by rw [Heap.size_push]; exact Nat.ne_of_lt (Nat.lt_succ_of_lt b0)
      exact hm.heap b o (by simp only [List.mem_cons, List.mem_singleton, List.not_mem_nil, or_false, not_or]; exact ⟨Nat.ne_of_lt b0, b2⟩) (Heap.get?_push_of_some _ (Heap.get?_push_of_some _ e))
    · match r2, hr2 with
      | .error e, hr2 => exact hr2
      | .ok .next, hr2 => exact hr2.elim
      | .ok .brk, hr2 => exact hr2.elim
      | .ok .cont, hr2 => exact hr2.elim
      | .ok (.ret r), ⟨er, g, tk, c, es, hR, hc, keep⟩ =>
        subst er es
        repeat (any_goals (first | assumption | wp_step))
        exact k _ _ _ hR hc keep
end
/-- set(xs), xs a list or a tuple of ints -/
def rSetRow (K : PySem.W.Frag) (w : World) : List V → Hp → VK → Prop := fun xs H Q => ∃ (p : Addr) (ns : List Int), xs = [.ref p] ∧ (SqL K H p (ns.map V.int) ∨ SqT K H p (ns.map V.int)) ∧ ns.length ≤ 1000 ∧ ∀ (q : Addr) (c : Nat), H q = none → c ≤ ns.length → Q (.ref q) (upd H q (SetO w q (fun j => decide (j ∈ ns)) c))
theorem cr_setRow {X : Cx} (hc : X.calm = true) : CallR X (.type "set") (rSetRow X.K X.w) := by
  intro pins s σ H xs us Q I r h
  obtain ⟨p, ns, rfl, hq, hl, q⟩ := h
  rw [Vals.ref1 r]
  have fin : ∀ (g : Heap) (tk c : Nat), SetR X.w g s.heap.objs.size (fun j => decide (j ∈ ns)) c → c ≤ ns.length → (∀ b o, s.heap.get? b = some o → g.get? b = some o) → EP X pins σ Q (.ref s.heap.objs.size) { s with heap := g, toks := tk } := fun g tk c R hcn k =>
    ⟨.ref _, upd H s.heap.objs.size (SetO X.w s.heap.objs.size (fun j => decide (j ∈ ns)) c), I.laid (t' := tk) (fun b u e => k b u e) (Nat.le_refl _) (setO_new R), rfl, q _ c (I.hok.fresh (Nat.le_refl _)) hcn⟩
  rcases hq with hq | hq
  · obtain ⟨its, rv, pl, hz⟩ := I.list hq
    exact call_set_lstI ns (I.ok.hd hc) pl.isList (by simpa using ints_of_vals rv) (by unfold scanBound; omega) fin
  · obtain ⟨its, rv, pt, hz⟩ := I.tuple hq
    exact call_set_tupI ns (I.ok.hd hc) (show s.heap.IsTuple p its.toArray from pt) (ints_of_vals rv) (by unfold scanBound; omega) fin
end L2

/-! try with several clauses, the first one with a name, where the first one takes all that the body raises. -/
namespace Fam
open PySem L2 PyProof.Rows
/-- what is wished of an exception of the body: the clause's class takes it, and the suite goes on from there -/
def wFirst (K : PySem.W.Frag) (c : Value) (i : Nat) (ts : Addr → Value → Option Addr → TS) (D : Ends) : WX := fun cls d σ H => PySem.W.exmOne K cls c = some true ∧
  ∀ a, H a = none → ts a cls d ⟨fun g h => D.nx (g.set i none) h, D.rt, fun g h => D.bk (g.set i none) h, fun g h => D.ct (g.set i none) h⟩ (σ.set i (some (.ref a))) H
section
variable {X : Cx} {x n : Str} {c : Value} {i : Nat} {body su : List Stmt} {b : Stmt} {np p1 p2 : Pos} {tb : WX → TS} {ts : Addr → Value → Option Addr → TS} {rest : List ExceptHandler}
theorem ps_try_first (st : X.stack = X.env :: X.outer) (fr : X.env.frame = some X.env.locals) (nd : X.N.Nodup) (at_ : X.N[i]? = some n) (lc : X.env.kindOf n = some .local) (nm : Names X x c)
    (bd : ∀ (W : WX) (pn : List (Addr × Obj)) (xe : Value → Shared → Prop), Takes (X.tr pn xe) W → PassesOwn (model X.prog X.w) X.A X.env xe → PSs (X.tr pn xe) body (tb W))
    (ss : ∀ (a : Addr) (o : Obj) (cls : Value) (d : Option Addr) (pn : List (Addr × Obj)), Zc cls d o → (∃ fs, o.data = .fields fs) → PSs (X.suite a ((a, o) :: pn)) (b :: su) (ts a cls d)) :
    PS X (.Try body (.ExceptHandler (some (.Name x np)) (some n) (b :: su) p1 :: rest) [] [] p2) (fun D σ H => tb (wFirst X.K c i ts D) D σ H) := PS.mk fun pins s σ H D inv rd => by
  have ctx := inv.ok
  have fs0 : X.A.frames = some (X.env :: X.outer) := by rw [ctx.frames, st]
  apply wpAny_Try_except
  have run := (bd (wFirst X.K c i ts D) (X.pn ++ pins)
    (fun e t1 => wpAny (model X.prog X.w) X.A (noteFrame e X.env) (fun _ t2 => wpAny (model X.prog X.w) X.A (setFlight e none)
      (fun _ t3 => wpAny (model X.prog X.w) X.A (handleBy e X.env (.ExceptHandler (some (.Name x np)) (some n) (b :: su) p1 :: rest)) (SP X pins D) X.xe t3) X.xe t2) X.xe t1)
    (fun u t cat => ?caught) PassesOwn.looking).run [] s σ H D (inv.toTry _) rd
  case caught =>
    obtain ⟨a, B, tI, pn, g, G, cls, d, rfl, j, nb, up, sky, na, os, ag, yes, on⟩ := cat
    have jI : L2.Inv X pins g G tI := j.ofTry ctx
    show wpAny (model X.prog X.w) X.A (noteFrame (.ref a) X.env) _ _ _
    have sky1 : Sky B (X.env :: X.outer) a (Zc cls d) X.env.locals t.heap := st ▸ sky
    refine Sky.land Zc.steady fs0 fr sky1 fun k fly upk => ?_
    have jk : L2.Inv X pins g G { t with heap := k } := jI.landed nb fly.1 (up.trans upk) os ag
    obtain ⟨o, fv, ho, hz, hd⟩ := fly.there
    -- no frame of the stack is the exception
    have off : a ∉ frs (X.env :: X.outer) := fun hm => by
      obtain ⟨_, o1, e1, nf⟩ := fly.2.2.1.mem hm
      have e2 : o = o1 := Option.some.inj (ho.symm.trans e1)
      exact nf _ (e2 ▸ hd)
    have offL : a ≠ X.env.locals := fun z => off (List.mem_filterMap.mpr ⟨X.env, List.mem_cons_self, by rw [fr, z]⟩)
    have offF : a ∉ X.fs := fun hm => by
      obtain ⟨e, he, q⟩ := List.mem_filterMap.mp hm
      exact off (List.mem_filterMap.mpr ⟨e, .tail _ he, q⟩)
    have inS := jk.suite ho hd na offL offF
    refine wpAny_handleBy_cons (codeAny_handlers_test ?_) (fun q => by cases q)
    have ty : PySem.W.Looks (model X.prog X.w) k (typeOf (.ref a)) cls := fun _ _ _ _ kk q => wpAny_typeOf_ref (kk _ _ ho) (by rw [hz.1]; exact q)
    have named : ∀ {R : Value → Shared → Prop} {E1 : Value → Shared → Prop}, R c { t with heap := k } → wpAny (model X.prog X.w) (X.A.mark (some (.ref a))) (eval (.Name x np) X.env) R E1 { t with heap := k } := fun q => by
      obtain ⟨gl, db, w1 | ⟨w1, w2, w3⟩⟩ := nm
      · exact ld_glob (X := X.suite a ((a, o) :: (X.pn ++ pins))) inS gl w1 q db
      · exact ld_blt (X := X.suite a ((a, o) :: (X.pn ++ pins))) inS gl w1 w2 q w3 db
    refine named ((PySem.W.exm_one (M := model X.prog X.w) jk.kIn ty yes).here ?_)
    refine codeAny_handlers_suite_as (HandSPX.lands_againZ fly fun k2 fly2 up2 => ?_)
    obtain ⟨o2, fv2, ho2, hz2, hd2⟩ := fly2.there
    have jk2 : L2.Inv X pins g G { t with heap := k2 } := jI.landed nb fly2.1 ((up.trans upk).trans up2) os ag
    have in2 := jk2.suite ho2 hd2 na offL offF
    refine store_ok (X := X.suite a ((a, o2) :: (X.pn ++ pins))) (v := .ref a) in2 nd at_ (.inl lc) rfl (fun t5 in5 => ?_) (.inr lc)
    refine wpAny_mono ((ss a o2 cls d (X.pn ++ pins) hz2 ⟨_, hd2⟩).run [] t5 _ G _ in5 (on a na)) (fun r t6 out => ?_) (fun _ _ no => no.elim)
    -- the name goes again
    have gone : ∀ {g6 : L2.St} {G6 : Hp} {R : Shared → Prop}, L2.Inv (X.suite a ((a, o2) :: (X.pn ++ pins))) [] g6 G6 t6 → (∀ t7, L2.Inv X pins (g6.set i none) G6 t7 → R t7) →
        wpAny (model X.prog X.w) X.A (do bindName X.env n .none; unbindBehindTheSuite X.env n p1) (fun _ t7 => R t7) X.xe t6 := fun in6 q => gone_ok (in6.unsuite ctx) nd at_ lc q
    match r, out with
    | .next, ⟨_, _, in6, q6⟩ => exact gone in6 fun t7 j7 => ⟨_, _, j7, q6⟩
    | .brk, ⟨_, _, in6, q6⟩ => exact gone in6 fun t7 j7 => ⟨_, _, j7, q6⟩
    | .cont, ⟨_, _, in6, q6⟩ => exact gone in6 fun t7 j7 => ⟨_, _, j7, q6⟩
    | .ret u, ⟨_, _, _, in6, rv, q6⟩ => exact gone in6 fun t7 j7 => ⟨_, _, _, j7, rv, q6⟩
  refine wpAny_mono run (fun r t1 out => ?_) (fun _ _ q => q)
  match r, out with
  | .next, ⟨_, _, j1, q1⟩ => exact wpAny_execs_nil ⟨_, _, j1.ofTry ctx, q1⟩
  | .brk, ⟨_, _, j1, q1⟩ => exact ⟨_, _, j1.ofTry ctx, q1⟩
  | .cont, ⟨_, _, j1, q1⟩ => exact ⟨_, _, j1.ofTry ctx, q1⟩
  | .ret u, ⟨_, _, _, j1, rv, q1⟩ => exact ⟨_, _, _, j1.ofTry ctx, rv, q1⟩
end
end Fam

/-! What is of general use, for any row. -/
namespace Fam
open PySem L2
open C8 (pss_cut tCut)
abbrev vInt (n : Nat) : V := .int (n : Int)
theorem fmod2 (n : Nat) : ((n : Int).fmod 2) = ((n % 2 : Nat) : Int) := by
  rw [Int.fmod_eq_emod_of_nonneg _ (by decide)]
  rfl
theorem fdiv2 (n : Nat) : ((n : Int).fdiv 2) = ((n / 2 : Nat) : Int) := by
  rw [Int.fdiv_eq_ediv_of_nonneg _ (by decide)]
  rfl
theorem none_new {H : Hp} {p q : Addr} {o : HO} (h : upd H p o q = none) : H q = none := by
  by_cases e : q = p
  · subst e
    rw [upd_same] at h
    cases h
  · rw [upd_ne e] at h
    exact h
/-- a def of the top that keeps its promise, with all that a call of it wants -/
structure Cal (P : Program) (w : World) (K : PySem.W.Frag) (mg : Str → Option Value) (base : Heap) (k : Nat) (x : Str) (ps : List Str) (sp : Sp) : Prop where
  ex : ∃ (g : Addr) (gd : FuncData), FnOk P w K mg base CX0 k g gd ps sp ∧ Binds K gd ps [] ∧ PySem.W.keepIn K (.ref g) = true ∧ mg x = some (.ref g)
/-- a row: a list or a tuple -/
def Row (K : PySem.W.Frag) (H : Hp) (a : Addr) (xs : List V) : Prop := SqL K H a xs ∨ SqT K H a xs
theorem same_rd {H H' : Hp} {a : Addr} {o : HO} (s : Same H H') : Rd H a o → Rd H' a o
  | .inl h => .inl (s _ _ h)
  | .inr ⟨p, h⟩ => .inr ⟨p, s _ _ h⟩
theorem same_seqT {K : PySem.W.Frag} {H H' : Hp} {a : Addr} {xs : List V} (s : Same H H') : SqT K H a xs → SqT K H' a xs
  | .inl h => .inl (same_rd s h)
  | .inr h => .inr h
theorem Row.same {K : PySem.W.Frag} {H H' : Hp} {a : Addr} {xs : List V} (s : Same H H') : Row K H a xs → Row K H' a xs
  | .inl h => .inl (s.seq h)
  | .inr h => .inr (same_seqT s h)
/-- a walk over a row that a name of the def holds -/
def iRow (K : PySem.W.Frag) (j : Nat) : TI := fun σ H R => iList K (tVar j) σ H R ∨ iTup K (tVar j) σ H R
theorem pi_row {X : Cx} {tg l : Expr} {j : Nat} (h : PE X l (tVar j)) : PI X tg l (iRow X.K j) := PI.mk fun pins s σ H R hi hw => by
  rcases hw with hw | hw
  · exact (pi_list (tg := tg) h).run pins s σ H R hi hw
  · exact (pi_tup (tg := tg) h).run pins s σ H R hi hw
theorem row_for {K : PySem.W.Frag} {b : Addr} {xs : List V} {j : Nat} {g : TG} {tb : TS} {D : Ends} {σ : St} {H : Hp} (e : σ[j]? = some (some (.ref b))) (hW : Row K H b xs)
    (Pv : Nat → St → Hp → Prop) (h0 : Pv 0 σ H) (hl : ∀ i σ' H', i ≤ xs.length → Pv i σ' H' → Same H H')
    (hs : ∀ i x σ H, xs[i]? = some x → Pv i σ H → g x σ H fun σ2 H2 => tb { nx := Pv (i + 1), rt := D.rt, bk := D.nx, ct := Pv (i + 1) } σ2 H2)
    (hd : ∀ σ H, Pv xs.length σ H → D.nx σ H) : tFor (iRow K j) g tb D σ H := by
  rcases hW with hW | hW
  · exact .inl ⟨_, e, b, rfl, ⟨_, hW⟩, for_list (xs := xs) Pv h0 (fun i σ' H' hi h => (hl i σ' H' hi h).seq hW) hs hd⟩
  · exact .inr ⟨_, e, b, rfl, ⟨_, hW⟩, for_tup (xs := xs) Pv h0 (fun i σ' H' hi h => same_seqT (hl i σ' H' hi h) hW) hs hd⟩
/-- a comprehension over such a row -/
theorem row_lc {K : PySem.W.Frag} {b : Addr} {xs : List V} {j : Nat} {g : TG} {tt : TT} {te : TE} {vs : List Nat} {σ : St} {H : Hp} {Q : VK} (e : σ[j]? = some (some (.ref b))) (hW : Row K H b xs)
    (h : ∀ D, H D = none → ∃ Pv : Nat → Hp → Prop, Pv 0 (upd H D (.lst [])) ∧ (∀ i H', i ≤ xs.length → Pv i H' → Same H H') ∧
      (∀ i x H, xs[i]? = some x → Pv i H → g x (wipe σ vs) H fun σ2 H2 => wipe σ2 vs = wipe σ vs ∧ tt σ2 H2 fun c H3 =>
        if c = true then te σ2 H3 fun y H4 => ∃ acc, H4 D = some (.lst acc) ∧ acc.length < sizeLine ∧ Pv (i + 1) (upd H4 D (.lst (acc ++ [y]))) else Pv (i + 1) H3) ∧
      (∀ H, Pv xs.length H → Q (.ref D) H)) : tLc (iRow K j) g tt te vs σ H Q := by
  rcases hW with hW | hW
  · refine .inl ⟨_, e, b, rfl, ⟨_, hW⟩, fun D hD => ?_⟩
    obtain ⟨Pv, h0, hl, hs, hd⟩ := h D hD
    exact lc_list (xs := xs) Pv h0 (fun i H' hi h => (hl i H' hi h).seq hW) hs hd
  · refine .inr ⟨_, e, b, rfl, ⟨_, hW⟩, fun D hD => ?_⟩
    obtain ⟨Pv, h0, hl, hs, hd⟩ := h D hD
    exact lc_tup (xs := xs) Pv h0 (fun i H' hi h => same_seqT (hl i H' hi h) hW) hs hd
/-- all that stood ahead of the new D stands, D written again -/
theorem same_upd {H H' : Hp} {D : Addr} {o : HO} (s : Same H H') (hD : H D = none) : Same H (upd H' D o) := fun b x e => by
  rw [upd_ne (ne_of_none e hD)]
  exact s _ _ e
theorem take_more {α : Type} {l : List α} {i : Nat} (h : i < l.length) : l.take (i + 1) = l.take i ++ [l[i]] := (List.take_append_getElem h).symm
theorem item {α : Type} {l : List α} {g : α → V} {i : Nat} {x : V} (h : (l.map g)[i]? = some x) : ∃ hi : i < l.length, x = g l[i] := by
  have hi : i < l.length := by
    have := (List.getElem?_eq_some_iff.mp h).1
    rwa [List.length_map] at this
  refine ⟨hi, ?_⟩
  rw [List.getElem?_map, List.getElem?_eq_getElem hi] at h
  exact (Option.some.inj h).symm
def spLawInt : Sp := fun vs H Q _ => ∃ i : Int, vs = [.int i] ∧ Q (.bl true) H
theorem ty_tup {K : PySem.W.Frag} {H : Hp} {a : Addr} {xs : List V} : SqT K H a xs → TyX K H (.ref a) (.type "tuple")
  | .inl (.inl h) => .base (.tup h)
  | .inl (.inr ⟨_, h⟩) => .fTuple h
  | .inr ⟨o, _, _, h, c, _⟩ => .kTuple h c
theorem pe_ty {X : Cx} {x : Str} {pos : Pos} {n : String} (hg : Gl X x) (hm : X.mg x = none) (hv : bootBuiltins x = some (.type n)) (h1 : x ≠ "__name__" := by decide +kernel) (h2 : (x == ("__debug__" : Str)) = false := by decide +kernel) : PE X (.Name x pos) (tC (.ty n)) := pe_bltn hg hm hv rfl (hn := h1) (hd := h2)
section
variable {P : Program} {w : World} {K : PySem.W.Frag} {mg : Str → Option Value} {base : Heap}
theorem scLI : FnScope ["_law_value"] ["_law_value"] (defScope sLawInt) := ⟨rfl, rfl, rfl, by decide +kernel, rfl, by decide +kernel, by decide +kernel⟩
theorem ok_law_int {f : Addr} {fd : FuncData} (F : Fun K "_law_int" "_law_int" sLawInt f fd) (T : Bare mg) : FnOk P w K mg base CX0 1 f fd ["_law_value"] spLawInt := by
  refine F.ok scLI (fun vs H Q E h => ?_) (fun cdv A outer s H vs Q E hr h => ?_)
  · obtain ⟨a, rfl, _⟩ := h
    rfl
  · obtain ⟨i, rfl, k⟩ := h
    refine ⟨_, pss_one (ps_ret (pe_and (pe_callB call_isi (by rfl) T.isi (by decide +kernel) (pa_cons (pv 0) (pa_cons (pe_ty (n := "int") (by rfl) T.int (by decide +kernel)) pa_nil)))
      (pe_one (pe_not (pe_callB call_isi (by rfl) T.isi (by decide +kernel) (pa_cons (pv 0) (pa_cons (pe_ty (n := "bool") (by rfl) T.bool (by decide +kernel)) pa_nil))))))), ?_⟩
    refine ⟨_, rfl, _, _, _, _, true, rfl, .ty _, .base (.int i), kit_ty (by decide +kernel), _, rfl, iteT ?_⟩
    exact ⟨_, rfl, _, _, _, _, false, rfl, .ty _, .base (.int i), kit_ty (by decide +kernel), _, rfl, k⟩
end
theorem bitAnd_nat (a b : Nat) : Builtin.bitAnd (a : Int) (b : Int) = ((a &&& b : Nat) : Int) := by
  unfold Builtin.bitAnd
  rw [decide_eq_true (Int.natCast_nonneg a), decide_eq_true (Int.natCast_nonneg b)]
  rfl
theorem bitOr_nat (a b : Nat) : Builtin.bitOr (a : Int) (b : Int) = ((a ||| b : Nat) : Int) := by
  have n1 : ∀ c : Nat, decide ((0 : Int) ≤ Builtin.bitNot (c : Int)) = false := fun c => decide_eq_false (by unfold Builtin.bitNot; omega)
  have n2 : ∀ c : Nat, (Builtin.bitNot (Builtin.bitNot (c : Int))).toNat = c := fun c => by unfold Builtin.bitNot; omega
  unfold Builtin.bitOr Builtin.bitAnd
  rw [n1 a, n1 b]
  show Builtin.bitNot (Builtin.bitNot _) = _
  rw [n2 a, n2 b]
  unfold Builtin.bitNot
  omega
/-- all that stood but the tape at a stands -/
def Kp (a : Addr) (H H' : Hp) : Prop := ∀ b o, b ≠ a → H b = some o → H' b = some o
theorem Kp.refl (a : Addr) (H : Hp) : Kp a H H := fun _ _ _ h => h
theorem Kp.trans {a : Addr} {H H1 H2 : Hp} (h1 : Kp a H H1) (h2 : Kp a H1 H2) : Kp a H H2 := fun b o hb h => h2 b o hb (h1 b o hb h)
theorem Kp.of {a : Addr} {H H' : Hp} (h : ∀ b, b ≠ a → H' b = H b) : Kp a H H' := fun b o hb e => by rw [h b hb]; exact e
theorem kp_same {a : Addr} {H H' : Hp} (s : Same H H') : Kp a H H' := fun b o _ e => s b o e
/-- D, new since H, written again -/
theorem Kp.upd {a D : Addr} {H H' : Hp} {o : HO} (h : Kp a H H') (hD : H D = none) : Kp a H (upd H' D o) := fun b u hb e => by
  rw [upd_ne (ne_of_none e hD)]
  exact h b u hb e
theorem TapeAt.same {H H' : Hp} {a : Addr} {c : Nat} {ts : List Int} (h : TapeAt H a c ts) (s : Same H H') : TapeAt H' a c ts := s _ _ h
theorem TapeAt.upd {H : Hp} {a D : Addr} {c : Nat} {ts : List Int} {o : HO} (h : TapeAt H a c ts) (hD : D ≠ a) : TapeAt (upd H D o) a c ts := by
  unfold TapeAt
  rw [upd_ne (Ne.symm hD)]
  exact h
/-- a draw below m: any number below m -/
def spDraw : Sp := fun vs H Q _ => ∃ (a : Addr) (c : Nat) (ts : List Int) (m : Nat), vs = [.ref a, vInt m] ∧ TapeAt H a c ts ∧ 0 < m ∧
  ∀ (H' : Hp) (c' n : Nat), n < m → (∀ b, b ≠ a → H' b = H b) → TapeAt H' a c' ts → Q (vInt n) H'
theorem tape_ne {H : Hp} {a D : Addr} {c : Nat} {ts : List Int} (h : TapeAt H a c ts) (hD : H D = none) : D ≠ a := fun e => by
  subst e
  rw [h] at hD
  cases hD
theorem Kp.free {a D : Addr} {H H' : Hp} {c : Nat} {ts : List Int} (h : Kp a H H') (hT : TapeAt H' a c ts) (hD : H' D = none) : H D = none := by
  cases e : H D with
  | none => rfl
  | some o =>
    rw [h D o (tape_ne hT hD) e] at hD
    cases hD
theorem inV_nat (m : Nat) (rs : List Nat) : inV (vInt m) (rs.map vInt) = decide (m ∈ rs) := by
  induction rs with
  | nil => rfl
  | cons r rs ih =>
    unfold inV at ih ⊢
    rw [List.map_cons, List.any_cons, ih]
    show (((r : Int) == (m : Int)) || _) = _
    by_cases e : r = m
    · subst e
      simp
    · have e2 : ((r : Int) == (m : Int)) = false := beq_eq_false_iff_ne.mpr (by omega)
      rw [e2, Bool.false_or, decide_eq_decide, List.mem_cons]
      exact ⟨Or.inr, fun h => h.resolve_left (fun q => e q.symm)⟩
theorem flat_all (rs : List Nat) : (rs.map vInt).all flatV = true := by
  rw [List.all_map, List.all_eq_true]
  intro x _
  rfl
section
variable {P : Program} {w : World} {K : PySem.W.Frag} {mg : Str → Option Value} {base : Heap}
theorem ok_draw {k : Nat} {f : Addr} {fd : FuncData} (G : FnOk P w K mg base CX0 k f fd ["_law_tape", "_law_many"] spTake) : FnOk P w K mg base CX0 k f fd ["_law_tape", "_law_many"] spDraw :=
  G.imp fun vs H Q E h => by
    obtain ⟨a, c, ts, m, rfl, hT, hm, k⟩ := h
    refine ⟨a, c, ts, m, rfl, hT, by omega, fun H' hH hT' => ?_⟩
    have q := drawn_lt (c := c) (ts := ts) (m := (m : Int)) (by omega)
    have e : drawn c ts (m : Int) = ((drawn c ts (m : Int)).toNat : Int) := by omega
    rw [e]
    exact k H' _ _ (by omega) hH hT'
end
/-- an item of a row -/
def rIxRow (K : PySem.W.Frag) : R2 := fun x y H Q => ∃ p xs i v, x = .ref p ∧ y = .int i ∧ Row K H p xs ∧ atI xs i = some v ∧ Q v H
theorem ix_row {X : Cx} : IxR X (rIxRow X.K) := fun value slice pins s σ H x y v u Q hi rv ru h e => by
  obtain ⟨p, xs, i, w, e1, e2, hS | hS, ha, q⟩ := h
  · exact ix_list value slice pins s σ H x y v u Q hi rv ru ⟨p, xs, i, w, e1, e2, hS, ha, q⟩ e
  · exact ix_tup value slice pins s σ H x y v u Q hi rv ru ⟨p, xs, i, w, e1, e2, hS, ha, q⟩ e
def DefAt (K : PySem.W.Frag) (x : Str) (st : Stmt) (f : Addr) : Prop :=
  ∃ (od an : Option Addr) (sl : Array (Option Value)) (oc kV dc pm cd ct : Value), PySem.W.nsIn K mainGlobals x = some (some (.ref f)) ∧
    K.lookup f = some ⟨oc, od, .func (PySem.W.fnOf x x (defArgs st) (defBody st) (defScope st) .none kV dc pm an cd ct), sl⟩ ∧ PySem.W.codeIn K cd x = true ∧ PySem.W.keepIn K (.ref f) = true
theorem def_at {K : PySem.W.Frag} {x : Str} {st : Stmt} {f : Addr} {od an : Option Addr} {sl : Array (Option Value)} {oc kV dc pm cd ct : Value} (a : PySem.W.nsIn K mainGlobals x = some (some (.ref f)))
    (l : K.lookup f = some ⟨oc, od, .func (PySem.W.fnOf x x (defArgs st) (defBody st) (defScope st) .none kV dc pm an cd ct), sl⟩) (c : PySem.W.codeIn K cd x = true) (k : PySem.W.keepIn K (.ref f) = true) : ∃ f, DefAt K x st f := ⟨f, od, an, sl, oc, kV, dc, pm, cd, ct, a, l, c, k⟩
theorem cal {P : Program} {w : World} {K : PySem.W.Frag} {mg : Str → Option Value} {base : Heap} {h : Heap} {k : Nat} {x : Str} {st : Stmt} {ps : List Str} {sp : Sp} (X : K.In h) (G : h.Ns mainGlobals mg) (D : ∃ f, DefAt K x st f)
    (hb : ∀ (kV doc pm : Value) (an : Option Addr) (cdv ct : Value) (us : List Value), us.length = ps.length → bindArgs (PySem.W.fnOf x x (defArgs st) (defBody st) (defScope st) .none kV doc pm an cdv ct) ⟨us, []⟩ = pure (ps.zip us))
    (ok : ∀ f fd, Fun K x x st f fd → FnOk P w K mg base CX0 k f fd ps sp) : Cal P w K mg base k x ps sp := by
  obtain ⟨f, od, an, sl, oc, kV, dc, pm, cd, ct, a, l, c, kk⟩ := D
  have F := fun_mk (st := st) l c kk
  exact ⟨f, _, ok f _ F, F.binds hb, kk, PySem.W.mg_of X G a⟩
structure Bares (K : PySem.W.Frag) : Prop where
  len : PySem.W.nsIn K mainGlobals "len" = some none
  int : PySem.W.nsIn K mainGlobals "int" = some none
  range : PySem.W.nsIn K mainGlobals "range" = some none
  min : PySem.W.nsIn K mainGlobals "min" = some none
  bool : PySem.W.nsIn K mainGlobals "bool" = some none
  isi : PySem.W.nsIn K mainGlobals "isinstance" = some none
  tuple : PySem.W.nsIn K mainGlobals "tuple" = some none
  list : PySem.W.nsIn K mainGlobals "list" = some none
  abs : PySem.W.nsIn K mainGlobals "abs" = some none
  sorted : PySem.W.nsIn K mainGlobals "sorted" = some none
theorem Bares.bare {K : PySem.W.Frag} {h : Heap} {mg : Str → Option Value} (X : K.In h) (G : h.Ns mainGlobals mg) (b : Bares K) : Bare mg :=
  ⟨PySem.W.mg_none_of X G b.len, PySem.W.mg_none_of X G b.int, PySem.W.mg_none_of X G b.range, PySem.W.mg_none_of X G b.min, PySem.W.mg_none_of X G b.bool, PySem.W.mg_none_of X G b.isi, PySem.W.mg_none_of X G b.tuple, PySem.W.mg_none_of X G b.list, PySem.W.mg_none_of X G b.abs, PySem.W.mg_none_of X G b.sorted⟩
theorem passE0 {P : Program} {w : World} {X : Cx} : Passes (L2.CX P w) X E0 := fun _ _ _ _ _ _ _ h => by
  obtain ⟨_, _, _, _, _, _, _, _, _, _, _, _, h⟩ := h
  exact h.elim
theorem made_same {H H' : Hp} {x dx C : Addr} (hx : H x = none) (hdx : H dx = none) (k : ∀ b o, b ≠ x → b ≠ dx → upd (upd H dx (.own x)) x (.ins C dx []) b = some o → H' b = some o) : Same H H' := fun b o e => by
  have h1 : b ≠ x := ne_of_none e hx
  have h2 : b ≠ dx := ne_of_none e hdx
  refine k b o h1 h2 ?_
  rw [upd_ne h1, upd_ne h2]
  exact e
theorem made_new {H : Hp} {x dx C : Addr} (hx : H x = none) (hdx : H dx = none) : Same H (upd (upd H dx (.own x)) x (.ins C dx [])) := fun b o e => by
  rw [upd_ne (ne_of_none e hx), upd_ne (ne_of_none e hdx)]
  exact e
theorem uniq_of {R : Nat → Nat → Prop} : ∀ {l m : List Nat}, (∀ a b, a ∈ l → b ∈ l → R a b → R b a → a = b) → l.Pairwise R → m.Pairwise R → l.Perm m → l = m
  | [], m, _, _, _, p => (List.Perm.eq_nil p.symm).symm
  | a :: l, [], _, _, _, p => absurd p.length_eq (by simp)
  | a :: l, b :: m, anti, hl, hm, p => by
    obtain ⟨hl1, hl2⟩ := List.pairwise_cons.mp hl
    obtain ⟨hm1, hm2⟩ := List.pairwise_cons.mp hm
    have hb : b ∈ a :: l := p.mem_iff.mpr List.mem_cons_self
    have ha : a ∈ b :: m := p.mem_iff.mp List.mem_cons_self
    have e : a = b := by
      rcases List.mem_cons.mp ha with e | h1
      · exact e
      · rcases List.mem_cons.mp hb with e | h2
        · exact e.symm
        · exact anti a b List.mem_cons_self hb (hl1 b h2) (hm1 a h1)
    subst e
    rw [uniq_of (fun x y hx hy => anti x y (List.mem_cons_of_mem _ hx) (List.mem_cons_of_mem _ hy)) hl2 hm2 p.cons_inv]
theorem lex_tot : ∀ xs ys : List Int, HT.lexLt xs ys = false → HT.lexLt ys xs = false → xs = ys
  | [], [], _, _ => rfl
  | [], y :: ys, h, _ => by rw [HT.lexLt_nil_cons] at h; cases h
  | x :: xs, [], _, h => by rw [HT.lexLt_nil_cons] at h; cases h
  | x :: xs, y :: ys, h1, h2 => by
    rw [HT.lexLt_cons] at h1 h2
    by_cases e : x = y
    · rw [if_pos e] at h1
      rw [if_pos e.symm] at h2
      rw [e, lex_tot xs ys h1 h2]
    · rw [if_neg e] at h1
      rw [if_neg (Ne.symm e)] at h2
      have a := of_decide_eq_false h1
      have b := of_decide_eq_false h2
      omega
theorem can_ints (l : List Int) : PyData.canLayAll0 (l.map PyData.int) = true := by
  induction l with
  | nil => rfl
  | cons x l ih => simp [PyData.canLayAll0, PyData.canLay0, ih]
theorem depth_ints (l : List Int) : PyData.depthAll (l.map PyData.int) ≤ 1 := by
  induction l with
  | nil => simp [PyData.depthAll]
  | cons x l ih =>
    simp only [List.map_cons, PyData.depthAll, PyData.depth]
    omega
theorem dp_ints {K : PySem.W.Frag} {H : Hp} : ∀ l : List Int, DpAll K H (l.map V.int) (l.map PyData.int)
  | [] => .nil
  | _ :: l => .cons (.int _) (dp_ints l)
theorem eqv_same {d : PyData} (h : SeqAt.shaped d = true) : PyData.eqv d d = true := by
  unfold SeqAt.shaped at h
  rw [Bool.and_eq_true] at h
  exact PySem.SeqAt.eqv_refl d h.1
theorem nodup_len : ∀ (N : Nat) (l : List Nat), l.Nodup → (∀ m ∈ l, m < N) → l.length ≤ N
  | 0, l, _, h => by
    cases l with
    | nil => exact Nat.le_refl _
    | cons x l => exact absurd (h x List.mem_cons_self) (Nat.not_lt_zero x)
  | N + 1, l, nd, h => by
    by_cases e : N ∈ l
    · have q := nodup_len N (l.erase N) (nd.erase N) (fun m hm => by
        have := nd.mem_erase_iff.mp hm
        have := h m this.2
        omega)
      rw [List.length_erase_of_mem e] at q
      omega
    · have q := nodup_len N l nd (fun m hm => by
        have h1 := h m hm
        have h2 : m ≠ N := fun z => e (by rw [← z]; exact hm)
        omega)
      omega
/-- more built-in names that the top leaves as they are -/
structure Bare2 (mg : Str → Option Value) : Prop where
  set : mg "set" = none
  iter : mg "iter" = none
  max : mg "max" = none
  sum : mg "sum" = none
  any : mg "any" = none
  all : mg "all" = none
  enumerate : mg "enumerate" = none
  str : mg "str" = none
theorem ty_lst {K : PySem.W.Frag} {H : Hp} {a : Addr} {xs : List V} (h : SqL K H a xs) : TyX K H (.ref a) (.type "list") := by
  rcases h with (h | ⟨o, h⟩) | ⟨o, _, _, h, c, _⟩
  · exact .base (.lst h)
  · exact .base (.frz h)
  · exact .kList h c
theorem any_lst {K : PySem.W.Frag} : PySem.W.kitAny K (.type "list") [.type "list", .type "tuple"] = some true := kitAny_cons (b := true) (kit_ty (by decide +kernel)) (fun z => nomatch z) fun _ => rfl
theorem any_tup {K : PySem.W.Frag} : PySem.W.kitAny K (.type "tuple") [.type "list", .type "tuple"] = some true := kitAny_cons (b := false) (kit_ty (by decide +kernel)) (fun _ => kitAny_cons (b := true) (kit_ty (by decide +kernel)) (fun z => nomatch z) fun _ => rfl) (fun z => nomatch z)
/-- isinstance(x, (list, tuple)) of a row -/
theorem isi_row {K : PySem.W.Frag} {H : Hp} {a : Addr} {xs : List V} (h : Row K H a xs) : ∃ ty, TyX K H (.ref a) ty ∧ PySem.W.kitAny K ty [.type "list", .type "tuple"] = some true := by
  rcases h with h | h
  · exact ⟨_, ty_lst h, any_lst⟩
  · exact ⟨_, ty_tup h, any_tup⟩
theorem lk_same {f : Str} {v : V} {fs : List (Str × V)} : (putF f v fs).lookup f = some v := by rw [lookup_putF, if_pos rfl]
theorem lk_ne {f g : Str} {v : V} {fs : List (Str × V)} (h : g ≠ f) : (putF f v fs).lookup g = fs.lookup g := by rw [lookup_putF, if_neg h]
theorem putF_len (f : Str) (v : V) : ∀ fs : List (Str × V), (putF f v fs).length ≤ fs.length + 1
  | [] => Nat.le_refl _
  | (g, x) :: r => by
    unfold putF
    split
    · exact Nat.le_succ _
    · exact Nat.succ_le_succ (putF_len f v r)
structure BadFacts (K : PySem.W.Frag) (mg : Str → Option Value) (B : Addr) : Prop where
  gB : mg "BadNumber" = some (.ref B)
  xf : XfC K B
  no : PySem.W.findIn K (.ref B) "which" = some none
  te : PySem.W.exmOne K (.ref B) (.ref B) = some true
theorem te_of {K : PySem.W.Frag} {B : Addr} (b : PySem.W.subIn K (.ref B) (.type "BaseException") = some true) (i : PySem.W.isClsIn K B = true) (t : PySem.W.typeIn K (.ref B) = some (.type "type")) (o : PySem.W.subIn K (.ref B) (.ref B) = some true) : PySem.W.exmOne K (.ref B) (.ref B) = some true := by
  have i2 : (PySem.W.clsIn K B).isSome = true := i
  unfold PySem.W.exmOne PySem.W.kitCls
  simp only [b, i2, t, o]
  rfl
theorem bad_mk {K : PySem.W.Frag} {h : Heap} {mg : Str → Option Value} {B : Addr} (X : K.In h) (G : h.Ns mainGlobals mg) (a : PySem.W.nsIn K mainGlobals "BadNumber" = some (some (.ref B)))
    (ga : PySem.W.findIn K (.ref B) "__getattribute__" = some (some (.builtin "BaseException.__getattribute__"))) (gg : PySem.W.findIn K (.ref B) "__getattr__" = some none) (e : PySem.W.subIn K (.ref B) (.type "BaseException") = some true) (d : PySem.W.hasDictIn K B = true)
    (no : PySem.W.findIn K (.ref B) "which" = some none) (i : PySem.W.isClsIn K B = true) (t : PySem.W.typeIn K (.ref B) = some (.type "type")) (o : PySem.W.subIn K (.ref B) (.ref B) = some true) : BadFacts K mg B := ⟨PySem.W.mg_of X G a, ⟨ga, gg, e, d⟩, no, te_of e i t o⟩
/-- a def of the program that may raise -/
structure CalE (P : Program) (w : World) (K : PySem.W.Frag) (mg : Str → Option Value) (base : Heap) (k : Nat) (x : Str) (ps : List Str) (sp : Sp) : Prop where
  ex : ∃ (g : Addr) (gd : FuncData), FnOk P w K mg base (L2.CX P w) k g gd ps sp ∧ Binds K gd ps [] ∧ PySem.W.keepIn K (.ref g) = true ∧ mg x = some (.ref g)
theorem ok_noex {P : Program} {w : World} {K : PySem.W.Frag} {mg : Str → Option Value} {base : Heap} {k : Nat} {f : Addr} {fd : FuncData} {ps : List Str} {sp : Sp} (F : FnOk P w K mg base (L2.CX P w) k f fd ps sp) :
    FnOk P w K mg base CX0 k f fd ps (fun vs H Q _ => sp vs H Q E0) :=
  ⟨fun vs H Q _ h => F.len vs H Q E0 h, fun A outer s H args us vs Q E hr he hb hv h => codeAny_mono (F.run A outer s H args us vs Q E0 hr he hb hv h) fun r s' q => by
    match r, q with
    | .ok (.ret u), q => exact q
    | .ok .next, q => exact q
    | .ok .brk, q => exact q
    | .ok .cont, q => exact q
    | .error e, q =>
      obtain ⟨_, _, _, _, _, _, _, _, _, _, _, _, z⟩ := q
      exact z.elim⟩
theorem any_non {K : PySem.W.Frag} : PySem.W.kitAny K (.type "NoneType") [.type "list", .type "tuple"] = some false := kitAny_cons (b := false) (kit_ty (by decide +kernel)) (fun _ => kitAny_cons (b := false) (kit_ty (by decide +kernel)) (fun _ => rfl) (fun z => nomatch z)) (fun z => nomatch z)
structure LotErr (K : PySem.W.Frag) (mg : Str → Option Value) (BL : Addr) : Prop where
  gP : mg "BadLot" = some (.ref BL)
  xP : ∃ bm, PySem.W.excIn K BL bm "ValueError.__new__" = true ∧ ExcBaseFacts "ValueError" "ValueError.__new__" "ValueError.__init__" bm
  kP : PySem.W.keepIn K (.ref BL) = true
  b : PySem.W.subIn K (.ref BL) (.type "BaseException") = some true
  t : PySem.W.typeIn K (.ref BL) = some (.type "type")
theorem cal_noex {P : Program} {w : World} {K : PySem.W.Frag} {mg : Str → Option Value} {base : Heap} {k : Nat} {x : Str} {ps : List Str} {sp : Sp} (G : CalE P w K mg base k x ps sp) : Cal P w K mg base k x ps (fun vs H Q _ => sp vs H Q E0) := by
  obtain ⟨g, gd, ok, b, kp, mf⟩ := G.ex
  exact ⟨g, gd, ok_noex ok, b, kp, mf⟩
theorem cal_imp {P : Program} {w : World} {K : PySem.W.Frag} {mg : Str → Option Value} {base : Heap} {k : Nat} {x : Str} {ps : List Str} {sp sp' : Sp} (G : Cal P w K mg base k x ps sp) (h : ∀ vs H Q E, sp' vs H Q E → sp vs H Q E) : Cal P w K mg base k x ps sp' := by
  obtain ⟨g, gd, ok, b, kp, mf⟩ := G.ex
  exact ⟨g, gd, ok.imp h, b, kp, mf⟩
theorem eqv_ints : ∀ a b : List Int, PyData.eqvAll (a.map PyData.int) (b.map PyData.int) = decide (a = b)
  | [], [] => rfl
  | [], y :: b => rfl
  | x :: a, [] => rfl
  | x :: a, y :: b => by
    rw [List.map_cons, List.map_cons]
    show ((x == y) && PyData.eqvAll _ _) = _
    rw [eqv_ints a b, Bool.eq_iff_iff, Bool.and_eq_true, beq_iff_eq, decide_eq_true_eq, decide_eq_true_eq, List.cons.injEq]
theorem kit_self {K : PySem.W.Frag} {C : Addr} : PySem.W.kitOne K (.ref C) (.ref C) = some true := by
  unfold PySem.W.kitOne
  rw [if_pos (beq_self_eq_true _)]
def rListOf (K : PySem.W.Frag) : List V → Hp → VK → Prop := fun xs H Q => ∃ p ys, xs = [.ref p] ∧ (SqL K H p ys ∨ SqT K H p ys) ∧ ∀ l, H l = none → Q (.ref l) (upd H l (.lst ys))
theorem shaped_ints (l : List Int) : SeqAt.shaped (.list (l.map PyData.int)) = true := by
  have c := can_ints l
  have d := depth_ints l
  unfold SeqAt.shaped
  rw [Bool.and_eq_true]
  exact ⟨by simp only [PyData.canLay0]; exact c, decide_eq_true (by simp only [PyData.depth]; omega)⟩
structure DunO (K : PySem.W.Frag) (C : Addr) (nm : String) (g : Addr) : Prop where
  at_ : PySem.W.findIn K (.ref C) nm = some (some (.ref g))
  fn : PySem.W.isFn K (.ref g) = true
theorem not_first {K : PySem.W.Frag} {C : Addr} : PySem.W.notFirst K C (.ref C) = true := by
  unfold PySem.W.notFirst
  rw [beq_self_eq_true]
  rfl
theorem wordne {A B : Prop} {s : Str} (h : B) : if (!decide (V.str s = V.str s)) = true then A else B := by
  rw [decide_eq_true rfl]
  exact iteF h
theorem eqv_lists (a b : List Int) : PyData.eqv (.list (a.map PyData.int)) (.list (b.map PyData.int)) = decide (a = b) := by
  simp only [PyData.eqv]
  exact eqv_ints a b
theorem dec_nat (a b : Nat) : decide (vInt a = vInt b) = decide (a = b) := decide_eq_decide.mpr ⟨fun z => Int.ofNat.inj (V.int.inj z), fun z => by rw [z]⟩
end Fam

/-! Whole numbers, bounds, the errors that carry a word or a path. -/
namespace Fam
open PySem L2
open C8 (pss_cut tCut)
/-- BadNumber.__init__: the exception at a gets its own dict -/
def spBadInitN (K : PySem.W.Frag) (B : Addr) : Sp := fun vs H Q _ => ∃ (a : Addr) (v : V), vs = [.ref a, v] ∧ H a = some (exo a B none) ∧ OexC K B ∧ PySem.W.findIn K (.ref B) "which" = some none ∧
  ∀ dx, H dx = none → dx ≠ a → Q .non (upd (upd H dx (exd dx [("which", v)])) a (exo a B (some dx)))
section
variable {P : Program} {w : World} {K : PySem.W.Frag} {mg : Str → Option Value} {base : Heap} {B : Addr}
theorem scBIN : FnScope ["self", "which"] ["self", "which"] (defScope sBadNumber_init) := ⟨rfl, rfl, rfl, by decide +kernel, rfl, by decide +kernel, by decide +kernel⟩
theorem ok_bad_initN {f : Addr} {fd : FuncData} (F : Fun K "__init__" "BadNumber.__init__" sBadNumber_init f fd) : FnOk P w K mg base CX0 1 f fd ["self", "which"] (spBadInitN K B) := by
  refine F.ok scBIN (fun vs H Q E h => ?_) (fun cdv A outer s H vs Q E hr h => ?_)
  · obtain ⟨a, v, rfl, _⟩ := h
    rfl
  · obtain ⟨a, v, rfl, ha, T, no, k⟩ := h
    refine ⟨_, pss_one (ps_ost (pv 0) (pv 1)), ?_⟩
    exact ⟨_, rfl, _, rfl, a, B, rfl, T, no, .inl ⟨ha, fun dx h1 h2 => k dx h1 h2⟩⟩
/-- all that raise BadNumber(..) wants -/
structure BadRaiseN (P : Program) (w : World) (K : PySem.W.Frag) (mg : Str → Option Value) (base : Heap) (B : Addr) : Prop where
  oex : OexC K B
  no : PySem.W.findIn K (.ref B) "which" = some none
  gB : mg "BadNumber" = some (.ref B)
  init : ∃ (g : Addr) (gd : FuncData), PySem.W.findIn K (.ref B) "__init__" = some (some (.ref g)) ∧ PySem.W.typeIn K (.ref g) = some (.type "function") ∧ FnOk P w K mg base CX0 1 g gd ["self", "which"] (spBadInitN K B) ∧ Binds K gd ["self", "which"] []
theorem bad_readN {ta : TA} {σ : L2.St} {H : Hp} {Q : XK} {v : V} (N : BadRaiseN P w K mg base B) (hv : ∀ Q' : List V → Hp → Prop, Q' [v] H → ta σ H Q')
    (k : ∀ (d : Addr) (H' : Hp), Same H H' → H d = none → H' d = some (.xd [("which", v)]) → Q (.ref B) (some d) H') : tMkO B (spBadInitN K B) [] ta σ H Q := by
  refine hv _ ⟨(by show 1 ≤ 1000; decide), fun a ha => ⟨a, v, rfl, upd_same, N.oex, N.no, fun dx hdx hne => ⟨rfl, dx, [("which", v)], upd_same, ?_, none_new hdx, ?_⟩⟩⟩
  · rw [upd_ne hne]
    exact upd_same
  · refine k dx _ (fun b o e => ?_) (none_new hdx) upd_same
    have h1 : b ≠ a := ne_of_none e ha
    have h2 : b ≠ dx := ne_of_none e (none_new hdx)
    rw [upd_ne h2, del_ne h1, upd_ne h1, upd_ne h2, upd_ne h1]
    exact e
theorem bad_raise_mkN {h : Heap} {f : Addr} {nm q : Str} {N : Addr} {bs bm : List Value} {sn : List Str} {sub : List Value} {ab : Bool} {col : Option Bool} {dd : Option Addr} {m0 m1 m2 m3 m5 : Option Value} {od an : Option Addr} {sl : Array (Option Value)} {oc kV dc pm cd ct : Value}
    (X : K.In h) (G : h.Ns mainGlobals mg) (aB : PySem.W.nsIn K mainGlobals "BadNumber" = some (some (.ref B))) (x : K.lookup B = some (excClassObj nm q B N bs bm true sn sub ab col dd m0 m1 m2 m3 m5 "ValueError.__new__")) (xb : PySem.HandSPX.refsVE bm = true)
    (sa : PySem.W.findIn K (.ref B) "__setattr__" = some (some (.builtin "object.__setattr__"))) (e : PySem.W.subIn K (.ref B) (.type "BaseException") = some true) (t : PySem.W.typeIn K (.ref B) = some (.type "type")) (kB : PySem.W.keepIn K (.ref B) = true) (no : PySem.W.findIn K (.ref B) "which" = some none)
    (iB : PySem.W.findIn K (.ref B) "__init__" = some (some (.ref f))) (tf : PySem.W.typeIn K (.ref f) = some (.type "function"))
    (l : K.lookup f = some ⟨oc, od, .func (PySem.W.fnOf "__init__" "BadNumber.__init__" (defArgs sBadNumber_init) (defBody sBadNumber_init) (defScope sBadNumber_init) .none kV dc pm an cd ct), sl⟩) (c : PySem.W.codeIn K cd "BadNumber.__init__" = true) (kf : PySem.W.keepIn K (.ref f) = true) : BadRaiseN P w K mg base B := by
  have F := fun_mk (st := sBadNumber_init) l c kf
  exact ⟨⟨⟨nm, q, N, bs, bm, sn, sub, ab, col, dd, m0, m1, m2, m3, m5, x, xb⟩, sa, e, t, kB⟩, no, PySem.W.mg_of X G aB, ⟨f, _, iB, tf, ok_bad_initN F, F.binds (ps := ["self", "which"]) fun _ _ _ _ _ _ us hl => match us, hl with | [_, _], _ => rfl⟩⟩
end
/-- BadTerm.__init__: the exception at a gets its own dict -/
def spBadInitT (K : PySem.W.Frag) (B : Addr) : Sp := fun vs H Q _ => ∃ (a : Addr) (v : V), vs = [.ref a, v] ∧ H a = some (exo a B none) ∧ OexC K B ∧ PySem.W.findIn K (.ref B) "path" = some none ∧
  ∀ dx, H dx = none → dx ≠ a → Q .non (upd (upd H dx (exd dx [("path", v)])) a (exo a B (some dx)))
section
variable {P : Program} {w : World} {K : PySem.W.Frag} {mg : Str → Option Value} {base : Heap} {B : Addr}
theorem scBIT : FnScope ["self", "path"] ["self", "path"] (defScope sBadTerm_init) := ⟨rfl, rfl, rfl, by decide +kernel, rfl, by decide +kernel, by decide +kernel⟩
theorem ok_bad_initT {f : Addr} {fd : FuncData} (F : Fun K "__init__" "BadTerm.__init__" sBadTerm_init f fd) : FnOk P w K mg base CX0 1 f fd ["self", "path"] (spBadInitT K B) := by
  refine F.ok scBIT (fun vs H Q E h => ?_) (fun cdv A outer s H vs Q E hr h => ?_)
  · obtain ⟨a, v, rfl, _⟩ := h
    rfl
  · obtain ⟨a, v, rfl, ha, T, no, k⟩ := h
    refine ⟨_, pss_one (ps_ost (pv 0) (pv 1)), ?_⟩
    exact ⟨_, rfl, _, rfl, a, B, rfl, T, no, .inl ⟨ha, fun dx h1 h2 => k dx h1 h2⟩⟩
/-- all that raise BadTerm(..) wants -/
structure BadRaiseT (P : Program) (w : World) (K : PySem.W.Frag) (mg : Str → Option Value) (base : Heap) (B : Addr) : Prop where
  oex : OexC K B
  no : PySem.W.findIn K (.ref B) "path" = some none
  gB : mg "BadTerm" = some (.ref B)
  init : ∃ (g : Addr) (gd : FuncData), PySem.W.findIn K (.ref B) "__init__" = some (some (.ref g)) ∧ PySem.W.typeIn K (.ref g) = some (.type "function") ∧ FnOk P w K mg base CX0 1 g gd ["self", "path"] (spBadInitT K B) ∧ Binds K gd ["self", "path"] []
theorem bad_readT {ta : TA} {σ : L2.St} {H : Hp} {Q : XK} {v : V} (N : BadRaiseT P w K mg base B) (hv : ∀ Q' : List V → Hp → Prop, Q' [v] H → ta σ H Q')
    (k : ∀ (d : Addr) (H' : Hp), Same H H' → H d = none → H' d = some (.xd [("path", v)]) → Q (.ref B) (some d) H') : tMkO B (spBadInitT K B) [] ta σ H Q := by
  refine hv _ ⟨(by show 1 ≤ 1000; decide), fun a ha => ⟨a, v, rfl, upd_same, N.oex, N.no, fun dx hdx hne => ⟨rfl, dx, [("path", v)], upd_same, ?_, none_new hdx, ?_⟩⟩⟩
  · rw [upd_ne hne]
    exact upd_same
  · refine k dx _ (fun b o e => ?_) (none_new hdx) upd_same
    have h1 : b ≠ a := ne_of_none e ha
    have h2 : b ≠ dx := ne_of_none e (none_new hdx)
    rw [upd_ne h2, del_ne h1, upd_ne h1, upd_ne h2, upd_ne h1]
    exact e
theorem bad_raise_mkT {h : Heap} {f : Addr} {nm q : Str} {N : Addr} {bs bm : List Value} {sn : List Str} {sub : List Value} {ab : Bool} {col : Option Bool} {dd : Option Addr} {m0 m1 m2 m3 m5 : Option Value} {od an : Option Addr} {sl : Array (Option Value)} {oc kV dc pm cd ct : Value}
    (X : K.In h) (G : h.Ns mainGlobals mg) (aB : PySem.W.nsIn K mainGlobals "BadTerm" = some (some (.ref B))) (x : K.lookup B = some (excClassObj nm q B N bs bm true sn sub ab col dd m0 m1 m2 m3 m5 "ValueError.__new__")) (xb : PySem.HandSPX.refsVE bm = true)
    (sa : PySem.W.findIn K (.ref B) "__setattr__" = some (some (.builtin "object.__setattr__"))) (e : PySem.W.subIn K (.ref B) (.type "BaseException") = some true) (t : PySem.W.typeIn K (.ref B) = some (.type "type")) (kB : PySem.W.keepIn K (.ref B) = true) (no : PySem.W.findIn K (.ref B) "path" = some none)
    (iB : PySem.W.findIn K (.ref B) "__init__" = some (some (.ref f))) (tf : PySem.W.typeIn K (.ref f) = some (.type "function"))
    (l : K.lookup f = some ⟨oc, od, .func (PySem.W.fnOf "__init__" "BadTerm.__init__" (defArgs sBadTerm_init) (defBody sBadTerm_init) (defScope sBadTerm_init) .none kV dc pm an cd ct), sl⟩) (c : PySem.W.codeIn K cd "BadTerm.__init__" = true) (kf : PySem.W.keepIn K (.ref f) = true) : BadRaiseT P w K mg base B := by
  have F := fun_mk (st := sBadTerm_init) l c kf
  exact ⟨⟨⟨nm, q, N, bs, bm, sn, sub, ab, col, dd, m0, m1, m2, m3, m5, x, xb⟩, sa, e, t, kB⟩, no, PySem.W.mg_of X G aB, ⟨f, _, iB, tf, ok_bad_initT F, F.binds (ps := ["self", "path"]) fun _ _ _ _ _ _ us hl => match us, hl with | [_, _], _ => rfl⟩⟩
end
structure TermFacts (K : PySem.W.Frag) (mg : Str → Option Value) (B : Addr) : Prop where
  gB : mg "BadTerm" = some (.ref B)
  xf : XfC K B
  no : PySem.W.findIn K (.ref B) "path" = some none
  te : PySem.W.exmOne K (.ref B) (.ref B) = some true
theorem term_mk {K : PySem.W.Frag} {h : Heap} {mg : Str → Option Value} {B : Addr} (X : K.In h) (G : h.Ns mainGlobals mg) (a : PySem.W.nsIn K mainGlobals "BadTerm" = some (some (.ref B)))
    (ga : PySem.W.findIn K (.ref B) "__getattribute__" = some (some (.builtin "BaseException.__getattribute__"))) (gg : PySem.W.findIn K (.ref B) "__getattr__" = some none) (e : PySem.W.subIn K (.ref B) (.type "BaseException") = some true) (d : PySem.W.hasDictIn K B = true)
    (no : PySem.W.findIn K (.ref B) "path" = some none) (i : PySem.W.isClsIn K B = true) (t : PySem.W.typeIn K (.ref B) = some (.type "type")) (o : PySem.W.subIn K (.ref B) (.ref B) = some true) : TermFacts K mg B := ⟨PySem.W.mg_of X G a, ⟨ga, gg, e, d⟩, no, te_of e i t o⟩
def spIsInt (K : PySem.W.Frag) : Sp := fun vs H Q _ => ∃ v : V, vs = [v] ∧ ((∃ i : Int, v = .int i ∧ Q (.bl true) H) ∨ (∃ b : Bool, v = .bl b ∧ Q (.bl false) H) ∨ (∃ T : String, TyX K H v (.type T) ∧ kitB T "int" = some false ∧ Q (.bl false) H))
section
variable {P : Program} {w : World} {K : PySem.W.Frag} {mg : Str → Option Value} {base : Heap} {B : Addr}
theorem scII : FnScope ["value"] ["value"] (defScope sIsInt) := ⟨rfl, rfl, rfl, by decide +kernel, rfl, by decide +kernel, by decide +kernel⟩
theorem ok_is_int {f : Addr} {fd : FuncData} (F : Fun K "is_int" "is_int" sIsInt f fd) (T : Bare mg) : FnOk P w K mg base CX0 1 f fd ["value"] (spIsInt K) := by
  refine F.ok scII (fun vs H Q E h => ?_) (fun cdv A outer s H vs Q E hr h => ?_)
  · obtain ⟨v, rfl, _⟩ := h
    rfl
  · obtain ⟨v, rfl, h⟩ := h
    refine ⟨_, pss_one (ps_ret (pe_and (pe_callB call_isi (by rfl) T.isi (by decide +kernel) (pa_cons (pv 0) (pa_cons (pe_ty (n := "int") (by rfl) T.int (by decide +kernel)) pa_nil)))
      (pe_one (pe_not (pe_callB call_isi (by rfl) T.isi (by decide +kernel) (pa_cons (pv 0) (pa_cons (pe_ty (n := "bool") (by rfl) T.bool (by decide +kernel)) pa_nil))))))), ?_⟩
    rcases h with ⟨i, rfl, k⟩ | ⟨b, rfl, k⟩ | ⟨t, ht, hk, k⟩
    · exact ⟨_, rfl, _, _, _, _, true, rfl, .ty _, .base (.int i), kit_ty (by decide +kernel), _, rfl, iteT ⟨_, rfl, _, _, _, _, false, rfl, .ty _, .base (.int i), kit_ty (by decide +kernel), _, rfl, k⟩⟩
    · exact ⟨_, rfl, _, _, _, _, true, rfl, .ty _, .base (.bl b), kit_ty (by decide +kernel), _, rfl, iteT ⟨_, rfl, _, _, _, _, true, rfl, .ty _, .base (.bl b), kit_ty (by decide +kernel), _, rfl, k⟩⟩
    · exact ⟨_, rfl, _, _, _, _, false, rfl, .ty _, ht, kit_ty hk, _, rfl, iteF k⟩
end

def isI : PyData → Bool
  | .int _ => true
  | _ => false
def betD (d : PyData) (lo hi : Int) : Bool :=
  match d with
  | .int i => decide (lo ≤ i ∧ i ≤ hi)
  | _ => false
def tyName : PyData → String
  | .none => "NoneType"
  | .bool _ => "bool"
  | .int _ => "int"
  | .str _ => "str"
  | .list _ => "list"
  | .tuple _ => "tuple"
  | .dict _ => "dict"
theorem dp_ty {K : PySem.W.Frag} {H : Hp} {v : V} {d : PyData} (h : Dp K H v d) : TyX K H v (.type (tyName d)) := by
  cases h with
  | non => exact .base .non
  | bl b => exact .base (.bl b)
  | int i => exact .base (.int i)
  | str x => exact .base (.str x)
  | lst hs _ => exact ty_lst hs
  | tup hs _ => exact ty_tup hs
mutual
theorem dp_same {K : PySem.W.Frag} {H H' : Hp} (s : Same H H') : ∀ {v : V} {d : PyData}, Dp K H v d → Dp K H' v d
  | _, _, .non => .non
  | _, _, .bl b => .bl b
  | _, _, .int i => .int i
  | _, _, .str x => .str x
  | _, _, .lst hs ha => .lst (s.seq hs) (dpA_same s ha)
  | _, _, .tup hs ha => .tup (same_seqT s hs) (dpA_same s ha)
theorem dpA_same {K : PySem.W.Frag} {H H' : Hp} (s : Same H H') : ∀ {vs : List V} {ds : List PyData}, DpAll K H vs ds → DpAll K H' vs ds
  | _, _, .nil => .nil
  | _, _, .cons h1 h2 => .cons (dp_same s h1) (dpA_same s h2)
end
def spIsIntD (K : PySem.W.Frag) : Sp := fun vs H Q _ => ∃ (v : V) (d : PyData), vs = [v] ∧ Dp K H v d ∧ Q (.bl (isI d)) H
def spBetweenD (K : PySem.W.Frag) : Sp := fun vs H Q _ => ∃ (v : V) (d : PyData) (lo hi : Int), vs = [v, .int lo, .int hi] ∧ Dp K H v d ∧ Q (.bl (betD d lo hi)) H
def spCheckNum (K : PySem.W.Frag) (B : Addr) : Sp := fun vs H Q E => ∃ (v : V) (d : PyData) (n : Str) (lo hi : Int), vs = [v, .str n, .int lo, .int hi] ∧ Dp K H v d ∧
  ((betD d lo hi = true ∧ Q v H) ∨ (betD d lo hi = false ∧ ∀ (dd : Addr) (H' : Hp), Same H H' → H dd = none → H' dd = some (.xd [("which", .str n)]) → E (.ref B) (some dd) H'))
theorem is_int_d {P : Program} {w : World} {K : PySem.W.Frag} {mg : Str → Option Value} {base : Heap} {k : Nat} {f : Addr} {fd : FuncData} (ok : FnOk P w K mg base CX0 k f fd ["value"] (spIsInt K)) : FnOk P w K mg base CX0 k f fd ["value"] (spIsIntD K) :=
  ok.imp fun vs H Q E h => by
    obtain ⟨v, d, rfl, hd, q⟩ := h
    refine ⟨v, rfl, ?_⟩
    have ht := dp_ty hd
    cases hd with
    | non => exact .inr (.inr ⟨_, ht, (show kitB "NoneType" "int" = some false by decide +kernel), q⟩)
    | bl b => exact .inr (.inl ⟨b, rfl, q⟩)
    | int i => exact .inl ⟨i, rfl, q⟩
    | str x => exact .inr (.inr ⟨_, ht, (show kitB "str" "int" = some false by decide +kernel), q⟩)
    | lst hs _ => exact .inr (.inr ⟨_, ht, (show kitB "list" "int" = some false by decide +kernel), q⟩)
    | tup hs _ => exact .inr (.inr ⟨_, ht, (show kitB "tuple" "int" = some false by decide +kernel), q⟩)
theorem bet_int {d : PyData} {lo hi : Int} (h : betD d lo hi = true) : ∃ i, d = .int i ∧ lo ≤ i ∧ i ≤ hi := by
  cases d with
  | int i => exact ⟨i, rfl, of_decide_eq_true h⟩
  | _ => cases h
theorem isI_int {d : PyData} (h : isI d = true) : ∃ i, d = .int i := by
  cases d with
  | int i => exact ⟨i, rfl⟩
  | _ => cases h
theorem bet_no {d : PyData} {lo hi : Int} (h : isI d = false) : betD d lo hi = false := by
  cases d with
  | int i => cases h
  | _ => rfl
section
variable {P : Program} {w : World} {K : PySem.W.Frag} {mg : Str → Option Value} {base : Heap} {B : Addr}
theorem scIB : FnScope ["value", "low", "high"] ["value", "low", "high"] (defScope sIsBetween) := ⟨rfl, rfl, rfl, by decide +kernel, rfl, by decide +kernel, by decide +kernel⟩
theorem ok_betweenD {f : Addr} {fd : FuncData} (F : Fun K "is_between" "is_between" sIsBetween f fd) (G : Cal P w K mg base 1 "is_int" ["value"] (spIsIntD K)) : FnOk P w K mg base CX0 2 f fd ["value", "low", "high"] (spBetweenD K) := by
  obtain ⟨g, gd, ok, b, kp, mf⟩ := G.ex
  refine F.ok scIB (fun vs H Q E h => ?_) (fun cdv A outer s H vs Q E hr h => ?_)
  · obtain ⟨v, d, lo, hi, rfl, _⟩ := h
    rfl
  · obtain ⟨v, d, lo, hi, rfl, hd, k⟩ := h
    refine ⟨_, pss_one (ps_ret (pe_and (pe_call ok hr rfl mf kp b .nil pass0 (pa_cons (pv 0) pa_nil)) (pe_one (pe_chain op_le op_le (pv 1) (pv 0) (pv 2))))), ?_⟩
    refine ⟨_, rfl, v, d, rfl, hd, _, rfl, ?_⟩
    cases e : isI d with
    | false =>
      rw [bet_no e] at k
      exact iteF k
    | true =>
      obtain ⟨i, rfl⟩ := isI_int e
      cases hd with
      | int i =>
      refine iteT ⟨_, rfl, _, rfl, _, _, rfl, rfl, _, rfl, ?_⟩
      refine ite2 (fun z => ⟨_, rfl, _, _, rfl, rfl, ?_⟩) (fun z => ?_)
      · have z1 := of_decide_eq_true z
        have e : betD (.int i) lo hi = decide (i ≤ hi) := decide_eq_decide.mpr ⟨fun q => q.2, fun q => ⟨z1, q⟩⟩
        rw [e] at k
        exact k
      · have e : betD (.int i) lo hi = false := decide_eq_false fun q => z (decide_eq_true q.1)
        rw [e] at k
        exact k
abbrev nCN : List Str := ["value", "which", "low", "high"]
theorem scCN : FnScope nCN nCN (defScope sCheckNumber) := ⟨rfl, rfl, rfl, by decide +kernel, rfl, by decide +kernel, by decide +kernel⟩
theorem ok_check_num {f : Addr} {fd : FuncData} (F : Fun K "check_number" "check_number" sCheckNumber f fd) (G : Cal P w K mg base 1 "is_int" ["value"] (spIsIntD K)) (N : BadRaiseN P w K mg base B) : FnOk P w K mg base (L2.CX P w) 3 f fd nCN (spCheckNum K B) := by
  obtain ⟨gi, gid, oki, bi, ki, mi⟩ := G.ex
  obtain ⟨g, gd, iC, tI, ok, b⟩ := N.init
  refine F.okX scCN (fun vs H Q E h => ?_) (fun cdv A outer s H vs Q E hr h => ?_)
  · obtain ⟨v, d, n, lo, hi, rfl, _⟩ := h
    rfl
  · obtain ⟨v, d, n, lo, hi, rfl, hd, h⟩ := h
    refine ⟨_, pss_cons (ps_if (pt_not (pt_val (pe_call oki (hr.mono (by decide)) rfl mi ki bi .nil pass0 (pa_cons (pv 0) pa_nil))))
        (pss_one (ps_raise rfl (takes_of rfl rfl rfl rfl) (pmk_oex N.oex iC tI ok hr b .nil pass0 rfl N.gB (pa_cons (pv 1) pa_nil)))) pss_nil)
      (pss_cons (ps_if (PW.pt (pw_and (pt_cmpR op_notN (pv 2) pe_non (nomark _)) (pw_and1 (pt_cmpR op_lt (pv 0) (pv 2) (nomark _)))))
        (pss_one (ps_raise rfl (takes_of rfl rfl rfl rfl) (pmk_oex N.oex iC tI ok hr b .nil pass0 rfl N.gB (pa_cons (pv 1) pa_nil)))) pss_nil)
      (pss_cons (ps_if (PW.pt (pw_and (pt_cmpR op_notN (pv 3) pe_non (nomark _)) (pw_and1 (pt_cmpR op_gt (pv 0) (pv 3) (nomark _)))))
        (pss_one (ps_raise rfl (takes_of rfl rfl rfl rfl) (pmk_oex N.oex iC tI ok hr b .nil pass0 rfl N.gB (pa_cons (pv 1) pa_nil)))) pss_nil)
      (pss_one (ps_ret (pv 0))))), ?_⟩
    refine ⟨_, rfl, v, d, rfl, hd, _, rfl, ?_⟩
    cases e : isI d with
    | false =>
      rcases h with ⟨q, _⟩ | ⟨_, k⟩
      · rw [bet_no e] at q
        cases q
      · exact iteT (bad_readN N (fun Q' q => ⟨_, rfl, q⟩) k)
    | true =>
      obtain ⟨i, rfl⟩ := isI_int e
      cases hd with
      | int i =>
      refine iteF ⟨_, rfl, rfl, _, rfl, iteT ⟨_, rfl, _, rfl, _, _, rfl, rfl, _, rfl, ite2 (fun z => ?_) (fun z => ⟨_, rfl, rfl, _, rfl, iteT ⟨_, rfl, _, rfl, _, _, rfl, rfl, _, rfl, ite2 (fun z2 => ?_) (fun z2 => ⟨_, rfl, ?_⟩)⟩⟩)⟩⟩
      all_goals rcases h with ⟨q, k⟩ | ⟨q, k⟩
      · have := of_decide_eq_true z
        have := (of_decide_eq_true (p := lo ≤ i ∧ i ≤ hi) q).1
        omega
      · exact bad_readN N (fun Q' q => ⟨_, rfl, q⟩) k
      · have := of_decide_eq_true z2
        have := (of_decide_eq_true (p := lo ≤ i ∧ i ≤ hi) q).2
        omega
      · exact bad_readN N (fun Q' q => ⟨_, rfl, q⟩) k
      · exact k
      · have n := of_decide_eq_false (p := lo ≤ i ∧ i ≤ hi) q
        have z : ¬ i < lo := fun w => z (decide_eq_true w)
        have z2 : ¬ hi < i := fun w => z2 (decide_eq_true w)
        exact absurd ⟨by omega, by omega⟩ n
end
end Fam

/-! Terms, and their walks. -/
namespace Fam
open PySem L2
open C8 (pss_cut tCut)
/-! ### rows beside rows -/
def Al {α : Type} (R : V → α → Prop) : List V → List α → Prop
  | [], [] => True
  | x :: xs, a :: as => R x a ∧ Al R xs as
  | _, _ => False
theorem Al.imp {α : Type} {R S : V → α → Prop} (f : ∀ x a, R x a → S x a) : ∀ {xs : List V} {as : List α}, Al R xs as → Al S xs as
  | [], [], _ => trivial
  | _ :: _, _ :: _, ⟨h1, h2⟩ => ⟨f _ _ h1, h2.imp f⟩
  | [], _ :: _, h => h.elim
  | _ :: _, [], h => h.elim
theorem Al.append {α : Type} {R : V → α → Prop} : ∀ {xs ys : List V} {as bs : List α}, Al R xs as → Al R ys bs → Al R (xs ++ ys) (as ++ bs)
  | [], _, [], _, _, h => h
  | _ :: _, _, _ :: _, _, ⟨h1, h2⟩, h => ⟨h1, h2.append h⟩
  | [], _, _ :: _, _, h, _ => h.elim
  | _ :: _, _, [], _, h, _ => h.elim
theorem Al.len {α : Type} {R : V → α → Prop} : ∀ {xs : List V} {as : List α}, Al R xs as → xs.length = as.length
  | [], [], _ => rfl
  | _ :: _, _ :: _, ⟨_, h2⟩ => by rw [List.length_cons, List.length_cons, h2.len]
  | [], _ :: _, h => h.elim
  | _ :: _, [], h => h.elim
theorem Al.rev {α : Type} {R : V → α → Prop} : ∀ {xs : List V} {as : List α}, Al R xs as → Al R xs.reverse as.reverse
  | [], [], _ => trivial
  | x :: xs, a :: as, ⟨h1, h2⟩ => by
    rw [List.reverse_cons, List.reverse_cons]
    exact h2.rev.append ⟨h1, trivial⟩
  | [], _ :: _, h => h.elim
  | _ :: _, [], h => h.elim
/-- the last of a row that has one -/
theorem Al.snoc {α : Type} {R : V → α → Prop} : ∀ {xs : List V} {x : V} {as : List α}, Al R (xs ++ [x]) as → ∃ as' a, as = as' ++ [a] ∧ Al R xs as' ∧ R x a
  | [], x, [a], ⟨h, _⟩ => ⟨[], a, rfl, trivial, h⟩
  | y :: xs, x, a :: as, ⟨h1, h2⟩ => by
    obtain ⟨as', b, e, h3, h4⟩ := Al.snoc (xs := xs) h2
    exact ⟨a :: as', b, by rw [e]; rfl, ⟨h1, h3⟩, h4⟩
  | [], x, [], h => h.elim
  | [], x, _ :: _ :: _, h => h.2.elim
  | y :: xs, x, [], h => h.elim
theorem Al.snoc2 {α : Type} {R : V → α → Prop} {a : α} : ∀ {xs : List V} {as : List α}, Al R xs (as ++ [a]) → ∃ xs' x, xs = xs' ++ [x] ∧ Al R xs' as ∧ R x a := fun {xs as} h => by
  have l := h.len
  rw [List.length_append] at l
  rcases List.eq_nil_or_concat xs with e | ⟨xs', x, e⟩
  · subst e
    simp at l
  · rw [List.concat_eq_append] at e
    subst e
    obtain ⟨as', b, e, h3, h4⟩ := h.snoc
    obtain ⟨e1, e2⟩ := List.append_inj' e rfl
    have e3 : a = b := by simpa using e2
    subst e1 e3
    exact ⟨xs', x, rfl, h3, h4⟩
theorem Al.get {α : Type} {R : V → α → Prop} : ∀ {xs : List V} {as : List α} {i : Nat} {x : V}, Al R xs as → xs[i]? = some x → ∃ a, as[i]? = some a ∧ R x a
  | [], [], i, x, _, e => by cases e
  | y :: xs, a :: as, 0, x, h, e => by
    cases e
    exact ⟨a, rfl, h.1⟩
  | y :: xs, a :: as, i + 1, x, h, e => by
    obtain ⟨b, e1, e2⟩ := h.2.get (i := i) e
    exact ⟨b, e1, e2⟩
  | [], _ :: _, i, x, h, e => h.elim
  | _ :: _, [], i, x, h, e => h.elim
theorem Al.get2 {α : Type} {R : V → α → Prop} : ∀ {xs : List V} {as : List α} {i : Nat} {a : α}, Al R xs as → as[i]? = some a → ∃ x, xs[i]? = some x ∧ R x a
  | [], [], i, x, _, e => by cases e
  | y :: xs, a :: as, 0, x, h, e => by
    cases e
    exact ⟨y, rfl, h.1⟩
  | y :: xs, a :: as, i + 1, x, h, e => by
    obtain ⟨b, e1, e2⟩ := h.2.get2 (i := i) e
    exact ⟨b, e1, e2⟩
  | [], _ :: _, i, x, h, e => h.elim
  | _ :: _, [], i, x, h, e => h.elim
theorem Al.take {α : Type} {R : V → α → Prop} : ∀ {xs : List V} {as : List α} (i : Nat), Al R xs as → Al R (xs.take i) (as.take i)
  | [], [], i, _ => by rw [List.take_nil, List.take_nil]; trivial
  | _ :: _, _ :: _, 0, _ => trivial
  | _ :: _, _ :: _, i + 1, ⟨h1, h2⟩ => ⟨h1, h2.take i⟩
  | [], _ :: _, _, h => h.elim
  | _ :: _, [], _, h => h.elim
theorem Al.drop {α : Type} {R : V → α → Prop} : ∀ {xs : List V} {as : List α} (i : Nat), Al R xs as → Al R (xs.drop i) (as.drop i)
  | [], [], i, _ => by rw [List.drop_nil, List.drop_nil]; trivial
  | _ :: _, _ :: _, 0, h => h
  | _ :: _, _ :: _, i + 1, ⟨h1, h2⟩ => h2.drop i
  | [], _ :: _, _, h => h.elim
  | _ :: _, [], _, h => h.elim
theorem Al.set {α : Type} {R : V → α → Prop} {x : V} {a : α} (q : R x a) : ∀ {xs : List V} {as : List α} (i : Nat), Al R xs as → Al R (xs.set i x) (as.set i a)
  | [], [], i, _ => trivial
  | _ :: _, _ :: _, 0, ⟨_, h2⟩ => ⟨q, h2⟩
  | _ :: _, _ :: _, i + 1, ⟨h1, h2⟩ => ⟨h1, h2.set q i⟩
  | [], _ :: _, _, h => h.elim
  | _ :: _, [], _, h => h.elim
theorem Al.map {α : Type} {R : V → α → Prop} (g : α → V) (h : ∀ a, R (g a) a) : ∀ as : List α, Al R (as.map g) as
  | [] => trivial
  | a :: as => ⟨h a, Al.map g h as⟩
theorem last_of (xs : List V) (x : V) : (xs ++ [x])[(xs ++ [x]).length - 1]? = some x := by
  rw [List.length_append]
  show (xs ++ [x])[xs.length + 1 - 1]? = _
  rw [Nat.add_sub_cancel, List.getElem?_append_right (Nat.le_refl _), Nat.sub_self]
  rfl
theorem ne_snoc (xs : List V) (x : V) : (!(xs ++ [x]).isEmpty) = true := by
  cases xs <;> rfl
/-- all tuples stand -/
def Tups (H H' : Hp) : Prop := ∀ p xs, H p = some (.tup xs) → H' p = some (.tup xs)
theorem Tups.refl (H : Hp) : Tups H H := fun _ _ h => h
theorem Tups.trans {H H1 H2 : Hp} (a : Tups H H1) (b : Tups H1 H2) : Tups H H2 := fun p xs h => b p xs (a p xs h)
theorem Tups.of {H H' : Hp} (s : Same H H') : Tups H H' := fun p xs h => s _ _ h
theorem Tups.kp {H H' : Hp} {a : Addr} {ys : List V} (ha : H a = some (.lst ys)) (k : Kp a H H') : Tups H H' := fun p xs h => k _ _ (ne_of h ha (by intro z; cases z)) h
theorem Tups.upd {H : Hp} {a : Addr} {ys : List V} {o : HO} (ha : H a = some (.lst ys)) : Tups H (upd H a o) := fun p xs h => by
  rw [upd_ne (ne_of h ha (by intro z; cases z))]
  exact h
/-! ### terms -/
inductive Tm where
  | hole
  | leaf (a : Nat) (bs : List Nat)
  | join (j : Nat) (l r : Tm)
def Tm.nodes : Tm → Nat
  | .join _ l r => l.nodes + r.nodes + 1
  | _ => 1
def TmAt (H : Hp) : V → Tm → Prop
  | v, .hole => v = .non
  | v, .leaf a bs => ∃ p q, v = .ref p ∧ H p = some (.tup [vInt a, .ref q]) ∧ H q = some (.tup (bs.map vInt))
  | v, .join j l r => ∃ p x y, v = .ref p ∧ H p = some (.tup [vInt j, x, y]) ∧ TmAt H x l ∧ TmAt H y r
theorem TmAt.tups {H H' : Hp} (k : Tups H H') : ∀ {t : Tm} {v : V}, TmAt H v t → TmAt H' v t
  | .hole, _, h => h
  | .leaf _ _, _, ⟨p, q, e, h1, h2⟩ => ⟨p, q, e, k _ _ h1, k _ _ h2⟩
  | .join _ _ _, _, ⟨p, x, y, e, h1, h2, h3⟩ => ⟨p, x, y, e, k _ _ h1, h2.tups k, h3.tups k⟩
theorem TmAt.same {H H' : Hp} (s : Same H H') {t : Tm} {v : V} (h : TmAt H v t) : TmAt H' v t := h.tups (Tups.of s)
/-- a step of the walk -/
inductive Stp where
  | tm (t : Tm)
  | num (j : Nat)
def StpAt (H : Hp) : V → Stp → Prop
  | v, .tm t => TmAt H v t
  | v, .num j => v = vInt j
theorem StpAt.tups {H H' : Hp} (k : Tups H H') : ∀ {t : Stp} {v : V}, StpAt H v t → StpAt H' v t
  | .tm _, _, h => TmAt.tups k h
  | .num _, _, h => h
def post : Tm → List Stp
  | .hole => [.tm .hole]
  | .leaf a bs => [.tm (.leaf a bs)]
  | .join j l r => post l ++ post r ++ [.num j]
theorem post_len : ∀ t : Tm, (post t).length = t.nodes
  | .hole => rfl
  | .leaf _ _ => rfl
  | .join j l r => by
    show (post l ++ post r ++ [Stp.num j]).length = l.nodes + r.nodes + 1
    rw [List.length_append, List.length_append, post_len l, post_len r]
    rfl
/-- the walk back to front -/
def rpost (t : Tm) : List Stp := (post t).reverse
theorem rpost_join (j : Nat) (l r : Tm) : rpost (.join j l r) = .num j :: (rpost r ++ rpost l) := by
  unfold rpost
  show (post l ++ post r ++ [Stp.num j]).reverse = _
  rw [List.reverse_append, List.reverse_append]
  rfl
def nodesL (ts : List Tm) : Nat := (ts.map Tm.nodes).sum
theorem nodes_pos : ∀ t : Tm, 0 < t.nodes
  | .hole => Nat.one_pos
  | .leaf _ _ => Nat.one_pos
  | .join _ _ _ => Nat.succ_pos _
theorem nodesL_snoc (ts : List Tm) (t : Tm) : nodesL (ts ++ [t]) = nodesL ts + t.nodes := by
  unfold nodesL
  rw [List.map_append, List.sum_append]
  simp
theorem nodesL_len (ts : List Tm) : ts.length ≤ nodesL ts := by
  induction ts with
  | nil => exact Nat.zero_le _
  | cons t ts ih =>
    have := nodes_pos t
    unfold nodesL at ih ⊢
    rw [List.map_cons, List.sum_cons, List.length_cons]
    omega
def spPostfix : Sp := fun vs H Q _ => ∃ (v : V) (t : Tm), vs = [v] ∧ TmAt H v t ∧ t.nodes ≤ 100000 ∧ ∀ (H' : Hp) (p : Addr) (xs : List V), Same H H' → H p = none → H' p = some (.lst xs) → Al (StpAt H') xs (post t) → Q (.ref p) H'
/-- the stack machine of the walk -/
def runS : List Stp → List Tm → Option (List Tm)
  | [], st => some st
  | .tm t :: ss, st => runS ss (t :: st)
  | .num j :: ss, r :: l :: st => runS ss (.join j l r :: st)
  | .num _ :: _, _ => none
theorem runS_post : ∀ (t : Tm) (ss : List Stp) (st : List Tm), runS (post t ++ ss) st = runS ss (t :: st)
  | .hole, ss, st => rfl
  | .leaf a bs, ss, st => rfl
  | .join j l r, ss, st => by
    show runS ((post l ++ post r ++ [Stp.num j]) ++ ss) st = _
    rw [List.append_assoc, List.append_assoc, runS_post l, runS_post r]
    rfl
theorem runS_all (t : Tm) : runS (post t) [] = some [t] := by
  have := runS_post t [] []
  rw [List.append_nil] at this
  exact this
def spRebuilt (K : PySem.W.Frag) : Sp := fun vs H Q _ => ∃ (p : Addr) (xs : List V) (ss : List Stp) (t : Tm), vs = [.ref p] ∧ SqL K H p xs ∧ Al (StpAt H) xs ss ∧ runS ss [] = some [t] ∧ xs.length ≤ 100000 ∧ ∀ (H' : Hp) (v : V), Same H H' → TmAt H' v t → Q v H'
section
variable {P : Program} {w : World} {K : PySem.W.Frag} {mg : Str → Option Value} {base : Heap}
abbrev nPF : List Str := ["term", "found", "todo", "part"]
theorem scPF : FnScope nPF ["term"] (defScope sPostfix) := ⟨rfl, rfl, rfl, by decide +kernel, rfl, by decide +kernel, by decide +kernel⟩
theorem ok_postfix {f : Addr} {fd : FuncData} (F : Fun K "postfix" "postfix" sPostfix f fd) (T : Bare mg) : FnOk P w K mg base CX0 1 f fd ["term"] spPostfix := by
  refine F.ok scPF (fun vs H Q E h => ?_) (fun cdv A outer s H vs Q E hr h => ?_)
  · obtain ⟨v, t, rfl, _⟩ := h
    rfl
  · obtain ⟨v, t, rfl, ht, hn, k⟩ := h
    refine ⟨_, (pss_cons (ps_set (i := 1) scPF.nd rfl (Or.inl rfl) (pe_lst pa_nil))
      (pss_cons (ps_set (i := 2) scPF.nd rfl (Or.inl rfl) (pe_lst (pa_cons (pv 0) pa_nil)))
      (pss_cons (ps_while PassesOwn.never (pt_truth (pv 2) (by intro _; rfl))
          (pss_cons (ps_set (i := 3) scPF.nd rfl (Or.inl rfl) (pe_bm0 PySem.F.plainAttrs_list PySem.F.slot_list_pop PySem.F.type_list_pop mt_pop (pv 2)))
          (pss_one (ps_if (PW.pt (pw_or (pt_cmpR op_isN (pv 3) pe_non (nomark _)) (pw_or1 (pt_cmpR op_eq (pe_callB call_len_seq (by rfl) T.len PySem.boot_len (pa_cons (pv 3) pa_nil)) pe_int (nomark _))))) (pss_one (ps_expr (pe_bm PySem.F.plainAttrs_list PySem.F.slot_list_append PySem.F.type_list_append mt_append (pv 1) (pa_cons (pv 3) pa_nil)))) (pss_cons (ps_expr (pe_bm PySem.F.plainAttrs_list PySem.F.slot_list_append PySem.F.type_list_append mt_append (pv 1) (pa_cons (pe_ix ix_tup (pv 3) pe_int (fun _ _ => rfl)) pa_nil)))
              (pss_cons (ps_expr (pe_bm PySem.F.plainAttrs_list PySem.F.slot_list_append PySem.F.type_list_append mt_append (pv 2) (pa_cons (pe_ix ix_tup (pv 3) pe_int (fun _ _ => rfl)) pa_nil)))
              (pss_one (ps_expr (pe_bm PySem.F.plainAttrs_list PySem.F.slot_list_append PySem.F.type_list_append mt_append (pv 2) (pa_cons (pe_ix ix_tup (pv 3) pe_int (fun _ _ => rfl)) pa_nil))))))))))
      (pss_one (ps_ret (pe_revL (pv 1))))))), ?_⟩
    refine ⟨small (m := 1) (Nat.zero_le _), fun D1 hD1 => ⟨_, rfl, small (m := 1) (Nat.le_refl _), fun D2 hD2 => ?_⟩⟩
    have s1 := same_new (o := .lst []) hD1
    have s2 := same_new (o := .lst [v]) hD2
    have n2 : H D2 = none := s1.free hD2
    have n12 : D1 ≠ D2 := (ne_of_none upd_same hD2)
    refine ⟨fun m σ H' => ∃ (y3 : Option V) (fs ts : List V) (ss : List Stp) (us : List Tm), σ = [some v, some (.ref D1), some (.ref D2), y3] ∧ m = nodesL us ∧ Same H H' ∧ H' D1 = some (.lst fs) ∧ H' D2 = some (.lst ts) ∧ Al (StpAt H') fs ss ∧ Al (TmAt H') ts us ∧ rpost t = ss ++ (us.reverse.map rpost).flatten ∧ ss.length + nodesL us ≤ t.nodes,
      ⟨_, none, [], [v], [], [t], rfl, rfl, s1.trans s2, s2 _ _ upd_same, upd_same, trivial, ⟨ht.same (s1.trans s2), trivial⟩, by simp, by rw [show nodesL [t] = t.nodes by simp [nodesL]]; simp⟩, ?_⟩
    rintro m σ H1 ⟨y3, fs, ts, ss, us, rfl, rfl, sm, hf, ht1, hS, hT, hr, hle⟩
    refine ⟨_, rfl, _, .inl ⟨ts, SqL.of ht1, rfl⟩, ?_⟩
    rcases List.eq_nil_or_concat ts with rfl | ⟨ts', x, rfl⟩
    · have e : us = [] := by
        cases us with
        | nil => rfl
        | cons _ _ => exact hT.elim
      subst e
      refine iteF ⟨_, rfl, D1, fs, rfl, SqL.of hf, fun p hp => ?_⟩
      have s3 := same_new (o := .lst fs.reverse) hp
      refine k _ p fs.reverse (sm.trans s3) (sm.free hp) upd_same ?_
      have : post t = ss.reverse := by
        have := congrArg List.reverse hr
        rw [show rpost t = (post t).reverse from rfl, List.reverse_reverse] at this
        rw [this]
        simp
      rw [this]
      exact (hS.imp fun _ _ h => h.tups (Tups.of s3)).rev
    rw [List.concat_eq_append] at ht1 hT ⊢
    obtain ⟨us', u, rfl, hT', hu⟩ := hT.snoc
    rw [ne_snoc]
    refine iteT ⟨fun σ' H' => ∃ m', m' < nodesL (us' ++ [u]) ∧ ∃ (y3 : Option V) (fs ts : List V) (ss : List Stp) (us : List Tm), σ' = [some v, some (.ref D1), some (.ref D2), y3] ∧ m' = nodesL us ∧ Same H H' ∧ H' D1 = some (.lst fs) ∧ H' D2 = some (.lst ts) ∧ Al (StpAt H') fs ss ∧ Al (TmAt H') ts us ∧ rpost t = ss ++ (us.reverse.map rpost).flatten ∧ ss.length + nodesL us ≤ t.nodes, fun σ' H' h => h, ?_⟩
    refine ⟨_, rfl, .inl ⟨rfl, _, SqL.of ht1⟩, D2, _, _, rfl, rfl, ht1, last_of _ _, ?_⟩
    rw [List.dropLast_concat]
    obtain ⟨H2, eH2⟩ : ∃ H2, H2 = upd H1 D2 (.lst ts') := ⟨_, rfl⟩
    rw [← eH2]
    have tu : Tups H1 H2 := by rw [eH2]; exact Tups.upd ht1
    have sm2 : Same H H2 := by rw [eH2]; exact same_upd sm n2
    have hf2 : H2 D1 = some (.lst fs) := by rw [eH2, upd_ne n12]; exact hf
    have ht2 : H2 D2 = some (.lst ts') := by rw [eH2]; exact upd_same
    have hS2 := hS.imp fun _ _ h => h.tups tu
    have hT2 := hT'.imp fun _ _ h => h.tups tu
    have hu2 := hu.tups tu
    have er : (us' ++ [u]).reverse.map rpost = rpost u :: us'.reverse.map rpost := by
      rw [List.reverse_append]
      rfl
    rw [er, List.flatten_cons] at hr
    rw [nodesL_snoc] at hle ⊢
    have lenf : fs.length + ts'.length ≤ 100000 := by
      have h1 := hS.len
      have h2 := hT'.len
      have h3 := nodesL_len us'
      omega
    have one : ∀ (st : Stp), rpost u = [st] → u.nodes = 1 → StpAt H2 x st → ∃ m', m' < nodesL us' + u.nodes ∧ ∃ (y3 : Option V) (fs' ts : List V) (ss : List Stp) (us : List Tm), [some v, some (.ref D1), some (.ref D2), some x] = [some v, some (V.ref D1), some (.ref D2), y3] ∧ m' = nodesL us ∧ Same H (upd H2 D1 (.lst (fs ++ [x]))) ∧ (upd H2 D1 (.lst (fs ++ [x]))) D1 = some (.lst fs') ∧ (upd H2 D1 (.lst (fs ++ [x]))) D2 = some (.lst ts) ∧ Al (StpAt (upd H2 D1 (.lst (fs ++ [x])))) fs' ss ∧ Al (TmAt (upd H2 D1 (.lst (fs ++ [x])))) ts us ∧ rpost t = ss ++ (us.reverse.map rpost).flatten ∧ ss.length + nodesL us ≤ t.nodes := fun st e1 e2 e3 => by
      have t3 : Tups H2 (upd H2 D1 (.lst (fs ++ [x]))) := Tups.upd hf2
      refine ⟨nodesL us', by omega, some x, fs ++ [x], ts', ss ++ [st], us', rfl, rfl, same_upd sm2 hD1, upd_same, ?_, ?_, hT2.imp fun _ _ h => h.tups t3, ?_, ?_⟩
      · rw [upd_ne n12.symm]
        exact ht2
      · exact (hS2.imp fun _ _ h => h.tups t3).append ⟨e3.tups t3, trivial⟩
      · rw [hr, e1, List.append_assoc]
      · rw [List.length_append]
        show ss.length + 1 + _ ≤ _
        omega
    cases u with
    | hole =>
      have e : x = .non := hu2
      subst e
      refine ⟨_, rfl, rfl, _, rfl, iteT ?_⟩
      exact ⟨_, rfl, .inl ⟨rfl, _, SqL.of hf2⟩, _, rfl, D1, _, _, rfl, rfl, hf2, below (m := 200000) (by omega), one (.tm .hole) rfl rfl rfl⟩
    | leaf a bs =>
      obtain ⟨p, q, rfl, h1, h2⟩ := id hu2
      refine ⟨_, rfl, rfl, _, rfl, iteF ?_⟩
      refine ⟨_, rfl, p, _, rfl, .inr (SqT.of h1), rfl, _, rfl, iteT ?_⟩
      exact ⟨_, rfl, .inl ⟨rfl, _, SqL.of hf2⟩, _, rfl, D1, _, _, rfl, rfl, hf2, below (m := 200000) (by omega), one (.tm (.leaf a bs)) rfl rfl ⟨p, q, rfl, h1, h2⟩⟩
    | join j l r =>
      obtain ⟨p, y, z, rfl, h1, h2, h3⟩ := id hu2
      refine ⟨_, rfl, rfl, _, rfl, iteF ?_⟩
      refine ⟨_, rfl, p, _, rfl, .inr (SqT.of h1), rfl, _, rfl, iteF ?_⟩
      refine ⟨_, rfl, .inl ⟨rfl, _, SqL.of hf2⟩, _, rfl, p, _, _, _, rfl, rfl, SqT.of h1, atI_nat (j := 0) rfl, D1, _, _, rfl, rfl, hf2, below (m := 200000) (by omega), ?_⟩
      obtain ⟨H3, eH3⟩ : ∃ H3, H3 = upd H2 D1 (.lst (fs ++ [vInt j])) := ⟨_, rfl⟩
      rw [← eH3]
      have t3 : Tups H2 H3 := by rw [eH3]; exact Tups.upd hf2
      have sm3 : Same H H3 := by rw [eH3]; exact same_upd sm2 hD1
      have hf3 : H3 D1 = some (.lst (fs ++ [vInt j])) := by rw [eH3]; exact upd_same
      have ht3 : H3 D2 = some (.lst ts') := by rw [eH3, upd_ne n12.symm]; exact ht2
      refine ⟨_, rfl, .inl ⟨rfl, _, SqL.of ht3⟩, _, rfl, p, _, _, _, rfl, rfl, SqT.of (t3 _ _ h1), atI_nat (j := 1) rfl, D2, _, _, rfl, rfl, ht3, below (m := 200000) (by omega), ?_⟩
      obtain ⟨H4, eH4⟩ : ∃ H4, H4 = upd H3 D2 (.lst (ts' ++ [y])) := ⟨_, rfl⟩
      rw [← eH4]
      have t4 : Tups H3 H4 := by rw [eH4]; exact Tups.upd ht3
      have sm4 : Same H H4 := by rw [eH4]; exact same_upd sm3 n2
      have hf4 : H4 D1 = some (.lst (fs ++ [vInt j])) := by rw [eH4, upd_ne n12]; exact hf3
      have ht4 : H4 D2 = some (.lst (ts' ++ [y])) := by rw [eH4]; exact upd_same
      have t24 := t3.trans t4
      refine ⟨_, rfl, .inl ⟨rfl, _, SqL.of ht4⟩, _, rfl, p, _, _, _, rfl, rfl, SqT.of (t24 _ _ h1), atI_nat (j := 2) rfl, D2, _, _, rfl, rfl, ht4, ?_, ?_⟩
      · rw [List.length_append]
        show ts'.length + 1 < _
        exact below (m := 200000) (by omega)
      have t5 : Tups H4 (upd H4 D2 (.lst (ts' ++ [y] ++ [z]))) := Tups.upd ht4
      have t25 := t24.trans t5
      refine ⟨nodesL (us' ++ [l] ++ [r]), ?_, some (.ref p), fs ++ [vInt j], ts' ++ [y] ++ [z], ss ++ [.num j], us' ++ [l] ++ [r], rfl, rfl, same_upd sm4 n2, ?_, upd_same, Al.append (ys := [vInt j]) (bs := [Stp.num j]) (hS2.imp fun _ _ h => h.tups t25) ⟨rfl, trivial⟩, ?_, ?_, ?_⟩
      · rw [nodesL_snoc, nodesL_snoc]
        show _ < nodesL us' + (l.nodes + r.nodes + 1)
        omega
      · rw [upd_ne n12]
        exact hf4
      · exact Al.append (ys := [z]) (bs := [r]) (Al.append (ys := [y]) (bs := [l]) (hT2.imp fun _ _ h => h.tups t25) ⟨h2.tups t25, trivial⟩) ⟨h3.tups t25, trivial⟩
      · rw [hr, rpost_join, List.reverse_append, List.reverse_append]
        simp
      · rw [List.length_append, nodesL_snoc, nodesL_snoc]
        have : (Tm.join j l r).nodes = l.nodes + r.nodes + 1 := rfl
        show ss.length + 1 + _ ≤ _
        omega
abbrev nRB : List Str := ["steps", "parts", "step", "right", "left"]
theorem scRB : FnScope nRB ["steps"] (defScope sRebuilt) := ⟨rfl, rfl, rfl, by decide +kernel, rfl, by decide +kernel, by decide +kernel⟩
theorem ok_rebuilt {f : Addr} {fd : FuncData} (F : Fun K "rebuilt" "rebuilt" sRebuilt f fd) (GI : Cal P w K mg base 1 "is_int" ["value"] (spIsInt K)) : FnOk P w K mg base CX0 2 f fd ["steps"] (spRebuilt K) := by
  obtain ⟨_, _, ok_ii, b_ii, k_ii, m_ii⟩ := GI.ex
  refine F.ok scRB (fun vs H Q E h => ?_) (fun cdv A outer s H vs Q E hr h => ?_)
  · obtain ⟨p, xs, ss, t, rfl, _⟩ := h
    rfl
  · obtain ⟨p, xs, ss, t, rfl, hp, hS, hrun, hl, k⟩ := h
    have hr_ii := hr
    refine ⟨_, (pss_cons (ps_set (i := 1) scRB.nd rfl (Or.inl rfl) (pe_lst pa_nil))
      (pss_cons (ps_for PassesOwn.never rfl (pi_list (pv 0)) (pg_name (i := 2) scRB.nd rfl (Or.inl rfl))
          (pss_one (ps_if (pt_val (pe_call ok_ii hr_ii rfl m_ii k_ii b_ii .nil pass0 (pa_cons (pv 2) pa_nil))) (pss_cons (ps_set (i := 3) scRB.nd rfl (Or.inl rfl) (pe_bm0 PySem.F.plainAttrs_list PySem.F.slot_list_pop PySem.F.type_list_pop mt_pop (pv 1)))
              (pss_cons (ps_set (i := 4) scRB.nd rfl (Or.inl rfl) (pe_bm0 PySem.F.plainAttrs_list PySem.F.slot_list_pop PySem.F.type_list_pop mt_pop (pv 1)))
              (pss_one (ps_expr (pe_bm PySem.F.plainAttrs_list PySem.F.slot_list_append PySem.F.type_list_append mt_append (pv 1) (pa_cons (pe_tup (pa_cons (pv 2) (pa_cons (pv 4) (pa_cons (pv 3) pa_nil)))) pa_nil)))))) (pss_one (ps_expr (pe_bm PySem.F.plainAttrs_list PySem.F.slot_list_append PySem.F.type_list_append mt_append (pv 1) (pa_cons (pv 2) pa_nil)))))))
      (pss_one (ps_ret (pe_ix ix_list (pv 1) pe_int (fun _ _ => rfl)))))), ?_⟩
    refine ⟨small (m := 1) (Nat.zero_le _), fun D hD => ?_⟩
    have s1 := same_new (o := .lst []) hD
    refine ⟨_, rfl, p, rfl, ⟨_, s1.seq hp⟩, for_list (xs := xs) (fun i σ H' => ∃ (y2 y3 y4 : Option V) (ys : List V) (st : List Tm), σ = [some (.ref p), some (.ref D), y2, y3, y4] ∧ Same H H' ∧ H' D = some (.lst ys) ∧ Al (TmAt H') ys st.reverse ∧ runS (ss.drop i) st = some [t] ∧ st.length ≤ i)
      ⟨none, none, none, [], [], rfl, s1, upd_same, trivial, hrun, Nat.le_refl _⟩ ?_ ?_ ?_⟩
    · rintro i σ H1 hi ⟨y2, y3, y4, ys, st, rfl, sm, _⟩
      exact sm.seq hp
    · rintro i x σ H1 hx ⟨y2, y3, y4, ys, st, rfl, sm, hy, hst, hrn, hle⟩
      obtain ⟨sp, hsp, hxs⟩ := hS.get hx
      have hi : i < xs.length := by
        rcases Nat.lt_or_ge i xs.length with q | q
        · exact q
        · rw [List.getElem?_eq_none q] at hx
          cases hx
      have ed : ss.drop i = sp :: ss.drop (i + 1) := by
        have hi2 : i < ss.length := by rw [← hS.len]; exact hi
        rw [List.drop_eq_getElem_cons hi2]
        rw [List.getElem?_eq_getElem hi2] at hsp
        rw [Option.some.inj hsp]
      rw [ed] at hrn
      have hys := hst.len
      rw [List.length_reverse] at hys
      have push : ∀ (tm : Tm), TmAt H1 x tm → runS (ss.drop (i + 1)) (tm :: st) = some [t] → ∃ (y2' y3' y4' : Option V) (ys' : List V) (st : List Tm), [some (.ref p), some (.ref D), some x, y3, y4] = [some (V.ref p), some (V.ref D), y2', y3', y4'] ∧ Same H (upd H1 D (.lst (ys ++ [x]))) ∧ (upd H1 D (.lst (ys ++ [x]))) D = some (.lst ys') ∧ Al (TmAt (upd H1 D (.lst (ys ++ [x])))) ys' st.reverse ∧ runS (ss.drop (i + 1)) st = some [t] ∧ st.length ≤ i + 1 := fun tm h1 h2 => by
        have tu : Tups H1 (upd H1 D (.lst (ys ++ [x]))) := Tups.upd hy
        refine ⟨_, _, _, ys ++ [x], tm :: st, rfl, same_upd sm hD, upd_same, ?_, h2, by rw [List.length_cons]; omega⟩
        rw [List.reverse_cons]
        exact (hst.imp fun _ _ h => h.tups tu).append ⟨h1.tups tu, trivial⟩
      cases sp with
      | tm tm =>
        have hx1 : TmAt H1 x tm := TmAt.same sm hxs
        have ty : ∃ T : String, TyX K H1 x (.type T) ∧ kitB T "int" = some false := by
          cases tm with
          | hole =>
            have e : x = .non := hx1
            subst e
            exact ⟨"NoneType", .base .non, by decide +kernel⟩
          | leaf a bs =>
            obtain ⟨q, q2, rfl, h1, h2⟩ := id hx1
            exact ⟨"tuple", .base (.tup h1), by decide +kernel⟩
          | join j l r =>
            obtain ⟨q, y, z, rfl, h1, h2⟩ := id hx1
            exact ⟨"tuple", .base (.tup h1), by decide +kernel⟩
        obtain ⟨T, h1, h2⟩ := ty
        refine ⟨_, rfl, x, rfl, .inr (.inr ⟨T, h1, h2, false, rfl, iteF ?_⟩)⟩
        exact ⟨_, rfl, .inl ⟨rfl, _, SqL.of hy⟩, _, rfl, D, _, _, rfl, rfl, hy, below (m := 200000) (by omega), push tm hx1 hrn⟩
      | num j =>
        have e : x = vInt j := hxs
        subst e
        match st, hst, hrn, hle, hys with
        | [], _, hrn, _, _ => cases hrn
        | [_], _, hrn, _, _ => cases hrn
        | r :: l :: st, hst, hrn, hle, hys =>
          rw [List.reverse_cons] at hst
          obtain ⟨ys1, vr, rfl, hst1, hvr⟩ := hst.snoc2
          rw [List.reverse_cons] at hst1
          obtain ⟨ys2, vl, rfl, hst2, hvl⟩ := hst1.snoc2
          refine ⟨_, rfl, vInt j, rfl, .inl ⟨_, rfl, true, rfl, iteT ?_⟩⟩
          refine ⟨_, rfl, .inl ⟨rfl, _, SqL.of hy⟩, D, _, _, rfl, rfl, hy, last_of _ _, ?_⟩
          rw [List.dropLast_concat]
          obtain ⟨H2, eH2⟩ : ∃ H2, H2 = upd H1 D (.lst (ys2 ++ [vl])) := ⟨_, rfl⟩
          rw [← eH2]
          have t2 : Tups H1 H2 := by rw [eH2]; exact Tups.upd hy
          have sm2 : Same H H2 := by rw [eH2]; exact same_upd sm hD
          have hy2 : H2 D = some (.lst (ys2 ++ [vl])) := by rw [eH2]; exact upd_same
          refine ⟨_, rfl, .inl ⟨rfl, _, SqL.of hy2⟩, D, _, _, rfl, rfl, hy2, last_of _ _, ?_⟩
          rw [List.dropLast_concat]
          obtain ⟨H3, eH3⟩ : ∃ H3, H3 = upd H2 D (.lst ys2) := ⟨_, rfl⟩
          rw [← eH3]
          have t3 : Tups H2 H3 := by rw [eH3]; exact Tups.upd hy2
          have sm3 : Same H H3 := by rw [eH3]; exact same_upd sm2 hD
          have hy3 : H3 D = some (.lst ys2) := by rw [eH3]; exact upd_same
          refine ⟨_, rfl, .inl ⟨rfl, _, SqL.of hy3⟩, _, rfl, _, rfl, _, rfl, small (m := 3) (Nat.le_refl _), fun q hq => ?_⟩
          have s4 := same_new (o := .tup [vInt j, vl, vr]) hq
          have hy4 := s4 _ _ hy3
          have t14 := t2.trans (t3.trans (Tups.of s4))
          refine ⟨D, _, _, rfl, rfl, hy4, below (m := 200000) (by have := hst2.len; rw [List.length_reverse] at this; simp at hle; omega), ?_⟩
          have t5 : Tups (upd H3 q (.tup [vInt j, vl, vr])) (upd (upd H3 q (.tup [vInt j, vl, vr])) D (.lst (ys2 ++ [.ref q]))) := Tups.upd hy4
          have t15 := t14.trans t5
          refine ⟨_, _, _, ys2 ++ [.ref q], .join j l r :: st, rfl, same_upd (sm3.trans s4) hD, upd_same, ?_, hrn, by simp at hle ⊢; omega⟩
          rw [List.reverse_cons]
          refine (hst2.imp fun _ _ h => h.tups t15).append ⟨⟨q, vl, vr, rfl, ?_, hvl.tups t15, hvr.tups t15⟩, trivial⟩
          exact t5 _ _ upd_same
    · rintro σ H1 ⟨y2, y3, y4, ys, st, rfl, sm, hy, hst, hrn, _⟩
      have ed : ss.drop xs.length = [] := List.drop_eq_nil_of_le (by rw [hS.len]; exact Nat.le_refl _)
      rw [ed] at hrn
      have e : st = [t] := Option.some.inj hrn
      subst e
      match ys, hst, hy with
      | [y], hst, hy => exact ⟨_, rfl, D, _, _, y, rfl, rfl, SqL.of hy, atI_nat (j := 0) rfl, k _ _ sm hst.1⟩
      | [], hst, _ => exact hst.elim
      | _ :: _ :: _, hst, _ => exact hst.2.elim
end
end Fam

/-! Leaves; put; narrow; a leaf by its place, changed. -/
namespace Fam
open PySem L2
open C8 (pss_cut tCut)
theorem for_enum {K : PySem.W.Frag} {a : Addr} {xs : List V} {g : TG} {tb : TS} {D : Ends} {σ : L2.St} {H : Hp} (Pv : Nat → L2.St → Hp → Prop) (h0 : Pv 0 σ H) (hl : ∀ i σ H, i ≤ xs.length → Pv i σ H → SqL K H a xs)
    (hs : ∀ i x σ H T, xs[i]? = some x → Pv i σ H → H T = none → g (.ref T) σ (upd H T (.tup [.int (i : Nat), x])) fun σ2 H2 => tb { D with nx := Pv (i + 1), ct := Pv (i + 1), bk := D.nx } σ2 H2) (hd : ∀ σ H, Pv xs.length σ H → D.nx σ H) :
    ∃ W : Nat → Nat → L2.St → Hp → Prop, (∃ m, W 0 m σ H) ∧ ∀ i m σ H, W i m σ H →
      ((Ite K a).stop i H ∧ D.nx σ H) ∨ ((Ite K a).go i H ∧ ∃ N : L2.St → Hp → Prop, (∀ σ' H', N σ' H' → ∃ m', m' < m ∧ W (i + 1) m' σ' H') ∧ ∀ x H', (Ite K a).yld i H x H' → g x σ H' fun σ2 H2 => tb { D with nx := N, ct := N, bk := D.nx } σ2 H2) := by
  refine ⟨fun i m σ H => m = xs.length - i ∧ i ≤ xs.length ∧ Pv i σ H, ⟨xs.length, rfl, Nat.zero_le _, h0⟩, ?_⟩
  rintro i _ σ H ⟨rfl, hi, p⟩
  have q := hl i σ H hi p
  rcases Nat.lt_or_ge i xs.length with lt | ge
  · refine .inr ⟨⟨xs, xs[i], q, List.getElem?_eq_getElem lt⟩, Pv (i + 1), fun σ' H' p' => ⟨xs.length - (i + 1), by omega, rfl, lt, p'⟩, ?_⟩
    rintro y H' ⟨T, x, rfl, hT, rfl, hx⟩
    exact hs i x σ H T (hx xs q) p hT
  · have e : i = xs.length := Nat.le_antisymm hi ge
    subst e
    exact .inl ⟨⟨xs, q, Nat.le_refl _⟩, hd σ H p⟩

def leavesT : Tm → List (Nat × List Nat)
  | .hole => []
  | .leaf a bs => [(a, bs)]
  | .join _ l r => leavesT l ++ leavesT r
def LeafAt (H : Hp) (v : V) (c : Nat × List Nat) : Prop := TmAt H v (.leaf c.1 c.2)
def stpLeaf : Stp → List (Nat × List Nat)
  | .tm (.leaf a bs) => [(a, bs)]
  | _ => []
theorem leaves_post : ∀ t : Tm, ((post t).map stpLeaf).flatten = leavesT t
  | .hole => rfl
  | .leaf _ _ => rfl
  | .join j l r => by
    show ((post l ++ post r ++ [Stp.num j]).map stpLeaf).flatten = leavesT l ++ leavesT r
    rw [List.map_append, List.map_append, List.flatten_append, List.flatten_append, leaves_post l, leaves_post r]
    show leavesT l ++ leavesT r ++ [] = _
    rw [List.append_nil]
theorem leaves_nodes : ∀ t : Tm, (leavesT t).length ≤ t.nodes
  | .hole => Nat.zero_le _
  | .leaf _ _ => Nat.le_refl _
  | .join j l r => by
    have h1 := leaves_nodes l
    have h2 := leaves_nodes r
    show (leavesT l ++ leavesT r).length ≤ l.nodes + r.nodes + 1
    rw [List.length_append]
    omega
/-- what stands in a walk: terms without a join, numbers -/
def flatS : Stp → Prop
  | .tm (.join _ _ _) => False
  | _ => True
theorem post_flat : ∀ t : Tm, ∀ s ∈ post t, flatS s
  | .hole, s, h => by rw [List.mem_singleton.mp h]; trivial
  | .leaf _ _, s, h => by rw [List.mem_singleton.mp h]; trivial
  | .join j l r, s, h => by
    rcases List.mem_append.mp h with h | h
    · rcases List.mem_append.mp h with h | h
      · exact post_flat l s h
      · exact post_flat r s h
    · rw [List.mem_singleton.mp h]; trivial
def spLeavesOf : Sp := fun vs H Q _ => ∃ (v : V) (t : Tm), vs = [v] ∧ TmAt H v t ∧ t.nodes ≤ 100000 ∧ ∀ (H' : Hp) (p : Addr) (xs : List V), Same H H' → H p = none → H' p = some (.lst xs) → Al (LeafAt H') xs (leavesT t) → Q (.ref p) H'
def spSizeOf : Sp := fun vs H Q _ => ∃ (v : V) (t : Tm), vs = [v] ∧ TmAt H v t ∧ t.nodes ≤ 100000 ∧ ∀ H', Same H H' → Q (vInt (leavesT t).length) H'
def manyT (t : Tm) : Nat := match leavesT t with
  | [] => 0
  | c :: _ => c.2.length
def spManyOf : Sp := fun vs H Q _ => ∃ (v : V) (t : Tm), vs = [v] ∧ TmAt H v t ∧ t.nodes ≤ 100000 ∧ ∀ H', Same H H' → Q (vInt (manyT t)) H'
def narrowT : Tm → Bool
  | .join _ l (.leaf _ _) => narrowT l
  | .join _ _ _ => false
  | _ => true
def spIsNarrow : Sp := fun vs H Q _ => ∃ (v : V) (t : Tm), vs = [v] ∧ TmAt H v t ∧ Q (.bl (narrowT t)) H
def putT : Tm → Tm → Tm
  | .hole, t => t
  | .leaf a bs, _ => .leaf a bs
  | .join j l r, t => .join j (putT l t) (putT r t)
def putS (t : Tm) : Stp → Stp
  | .tm .hole => .tm t
  | s => s
theorem runS_put (t : Tm) : ∀ (c : Tm) (ss : List Stp) (st : List Tm), runS ((post c).map (putS t) ++ ss) st = runS ss (putT c t :: st)
  | .hole, ss, st => rfl
  | .leaf a bs, ss, st => rfl
  | .join j l r, ss, st => by
    show runS ((post l ++ post r ++ [Stp.num j]).map (putS t) ++ ss) st = _
    rw [List.map_append, List.map_append, List.append_assoc, List.append_assoc, runS_put t l, runS_put t r]
    rfl
def spPut : Sp := fun vs H Q _ => ∃ (v u : V) (c t : Tm), vs = [v, u] ∧ TmAt H v c ∧ TmAt H u t ∧ c.nodes ≤ 100000 ∧ ∀ (H' : Hp) (x : V), Same H H' → TmAt H' x (putT c t) → Q x H'
def NumE (B : Addr) (n : Str) (H : Hp) (E : XK) : Prop := ∀ (dd : Addr) (H' : Hp), Same H H' → H dd = none → H' dd = some (.xd [("which", .str n)]) → E (.ref B) (some dd) H'
theorem NumE.same {B : Addr} {n : Str} {H H1 : Hp} {E : XK} (h : NumE B n H E) (s : Same H H1) : NumE B n H1 E := fun dd H' s2 h1 h2 => h dd H' (s.trans s2) (s.free h1) h2
def spLeafAtD (K : PySem.W.Frag) (B : Addr) : Sp := fun vs H Q E => ∃ (v x : V) (t : Tm) (d : PyData), vs = [v, x] ∧ TmAt H v t ∧ t.nodes ≤ 100000 ∧ Dp K H x d ∧
  ((∃ (i : Nat) (c : Nat × List Nat), d = .int (i : Int) ∧ (leavesT t)[i]? = some c ∧ ∀ (H' : Hp) (y : V), Same H H' → LeafAt H' y c → Q y H') ∨ (betD d 0 ((leavesT t).length - 1) = false ∧ NumE B "place" H E))
/-- a walk with other leaves, in their order -/
def fillS : List Stp → List (Nat × List Nat) → List Stp
  | .tm (.leaf _ _) :: ss, c :: ls => .tm (.leaf c.1 c.2) :: fillS ss ls
  | s :: ss, ls => s :: fillS ss ls
  | [], _ => []
def fillT : Tm → List (Nat × List Nat) → Tm × List (Nat × List Nat)
  | .leaf _ _, c :: ls => (.leaf c.1 c.2, ls)
  | .join j l r, ls => (.join j (fillT l ls).1 (fillT r (fillT l ls).2).1, (fillT r (fillT l ls).2).2)
  | t, ls => (t, ls)
theorem fillS_post : ∀ (t : Tm) (ss : List Stp) (ls : List (Nat × List Nat)), fillS (post t ++ ss) ls = post (fillT t ls).1 ++ fillS ss (fillT t ls).2
  | .hole, ss, ls => by cases ls <;> rfl
  | .leaf a bs, ss, [] => rfl
  | .leaf a bs, ss, c :: ls => rfl
  | .join j l r, ss, ls => by
    show fillS ((post l ++ post r ++ [Stp.num j]) ++ ss) ls = _
    rw [List.append_assoc, List.append_assoc, fillS_post l, fillS_post r]
    show post (fillT l ls).1 ++ (post (fillT r (fillT l ls).2).1 ++ fillS ([Stp.num j] ++ ss) (fillT r (fillT l ls).2).2) = (post (fillT l ls).1 ++ post (fillT r (fillT l ls).2).1 ++ [Stp.num j]) ++ fillS ss (fillT r (fillT l ls).2).2
    rw [List.append_assoc, List.append_assoc]
    have : ∀ ls, fillS ([Stp.num j] ++ ss) ls = [Stp.num j] ++ fillS ss ls := fun ls => by cases ls <;> rfl
    rw [this]
def cntS (ss : List Stp) : Nat := ((ss.map stpLeaf).flatten).length
theorem cntS_snoc (ss : List Stp) (s : Stp) : cntS (ss ++ [s]) = cntS ss + (stpLeaf s).length := by
  unfold cntS
  rw [List.map_append, List.flatten_append, List.length_append]
  simp
theorem fillS_cons_other {s : Stp} (h : stpLeaf s = []) (ss : List Stp) (ls : List (Nat × List Nat)) : fillS (s :: ss) ls = s :: fillS ss ls := by
  cases s with
  | num j => cases ls <;> rfl
  | tm t =>
    cases t with
    | leaf a bs => cases h
    | _ => cases ls <;> rfl
/-- filled behind a walk's part -/
theorem fillS_app : ∀ (ss rs : List Stp) (ls : List (Nat × List Nat)), cntS ss ≤ ls.length → fillS (ss ++ rs) ls = fillS ss ls ++ fillS rs (ls.drop (cntS ss))
  | [], rs, ls, _ => by
    show fillS rs ls = fillS [] ls ++ fillS rs (ls.drop 0)
    cases ls <;> rfl
  | s :: ss, rs, ls, h => by
    by_cases e : stpLeaf s = []
    · have ec : cntS (s :: ss) = cntS ss := by
        show ((stpLeaf s) ++ (ss.map stpLeaf).flatten).length = _
        rw [e]
        rfl
      rw [List.cons_append, fillS_cons_other e, fillS_cons_other e, ec, fillS_app ss rs ls (by rw [← ec]; exact h)]
      rfl
    · cases s with
      | num j => exact absurd rfl e
      | tm t =>
        cases t with
        | hole => exact absurd rfl e
        | join j l r => exact absurd rfl e
        | leaf a bs =>
          have ec : cntS (.tm (.leaf a bs) :: ss) = cntS ss + 1 := by
            show ([(a, bs)] ++ (ss.map stpLeaf).flatten).length = (ss.map stpLeaf).flatten.length + 1
            rw [List.length_append]
            show 1 + _ = _
            omega
          cases ls with
          | nil => rw [ec] at h; exact absurd h (by simp)
          | cons c ls =>
            rw [ec] at h ⊢
            show Stp.tm (.leaf c.1 c.2) :: fillS (ss ++ rs) ls = Stp.tm (.leaf c.1 c.2) :: fillS ss ls ++ fillS rs ((c :: ls).drop (cntS ss + 1))
            rw [fillS_app ss rs ls (by simpa using h)]
            rfl
def spWithLeaves (K : PySem.W.Frag) : Sp := fun vs H Q _ => ∃ (v : V) (p : Addr) (xs : List V) (t : Tm) (ls : List (Nat × List Nat)), vs = [v, .ref p] ∧ TmAt H v t ∧ t.nodes ≤ 100000 ∧ SqL K H p xs ∧ Al (LeafAt H) xs ls ∧ ls.length = (leavesT t).length ∧ ∀ (H' : Hp) (x : V), Same H H' → TmAt H' x (fillT t ls).1 → Q x H'
def spChangedD (K : PySem.W.Frag) (B : Addr) : Sp := fun vs H Q E => ∃ (v x : V) (q : Addr) (t : Tm) (d : PyData) (bs : List Nat), vs = [v, x, .ref q] ∧ TmAt H v t ∧ t.nodes ≤ 100000 ∧ Dp K H x d ∧ H q = some (.tup (bs.map vInt)) ∧
  ((∃ (i : Nat) (c : Nat × List Nat), d = .int (i : Int) ∧ (leavesT t)[i]? = some c ∧ ∀ (H' : Hp) (y : V), Same H H' → TmAt H' y (fillT t ((leavesT t).set i (c.1, bs))).1 → Q y H') ∨ (betD d 0 ((leavesT t).length - 1) = false ∧ NumE B "place" H E))
section
variable {P : Program} {w : World} {K : PySem.W.Frag} {mg : Str → Option Value} {base : Heap} {B : Addr}
abbrev nLV : List Str := ["term", "step"]
theorem scLV : FnScope nLV ["term"] (defScope sLeavesOf) := ⟨rfl, rfl, rfl, by decide +kernel, rfl, by decide +kernel, by decide +kernel⟩
theorem ok_leaves_of {f : Addr} {fd : FuncData} (F : Fun K "leaves_of" "leaves_of" sLeavesOf f fd) (T : Bare mg) (GP : Cal P w K mg base 1 "postfix" ["term"] spPostfix) : FnOk P w K mg base CX0 2 f fd ["term"] spLeavesOf := by
  obtain ⟨_, _, ok_pf, b_pf, k_pf, m_pf⟩ := GP.ex
  refine F.ok scLV (fun vs H Q E h => ?_) (fun cdv A outer s H vs Q E hr h => ?_)
  · obtain ⟨v, t, rfl, _⟩ := h
    rfl
  · obtain ⟨v, t, rfl, ht, hn, k⟩ := h
    have hr_pf := hr
    refine ⟨_, (pss_one (ps_ret (pe_lc (own := [("step", 1)]) (g := gName 1) rfl scLV.nd (pi_list (pe_call ok_pf hr_pf rfl m_pf k_pf b_pf .nil pass0 (pa_cons (pv 0) pa_nil))) (blkOk_by (own := [("step", 1)]) (N := nLV) (sc := defScope sLeavesOf) (by decide +kernel)) (fun _ _ _ _ _ => pg_name (i := 1) scLV.nd rfl (Or.inl rfl)) (fun _ _ _ _ _ => pts_one (pt_val (pe_callB (call_isi : CallR _ (.builtin "isinstance") (rIsi K)) (by rfl) T.isi (by decide +kernel) (pa_cons (pv 1) (pa_cons (pe_ty (n := "tuple") (by rfl) T.tuple (by decide +kernel)) pa_nil))))) (fun _ _ _ _ _ => pv 1)))), ?_⟩
    refine ⟨_, rfl, v, t, rfl, ht, hn, fun H1 p xs s1 hp hxs hS => ⟨p, rfl, ⟨_, SqL.of hxs⟩, fun D hD => ?_⟩⟩
    have hl : xs.length ≤ 100000 := by rw [hS.len, post_len]; exact hn
    refine lc_list (K := K) (a := p) (xs := xs) (fun i H' => Same H1 H' ∧ ∃ ys, H' D = some (.lst ys) ∧ Al (LeafAt H1) ys (((post t).take i).map stpLeaf).flatten ∧ ys.length ≤ i) ⟨same_new hD, [], upd_same, trivial, Nat.le_refl _⟩ (fun i H' _ h => SqL.of (h.1 _ _ hxs)) ?_ ?_
    · rintro i x H2 hx ⟨sm, ys, hy, hA, hle⟩
      obtain ⟨sp, hsp, hxs1⟩ := hS.get hx
      have hi : i < (post t).length := by
        rcases Nat.lt_or_ge i (post t).length with q | q
        · exact q
        · rw [List.getElem?_eq_none q] at hsp
          cases hsp
      have hil : i < 100000 := by rw [post_len] at hi; omega
      have esp : (post t)[i] = sp := by rw [List.getElem?_eq_getElem hi] at hsp; exact Option.some.inj hsp
      have et : (((post t).take (i + 1)).map stpLeaf).flatten = (((post t).take i).map stpLeaf).flatten ++ stpLeaf sp := by
        rw [take_more hi, List.map_append, List.flatten_append, esp]
        simp
      have hfl := post_flat t _ (List.getElem_mem hi)
      rw [esp] at hfl
      rw [et]
      have no : stpLeaf sp = [] → ∀ T : String, TyX K H2 x (.type T) → kitB T "tuple" = some false → _ := fun h0 T h1 h2 => (⟨sm, ys, hy, by rw [h0, List.append_nil]; exact hA, by omega⟩ : Same H1 H2 ∧ ∃ ys, H2 D = some (.lst ys) ∧ Al (LeafAt H1) ys ((((post t).take i).map stpLeaf).flatten ++ stpLeaf sp) ∧ ys.length ≤ i + 1)
      cases sp with
      | num j =>
        have e : x = vInt j := hxs1
        subst e
        exact ⟨rfl, _, rfl, _, _, _, _, false, rfl, .ty _, .base (.int _), kit_ty (by decide +kernel), _, rfl, iteF (no rfl "int" (.base (.int _)) (by decide +kernel))⟩
      | tm u =>
        cases u with
        | hole =>
          have e : x = .non := hxs1
          subst e
          exact ⟨rfl, _, rfl, _, _, _, _, false, rfl, .ty _, .base .non, kit_ty (by decide +kernel), _, rfl, iteF (no rfl "NoneType" (.base .non) (by decide +kernel))⟩
        | join j l r => exact hfl.elim
        | leaf a bs =>
          obtain ⟨q, q2, rfl, h1, h2⟩ := id hxs1
          refine ⟨rfl, _, rfl, _, _, _, _, true, rfl, .ty _, .base (.tup (sm _ _ h1)), kit_ty (by decide +kernel), _, rfl, iteT ⟨_, rfl, _, hy, below (m := 200000) (by omega), same_upd sm hD, _, upd_same, ?_, ?_⟩⟩
          · exact Al.append (ys := [.ref q]) (bs := [(a, bs)]) hA ⟨⟨q, q2, rfl, h1, h2⟩, trivial⟩
          · rw [List.length_append]
            show ys.length + 1 ≤ _
            omega
    rintro H2 ⟨sm, ys, hy, hA, _⟩
    rw [hS.len, List.take_length, leaves_post] at hA
    exact k H2 D ys (s1.trans sm) (s1.free hD) hy (hA.imp fun _ _ h => TmAt.same sm h)
abbrev nSZ : List Str := ["term"]
theorem scSZ : FnScope nSZ ["term"] (defScope sSizeOf) := ⟨rfl, rfl, rfl, by decide +kernel, rfl, by decide +kernel, by decide +kernel⟩
theorem ok_size_of {f : Addr} {fd : FuncData} (F : Fun K "size_of" "size_of" sSizeOf f fd) (T : Bare mg) (GL : Cal P w K mg base 2 "leaves_of" ["term"] spLeavesOf) : FnOk P w K mg base CX0 3 f fd ["term"] spSizeOf := by
  obtain ⟨_, _, ok_lv, b_lv, k_lv, m_lv⟩ := GL.ex
  refine F.ok scSZ (fun vs H Q E h => ?_) (fun cdv A outer s H vs Q E hr h => ?_)
  · obtain ⟨v, t, rfl, _⟩ := h
    rfl
  · obtain ⟨v, t, rfl, ht, hn, k⟩ := h
    have hr_lv := hr
    refine ⟨_, (pss_one (ps_ret (pe_callB call_len_seq (by rfl) T.len PySem.boot_len (pa_cons (pe_call ok_lv hr_lv rfl m_lv k_lv b_lv .nil pass0 (pa_cons (pv 0) pa_nil)) pa_nil)))), ?_⟩
    refine ⟨_, rfl, v, t, rfl, ht, hn, fun H1 p xs s1 hp hxs hS => ⟨p, _, rfl, .inl (SqL.of hxs), ?_⟩⟩
    rw [hS.len]
    exact k _ s1
abbrev nMO : List Str := ["term", "leaf"]
theorem scMO : FnScope nMO ["term"] (defScope sManyOf) := ⟨rfl, rfl, rfl, by decide +kernel, rfl, by decide +kernel, by decide +kernel⟩
theorem ok_many_of {f : Addr} {fd : FuncData} (F : Fun K "many_of" "many_of" sManyOf f fd) (T : Bare mg) (GL : Cal P w K mg base 2 "leaves_of" ["term"] spLeavesOf) : FnOk P w K mg base CX0 3 f fd ["term"] spManyOf := by
  obtain ⟨_, _, ok_lv, b_lv, k_lv, m_lv⟩ := GL.ex
  refine F.ok scMO (fun vs H Q E h => ?_) (fun cdv A outer s H vs Q E hr h => ?_)
  · obtain ⟨v, t, rfl, _⟩ := h
    rfl
  · obtain ⟨v, t, rfl, ht, hn, k⟩ := h
    have hr_lv := hr
    refine ⟨_, (pss_cons (ps_for PassesOwn.never rfl (pi_list (pe_call ok_lv hr_lv rfl m_lv k_lv b_lv .nil pass0 (pa_cons (pv 0) pa_nil))) (pg_name (i := 1) scMO.nd rfl (Or.inl rfl))
          (pss_one (ps_ret (pe_callB call_len_seq (by rfl) T.len PySem.boot_len (pa_cons (pe_ix ix_tup (pv 1) pe_int (fun _ _ => rfl)) pa_nil)))))
      (pss_one (ps_ret pe_int))), ?_⟩
    refine ⟨_, rfl, v, t, rfl, ht, hn, fun H1 p xs s1 hp hxs hS => ⟨p, rfl, ⟨_, SqL.of hxs⟩, for_list (xs := xs) (fun i σ H' => i = 0 ∧ σ = [some v, none] ∧ H' = H1) ⟨rfl, rfl, rfl⟩ (fun i σ H' _ h => by rw [h.2.2]; exact SqL.of hxs) ?_ ?_⟩⟩
    · rintro i x σ H2 hx ⟨rfl, rfl, rfl⟩
      obtain ⟨c, hc, hx1⟩ := hS.get hx
      obtain ⟨q, q2, rfl, h1, h2⟩ := id hx1
      refine ⟨_, rfl, q, _, _, .ref q2, rfl, rfl, SqT.of h1, atI_nat (j := 1) rfl, q2, _, rfl, .inr (SqT.of h2), ?_⟩
      have e : manyT t = c.2.length := by
        unfold manyT
        cases hl : leavesT t with
        | nil => rw [hl] at hc; cases hc
        | cons c' ls => rw [hl] at hc; cases hc; rfl
      rw [List.length_map]
      have k2 := k _ s1
      rw [e] at k2
      exact k2
    · rintro σ H2 ⟨e, rfl, rfl⟩
      have el : leavesT t = [] := List.length_eq_zero_iff.mp (by rw [← hS.len]; exact e)
      have k2 := k _ s1
      rw [show manyT t = 0 by unfold manyT; rw [el]] at k2
      exact k2
abbrev nNA : List Str := ["term", "part"]
theorem scNA : FnScope nNA ["term"] (defScope sIsNarrow) := ⟨rfl, rfl, rfl, by decide +kernel, rfl, by decide +kernel, by decide +kernel⟩
theorem ok_is_narrow {f : Addr} {fd : FuncData} (F : Fun K "is_narrow" "is_narrow" sIsNarrow f fd) (T : Bare mg) : FnOk P w K mg base CX0 1 f fd ["term"] spIsNarrow := by
  refine F.ok scNA (fun vs H Q E h => ?_) (fun cdv A outer s H vs Q E hr h => ?_)
  · obtain ⟨v, t, rfl, _⟩ := h
    rfl
  · obtain ⟨v, t, rfl, ht, k⟩ := h
    refine ⟨_, (pss_cons (ps_set (i := 1) scNA.nd rfl (Or.inl rfl) (pv 0))
      (pss_cons (ps_while PassesOwn.never (PW.pt (pw_and (pt_cmpR op_notN (pv 1) pe_non (nomark _)) (pw_and1 (pt_cmpR op_eq (pe_callB call_len_seq (by rfl) T.len PySem.boot_len (pa_cons (pv 1) pa_nil)) pe_int (nomark _)))))
          (pss_cons (ps_if (PW.pt (pw_or (pt_cmpR op_isN (pe_ix ix_tup (pv 1) pe_int (fun _ _ => rfl)) pe_non (nomark _)) (pw_or1 (pt_cmpR op_eq (pe_callB call_len_seq (by rfl) T.len PySem.boot_len (pa_cons (pe_ix ix_tup (pv 1) pe_int (fun _ _ => rfl)) pa_nil)) pe_int (nomark _))))) (pss_one (ps_ret pe_bl)) pss_nil)
          (pss_one (ps_set (i := 1) scNA.nd rfl (Or.inl rfl) (pe_ix ix_tup (pv 1) pe_int (fun _ _ => rfl))))))
      (pss_one (ps_ret pe_bl)))), ?_⟩
    refine ⟨_, rfl, ?_⟩
    refine ⟨fun m σ H' => ∃ (x : V) (u : Tm), σ = [some v, some x] ∧ m = u.nodes ∧ H' = H ∧ TmAt H x u ∧ narrowT t = narrowT u, ⟨_, v, t, rfl, rfl, rfl, ht, rfl⟩, ?_⟩
    rintro m σ H1 ⟨x, u, rfl, rfl, rfl, hu, en⟩
    cases u with
    | hole =>
      have e : x = .non := hu
      subst e
      rw [en] at k
      exact ⟨_, rfl, rfl, _, rfl, iteF k⟩
    | leaf a bs =>
      obtain ⟨p, q, rfl, h1, h2⟩ := id hu
      rw [en] at k
      exact ⟨_, rfl, rfl, _, rfl, iteT ⟨_, rfl, p, _, rfl, .inr (SqT.of h1), rfl, _, rfl, iteF k⟩⟩
    | join j l r =>
      obtain ⟨p, y, z, rfl, h1, h2, h3⟩ := id hu
      refine ⟨_, rfl, rfl, _, rfl, iteT ⟨_, rfl, p, _, rfl, .inr (SqT.of h1), rfl, _, rfl, iteT ?_⟩⟩
      refine ⟨fun σ' H' => ∃ m', m' < (Tm.join j l r).nodes ∧ ∃ (x : V) (u : Tm), σ' = [some v, some x] ∧ m' = u.nodes ∧ H' = H1 ∧ TmAt H1 x u ∧ narrowT t = narrowT u, fun σ' H' h => h, ?_⟩
      cases r with
      | hole =>
        have e : z = .non := h3
        subst e
        rw [en] at k
        exact ⟨_, rfl, p, _, _, _, rfl, rfl, SqT.of h1, atI_nat (j := 2) rfl, rfl, _, rfl, iteT k⟩
      | join j2 l2 r2 =>
        obtain ⟨p3, y3, z3, rfl, g1, g2, g3⟩ := id h3
        rw [en] at k
        exact ⟨_, rfl, p, _, _, _, rfl, rfl, SqT.of h1, atI_nat (j := 2) rfl, rfl, _, rfl, iteF ⟨_, rfl, p, _, _, _, rfl, rfl, SqT.of h1, atI_nat (j := 2) rfl, p3, _, rfl, .inr (SqT.of g1), rfl, _, rfl, iteT k⟩⟩
      | leaf a bs =>
        obtain ⟨p3, q3, rfl, g1, g2⟩ := id h3
        refine ⟨_, rfl, p, _, _, _, rfl, rfl, SqT.of h1, atI_nat (j := 2) rfl, rfl, _, rfl, iteF ⟨_, rfl, p, _, _, _, rfl, rfl, SqT.of h1, atI_nat (j := 2) rfl, p3, _, rfl, .inr (SqT.of g1), rfl, _, rfl, iteF ?_⟩⟩
        refine ⟨_, rfl, p, _, _, _, rfl, rfl, SqT.of h1, atI_nat (j := 1) rfl, l.nodes, ?_, y, l, rfl, rfl, rfl, h2, en⟩
        show l.nodes < l.nodes + _ + 1
        omega
abbrev nPU : List Str := ["context", "term", "step"]
theorem scPU : FnScope nPU ["context", "term"] (defScope sPut) := ⟨rfl, rfl, rfl, by decide +kernel, rfl, by decide +kernel, by decide +kernel⟩
theorem ok_put {f : Addr} {fd : FuncData} (F : Fun K "put" "put" sPut f fd) (GP : Cal P w K mg base 1 "postfix" ["term"] spPostfix) (GR : Cal P w K mg base 2 "rebuilt" ["steps"] (spRebuilt K)) : FnOk P w K mg base CX0 3 f fd ["context", "term"] spPut := by
  obtain ⟨_, _, ok_pf, b_pf, k_pf, m_pf⟩ := GP.ex
  obtain ⟨_, _, ok_rb, b_rb, k_rb, m_rb⟩ := GR.ex
  refine F.ok scPU (fun vs H Q E h => ?_) (fun cdv A outer s H vs Q E hr h => ?_)
  · obtain ⟨v, u, c, t, rfl, _⟩ := h
    rfl
  · obtain ⟨v, u, c, t, rfl, hc, ht, hn, k⟩ := h
    have hr_rb := hr
    have hr_pf := hr.mono (j := 1) (by decide)
    refine ⟨_, (pss_one (ps_ret (pe_call ok_rb hr_rb rfl m_rb k_rb b_rb .nil pass0 (pa_cons (pe_lc (own := [("step", 2)]) (g := gName 2) (tt := tYes) rfl scPU.nd (pi_list (pe_call ok_pf hr_pf rfl m_pf k_pf b_pf .nil pass0 (pa_cons (pv 0) pa_nil))) (blkOk_by (own := [("step", 2)]) (N := nPU) (sc := defScope sPut) (by decide +kernel)) (fun _ _ _ _ _ => pg_name (i := 2) scPU.nd rfl (Or.inl rfl)) (fun _ _ _ _ _ => pts_nil) (fun _ _ _ _ _ => pe_ifExp (pt_cmpR op_isN (pv 2) pe_non (nomark _)) (pv 1) (pv 2))) pa_nil)))), ?_⟩
    refine ⟨_, rfl, v, c, rfl, hc, hn, fun H1 p xs s1 hp hxs hS => ⟨p, rfl, ⟨_, SqL.of hxs⟩, fun D hD => ?_⟩⟩
    have hl : xs.length ≤ 100000 := by rw [hS.len, post_len]; exact hn
    have ht1 := ht.same s1
    refine lc_list (K := K) (a := p) (xs := xs) (fun i H' => Same H1 H' ∧ ∃ ys, H' D = some (.lst ys) ∧ Al (StpAt H1) ys (((post c).take i).map (putS t)) ∧ ys.length ≤ i) ⟨same_new hD, [], upd_same, trivial, Nat.le_refl _⟩ (fun i H' _ h => SqL.of (h.1 _ _ hxs)) ?_ ?_
    · rintro i x H2 hx ⟨sm, ys, hy, hA, hle⟩
      obtain ⟨sp, hsp, hxs1⟩ := hS.get hx
      have hi : i < (post c).length := by
        rcases Nat.lt_or_ge i (post c).length with q | q
        · exact q
        · rw [List.getElem?_eq_none q] at hsp
          cases hsp
      have hil : i < 100000 := by rw [post_len] at hi; omega
      have esp : (post c)[i] = sp := by rw [List.getElem?_eq_getElem hi] at hsp; exact Option.some.inj hsp
      have et : ((post c).take (i + 1)).map (putS t) = ((post c).take i).map (putS t) ++ [putS t sp] := by
        rw [take_more hi, List.map_append, esp]
        rfl
      rw [et]
      have add : ∀ z : V, StpAt H1 z (putS t sp) → ∃ acc, H2 D = some (.lst acc) ∧ acc.length < sizeLine ∧ Same H1 (upd H2 D (.lst (acc ++ [z]))) ∧ ∃ ys, (upd H2 D (.lst (acc ++ [z]))) D = some (.lst ys) ∧ Al (StpAt H1) ys (((post c).take i).map (putS t) ++ [putS t sp]) ∧ ys.length ≤ i + 1 := fun z hz => by
        refine ⟨_, hy, below (m := 200000) (by omega), same_upd sm hD, _, upd_same, Al.append (ys := [z]) (bs := [putS t sp]) hA ⟨hz, trivial⟩, ?_⟩
        rw [List.length_append]
        show ys.length + 1 ≤ _
        omega
      refine ⟨rfl, ?_⟩
      cases sp with
      | num j =>
        have e : x = vInt j := hxs1
        subst e
        exact ⟨_, rfl, rfl, _, rfl, iteF ⟨_, rfl, add _ rfl⟩⟩
      | tm b =>
        cases b with
        | hole =>
          have e : x = .non := hxs1
          subst e
          exact ⟨_, rfl, rfl, _, rfl, iteT ⟨_, rfl, add _ ht1⟩⟩
        | leaf a bs =>
          obtain ⟨q, q2, rfl, h1, h2⟩ := id hxs1
          exact ⟨_, rfl, rfl, _, rfl, iteF ⟨_, rfl, add _ ⟨q, q2, rfl, h1, h2⟩⟩⟩
        | join j l r => exact (post_flat c _ (List.mem_of_getElem? hsp)).elim
    rintro H2 ⟨sm, ys, hy, hA, hle⟩
    rw [hS.len, List.take_length] at hA
    have hrun := runS_put t c [] []
    rw [List.append_nil] at hrun
    exact ⟨D, ys, _, putT c t, rfl, SqL.of hy, hA.imp fun _ _ h => h.tups (Tups.of sm), hrun, by omega, fun H3 x s3 hx => k H3 x (s1.trans (sm.trans s3)) hx⟩
end
end Fam

/-! A term with other leaves; a leaf by its place, changed; hung. -/
namespace Fam
open PySem L2
open C8 (pss_cut tCut)
theorem cntS_post (t : Tm) : cntS (post t) = (leavesT t).length := by
  unfold cntS
  rw [leaves_post]
theorem cntS_app (a b : List Stp) : cntS (a ++ b) = cntS a + cntS b := by
  unfold cntS
  rw [List.map_append, List.flatten_append, List.length_append]
theorem cntS_le (ss : List Stp) (i : Nat) : cntS (ss.take i) ≤ cntS ss := by
  have := cntS_app (ss.take i) (ss.drop i)
  rw [List.take_append_drop] at this
  omega
theorem fillS_len : ∀ (ss : List Stp) (ls : List (Nat × List Nat)), (fillS ss ls).length = ss.length
  | [], ls => by cases ls <;> rfl
  | s :: ss, ls => by
    by_cases e : stpLeaf s = []
    · rw [fillS_cons_other e, List.length_cons, List.length_cons, fillS_len ss ls]
    · cases s with
      | num j => exact absurd rfl e
      | tm t =>
        cases t with
        | hole => exact absurd rfl e
        | join j l r => exact absurd rfl e
        | leaf a bs =>
          cases ls with
          | nil =>
            show (Stp.tm (Tm.leaf a bs) :: fillS ss []).length = _
            rw [List.length_cons, List.length_cons, fillS_len ss []]
          | cons c ls =>
            show (Stp.tm (Tm.leaf c.1 c.2) :: fillS ss ls).length = _
            rw [List.length_cons, List.length_cons, fillS_len ss ls]
theorem runS_fill (t : Tm) (ls : List (Nat × List Nat)) : runS (fillS (post t) ls) [] = some [(fillT t ls).1] := by
  have h := fillS_post t [] ls
  rw [List.append_nil] at h
  have e : fillS [] (fillT t ls).2 = [] := by cases (fillT t ls).2 <;> rfl
  rw [h, e, List.append_nil]
  exact runS_all _
theorem set_mid {α : Type} (a : List α) (x y : α) (b : List α) : (a ++ x :: b).set a.length y = a ++ y :: b := by
  rw [List.set_append_right _ _ (Nat.le_refl _), Nat.sub_self]
  rfl
def hungT (t t2 : Tm) : Nat → Tm
  | 0 => t
  | n + 1 => .join 0 (hungT t t2 n) t2
def spHung (K : PySem.W.Frag) (B : Addr) : Sp := fun vs H Q E => ∃ (v u x : V) (t t2 : Tm) (d : PyData), vs = [v, u, x] ∧ TmAt H v t ∧ TmAt H u t2 ∧ Dp K H x d ∧
  ((∃ n : Nat, d = .int (n : Int) ∧ n ≤ 200 ∧ ∀ (H' : Hp) (y : V), Same H H' → TmAt H' y (hungT t t2 n) → Q y H') ∨ (betD d 0 200 = false ∧ NumE B "times" H E))
section
variable {P : Program} {w : World} {K : PySem.W.Frag} {mg : Str → Option Value} {base : Heap} {B : Addr}
abbrev nWL : List Str := ["term", "leaves", "steps", "taken", "i", "step"]
theorem scWL : FnScope nWL ["term", "leaves"] (defScope sWithLeaves) := ⟨rfl, rfl, rfl, by decide +kernel, rfl, by decide +kernel, by decide +kernel⟩
theorem ok_with_leaves {f : Addr} {fd : FuncData} (F : Fun K "with_leaves" "with_leaves" sWithLeaves f fd) (T : Bare mg) (T2 : Bare2 mg) (GP : Cal P w K mg base 1 "postfix" ["term"] spPostfix) (GR : Cal P w K mg base 2 "rebuilt" ["steps"] (spRebuilt K)) : FnOk P w K mg base CX0 3 f fd ["term", "leaves"] (spWithLeaves K) := by
  obtain ⟨_, _, ok_pf, b_pf, k_pf, m_pf⟩ := GP.ex
  obtain ⟨_, _, ok_rb, b_rb, k_rb, m_rb⟩ := GR.ex
  refine F.ok scWL (fun vs H Q E h => ?_) (fun cdv A outer s H vs Q E hr h => ?_)
  · obtain ⟨v, p, xs, t, ls, rfl, _⟩ := h
    rfl
  · obtain ⟨v, p, lx, t, ls, rfl, ht, hn, hp, hA, hll, k⟩ := h
    have hr_rb := hr
    have hr_pf := hr.mono (j := 1) (by decide)
    refine ⟨_, (pss_cons (ps_set (i := 2) scWL.nd rfl (Or.inl rfl) (pe_call ok_pf hr_pf rfl m_pf k_pf b_pf .nil pass0 (pa_cons (pv 0) pa_nil)))
      (pss_cons (ps_set (i := 3) scWL.nd rfl (Or.inl rfl) pe_int)
      (pss_cons (ps_for PassesOwn.never rfl (pi_enum (by rfl) T2.enumerate (pa_cons (pe_callTy call_list_of (by rfl) T.list (by decide +kernel) (pa_cons (pv 2) pa_nil)) pa_nil)) (pg_tup rfl (pgs_cons (pg_name (i := 4) scWL.nd rfl (Or.inl rfl)) (pgs_cons (pg_name (i := 5) scWL.nd rfl (Or.inl rfl)) pgs_nil)))
          (pss_one (ps_if (pt_val (pe_callB call_isi (by rfl) T.isi (by decide +kernel) (pa_cons (pv 5) (pa_cons (pe_ty (n := "tuple") (by rfl) T.tuple (by decide +kernel)) pa_nil)))) (pss_cons (ps_asg (pe_ix ix_list (pv 1) (pv 3) (fun _ _ => rfl)) (pg_sub (pv 2) (pv 4) set_list))
              (pss_one (ps_aug (i := 3) scWL.nd rfl (Or.inl rfl) pe_int ip_add))) pss_nil)))
      (pss_one (ps_ret (pe_call ok_rb hr_rb rfl m_rb k_rb b_rb .nil pass0 (pa_cons (pv 2) pa_nil))))))), ?_⟩
    refine ⟨_, rfl, v, t, rfl, ht, hn, fun H1 S xs s1 hS hxs hst => ?_⟩
    have hl : xs.length ≤ 100000 := by rw [hst.len, post_len]; exact hn
    have hSn : H S = none := hS
    refine ⟨_, rfl, S, xs, rfl, .inl (SqL.of hxs), fun L hL => ?_⟩
    have s2 := same_new (o := .lst xs) hL
    have nLS : L ≠ S := (ne_of_none hxs hL).symm
    have hcnt : cntS (post t) = ls.length := by rw [cntS_post, hll]
    refine ⟨L, xs, rfl, SqL.of upd_same, ?_⟩
    refine for_enum (K := K) (a := L) (xs := xs) (fun i σ H' => ∃ (y4 y5 : Option V) (zs : List V), σ = [some v, some (.ref p), some (.ref S), some (vInt (cntS ((post t).take i))), y4, y5] ∧ Same H H' ∧ Tups H1 H' ∧ H' L = some (.lst xs) ∧ H' S = some (.lst zs) ∧ Al (StpAt H') zs (fillS ((post t).take i) ls ++ (post t).drop i))
      ⟨none, none, xs, rfl, s1.trans s2, Tups.of s2, upd_same, s2 _ _ hxs, ?_⟩ (fun i σ H' _ h => by obtain ⟨_, _, _, _, _, _, h5, _⟩ := h; exact SqL.of h5) ?_ ?_
    · show Al _ xs (fillS [] ls ++ post t)
      rw [show fillS [] ls = [] by cases ls <;> rfl]
      exact hst.imp fun _ _ h => h.tups (Tups.of s2)
    · rintro i x σ H2 U hx ⟨y4, y5, zs, rfl, sm, tu, hL2, hS2, hz⟩ hU
      obtain ⟨sp, hsp, hxs1⟩ := hst.get hx
      have hi : i < (post t).length := by
        rcases Nat.lt_or_ge i (post t).length with q | q
        · exact q
        · rw [List.getElem?_eq_none q] at hsp
          cases hsp
      have esp : (post t)[i] = sp := by rw [List.getElem?_eq_getElem hi] at hsp; exact Option.some.inj hsp
      have s3 := same_new (o := .tup [V.int (i : Nat), x]) hU
      have hS3 := s3 _ _ hS2
      have hL3 := s3 _ _ hL2
      have sm3 := sm.trans s3
      have tu3 := tu.trans (Tups.of s3)
      have hz3 := hz.imp fun _ _ h => h.tups (Tups.of s3)
      have hx3 := hxs1.tups tu3
      have et : (post t).take (i + 1) = (post t).take i ++ [sp] := by rw [take_more hi, esp]
      have ed : (post t).drop i = sp :: (post t).drop (i + 1) := by rw [List.drop_eq_getElem_cons hi, esp]
      have hci : cntS ((post t).take i) ≤ ls.length := by rw [← hcnt]; exact cntS_le _ _
      have hfl := post_flat t _ (List.getElem_mem hi)
      rw [esp] at hfl
      have hlz : zs.length = (post t).length := by
        rw [hz.len, List.length_append, fillS_len, List.length_take, List.length_drop]
        omega
      refine ⟨U, _, rfl, SqT.of upd_same, rfl, _, _, rfl, _, _, rfl, rfl, ?_⟩
      have skip : stpLeaf sp = [] → ∃ (y4 y5 : Option V) (zs' : List V), [some v, some (V.ref p), some (.ref S), some (vInt (cntS ((post t).take i))), some (V.int (i : Nat)), some x] = [some v, some (V.ref p), some (.ref S), some (vInt (cntS ((post t).take (i + 1)))), y4, y5] ∧ Same H (upd H2 U (.tup [V.int (i : Nat), x])) ∧ Tups H1 (upd H2 U (.tup [V.int (i : Nat), x])) ∧ (upd H2 U (.tup [V.int (i : Nat), x])) L = some (.lst xs) ∧ (upd H2 U (.tup [V.int (i : Nat), x])) S = some (.lst zs') ∧ Al (StpAt (upd H2 U (.tup [V.int (i : Nat), x]))) zs' (fillS ((post t).take (i + 1)) ls ++ (post t).drop (i + 1)) := fun h0 => by
        refine ⟨some (V.int (i : Nat)), some x, zs, ?_, sm3, tu3, hL3, hS3, ?_⟩
        · rw [et, cntS_snoc, h0]
          rfl
        · rw [et, fillS_app _ _ _ hci, List.append_assoc, fillS_cons_other h0]
          rw [ed] at hz3
          rw [show fillS [] (ls.drop (cntS ((post t).take i))) = [] by cases ls.drop (cntS ((post t).take i)) <;> rfl]
          exact hz3
      cases sp with
      | num j =>
        have e : x = vInt j := hx3
        subst e
        exact ⟨_, rfl, _, _, _, _, false, rfl, .ty _, .base (.int _), kit_ty (by decide +kernel), _, rfl, iteF (skip rfl)⟩
      | tm u =>
        cases u with
        | hole =>
          have e : x = .non := hx3
          subst e
          exact ⟨_, rfl, _, _, _, _, false, rfl, .ty _, .base .non, kit_ty (by decide +kernel), _, rfl, iteF (skip rfl)⟩
        | join j l r => exact hfl.elim
        | leaf a bs =>
          obtain ⟨q, q2, rfl, h1, h2⟩ := id hx3
          refine ⟨_, rfl, _, _, _, _, true, rfl, .ty _, .base (.tup h1), kit_ty (by decide +kernel), _, rfl, iteT ?_⟩
          have ec : cntS ((post t).take (i + 1)) = cntS ((post t).take i) + 1 := by
            rw [et, cntS_snoc]
            rfl
          have hlt : cntS ((post t).take i) < ls.length := by
            have := cntS_le (post t) (i + 1)
            omega
          obtain ⟨y, hy, hyl⟩ := hA.get2 (List.getElem?_eq_getElem hlt)
          refine ⟨_, rfl, _, rfl, p, _, _, _, rfl, rfl, sm3.seq hp, atI_nat (j := cntS ((post t).take i)) hy, ?_⟩
          refine ⟨_, rfl, _, rfl, S, _, _, i, rfl, rfl, hS3, ixN_at (by omega), ?_⟩
          refine ⟨_, rfl, _, _, rfl, rfl, ?_⟩
          have t4 : Tups (upd H2 U (.tup [V.int (i : Nat), .ref q])) (upd (upd H2 U (.tup [V.int (i : Nat), .ref q])) S (.lst (zs.set i y))) := Tups.upd hS3
          refine ⟨some (V.int (i : Nat)), some (V.ref q), zs.set i y, ?_, same_upd sm3 hSn, tu3.trans t4, ?_, upd_same, ?_⟩
          · rw [ec]
            rfl
          · rw [upd_ne nLS]
            exact hL3
          · have hy4 : StpAt (upd (upd H2 U (.tup [V.int (i : Nat), .ref q])) S (.lst (zs.set i y))) y (.tm (.leaf ls[cntS ((post t).take i)].1 ls[cntS ((post t).take i)].2)) := TmAt.tups t4 (TmAt.same sm3 hyl)
            have h5 := Al.set hy4 i (hz3.imp fun _ _ h => h.tups t4)
            have e6 : (fillS ((post t).take i) ls ++ (post t).drop i).set i (.tm (.leaf ls[cntS ((post t).take i)].1 ls[cntS ((post t).take i)].2)) = fillS ((post t).take (i + 1)) ls ++ (post t).drop (i + 1) := by
              have el : (fillS ((post t).take i) ls).length = i := by
                rw [fillS_len, List.length_take]
                omega
              have := set_mid (fillS ((post t).take i) ls) (.tm (.leaf a bs)) (.tm (.leaf ls[cntS ((post t).take i)].1 ls[cntS ((post t).take i)].2)) ((post t).drop (i + 1))
              rw [el] at this
              rw [ed, this, et, fillS_app _ _ _ hci, List.drop_eq_getElem_cons hlt, List.append_assoc]
              rw [show fillS [Stp.tm (Tm.leaf a bs)] (ls[cntS ((post t).take i)] :: ls.drop (cntS ((post t).take i) + 1)) = [.tm (.leaf ls[cntS ((post t).take i)].1 ls[cntS ((post t).take i)].2)] by
                show _ :: fillS [] _ = _
                cases ls.drop (cntS ((post t).take i) + 1) <;> rfl]
              rfl
            rw [← e6]
            exact h5
    · rintro σ H2 ⟨y4, y5, zs, rfl, sm, tu, hL2, hS2, hz⟩
      have el : xs.length = (post t).length := hst.len
      rw [el, List.take_length, List.drop_length, List.append_nil] at hz
      refine ⟨_, rfl, S, zs, _, (fillT t ls).1, rfl, SqL.of hS2, hz, runS_fill t ls, ?_, fun H3 y s3 hy => k H3 y (sm.trans s3) hy⟩
      rw [hz.len, fillS_len, post_len]
      exact hn
abbrev nLA : List Str := ["term", "place", "leaves"]
theorem scLA : FnScope nLA ["term", "place"] (defScope sLeafAt) := ⟨rfl, rfl, rfl, by decide +kernel, rfl, by decide +kernel, by decide +kernel⟩
theorem ok_leaf_at {f : Addr} {fd : FuncData} (F : Fun K "leaf_at" "leaf_at" sLeafAt f fd) (T : Bare mg) (GL : Cal P w K mg base 2 "leaves_of" ["term"] spLeavesOf) (GC : CalE P w K mg base 3 "check_number" nCN (spCheckNum K B)) : FnOk P w K mg base (L2.CX P w) 4 f fd ["term", "place"] (spLeafAtD K B) := by
  obtain ⟨_, _, ok_lv, b_lv, k_lv, m_lv⟩ := GL.ex
  obtain ⟨_, _, ok_cn, b_cn, k_cn, m_cn⟩ := GC.ex
  refine F.okX scLA (fun vs H Q E h => ?_) (fun cdv A outer s H vs Q E hr h => ?_)
  · obtain ⟨v, x, t, d, rfl, _⟩ := h
    rfl
  · obtain ⟨v, x, t, d, rfl, ht, hn, hd, h⟩ := h
    have hr_cn := hr
    have hr_lv := hr.mono (j := 2) (by decide)
    refine ⟨_, (pss_cons (ps_set (i := 2) scLA.nd rfl (Or.inl rfl) (pe_call ok_lv hr_lv rfl m_lv k_lv b_lv .nil pass0 (pa_cons (pv 0) pa_nil)))
      (pss_one (ps_ret (pe_ix ix_list (pv 2) (pe_call ok_cn hr_cn rfl m_cn k_cn b_cn .nil (passes_call (takes_of rfl rfl rfl rfl) (fun _ _ _ _ h => h)) (pa_cons (pv 1) (pa_cons pe_str (pa_cons pe_int (pa_cons (pe_op op_sub (pe_callB call_len_seq (by rfl) T.len PySem.boot_len (pa_cons (pv 2) pa_nil)) pe_int) pa_nil))))) (fun _ _ => rfl))))), ?_⟩
    refine ⟨_, rfl, v, t, rfl, ht, hn, fun H1 p xs s1 hp hxs hS => ?_⟩
    have hd1 := dp_same s1 hd
    refine ⟨_, rfl, _, rfl, _, rfl, p, _, rfl, .inl (SqL.of hxs), _, _, rfl, rfl, x, d, "place", 0, _, rfl, hd1, ?_⟩
    rw [hS.len]
    rcases h with ⟨i, c, rfl, hc, k⟩ | ⟨hb, k⟩
    · have hi : i < (leavesT t).length := by
        rcases Nat.lt_or_ge i (leavesT t).length with q | q
        · exact q
        · rw [List.getElem?_eq_none q] at hc
          cases hc
      cases hd1 with
      | int _ =>
      obtain ⟨y, hy, hyl⟩ := hS.get2 hc
      refine .inl ⟨decide_eq_true ⟨by omega, by omega⟩, p, _, _, y, rfl, rfl, SqL.of hxs, atI_nat (j := i) hy, k _ _ s1 hyl⟩
    · exact .inr ⟨hb, k.same s1⟩
abbrev nCH : List Str := ["term", "place", "bits", "leaves"]
theorem scCH : FnScope nCH ["term", "place", "bits"] (defScope sChanged) := ⟨rfl, rfl, rfl, by decide +kernel, rfl, by decide +kernel, by decide +kernel⟩
theorem ok_changed {f : Addr} {fd : FuncData} (F : Fun K "changed" "changed" sChanged f fd) (T : Bare mg) (GL : Cal P w K mg base 2 "leaves_of" ["term"] spLeavesOf) (GW : Cal P w K mg base 3 "with_leaves" ["term", "leaves"] (spWithLeaves K)) (GC : CalE P w K mg base 3 "check_number" nCN (spCheckNum K B)) : FnOk P w K mg base (L2.CX P w) 4 f fd ["term", "place", "bits"] (spChangedD K B) := by
  obtain ⟨_, _, ok_lv, b_lv, k_lv, m_lv⟩ := GL.ex
  obtain ⟨_, _, ok_wl, b_wl, k_wl, m_wl⟩ := GW.ex
  obtain ⟨_, _, ok_cn, b_cn, k_cn, m_cn⟩ := GC.ex
  refine F.okX scCH (fun vs H Q E h => ?_) (fun cdv A outer s H vs Q E hr h => ?_)
  · obtain ⟨v, x, q, t, d, bs, rfl, _⟩ := h
    rfl
  · obtain ⟨v, x, q, t, d, bs, rfl, ht, hn, hd, hq, h⟩ := h
    have hr_cn := hr
    have hr_wl := hr
    have hr_lv := hr.mono (j := 2) (by decide)
    refine ⟨_, (pss_cons (ps_set (i := 3) scCH.nd rfl (Or.inl rfl) (pe_call ok_lv hr_lv rfl m_lv k_lv b_lv .nil pass0 (pa_cons (pv 0) pa_nil)))
      (pss_cons (ps_expr (pe_call ok_cn hr_cn rfl m_cn k_cn b_cn .nil (passes_call (takes_of rfl rfl rfl rfl) (fun _ _ _ _ h => h)) (pa_cons (pv 1) (pa_cons pe_str (pa_cons pe_int (pa_cons (pe_op op_sub (pe_callB call_len_seq (by rfl) T.len PySem.boot_len (pa_cons (pv 3) pa_nil)) pe_int) pa_nil))))))
      (pss_cons (ps_asg (pe_tup (pa_cons (pe_ix ix_tup (pe_ix ix_list (pv 3) (pv 1) (fun _ _ => rfl)) pe_int (fun _ _ => rfl)) (pa_cons (pv 2) pa_nil))) (pg_sub (pv 3) (pv 1) set_list))
      (pss_one (ps_ret (pe_call ok_wl hr_wl rfl m_wl k_wl b_wl .nil pass0 (pa_cons (pv 0) (pa_cons (pv 3) pa_nil)))))))), ?_⟩
    refine ⟨_, rfl, v, t, rfl, ht, hn, fun H1 p xs s1 hp hxs hS => ?_⟩
    have hd1 := dp_same s1 hd
    refine ⟨_, rfl, _, rfl, p, _, rfl, .inl (SqL.of hxs), _, _, rfl, rfl, x, d, "place", 0, _, rfl, hd1, ?_⟩
    rw [hS.len]
    rcases h with ⟨i, c, rfl, hc, k⟩ | ⟨hb, k⟩
    · have hi : i < (leavesT t).length := by
        rcases Nat.lt_or_ge i (leavesT t).length with q | q
        · exact q
        · rw [List.getElem?_eq_none q] at hc
          cases hc
      cases hd1 with
      | int _ =>
      obtain ⟨y, hy, hyl⟩ := hS.get2 hc
      obtain ⟨y1, y2, rfl, g1, g2⟩ := id hyl
      refine .inl ⟨decide_eq_true ⟨by omega, by omega⟩, ?_⟩
      refine ⟨_, rfl, _, rfl, p, _, _, _, rfl, rfl, SqL.of hxs, atI_nat (j := i) hy, y1, _, _, _, rfl, rfl, SqT.of g1, atI_nat (j := 0) rfl, _, rfl, small (m := 2) (Nat.le_refl _), fun u hu => ?_⟩
      have s2 := same_new (o := .tup [vInt c.1, .ref q]) hu
      have hl : i < xs.length := by rw [hS.len]; exact hi
      refine ⟨_, rfl, _, rfl, p, _, _, i, rfl, rfl, s2 _ _ hxs, ixN_at hl, ?_⟩
      have t3 : Tups (upd H1 u (.tup [vInt c.1, .ref q])) (upd (upd H1 u (.tup [vInt c.1, .ref q])) p (.lst (xs.set i (.ref u)))) := Tups.upd (s2 _ _ hxs)
      have s3 : Same H (upd (upd H1 u (.tup [vInt c.1, .ref q])) p (.lst (xs.set i (.ref u)))) := same_upd (s1.trans s2) hp
      have hu2 : LeafAt (upd (upd H1 u (.tup [vInt c.1, .ref q])) p (.lst (xs.set i (.ref u)))) (.ref u) (c.1, bs) := ⟨u, q, rfl, t3 _ _ upd_same, s3 _ _ hq⟩
      exact ⟨_, rfl, _, rfl, v, p, _, t, _, rfl, ht.same s3, hn, SqL.of upd_same, Al.set hu2 i (hS.imp fun _ _ h => TmAt.tups ((Tups.of s2).trans t3) h), by rw [List.length_set], fun H4 z s4 hz => k H4 z (s3.trans s4) hz⟩
    · exact .inr ⟨hb, k.same s1⟩
abbrev nHU : List Str := ["t", "u", "times", "term", "_"]
theorem scHU : FnScope nHU ["t", "u", "times"] (defScope sHung) := ⟨rfl, rfl, rfl, by decide +kernel, rfl, by decide +kernel, by decide +kernel⟩
theorem ok_hung {f : Addr} {fd : FuncData} (F : Fun K "hung" "hung" sHung f fd) (T : Bare mg) (GC : CalE P w K mg base 3 "check_number" nCN (spCheckNum K B)) (m_MOST_TIMES : ∃ t, mg "MOST_TIMES" = some (.int 200 t)) : FnOk P w K mg base (L2.CX P w) 4 f fd ["t", "u", "times"] (spHung K B) := by
  obtain ⟨tm, m_MOST_TIMES⟩ := m_MOST_TIMES
  obtain ⟨_, _, ok_cn, b_cn, k_cn, m_cn⟩ := GC.ex
  refine F.okX scHU (fun vs H Q E h => ?_) (fun cdv A outer s H vs Q E hr h => ?_)
  · obtain ⟨v, u, x, t, t2, d, rfl, _⟩ := h
    rfl
  · obtain ⟨v, u, x, t, t2, d, rfl, ht, ht2, hd, h⟩ := h
    have hr_cn := hr
    refine ⟨_, (pss_cons (ps_expr (pe_call ok_cn hr_cn rfl m_cn k_cn b_cn .nil (passes_call (takes_of rfl rfl rfl rfl) (fun _ _ _ _ h => h)) (pa_cons (pv 2) (pa_cons pe_str (pa_cons pe_int (pa_cons (pe_glob (v := .int 200) rfl m_MOST_TIMES ⟨_, rfl⟩) pa_nil))))))
      (pss_cons (ps_set (i := 3) scHU.nd rfl (Or.inl rfl) (pv 0))
      (pss_cons (ps_for (passes_of rfl) rfl (pi_range1 rfl T.range (pa_cons (pv 2) pa_nil)) (pg_name (i := 4) scHU.nd rfl (Or.inl rfl))
          (pss_one (ps_set (i := 3) scHU.nd rfl (Or.inl rfl) (pe_tup (pa_cons pe_int (pa_cons (pv 3) (pa_cons (pv 1) pa_nil)))))))
      (pss_one (ps_ret (pv 3)))))), ?_⟩
    refine ⟨_, rfl, x, d, "times", 0, 200, rfl, hd, ?_⟩
    rcases h with ⟨n, rfl, hn, k⟩ | ⟨hb, k⟩
    · cases hd with
      | int _ =>
      refine .inl ⟨decide_eq_true ⟨by omega, by omega⟩, _, rfl, _, rfl, _, rfl, by omega, by omega, ?_⟩
      refine for_range (lo := 0) (n := n) (fun i σ H' => ∃ (y : V) (y4 : Option V), σ = [some v, some u, some (V.int (n : Int)), some y, y4] ∧ Same H H' ∧ TmAt H' y (hungT t t2 i)) ⟨v, none, rfl, Same.refl _, ht⟩ ?_ ?_
      · rintro i σ H1 hi ⟨y, y4, rfl, sm, hy⟩
        refine ⟨_, rfl, _, rfl, small (m := 3) (Nat.le_refl _), fun p hp => ?_⟩
        have s2 := same_new (o := .tup [V.int 0, y, u]) hp
        refine ⟨.ref p, _, rfl, sm.trans s2, ?_⟩
        exact ⟨p, y, u, rfl, upd_same, hy.same s2, ht2.same (sm.trans s2)⟩
      · rintro σ H1 ⟨y, y4, rfl, sm, hy⟩
        exact ⟨_, rfl, k _ _ sm hy⟩
    · exact .inr ⟨hb, k⟩
end
end Fam

/-! raise X(), X an own class of errors without __init__. -/
namespace L2
open PySem PySem.Spec PyProof.Rows PyProof.V
section
variable {X : Cx} {C : Addr} {bmB : List Value} {B newId initId : String}
theorem pmk_own0 {x : Str} {p pos : Pos} (F : ExcBaseFacts B newId initId bmB) (q : PySem.W.excIn X.K C bmB newId = true) (gC : X.mg x = some (.ref C)) (kC : PySem.W.keepIn X.K (.ref C) = true) (r : Raises X (.ref C)) (hg : Gl X x)
    (hdb : (x == ("__debug__" : Str)) = false := by decide) : PMk X (.Call (.Name x p) [] [] pos) (fun _ H Q => Q (.ref C) none H) := by
  intro pins s σ H Q I h
  refine wpAny_Call_Name_kw (ld_glob I hg gC ?_ hdb)
  refine PySem.W.callWith_K0 I.kIn kC ?_
  obtain ⟨bm, N, nm, qn, bs, hdct, sn, sub, ab, col, dd, k0, k1, k2, k3, k5, mN, hC, hN, hni, T⟩ := exc_obj I.kIn q
  refine wpAny_call_exc_subT F T hC hN hni (fun h' e hm => ?_) (Nat.zero_le _)
  exact mk_of I hm r h (I.hok.gone hm.new)
end
end L2

/-! for i, x in enumerate(t), t a tuple. -/
namespace EnT
open PySem
open PySem.Sem (wp)
open AutoSeq1 (wpAny_loadPart')
theorem meets_enumerate_newT (l : Addr) (items : Array Value) :
    Meets (Builtin.«enumerate.__new__» ⟨[.type "enumerate", .ref l], []⟩) (fun _ R s => s.heap.IsTuple l items ∧
      R (.ok (.ret (.ref (s.heap.push { cls := .type "tuple_iterator", data := .fields #[.ref l, .int 0 0] }).objs.size)))
        { s with heap := (s.heap.push { cls := .type "tuple_iterator", data := .fields #[.ref l, .int 0 0] }).push { cls := .type "enumerate", data := .fields #[.none, .bool false, .ref s.heap.objs.size, rawInt 0, .none, .none] } }) :=
  .of_wp fun prog w A R s h => by
    obtain ⟨hp, g, d, tk, os⟩ := s; obtain ⟨hl, h⟩ := h
    have hsub := sub_enumerate
    have hL : Heap.IsTuple (Shared.heap ⟨hp, g, d, tk, os⟩) l items := hl
    obtain ⟨⟨oc, od, odt, osl⟩, ho, hc, n, hd⟩ := hl
    replace hc : oc = .type "tuple" := hc
    replace hd : odt = .seq items n := hd
    subst hc hd
    wp_walk using wpAny_loadPart' ho, wpAny_pyIter_tuple hL
    refine wpAny_stack_any fun st => wpAny_pure ?_
    split
    · rename_i c _ _ _ _ _
      cases (c == Value.type "enumerate")
      · wp_walk using wpAny_loadPart' ho, wpAny_pyIter_tuple hL
        exact ⟨_, rfl, h⟩
      · wp_walk using wpAny_loadPart' ho, wpAny_pyIter_tuple hL
        exact ⟨_, rfl, h⟩
    · wp_walk using wpAny_loadPart' ho, wpAny_pyIter_tuple hL
      exact ⟨_, rfl, h⟩
section
variable {prog : Program} {w : World} {A : Around} {E : Value → Shared → Prop} {s : Shared}
theorem call_enumerate_tuple {l : Addr} {items : Array Value} {Q : Value → Shared → Prop} (hL : s.heap.IsTuple l items)
    (h : ∀ h', IsEnum h' (s.heap.objs.size + 1) s.heap.objs.size 0 .none → h'.IsTupleIter s.heap.objs.size l 0 → h'.objs.size = s.heap.objs.size + 2 →
      (∀ b o, s.heap.get? b = some o → h'.get? b = some o) → Q (.ref (s.heap.objs.size + 1)) { s with heap := h' }) :
    wpAny (model prog w) A (call (.type "enumerate") [.ref l]) Q E s := by
  refine callType_new F.called_enumerate (by decide) (F.typeCall_enumerate_1 _) (F.newCall_enumerate_1 _) (fun obj => F.args_object_init_2 obj _) F.entry_enumerate_new
    (meets_enumerate_newT l items) ⟨hL, ?_⟩
  have hz : (s.heap.push { cls := .type "tuple_iterator", data := .fields #[.ref l, .int 0 0] }).objs.size = s.heap.objs.size + 1 := Heap.size_push ..
  show _ ∧ _
  rw [hz]
  have he : IsEnum ((s.heap.push { cls := .type "tuple_iterator", data := .fields #[.ref l, .int 0 0] }).push
      { cls := .type "enumerate", data := .fields #[.none, .bool false, .ref s.heap.objs.size, rawInt 0, .none, .none] }) (s.heap.objs.size + 1) s.heap.objs.size 0 .none := by
    have := Heap.get?_push_size (s.heap.push { cls := .type "tuple_iterator", data := .fields #[.ref l, .int 0 0] })
      (o := { cls := .type "enumerate", data := .fields #[.none, .bool false, .ref s.heap.objs.size, rawInt 0, .none, .none] }) rfl
    rw [hz] at this; exact this
  refine ⟨⟨_, he, rfl⟩, h _ he ⟨_, Heap.get?_push_of_some _ (Heap.get?_push_size _ rfl), rfl, rfl⟩ (by rw [Heap.size_push, hz]) fun b o x => Heap.get?_push_of_some _ (Heap.get?_push_of_some _ x)⟩
theorem draws_tup {it t : Addr} {items : Array Value} (hh : A.handled = none) (hne : it ≠ t) : Draws prog w A it [it, t] items.size (fun i v => items[i]? = some v) (fun i h => h.IsTupleIter it t i ∧ h.IsTuple t items) where
  live := fun i h st => let ⟨⟨o, ho, _⟩, _⟩ := st; ⟨o, ho⟩
  frame := fun i h h' st k => by
    obtain ⟨⟨o, ho, r⟩, ⟨o2, ho2, r2⟩⟩ := st
    exact ⟨⟨o, k it (by simp) o ho, r⟩, ⟨o2, k t (by simp) o2 ho2, r2⟩⟩
  item := fun i s Q E hi st hQ => by
    obtain ⟨h1, h2⟩ := st
    refine RZ.nextOf_tuple_item h1 h2 (Array.getElem?_eq_getElem hi) fun h' hit sb => ?_
    refine hQ items[i] h' s.toks (Array.getElem?_eq_getElem hi) ⟨hit, ?_⟩ sb
    obtain ⟨o2, ho2, r2⟩ := h2
    exact ⟨o2, (sb.2 t (Ne.symm hne)).trans ho2, r2⟩
  done := fun s Q E st hE => by
    obtain ⟨h1, h2⟩ := st
    exact RZ.nextOf_tuple_end hh h1 h2 (by simp) hE
theorem pyNext_enumT_end {e it l : Addr} {i : Nat} {items : Array Value} {old : Value} {Q : Option Value → Shared → Prop} (hh : A.handled = none)
    (he : IsEnum s.heap e it i old) (hit : s.heap.IsTupleIter it l i) (hl : s.heap.IsTuple l items) (hx : items[i]? = none)
    (hQ : ∀ h', Heap.ExtBut it s.heap h' → Q none { s with heap := h' }) : wpAny (model prog w) A (pyNext (.ref e)) Q E s := by
  have hT : s.TypeIs (.ref e) "enumerate" := ⟨_, he, rfl⟩
  unfold pyNext
  refine wpAny_bind (wpAny_attempt (wpAny_callSpecial?_slot (name := Str.ofString "__next__") hT F.slot_enumerate_next
    (wpAny_call_entry F.slot_enumerate_next hT F.entry_enumerate_next ?_ (F.args_enumerate_next_1 _))))
  show wpAny _ _ (field (.ref e) 2 >>= _) _ _ _
  refine wpAny_bind (wpAny_field he rfl (x := .ref it) rfl ?_)
  refine wpAny_bind (RZ.nextOf_tuple_end hh hit hl hx fun h' x he' hx' => ?_)
  obtain ⟨o, ho, hc⟩ := hx'
  refine wpAny_bind (wpAny_isInstance (T := "StopIteration") (b := true) ⟨o, ho, hc⟩ isSubtype_stop ?_)
  exact wpAny_pure (hQ _ he')
end
end EnT
namespace L2
open PySem PySem.Spec PyProof.Rows EnT
/-- the tuple at a as it stands at each turn, each item in a new pair -/
def IteT (K : PySem.W.Frag) (a : Addr) : It :=
  ⟨fun i H => ∃ (xs : List V) (x : V), SqT K H a xs ∧ xs[i]? = some x, fun i H v H' => ∃ T x, v = .ref T ∧ H T = none ∧ H' = upd H T (.tup [.int (i : Nat), x]) ∧ ∀ xs, SqT K H a xs → xs[i]? = some x, fun i H => ∃ xs : List V, SqT K H a xs ∧ xs.length ≤ i⟩
theorem turn_enumT {P : Program} {w : World} {K : PySem.W.Frag} {elts : List Expr} {kk : Nat} {tpos : Pos} (a e it : Addr) (ha : a ≠ e ∧ a ≠ it) :
    Turn P w K (.Tuple elts kk tpos) (IteT K a) [e, it] e (fun i h => (∃ old, IsEnum h e it ((i : Nat) : Int) old) ∧ h.IsTupleIter it a i ∧ e ≠ it) where
  mem := by simp
  obj := fun i h st b hb => by
    obtain ⟨⟨old, he⟩, ⟨o, ho, hc, hd⟩, _⟩ := st
    have e' : b = e ∨ b = it := by simpa using hb
    rcases e' with z | z
    · rw [z]; exact ⟨_, he, fun v q => nomatch q⟩
    · rw [z]; exact ⟨o, ho, fun v q => by rw [hd] at q; cases q⟩
  keep := fun i h h' st k => let ⟨⟨old, he⟩, ⟨o, ho, r⟩, hne⟩ := st; ⟨⟨old, k e (by simp) _ he⟩, ⟨o, k it (by simp) _ ho, r⟩, hne⟩
  item := by
    intro X hP hw hK hc i pins s σ H E I hf st hg
    subst hP hw hK
    obtain ⟨⟨old, he⟩, hit, hne⟩ := st
    obtain ⟨xs, x, hq, hx⟩ := hg
    obtain ⟨its, rv, p, hz⟩ := I.tuple hq
    obtain ⟨u, hu, ru⟩ := rv.get hx
    have hel : e < s.heap.objs.size := Heap.lt_size he
    have hil : it < s.heap.objs.size := by obtain ⟨_, q, _⟩ := hit; exact Heap.lt_size q
    have hlt : i < its.toArray.size := by
      rcases Nat.lt_or_ge i its.length with q | q
      · simpa using q
      · rw [List.getElem?_eq_none q] at hu; cases hu
    refine wpAny_pyNext_enum_itemD (draws_tup (t := a) (items := its.toArray) (I.ok.hd hc) (Ne.symm ha.2)) he ⟨hit, show s.heap.IsTuple a its.toArray from p⟩ hlt hne (by simp [hne, Ne.symm ha.1]) fun y h' tk hy ho hit' hT hsz hk => ?_
    have ey : y = u := by
      have h1 : its.toArray[i]? = some u := by simpa using hu
      rw [h1] at hy
      exact (Option.some.inj hy).symm
    subst ey
    refine ⟨_, rfl, wpAny_letOwnedTupleGo_enum (s := { s with heap := h', toks := tk + 1 }) ho fun h'' he' sb => ?_⟩
    have hT2 : h''.get? s.heap.objs.size = some { cls := .type "tuple", data := .seq #[.int i tk, y] } := (sb.2 _ (Nat.ne_of_gt hel)).trans hT
    have new : ObjOk X.prog X.w (upd H s.heap.objs.size (.tup [.int (i : Nat), x])) h'' s.heap.objs.size (.tup [.int (i : Nat), x]) :=
      ⟨by show 2 ≤ sizeLine; decide, [.int i tk, y], .cons ⟨_, rfl⟩ (.cons ru .nil), ⟨_, hT2, rfl, _, rfl⟩⟩
    have I1 : Inv X pins σ (upd H s.heap.objs.size (.tup [.int (i : Nat), x])) { s with heap := h'', toks := tk + 1 } :=
      I.turnedNew (ch := [e, it]) (fun b ob hb q => (sb.2 b (fun z => hb (by simp [z]))).trans (hk b ob (fun z => hb (by simp [z])) (fun z => hb (by simp [z])) q)) hf (Nat.le_refl _) new
    refine ⟨.ref s.heap.objs.size, _, I1, rfl, ⟨_, x, rfl, I.hok.fresh (Nat.le_refl _), rfl, fun ys hy => by rw [I.tuple_inj hy hq]; exact hx⟩, ⟨⟨y, ?_⟩, ?_, hne⟩, fun b hb => ?_⟩
    · have e1 : ((i + 1 : Nat) : Int) = (i : Int) + 1 := by omega
      rw [e1]; exact he'
    · obtain ⟨⟨o, ho2, r⟩, _⟩ := hit'
      exact ⟨o, (sb.2 it (Ne.symm hne)).trans ho2, r⟩
    · have hb' : b < s.heap.objs.size := by
        have e' : b = e ∨ b = it := by simpa using hb
        rcases e' with z | z
        · rw [z]; exact hel
        · rw [z]; exact hil
      rw [upd_ne (Nat.ne_of_lt hb')]
      exact (hf b hb).1
  done := by
    intro X hP hw hK hc i pins s σ H E I hf st hg
    subst hP hw hK
    obtain ⟨⟨old, he⟩, hit, hne⟩ := st
    obtain ⟨xs, hq, hx⟩ := hg
    obtain ⟨its, rv, p, hz⟩ := I.tuple hq
    obtain ⟨f0, f1, f2, f3, f4, f5⟩ := hf it (by simp)
    have hl := rv.length
    exact pyNext_enumT_end (I.ok.hd hc) he hit (show s.heap.IsTuple a its.toArray from p) (by simp; omega) fun h' eb => ⟨rfl, I.turned (t' := s.toks) (fun b o hb q => eb b o hb q) f0 f1 f3 f4 f5⟩
  self := fun A i s Q E st h => let ⟨⟨_, he⟩, _⟩ := st; wpAny_pyIter_enum he h
def iEnumT (K : PySem.W.Frag) (ta : TA) : TI := fun σ H R => ta σ H fun vs H1 => ∃ a xs, vs = [.ref a] ∧ SqT K H1 a xs ∧ R (IteT K a) H1
theorem pi_enumT {X : Cx} {e : Expr} {ta : TA} {p pos tpos : Pos} {elts : List Expr} {kk : Nat} (hg : Gl X "enumerate") (hm : X.mg "enumerate" = none) (ha : PA X [e] ta) (hs : starEach [e] X.env = [(false, eval e X.env)] := by rfl) :
    PI X (.Tuple elts kk tpos) (.Call (.Name "enumerate" p) [e] [] pos) (iEnumT X.K ta) := by
  refine ⟨fun pins s σ H R I h => ?_⟩
  refine Call_ (ld_blt I hg hm boot_enumerate (PyProof.Rows.callWith_type1 (thn (ha.run pos pins s σ H _ I h) fun us s1 ⟨vs, H1, I1, r1, q1⟩ => ?_) hs rfl))
  obtain ⟨a, xs, ex, hq, q⟩ := q1
  subst ex
  cases r1 with
  | cons r rr =>
    cases rr
    cases r
    obtain ⟨its, rv, p', hz⟩ := I1.tuple hq
    have hT : s1.heap.IsTuple a its.toArray := p'
    have hlt : a < s1.heap.objs.size := by
      obtain ⟨o, ho, _⟩ := hT
      exact Heap.lt_size ho
    refine call_enumerate_tuple hT fun h' he hit hsz hk => wpAny_pyIter_enum he ?_
    have I2 : Inv X pins σ H1 { s1 with heap := h' } := I1.kept (t' := s1.toks) hk
    refine ⟨s1.heap.objs.size + 1, [s1.heap.objs.size + 1, s1.heap.objs.size], _, _, H1, rfl, I2, turn_enumT a (s1.heap.objs.size + 1) s1.heap.objs.size ⟨Nat.ne_of_lt (Nat.lt_succ_of_lt hlt), Nat.ne_of_lt hlt⟩, ⟨⟨.none, he⟩, hit, Nat.succ_ne_self _⟩, fun b hb => ?_, q⟩
    have e' : b = s1.heap.objs.size + 1 ∨ b = s1.heap.objs.size := by simpa using hb
    have hle : s1.heap.objs.size ≤ b := by
      rcases e' with z | z
      · rw [z]; exact Nat.le_add_right _ _
      · rw [z]; exact Nat.le_refl _
    exact I1.fpOk hle (I1.hok.fresh hle)
theorem for_enumT {K : PySem.W.Frag} {a : Addr} {xs : List V} {g : TG} {tb : TS} {D : Ends} {σ : L2.St} {H : Hp} (Pv : Nat → L2.St → Hp → Prop) (h0 : Pv 0 σ H) (hl : ∀ i σ H, i ≤ xs.length → Pv i σ H → SqT K H a xs)
    (hs : ∀ i x σ H T, xs[i]? = some x → Pv i σ H → H T = none → g (.ref T) σ (upd H T (.tup [.int (i : Nat), x])) fun σ2 H2 => tb { D with nx := Pv (i + 1), ct := Pv (i + 1), bk := D.nx } σ2 H2) (hd : ∀ σ H, Pv xs.length σ H → D.nx σ H) :
    ∃ W : Nat → Nat → L2.St → Hp → Prop, (∃ m, W 0 m σ H) ∧ ∀ i m σ H, W i m σ H →
      ((IteT K a).stop i H ∧ D.nx σ H) ∨ ((IteT K a).go i H ∧ ∃ N : L2.St → Hp → Prop, (∀ σ' H', N σ' H' → ∃ m', m' < m ∧ W (i + 1) m' σ' H') ∧ ∀ x H', (IteT K a).yld i H x H' → g x σ H' fun σ2 H2 => tb { D with nx := N, ct := N, bk := D.nx } σ2 H2) := by
  refine ⟨fun i m σ H => m = xs.length - i ∧ i ≤ xs.length ∧ Pv i σ H, ⟨xs.length, rfl, Nat.zero_le _, h0⟩, ?_⟩
  rintro i _ σ H ⟨rfl, hi, p⟩
  have q := hl i σ H hi p
  rcases Nat.lt_or_ge i xs.length with lt | ge
  · refine .inr ⟨⟨xs, xs[i], q, List.getElem?_eq_getElem lt⟩, Pv (i + 1), fun σ' H' p' => ⟨xs.length - (i + 1), by omega, rfl, lt, p'⟩, ?_⟩
    rintro y H' ⟨T, x, rfl, hT, rfl, hx⟩
    exact hs i x σ H T (hx xs q) p hT
  · have e : i = xs.length := Nat.le_antisymm hi ge
    subst e
    exact .inl ⟨⟨xs, q, Nat.le_refl _⟩, hd σ H p⟩
/-- a comprehension over enumerate(list) -/
theorem lc_enum {K : PySem.W.Frag} {a : Addr} {xs : List V} {g : TG} {tt : TT} {te : TE} {vs : List Nat} {σ : L2.St} {H1 : Hp} {D : Addr} {Qd : Hp → Prop} (Pv : Nat → Hp → Prop) (h0 : Pv 0 (upd H1 D (.lst []))) (hl : ∀ i H, i ≤ xs.length → Pv i H → SqL K H a xs)
    (hs : ∀ i x H T, xs[i]? = some x → Pv i H → H T = none → g (.ref T) (wipe σ vs) (upd H T (.tup [.int (i : Nat), x])) fun σ2 H2 => wipe σ2 vs = wipe σ vs ∧ tt σ2 H2 fun b H3 =>
      if b = true then te σ2 H3 fun y H4 => ∃ acc, H4 D = some (.lst acc) ∧ acc.length < sizeLine ∧ Pv (i + 1) (upd H4 D (.lst (acc ++ [y]))) else Pv (i + 1) H3) (hd : ∀ H, Pv xs.length H → Qd H) :
    ∃ W : Nat → Nat → Hp → Prop, (∃ m, W 0 m (upd H1 D (.lst []))) ∧ ∀ i m H, W i m H →
      ((Ite K a).stop i H ∧ Qd H) ∨ ((Ite K a).go i H ∧ ∃ Nx : Hp → Prop, (∀ H', Nx H' → ∃ m', m' < m ∧ W (i + 1) m' H') ∧ ∀ x H', (Ite K a).yld i H x H' → g x (wipe σ vs) H' fun σ2 H2 => wipe σ2 vs = wipe σ vs ∧ tt σ2 H2 fun b H3 =>
        if b = true then te σ2 H3 fun y H4 => ∃ acc, H4 D = some (.lst acc) ∧ acc.length < sizeLine ∧ Nx (upd H4 D (.lst (acc ++ [y]))) else Nx H3) := by
  refine ⟨fun i m H => m = xs.length - i ∧ i ≤ xs.length ∧ Pv i H, ⟨xs.length, rfl, Nat.zero_le _, h0⟩, ?_⟩
  rintro i _ H ⟨rfl, hi, p⟩
  have q := hl i H hi p
  rcases Nat.lt_or_ge i xs.length with lt | ge
  · refine .inr ⟨⟨xs, xs[i], q, List.getElem?_eq_getElem lt⟩, Pv (i + 1), fun H' p' => ⟨xs.length - (i + 1), by omega, rfl, lt, p'⟩, ?_⟩
    rintro y H' ⟨T, x, rfl, hT, rfl, hx⟩
    exact hs i x H T (hx xs q) p hT
  · have e : i = xs.length := Nat.le_antisymm hi ge
    subst e
    exact .inl ⟨⟨xs, q, Nat.le_refl _⟩, hd H p⟩
/-- a comprehension over zip of two lists of one length -/
theorem lc_zip {K : PySem.W.Frag} {a b : Addr} {xs ys : List V} {g : TG} {tt : TT} {te : TE} {vs : List Nat} {σ : L2.St} {H1 : Hp} {D : Addr} {Qd : Hp → Prop} (hl : xs.length = ys.length) (Pv : Nat → Hp → Prop) (h0 : Pv 0 (upd H1 D (.lst []))) (hq : ∀ i H, Pv i H → SqL K H a xs ∧ SqL K H b ys)
    (hs : ∀ i x y H T, xs[i]? = some x → ys[i]? = some y → Pv i H → H T = none → g (.ref T) (wipe σ vs) (upd H T (.tup [x, y])) fun σ2 H2 => wipe σ2 vs = wipe σ vs ∧ tt σ2 H2 fun b H3 =>
      if b = true then te σ2 H3 fun y H4 => ∃ acc, H4 D = some (.lst acc) ∧ acc.length < sizeLine ∧ Pv (i + 1) (upd H4 D (.lst (acc ++ [y]))) else Pv (i + 1) H3) (hd : ∀ H, Pv xs.length H → Qd H) :
    ∃ W : Nat → Nat → Hp → Prop, (∃ m, W 0 m (upd H1 D (.lst []))) ∧ ∀ i m H, W i m H →
      ((Itz K a b).stop i H ∧ Qd H) ∨ ((Itz K a b).go i H ∧ ∃ Nx : Hp → Prop, (∀ H', Nx H' → ∃ m', m' < m ∧ W (i + 1) m' H') ∧ ∀ x H', (Itz K a b).yld i H x H' → g x (wipe σ vs) H' fun σ2 H2 => wipe σ2 vs = wipe σ vs ∧ tt σ2 H2 fun b H3 =>
        if b = true then te σ2 H3 fun y H4 => ∃ acc, H4 D = some (.lst acc) ∧ acc.length < sizeLine ∧ Nx (upd H4 D (.lst (acc ++ [y]))) else Nx H3) := by
  refine ⟨fun i m H => m = xs.length - i ∧ i ≤ xs.length ∧ Pv i H, ⟨xs.length, rfl, Nat.zero_le _, h0⟩, ?_⟩
  rintro i _ H ⟨rfl, hi, p⟩
  obtain ⟨q1, q2⟩ := hq i H p
  rcases Nat.lt_or_ge i xs.length with lt | ge
  · have lt2 : i < ys.length := by omega
    refine .inr ⟨⟨xs, ys, xs[i], ys[i], q1, q2, List.getElem?_eq_getElem lt, List.getElem?_eq_getElem lt2⟩, Pv (i + 1), fun H' p' => ⟨xs.length - (i + 1), by omega, rfl, lt, p'⟩, ?_⟩
    rintro z H' ⟨T, x, y, rfl, hT, rfl, hx, hy⟩
    exact hs i x y H T (hx xs q1) (hy ys q2) p hT
  · have e : i = xs.length := Nat.le_antisymm hi ge
    subst e
    exact .inl ⟨⟨xs, ys, q1, q2, .inl (Nat.le_refl _)⟩, hd H p⟩
end L2

set_option maxHeartbeats 2000000
/-! List comprehensions whose element lets an exception out. -/
namespace Lot
open PySem PySem.Spec PyProof.Rows L2

section
variable {M : Model} {A : Around} {E : Value → Shared → Prop} {s : Shared} {env : Env}
/-- what a block leaves: its list, or an exception; its own variables are let go then -/
def Outcome (M : Model) (A : Around) (E Q : Value → Shared → Prop) (acc : Value) (ce : Env) (r : Result) (s' : Shared) : Prop :=
  ∃ m, s'.heap.Ns ce.locals m ∧ ∀ g, Heap.SameBut ce.locals s'.heap g →
    match r with
    | .ok _ => Q acc { s' with heap := g }
    | .error x => wpAny M A (PySem.passOn "comprehension.variables-let-go" x ce : Sem Value) (fun _ _ => False) E { s' with heap := g }
theorem comp_outcome {e : Expr} {scope : Scope} {pos : Pos} {mk first : Sem Value} {c0 : Comprehension} {cs : List Comprehension} {cl : List (Str × Addr)} {Q : Value → Shared → Prop}
    (h1 : clausesOf e = c0 :: cs) (h2 : ∀ x, foldedSetIterable c0.iter env x = pure x) (h3 : closureFor scope env = pure cl)
    (h4 : scope.kind = .function) (h5 : ∀ x ∈ scope.names, x.2 = .local → scope.names.lookup x.1 = some .local)
    (h : wpAny M A first (fun x t1 => wpAny M A (pyIter x) (fun it t2 => wpAny M A mk (fun acc t3 =>
      wpAny M A (newFunctionEnv scope env.globals cl [] env.qual none .none (some env)) (fun ce t4 =>
        codeAny M A (.compStart e 0 it acc { ce with scope := relabel scope env }) (Outcome M A E Q acc { ce with scope := relabel scope env }) t4) E t3) E t2) E t1) E s) :
    wpAny M A (comprehension e scope env pos mk false first none) Q E s := by
  have go : ∀ {α : Type} {t : Sem α} {F G : α → Shared → Prop} {u : Shared}, wpAny M A t F E u → (∀ a u, F a u → G a u) → wpAny M A t G E u := fun a b => wpAny_mono a b fun _ _ z => z
  unfold comprehension
  rw [h3, h1]
  refine wpAny_bind (go h fun x t1 k1 => wpAny_bind (wpAny_standAt (wpAny_bind (wpAny_of_eq (h2 x) (wpAny_bind (wpAny_holding (go k1 fun it t2 k2 => ?_)))))))
  refine wpAny_standIf (wpAny_bind (go k2 fun acc t3 k3 => wpAny_bind (wpAny_pure (wpAny_bind (go k3 fun ce t4 k4 => ?_)))))
  dsimp only
  have own : ∀ x ∈ (scope.names.filter fun x => (x.2 == .local || x.2 == .cell) && x.1 != (".0" : Str)).reverse, x.2 = .local → Env.kindOf { ce with scope := relabel scope env } x.1 = some .local := fun x hx hl =>
    lookup_relabel_local (h5 x (List.mem_filter.mp (List.mem_reverse.mp hx)).1 hl)
  refine wpAny_holding (wpAny_bind (wpAny_attempt (wpAny_holding (wpAny_run (codeAny_mono k4 fun r t5 k5 => ?_)))))
  obtain ⟨m, hn, k5⟩ := k5
  cases r with
  | ok f => exact wpAny_bind (wpAny_holding (wpAny_comp_letGo (cenv := { ce with scope := relabel scope env }) h4 _ t5 m own hn fun g _ _ hg => wpAny_pure (k5 g hg)))
  | error x => exact wpAny_bind (wpAny_holding (wpAny_comp_letGo (cenv := { ce with scope := relabel scope env }) h4 _ t5 m own hn fun g _ _ hg => go (k5 g hg) fun _ _ z => z.elim))
end

/-- another wish for exceptions -/
theorem Inv.wish {X : Cx} {pins : List (Addr × Obj)} {σ : L2.St} {H : Hp} {s : Shared} (I : Inv X pins σ H s) (xe : Value → Shared → Prop) : Inv { X with xe := xe } pins σ H s :=
  ⟨⟨I.ok.mod, I.ok.kind, I.ok.glob, I.ok.blt, I.ok.above, I.ok.inj, I.ok.has, I.ok.cab, I.ok.hd, I.ok.frames, I.ok.stk, I.ok.exf, I.ok.bs, I.ok.bsz, I.ok.noex, I.ok.exfs, I.ok.funs, I.ok.frf⟩, I.os, I.bare, I.base, I.loc, I.cell, I.free, I.freeC, I.pin, I.hok, I.len⟩
theorem Inv.unwish {X : Cx} {pins : List (Addr × Obj)} {σ : L2.St} {H : Hp} {s : Shared} {xe : Value → Shared → Prop} (I : Inv { X with xe := xe } pins σ H s) : Inv X pins σ H s :=
  ⟨⟨I.ok.mod, I.ok.kind, I.ok.glob, I.ok.blt, I.ok.above, I.ok.inj, I.ok.has, I.ok.cab, I.ok.hd, I.ok.frames, I.ok.stk, I.ok.exf, I.ok.bs, I.ok.bsz, I.ok.noex, I.ok.exfs, I.ok.funs, I.ok.frf⟩, I.os, I.bare, I.base, I.loc, I.cell, I.free, I.freeC, I.pin, I.hok, I.len⟩

theorem noteFrame_by {e : Value} {a b : Env} (h : a.frame = b.frame) : noteFrame e a = noteFrame e b := by
  unfold noteFrame PySem.frameOf
  rw [h]
theorem passOn_by {α : Type} {w : String} {e : Value} {a b : Env} (h : a.frame = b.frame) : (PySem.passOn w e a : Sem α) = PySem.passOn w e b := by
  unfold PySem.passOn
  rw [h]
theorem funFrames_but {h g base : Heap} {C : Addr} (e : ∀ b, b ≠ C → g.get? b = h.get? b) : ∀ {l : List Env}, C ∉ frs l → h.FunFrames base l → g.FunFrames base l
  | [], _, _ => trivial
  | env :: l, hC, z => by
    obtain ⟨hk, ⟨L, o, hf, hn, ho, hd⟩, hr⟩ := z
    have hm : ∀ b, b ∈ frs l → b ∈ frs (env :: l) := fun b hb => by
      unfold frs at hb ⊢
      rw [List.filterMap_cons, hf]
      exact List.mem_cons_of_mem _ hb
    have hL : L ≠ C := fun q => hC (by
      unfold frs
      rw [List.filterMap_cons, hf, q]
      exact List.mem_cons_self)
    exact ⟨hk, ⟨L, o, hf, hn, (e L hL).trans ho, hd⟩, funFrames_but e (fun q => hC (hm _ q)) hr⟩

section
variable {X : Cx} {pins pb : List (Addr × Obj)} {σ σb : L2.St} {H3 Hb : Hp} {s3 sb s' : Shared} {scope : Scope} {ce : Env} {fp : List Addr} {W : WX} {Eo : XK}
/-- what a callee lets out within a block is in the def's air behind the block -/
theorem block_air (hs : X.stack = X.env :: X.outer) (hf : X.env.frame = some X.env.locals) (I3 : Inv X pins σ H3 s3) (Ib : Inv (X.blk s3 H3 scope ce fp) pb σb Hb sb)
    (hC : s3.heap.objs.size ≤ ce.locals) (hfr : ce.frame = X.env.frame) (f3 : ∀ b ∈ fp, FpOk X pins H3 b) (tk : Takes X W) (hW : ∀ cls d H', Eo cls d H' → W cls d σ H') {Q : Value → Shared → Prop} {acc e : Value}
    (c : CX X.prog X.w X.stack Hb sb Eo e s') :
    notedBy (model X.prog X.w) X.A ce (fun e s' => Outcome (model X.prog X.w) X.A X.xe Q acc ce (.error e) s') e s' := by
  obtain ⟨a, B, H', cls, d, rfl, fl, hok, ub, na, os, ag, hE⟩ := c
  have hfrm : X.A.frames = some (X.env :: X.outer) := by rw [I3.ok.frames, hs]
  have nC : ce.locals ∉ frs X.stack := fun hm => by
    obtain ⟨_, o, ho, _⟩ := Ib.ok.funs.mem hm
    exact absurd (Nat.lt_of_lt_of_le (Heap.lt_size ho) hC) (Nat.lt_irrefl _)
  obtain ⟨mC, ⟨oC, es, ep, eC, rC⟩, _⟩ := Ib.loc
  have hbC : Hb ce.locals = none := Ib.free
  have bC : B.get? ce.locals = some oC := ub.keep _ _ eC hbC nC
  have h'C : H' ce.locals = none := ub.free _ _ eC hbC
  have ne_of_B : ∀ {b}, B.get? b = none → b ≠ ce.locals := fun {b} e q => by
    rw [q, bC] at e
    cases e
  show wpAny _ _ (noteFrame (.ref a) ce) _ _ _
  rw [noteFrame_by hfr]
  have fl1 : HandSPX.FlyingZ B (X.env :: X.outer) a (Zc cls d) s'.heap := by
    rw [← hs]
    exact fl
  refine HandSPX.looks_onZ Zc.steady hfrm hf fl1 fun h1 hh up1 => ?_
  refine ⟨mC, ⟨oC, es, ep, hh.1 _ _ bC, rC⟩, fun g hg => ?_⟩
  have eg : ∀ b, b ≠ ce.locals → g.get? b = h1.get? b := hg.2
  obtain ⟨k1, k2, k3, oe, vs, T, oT, ts, he, hz, hd, hv, hnT, hTe, hT, hdT, h3⟩ := hh
  obtain ⟨B', hB'⟩ : ∃ B' : Heap, B' = PySem.W.hideAll B [ce.locals] := ⟨_, rfl⟩
  have inB : ∀ {b o}, B'.get? b = some o → B.get? b = some o ∧ b ≠ ce.locals := fun {b o} q => by
    rw [hB'] at q
    refine ⟨PySem.W.of_hideAll _ q, fun z => ?_⟩
    rw [z, PySem.W.hideAll_none [ce.locals] (List.mem_singleton.mpr rfl)] at q
    cases q
  have toB : ∀ {b o}, B.get? b = some o → b ≠ ce.locals → B'.get? b = some o := fun {b o} q z => by
    rw [hB']
    exact PySem.W.hideAll_get _ q fun m => z (List.mem_singleton.mp m)
  have noB : ∀ {b}, B.get? b = none → B'.get? b = none := fun {b} q => by
    cases z : B'.get? b with
    | none => rfl
    | some o =>
      rw [(inB z).1] at q
      cases q
  have ffB : ∀ b ∈ frs X.stack, B.get? b = none := fun b hb => (fl.2.2.1.mem hb).1
  have held : HandSPX.HeldZ B' X.stack a (Zc cls d) X.env.locals g := by
    refine ⟨fun b o q => ?_, noB k2, ?_, oe, vs, T, oT, ts, ?_, hz, hd, hv, noB hnT, hTe, ?_, hdT, h3⟩
    · obtain ⟨q1, q2⟩ := inB q
      rw [eg b q2]
      exact k1 b o q1
    · rw [← hs] at k3
      exact funFrames_none (funFrames_but eg nC k3) fun b hb => noB (ffB b hb)
    · rw [eg a (ne_of_B k2)]
      exact he
    · rw [eg T (ne_of_B hnT)]
      exact hT
  show wpAny _ _ (PySem.passOn _ (.ref a) ce) _ _ _
  rw [passOn_by hfr]
  unfold PySem.passOn
  obtain ⟨_, _, _, oe', vs', T', _, _, he', _, hd', hv', _⟩ := id held
  refine wpAny_bind (wpAny_field he' hd' hv' ?_)
  rw [if_neg (show ¬ ((Value.ref T' == Value.none) = true) from by simp), hf]
  refine wpAny_bind (HandSPX.setFlight_onZ held fun g2 held2 up2 => wpAny_throw (tk _ _ ?_))
  obtain ⟨G, g1, gno⟩ := restrict g2 fun b => (B'.get? b).isSome || decide (b ∈ frs X.stack)
  have gB : ∀ b o, B'.get? b = some o → G.get? b = some o := fun b o q => by
    rw [g1 b (by simp [q])]
    exact held2.1 b o q
  have gF : ∀ b, b ∈ frs X.stack → G.get? b = g2.get? b := fun b hb => g1 b (by simp [hb])
  have og : ∀ b o, G.get? b = some o → g2.get? b = some o ∧ ((B'.get? b).isSome = true ∨ b ∈ frs X.stack) := fun b o q => by
    cases z : ((B'.get? b).isSome || decide (b ∈ frs X.stack)) with
    | false =>
      rw [gno b z] at q
      cases q
    | true =>
      rw [g1 b z] at q
      exact ⟨q, by simpa [Bool.or_eq_true] using z⟩
  have old : ∀ {b o}, s3.heap.get? b = some o → b ≠ ce.locals := fun {b o} q => Nat.ne_of_lt (Nat.lt_of_lt_of_le (Heap.lt_size q) hC)
  have frameG : ∀ b o, sb.heap.get? b = some o → b ∈ frs X.stack → ∃ sl, G.get? b = some { o with slots := sl } := fun b o q hb => by
    obtain ⟨sl1, q1⟩ := ub.slot b o q hb
    obtain ⟨_, o2, e2, nf⟩ := fl.2.2.1.mem hb
    rw [q1] at e2
    cases e2
    obtain ⟨sl2, q2⟩ := up1 b _ q1 nf
    have q3 : g.get? b = _ := (eg b fun z => nC (z ▸ hb)).trans q2
    obtain ⟨sl3, q4⟩ := up2 b _ q3 nf
    exact ⟨sl3, by rw [gF b hb]; exact q4⟩
  refine ⟨a, B', { s3 with heap := G, gens := s'.gens, drawn := s'.drawn, toks := s'.toks }, pins, σ, H', cls, d, rfl, ?_, fun b o q hb => ?_, Heap.UpToSlots.of_keeps fun b o q => (og b o q).1, .inr (.inr held2), na, os.trans Ib.os, ag, hW _ _ _ hE⟩
  · refine I3.call (ch := fp) ⟨fun b o q n hb hx => ?_, fun b o q n hb hx => ?_, fun b o q n hx => ?_, fun b o q hx => ?_, fun b xs q => ub.tups b xs (Ib.base.tups b xs q), fun b o xs q => ub.frzs b o xs (Ib.base.frzs b o xs q), fun b ps q => ?_⟩
      (HOk.kept (fun b o q => (hok b o q).stay (fun c u hc r => toB r fun z => ?_) (fun _ r => r) fun _ _ r => r) gB) ag fun b hb => ⟨(f3 b hb).2.2.2.1, (f3 b hb).2.1, (f3 b hb).2.2.2.2.1, (f3 b hb).2.2.2.2.2⟩
    · exact gB b o (toB (ub.keep b o (Ib.base.keep b o q n hb hx) (Ib.base.free b o q n hx) hb) (old q))
    · obtain ⟨sl, q1⟩ := Ib.base.slot b o q n hb hx
      obtain ⟨sl2, q2⟩ := frameG b _ q1 hb
      exact ⟨sl2, q2⟩
    · obtain ⟨o1, q1⟩ := Ib.base.there b o q hx
      exact ub.free b o1 q1 (Ib.base.free b o q n hx)
    · obtain ⟨o1, q1⟩ := Ib.base.there b o q hx
      by_cases hb : b ∈ frs X.stack
      · obtain ⟨sl2, q2⟩ := frameG b _ q1 hb
        exact ⟨_, q2⟩
      · obtain ⟨o2, q2⟩ := ub.there b o1 q1 hb
        exact ⟨o2, gB b o2 (toB q2 (old q))⟩
    · obtain ⟨m1, q1⟩ := Ib.base.tbls b ps q
      obtain ⟨m2, q2⟩ := ub.tbls b _ q1
      exact ⟨m1 ++ m2, by rw [q2, Array.append_assoc]⟩
    · rcases hc with hc | hc
      · rw [← hc, z, h'C] at q
        cases q
      · rw [z, h'C] at hc
        cases hc
  · obtain ⟨q1, q2⟩ := og b o q
    rcases q2 with q2 | q2
    · obtain ⟨o2, q3⟩ := Option.isSome_iff_exists.mp q2
      have z := held2.1 b o2 q3
      rw [q1] at z
      cases z
      exact q3
    · exact absurd q2 hb
end

section
variable {X : Cx} {pins : List (Addr × Obj)} {σ : L2.St} {H : Hp} {s : Shared} {W : WX} {Eo : XK}
/-- the callee's exceptions, taken by a wish -/
abbrev LetsOut (X : Cx) (Eo : XK) : Prop := Passes (CX X.prog X.w) X Eo
theorem lcx_core {Q : VK} {elt tg iter : Expr} {ifs : List Expr} {scope : Scope} {own : List (Str × Nat)} {pos pos' : Pos} {wi : TI} {g : TG} {tt : TT} {te : TE}
    (hc : X.calm = true) (hN : X.N.Nodup) (hs : X.stack = X.env :: X.outer) (hf : X.env.frame = some X.env.locals) (tk : Takes X W) (hW : ∀ cls d σ H', Eo cls d H' → W cls d σ H')
    (I : Inv X pins σ H s) (hi : PI X tg iter wi) (ok : BlkOk X.N X.env.scope scope own)
    (hg : ∀ (t : Shared) (G : Hp) (C : Addr) (cl : List (Str × Addr)) (fp : List Addr), PG (X.blk t G scope (compEnvC scope cl C X.env) fp) tg g)
    (ht : ∀ (t : Shared) (G : Hp) (C : Addr) (cl : List (Str × Addr)) (fp : List Addr), PTs (X.blk t G scope (compEnvC scope cl C X.env) fp) ifs tt)
    (he : ∀ (t : Shared) (G : Hp) (C : Addr) (cl : List (Str × Addr)) (fp : List Addr) (xe : Value → Shared → Prop), LetsOut { X.blk t G scope (compEnvC scope cl C X.env) fp with xe := xe } Eo →
      PE { X.blk t G scope (compEnvC scope cl C X.env) fp with xe := xe } elt te) (hfold : ∀ x, foldedSetIterable iter X.env x = pure x)
    (h : tLc wi g tt te (own.map (·.2)) σ H Q) :
    wpAny (model X.prog X.w) X.A (comprehension (.ListComp elt [⟨tg, iter, ifs, 0⟩] scope pos) scope X.env pos' (newList []) false (eval iter X.env) none) (fun u s' => ∃ x H', Inv X pins σ H' s' ∧ RelV x u ∧ Q x H') X.xe s := by
  have caps : ∀ y ∈ scope.names, y.2 = .free → ∃ c, X.env.cells.lookup y.1 = some c := fun y hy e => (ok.free y hy e).elim (fun k => I.ok.has _ (.inl k)) fun k => I.ok.has _ (.inr k)
  refine comp_outcome rfl hfold (closure_ok caps) ok.kind (fun y hy e => (ok.uniq y hy).trans (by rw [e])) (thn (hi.run pins s σ H _ I h) fun xv s1 hx => thn hx fun itv s2 ⟨it, fp, tn, J, H2, e, I2, T, st2, f2, q⟩ => ?_)
  subst e
  refine wpAny_newObj_type (newEnv_comp ?_) (by show 0 ≤ sizeLine; decide)
  obtain ⟨D, hD⟩ : ∃ D, D = s2.heap.objs.size := ⟨_, rfl⟩
  rw [← hD]
  obtain ⟨Inva, ⟨m0, w0⟩, turn⟩ := q D (I2.hok.fresh (Nat.le_of_eq hD.symm))
  obtain ⟨s3, hs3⟩ : ∃ t : Shared, t = { s2 with heap := s2.heap.push { cls := .type "list", data := .seq ([] : List Value).toArray } } := ⟨_, rfl⟩
  have h3 : s3.heap = s2.heap.push { cls := .type "list", data := .seq ([] : List Value).toArray } := by rw [hs3]
  have I3 : Inv X pins σ (upd H2 D (.lst [])) s3 := by
    rw [hs3]
    refine I2.laid (t' := s2.toks) (fun b o => Heap.get?_push_of_some _) (Nat.le_of_eq hD.symm) ⟨Nat.zero_le _, [], 0, .nil, ?_⟩
    rw [hD]
    exact Heap.get?_push_size _ rfl
  have young : ∀ b ∈ fp, b < s2.heap.objs.size := fun b hb => (T.obj _ _ st2 b hb).elim fun o e => Heap.lt_size e.1
  have f3 : ∀ b ∈ fp, FpOk X pins (upd H2 D (.lst [])) b ∧ b < s3.heap.objs.size := fun b hb =>
    ⟨⟨(upd_ne (by rw [hD]; exact Nat.ne_of_lt (young b hb))).trans (f2 b hb).1, (f2 b hb).2⟩, by rw [h3, Heap.size_push]; exact Nat.lt_succ_of_lt (young b hb)⟩
  have st3 : tn 0 s3.heap := T.keep _ _ _ st2 fun b _ o e => by rw [h3]; exact Heap.get?_push_of_some _ e
  have I4 := block_start I3 ok hN f3
  rw [← hs3]
  obtain ⟨ce, hce⟩ : ∃ c, c = compEnvC scope (cellsFrom (s3.heap.objs.size + 1) scope.names (cloFrom X.env.cells scope.names [])) s3.heap.objs.size X.env := ⟨_, rfl⟩
  have pg := hg s3 (upd H2 D (.lst [])) s3.heap.objs.size (cellsFrom (s3.heap.objs.size + 1) scope.names (cloFrom X.env.cells scope.names [])) fp
  have pt := ht s3 (upd H2 D (.lst [])) s3.heap.objs.size (cellsFrom (s3.heap.objs.size + 1) scope.names (cloFrom X.env.cells scope.names [])) fp
  have pe := he s3 (upd H2 D (.lst [])) s3.heap.objs.size (cellsFrom (s3.heap.objs.size + 1) scope.names (cloFrom X.env.cells scope.names [])) fp
  rw [← hce] at I4 pg pt pe
  have cL : ce.locals = s3.heap.objs.size := by rw [hce]; rfl
  have cF : ce.frame = X.env.frame := by rw [hce]; rfl
  show codeAny _ _ (.compStart _ 0 (.ref it) (.ref D) (compEnvC scope (cellsFrom (s3.heap.objs.size + 1) scope.names (cloFrom X.env.cells scope.names [])) s3.heap.objs.size X.env))
    (Outcome (model X.prog X.w) X.A X.xe (fun u s' => ∃ x H', Inv X pins σ H' s' ∧ RelV x u ∧ Q x H') (.ref D) (compEnvC scope (cellsFrom (s3.heap.objs.size + 1) scope.names (cloFrom X.env.cells scope.names [])) s3.heap.objs.size X.env)) _
  rw [← hce]
  obtain ⟨H3, hH3⟩ : ∃ G, G = upd H2 D (.lst []) := ⟨_, rfl⟩
  rw [← hH3] at I3 I4 pg pt pe w0 f3
  obtain ⟨s4, hs4⟩ : ∃ t : Shared, t = { s3 with heap := pushCells (s3.heap.push { cls := .type "dict", data := .dict #[] }) scope.names } := ⟨_, rfl⟩
  have st4 : tn 0 s4.heap := T.keep _ _ _ st3 fun b _ o e => by rw [hs4]; exact pushCells_keeps _ _ _ _ (Heap.get?_push_of_some _ e)
  rw [← hs4] at I4
  show codeAny _ _ _ _ { s3 with heap := pushCells (s3.heap.push { cls := .type "dict", data := .dict #[] }) scope.names }
  rw [← hs4]
  -- the iterator's objects stand apart in the block
  have apart : ∀ {σ' : L2.St} {G : Hp} {t : Shared}, Inv (X.blk s3 H3 scope ce fp) [] σ' G t → (∀ b ∈ fp, G b = none) → ∀ b ∈ fp, FpOk (X.blk s3 H3 scope ce fp) [] G b := fun {σ' G t} J hn b hb =>
    ⟨hn b hb, (J.ok.exf b hb).1, J.ok.exfs b hb, .inl hb, fun x c e => (J.ok.exf b hb).2 x c e, fun p hp => by cases (show p ∈ ([] : List (Addr × Obj)) ++ [] from hp)⟩
  have air : ∀ {pb : List (Addr × Obj)} {σb : L2.St} {Hb : Hp} {sb s' : Shared} {e : Value}, Inv (X.blk s3 H3 scope ce fp) pb σb Hb sb → CX X.prog X.w X.stack Hb sb Eo e s' →
      notedBy (model X.prog X.w) X.A ce (fun e s' => Outcome (model X.prog X.w) X.A X.xe (fun u s' => ∃ x H', Inv X pins σ H' s' ∧ RelV x u ∧ Q x H') (.ref D) ce (.error e) s') e s' := fun {pb σb Hb sb s' e} Ib c =>
    block_air hs hf I3 Ib (Nat.le_of_eq cL.symm) cF (fun b hb => (f3 b hb).1) tk (fun cls d G z => hW cls d σ G z) c
  have loop : codeAny (model X.prog X.w) X.A (.compLoop (.ListComp elt [⟨tg, iter, ifs, 0⟩] scope pos) 0 (.ref it) (.ref D) ce) (Outcome (model X.prog X.w) X.A X.xe (fun u s' => ∃ x H', Inv X pins σ H' s' ∧ RelV x u ∧ Q x H') (.ref D) ce) s4 := by
    refine compLoop_any (fun n t => ∃ i G, Inv (X.blk s3 H3 scope ce fp) [] (wipe σ (own.map (·.2))) G t ∧ tn i t.heap ∧ (∀ b ∈ fp, G b = none) ∧ Inva i n G) ?_ m0 ⟨0, H3, I4, st4, fun b hb => (f3 b hb).1.1, w0⟩
    rintro n s5 ⟨i, H5, I5, st5, n5, w5⟩
    rcases turn i n H5 w5 with ⟨stop, qq⟩ | ⟨go, Nx, hNx, step⟩
    · refine thnF (T.done (X.blk s3 H3 scope ce fp) rfl rfl rfl hc i [] s5 _ H5 (fun _ _ => False) I5 (apart I5 n5) st5 stop) fun r s6 ⟨hr, I6⟩ => ?_
      subst hr
      have I7 : Inv X pins σ H5 s6 := I3.call' (ch := fp) I6.os I6.base I6.hok I6.bare fun b hb => ⟨(f3 b hb).1.2.2.2.1, (f3 b hb).1.2.1, (f3 b hb).1.2.2.2.2.1, (f3 b hb).1.2.2.2.2.2⟩
      have nC : H5 s3.heap.objs.size = none := cL ▸ (I6.free : H5 ce.locals = none)
      obtain ⟨m, hn, _⟩ := I6.loc
      have fC := I3.fpOk (Nat.le_refl _) nC
      refine ⟨m, hn, fun g' sb => ⟨.ref D, H5, ?_, rfl, qq⟩⟩
      rw [cL] at sb
      exact I7.turned (t' := s6.toks) (fun b o hb e => (sb.2 b hb).trans e) fC.1 fC.2.1 fC.2.2.2.1 fC.2.2.2.2.1 fC.2.2.2.2.2
    · refine thnF (T.item (X.blk s3 H3 scope ce fp) rfl rfl rfl hc i [] s5 _ H5 (fun _ _ => False) I5 (apart I5 n5) st5 go) fun r s6 ⟨u, hr, h6⟩ => ?_
      subst hr
      refine thnF h6 fun _ s7 ⟨x, H7, I7, r7, y7, st7, n7⟩ => ?_
      refine thnF (pg.run _ s7 _ H7 x u _ (I7.pinned (apart I7 n7) (T.obj _ _ st7)) r7 (step x H7 y7)) fun _ s8 ⟨σ8, H8, I8, hw8, q8⟩ => ?_
      refine thnF (pt.run _ s8 σ8 H8 _ I8 q8) fun b s9 ⟨H9, I9, q9⟩ => ?_
      have fin : ∀ {t : Shared} {G : Hp}, Inv (X.blk s3 H3 scope ce fp) ([] ++ pinsAt fp s7.heap) σ8 G t → Nx G → ∃ m, m < n ∧ ∃ i G, Inv (X.blk s3 H3 scope ce fp) [] (wipe σ (own.map (·.2))) G t ∧ tn i t.heap ∧ (∀ b ∈ fp, G b = none) ∧ Inva i m G := fun {t G} J nx => by
        obtain ⟨m', hm, w'⟩ := hNx G nx
        have pin' : ∀ b ∈ fp, ∀ o, s7.heap.get? b = some o → t.heap.get? b = some o ∧ G b = none := fun b hb o e =>
          ⟨(J.pin (b, o) (List.mem_append_right _ (List.mem_append_right _ (mem_pinsAt hb e)))).1, (J.pin (b, o) (List.mem_append_right _ (List.mem_append_right _ (mem_pinsAt hb e)))).2.1⟩
        refine ⟨m', hm, i + 1, G, (J.unpinned (pins := [])).weak (by rw [← hw8, wipe_length]) (fun j v e => (wipe_some (hw8 ▸ e)).1), T.keep _ _ _ st7 fun b hb o e => (pin' b hb o e).1, fun b hb => ?_, w'⟩
        obtain ⟨o, e, _⟩ := T.obj _ _ st7 b hb
        exact (pin' b hb o e).2
      cases b with
      | false =>
        rw [if_neg Bool.false_ne_true] at q9
        rw [if_neg Bool.false_ne_true]
        exact fin I9 q9
      | true =>
        rw [if_pos rfl] at q9
        rw [if_pos rfl]
        have pz := pe (notedBy (model X.prog X.w) X.A ce (fun e s' => Outcome (model X.prog X.w) X.A X.xe (fun u s' => ∃ x H', Inv X pins σ H' s' ∧ RelV x u ∧ Q x H') (.ref D) ce (.error e) s')) fun pb σb Hb sb e s' Ib c => air (Inv.unwish Ib) c
        refine wpAny_mono (pz.run _ s9 σ8 H9 _ (Inv.wish I9 _) q9) (fun z s10 ⟨yv, H10, I10, r10, acc, hD10, hz10, nx⟩ => ?_) fun _ _ z => z
        exact app_ok (X := X.blk s3 H3 scope ce fp) (Inv.unwish I10) hD10 hz10 r10 fun s11 I11 => fin I11 nx
  exact codeAny_compStart_list loop (T.self X.A 0 _ _ _ st4 loop)
/-- [elt for target in iter if ..], the element may raise -/
theorem pe_lcX {elt tg iter : Expr} {ifs : List Expr} {scope : Scope} {own : List (Str × Nat)} {pos : Pos} {wi : TI} {g : TG} {tt : TT} {te : TE}
    (hc : X.calm = true) (hN : X.N.Nodup) (hs : X.stack = X.env :: X.outer) (hf : X.env.frame = some X.env.locals) (tk : Takes X W) (hW : ∀ cls d σ H', Eo cls d H' → W cls d σ H')
    (hi : PI X tg iter wi) (ok : BlkOk X.N X.env.scope scope own)
    (hg : ∀ (t : Shared) (G : Hp) (C : Addr) (cl : List (Str × Addr)) (fp : List Addr), PG (X.blk t G scope (compEnvC scope cl C X.env) fp) tg g)
    (ht : ∀ (t : Shared) (G : Hp) (C : Addr) (cl : List (Str × Addr)) (fp : List Addr), PTs (X.blk t G scope (compEnvC scope cl C X.env) fp) ifs tt)
    (he : ∀ (t : Shared) (G : Hp) (C : Addr) (cl : List (Str × Addr)) (fp : List Addr) (xe : Value → Shared → Prop), LetsOut { X.blk t G scope (compEnvC scope cl C X.env) fp with xe := xe } Eo →
      PE { X.blk t G scope (compEnvC scope cl C X.env) fp with xe := xe } elt te) (hfold : ∀ x, foldedSetIterable iter X.env x = pure x := by intro _; rfl) :
    PE X (.ListComp elt [⟨tg, iter, ifs, 0⟩] scope pos) (tLc wi g tt te (own.map (·.2))) := by
  refine ⟨fun pins s σ H Q I h => ?_⟩
  rw [eval_ListComp]
  exact lcx_core hc hN hs hf tk hW I hi ok hg ht he hfold h
end
end Lot

/-! A lot out of any value, and rows of lots. -/
namespace Fam
open PySem L2
open C8 (pss_cut tCut)
def isSeq : PyData → Bool
  | .list _ => true
  | .tuple _ => true
  | _ => false
def SeqD (d : PyData) (ds : List PyData) : Prop := d = .list ds ∨ d = .tuple ds
theorem dp_seq {K : PySem.W.Frag} {H : Hp} {v : V} {d : PyData} {ds : List PyData} (h : Dp K H v d) (e : SeqD d ds) : ∃ (p : Addr) (xs : List V), v = .ref p ∧ Row K H p xs ∧ DpAll K H xs ds := by
  rcases e with e | e
  · subst e
    cases h with
    | lst h1 h2 => exact ⟨_, _, rfl, .inl h1, h2⟩
  · subst e
    cases h with
    | tup h1 h2 => exact ⟨_, _, rfl, .inr h1, h2⟩
theorem dpA_get {K : PySem.W.Frag} {H : Hp} : ∀ {xs : List V} {ds : List PyData} {i : Nat} {x : V}, DpAll K H xs ds → xs[i]? = some x → ∃ d, ds[i]? = some d ∧ Dp K H x d
  | _, _, i, x, .nil, e => by cases e
  | _, _, 0, x, .cons h1 _, e => by
    cases e
    exact ⟨_, rfl, h1⟩
  | _, _, i + 1, x, .cons _ h2, e => dpA_get (i := i) h2 e
theorem dpA_len {K : PySem.W.Frag} {H : Hp} : ∀ {xs : List V} {ds : List PyData}, DpAll K H xs ds → xs.length = ds.length
  | _, _, .nil => rfl
  | _, _, .cons _ h2 => by rw [List.length_cons, List.length_cons, dpA_len h2]
theorem dpA_ints {K : PySem.W.Frag} {H : Hp} : ∀ {xs : List V} {is : List Int}, DpAll K H xs (is.map PyData.int) → xs = is.map V.int
  | [], [], _ => rfl
  | _, _ :: _, .cons (.int _) h2 => by rw [dpA_ints h2]; rfl
def InR (n : Nat) (is : List Int) : Prop := ∀ i ∈ is, 0 ≤ i ∧ i < (n : Int)
def GoodLotD (n : Nat) (d : PyData) (l : List Int) : Prop := ∃ is : List Int, SeqD d (is.map .int) ∧ is.Nodup ∧ InR n is ∧ l.Pairwise (· < ·) ∧ ∀ k, k ∈ l ↔ k ∈ is
def BadLotD (n : Nat) (d : PyData) : Prop := isSeq d = false ∨ ∃ ds, SeqD d ds ∧ ((∃ x ∈ ds, betD x 0 ((n : Int) - 1) = false) ∨ ∃ is : List Int, ds = is.map .int ∧ InR n is ∧ ¬ is.Nodup ∧ is.length ≤ 60)
theorem in_range {a : List Int} {n : Nat} (h : a.Nodup) (q : InR n a) : a.length ≤ n := by
  have h2 : (a.map Int.toNat).Nodup := List.pairwise_map.mpr ((List.Pairwise.and_mem.mp h).imp fun {x y} ⟨hx, hy, z⟩ e => z (by
    have := q x hx
    have := q y hy
    omega))
  have := nodup_len n (a.map Int.toNat) h2 fun m hm => by
    obtain ⟨x, hx, rfl⟩ := List.mem_map.mp hm
    have := q x hx
    omega
  rwa [List.length_map] at this
theorem nodup_sub_len : ∀ {a b : List Int}, a.Nodup → (∀ k ∈ a, k ∈ b) → a.length ≤ b.length
  | [], _, _, _ => Nat.zero_le _
  | x :: a, b, hn, h => by
    obtain ⟨hx, ha⟩ := List.nodup_cons.mp hn
    have q := nodup_sub_len (b := b.erase x) ha fun k hk => (List.mem_erase_of_ne fun e => hx (by rw [← e]; exact hk)).mpr (h k (List.mem_cons_of_mem _ hk))
    have hm := h x List.mem_cons_self
    rw [List.length_erase_of_mem hm] at q
    have := List.length_pos_of_mem hm
    rw [List.length_cons]
    omega
/-- ascending lists with the same members are one -/
theorem asc_uniq : ∀ {l m : List Int}, l.Pairwise (· < ·) → m.Pairwise (· < ·) → (∀ k, k ∈ l ↔ k ∈ m) → l = m
  | [], [], _, _, _ => rfl
  | [], b :: m, _, _, h => by cases (h b).mpr List.mem_cons_self
  | a :: l, [], _, _, h => by cases (h a).mp List.mem_cons_self
  | a :: l, b :: m, h1, h2, h => by
    obtain ⟨q1, p1⟩ := List.pairwise_cons.mp h1
    obtain ⟨q2, p2⟩ := List.pairwise_cons.mp h2
    have e : a = b := by
      rcases List.mem_cons.mp ((h a).mp List.mem_cons_self) with e | e
      · exact e
      · rcases List.mem_cons.mp ((h b).mpr List.mem_cons_self) with z | z
        · exact z.symm
        · have := q2 a e
          have := q1 b z
          omega
    subst e
    rw [asc_uniq p1 p2 fun k => ⟨fun hk => ?_, fun hk => ?_⟩]
    · rcases List.mem_cons.mp ((h k).mp (List.mem_cons_of_mem _ hk)) with z | z
      · have := q1 k hk
        omega
      · exact z
    · rcases List.mem_cons.mp ((h k).mpr (List.mem_cons_of_mem _ hk)) with z | z
      · have := q2 k hk
        omega
      · exact z

theorem len_set {a b : List Int} (ha : a.Nodup) (h : ∀ k, k ∈ a ↔ k ∈ b) : a.length = b.length ↔ b.Nodup := by
  constructor
  · intro e
    refine Classical.byContradiction fun nd => ?_
    have : ∀ {b : List Int}, ¬ b.Nodup → ∃ c : List Int, c.length < b.length ∧ ∀ k, k ∈ b → k ∈ c := by
      intro b
      induction b with
      | nil => intro h; exact absurd List.nodup_nil h
      | cons x b ih =>
        intro h
        by_cases hx : x ∈ b
        · refine ⟨b, by simp, fun k hk => ?_⟩
          rcases List.mem_cons.mp hk with q | q
          · rw [q]; exact hx
          · exact q
        · have nb : ¬ b.Nodup := fun q => h (List.nodup_cons.mpr ⟨hx, q⟩)
          obtain ⟨c, h1, h2⟩ := ih nb
          refine ⟨x :: c, by simp; omega, fun k hk => ?_⟩
          rcases List.mem_cons.mp hk with q | q
          · rw [q]; exact List.mem_cons_self
          · exact List.mem_cons_of_mem _ (h2 k q)
    obtain ⟨c, h1, h2⟩ := this nd
    have := nodup_sub_len ha fun k hk => h2 k ((h k).mp hk)
    omega
  · intro hb
    exact Nat.le_antisymm (nodup_sub_len ha fun k hk => (h k).mp hk) (nodup_sub_len hb fun k hk => (h k).mpr hk)
def spLotOfD (K : PySem.W.Frag) (BL : Addr) : Sp := fun vs H Q E => ∃ (v : V) (d : PyData) (n : Nat), vs = [v, vInt n] ∧ n ≤ 60 ∧ Dp K H v d ∧
  ((∃ l, GoodLotD n d l ∧ ∀ (H' : Hp) (q : Addr), Same H H' → H q = none → H' q = some (.tup (l.map V.int)) → Q (.ref q) H') ∨ (BadLotD n d ∧ ∀ H', Same H H' → E (.ref BL) none H'))
/-- lots one behind another, up to the first wrong one -/
inductive LotsD (n : Nat) : List PyData → Option (List (List Int)) → Prop where
  | nil : LotsD n [] (some [])
  | bad {d : PyData} {ds : List PyData} : BadLotD n d → LotsD n (d :: ds) none
  | cons {d : PyData} {ds : List PyData} {l : List Int} {o : Option (List (List Int))} : GoodLotD n d l → LotsD n ds o → LotsD n (d :: ds) (o.map (l :: ·))
def TracksD (n : Nat) (d : PyData) (o : Option (List (List Int))) : Prop := (isSeq d = false ∧ o = none) ∨ ∃ ds, SeqD d ds ∧ ds.length ≤ 1000 ∧ LotsD n ds o
def LotAt (H : Hp) (v : V) (l : List Int) : Prop := ∃ p, v = .ref p ∧ H p = some (.tup (l.map V.int))
theorem LotAt.tups {H H' : Hp} (k : Tups H H') {v : V} {l : List Int} (h : LotAt H v l) : LotAt H' v l := by
  obtain ⟨p, e, h⟩ := h
  exact ⟨p, e, k _ _ h⟩
def spLotsOfRow (K : PySem.W.Frag) (BL : Addr) : Sp := fun vs H Q E => ∃ (v : V) (d : PyData) (n : Nat) (o : Option (List (List Int))), vs = [v, vInt n] ∧ n ≤ 60 ∧ Dp K H v d ∧ TracksD n d o ∧
  (∀ ls, o = some ls → ∀ (H' : Hp) (q : Addr) (xs : List V), Same H H' → H q = none → H' q = some (.tup xs) → Al (LotAt H') xs ls → Q (.ref q) H') ∧ (o = none → ∀ H', Same H H' → E (.ref BL) none H')
theorem isi_seq {K : PySem.W.Frag} {H : Hp} {v : V} {d : PyData} (h : Dp K H v d) : ∃ ty, TyX K H v ty ∧ PySem.W.kitAny K ty [.type "list", .type "tuple"] = some (isSeq d) := by
  cases h with
  | non => exact ⟨_, .base .non, kitAny_cons (b := false) (kit_ty (by decide +kernel)) (fun _ => kitAny_cons (b := false) (kit_ty (by decide +kernel)) (fun _ => rfl) (fun z => nomatch z)) (fun z => nomatch z)⟩
  | bl b => exact ⟨_, .base (.bl b), kitAny_cons (b := false) (kit_ty (by decide +kernel)) (fun _ => kitAny_cons (b := false) (kit_ty (by decide +kernel)) (fun _ => rfl) (fun z => nomatch z)) (fun z => nomatch z)⟩
  | int i => exact ⟨_, .base (.int i), kitAny_cons (b := false) (kit_ty (by decide +kernel)) (fun _ => kitAny_cons (b := false) (kit_ty (by decide +kernel)) (fun _ => rfl) (fun z => nomatch z)) (fun z => nomatch z)⟩
  | str x => exact ⟨_, .base (.str x), kitAny_cons (b := false) (kit_ty (by decide +kernel)) (fun _ => kitAny_cons (b := false) (kit_ty (by decide +kernel)) (fun _ => rfl) (fun z => nomatch z)) (fun z => nomatch z)⟩
  | lst hs _ => exact ⟨_, ty_lst hs, any_lst⟩
  | tup hs _ => exact ⟨_, ty_tup hs, any_tup⟩
theorem seq_of {d : PyData} (h : isSeq d = true) : ∃ ds, SeqD d ds := by
  cases d with
  | list ds => exact ⟨ds, .inl rfl⟩
  | tuple ds => exact ⟨ds, .inr rfl⟩
  | _ => cases h
theorem SeqD.uniq {d : PyData} {a b : List PyData} (h1 : SeqD d a) (h2 : SeqD d b) : a = b := by
  rcases h1 with e | e <;> rcases h2 with e2 | e2 <;> rw [e] at e2 <;> cases e2 <;> rfl
theorem SeqD.is {d : PyData} {a : List PyData} (h : SeqD d a) : isSeq d = true := by
  rcases h with e | e <;> rw [e] <;> rfl
/-- between one by one: whole numbers -/
theorem all_bet {n : Nat} : ∀ {ds : List PyData}, (∀ (j : Nat) (d : PyData), ds[j]? = some d → betD d 0 ((n : Int) - 1) = true) → ∃ is : List Int, ds = is.map .int ∧ InR n is
  | [], _ => ⟨[], rfl, fun i h => by cases h⟩
  | d :: ds, h => by
    obtain ⟨i, rfl, h1, h2⟩ := bet_int (h 0 d rfl)
    obtain ⟨is, rfl, h3⟩ := all_bet (ds := ds) fun j e he => h (j + 1) e he
    refine ⟨i :: is, rfl, fun k hk => ?_⟩
    rcases List.mem_cons.mp hk with q | q
    · rw [q]; omega
    · exact h3 k q
section
variable {P : Program} {w : World} {K : PySem.W.Frag} {mg : Str → Option Value} {base : Heap} {BL : Addr}
abbrev nLO : List Str := ["value", "size", "place", "lot"]
theorem scLO : FnScope nLO ["value", "size"] (defScope sLotOf) := ⟨rfl, rfl, rfl, by decide +kernel, rfl, by decide +kernel, by decide +kernel⟩
theorem ok_lot_ofD {f : Addr} {fd : FuncData} (F : Fun K "lot_of" "lot_of" sLotOf f fd) (T : Bare mg) (T2 : Bare2 mg) (LE : LotErr K mg BL) (GB : Cal P w K mg base 2 "is_between" ["value", "low", "high"] (spBetweenD K)) : FnOk P w K mg base (L2.CX P w) 3 f fd ["value", "size"] (spLotOfD K BL) := by
  obtain ⟨_, _, ok_bt, b_bt, k_bt, m_bt⟩ := GB.ex
  obtain ⟨bm, xP, fP⟩ := LE.xP
  refine F.okX scLO (fun vs H Q E h => ?_) (fun cdv A outer s H vs Q E hr h => ?_)
  · obtain ⟨v, d, n, rfl, _⟩ := h
    rfl
  · obtain ⟨v, d, n, rfl, hn, hd, h⟩ := h
    have hr_bt := hr
    refine ⟨_, (pss_cons (ps_if (pt_not (pt_val (pe_callB call_isiT (by rfl) T.isi (by decide +kernel) (pa_cons (pv 0) (pa_cons (pe_tup (pa_cons (pe_ty (n := "list") (by rfl) T.list (by decide +kernel)) (pa_cons (pe_ty (n := "tuple") (by rfl) T.tuple (by decide +kernel)) pa_nil))) pa_nil))))) (pss_one (ps_raise rfl (takes_of rfl rfl rfl rfl) (pmk_own0 fP xP LE.gP LE.kP (raises_own LE.b LE.t) rfl))) pss_nil)
      (pss_cons (ps_for (passes_of rfl) rfl (pi_row (pv 0)) (pg_name (i := 2) scLO.nd rfl (Or.inl rfl))
          (pss_one (ps_if (pt_not (pt_val (pe_call ok_bt hr_bt rfl m_bt k_bt b_bt .nil pass0 (pa_cons (pv 2) (pa_cons pe_int (pa_cons (pe_op op_sub (pv 1) pe_int) pa_nil)))))) (pss_one (ps_raise rfl (takes_of rfl rfl rfl rfl) (pmk_own0 fP xP LE.gP LE.kP (raises_own LE.b LE.t) rfl))) pss_nil)))
      (pss_cons (ps_set (i := 3) scLO.nd rfl (Or.inl rfl) (pe_tupleOf rfl T.tuple (pe_callB (cr_sortedSet rfl) (by rfl) T.sorted (by decide +kernel) (pa_cons (pe_callTy (cr_setRow rfl) (by rfl) T2.set (by decide +kernel) (pa_cons (pv 0) pa_nil)) pa_nil))))
      (pss_cons (ps_if (pt_cmpR op_ne (pe_callB call_len_seq (by rfl) T.len PySem.boot_len (pa_cons (pv 3) pa_nil)) (pe_callB call_len_seq (by rfl) T.len PySem.boot_len (pa_cons (pv 0) pa_nil)) (nomark _)) (pss_one (ps_raise rfl (takes_of rfl rfl rfl rfl) (pmk_own0 fP xP LE.gP LE.kP (raises_own LE.b LE.t) rfl))) pss_nil)
      (pss_one (ps_ret (pv 3))))))), ?_⟩
    refine ⟨_, rfl, (by show 2 ≤ sizeLine; exact small (m := 2) (Nat.le_refl _)), fun t ht => ?_⟩
    have s1 : Same H (upd H t (.tup [.ty "list", .ty "tuple"])) := same_new ht
    obtain ⟨ty, hty, hany⟩ := isi_seq (dp_same s1 hd)
    refine ⟨_, t, _, _, _, _, rfl, upd_same, .cons (.ty _) (.cons (.ty _) .nil), hty, hany, _, rfl, ?_⟩
    cases es : isSeq d with
    | false =>
      refine iteT ?_
      rcases h with ⟨l, ⟨is, hs, _⟩, _⟩ | ⟨_, k⟩
      · rw [hs.is] at es
        cases es
      · exact k _ s1
    | true =>
      refine iteF ?_
      obtain ⟨ds, hs⟩ := seq_of es
      obtain ⟨p, xs, rfl, hrow, hall⟩ := dp_seq hd hs
      refine row_for (K := K) (b := p) (xs := xs) rfl (hrow.same s1) (fun i σ H' => Same (upd H t (.tup [.ty "list", .ty "tuple"])) H' ∧ (∃ y2, σ = [some (.ref p), some (vInt n), y2, none]) ∧ ∀ j, j < i → ∀ e, ds[j]? = some e → betD e 0 ((n : Int) - 1) = true) ⟨Same.refl _, ⟨none, rfl⟩, fun j hj => by omega⟩ (fun i σ H' _ h => h.1) ?_ ?_
      · rintro i x σ H1 hx ⟨sm, ⟨y2, rfl⟩, hb⟩
        obtain ⟨e, he, hxe⟩ := dpA_get hall hx
        refine ⟨_, rfl, _, rfl, _, _, rfl, rfl, x, e, 0, _, rfl, dp_same (s1.trans sm) hxe, _, rfl, ?_⟩
        cases eb : betD e 0 ((n : Int) - 1) with
        | true =>
          refine iteF ⟨sm, ⟨_, rfl⟩, fun j hj e2 he2 => ?_⟩
          by_cases q : j = i
          · subst q
            rw [he] at he2
            cases he2
            exact eb
          · exact hb j (by omega) e2 he2
        | false =>
          refine iteT ?_
          rcases h with ⟨l, ⟨is, hs2, _, hir, _⟩, _⟩ | ⟨_, k⟩
          · have := hs2.uniq hs
            subst this
            obtain ⟨i2, hi2, rfl⟩ := List.mem_map.mp (List.mem_of_getElem? he)
            have := hir i2 hi2
            have : betD (.int i2) 0 ((n : Int) - 1) = true := decide_eq_true ⟨by omega, by omega⟩
            rw [this] at eb
            cases eb
          · exact k _ (s1.trans sm)
      · rintro σ H1 ⟨sm, ⟨y2, rfl⟩, hb⟩
        have hlen := dpA_len hall
        obtain ⟨is, rfl, hir⟩ := all_bet fun j e he => hb j (by
          rcases Nat.lt_or_ge j ds.length with q | q
          · omega
          · rw [List.getElem?_eq_none q] at he; cases he) e he
        have exs := dpA_ints hall
        subst exs
        have hrow1 := (hrow.same s1).same sm
        have lis : is.length ≤ 60 := by
          rcases h with ⟨l, ⟨is2, hs2, nd, hir2, _⟩, _⟩ | ⟨hbad, _⟩
          · have e := hs2.uniq hs
            have e2 : is2 = is := (List.map_inj_right (fun a b z => PyData.int.inj z)).mp e
            subst e2
            exact Nat.le_trans (in_range nd hir2) hn
          · rcases hbad with q | ⟨ds2, hs2, q⟩
            · rw [hs.is] at q; cases q
            · have e := hs2.uniq hs
              subst e
              rcases q with ⟨x, hx, q⟩ | ⟨is2, e, _, _, q⟩
              · obtain ⟨j, hj⟩ := List.getElem?_of_mem hx
                rw [hb j (by
                  rcases Nat.lt_or_ge j (is.map PyData.int).length with q | q
                  · rw [hlen]; exact q
                  · rw [List.getElem?_eq_none q] at hj; cases hj) x hj] at q
                cases q
              · have e2 : is2 = is := ((List.map_inj_right (fun a b z => PyData.int.inj z)).mp e).symm
                subst e2
                exact q
        refine ⟨_, rfl, p, is, rfl, hrow1, by omega, fun q c hq hc => ?_⟩
        refine ⟨q, _, c, rfl, upd_same, by omega, fun ns r h1 h2 h3 hr' => .inl ⟨r, _, rfl, SqL.of upd_same, fun u hu => ?_⟩⟩
        have s2 : Same H1 (upd (upd (upd H1 q _) r _) u (.tup (ns.map V.int))) := ((same_new hq).trans (same_new hr')).trans (same_new hu)
        have s3 := s1.trans (sm.trans s2)
        have fu : H u = none := (s1.trans sm).free (((same_new hq).trans (same_new hr')).free hu)
        have hmem : ∀ k, k ∈ ns ↔ k ∈ is := fun j => by rw [h2 j, decide_eq_true_eq]
        have hnd : ns.Nodup := h1.imp fun {a b} q => by omega
        have hls := len_set hnd hmem
        refine ⟨_, rfl, u, _, rfl, .inr (SqT.of upd_same), _, rfl, p, _, rfl, hrow1.same s2, rfl, _, rfl, ?_⟩
        rcases h with ⟨l, ⟨is2, hs2, nd, hir2, hasc, hml⟩, k⟩ | ⟨hbad, k⟩
        · have e := hs2.uniq hs
          have e2 : is2 = is := (List.map_inj_right (fun a b z => PyData.int.inj z)).mp e
          subst e2
          have el : ns = l := asc_uniq h1 hasc fun k => (hmem k).trans (hml k).symm
          subst el
          have := hls.mpr nd
          rw [List.length_map, List.length_map, this, decide_eq_true rfl]
          exact iteF ⟨_, rfl, k _ u s3 fu upd_same⟩
        · have ndn : ¬ is.Nodup := by
            rcases hbad with q | ⟨ds2, hs2, q⟩
            · rw [hs.is] at q; cases q
            · have e := hs2.uniq hs
              subst e
              rcases q with ⟨x, hx, q⟩ | ⟨is2, e, _, q, _⟩
              · obtain ⟨j, hj⟩ := List.getElem?_of_mem hx
                rw [hb j (by
                  rcases Nat.lt_or_ge j (is.map PyData.int).length with q | q
                  · rw [hlen]; exact q
                  · rw [List.getElem?_eq_none q] at hj; cases hj) x hj] at q
                cases q
              · have e2 : is2 = is := ((List.map_inj_right (fun a b z => PyData.int.inj z)).mp e).symm
                subst e2
                exact q
          have hne : ¬ V.int ((ns.length : Nat) : Int) = V.int ((is.length : Nat) : Int) := fun z => ndn (hls.mp (by have := V.int.inj z; omega))
          rw [List.length_map, List.length_map, decide_eq_false hne]
          exact iteT (k _ s3)
abbrev nLR : List Str := ["tracks", "size", "lot"]
theorem scLR : FnScope nLR ["tracks", "size"] (defScope sLotsOfRow) := ⟨rfl, rfl, rfl, by decide +kernel, rfl, by decide +kernel, by decide +kernel⟩
theorem ok_lots_of_row {f : Addr} {fd : FuncData} (F : Fun K "lots_of_row" "lots_of_row" sLotsOfRow f fd) (T : Bare mg) (LE : LotErr K mg BL) (GL : CalE P w K mg base 3 "lot_of" ["value", "size"] (spLotOfD K BL)) : FnOk P w K mg base (L2.CX P w) 4 f fd ["tracks", "size"] (spLotsOfRow K BL) := by
  obtain ⟨_, _, ok_lo, b_lo, k_lo, m_lo⟩ := GL.ex
  obtain ⟨bm, xP, fP⟩ := LE.xP
  refine F.okX scLR (fun vs H Q E h => ?_) (fun cdv A outer s H vs Q E hr h => ?_)
  · obtain ⟨v, d, n, o, rfl, _⟩ := h
    rfl
  · obtain ⟨v, d, n, o, rfl, hn, hd, hT, kg, kb⟩ := h
    have hr_lo := hr
    refine ⟨_, (pss_cons (ps_if (pt_not (pt_val (pe_callB call_isiT (by rfl) T.isi (by decide +kernel) (pa_cons (pv 0) (pa_cons (pe_tup (pa_cons (pe_ty (n := "list") (by rfl) T.list (by decide +kernel)) (pa_cons (pe_ty (n := "tuple") (by rfl) T.tuple (by decide +kernel)) pa_nil))) pa_nil))))) (pss_one (ps_raise rfl (takes_of rfl rfl rfl rfl) (pmk_own0 fP xP LE.gP LE.kP (raises_own LE.b LE.t) rfl))) pss_nil)
      (pss_one (ps_ret (pe_tupleOf rfl T.tuple (Lot.pe_lcX (own := [("lot", 2)]) (g := gName 2) (tt := tYes) rfl scLR.nd rfl rfl (takes_of rfl rfl rfl rfl) (fun _ _ _ _ h => h) (pi_row (pv 0)) (blkOk_by (own := [("lot", 2)]) (N := nLR) (sc := defScope sLotsOfRow) (by decide +kernel)) (fun _ _ _ _ _ => pg_name (i := 2) scLR.nd rfl (Or.inl rfl)) (fun _ _ _ _ _ => pts_nil) (fun _ _ _ _ _ _ lo => pe_call ok_lo hr_lo rfl m_lo k_lo b_lo .nil lo (pa_cons (pv 2) (pa_cons (pv 1) pa_nil)))))))), ?_⟩
    refine ⟨_, rfl, (by show 2 ≤ sizeLine; exact small (m := 2) (Nat.le_refl _)), fun t ht => ?_⟩
    have s1 : Same H (upd H t (.tup [.ty "list", .ty "tuple"])) := same_new ht
    obtain ⟨ty, hty, hany⟩ := isi_seq (dp_same s1 hd)
    refine ⟨_, t, _, _, _, _, rfl, upd_same, .cons (.ty _) (.cons (.ty _) .nil), hty, hany, _, rfl, ?_⟩
    rcases hT with ⟨es, eo⟩ | ⟨ds, hs, hdl, hL⟩
    · rw [es]
      exact iteT (kb eo _ s1)
    · rw [hs.is]
      refine iteF ?_
      obtain ⟨p, xs, rfl, hrow, hall⟩ := dp_seq hd hs
      have hlen := dpA_len hall
      delta tNext tRet tThen
      dsimp only
      refine row_lc (K := K) (b := p) (xs := xs) rfl (hrow.same s1) fun D hD => ⟨fun i H' => Same (upd H t (.tup [.ty "list", .ty "tuple"])) H' ∧ ∃ (ys : List V) (ls : List (List Int)) (o' : Option (List (List Int))), H' D = some (.lst ys) ∧ Al (LotAt H') ys ls ∧ LotsD n (ds.drop i) o' ∧ o = o'.map (ls ++ ·) ∧ ys.length ≤ i, ⟨same_new hD, [], [], o, upd_same, trivial, hL, by cases o <;> rfl, Nat.le_refl _⟩, fun i H' _ h => h.1, ?_, ?_⟩
      · rintro i x H1 hx ⟨sm, ys, ls, o', hY, hA, hL', eo, hle⟩
        obtain ⟨e, he, hxe⟩ := dpA_get hall hx
        have hi : i < ds.length := by
          rcases Nat.lt_or_ge i ds.length with q | q
          · exact q
          · rw [List.getElem?_eq_none q] at he; cases he
        have ed : ds.drop i = e :: ds.drop (i + 1) := by
          rw [List.drop_eq_getElem_cons hi]
          rw [List.getElem?_eq_getElem hi] at he
          rw [Option.some.inj he]
        rw [ed] at hL'
        refine ⟨rfl, _, rfl, _, rfl, x, e, n, rfl, hn, dp_same (s1.trans sm) hxe, ?_⟩
        cases hL' with
        | bad hb => exact .inr ⟨hb, fun H2 s2 => kb (by rw [eo]; rfl) H2 (s1.trans (sm.trans s2))⟩
        | cons hg hr2 =>
          rename_i l o2
          refine .inl ⟨l, hg, fun H2 q s2 hq hq2 => ?_⟩
          have hY2 := s2 _ _ hY
          have t3 : Tups H2 (upd H2 D (.lst (ys ++ [.ref q]))) := Tups.upd hY2
          refine ⟨_, hY2, below (m := 2000) (by omega), same_upd (sm.trans s2) hD, ys ++ [.ref q], ls ++ [l], o2, upd_same, ?_, hr2, ?_, ?_⟩
          · exact Al.append (ys := [.ref q]) (bs := [l]) (hA.imp fun _ _ h => h.tups ((Tups.of s2).trans t3)) ⟨⟨q, rfl, t3 _ _ hq2⟩, trivial⟩
          · rw [eo]
            cases o2 with
            | none => rfl
            | some r =>
              show some (ls ++ l :: r) = some ((ls ++ [l]) ++ r)
              rw [List.append_assoc]
              rfl
          · rw [List.length_append]
            show ys.length + 1 ≤ _
            omega
      · rintro H1 ⟨sm, ys, ls, o', hY, hA, hL', eo, hle⟩
        have ed : ds.drop xs.length = [] := List.drop_eq_nil_of_le (by rw [hlen]; exact Nat.le_refl _)
        rw [ed] at hL'
        cases hL' with
        | nil =>
          refine .inl ⟨D, ys, rfl, SqL.of hY, fun q hq => ?_⟩
          have s4 := same_new (o := .tup ys) hq
          refine kg ls ?_ _ q ys (s1.trans (sm.trans s4)) ((s1.trans sm).free hq) upd_same (hA.imp fun _ _ h => h.tups (Tups.of s4))
          rw [eo]
          show some (ls ++ []) = _
          rw [List.append_nil]
end
end Fam

/-! colour, bare, tracks_of. -/
namespace Fam
open PySem L2
open C8 (pss_cut tCut)
def rLenS (K : PySem.W.Frag) : List V → Hp → VK → Prop := fun xs H Q => ∃ p ys, xs = [.ref p] ∧ (SqL K H p ys ∨ SqT K H p ys) ∧ Q (.int ys.length) H
def tInt (ta : TE) : TT := fun σ H Q => ta σ H fun x H' => ∃ i : Int, x = .int i ∧ Q (i != 0) H'
theorem pt_int {X : Cx} {a : Expr} {ta : TE} (ha : PE X a ta) (he : ∀ whole, isTrue a X.env whole = (do let v ← whole; standAt a.pos; holding [v] (truthy v))) : PT X a (tInt ta) := by
  refine ⟨fun pins s σ H Q I h => PyProof.Rows.isTrue_plain (thn (ha.run pins s σ H _ I h) fun v s1 ⟨x, H1, I1, r1, q1⟩ => ?_) (he _)⟩
  obtain ⟨i, rfl, q⟩ := q1
  exact tru_ok pins s1 σ H1 _ v Q I1 r1 ⟨_, rfl, q⟩
/-- the scope of the comprehension that is the one argument of what the last statement returns -/
def retCompScope : List Stmt → Scope
  | [.Return (some (.Call _ [.ListComp _ _ sc _] _ _)) _] => sc
  | _ :: r => retCompScope r
  | [] => default
abbrev scTRin : Scope := relabel (retCompScope (defBody sTracksOf)) (PyProof.Rows.envOfC "tracks_of" (defScope sTracksOf) 0 0 .none)
def bitIn (i : Nat) (l : List Int) : Nat := if (i : Int) ∈ l then 1 else 0
def paintL (cs : List (Nat × List Nat)) (ls : List (List Int)) : List (Nat × List Nat) := cs.mapIdx fun i c => (c.1, ls.map (bitIn i))
def paintT (t : Tm) (ls : List (List Int)) : Tm := (fillT t (paintL (leavesT t) ls)).1
def rowV (m : Nat) (f : Nat → Nat) : List V := ((List.range m).map f).map vInt
theorem rowV_len (m : Nat) (f : Nat → Nat) : (rowV m f).length = m := by
  unfold rowV
  rw [List.length_map, List.length_map, List.length_range]
theorem rowV_get {m i : Nat} {f : Nat → Nat} (h : i < (rowV m f).length) : (rowV m f)[i] = vInt (f i) := by
  simp only [rowV, List.getElem_map, List.getElem_range]
theorem rowV_set {m k y : Nat} {f : Nat → Nat} : (rowV m f).set k (vInt y) = rowV m fun c => if c = k then y else f c := by
  refine List.ext_getElem (by rw [List.length_set, rowV_len, rowV_len]) fun i h1 h2 => ?_
  rw [List.getElem_set, rowV_get, rowV_get]
  by_cases e : k = i
  · rw [if_pos e, if_pos e.symm]
  · rw [if_neg e, if_neg (Ne.symm e)]
theorem rowV_zero (m : Nat) : (List.replicate m [V.int 0]).flatten = rowV m fun _ => 0 := by
  have : ∀ n : Nat, (List.replicate n [V.int 0]).flatten = List.replicate n (V.int 0) := fun n => by
    induction n with
    | zero => rfl
    | succ n ih => rw [List.replicate_succ, List.flatten_cons, ih]; rfl
  rw [this]
  refine List.ext_getElem (by rw [rowV_len, List.length_replicate]) fun i h1 h2 => ?_
  rw [rowV_get, List.getElem_replicate]
  rfl
/-- the rows of bits, each a list of its own -/
def RowsAt (H : Hp) (rs : List Addr) (m : Nat) (M : Nat → Nat → Nat) : Prop := rs.Nodup ∧ ∀ (i : Nat) (r : Addr), rs[i]? = some r → H r = some (.lst (rowV m (M i)))
theorem RowsAt.same {H H' : Hp} {rs : List Addr} {m : Nat} {M : Nat → Nat → Nat} (h : RowsAt H rs m M) (s : Same H H') : RowsAt H' rs m M := ⟨h.1, fun i r e => s _ _ (h.2 i r e)⟩
theorem RowsAt.put {H : Hp} {rs : List Addr} {m : Nat} {M : Nat → Nat → Nat} {i k : Nat} {r : Addr} (h : RowsAt H rs m M) (e : rs[i]? = some r) : RowsAt (upd H r (.lst ((rowV m (M i)).set k (vInt 1)))) rs m fun j c => if j = i ∧ c = k then 1 else M j c := by
  refine ⟨h.1, fun j q ej => ?_⟩
  by_cases z : j = i
  · subst z
    rw [e] at ej
    cases ej
    rw [upd_same, rowV_set]
    have : (fun c => if c = k then 1 else M j c) = fun c => if j = j ∧ c = k then 1 else M j c := by
      funext c
      by_cases y : c = k
      · rw [if_pos y, if_pos ⟨rfl, y⟩]
      · rw [if_neg y, if_neg fun q => y q.2]
    rw [this]
  · have ne : q ≠ r := fun x => by
      subst x
      obtain ⟨h1, e1⟩ := List.getElem?_eq_some_iff.mp ej
      obtain ⟨h2, e2⟩ := List.getElem?_eq_some_iff.mp e
      rcases Nat.lt_trichotomy j i with q | q | q
      · exact List.pairwise_iff_getElem.mp h.1 j i h1 h2 q (e1.trans e2.symm)
      · exact z q
      · exact List.pairwise_iff_getElem.mp h.1 i j h2 h1 q (e2.trans e1.symm)
    rw [upd_ne ne, h.2 j q ej]
    have : M j = fun c => if j = i ∧ c = k then 1 else M j c := by
      funext c
      rw [if_neg fun y => z y.1]
    exact congrArg (fun f => some (HO.lst (rowV m f))) this
def spColour (K : PySem.W.Frag) (BL : Addr) : Sp := fun vs H Q E => ∃ (v x : V) (t : Tm) (d : PyData) (o : Option (List (List Int))), vs = [v, x] ∧ TmAt H v t ∧ t.nodes ≤ 1000 ∧ (leavesT t).length ≤ 60 ∧ Dp K H x d ∧ TracksD (leavesT t).length d o ∧
  (∀ ls, o = some ls → ls.length ≤ 1000 ∧ (∀ l ∈ ls, InR (leavesT t).length l) ∧ ∀ (H' : Hp) (y : V), Same H H' → TmAt H' y (paintT t ls) → Q y H') ∧ (o = none → ∀ H', Same H H' → E (.ref BL) none H')
def spBare : Sp := fun vs H Q _ => ∃ (v : V) (t : Tm), vs = [v] ∧ TmAt H v t ∧ t.nodes ≤ 1000 ∧ (leavesT t).length ≤ 60 ∧ ∀ (H' : Hp) (y : V), Same H H' → TmAt H' y (paintT t []) → Q y H'
/-- the places whose k-th bit is set -/
def trackL (cs : List (Nat × List Nat)) (k : Nat) : List Nat := (List.range cs.length).filter fun x => decide ((cs.getD x (0, [])).2.getD k 0 ≠ 0)
def PlacesAt (H : Hp) (v : V) (l : List Nat) : Prop := ∃ p, v = .ref p ∧ H p = some (.tup (l.map vInt))
theorem PlacesAt.tups {H H' : Hp} (k : Tups H H') {l : List Nat} {v : V} : PlacesAt H v l → PlacesAt H' v l := fun ⟨p, e, h⟩ => ⟨p, e, k _ _ h⟩
def spTracksOf : Sp := fun vs H Q _ => ∃ (v : V) (t : Tm), vs = [v] ∧ TmAt H v t ∧ t.nodes ≤ 1000 ∧ manyT t ≤ 1000 ∧ (∀ c ∈ leavesT t, c.2.length = manyT t) ∧ ∀ (H' : Hp) (q : Addr) (xs : List V), Same H H' → H q = none → H' q = some (.tup xs) → Al (PlacesAt H') xs ((List.range (manyT t)).map (trackL (leavesT t))) → Q (.ref q) H'
section
variable {P : Program} {w : World} {K : PySem.W.Frag} {mg : Str → Option Value} {base : Heap} {BL : Addr}
abbrev nCO : List Str := ["term", "tracks", "leaves", "lots", "rows", "k", "lot", "place", "_", "leaf", "row"]
theorem scCO : FnScope nCO ["term", "tracks"] (defScope sColour) := ⟨rfl, rfl, rfl, by decide +kernel, rfl, by decide +kernel, by decide +kernel⟩
theorem ok_colour {f : Addr} {fd : FuncData} (F : Fun K "colour" "colour" sColour f fd) (T : Bare mg) (T2 : Bare2 mg) (hz : mg "zip" = none) (GL : Cal P w K mg base 2 "leaves_of" ["term"] spLeavesOf) (GR : CalE P w K mg base 4 "lots_of_row" ["tracks", "size"] (spLotsOfRow K BL)) (GW : Cal P w K mg base 3 "with_leaves" ["term", "leaves"] (spWithLeaves K)) :
    FnOk P w K mg base (L2.CX P w) 5 f fd ["term", "tracks"] (spColour K BL) := by
  obtain ⟨_, _, ok_lv, b_lv, k_lv, m_lv⟩ := GL.ex
  obtain ⟨_, _, ok_lr, b_lr, k_lr, m_lr⟩ := GR.ex
  obtain ⟨_, _, ok_wl, b_wl, k_wl, m_wl⟩ := GW.ex
  refine F.okX scCO (fun vs H Q E h => ?_) (fun cdv A outer s H vs Q E hr h => ?_)
  · obtain ⟨v, x, t, d, o, rfl, _⟩ := h
    rfl
  · obtain ⟨v, x, t, d, o, rfl, ht, hn, hl60, hd, hTr, kg, kb⟩ := h
    have hr_lr := hr
    have hr_wl := hr.mono (j := 3) (by decide)
    have hr_lv := hr.mono (j := 2) (by decide)
    refine ⟨_, (pss_cons (ps_set (i := 2) scCO.nd rfl (Or.inl rfl) (pe_call ok_lv hr_lv rfl m_lv k_lv b_lv .nil pass0 (pa_cons (pv 0) pa_nil)))
      (pss_cons (ps_set (i := 3) scCO.nd rfl (Or.inr rfl) (pe_call ok_lr hr_lr rfl m_lr k_lr b_lr .nil (passes_call (takes_of rfl rfl rfl rfl) (fun _ _ _ _ h => h)) (pa_cons (pv 1) (pa_cons (pe_callB call_len_seq (by rfl) T.len PySem.boot_len (pa_cons (pv 2) pa_nil)) pa_nil))))
      (PSs.nox (pss_cons (ps_setLc (i := 4) (own := [("_", 8)]) (g := gName 8) (tt := tYes) (by rfl) scCO.nd rfl rfl (sw_true rfl rfl rfl (by decide +kernel)) (pi_list (pv 2)) (blkOk_by (own := [("_", 8)]) (N := nCO) (sc := defScope sColour) (by decide +kernel)) (fun _ _ _ _ _ => pg_name (i := 8) scCO.nd rfl (Or.inl rfl)) (fun _ _ _ _ _ => pts_nil) (fun _ _ _ _ _ => pe_op op_rep (pe_lst (pa_cons pe_int pa_nil)) (pe_callB (call_len_seq : CallR _ (.builtin "len") (rLenS K)) (by rfl) T.len PySem.boot_len (pa_cons (pv 3) pa_nil))))
      (pss_cons (ps_for PassesOwn.never rfl (pi_enumT (by rfl) T2.enumerate (pa_cons (pv 3) pa_nil)) (pg_tup rfl (pgs_cons (pg_name (i := 5) scCO.nd rfl (Or.inl rfl)) (pgs_cons (pg_name (i := 6) scCO.nd rfl (Or.inl rfl)) pgs_nil)))
          (pss_one (ps_for PassesOwn.never rfl (pi_tup (pv 6)) (pg_name (i := 7) scCO.nd rfl (Or.inl rfl))
              (pss_one (ps_asg pe_int (pg_sub (pe_ix ix_list (pv 4) (pv 7) (fun _ _ => rfl)) (pv 5) set_list))))))
      (pss_one (ps_ret (pe_call ok_wl hr_wl rfl m_wl k_wl b_wl .nil pass0 (pa_cons (pv 0) (pa_cons (pe_lc (own := [("leaf", 9), ("row", 10)]) (g := gTup K 2 (gCons (gName 9) (gCons (gName 10) gNil))) (tt := tYes) rfl scCO.nd (pi_zip (by rfl) hz (pa_cons (pv 2) (pa_cons (pv 4) pa_nil))) (blkOk_by (own := [("leaf", 9), ("row", 10)]) (N := nCO) (sc := defScope sColour) (by decide +kernel)) (fun _ _ _ _ _ => pg_tup (by rfl) (pgs_cons (pg_name (i := 9) scCO.nd rfl (Or.inl rfl)) (pgs_cons (pg_name (i := 10) scCO.nd rfl (Or.inl rfl)) pgs_nil))) (fun _ _ _ _ _ => pts_nil) (fun _ _ _ _ _ => pe_tup (pa_cons (pe_ix (ix_tup : IxR _ (rIxT K)) (pv 9) pe_int (fun _ _ => rfl)) (pa_cons ((pe_tupleOf (by rfl) T.tuple (pv 10) : PE _ _ (tThen (tVar 10) (kTup K)))) pa_nil)))) pa_nil)))))))))), ?_⟩
    refine ⟨_, rfl, v, t, rfl, ht, by omega, fun H1 L lx s1 hL hlx hA => ?_⟩
    have hlen := hA.len
    refine ⟨_, rfl, _, rfl, L, _, rfl, .inl (SqL.of hlx), x, d, lx.length, o, rfl, by omega, dp_same s1 hd, by rw [hlen]; exact hTr, fun ls eo H2 q xs s2 hq hxs hLs => ?_, fun eo H2 s2 => kb eo H2 (s1.trans s2)⟩
    obtain ⟨hlm, hin, k⟩ := kg ls eo
    have hxl := hLs.len
    have s12 := s1.trans s2
    have hlx2 := s2 _ _ hlx
    -- rows
    refine ⟨_, rfl, L, rfl, ⟨_, SqL.of hlx2⟩, fun R hR => ?_⟩
    refine lc_list (K := K) (a := L) (xs := lx) (fun i H' => Same H2 H' ∧ ∃ rs : List Addr, H' R = some (.lst (rs.map V.ref)) ∧ RowsAt H' rs ls.length (fun _ _ => 0) ∧ rs.length = i ∧ (∀ r ∈ rs, H2 r = none) ∧ R ∉ rs) ⟨same_new hR, [], upd_same, ⟨List.nodup_nil, fun i r e => by cases e⟩, rfl, (fun r h => by cases h), (fun h => by cases h)⟩ (fun i H' _ h => SqL.of (h.1 _ _ hlx2)) ?_ ?_
    · rintro i z H3 hz2 ⟨sm, rs, hR3, hrows, hrl, hfresh, hRn⟩
      have hil : i < lx.length := by
        rcases Nat.lt_or_ge i lx.length with q | q
        · exact q
        · rw [List.getElem?_eq_none q] at hz2
          cases hz2
      refine ⟨rfl, small (m := 1) (Nat.le_refl _), fun q1 hq1 => ?_⟩
      have e1 := same_new (o := .lst [V.int 0]) hq1
      refine ⟨_, rfl, q, xs, rfl, .inr (SqT.of ((sm.trans e1) _ _ hxs)), q1, _, _, rfl, rfl, upd_same, by omega, by omega, ?_, fun q2 hq2 => ?_⟩
      · rw [Int.toNat_natCast]
        show 1 * xs.length ≤ sizeLine
        rw [Nat.one_mul]
        exact small (m := 1000) (by omega)
      rw [Int.toNat_natCast, hxl, rowV_zero]
      have e2 := same_new (o := .lst (rowV ls.length fun _ => 0)) hq2
      have e12 := e1.trans e2
      have hR4 := e12 _ _ hR3
      have n2 : H3 q2 = none := e1.free hq2
      have q2R : q2 ≠ R := (ne_of_none hR3 n2).symm
      refine ⟨_, hR4, ?_, same_upd (sm.trans e12) hR, rs ++ [q2], ?_, ⟨?_, fun j r ej => ?_⟩, ?_, fun r hr2 => ?_, ?_⟩
      · rw [List.length_map]
        exact below (m := 100) (by omega)
      · rw [upd_same, List.map_append]
        rfl
      · refine List.nodup_append.mpr ⟨hrows.1, List.nodup_cons.mpr ⟨List.not_mem_nil, List.nodup_nil⟩, fun a ha b hb e => ?_⟩
        rw [List.mem_singleton.mp hb] at e
        subst e
        obtain ⟨j, hj⟩ := List.getElem?_of_mem ha
        rw [hrows.2 j _ hj] at n2
        cases n2
      · rw [List.getElem?_append] at ej
        by_cases hj : j < rs.length
        · rw [if_pos hj] at ej
          have hm := List.mem_of_getElem? ej
          rw [upd_ne fun (e : r = R) => hRn (e ▸ hm)]
          exact e12 _ _ (hrows.2 j r ej)
        · rw [if_neg hj] at ej
          have hm : r = q2 := List.mem_singleton.mp (List.mem_of_getElem? ej)
          subst hm
          rw [upd_ne q2R]
          exact upd_same
      · rw [List.length_append, hrl]
        rfl
      · rcases List.mem_append.mp hr2 with h | h
        · exact hfresh r h
        · rw [List.mem_singleton.mp h]
          exact sm.free n2
      · rw [List.mem_append, List.mem_singleton]
        rintro (h | h)
        · exact hRn h
        · exact q2R h.symm
    rintro H3 ⟨s3, rs, hR3, hrows, hrl, hfresh, hRn⟩
    have s13 := s12.trans s3
    -- what stands: all of H2
    have keep2 : ∀ {G G' : Hp} {r : Addr} {o : HO}, Same H2 G → r ∈ rs → G' = upd G r o → Same H2 G' := fun {G G' r o} sg hm e b ob eb => by
      rw [e, upd_ne (ne_of_none eb (hfresh r hm))]
      exact sg _ _ eb
    refine ⟨_, rfl, q, xs, rfl, SqT.of (s3 _ _ hxs), ?_⟩
    refine for_enumT (K := K) (a := q) (xs := xs) (fun k σ H' => ∃ (y5 y6 y7 : Option V) (M : Nat → Nat → Nat), σ = [some v, some x, some (.ref L), some (.ref q), some (.ref R), y5, y6, y7, none, none, none] ∧ Same H2 H' ∧ H' R = some (.lst (rs.map V.ref)) ∧ RowsAt H' rs ls.length M ∧ ∀ i c, M i c = if c < k ∧ (i : Int) ∈ ls.getD c [] then 1 else 0)
      ⟨none, none, none, _, rfl, s3, hR3, hrows, fun i c => by rw [if_neg fun z => absurd z.1 (Nat.not_lt_zero _)]⟩ (fun i σ H' _ h => by obtain ⟨_, _, _, _, _, h2, _⟩ := h; exact SqT.of (h2 _ _ hxs)) ?_ ?_
    · rintro k0 z σ H4 U hz2 ⟨y5, y6, y7, M, rfl, sm, hR4, hrw, hM⟩ hU
      obtain ⟨l, hl, hzl⟩ := hLs.get hz2
      obtain ⟨pl, rfl, hpl⟩ := hzl
      have e4 := same_new (o := .tup [V.int (k0 : Nat), .ref pl]) hU
      have hk0 : k0 < ls.length := by
        rcases Nat.lt_or_ge k0 ls.length with q | q
        · exact q
        · rw [List.getElem?_eq_none q] at hl; cases hl
      have hgd : ls.getD k0 [] = l := by rw [List.getD_eq_getElem?_getD, hl]; rfl
      have hinl := hin l (List.mem_of_getElem? hl)
      refine ⟨U, _, rfl, SqT.of upd_same, rfl, _, _, rfl, _, _, rfl, rfl, ?_⟩
      have sU := sm.trans e4
      refine ⟨_, rfl, pl, rfl, ⟨_, SqT.of (sU _ _ hpl)⟩, ?_⟩
      refine for_tup (xs := l.map V.int) (fun q0 σ H' => ∃ (y7 : Option V) (M2 : Nat → Nat → Nat), σ = [some v, some x, some (.ref L), some (.ref q), some (.ref R), some (V.int (k0 : Nat)), some (.ref pl), y7, none, none, none] ∧ Same H2 H' ∧ H' R = some (.lst (rs.map V.ref)) ∧ RowsAt H' rs ls.length M2 ∧ ∀ i c, M2 i c = if (c < k0 ∧ (i : Int) ∈ ls.getD c []) ∨ (c = k0 ∧ (i : Int) ∈ l.take q0) then 1 else 0)
        ⟨y7, M, rfl, sU, e4 _ _ hR4, hrw.same e4, fun i c => ?_⟩ (fun i σ H' _ h => by obtain ⟨_, _, _, h2, _⟩ := h; exact SqT.of (h2 _ _ hpl)) ?_ ?_
      · rw [hM]
        by_cases a1 : c < k0 ∧ (i : Int) ∈ ls.getD c []
        · rw [if_pos a1, if_pos (.inl a1)]
        · rw [if_neg a1, if_neg]
          rintro (a2 | ⟨_, a2⟩)
          · exact a1 a2
          · cases a2
      · rintro q0 z σ H5 hz3 ⟨y7, M2, rfl, sm5, hR5, hrw5, hM2⟩
        have hq0 : q0 < l.length := by
          rcases Nat.lt_or_ge q0 l.length with q | q
          · exact q
          · rw [List.getElem?_eq_none (by rw [List.length_map]; exact q)] at hz3; cases hz3
        have ez : z = V.int l[q0] := by
          rw [List.getElem?_map, List.getElem?_eq_getElem hq0] at hz3
          exact (Option.some.inj hz3).symm
        subst ez
        have hr0 := hinl l[q0] (List.getElem_mem hq0)
        obtain ⟨pn, hpn⟩ : ∃ pn : Nat, l[q0] = (pn : Int) := ⟨l[q0].toNat, by omega⟩
        have hpn2 : pn < rs.length := by rw [hrl]; omega
        have hrs : rs[pn]? = some rs[pn] := List.getElem?_eq_getElem hpn2
        refine ⟨_, rfl, _, rfl, R, _, _, .ref rs[pn], rfl, rfl, SqL.of hR5, ?_, ?_⟩
        · rw [hpn]
          exact atI_nat (j := pn) (by rw [List.getElem?_map, hrs]; rfl)
        · refine ⟨_, rfl, rs[pn], _, _, k0, rfl, rfl, hrw5.2 pn _ hrs, ixN_at (by rw [rowV_len]; exact hk0), ?_⟩
          have hm := List.getElem_mem hpn2
          refine ⟨_, _, rfl, keep2 sm5 hm rfl, ?_, hrw5.put hrs, fun i c => ?_⟩
          · have nR : R ≠ rs[pn] := fun e => hRn (by rw [e]; exact hm)
            rw [upd_ne nR]
            exact hR5
          · have et : l.take (q0 + 1) = l.take q0 ++ [l[q0]] := take_more hq0
            rw [et, hM2]
            by_cases a1 : i = pn ∧ c = k0
            · rw [if_pos a1, if_pos (.inr ⟨a1.2, by rw [List.mem_append, List.mem_singleton, hpn, a1.1]; exact .inr rfl⟩)]
            · rw [if_neg a1]
              by_cases a2 : (c < k0 ∧ (i : Int) ∈ ls.getD c []) ∨ (c = k0 ∧ (i : Int) ∈ l.take q0)
              · rw [if_pos a2, if_pos]
                rcases a2 with a2 | ⟨a3, a4⟩
                · exact .inl a2
                · exact .inr ⟨a3, List.mem_append_left _ a4⟩
              · rw [if_neg a2, if_neg]
                rintro (a3 | ⟨a3, a4⟩)
                · exact a2 (.inl a3)
                · rcases List.mem_append.mp a4 with a5 | a5
                  · exact a2 (.inr ⟨a3, a5⟩)
                  · refine a1 ⟨?_, a3⟩
                    have := List.mem_singleton.mp a5
                    omega
      · rintro σ H5 ⟨y7, M2, rfl, sm5, hR5, hrw5, hM2⟩
        rw [List.length_map, List.take_length] at hM2
        refine ⟨_, _, _, M2, rfl, sm5, hR5, hrw5, fun i c => ?_⟩
        rw [hM2]
        by_cases a1 : c < k0 + 1 ∧ (i : Int) ∈ ls.getD c []
        · rw [if_pos a1, if_pos]
          by_cases a2 : c = k0
          · rw [a2, hgd] at a1
            exact .inr ⟨a2, a1.2⟩
          · exact .inl ⟨by omega, a1.2⟩
        · rw [if_neg a1, if_neg]
          rintro (⟨a2, a3⟩ | ⟨a2, a3⟩)
          · exact a1 ⟨by omega, a3⟩
          · exact a1 ⟨by omega, by rw [a2, hgd]; exact a3⟩
    · rintro σ H4 ⟨y5, y6, y7, M, rfl, sm, hR4, hrw, hM⟩
      rw [hxl] at hM
      have hA4 := hA.imp fun _ _ h => TmAt.same (s2.trans sm) h
      refine ⟨_, rfl, _, rfl, _, rfl, L, R, lx, rs.map V.ref, rfl, SqL.of (sm _ _ hlx2), SqL.of hR4, fun D hD => ?_⟩
      have hrv : (rs.map V.ref).length = lx.length := by rw [List.length_map, hrl]
      refine lc_zip (K := K) (a := L) (b := R) (xs := lx) (ys := rs.map V.ref) hrv.symm (fun i H' => Same H4 H' ∧ ∃ ys, H' D = some (.lst ys) ∧ Al (LeafAt H') ys ((paintL (leavesT t) ls).take i) ∧ ys.length = i) ⟨same_new hD, [], upd_same, trivial, rfl⟩ (fun i H' h => ⟨SqL.of (h.1 _ _ (sm _ _ hlx2)), SqL.of (h.1 _ _ hR4)⟩) ?_ ?_
      · rintro i y z H5 U hy hz2 ⟨sm5, ys, hY, hAl, hyl⟩ hU
        obtain ⟨c, hc, hyc⟩ := hA4.get hy
        obtain ⟨p1, p2, rfl, g1, g2⟩ := id hyc
        have hi : i < rs.length := by
          rcases Nat.lt_or_ge i rs.length with q | q
          · exact q
          · rw [List.getElem?_eq_none (by rw [List.length_map]; exact q)] at hz2; cases hz2
        have ez : z = .ref rs[i] := by
          rw [List.getElem?_map, List.getElem?_eq_getElem hi] at hz2
          exact (Option.some.inj hz2).symm
        subst ez
        have e5 := same_new (o := .tup [V.ref p1, .ref rs[i]]) hU
        have s5 := sm5.trans e5
        have hrow := hrw.2 i _ (List.getElem?_eq_getElem hi)
        refine ⟨U, _, rfl, SqT.of upd_same, rfl, _, _, rfl, _, _, rfl, rfl, rfl, ?_⟩
        refine ⟨_, rfl, p1, _, _, _, rfl, rfl, SqT.of (s5 _ _ g1), atI_nat (j := 0) rfl, _, rfl, .inl ⟨rs[i], _, rfl, SqL.of (s5 _ _ hrow), fun u hu => ?_⟩⟩
        have e6 := same_new (o := .tup (rowV ls.length (M i))) hu
        refine ⟨small (m := 2) (Nat.le_refl _), fun u2 hu2 => ?_⟩
        have e7 := same_new (o := .tup [vInt c.1, V.ref u]) hu2
        have s7 := s5.trans (e6.trans e7)
        have hY7 := (e5.trans (e6.trans e7)) _ _ hY
        have t8 : Tups _ (upd (upd (upd (upd H5 U (.tup [V.ref p1, .ref rs[i]])) u (.tup (rowV ls.length (M i)))) u2 (.tup [vInt c.1, V.ref u])) D (.lst (ys ++ [.ref u2]))) := Tups.upd hY7
        have hcl : i < (leavesT t).length := by
          rcases Nat.lt_or_ge i (leavesT t).length with q | q
          · exact q
          · rw [List.getElem?_eq_none q] at hc; cases hc
        have ec : (leavesT t)[i] = c := by rw [List.getElem?_eq_getElem hcl] at hc; exact Option.some.inj hc
        have hpl : i < (paintL (leavesT t) ls).length := by unfold paintL; rw [List.length_mapIdx]; exact hcl
        refine ⟨_, hY7, below (m := 100) (by omega), same_upd s7 hD, ys ++ [.ref u2], upd_same, ?_, by rw [List.length_append, hyl]; rfl⟩
        rw [take_more hpl]
        refine Al.append (ys := [.ref u2]) (bs := [(paintL (leavesT t) ls)[i]]) (hAl.imp fun _ _ h => TmAt.tups ((Tups.of (e5.trans (e6.trans e7))).trans t8) h) ⟨⟨u2, u, ?_⟩, trivial⟩
        have ep : (paintL (leavesT t) ls)[i] = (c.1, ls.map (bitIn i)) := by
          rw [← ec]
          simp only [paintL, List.getElem_mapIdx]
        rw [ep]
        refine ⟨rfl, t8 _ _ upd_same, t8 _ _ (e7 _ _ ?_)⟩
        rw [upd_same]
        have eM : (List.range ls.length).map (M i) = ls.map (bitIn i) := by
          refine List.ext_getElem (by rw [List.length_map, List.length_map, List.length_range]) fun c0 h1 h2 => ?_
          rw [List.length_map] at h2
          rw [List.getElem_map, List.getElem_map, List.getElem_range, hM]
          unfold bitIn
          have : ls.getD c0 [] = ls[c0] := by rw [List.getD_eq_getElem?_getD, List.getElem?_eq_getElem h2]; rfl
          rw [this]
          by_cases a1 : (i : Int) ∈ ls[c0]
          · rw [if_pos ⟨h2, a1⟩, if_pos a1]
          · rw [if_neg fun z => a1 z.2, if_neg a1]
        show some (HO.tup (((List.range ls.length).map (M i)).map vInt)) = _
        rw [eM]
      · rintro H5 ⟨sm5, ys, hY, hAl, hyl⟩
        have ep : (paintL (leavesT t) ls).length = (leavesT t).length := by unfold paintL; rw [List.length_mapIdx]
        rw [hlen, ← ep, List.take_length] at hAl
        have s05 := s12.trans (sm.trans sm5)
        exact ⟨v, D, ys, t, _, rfl, ht.same s05, by omega, SqL.of hY, hAl, ep, fun H6 y s6 hy => k H6 y (s05.trans s6) hy⟩
abbrev nBA : List Str := ["term"]
theorem scBA : FnScope nBA ["term"] (defScope sBare) := ⟨rfl, rfl, rfl, by decide +kernel, rfl, by decide +kernel, by decide +kernel⟩
theorem ok_bare {f : Addr} {fd : FuncData} (F : Fun K "bare" "bare" sBare f fd) (GC : CalE P w K mg base 5 "colour" ["term", "tracks"] (spColour K BL)) : FnOk P w K mg base CX0 6 f fd ["term"] spBare := by
  obtain ⟨_, _, ok_co, b_co, k_co, m_co⟩ := GC.ex
  refine F.ok scBA (fun vs H Q E h => ?_) (fun cdv A outer s H vs Q E hr h => ?_)
  · obtain ⟨v, t, rfl, _⟩ := h
    rfl
  · obtain ⟨v, t, rfl, ht, hn, hl, k⟩ := h
    have hr_co := hr
    refine ⟨_, (pss_one (ps_ret (pe_call ok_co hr_co rfl m_co k_co b_co .nil passE0 (pa_cons (pv 0) (pa_cons (pe_tup pa_nil) pa_nil))))), ?_⟩
    refine ⟨_, rfl, small (m := 1) (Nat.zero_le _), fun p hp => ?_⟩
    have s1 := same_new (o := .tup []) hp
    refine ⟨v, .ref p, t, .tuple [], some [], rfl, ht.same s1, hn, hl, .tup (SqT.of upd_same) .nil, .inr ⟨[], .inr rfl, by decide, .nil⟩, fun ls e => ?_, fun e => by cases e⟩
    cases e
    exact ⟨by decide, (fun l h => by cases h), fun H2 y s2 hy => k H2 y (s1.trans s2) hy⟩
abbrev nTR : List Str := ["term", "rows", "leaf", "k", "x", "bits"]
theorem scTR : FnScope nTR ["term"] (defScope sTracksOf) := ⟨rfl, rfl, rfl, by decide +kernel, rfl, by decide +kernel, by decide +kernel⟩
theorem ok_tracks_of {f : Addr} {fd : FuncData} (F : Fun K "tracks_of" "tracks_of" sTracksOf f fd) (T : Bare mg) (T2 : Bare2 mg) (GL : Cal P w K mg base 2 "leaves_of" ["term"] spLeavesOf) (GM : Cal P w K mg base 3 "many_of" ["term"] spManyOf) : FnOk P w K mg base CX0 4 f fd ["term"] spTracksOf := by
  obtain ⟨_, _, ok_lv, b_lv, k_lv, m_lv⟩ := GL.ex
  obtain ⟨_, _, ok_mo, b_mo, k_mo, m_mo⟩ := GM.ex
  refine F.ok scTR (fun vs H Q E h => ?_) (fun cdv A outer s H vs Q E hr h => ?_)
  · obtain ⟨v, t, rfl, _⟩ := h
    rfl
  · obtain ⟨v, t, rfl, ht, hn, hm, hall, k⟩ := h
    have hr_mo := hr
    have hr_lv := hr.mono (j := 2) (by decide)
    refine ⟨_, (pss_cons (ps_set (i := 1) scTR.nd rfl (Or.inr rfl) (pe_lc (own := [("leaf", 2)]) (g := gName 2) (tt := tYes) rfl scTR.nd (pi_list (pe_call ok_lv hr_lv rfl m_lv k_lv b_lv .nil pass0 (pa_cons (pv 0) pa_nil))) (blkOk_by (own := [("leaf", 2)]) (N := nTR) (sc := defScope sTracksOf) (by decide +kernel)) (fun _ _ _ _ _ => pg_name (i := 2) scTR.nd rfl (Or.inl rfl)) (fun _ _ _ _ _ => pts_nil) (fun _ _ _ _ _ => pe_ix (ix_tup : IxR _ (rIxT K)) (pv 2) pe_int (fun _ _ => rfl))))
      (pss_one (ps_ret (pe_tupleOf rfl T.tuple (pe_lc (own := [("k", 3)]) (g := gName 3) (tt := tYes) (te := tThen _ (kTup K)) rfl scTR.nd (pi_range1 rfl T.range (pa_cons (pe_call ok_mo hr_mo rfl m_mo k_mo b_mo .nil pass0 (pa_cons (pv 0) pa_nil)) pa_nil)) (blkOk_by (own := [("k", 3)]) (N := nTR) (sc := defScope sTracksOf) (by decide +kernel)) (fun _ _ _ _ _ => pg_name (i := 3) scTR.nd rfl (Or.inr rfl)) (fun _ _ _ _ _ => pts_nil) (fun _ _ _ _ _ => pe_tupleOf (by rfl) T.tuple (pe_lc (own := [("x", 4), ("bits", 5)]) (wi := iEnum K _) (g := gTup K 2 (gCons (gName 4) (gCons (gName 5) gNil))) (by rfl) (by exact scTR.nd) (pi_enum (by rfl) T2.enumerate (pa_cons (pv 1) pa_nil)) (blkOk_by (own := [("x", 4), ("bits", 5)]) (N := nTR) (sc := scTRin) (by decide +kernel)) (fun _ _ _ _ _ => pg_tup (by rfl) (pgs_cons (pg_name (i := 4) (by exact scTR.nd) (by rfl) (by exact Or.inl rfl)) (pgs_cons (pg_name (i := 5) (by exact scTR.nd) (by rfl) (by exact Or.inl rfl)) pgs_nil))) (fun _ _ _ _ _ => pts_one (pt_int (pe_ix (ix_tup : IxR _ (rIxT K)) (pv 5) (pv 3) (by intro _ _; rfl)) (by intro _; rfl))) (fun _ _ _ _ _ => pv 4)))))))), ?_⟩
    refine ⟨_, rfl, v, t, rfl, ht, by omega, fun H1 L lx s1 hL hlx hA => ⟨L, rfl, ⟨_, SqL.of hlx⟩, fun R hR => ?_⟩⟩
    have hlen := hA.len
    have hln := leaves_nodes t
    refine lc_list (K := K) (a := L) (xs := lx) (fun i H' => Same H1 H' ∧ ∃ ys, H' R = some (.lst ys) ∧ Al (PlacesAt H') ys (((leavesT t).map Prod.snd).take i) ∧ ys.length = i) ⟨same_new hR, [], upd_same, trivial, rfl⟩ (fun i H' _ h => SqL.of (h.1 _ _ hlx)) ?_ ?_
    · rintro i x H2 hx ⟨sm, ys, hY, hYA, hyl⟩
      obtain ⟨c, hc, hxc⟩ := hA.get hx
      obtain ⟨p1, p2, rfl, g1, g2⟩ := id hxc
      have hi : i < (leavesT t).length := by
        rcases Nat.lt_or_ge i (leavesT t).length with q | q
        · exact q
        · rw [List.getElem?_eq_none q] at hc; cases hc
      have ec : (leavesT t)[i] = c := by rw [List.getElem?_eq_getElem hi] at hc; exact Option.some.inj hc
      have t3 : Tups H2 (upd H2 R (.lst (ys ++ [.ref p2]))) := Tups.upd hY
      refine ⟨rfl, _, rfl, p1, _, _, _, rfl, rfl, SqT.of (sm _ _ g1), atI_nat (j := 1) rfl, _, hY, below (m := 2000) (by omega), same_upd sm hR, ys ++ [.ref p2], upd_same, ?_, by rw [List.length_append, hyl]; rfl⟩
      have hi2 : i < ((leavesT t).map Prod.snd).length := by rw [List.length_map]; exact hi
      rw [take_more hi2, List.getElem_map, ec]
      exact Al.append (ys := [.ref p2]) (bs := [c.2]) (hYA.imp fun _ _ h => PlacesAt.tups t3 h) ⟨⟨p2, rfl, t3 _ _ (sm _ _ g2)⟩, trivial⟩
    rintro H2 ⟨sm, ys, hY, hYA, hyl⟩
    have s2 := s1.trans sm
    rw [hlen, List.take_of_length_le (by rw [List.length_map]; exact Nat.le_refl _)] at hYA
    refine ⟨_, rfl, v, t, rfl, ht.same s2, by omega, fun H3 s3 => ⟨_, rfl, by omega, by omega, fun O hO => ?_⟩⟩
    have hY3 := s3 _ _ hY
    refine lc_range (lo := 0) (n := manyT t) (fun k H' => Same H3 H' ∧ ∃ zs, H' O = some (.lst zs) ∧ Al (PlacesAt H') zs (((List.range (manyT t)).map (trackL (leavesT t))).take k) ∧ zs.length = k) ⟨same_new hO, [], upd_same, trivial, rfl⟩ ?_ ?_
    · rintro k0 H4 hk0 ⟨sm4, zs, hZ, hZA, hzl⟩
      refine ⟨rfl, _, rfl, R, ys, rfl, SqL.of (sm4 _ _ hY3), fun D hD => ?_⟩
      have hY4 := sm4 _ _ hY3
      refine lc_enum (K := K) (a := R) (xs := ys) (fun x H' => Same H4 H' ∧ H' D = some (.lst (((List.range x).filter fun x => decide (((leavesT t).getD x (0, [])).2.getD k0 0 ≠ 0)).map vInt))) ⟨same_new hD, upd_same⟩ (fun x H' _ h => SqL.of (h.1 _ _ hY4)) ?_ ?_
      · rintro x0 z H5 U hz ⟨sm5, hD5⟩ hU
        obtain ⟨bs, hbs, p, rfl, hp⟩ := hYA.get hz
        have hx0 : x0 < (leavesT t).length := by
          rcases Nat.lt_or_ge x0 (leavesT t).length with q | q
          · exact q
          · rw [List.getElem?_eq_none (by rw [List.length_map]; exact q)] at hbs; cases hbs
        have e5 := same_new (o := .tup [V.int (x0 : Nat), .ref p]) hU
        have s25 := s3.trans (sm4.trans (sm5.trans e5))
        rw [List.getElem?_map, List.getElem?_eq_getElem hx0] at hbs
        have eb : (leavesT t)[x0].2 = bs := Option.some.inj hbs
        have hbl := hall _ (List.getElem_mem hx0)
        rw [eb] at hbl
        have hkb : k0 < bs.length := by omega
        have eg0 : (leavesT t).getD x0 (0, []) = (leavesT t)[x0] := by
          rw [List.getD_eq_getElem?_getD, List.getElem?_eq_getElem hx0]
          rfl
        have eg : ((leavesT t).getD x0 (0, [])).2.getD k0 0 = bs[k0] := by
          rw [eg0, eb, List.getD_eq_getElem?_getD, List.getElem?_eq_getElem hkb]
          rfl
        refine ⟨U, _, rfl, SqT.of upd_same, rfl, _, _, rfl, _, _, rfl, rfl, rfl, ?_⟩
        refine ⟨_, rfl, _, rfl, p, _, _, vInt bs[k0], rfl, rfl, SqT.of (s25 _ _ hp), ?_, _, rfl, ?_⟩
        · rw [Int.zero_add]
          exact atI_nat (j := k0) (by rw [List.getElem?_map, List.getElem?_eq_getElem hkb]; rfl)
        have er : (List.range (x0 + 1)).filter (fun x => decide (((leavesT t).getD x (0, [])).2.getD k0 0 ≠ 0)) = (List.range x0).filter (fun x => decide (((leavesT t).getD x (0, [])).2.getD k0 0 ≠ 0)) ++ (if bs[k0] ≠ 0 then [x0] else []) := by
          rw [List.range_succ, List.filter_append]
          by_cases e : bs[k0] ≠ 0
          · rw [if_pos e, List.filter_cons, eg, if_pos (decide_eq_true e)]
            rfl
          · rw [if_neg e, List.filter_cons, eg, if_neg (by rw [decide_eq_false e]; decide)]
            rfl
        rw [er]
        have eD := e5 _ _ hD5
        have hfl : ((List.range x0).filter fun x => decide (((leavesT t).getD x (0, [])).2.getD k0 0 ≠ 0)).length ≤ x0 := by
          have := List.length_filter_le (fun x => decide (((leavesT t).getD x (0, [])).2.getD k0 0 ≠ 0)) (List.range x0)
          rw [List.length_range] at this
          exact this
        by_cases e : bs[k0] ≠ 0
        · have ei : (((bs[k0] : Nat) : Int) != 0) = true := by
            rw [bne_iff_ne]
            omega
          show if (((bs[k0] : Nat) : Int) != 0) = true then _ else _
          rw [ei, if_pos e]
          refine iteT ⟨_, rfl, _, eD, ?_, same_upd (sm5.trans e5) hD, ?_⟩
          · rw [List.length_map]
            exact below (m := 2000) (by omega)
          · rw [upd_same, List.map_append]
            rfl
        · have ei : (((bs[k0] : Nat) : Int) != 0) = false := by
            rw [bne_eq_false_iff_eq]
            omega
          show if (((bs[k0] : Nat) : Int) != 0) = true then _ else _
          rw [ei, if_neg e, List.append_nil]
          exact iteF ⟨sm5.trans e5, eD⟩
      · rintro H5 ⟨sm5, hD5⟩
        have eyl : ys.length = (leavesT t).length := by rw [hyl, hlen]
        rw [eyl] at hD5
        refine .inl ⟨D, _, rfl, SqL.of hD5, fun q hq => ?_⟩
        have e6 := same_new (o := .tup ((trackL (leavesT t) k0).map vInt)) hq
        have hZ6 := (sm5.trans e6) _ _ hZ
        have t7 : Tups _ (upd (upd H5 q (.tup ((trackL (leavesT t) k0).map vInt))) O (.lst (zs ++ [.ref q]))) := Tups.upd hZ6
        have hkl : k0 < ((List.range (manyT t)).map (trackL (leavesT t))).length := by rw [List.length_map, List.length_range]; exact hk0
        refine ⟨_, hZ6, below (m := 2000) (by omega), same_upd (sm4.trans (sm5.trans e6)) hO, zs ++ [.ref q], upd_same, ?_, by rw [List.length_append, hzl]; rfl⟩
        rw [take_more hkl, List.getElem_map, List.getElem_range]
        exact Al.append (ys := [.ref q]) (bs := [trackL (leavesT t) k0]) (hZA.imp fun _ _ h => PlacesAt.tups ((Tups.of (sm5.trans e6)).trans t7) h) ⟨⟨q, rfl, t7 _ _ upd_same⟩, trivial⟩
    · rintro H4 ⟨sm4, zs, hZ, hZA, hzl⟩
      rw [List.take_of_length_le (by rw [List.length_map, List.length_range]; exact Nat.le_refl _)] at hZA
      refine .inl ⟨O, zs, rfl, SqL.of hZ, fun q hq => ?_⟩
      have e6 := same_new (o := .tup zs) hq
      have s6 := s2.trans (s3.trans sm4)
      exact k _ q zs (s6.trans e6) (s6.free hq) upd_same (hZA.imp fun _ _ h => PlacesAt.tups (Tups.of e6) h)
end
end Fam

/-! len(set(xs)), xs a list of different tuples of ints, up to two hundred. -/
namespace S5
open PySem PySem.Spec PyProof.Rows L2
/-- the masks that come, one more than the library's -/
def Msk (m : Nat) : Prop := MaskOk m ∨ m = 511
def orb : Nat → Nat → List Nat
  | 0, _ => []
  | n + 1, x => x :: orb n ((x * 5 + 1) % 512)
theorem orb_at : ∀ (n a : Nat) (j : Nat), j ∈ orb n (lcgN 511 a) → ∃ b, b < n ∧ lcgN 511 (a + b) = j
  | 0, a, j, h => by cases h
  | n + 1, a, j, h => by
    rcases List.mem_cons.mp h with e | h
    · exact ⟨0, Nat.succ_pos n, e.symm⟩
    · obtain ⟨b, hb, e⟩ := orb_at n (a + 1) j h
      exact ⟨b + 1, Nat.succ_lt_succ hb, by rw [show a + (b + 1) = a + 1 + b by omega]; exact e⟩
theorem orb_all : ((List.range 512).all fun j => (orb 512 0).contains j) = true := by decide +kernel
theorem orb_end : lcgN 511 512 = 0 := by decide +kernel
theorem round : ∀ k, lcgN 511 (512 + k) = lcgN 511 k
  | 0 => orb_end
  | k + 1 => by
    show (lcgN 511 (512 + k) * 5 + 1) % 512 = (lcgN 511 k * 5 + 1) % 512
    rw [round k]
theorem on_way {j : Nat} (h : j ≤ 511) : ∃ b, b ≤ 511 ∧ lcgN 511 b = j := by
  have q := List.all_eq_true.mp orb_all j (List.mem_range.mpr (by omega))
  obtain ⟨b, hb, e⟩ := orb_at 512 0 j (List.contains_iff_mem.mp q)
  exact ⟨b, by omega, by rw [← e, Nat.zero_add]⟩
theorem from_any {i j : Nat} (hi : i ≤ 511) (hj : j ≤ 511) : ∃ k, k ≤ 511 ∧ lcgI 511 i k = j := by
  obtain ⟨a, ha, rfl⟩ := on_way hi
  obtain ⟨b, hb, rfl⟩ := on_way hj
  by_cases c : a ≤ b
  · exact ⟨b - a, by omega, by rw [lcgN_add, Nat.add_sub_cancel' c]⟩
  · exact ⟨b + 512 - a, by omega, by rw [lcgN_add, show a + (b + 512 - a) = 512 + b by omega, round]⟩
theorem meets {m : Nat} (hm : Msk m) (h : Int) {j : Nat} (hj : j ≤ m) : ∃ n, n ≤ m + 12 ∧ runI m (SetTable.bits h) n = j := by
  rcases hm with hm | rfl
  · exact run_meets hm h hj
  · obtain ⟨k, hk, e⟩ := from_any (runI_le 511 (SetTable.bits h) 12) hj
    exact ⟨12 + k, by omega, (runI_tail (bits_lt h) k).trans e⟩
theorem way_in (m : Nat) (h : Int) (k : Nat) : way m h k ≤ m := by
  have hi : SetTable.bits h % (m + 1) ≤ m := Nat.le_of_lt_succ (Nat.mod_lt _ (Nat.succ_pos m))
  have := nth_in k (runAt m (SetTable.bits h % (m + 1)) (SetTable.bits h)) (by
    have q := runEnd_bd hi
    show SetTable.bits h % (m + 1) + (SetTable.runEnd m (SetTable.bits h % (m + 1)) - SetTable.bits h % (m + 1)) ≤ m
    omega)
  exact Nat.le_trans (Nat.le_add_right _ _) this
/-- a free place is on the way, soon enough -/
theorem soon {m : Nat} (hm : Msk m) (h : Int) {p : Nat → Prop} {j : Nat} (hj : j ≤ m) (hp : p j) : ∃ n K, n ≤ m + 12 ∧ K ≤ off m (SetTable.bits h % (m + 1)) (SetTable.bits h) n ∧ p (way m h K) ∧ ∀ k, k < K → ¬ p (way m h k) := by
  obtain ⟨n, hn, e⟩ := meets hm h hj
  have hw : way m h (off m (SetTable.bits h % (m + 1)) (SetTable.bits h) n) = j := (congrArg SetTable.Probe.j ((nth_off m n _ _).trans (by rw [itL_run]))).trans e
  obtain ⟨K, a, b, c⟩ := st_least (p := fun k => p (way m h k)) _ (show p (way m h (off m (SetTable.bits h % (m + 1)) (SetTable.bits h) n)) by rw [hw]; exact hp)
  exact ⟨n, K, hn, a, b, c⟩
theorem off_le (m : Nat) : ∀ (n i b : Nat), i ≤ m → off m i b n ≤ 10 * n
  | 0, _, _, _ => Nat.zero_le _
  | n + 1, i, b, hi => by
    have q := runEnd_bd hi
    have r := off_le m n (SetTable.leap m i b).1 (SetTable.leap m i b).2 (leap_le m i b)
    show (SetTable.runEnd m i - i + 1) + off m (SetTable.leap m i b).1 (SetTable.leap m i b).2 n ≤ _
    omega
/-- a table of n, without removed ones -/
structure Tab (t : SetTable) (n : Nat) : Prop where
  ris : Ris t.place.toList
  dm : t.dummies = #[]
  sz : t.place.size = n
  mok : Msk t.mask
  bd : ∀ x ∈ t.place.toList, x ≤ t.mask
theorem Tab.first {t : SetTable} {n : Nat} (T : Tab t n) (hl : n ≤ t.mask) (h : Int) : ∃ K, K < 10 * SetTable.turns t.mask ∧ way t.mask h K ∉ t.place.toList ∧ ∀ k, k < K → way t.mask h k ∈ t.place.toList := by
  obtain ⟨j, hj, hn⟩ := st_missing t.place.toList (t.mask + 1) (by rw [Array.length_toList, T.sz]; omega)
  obtain ⟨n0, K, h1, h2, h3, h4⟩ := soon T.mok h (p := fun j => j ∉ t.place.toList) (Nat.le_of_lt_succ hj) hn
  have := off_le t.mask n0 (SetTable.bits h % (t.mask + 1)) (SetTable.bits h) (Nat.le_of_lt_succ (Nat.mod_lt _ (Nat.succ_pos _)))
  exact ⟨K, by unfold SetTable.turns; omega, h3, fun k hk => Classical.byContradiction (h4 k hk)⟩
theorem Tab.put {t : SetTable} {n j : Nat} (T : Tab t n) (hj : j ∉ t.place.toList) (hm : j ≤ t.mask) : Tab (t.put j).1 (n + 1) ∧ (t.put j).1.fill = n + 1 := by
  have hb : SetTable.below t.place j ≤ t.place.toList.length := by rw [Array.length_toList]; exact (below_cut T.ris j).1
  have hs : (t.put j).1.place.size = n + 1 := by rw [← Array.length_toList, put_place t j, len_ins _ hb, Array.length_toList, T.sz]
  refine ⟨⟨ris_insert T.ris fun e => hj (List.mem_of_getElem? (by rw [Array.getElem?_toList]; exact e)), put_dm T.dm j, hs, T.mok, fun x hx => ?_⟩, ?_⟩
  · rw [put_place t j] at hx
    exact (mem_ins.1 hx).elim (fun e => e ▸ hm) (T.bd x)
  · unfold SetTable.fill
    rw [hs, put_dm T.dm j]
    rfl
/-- who sits where, n of them -/
structure Ow (m n : Nat) (ow : Array (Option Nat)) : Prop where
  sz : ow.size = m + 1
  al : ∀ k, k < n → ∃ j, j ≤ m ∧ oAt ow j = some k
  ps : ∃ ps : List Nat, ps.length = n ∧ ∀ j, j ≤ m → oAt ow j ≠ none → j ∈ ps
theorem Ow.step {m n : Nat} {ow : Array (Option Nat)} (hm : Msk m) (W : Ow m n ow) (hl : n ≤ m) (h : Int) : ∃ j, SetTable.layClean.free m ow (SetTable.turns m) (SetTable.bits h % (m + 1)) (SetTable.bits h) = some j ∧ Ow m (n + 1) (ow.setIfInBounds j (some n)) := by
  obtain ⟨ps, hps, hin⟩ := W.ps
  obtain ⟨j0, h0, hn0⟩ := st_missing ps (m + 1) (by omega)
  have hj0 : oAt ow j0 = none := Classical.byContradiction fun z => hn0 (hin j0 (Nat.le_of_lt_succ h0) z)
  obtain ⟨n0, K, a1, a2, a3, a4⟩ := soon hm h (p := fun j => oAt ow j = none) (Nat.le_of_lt_succ h0) hj0
  refine ⟨way m h K, free_spec m ow (SetTable.turns m) n0 _ _ K (by unfold SetTable.turns; omega) a2 (fun k hk => ?_) (Option.isNone_iff_eq_none.mpr a3), ?_⟩
  · exact Bool.eq_false_iff.mpr fun z => a4 k hk (Option.isNone_iff_eq_none.mp z)
  · have hs : way m h K < ow.size := by rw [W.sz]; exact Nat.lt_succ_of_le (way_in m h K)
    have me := oAt_set_self (some n) hs
    refine ⟨by rw [Array.size_setIfInBounds]; exact W.sz, fun k hk => ?_, way m h K :: ps, by rw [List.length_cons, hps], fun j hj e => ?_⟩
    · by_cases c : k = n
      · exact ⟨_, way_in m h K, by rw [c]; exact me⟩
      · obtain ⟨j, hj, e⟩ := W.al k (by omega)
        exact ⟨j, hj, (oAt_set_ne _ fun z => by rw [z, a3] at e; cases e).trans e⟩
    · by_cases c : j = way m h K
      · rw [c]; exact List.mem_cons_self
      · rw [oAt_set_ne _ c] at e
        exact List.mem_cons_of_mem _ (hin j hj e)
theorem laid {m : Nat} (hm : Msk m) : ∀ (rest : List Int) (n : Nat) (ow : Array (Option Nat)), Ow m n ow → n + rest.length ≤ m → ∃ ow', rest.foldl (stepF m) (some (ow, n)) = some (ow', n + rest.length) ∧ Ow m (n + rest.length) ow'
  | [], n, ow, W, _ => ⟨ow, rfl, W⟩
  | h :: rest, n, ow, W, hl => by
    rw [List.length_cons] at hl ⊢
    obtain ⟨j, e, W1⟩ := W.step hm (by omega) h
    obtain ⟨ow', e2, W2⟩ := laid hm rest (n + 1) _ W1 (by omega)
    rw [show n + 1 + rest.length = n + (rest.length + 1) by omega] at e2 W2
    exact ⟨ow', by rw [List.foldl_cons, stepF_some e]; exact e2, W2⟩
theorem anew (t : SetTable) {hs : Array Int} {wanted M : Nat} (hw : SetTable.sizeAbove wanted - 1 = M) (hM : Msk M) (hn : hs.size ≤ M) :
    ∃ t' order, t.relaid hs wanted = some (t', order) ∧ order.toList.Perm (List.range hs.size) ∧ Tab t' hs.size ∧ t'.mask = M ∧ t'.led = t.led ∧ t'.plain = t.plain := by
  have z : Ow M 0 (Array.replicate (M + 1) none) := ⟨by simp, fun k hk => absurd hk (Nat.not_lt_zero k), [], rfl, fun j hj e => absurd (oAt_init hj) e⟩
  obtain ⟨ow, e, W⟩ := laid hM hs.toList 0 _ z (by rw [Array.length_toList]; omega)
  rw [Array.length_toList, Nat.zero_add] at e W
  have el : SetTable.layClean M hs = some ow := by
    rw [layClean_eq, e]
    rfl
  have R := ris_live (fun j => ow.getD j none) (List.range (M + 1)) List.pairwise_lt_range
  have r1 : Ris ((liveOf M ow).map (·.1)) := R.1
  have r2 : ∀ x ∈ (liveOf M ow).map (·.1), x ∈ List.range (M + 1) := R.2
  obtain ⟨ps, p1, p2⟩ := W.ps
  have up := nat_nodup_len ((liveOf M ow).map (·.1)) ps (show List.Pairwise _ _ from List.Pairwise.imp (fun z => Nat.ne_of_lt z) (show List.Pairwise (· < ·) ((liveOf M ow).map (·.1)) from r1)) fun x hx => by
    obtain ⟨⟨y, k⟩, hq, rfl⟩ := List.mem_map.mp hx
    obtain ⟨b1, b2⟩ := (mem_live W.sz).1 hq
    exact p2 y b1 (by rw [b2]; exact fun z => nomatch z)
  have has : ∀ k, k < hs.size → k ∈ (liveOf M ow).map (·.2) := fun k hk => by
    obtain ⟨j, b1, b2⟩ := W.al k hk
    exact List.mem_map.mpr ⟨(j, k), (mem_live W.sz).2 ⟨b1, b2⟩, rfl⟩
  have dn := nat_nodup_len (List.range hs.size) ((liveOf M ow).map (·.2)) List.nodup_range fun k hk => has k (List.mem_range.mp hk)
  rw [List.length_map, p1] at up
  rw [List.length_map, List.length_range] at dn
  have hlen : (liveOf M ow).length = hs.size := Nat.le_antisymm up dn
  refine ⟨tabOf t M ow, ((liveOf M ow).map (·.2)).toArray, by rw [relaid_eq, hw, el]; rfl, perm_range hs.size _ (by rw [List.length_map]; exact hlen) has, ⟨r1, rfl, ?_, hM, fun x hx => Nat.le_of_lt_succ (List.mem_range.mp (r2 x hx))⟩, rfl, rfl, rfl⟩
  show ((liveOf M ow).map (·.1)).toArray.size = _
  rw [List.size_toArray, List.length_map, hlen]
/-- the set at a of different tuples -/
structure SetD (P : Program) (w : World) (h : Heap) (a : Addr) (L : List (Addr × List Int)) (es : Array (Int × Value)) (ep : Nat) (t : SetTable) : Prop where
  ob : ∃ o, h.get? a = some o ∧ o.ExactSet ∧ o.data = .set es ep t
  rows : es.toList = rowsOf P w L
  tab : Tab t L.length
  tup : ∀ p ∈ L, IsT P w h p.2 p.1
  flags : t.plain = true ∧ (w.params.followText "set-order" = true ∨ t.led = true)
  room : L.length * 5 < t.mask * 3
section
variable {P : Program} {w : World} {A : Around} {E : Value → Shared → Prop} {s : Shared} {a : Addr} {L : List (Addr × List Int)} {es : Array (Int × Value)} {ep : Nat} {t : SetTable}
theorem rows_len (h : es.toList = rowsOf P w L) : es.size = L.length := by
  have := congrArg List.length h
  unfold rowsOf at this
  rwa [Array.length_toList, List.length_map] at this
theorem rows_at (h : es.toList = rowsOf P w L) {i : Nat} {p : Addr × List Int} (hi : L[i]? = some p) : es[i]? = some (thash P w p.2, Value.ref p.1) := by
  rw [← Array.getElem?_toList, h]
  unfold rowsOf
  rw [List.getElem?_map, hi]
  rfl
theorem fits_of {n : Nat} (T : Tab t n) (hs : es.size = n) (hm : n ≤ t.mask) : t.fits es.size = true := by
  have z : t.fill = n := by
    unfold SetTable.fill
    rw [T.dm, T.sz]
    rfl
  unfold SetTable.fits
  rw [Bool.and_eq_true, beq_iff_eq, decide_eq_true_eq, z, hs]
  exact ⟨T.sz, hm⟩
theorem SetD.fits (R : SetD P w s.heap a L es ep t) : t.fits es.size = true := fits_of R.tab (rows_len R.rows) (by have := R.room; omega)
theorem SetD.stays (R : SetD P w s.heap a L es ep t) : ¬ t.gaveWay = true := by
  unfold SetTable.gaveWay
  have : t.mask % 2 = 1 := R.tab.mok.elim mask_odd fun e => by rw [e]
  rw [this]
  decide
theorem nth_plain (m : Nat) : ∀ (n : Nat) (p : SetTable.Probe), p.dummy = none → (nth m p n).dummy = none
  | 0, _, h => h
  | n + 1, p, h => nth_plain m n (adv m p) (by unfold adv; split <;> exact h)
/-- the search for a new one ends at the first free place -/
theorem search_new (R : SetD P w s.heap a L es ep t) {x : Addr} {k : List Int} (hx : IsT P w s.heap k x) (hu : A.units < cLine) (hk : k ∉ L.map (·.2)) {K : Nat} (hKf : K < 10 * SetTable.turns t.mask)
    (hK : way t.mask (thash P w k) K ∉ t.place.toList) (hKb : ∀ c, c < K → way t.mask (thash P w k) c ∈ t.place.toList) {Q : SetFound → Shared → Prop} (q : Q (.free (way t.mask (thash P w k) K) false) s) :
    ∀ (f c : Nat) (st : Option SetTable.Probe), st.getD (t.probeStart (thash P w k)) = nth t.mask (runAt t.mask (SetTable.bits (thash P w k) % (t.mask + 1)) (SetTable.bits (thash P w k))) c → c ≤ K → K - c < f →
      wpAny (model P w) A (setSearchFrom a (.ref x) (thash P w k) true f st) Q E s := by
  obtain ⟨o, ho, hex, hd⟩ := R.ob
  obtain ⟨h, eh⟩ : ∃ h, h = thash P w k := ⟨_, rfl⟩
  rw [← eh] at hK hKb q ⊢
  obtain ⟨B, eB⟩ : ∃ B, B = runAt t.mask (SetTable.bits h % (t.mask + 1)) (SetTable.bits h) := ⟨_, rfl⟩
  have wy : ∀ n, way t.mask h n = (nth t.mask B n).j := fun n => by rw [eB]
  rw [← eB]
  intro f
  induction f with
  | zero => intro c st _ _ hf; exact absurd hf (Nat.not_lt_zero _)
  | succ f ih =>
    intro c st hst hc hf
    rw [setSearchFrom_succ]
    refine wpAny_bind (wpAny_setState_of (a := a) ho hd R.fits ?_)
    dsimp only
    refine wp_if_neg (c := t.gaveWay = true) R.stays ?_
    try refine wpAny_bind (wpAny_pure ?_)
    have sum : ∀ n, nth t.mask (nth t.mask B c) n = nth t.mask B (c + n) := fun n => (nth_add t.mask c B n).symm
    have spec := go_spec t R.tab.ris R.tab.dm (fun i => (es[i]?.map (·.1)).getD 0) h (10 * SetTable.turns t.mask) (K - c) (nth t.mask B c) (nth_plain _ _ _ (by rw [eB]; rfl)) (by omega)
      (fun n hn => by rw [sum, ← wy]; exact hKb _ (by omega)) (by rw [sum, ← wy, Nat.add_sub_cancel' hc]; exact hK)
    have pr : ∀ m, SetTable.probe.go t (fun i => (es[i]?.map (·.1)).getD 0) h (10 * SetTable.turns t.mask) (nth t.mask B c) = some m → t.probe (fun i => (es[i]?.map (·.1)).getD 0) h (st.getD (t.probeStart h)) = some m := fun m e => by
      rw [hst]
      exact e
    rcases spec with ⟨n, i, hn, hi, _, _, e⟩ | ⟨_, e⟩
    · rw [pr _ e]
      dsimp only
      have hil : i < L.length := by
        have := (List.getElem?_eq_some_iff.mp hi).1
        rwa [Array.length_toList, R.tab.sz] at this
      have hp : L[i]? = some L[i] := List.getElem?_eq_getElem hil
      generalize L[i] = p at hp
      have hm : p ∈ L := List.mem_of_getElem? hp
      have ne : p.2 ≠ k := fun z => hk (List.mem_map.mpr ⟨p, hm, z⟩)
      have goal : wpAny (model P w) A (searchRest a (.ref x) h true f es t (nth t.mask (nth t.mask B c) n).j i (nth t.mask (nth t.mask B c) (n + 1))) Q E s := by
        unfold searchRest
        rw [rows_at R.rows hp]
        dsimp only
        refine wpAny_bind (wpAny_holding (wpAny_eqBool_tuple hu (R.tup p hm) hx (wpAny_bind (wpAny_setState_of (a := a) ho hd R.fits ?_))))
        dsimp only
        refine wp_if_neg (by simp [ne]) ?_
        try refine wpAny_bind (wpAny_pure ?_)
        rw [sameMem]
        dsimp only
        simp only [if_true, slot_live R.tab.ris hi, rows_at R.rows hp]
        refine wpAny_bind (wpAny_isSame_ref_self (wpAny_bind (wpAny_pure ?_)))
        simp only [if_true]
        refine wp_if_neg (by simp [ne]) (ih (c + (n + 1)) _ ?_ (by omega) (by omega))
        rw [← sum]
        rfl
      by_cases hl : t.led = true
      · refine wp_if_neg (by simp [hl]) ?_
        try refine wpAny_bind (wpAny_pure ?_)
        exact goal
      · refine wp_if_pos (by simp [hl]) (wpAny_bind (seen_tup hx (fun y hy => ?_) ?_))
        · obtain ⟨e0, he, rfl⟩ := List.mem_map.mp hy
          have he2 : e0 ∈ es.toList := by
            have : e0 ∈ es ∧ e0.1 = h := by simpa using he
            simpa using this.1
          rw [R.rows] at he2
          obtain ⟨p2, hp2, rfl⟩ := List.mem_map.mp he2
          exact ⟨p2.2, p2.1, rfl, R.tup p2 hp2⟩
        · refine wp_if_neg (by decide) ?_
          try refine wpAny_bind (wpAny_pure ?_)
          exact goal
    · rw [pr _ e]
      dsimp only
      rw [sum, ← wy, Nat.add_sub_cancel' hc]
      exact wpAny_pure q
theorem order_in (L : List (Addr × List Int)) (order : Array Nat) (hr : es.toList = rowsOf P w L) (hp : order.toList.Perm (List.range L.length)) : ∃ L2, (order.filterMap (es[·]?)).toList = rowsOf P w L2 ∧ L2.Perm L := by
  obtain ⟨L2, a, b, _⟩ := order_rows L es order hr hp
  exact ⟨L2, a, b⟩
/-- the table, larger -/
theorem relay_new {o : Obj} (ho : s.heap.get? a = some o) (hex : o.ExactSet) (hd : o.data = .set es ep t) (hr : es.toList = rowsOf P w L) (T : Tab t L.length) (hl : L.length ≤ t.mask)
    (tup : ∀ p ∈ L, IsT P w s.heap p.2 p.1) (fl : t.plain = true ∧ (w.params.followText "set-order" = true ∨ t.led = true)) {wanted M : Nat} (hw : SetTable.sizeAbove wanted - 1 = M) (hM : Msk M) (h2 : SetTable.sizeAbove wanted ≤ 512)
    (hn : L.length * 5 < M * 3) {Q : Unit → Shared → Prop} (q : ∀ h' L' es' ep' t', Heap.SameBut a s.heap h' → SetD P w h' a L' es' ep' t' → L'.Perm L → Q () { s with heap := h' }) : wpAny (model P w) A (setRelay a wanted) Q E s := by
  have sz := rows_len hr
  obtain ⟨t', order, e, hp, T2, em, el, epl⟩ := anew t (hs := es.map (·.1)) (wanted := wanted) hw hM (by rw [Array.size_map, sz]; omega)
  rw [Array.size_map, sz] at hp T2
  obtain ⟨L2, r1, r2⟩ := order_in L order hr hp
  have s2 : (order.filterMap (es[·]?)).size = es.size := by rw [rows_len r1, r2.length_eq, sz]
  rw [setRelay_eq]
  refine wpAny_bind (wpAny_setState_of (a := a) ho hd (fits_of T sz hl) ?_)
  dsimp only
  refine wp_if_neg (c := SetTable.sizeAbove wanted > sizeLine) (by rw [sizeLine_eq]; omega) ?_
  try refine wpAny_bind (wpAny_pure ?_)
  rw [e]
  dsimp only
  refine wpAny_bind (wp_if_neg (by rw [s2]; simp) ?_)
  try refine wpAny_bind (wpAny_pure ?_)
  refine wpAny_pure (show wpAny _ _ (storeSet a (order.filterMap (es[·]?)) t') _ _ _ from wpAny_storeSet_of ho hd ?_ (by rw [s2, sz, sizeLine_eq]; omega))
  have sb : Heap.SameBut a s.heap (s.heap.update a (Obj.putSet (order.filterMap (es[·]?)) t')) := Heap.SameBut.update s.heap a _
  exact q _ L2 _ (ep + 1) t' sb ⟨⟨_, store_at ho hd, ⟨hex.1, hex.2.1, hex.2.2⟩, rfl⟩, r1, by rw [r2.length_eq]; exact T2, fun p h => isT_same (tup p (r2.mem_iff.mp h)) ho hd sb, ⟨epl.trans fl.1, fl.2.imp id el.trans⟩, by rw [r2.length_eq, em]; exact hn⟩ r2
theorem size_308 : SetTable.sizeAbove (SetTable.grown 77) = 512 := by decide +kernel
/-- a new one is added -/
theorem add_new (R : SetD P w s.heap a L es ep t) {x : Addr} {k : List Int} (hx : IsT P w s.heap k x) (hu : A.units < cLine) (hk : k ∉ L.map (·.2)) (few : L.length < 200) {Q : Bool → Shared → Prop}
    (q : ∀ h' L' es' ep' t', Heap.SameBut a s.heap h' → SetD P w h' a L' es' ep' t' → L'.Perm ((x, k) :: L) → Q true { s with heap := h' }) : wpAny (model P w) A (setAddHashed a (.ref x) (thash P w k)) Q E s := by
  obtain ⟨o, ho, hex, hd⟩ := R.ob
  have sz := rows_len R.rows
  have room := R.room
  unfold setAddHashed
  rw [show (100000 : Nat) = 99999 + 1 from rfl, setAddHashedIn_succ]
  refine wpAny_holding (wpAny_bind (wpAny_setState_of (a := a) ho hd R.fits ?_))
  dsimp only
  refine wp_if_neg (by simp [byScan, Value.scannable]) ?_
  try refine wpAny_bind (wpAny_pure ?_)
  obtain ⟨K, hKf, hK, hKb⟩ := R.tab.first (by omega) (thash P w k)
  have big : K < 100000 := by
    have : t.mask ≤ 511 := by rcases R.tab.mok with (e | e | e) | e <;> omega
    unfold SetTable.turns at hKf
    omega
  refine wpAny_bind (by unfold setSearch; exact search_new R hx hu hk hKf hK hKb (by
    dsimp only
    refine wpAny_bind (wpAny_setState_of (a := a) ho hd R.fits ?_)
    dsimp only
    have hjm := way_in t.mask (thash P w k) K
    obtain ⟨j, ej⟩ : ∃ j, j = way t.mask (thash P w k) K := ⟨_, rfl⟩
    rw [← ej] at hK hjm ⊢
    obtain ⟨T1, f1⟩ := R.tab.put hK hjm
    have p1 : (t.put j).1.plain = true ∧ (w.params.followText "set-order" = true ∨ (t.put j).1.led = true) := R.flags
    have m1 : (t.put j).1.mask = t.mask := rfl
    have b1 : (t.put j).2 = SetTable.below t.place j := rfl
    generalize t.put j = pt at T1 f1 p1 m1 b1 ⊢
    obtain ⟨t1, p⟩ := pt
    dsimp only at T1 f1 p1 m1 b1 ⊢
    first
      | (refine wpAny_bind ?_; refine wp_if_pos p1.1 ?_; refine hashBy_tup hx ?_)
      | refine wp_if_pos p1.1 (wpAny_bind (hashBy_tup hx ?_))
    simp only [if_true]
    have rw1 : (SetTable.insertAt es p (thash P w k, Value.ref x)).toList = rowsOf P w (L.take p ++ (x, k) :: L.drop p) := by rw [SetTable.toList_insertAt, rows_put, R.rows]
    have pm := put_perm L p (x, k)
    generalize SetTable.insertAt es p (thash P w k, Value.ref x) = es1 at rw1 ⊢
    generalize L.take p ++ (x, k) :: L.drop p = L1 at rw1 pm
    have l1 : L1.length = L.length + 1 := pm.length_eq
    rw [← l1] at T1 f1
    refine wpAny_bind (wpAny_storeSet_of ho hd ?_ (by rw [rows_len rw1, l1, sizeLine_eq]; omega))
    have sb : Heap.SameBut a s.heap (s.heap.update a (Obj.putSet es1 t1)) := Heap.SameBut.update s.heap a _
    have ho1 := store_at (es' := es1) (t' := t1) ho hd
    generalize s.heap.update a (Obj.putSet es1 t1) = g1 at sb ho1 ⊢
    have tup1 : ∀ p ∈ L1, IsT P w g1 p.2 p.1 := fun p hp => (List.mem_cons.mp (pm.mem_iff.mp hp)).elim (fun e => by rw [e]; exact isT_same hx ho hd sb) fun hp => isT_same (R.tup p hp) ho hd sb
    have ex1 : ({ o with data := Data.set es1 (ep + 1) t1 } : Obj).ExactSet := ⟨hex.1, hex.2.1, hex.2.2⟩
    by_cases hf : t1.tooFull = true
    · first
        | (refine wpAny_bind ?_; refine wp_if_pos (by simp [hf]) ?_)
        | (refine wp_if_pos (by simp [hf]) ?_; refine wpAny_bind ?_)
      have full : L1.length * 5 ≥ t1.mask * 3 := by
        unfold SetTable.tooFull at hf
        rwa [decide_eq_true_eq, f1] at hf
      rw [sz]
      have go : ∀ M, SetTable.sizeAbove (SetTable.grown (L.length + 1)) = M + 1 → Msk M → M ≤ 511 → (L.length + 1) * 5 < M * 3 → wpAny (model P w) A (setRelay a (SetTable.grown (L.length + 1))) (fun _ s' => wpAny (model P w) A (pure true) Q E s') E { s with heap := g1 } := fun M e hM h5 hn =>
        relay_new (s := { s with heap := g1 }) ho1 ex1 rfl rw1 T1 (by omega) tup1 p1 (by rw [e]; rfl) hM (by omega) (by omega) fun g2 L2 es2 ep2 t2 sb2 R2 pm2 => wpAny_pure (q g2 L2 es2 ep2 t2 (sb.trans sb2) R2 (pm2.trans pm))
      rcases R.tab.mok with (e | e | e) | e
      · have e2 : L.length = 4 := by omega
        exact go 31 (by rw [e2, size_20]) (.inl (.inr (.inl rfl))) (by omega) (by omega)
      · have e2 : L.length = 18 := by omega
        exact go 127 (by rw [e2, size_76]) (.inl (.inr (.inr rfl))) (by omega) (by omega)
      · have e2 : L.length = 76 := by omega
        exact go 511 (by rw [e2, size_308]) (.inr rfl) (by omega) (by omega)
      · omega
    · have nf : ¬ L1.length * 5 ≥ t1.mask * 3 := fun z => hf (by unfold SetTable.tooFull; rw [decide_eq_true_eq, f1]; exact z)
      first
        | refine wp_if_neg (by simp [hf]) ?_
        | (refine wpAny_bind ?_; refine wp_if_neg (by simp [hf]) ?_; refine wpAny_pure ?_)
      exact wpAny_pure (q g1 L1 es1 (ep + 1) t1 sb ⟨⟨_, ho1, ex1, rfl⟩, rw1, T1, tup1, p1, by omega⟩ pm)) 100000 0 none (by rfl) (Nat.zero_le _) (by omega))
/-- of different tuples ks the first i are in -/
def Inn (ks : List (Addr × List Int)) (i : Nat) (L : List (Addr × List Int)) : Prop := L.Perm (ks.take i)
theorem SetD.keep {h h' : Heap} (R : SetD P w h a L es ep t) (ha : ∀ o, h.get? a = some o → h'.get? a = some o) (ht : ∀ p ∈ L, IsT P w h' p.2 p.1) : SetD P w h' a L es ep t := by
  obtain ⟨o, ho, r⟩ := R.ob
  exact ⟨⟨o, ha o ho, r⟩, R.rows, R.tab, ht, R.flags, R.room⟩
/-- the object that set() lays first -/
abbrev emp (w : World) : Obj := { cls := .type "set", dict := none, data := .set #[] 0 (.fresh 0 0 (!w.params.followText "set-order")) }
theorem setD_emp {h : Heap} (ho : h.get? a = some (emp w)) : SetD P w h a [] #[] 0 (.fresh 0 0 (!w.params.followText "set-order")) :=
  ⟨⟨_, ho, ⟨rfl, rfl, rfl⟩, rfl⟩, rfl, ⟨List.Pairwise.nil, rfl, rfl, .inl (.inl rfl), fun x hx => (by cases hx)⟩, fun p hp => (by cases hp), ⟨rfl, (by
    show _ ∨ (!w.params.followText "set-order") = true
    cases w.params.followText "set-order" <;> first | exact .inr rfl | exact .inl rfl)⟩, (by decide : 0 * 5 < 7 * 3)⟩
theorem loop_new {I : Addr} {fp wr : List Addr} {G : Array GenState → Array GenState → Prop} {n : Nat} {Pv : Nat → Value → Prop} {St : Nat → Shared → Prop} {R : Result → Shared → Prop}
    (W : WalksS P w A.in1 I fp wr G n Pv St) (S : Addr) (hSf : S ∉ fp) (ks : List (Addr × List Int)) (hn : n = ks.length) (few : ks.length ≤ 200) (nd : (ks.map (·.2)).Nodup) (val : ∀ i v, Pv i v → ∃ p, ks[i]? = some p ∧ v = .ref p.1)
    (h0 : Heap) (hk : ∀ p ∈ ks, IsT P w h0 p.2 p.1) (hS0 : h0.get? S = none) (hw0 : ∀ b ∈ wr, h0.get? b = none) (hu : A.in1.units < cLine)
    (fin : ∀ s L es ep t, SetD P w s.heap S L es ep t → Inn ks n L → R (.ok (.ret .none)) s → True) :
    ∀ (k i : Nat) (s : Shared), n - i = k → i ≤ n → St i s → (∀ b o, h0.get? b = some o → s.heap.get? b = some o) → (∃ L es ep t, SetD P w s.heap S L es ep t ∧ Inn ks i L) →
      (∀ s' L es ep t, Moved (S :: wr) G s s' → SetD P w s'.heap S L es ep t → Inn ks n L → (∀ b o, h0.get? b = some o → s'.heap.get? b = some o) → R (.ok (.ret .none)) s') →
      codeAny (model P w) A (.builtin "set.update.loop" ⟨[.ref S, .ref I], []⟩) R s := by
  have hSw : S ∉ wr := fun h => hSf (W.sub _ h)
  have up : ∀ b ∈ wr, b ∈ S :: wr := fun b hb => List.mem_cons_of_mem _ hb
  have kp : ∀ {s s' : Shared}, Moved wr G s s' → (∀ b o, h0.get? b = some o → s.heap.get? b = some o) → ∀ b o, h0.get? b = some o → s'.heap.get? b = some o := fun m q b o e =>
    m.heap b o (fun hb => nomatch (hw0 b hb).symm.trans e) (q b o e)
  intro k
  induction k with
  | zero =>
    intro i s hi1 hi2 hst q ⟨L, es, ep, t, D, g⟩ hR
    obtain rfl : i = n := by omega
    refine codeAny_builtin F.entry_set_update_loop (by
      rw [Around.under_plainId F.plain_set_update_loop _]
      show wpAny _ A.in1 (pyNext (.ref I) >>= _) _ _ s
      refine wpAny_bind (W.done s _ _ hst fun s' m => ?_)
      have q' := kp m q
      have D' := SetD.keep D (fun o e => m.heap S o hSw e) fun p hp => isT_keep (hk p (List.mem_of_mem_take (g.mem_iff.mp hp))) q'
      show wpAny _ A.in1 (ret Value.none) _ _ s'
      exact wpAny_pure (hR s' L es ep t (m.mono up) D' g q'))
  | succ k ih =>
    intro i s hi1 hi2 hst q ⟨L, es, ep, t, D, g⟩ hR
    have lt : i < n := by omega
    refine codeAny_builtin F.entry_set_update_loop (by
      rw [Around.under_plainId F.plain_set_update_loop _]
      show wpAny _ A.in1 (pyNext (.ref I) >>= _) _ _ s
      refine wpAny_bind (W.item i s _ _ lt hst fun v s' hP hst' m => ?_)
      obtain ⟨p, hp, rfl⟩ := val i v hP
      have q' := kp m q
      have D' := SetD.keep D (fun o e => m.heap S o hSw e) fun p hp => isT_keep (hk p (List.mem_of_mem_take (g.mem_iff.mp hp))) q'
      have hx : IsT P w s'.heap p.2 p.1 := isT_keep (hk p (List.mem_of_getElem? hp)) q'
      have hil : i < ks.length := by omega
      have ep' : ks[i] = p := by rw [List.getElem?_eq_getElem hil] at hp; exact Option.some.inj hp
      have new : p.2 ∉ L.map (·.2) := fun z => by
        obtain ⟨r, hr, er⟩ := List.mem_map.mp z
        obtain ⟨j, hj, ej⟩ := List.getElem_of_mem (g.mem_iff.mp hr)
        rw [List.length_take] at hj
        rw [List.getElem_take] at ej
        have hjl : j < (ks.map (·.2)).length := by rw [List.length_map]; omega
        have hil2 : i < (ks.map (·.2)).length := by rw [List.length_map]; omega
        exact List.pairwise_iff_getElem.mp nd j i hjl hil2 (by omega) (by rw [List.getElem_map, List.getElem_map, ej, ep', er])
      have ll : L.length < 200 := by rw [g.length_eq, List.length_take]; omega
      show wpAny _ A.in1 (holding [Value.ref p.1] (setAdd S (.ref p.1)) >>= _) _ _ s'
      refine wpAny_bind (wpAny_holding (by
        unfold setAdd
        refine wpAny_holding (wpAny_bind (wpAny_pyHash_tuple hu hx ?_))
        refine add_new (s := { s' with toks := s'.toks + (p.2.length + 1) }) D' hx hu new ll fun h' L' es' ep' t' sb D2 pm => ?_
        have g' : Inn ks (i + 1) L' := by
          unfold Inn
          rw [List.take_succ, hp]
          exact pm.trans ((List.Perm.cons _ g).trans (List.perm_append_singleton _ _).symm)
        have q2 : ∀ b o, h0.get? b = some o → h'.get? b = some o := fun b o e => (sb.2 b (fun z => nomatch (z ▸ hS0).symm.trans e)).trans (q' b o e)
        refine wpAny_pure ⟨plainId_quiet F.plain_set_update_loop _, ih (i + 1) _ (by omega) lt (W.frame _ s' _ _ hst' (Nat.le_add_right _ _) fun b hb o e => ?_) q2 ⟨L', es', ep', t', D2, g'⟩ fun s2 L2 es2 ep2 t2 m2 D3 g3 q3 => ?_⟩
        · exact (sb.2 b fun z => hSf (z ▸ hb)).trans e
        · refine hR s2 L2 es2 ep2 t2 (Moved.trans W.gtrans ((m.mono up).then_heap (Nat.le_add_right _ _) fun b o hb e => ?_) m2) D3 g3 q3
          exact (sb.2 b fun z => hb (z ▸ List.mem_cons_self)).trans e)))
set_option maxHeartbeats 6400000 in
/-- set(xs) -/
theorem call_set_new {l : Addr} {its : Array Value} (ks : List (Addr × List Int)) {Q : Value → Shared → Prop} (calm : A.handled = none) (hl : s.heap.IsList l its) (hit : its.toList = ks.map fun p => Value.ref p.1)
    (hk : ∀ p ∈ ks, IsT P w s.heap p.2 p.1) (few : ks.length ≤ 200) (nd : (ks.map (·.2)).Nodup) (hu : A.units + 3 < cLine)
    (q : ∀ (g : Heap) (tk : Nat) L es ep t, SetD P w g s.heap.objs.size L es ep t → Inn ks ks.length L → (∀ b o, s.heap.get? b = some o → g.get? b = some o) → Q (.ref s.heap.objs.size) { s with heap := g, toks := tk }) :
    wpAny (model P w) A (call (.type "set") [.ref l]) Q E s := by
  have len : its.size = ks.length := by
    have z := congrArg List.length hit
    rwa [Array.length_toList, List.length_map] at z
  obtain ⟨cc, tt, mro⟩ := F.called_set.mro
  have made := F.called_set.made
  have sub := F.called_set.sub
  refine wpAny_call (codeAny_of_tree (show wpAny _ _ (callAny (.type "set") _) _ _ _ from wpAny_pure ⟨Code.quiet_builtin _ (by decide +kernel), codeAny_builtin F.entry_type_call ?_⟩))
  rw [Around.under_plain (weight_type_call_type "set" [.ref l] []) rfl]
  have n1 := F.called_set.notType
  have n2 := F.called_set.canCreate
  have n3 := F.typeCall_set_1 (.ref l)
  repeat (any_goals (first | assumption | wp_step))
  refine codeAny_mono (code_set_led1 (.ref l) (E := E) (Q₁ := fun obj s1 => obj = .ref s.heap.objs.size ∧ s1 = { s with heap := s.heap.push (emp w) }) ⟨rfl, rfl⟩) fun r s1 hr => ?_
  match r, hr with
  | .error e, hr => exact hr
  | .ok .next, hr => exact hr.elim
  | .ok .brk, hr => exact hr.elim
  | .ok .cont, hr => exact hr.elim
  | .ok (.ret obj), ⟨eo, es⟩ =>
    subst eo es
    have hS : (s.heap.push (emp w)).get? s.heap.objs.size = some (emp w) := Heap.get?_push_size _ rfl
    have hT : Shared.TypeIs { s with heap := s.heap.push (emp w) } (.ref s.heap.objs.size) "set" := ⟨_, hS, rfl⟩
    have look := F.called_set.init.lookup
    have bind := F.called_set.init.bind (.ref s.heap.objs.size)
    repeat (any_goals (first | assumption | wp_step))
    refine codeAny_mono (codeAny_call_builtin (R := wants (fun r s2 => r = .none ∧ ∃ g tk L es ep t, s2 = { s with heap := g, toks := tk } ∧ SetD P w g s.heap.objs.size L es ep t ∧ Inn ks ks.length L ∧ (∀ b o, s.heap.get? b = some o → g.get? b = some o)) E)
      F.called_set.init.plain F.entry_set_init (check_set_init_1 hT ?_)) fun r2 s2 hr2 => ?_
    · obtain ⟨ol, hol, hcl, hne, hdl⟩ := hl
      obtain ⟨ocls, odict, odata, oslots⟩ := ol
      simp only at hcl hdl
      subst hcl; subst hdl
      have old : l < s.heap.objs.size := Heap.lt_size hol
      have hol2 := Heap.get?_push_of_some (emp w) hol
      have isub := F.sub_list_set
      have isubf := F.sub_list_frozenset
      have ned : (Value.type "list" == Value.type "dict") = false := by decide
      have hl1 : (s.heap.push (emp w)).IsList l its := ⟨_, hol2, rfl, hne, rfl⟩
      unfold Builtin.«set.__init__» noKeywords Builtin.Frozenset.updateFrom
      generalize hPI : pyIter = PI
      wp_walk
      subst hPI
      refine wpAny_pyIter_list hl1 (wpAny_bind (wpAny_runValue ?_))
      have calm3 : A.in1.in1.in1.handled = none := by simp [calm]
      have z1 : (s.heap.push (emp w)).objs.size = s.heap.objs.size + 1 := Heap.size_push ..
      have off : l ≠ (s.heap.push (emp w)).objs.size := by rw [z1]; exact Nat.ne_of_lt (Nat.lt_succ_of_lt old)
      have offS : s.heap.objs.size ∉ [(s.heap.push (emp w)).objs.size, l] := fun z => by
        rw [z1] at z
        rcases List.mem_cons.mp z with z | z
        · exact absurd z (Nat.ne_of_lt (Nat.lt_succ_self _))
        · exact absurd (List.mem_singleton.mp z).symm (Nat.ne_of_lt old)
      have none_of : ∀ b, s.heap.objs.size ≤ b → s.heap.get? b = none := fun b hb => by
        cases z : s.heap.get? b with
        | none => rfl
        | some o => exact absurd (Nat.lt_of_lt_of_le (Heap.lt_size z) hb) (Nat.lt_irrefl _)
      have val : ∀ (i : Nat) (v : Value), its[i]? = some v → ∃ p, ks[i]? = some p ∧ v = .ref p.1 := fun i v hv => by
        rw [← Array.getElem?_toList, hit, List.getElem?_map] at hv
        obtain ⟨p, hp, e⟩ := Option.map_eq_some_iff.mp hv
        exact ⟨p, hp, e.symm⟩
      refine loop_new ((Walks.list calm3 _ l off its).toS) s.heap.objs.size offS ks len few nd val s.heap hk (none_of _ (Nat.le_refl _)) (fun b hb => none_of b (by rw [List.mem_singleton.mp hb, z1]; exact Nat.le_succ _)) hu (fun _ _ _ _ _ _ _ _ => trivial) (its.size - 0) 0 _ (by omega) (Nat.zero_le _)
        ⟨⟨_, Heap.get?_push_size _ rfl, rfl, rfl⟩, (hl1.push _)⟩ (fun b o e => Heap.get?_push_of_some _ (Heap.get?_push_of_some _ e)) ⟨[], #[], 0, _, setD_emp (Heap.get?_push_of_some _ hS), List.Perm.refl _⟩ ?_
      intro s' L es ep t m D g kp
      obtain ⟨h', g2, d2, tk, os2⟩ := s'
      have e1 : g2 = s.gens := m.gens
      have e2 : d2 = s.drawn := m.drawn
      have e3 : os2 = s.os := m.os
      subst e1; subst e2; subst e3
      rw [len] at g
      show wpAny _ _ _ _ _ _
      refine wpAny_pure (show wpAny _ _ (ret Value.none) _ _ _ from wpAny_pure ⟨rfl, h', tk, L, es, ep, t, rfl, D, g, kp⟩)
    · match r2, hr2 with
      | .error e, hr2 => exact hr2
      | .ok .next, hr2 => exact hr2.elim
      | .ok .brk, hr2 => exact hr2.elim
      | .ok .cont, hr2 => exact hr2.elim
      | .ok (.ret r), ⟨er, g, tk, L, es, ep, t, ez, D, i, keep⟩ =>
        subst er ez
        repeat (any_goals (first | assumption | wp_step))
        exact q _ _ _ _ _ _ D i keep
end
section
variable {X : Cx}
/-- len(set(xs)), the tuples of xs all different -/
def tLenSet (K : PySem.W.Frag) (ta : TE) : TE := fun σ H Q => ta σ H fun x H1 => ∃ (l : Addr) (ks : List (Addr × List Int)), x = V.ref l ∧ SqL K H1 l (ks.map fun p => V.ref p.1) ∧ (∀ p ∈ ks, SqT K H1 p.1 (p.2.map V.int)) ∧ ks.length ≤ 200 ∧ (ks.map (·.2)).Nodup ∧ Q (.int ks.length) H1
theorem pe_lenSet {e : Expr} {ta : TE} {p p2 r pos : Pos} (hc : X.calm = true) (hu : X.A.units + 64 < cLine) (hg : Gl X "len") (hm : X.mg "len" = none) (hg2 : Gl X "set") (hm2 : X.mg "set" = none) (ha : PE X e ta)
    (na : starEach [e] X.env = (false, eval e X.env) :: starEach [] X.env := by rfl) : PE X (.Call (.Name "len" p) [.Call (.Name "set" p2) [e] [] r] [] pos) (tLenSet X.K ta) := by
  refine ⟨fun pins s σ H Q I h => Call_ (ld_blt I hg hm PySem.boot_len (callWith_builtin1 (args_cons (Call_ (ld_blt I hg2 hm2 boot_set (callWith_type1 (args_cons (thn (ha.run pins s σ H _ I h) fun v s1 ⟨x, H1, I1, r1, q1⟩ => args_nil ?_) na) na rfl))) rfl) rfl rfl))⟩
  obtain ⟨l, ks, rfl, hq, hk, few, nd, q1⟩ := q1
  cases r1
  obtain ⟨its, rv, pl, hz⟩ := I1.list hq
  refine call_set_new (P := X.prog) (w := X.w) ks (I1.ok.hd hc) pl.isList (by simpa using refs_of_vals rv) (fun p hp => I1.isT (hk p hp)) few nd (by omega) fun g tk L es ep t D i kp => args_nil ?_
  obtain ⟨o, ho, hex, hd⟩ := D.ob
  have z : es.size = ks.length := by rw [rows_len D.rows, List.Perm.length_eq i, List.take_length]
  have I2 : Inv X pins σ H1 { s1 with heap := g, toks := tk } := I1.kept fun b o e => kp b o e
  refine call_len_set ho hex hd (SetD.fits (s := { s1 with heap := g }) D) (by rw [z]; omega) ⟨.int ks.length, H1, I2.tok _, ⟨_, by rw [z]⟩, q1⟩
end
end S5

/-! Arrows; a web. -/
namespace Fam
open PySem L2 S5
open C8 (pss_cut tCut)
theorem Al.perm {α : Type} {R : V → α → Prop} {xs ys : List V} (p : xs.Perm ys) : ∀ {as : List α}, Al R xs as → ∃ bs, as.Perm bs ∧ Al R ys bs := by
  induction p with
  | nil => exact fun {as} h => ⟨as, .refl _, h⟩
  | cons x _ ih =>
    intro as h
    match as, h with
    | a :: as, ⟨h1, h2⟩ =>
      obtain ⟨bs, q, h3⟩ := ih h2
      exact ⟨a :: bs, q.cons a, h1, h3⟩
  | swap x y l =>
    intro as h
    match as, h with
    | a :: b :: as, ⟨h1, h2, h3⟩ => exact ⟨b :: a :: as, .swap _ _ _, h2, h1, h3⟩
  | trans _ _ i1 i2 =>
    intro as h
    obtain ⟨bs, q1, h1⟩ := i1 h
    obtain ⟨cs, q2, h2⟩ := i2 h1
    exact ⟨cs, q1.trans q2, h2⟩
theorem Al.pairwise {α : Type} {R : V → α → Prop} {S : V → V → Prop} {U : α → α → Prop} (f : ∀ x y a b, R x a → R y b → S x y → U a b) : ∀ {xs : List V} {as : List α}, xs.Pairwise S → Al R xs as → as.Pairwise U
  | [], [], _, _ => .nil
  | x :: xs, a :: as, p, ⟨h1, h2⟩ => by
    obtain ⟨p1, p2⟩ := List.pairwise_cons.mp p
    refine List.pairwise_cons.mpr ⟨fun b hb => ?_, Al.pairwise f p2 h2⟩
    obtain ⟨j, hj⟩ := List.getElem?_of_mem hb
    obtain ⟨y, hy, hr⟩ := h2.get2 hj
    exact f _ _ _ _ h1 hr (p1 y (List.mem_of_getElem? hy))
  | [], _ :: _, _, h => h.elim
  | _ :: _, [], _, h => h.elim
theorem vI (l : List Nat) : l.map vInt = (l.map fun (n : Nat) => (n : Int)).map V.int := by
  rw [List.map_map]
  rfl
/-- tuples of numbers beside their numbers -/
theorem Al.refs {H : Hp} : ∀ {xs : List V} {ls : List (List Nat)}, Al (PlacesAt H) xs ls → ∃ ks : List (Addr × List Int), xs = ks.map (fun p => V.ref p.1) ∧ ks.map (·.2) = ls.map (fun l => l.map fun (n : Nat) => (n : Int)) ∧ ∀ p ∈ ks, H p.1 = some (.tup (p.2.map V.int))
  | [], [], _ => ⟨[], rfl, rfl, fun p h => (by cases h)⟩
  | _ :: xs, l :: ls, ⟨⟨p, rfl, hp⟩, h2⟩ => by
    obtain ⟨ks, e1, e2, e3⟩ := Al.refs h2
    refine ⟨(p, l.map fun (n : Nat) => (n : Int)) :: ks, by rw [e1]; rfl, by rw [List.map_cons, e2]; rfl, fun q hq => ?_⟩
    rcases List.mem_cons.mp hq with e | hq
    · subst e
      rw [hp, vI]
    · exact e3 q hq
  | [], _ :: _, h => h.elim
  | _ :: _, [], h => h.elim
def intOf : V → Int
  | .int i => i
  | _ => 0
def kOf (H : Hp) (t : Addr) : List Int := match H t with
  | some (.tup xs) => xs.map intOf
  | _ => []
theorem kOf_eq {H : Hp} {t : Addr} {ns : List Int} (h : H t = some (.tup (ns.map V.int))) : kOf H t = ns := by
  unfold kOf
  rw [h]
  show (ns.map V.int).map intOf = ns
  rw [List.map_map]
  exact List.map_id' ns
abbrev Arr := Nat × Nat
def prL (a : Arr) : List Nat := [a.1, a.2]
def PairAt (H : Hp) (v : V) (a : Arr) : Prop := PlacesAt H v (prL a)
theorem PairAt.tups {H H' : Hp} (k : Tups H H') {v : V} {a : Arr} (h : PairAt H v a) : PairAt H' v a := PlacesAt.tups k h
theorem Al.prs {H : Hp} : ∀ {xs : List V} {as : List Arr}, Al (PairAt H) xs as → Al (PlacesAt H) xs (as.map prL)
  | [], [], _ => trivial
  | _ :: _, _ :: _, ⟨h1, h2⟩ => ⟨h1, h2.prs⟩
  | [], _ :: _, h => h.elim
  | _ :: _, [], h => h.elim
def plt (a b : Arr) : Prop := a.1 < b.1 ∨ a.1 = b.1 ∧ a.2 < b.2
theorem plt_lex (a b : Arr) : HT.lexLt ((prL a).map fun (n : Nat) => (n : Int)) ((prL b).map fun (n : Nat) => (n : Int)) = true ↔ plt a b := by
  obtain ⟨a1, a2⟩ := a
  obtain ⟨b1, b2⟩ := b
  show HT.lexLt [(a1 : Int), (a2 : Int)] [(b1 : Int), (b2 : Int)] = true ↔ (a1 < b1 ∨ a1 = b1 ∧ a2 < b2)
  rw [HT.lexLt_cons]
  by_cases e : (a1 : Int) = b1
  · rw [if_pos e, HT.lexLt_cons]
    by_cases e2 : (a2 : Int) = b2
    · rw [if_pos e2]
      constructor
      · intro z
        cases z
      · omega
    · rw [if_neg e2, decide_eq_true_eq]
      omega
  · rw [if_neg e, decide_eq_true_eq]
    omega
theorem plt_tri (a b : Arr) : plt a b ∨ a = b ∨ plt b a := by
  obtain ⟨a1, a2⟩ := a
  obtain ⟨b1, b2⟩ := b
  show (a1 < b1 ∨ a1 = b1 ∧ a2 < b2) ∨ (a1, a2) = (b1, b2) ∨ (b1 < a1 ∨ b1 = a1 ∧ b2 < a2)
  rcases Nat.lt_trichotomy a1 b1 with h | h | h
  · exact .inl (.inl h)
  · rcases Nat.lt_trichotomy a2 b2 with g | g | g
    · exact .inl (.inr ⟨h, g⟩)
    · exact .inr (.inl (by rw [h, g]))
    · exact .inr (.inr (.inr ⟨h.symm, g⟩))
  · exact .inr (.inr (.inl h))
theorem plt_not {a b : Arr} (h : plt a b) : ¬ plt b a := by
  unfold plt at *
  omega
theorem arr_uniq {a b : List Arr} (p : a.Perm b) (ha : a.Pairwise plt) (hb : b.Pairwise plt) : a = b := List.Perm.eq_of_pairwise (fun x y _ _ h1 h2 => absurd h2 (plt_not h1)) ha hb p
def goalsAt (ar : List Arr) (i : Nat) : List Nat := (ar.filter fun a => a.1 == i).map (·.2)
theorem goalsAt_snoc (ar : List Arr) (a : Arr) (i : Nat) : goalsAt (ar ++ [a]) i = if a.1 = i then goalsAt ar i ++ [a.2] else goalsAt ar i := by
  unfold goalsAt
  rw [List.filter_append, List.map_append]
  by_cases e : a.1 = i
  · rw [if_pos e, List.filter_cons_of_pos (by rw [beq_iff_eq]; exact e)]
    rfl
  · rw [if_neg e, List.filter_cons_of_neg (by rw [beq_iff_eq]; exact e), List.filter_nil, List.map_nil, List.append_nil]
/-- the rows of goals, each a list of its own -/
def GoalsAt (H : Hp) (rs : List Addr) (ar : List Arr) : Prop := rs.Nodup ∧ ∀ (i : Nat) (r : Addr), rs[i]? = some r → H r = some (.lst ((goalsAt ar i).map vInt))
theorem GoalsAt.same {H H' : Hp} {rs : List Addr} {ar : List Arr} (h : GoalsAt H rs ar) (s : Same H H') : GoalsAt H' rs ar := ⟨h.1, fun i r e => s _ _ (h.2 i r e)⟩
theorem GoalsAt.put {H : Hp} {rs : List Addr} {ar : List Arr} {a : Arr} {r : Addr} (h : GoalsAt H rs ar) (e : rs[a.1]? = some r) : GoalsAt (upd H r (.lst ((goalsAt ar a.1).map vInt ++ [vInt a.2]))) rs (ar ++ [a]) := by
  refine ⟨h.1, fun j q ej => ?_⟩
  rw [goalsAt_snoc]
  by_cases z : a.1 = j
  · subst z
    rw [e] at ej
    cases ej
    rw [upd_same, if_pos rfl, List.map_append]
    rfl
  · have ne : q ≠ r := fun x => by
      subst x
      obtain ⟨h1, e1⟩ := List.getElem?_eq_some_iff.mp ej
      obtain ⟨h2, e2⟩ := List.getElem?_eq_some_iff.mp e
      exact z ((List.getElem_inj h.1).mp (e1.trans e2.symm)).symm
    rw [upd_ne ne, h.2 j q ej, if_neg z]
def GoodArr (n : Nat) (as : List Arr) : Prop := (∀ a ∈ as, a.1 < n ∧ a.2 < n ∧ a.1 ≠ a.2) ∧ as.Nodup
theorem good_len {n : Nat} {as : List Arr} (h : GoodArr n as) (hn : n ≤ 12) : as.length ≤ 200 := by
  have q := nodup_len (n * 12) (as.map fun a => a.1 * 12 + a.2) (List.pairwise_map.mpr ((List.Pairwise.and_mem.mp h.2).imp fun {a b} ⟨ha, hb, ne⟩ e => ne (by
    obtain ⟨a1, a2, _⟩ := h.1 a ha
    obtain ⟨b1, b2, _⟩ := h.1 b hb
    exact Prod.ext (by omega) (by omega)))) fun m hm => by
      obtain ⟨a, ha, rfl⟩ := List.mem_map.mp hm
      obtain ⟨a1, a2, _⟩ := h.1 a ha
      omega
  rw [List.length_map] at q
  omega
def NoW (fs : List (Str × V)) : Prop := ∀ g : Str, g ≠ "size" → g ≠ "arrows" → g ≠ "_goals" → fs.lookup g = none
/-- the web of n places with the arrows ar, ascending, stands at x -/
structure WAt (C : Addr) (H : Hp) (x : Addr) (n : Nat) (ar : List Arr) : Prop where
  ex : ∃ (dx l g : Addr) (fs : List (Str × V)) (ts gs : List V), H x = some (.ins C dx fs) ∧ fs.lookup ("size" : Str) = some (vInt n) ∧ fs.lookup ("arrows" : Str) = some (.ref l) ∧ fs.lookup ("_goals" : Str) = some (.ref g) ∧ NoW fs ∧
    H l = some (.tup ts) ∧ Al (PairAt H) ts ar ∧ H g = some (.tup gs) ∧ Al (PlacesAt H) gs ((List.range n).map (goalsAt ar))
  good : GoodArr n ar
  asc : ar.Pairwise plt
  n1 : 1 ≤ n
  n2 : n ≤ 12
theorem WAt.same {C : Addr} {H H' : Hp} {x : Addr} {n : Nat} {ar : List Arr} (h : WAt C H x n ar) (s : Same H H') : WAt C H' x n ar := by
  obtain ⟨⟨dx, l, g, fs, ts, gs, a1, a2, a3, a4, a5, a6, a7, a8, a9⟩, r1, r2, r3, r4⟩ := h
  exact ⟨⟨dx, l, g, fs, ts, gs, s _ _ a1, a2, a3, a4, a5, s _ _ a6, a7.imp fun _ _ h => h.tups (Tups.of s), s _ _ a8, a9.imp fun _ _ h => h.tups (Tups.of s)⟩, r1, r2, r3, r4⟩
structure WebC (K : PySem.W.Frag) (C : Addr) : Prop where
  cl : Cls K C
  size : NoAttr K C "size"
  arrows : NoAttr K C "arrows"
  goals : NoAttr K C "_goals"
def spAreArrows (K : PySem.W.Frag) : Sp := fun vs H Q _ => ∃ (p : Addr) (xs : List V) (as : List Arr) (n : Nat), vs = [.ref p, vInt n] ∧ SqL K H p xs ∧ Al (PairAt H) xs as ∧ GoodArr n as ∧ as.length ≤ 200 ∧ ∀ H', Same H H' → Q (.bl true) H'
def spWebInit (K : PySem.W.Frag) (C : Addr) : Sp := fun vs H Q _ => ∃ (x dx p : Addr) (xs : List V) (as : List Arr) (n : Nat), vs = [.ref x, vInt n, .ref p] ∧ H x = some (.ins C dx []) ∧ H dx = some (.own x) ∧ H p = some (.lst xs) ∧ Al (PairAt H) xs as ∧ GoodArr n as ∧ 1 ≤ n ∧ n ≤ 12 ∧
  ∀ (H' : Hp) (ar : List Arr), (∀ b o, b ≠ x → b ≠ dx → H b = some o → H' b = some o) → ar.Perm as → WAt C H' x n ar → Q .non H'
section
variable {P : Program} {w : World} {K : PySem.W.Frag} {mg : Str → Option Value} {base : Heap} {C : Addr}
abbrev nAA : List Str := ["value", "size", "arrow"]
theorem scAA : FnScope nAA ["value", "size"] (defScope sAreArrows) := ⟨rfl, rfl, rfl, by decide +kernel, rfl, by decide +kernel, by decide +kernel⟩
theorem ok_are_arrows {f : Addr} {fd : FuncData} (F : Fun K "are_arrows" "are_arrows" sAreArrows f fd) (T : Bare mg) (T2 : Bare2 mg) (GB : Cal P w K mg base 2 "is_between" ["value", "low", "high"] (spBetweenD K)) : FnOk P w K mg base CX0 3 f fd ["value", "size"] (spAreArrows K) := by
  obtain ⟨_, _, ok_bt, b_bt, k_bt, m_bt⟩ := GB.ex
  refine F.ok scAA (fun vs H Q E h => ?_) (fun cdv A outer s H vs Q E hr h => ?_)
  · obtain ⟨p, xs, as, n, rfl, _⟩ := h
    rfl
  · obtain ⟨p, xs, as, n, rfl, hp, hA, hg, hl, k⟩ := h
    have hr_bt := hr
    refine ⟨_, (pss_cons (ps_if (pt_not (pt_val (pe_callB call_isiT (by rfl) T.isi (by decide +kernel) (pa_cons (pv 0) (pa_cons (pe_tup (pa_cons (pe_ty (n := "list") (by rfl) T.list (by decide +kernel)) (pa_cons (pe_ty (n := "tuple") (by rfl) T.tuple (by decide +kernel)) pa_nil))) pa_nil))))) (pss_one (ps_ret pe_bl)) pss_nil)
      (pss_cons (ps_for PassesOwn.never rfl (pi_list (pv 0)) (pg_name (i := 2) scAA.nd rfl (Or.inl rfl))
          (pss_cons (ps_if (PW.pt (pw_or (pt_not (pt_val (pe_callB call_isi (by rfl) T.isi (by decide +kernel) (pa_cons (pv 2) (pa_cons (pe_ty (n := "tuple") (by rfl) T.tuple (by decide +kernel)) pa_nil))))) (pw_or1 (pt_cmpR op_ne (pe_callB call_len_seq (by rfl) T.len PySem.boot_len (pa_cons (pv 2) pa_nil)) pe_int (nomark _))))) (pss_one (ps_ret pe_bl)) pss_nil)
          (pss_cons (ps_if (PW.pt (pw_or (pt_not (pt_val (pe_call ok_bt hr_bt rfl m_bt k_bt b_bt .nil pass0 (pa_cons (pe_ix ix_tup (pv 2) pe_int (fun _ _ => rfl)) (pa_cons pe_int (pa_cons (pe_op op_sub (pv 1) pe_int) pa_nil)))))) (pw_or1 (pt_not (pt_val (pe_call ok_bt hr_bt rfl m_bt k_bt b_bt .nil pass0 (pa_cons (pe_ix ix_tup (pv 2) pe_int (fun _ _ => rfl)) (pa_cons pe_int (pa_cons (pe_op op_sub (pv 1) pe_int) pa_nil))))))))) (pss_one (ps_ret pe_bl)) pss_nil)
          (pss_one (ps_if (pt_cmpR op_eq (pe_ix ix_tup (pv 2) pe_int (fun _ _ => rfl)) (pe_ix ix_tup (pv 2) pe_int (fun _ _ => rfl)) (nomark _)) (pss_one (ps_ret pe_bl)) pss_nil)))))
      (pss_one (ps_ret (pe_cmpR op_eq (pe_lenSet (by rfl) hr.units (by rfl) T.len (by rfl) T2.set (pv 0)) (pe_callB call_len_seq (by rfl) T.len PySem.boot_len (pa_cons (pv 0) pa_nil)) (nomark _)))))), ?_⟩
    refine ⟨_, rfl, (by show 2 ≤ sizeLine; exact small (m := 2) (Nat.le_refl _)), fun t ht => ?_⟩
    have s1 : Same H (upd H t (.tup [.ty "list", .ty "tuple"])) := same_new ht
    obtain ⟨ty, hty, hany⟩ := isi_row (.inl (s1.seq hp))
    refine ⟨_, t, _, _, _, true, rfl, upd_same, .cons (.ty _) (.cons (.ty _) .nil), hty, hany, _, rfl, iteF ?_⟩
    have hA1 := hA.imp fun _ _ h => h.tups (Tups.of s1)
    refine ⟨_, rfl, p, rfl, ⟨_, s1.seq hp⟩, for_list (xs := xs) (fun i σ H' => H' = upd H t (.tup [.ty "list", .ty "tuple"]) ∧ ∃ y2, σ = [some (.ref p), some (vInt n), y2]) ⟨rfl, none, rfl⟩ (fun i σ H' _ h => by rw [h.1]; exact s1.seq hp) ?_ ?_⟩
    · rintro i x σ H1 hx ⟨rfl, y2, rfl⟩
      obtain ⟨a, ha, hxa⟩ := hA1.get hx
      obtain ⟨q, rfl, hq⟩ := hxa
      obtain ⟨g1, g2, g3⟩ := hg.1 a (List.mem_of_getElem? ha)
      have b1 : betD (.int (a.1 : Int)) 0 ((n : Int) - 1) = true := decide_eq_true ⟨by omega, by omega⟩
      have b2 : betD (.int (a.2 : Int)) 0 ((n : Int) - 1) = true := decide_eq_true ⟨by omega, by omega⟩
      refine ⟨_, rfl, _, _, _, _, true, rfl, .ty _, .base (.tup hq), kit_ty (by decide +kernel), _, rfl, iteF ⟨_, rfl, q, _, rfl, .inr (SqT.of hq), rfl, _, rfl, iteF ?_⟩⟩
      refine ⟨_, rfl, q, _, _, vInt a.1, rfl, rfl, SqT.of hq, atI_nat (j := 0) rfl, _, rfl, _, _, rfl, rfl, vInt a.1, .int a.1, 0, _, rfl, .int _, _, rfl, ?_⟩
      rw [b1]
      refine iteF ⟨_, rfl, q, _, _, vInt a.2, rfl, rfl, SqT.of hq, atI_nat (j := 1) rfl, _, rfl, _, _, rfl, rfl, vInt a.2, .int a.2, 0, _, rfl, .int _, _, rfl, ?_⟩
      rw [b2]
      refine iteF ⟨_, rfl, q, _, _, vInt a.1, rfl, rfl, SqT.of hq, atI_nat (j := 0) rfl, _, rfl, q, _, _, vInt a.2, rfl, rfl, SqT.of hq, atI_nat (j := 1) rfl, rfl, _, rfl, ?_⟩
      rw [dec_nat, decide_eq_false g3]
      exact iteF ⟨rfl, _, rfl⟩
    · rintro σ H1 ⟨rfl, y2, rfl⟩
      obtain ⟨ks, e1, e2, e3⟩ := hA1.prs.refs
      have lk : ks.length = xs.length := by rw [e1, List.length_map]
      have la := hA.len
      refine ⟨_, rfl, p, ks, rfl, by rw [← e1]; exact s1.seq hp, fun q hq => SqT.of (e3 q hq), by omega, ?_, _, rfl, p, xs, rfl, .inl (s1.seq hp), rfl, ?_⟩
      · rw [e2, List.map_map]
        refine List.pairwise_map.mpr (hg.2.imp fun {a b} ne e => ne ?_)
        have e' : [(a.1 : Int), (a.2 : Int)] = [(b.1 : Int), (b.2 : Int)] := e
        injection e' with h1 h2
        injection h2 with h2 _
        exact Prod.ext (Int.ofNat.inj h1) (Int.ofNat.inj h2)
      · have : V.int (ks.length : Int) = V.int (xs.length : Int) := by rw [lk]
        rw [this, decide_eq_true rfl]
        exact k _ s1
abbrev nWI : List Str := ["self", "size", "arrows", "goals", "x", "y", "_", "row"]
theorem scWI : FnScope nWI ["self", "size", "arrows"] (defScope sWeb_init) := ⟨rfl, rfl, rfl, by decide +kernel, rfl, by decide +kernel, by decide +kernel⟩
theorem ok_web_init {f : Addr} {fd : FuncData} (F : Fun K "__init__" "Web.__init__" sWeb_init f fd) (T : Bare mg) (WC : WebC K C) (m_MOST_PLACES : ∃ t, mg "MOST_PLACES" = some (.int 200 t)) (GB : Cal P w K mg base 2 "is_between" ["value", "low", "high"] (spBetweenD K))
    (GA : Cal P w K mg base 3 "are_arrows" ["value", "size"] (spAreArrows K)) : FnOk P w K mg base CX0 4 f fd ["self", "size", "arrows"] (spWebInit K C) := by
  obtain ⟨_, _, ok_bt, b_bt, k_bt, m_bt⟩ := GB.ex
  obtain ⟨_, _, ok_aa, b_aa, k_aa, m_aa⟩ := GA.ex
  obtain ⟨tm, m_MOST_PLACES⟩ := m_MOST_PLACES
  refine F.ok scWI (fun vs H Q E h => ?_) (fun cdv A outer s H vs Q E hr h => ?_)
  · obtain ⟨x, dx, p, xs, as, n, rfl, _⟩ := h
    rfl
  · obtain ⟨x, dx, p, xs, as, n, rfl, hx, hdx, hp, hA, hg, h1, h2, k⟩ := h
    have hr_bt := hr.mono (j := 2) (by decide)
    have hr_aa := hr
    have hal := good_len hg h2
    refine ⟨_, (pss_cons (ps_if (pt_not (pt_val (pe_call ok_bt hr_bt rfl m_bt k_bt b_bt .nil pass0 (pa_cons (pv 1) (pa_cons pe_int (pa_cons (pe_glob (v := .int 200) rfl m_MOST_PLACES ⟨_, rfl⟩) pa_nil)))))) (pss_one ps_never) pss_nil)
      (pss_cons (ps_if (pt_not (pt_val (pe_call ok_aa hr_aa rfl m_aa k_aa b_aa .nil pass0 (pa_cons (pv 2) (pa_cons (pv 1) pa_nil))))) (pss_one ps_never) pss_nil)
      (pss_cons (ps_fld (pv 0) (pv 1) rfl)
      (pss_cons (ps_fld (pv 0) (pe_tupleOf rfl T.tuple (pe_callB (cr_sortedTA hr.units) (by rfl) T.sorted (by decide +kernel) (pa_cons (pv 2) pa_nil))) rfl)
      (pss_cons (ps_setLc (i := 3) (own := [("_", 6)]) (g := gName 6) (tt := tYes) (by rfl) scWI.nd rfl rfl (sw_true rfl rfl rfl (by decide +kernel)) (pi_range1 rfl T.range (pa_cons (pv 1) pa_nil)) (blkOk_by (own := [("_", 6)]) (N := nWI) (sc := defScope sWeb_init) (by decide +kernel)) (fun _ _ _ _ _ => pg_name (i := 6) scWI.nd rfl (Or.inl rfl)) (fun _ _ _ _ _ => pts_nil) (fun _ _ _ _ _ => pe_lst pa_nil))
      (pss_cons (ps_for PassesOwn.never rfl (pi_tup (pe_fld (pv 0) rfl)) (pg_tup rfl (pgs_cons (pg_name (i := 4) scWI.nd rfl (Or.inl rfl)) (pgs_cons (pg_name (i := 5) scWI.nd rfl (Or.inl rfl)) pgs_nil)))
          (pss_one (ps_expr (pe_bm PySem.F.plainAttrs_list PySem.F.slot_list_append PySem.F.type_list_append mt_append (pe_ix ix_list (pv 3) (pv 4) (fun _ _ => rfl)) (pa_cons (pv 5) pa_nil)))))
      (pss_one (ps_fld (pv 0) (pe_tupleOf rfl T.tuple (pe_lc (own := [("row", 7)]) (g := gName 7) (tt := tYes) (te := tThen (tVar 7) (kTup K)) rfl scWI.nd (pi_list (pv 3)) (blkOk_by (own := [("row", 7)]) (N := nWI) (sc := defScope sWeb_init) (by decide +kernel)) (fun _ _ _ _ _ => pg_name (i := 7) scWI.nd rfl (Or.inl rfl)) (fun _ _ _ _ _ => pts_nil) (fun _ _ _ _ _ => pe_tupleOf (by rfl) T.tuple (pv 7)))) rfl)))))))), ?_⟩
    have b1 : betD (.int (n : Int)) 1 200 = true := decide_eq_true ⟨by omega, by omega⟩
    refine ⟨_, rfl, vInt n, .int n, 1, 200, rfl, .int _, _, rfl, ?_⟩
    rw [b1]
    refine iteF ⟨_, rfl, _, rfl, p, xs, as, n, rfl, SqL.of hp, hA, hg, hal, fun H1 s1 => ⟨_, rfl, iteF ?_⟩⟩
    have hx1 := s1 _ _ hx
    refine ⟨_, rfl, _, rfl, x, C, dx, _, rfl, hx1, WC.cl, WC.size, (by show 0 < 1000; decide), ?_⟩
    have tu2 : Tups H1 (upd H1 x (.ins C dx (putF "size" (vInt n) []))) := fun q ys e => by
      rw [upd_ne (ne_of e hx1 (by intro z; cases z))]
      exact e
    obtain ⟨ts, e1, e2, e3⟩ := (hA.imp fun _ _ h => h.tups ((Tups.of s1).trans tu2)).prs.refs
    -- self.arrows = tuple(sorted(arrows))
    obtain ⟨ta, eta⟩ : ∃ ta : List Addr, ta = ts.map Prod.fst := ⟨_, rfl⟩
    have exs : xs = ta.map V.ref := by rw [e1, eta, List.map_map]; rfl
    have hp1 := s1 _ _ hp
    have hpx : p ≠ x := ne_of hp1 hx1 (by intro z; cases z)
    have hp2 : SqL K (upd H1 x (.ins C dx (putF "size" (vInt n) []))) p (ta.map V.ref) := by
      rw [← exs]
      exact SqL.of (by rw [upd_ne hpx]; exact hp1)
    have hA2 := hA.imp fun _ _ h => h.tups ((Tups.of s1).trans tu2)
    rw [exs] at hA2
    obtain ⟨H2, eH2⟩ : ∃ H2, H2 = upd H1 x (.ins C dx (putF "size" (vInt n) [])) := ⟨_, rfl⟩
    rw [← eH2] at hp2 e3 tu2 hA2 ⊢
    have hx2 : H2 x = some (.ins C dx (putF "size" (vInt n) [])) := by rw [eH2]; exact upd_same
    refine ⟨_, rfl, p, ta, kOf H2, rfl, hp2, fun t ht => ?_, fun ts' q hts hs hq => .inl ⟨q, _, rfl, SqL.of upd_same, fun l hln => ?_⟩⟩
    · rw [eta] at ht
      obtain ⟨z, hz, rfl⟩ := List.mem_map.mp ht
      rw [kOf_eq (e3 z hz)]
      exact e3 z hz
    obtain ⟨ar, par, hA3⟩ := Al.perm (hts.symm.map V.ref) hA2
    have ndr : ar.Nodup := par.nodup_iff.mp hg.2
    have gr : GoodArr n ar := ⟨fun a ha => hg.1 a (par.mem_iff.mpr ha), ndr⟩
    have srt : ar.Pairwise plt := by
      have w1 : (ts'.map V.ref).Pairwise fun u v => ∀ a b, PairAt H2 u a → PairAt H2 v b → ¬ plt b a := List.pairwise_map.mpr (hs.imp fun {u v} e a b ha hb z => by
        obtain ⟨u', e', hu⟩ := ha
        cases e'
        obtain ⟨v', e', hv⟩ := hb
        cases e'
        rw [vI] at hu hv
        rw [kOf_eq hu, kOf_eq hv] at e
        rw [(plt_lex b a).mpr z] at e
        cases e)
      have w2 : ar.Pairwise fun a b => ¬ plt b a := Al.pairwise (R := PairAt H2) (fun u v a b ha hb f => f a b ha hb) w1 hA3
      refine (List.Pairwise.and w2 ndr).imp fun {a b} ⟨z1, z2⟩ => ?_
      rcases plt_tri a b with z | z | z
      · exact z
      · exact absurd z z2
      · exact absurd z z1
    have s4 := (same_new (o := .lst (ts'.map V.ref)) hq).trans (same_new (o := .tup (ts'.map V.ref)) hln)
    obtain ⟨H4, eH4⟩ : ∃ H4, H4 = upd (upd H2 q (.lst (ts'.map V.ref))) l (.tup (ts'.map V.ref)) := ⟨_, rfl⟩
    rw [← eH4] at s4 ⊢
    have hl4 : H4 l = some (.tup (ts'.map V.ref)) := by rw [eH4]; exact upd_same
    have hx4 := s4 _ _ hx2
    refine ⟨_, rfl, x, C, dx, _, rfl, hx4, WC.cl, WC.arrows, (by show 1 < 1000; decide), ?_⟩
    obtain ⟨H5, eH5⟩ : ∃ H5, H5 = upd H4 x (.ins C dx (putF "arrows" (.ref l) (putF "size" (vInt n) []))) := ⟨_, rfl⟩
    rw [← eH5]
    have tu5 : Tups H4 H5 := fun q ys e => by
      rw [eH5, upd_ne (ne_of e hx4 (by intro z; cases z))]
      exact e
    have hx5 : H5 x = some (.ins C dx (putF "arrows" (.ref l) (putF "size" (vInt n) []))) := by rw [eH5]; exact upd_same
    have hl5 := tu5 _ _ hl4
    have hA5 := hA3.imp fun _ _ h => h.tups ((Tups.of s4).trans tu5)
    -- goals
    refine ⟨_, rfl, _, rfl, by omega, by omega, fun G hG => ?_⟩
    refine lc_range (lo := 0) (n := n) (fun i H' => Same H5 H' ∧ ∃ rs : List Addr, H' G = some (.lst (rs.map V.ref)) ∧ GoalsAt H' rs [] ∧ rs.length = i ∧ (∀ r ∈ rs, H5 r = none) ∧ G ∉ rs) ⟨same_new hG, [], upd_same, ⟨List.nodup_nil, fun i r e => by cases e⟩, rfl, (fun r h => by cases h), (fun h => by cases h)⟩ ?_ ?_
    · rintro i H6 hi ⟨sm, rs, hR, hrows, hrl, hfresh, hGn⟩
      refine ⟨rfl, small (m := 1) (Nat.zero_le _), fun r hr6 => ?_⟩
      have e6 := same_new (o := .lst []) hr6
      have hR6 := e6 _ _ hR
      have nR : r ≠ G := (ne_of_none hR hr6).symm
      have nrs : r ∉ rs := fun z => by
        obtain ⟨j, hj⟩ := List.getElem?_of_mem z
        rw [hrows.2 j r hj] at hr6
        cases hr6
      refine ⟨_, hR6, below (m := 200) (by rw [List.length_map]; omega), same_upd (sm.trans e6) hG, rs ++ [r], by rw [upd_same, List.map_append]; rfl, ⟨?_, fun j z ej => ?_⟩, by rw [List.length_append, hrl]; rfl, fun z hz => ?_, fun z => ?_⟩
      · exact List.nodup_append.mpr ⟨hrows.1, List.nodup_cons.mpr ⟨(fun z => by cases z), List.nodup_nil⟩, fun a ha b hb e => by
          rw [List.mem_singleton.mp hb] at e
          subst e
          exact nrs ha⟩
      · rcases Nat.lt_or_ge j rs.length with c | c
        · rw [List.getElem?_append_left c] at ej
          have hz := hrows.2 j z ej
          rw [upd_ne (fun e => by rw [e] at ej; exact hGn (List.mem_of_getElem? ej))]
          exact e6 _ _ hz
        · rw [List.getElem?_append_right c] at ej
          have e0 : z = r := by
            have := List.mem_of_getElem? ej
            exact List.mem_singleton.mp this
          rw [e0, upd_ne nR, upd_same]
          rfl
      · rcases List.mem_append.mp hz with c | c
        · exact hfresh z c
        · rw [List.mem_singleton.mp c]
          exact sm.free hr6
      · rcases List.mem_append.mp z with c | c
        · exact hGn c
        · exact nR (List.mem_singleton.mp c).symm
    rintro H6 ⟨sm, rs, hR, hrows, hrl, hfresh, hGn⟩
    have hx6 := sm _ _ hx5
    refine ⟨_, rfl, x, C, dx, _, _, rfl, hx6, WC.cl, WC.arrows, lk_same, l, rfl, ⟨_, SqT.of (sm _ _ hl5)⟩, ?_⟩
    have lts : (ts'.map V.ref).length = ar.length := hA5.len
    have hal2 : ar.length ≤ 200 := by rw [par.symm.length_eq]; exact hal
    refine for_tup (K := K) (a := l) (xs := ts'.map V.ref) (fun i σ H' => (∃ y4 y5, σ = [some (.ref x), some (vInt n), some (.ref p), some (.ref G), y4, y5, none, none]) ∧ Same H5 H' ∧ H' G = some (.lst (rs.map V.ref)) ∧ GoalsAt H' rs (ar.take i)) ⟨⟨none, none, rfl⟩, sm, hR, hrows⟩ (fun i σ H' _ h => SqT.of (h.2.1 _ _ hl5)) ?_ ?_
    · rintro i z σ H7 hz ⟨⟨y4, y5, rfl⟩, sm7, hR7, hg7⟩
      obtain ⟨a, ha, hza⟩ := hA5.get hz
      obtain ⟨u, rfl, hu⟩ := hza
      have hi : i < ar.length := (List.getElem?_eq_some_iff.mp ha).1
      have ea : ar[i] = a := (List.getElem?_eq_some_iff.mp ha).2
      obtain ⟨g1, g2, g3⟩ := gr.1 a (List.mem_of_getElem? ha)
      have hr1 : a.1 < rs.length := by omega
      have her : rs[a.1]? = some rs[a.1] := List.getElem?_eq_getElem hr1
      have hrow := hg7.2 a.1 _ her
      have frh := hfresh _ (List.getElem_mem hr1)
      have nG : rs[a.1] ≠ G := fun e => hGn (by rw [← e]; exact List.getElem_mem hr1)
      refine ⟨u, _, rfl, SqT.of (sm7 _ _ hu), rfl, _, _, rfl, _, _, rfl, rfl, ?_⟩
      refine ⟨_, rfl, _, rfl, G, _, _, .ref rs[a.1], rfl, rfl, SqL.of hR7, atI_nat (j := a.1) (by rw [List.getElem?_map, her]; rfl), .inl ⟨rfl, _, SqL.of hrow⟩, _, rfl, rs[a.1], _, _, rfl, rfl, hrow, ?_, ?_⟩
      · have : (goalsAt (ar.take i) a.1).length ≤ 200 := by
          unfold goalsAt
          rw [List.length_map]
          exact Nat.le_trans (List.length_filter_le _ _) (by rw [List.length_take]; omega)
        exact below (m := 200) (by rw [List.length_map]; exact this)
      · refine ⟨⟨_, _, rfl⟩, same_upd sm7 frh, by rw [upd_ne nG.symm]; exact hR7, ?_⟩
        rw [take_more hi, ea]
        exact hg7.put her
    · rintro σ H7 ⟨⟨y4, y5, rfl⟩, sm7, hR7, hg7⟩
      rw [lts, List.take_length] at hg7
      refine ⟨_, rfl, G, rfl, ⟨_, SqL.of hR7⟩, fun D hD => ?_⟩
      refine lc_list (K := K) (a := G) (xs := rs.map V.ref) (fun i H' => Same H7 H' ∧ ∃ ys, H' D = some (.lst ys) ∧ Al (PlacesAt H') ys ((List.range i).map (goalsAt ar)) ∧ ys.length = i) ⟨same_new hD, [], upd_same, trivial, rfl⟩ (fun i H' _ h => SqL.of (h.1 _ _ hR7)) ?_ ?_
      · rintro i z H8 hz ⟨sm8, ys, hY, hYA, hyl⟩
        obtain ⟨hi, rfl⟩ := item hz
        have her : rs[i]? = some rs[i] := List.getElem?_eq_getElem hi
        have hrow := sm8 _ _ (hg7.2 i _ her)
        refine ⟨rfl, _, rfl, .inl ⟨rs[i], _, rfl, SqL.of hrow, fun u hu => ?_⟩⟩
        have e8 := same_new (o := .tup ((goalsAt ar i).map vInt)) hu
        have hY8 := e8 _ _ hY
        have t8 : Tups _ (upd (upd H8 u (.tup ((goalsAt ar i).map vInt))) D (.lst (ys ++ [.ref u]))) := Tups.upd hY8
        refine ⟨_, hY8, below (m := 200) (by omega), same_upd (sm8.trans e8) hD, ys ++ [.ref u], upd_same, ?_, by rw [List.length_append, hyl]; rfl⟩
        rw [List.range_succ, List.map_append]
        exact Al.append (ys := [.ref u]) (bs := [goalsAt ar i]) (hYA.imp fun _ _ h => PlacesAt.tups ((Tups.of e8).trans t8) h) ⟨⟨u, rfl, t8 _ _ upd_same⟩, trivial⟩
      · rintro H8 ⟨sm8, ys, hY, hYA, hyl⟩
        refine .inl ⟨D, ys, rfl, SqL.of hY, fun g hgn => ?_⟩
        have e9 := same_new (o := .tup ys) hgn
        have sm9 := sm7.trans (sm8.trans e9)
        have hx9 := sm9 _ _ hx5
        refine ⟨_, rfl, x, C, dx, _, rfl, hx9, WC.cl, WC.goals, (by show 2 < 1000; decide), ?_⟩
        obtain ⟨H9, eH9⟩ : ∃ H9, H9 = upd H8 g (.tup ys) := ⟨_, rfl⟩
        rw [← eH9] at e9 sm9 hx9 ⊢
        have hg9 : H9 g = some (.tup ys) := by rw [eH9]; exact upd_same
        have t10 : Tups H9 (upd H9 x (.ins C dx (putF "_goals" (.ref g) (putF "arrows" (.ref l) (putF "size" (vInt n) []))))) := fun q zs e => by
          rw [upd_ne (ne_of e hx9 (by intro z; cases z))]
          exact e
        have ern : (rs.map V.ref).length = n := by rw [List.length_map, hrl]
        rw [ern] at hYA
        refine k _ ar (fun b o nb1 nb2 e => ?_) par.symm ⟨⟨dx, l, g, _, ts'.map V.ref, ys, upd_same, ?_, ?_, lk_same, ?_, t10 _ _ (sm9 _ _ hl5), hA5.imp fun _ _ h => h.tups ((Tups.of sm9).trans t10), t10 _ _ hg9, hYA.imp fun _ _ h => PlacesAt.tups ((Tups.of e9).trans t10) h⟩, gr, srt, h1, h2⟩
        · rw [upd_ne nb1]
          refine sm9 _ _ ?_
          rw [eH5, upd_ne nb1]
          refine s4 _ _ ?_
          rw [eH2, upd_ne nb1]
          exact s1 _ _ e
        · exact (lk_ne (by decide +kernel)).trans ((lk_ne (by decide +kernel)).trans lk_same)
        · exact (lk_ne (by decide +kernel)).trans lk_same
        · exact fun g h1 h2 h3 => (lk_ne h3).trans ((lk_ne h2).trans ((lk_ne h1).trans rfl))
end
end Fam

/-! len(range(n)). -/
namespace L2
open PySem PySem.Spec PyProof.Rows
theorem size_one (n : Nat) : Builtin.Range.rangeSize 0 (n : Int) 1 = (n : Int) := by
  unfold Builtin.Range.rangeSize
  simp
  try omega
theorem m_len_rng (r : Addr) (n : Nat) (hn : (n : Int) < 2 ^ 62) (t u v : Tok) :
    Meets (Builtin.«range.__len__» ⟨[.ref r], []⟩) (fun _ R s => s.heap.get? r = some { cls := .type "range", dict := none, data := .fields #[.int 0 t, .int (n : Int) u, .int 1 v], slots := #[] } ∧ R (.ok (.ret (.int n s.toks))) { s with toks := s.toks + 1 }) :=
  .of_wp fun prog w A R s h => by
    obtain ⟨hp, g, d, tk, os⟩ := s
    obtain ⟨hl, h⟩ := h
    have e := size_one n
    have e2 : ¬ ((n : Int) ≥ 2 ^ 63) := by omega
    wp_walk
    rw [e, if_neg e2]
    wp_walk
    exact ⟨_, rfl, h⟩
section
variable {X : Cx}
theorem cr_range1 : CallR X (.type "range") (fun vs H Q => ∃ j, vs = [V.int j] ∧ ∀ p, H p = none → Q (.ref p) (upd H p (.rng 0 j))) := by
  intro pins s σ H vs us Q I r h
  obtain ⟨j, rfl, q⟩ := h
  obtain ⟨u1, rfl, ri⟩ := vals1 r
  obtain ⟨t, rfl⟩ := ri
  refine call_range_1 ⟨.ref s.heap.objs.size, upd H s.heap.objs.size (.rng 0 j), I.laid (t' := _) (fun b o e => Heap.get?_push_of_some _ e) (Nat.le_refl _) ?_, rfl, q _ (I.hok.fresh (Nat.le_refl _))⟩
  exact ⟨_, _, _, Heap.get?_push_size _ rfl⟩
theorem cr_lenRng : CallR X (.builtin "len") (fun vs H Q => ∃ (a : Addr) (n : Nat), vs = [V.ref a] ∧ H a = some (.rng 0 n) ∧ (n : Int) < 2 ^ 62 ∧ Q (.int n) H) := by
  intro pins s σ H vs us Q I r h
  obtain ⟨a, n, rfl, ha, hn, q⟩ := h
  rw [Vals.ref1 r]
  obtain ⟨t1, t2, t3, ho⟩ := I.hok a _ ha
  have hT : s.TypeIs (.ref a) "range" := ⟨_, ho, rfl⟩
  refine Calls.call_function_entry kind_len plain_len entry_len (args_len1 _) ?_
  unfold Builtin.«len»
  refine wpAny_bind (m := oneArg "len" _) (wpAny_pure ?_)
  refine wpAny_bind (m := callSpecial? (.ref a) (Str.ofString "__len__")) (wpAny_callSpecial?_slot (name := Str.ofString "__len__") hT F.slot_range_len (call_meets F.slot_range_len hT F.entry_range_len (F.args_range_len_1 _) (m_len_rng a n hn t1 t2 t3) ⟨ho, ?_⟩))
  show wpAny _ _ _ _ _ { s with toks := s.toks + 1 }
  refine wpAny_bind (wpAny_holding (wpAny_pure (wpAny_bind (wpAny_letGo ?_))))
  show wpAny _ _ (if (n : Int) < 0 then _ else _) _ _ _
  rw [if_neg (by omega)]
  show wpAny _ _ (if (n : Int) ≥ 2 ^ 63 then _ else _) _ _ _
  rw [if_neg (by omega)]
  exact wpAny_bind (wpAny_mkInt (wpAny_pure ⟨_, rfl, .int n, H, (I.tok _), ⟨_, rfl⟩, q⟩))
end
end L2

/-! Data by value; the methods of a web. -/
namespace Fam
open PySem L2 S5 ItX
open C8 (pss_cut tCut)
mutual
/-- no truth values, no dicts -/
def plD : PyData → Bool
  | .none => true
  | .int _ => true
  | .list xs => plA xs
  | .tuple xs => plA xs
  | _ => false
def plA : List PyData → Bool
  | [] => true
  | x :: xs => plD x && plA xs
end
mutual
theorem pl_eqv : ∀ (d e : PyData), plD d = true → plD e = true → (PyData.eqv d e = true ↔ d = e)
  | .none, e, _, he => by cases e <;> first | (simp [PyData.eqv]; done) | cases he
  | .int i, e, _, he => by cases e <;> first | (simp [PyData.eqv]; done) | cases he
  | .list xs, e, hd, he => by
    cases e with
    | list ys =>
      have := pl_eqvA xs ys hd he
      show PyData.eqvAll xs ys = true ↔ _
      rw [this]
      exact ⟨fun z => by rw [z], fun z => by cases z; rfl⟩
    | _ => first | (simp [PyData.eqv]; done) | cases he
  | .tuple xs, e, hd, he => by
    cases e with
    | tuple ys =>
      have := pl_eqvA xs ys hd he
      show PyData.eqvAll xs ys = true ↔ _
      rw [this]
      exact ⟨fun z => by rw [z], fun z => by cases z; rfl⟩
    | _ => first | (simp [PyData.eqv]; done) | cases he
theorem pl_eqvA : ∀ (ds es : List PyData), plA ds = true → plA es = true → (PyData.eqvAll ds es = true ↔ ds = es)
  | [], [], _, _ => by simp [PyData.eqvAll]
  | [], _ :: _, _, _ => by simp [PyData.eqvAll]
  | _ :: _, [], _, _ => by simp [PyData.eqvAll]
  | d :: ds, e :: es, hd, he => by
    have hd' : plD d = true ∧ plA ds = true := by simpa [plA] using hd
    have he' : plD e = true ∧ plA es = true := by simpa [plA] using he
    show (PyData.eqv d e && PyData.eqvAll ds es) = true ↔ _
    rw [Bool.and_eq_true, pl_eqv d e hd'.1 he'.1, pl_eqvA ds es hd'.2 he'.2, List.cons.injEq]
end
mutual
theorem pl_can : ∀ (d : PyData), plD d = true → d.canLay0 = true
  | .none, _ => rfl
  | .int _, _ => rfl
  | .list xs, h => by simp only [PyData.canLay0]; exact pl_canA xs h
  | .tuple xs, h => by simp only [PyData.canLay0]; exact pl_canA xs h
theorem pl_canA : ∀ (ds : List PyData), plA ds = true → PyData.canLayAll0 ds = true
  | [], _ => by simp [PyData.canLayAll0]
  | d :: ds, h => by
    have h' : plD d = true ∧ plA ds = true := by simpa [plA] using h
    simp only [PyData.canLayAll0, Bool.and_eq_true]
    exact ⟨pl_can d h'.1, pl_canA ds h'.2⟩
end
theorem eqv_dec {d e : PyData} {p : Prop} [Decidable p] (hd : plD d = true) (he : plD e = true) (h : d = e ↔ p) : PyData.eqv d e = decide p := by
  rw [Bool.eq_iff_iff, pl_eqv d e hd he, decide_eq_true_eq]
  exact h
theorem shaped_pl {d : PyData} (h : plD d = true) (hd : d.depth ≤ 64) : SeqAt.shaped d = true := by
  unfold SeqAt.shaped
  rw [Bool.and_eq_true]
  exact ⟨pl_can d h, decide_eq_true hd⟩
theorem plA_map {α : Type} (f : α → PyData) (h : ∀ a, plD (f a) = true) : ∀ l : List α, plA (l.map f) = true
  | [] => rfl
  | a :: l => by
    show (plD (f a) && plA (l.map f)) = true
    rw [h a, plA_map f h l]
    rfl
theorem depthA_map {α : Type} (f : α → PyData) (k : Nat) (h : ∀ a, (f a).depth ≤ k) : ∀ l : List α, PyData.depthAll (l.map f) ≤ k
  | [] => by simp [PyData.depthAll]
  | a :: l => by
    have h1 := h a
    have h2 := depthA_map f k h l
    simp only [List.map_cons, PyData.depthAll]
    omega
theorem map_inj {α β : Type} {f : α → β} (h : ∀ a b, f a = f b → a = b) {l m : List α} : l.map f = m.map f ↔ l = m := ⟨fun z => (List.map_inj_right h).mp z, fun z => by rw [z]⟩
/-- a tuple of numbers as data -/
def dNs (l : List Nat) : PyData := .tuple (l.map fun (n : Nat) => PyData.int (n : Int))
theorem dNs_inj {a b : List Nat} (h : dNs a = dNs b) : a = b := by
  have := PyData.tuple.inj h
  exact (map_inj fun x y z => Int.ofNat.inj (PyData.int.inj z)).mp this
theorem dNs_pl (l : List Nat) : plD (dNs l) = true := plA_map _ (fun _ => rfl) l
theorem dNs_depth (l : List Nat) : (dNs l).depth ≤ 2 := by
  have := depthA_map (fun (n : Nat) => PyData.int (n : Int)) 1 (fun a => by simp [PyData.depth]) l
  unfold dNs
  simp only [PyData.depth]
  omega
theorem dp_nums {K : PySem.W.Frag} {H : Hp} : ∀ l : List Nat, DpAll K H (l.map vInt) (l.map fun (n : Nat) => PyData.int (n : Int))
  | [] => .nil
  | _ :: l => .cons (.int _) (dp_nums l)
theorem dp_ns {K : PySem.W.Frag} {H : Hp} {v : V} {l : List Nat} (h : PlacesAt H v l) : Dp K H v (dNs l) := by
  obtain ⟨p, rfl, hp⟩ := h
  exact .tup (SqT.of hp) (dp_nums l)
theorem dp_al {α : Type} {K : PySem.W.Frag} {H : Hp} {R : V → α → Prop} {f : α → PyData} (h : ∀ v a, R v a → Dp K H v (f a)) : ∀ {xs : List V} {as : List α}, Al R xs as → DpAll K H xs (as.map f)
  | [], [], _ => .nil
  | _ :: _, _ :: _, ⟨h1, h2⟩ => .cons (h _ _ h1) (dp_al h h2)
  | [], _ :: _, h => h.elim
  | _ :: _, [], h => h.elim
/-- a tuple of tuples of numbers -/
def dNss (ls : List (List Nat)) : PyData := .tuple (ls.map dNs)
theorem dNss_inj {a b : List (List Nat)} (h : dNss a = dNss b) : a = b := (map_inj fun x y z => dNs_inj z).mp (PyData.tuple.inj h)
theorem dNss_pl (l : List (List Nat)) : plD (dNss l) = true := plA_map _ dNs_pl l
theorem dNss_sh (l : List (List Nat)) : SeqAt.shaped (dNss l) = true := shaped_pl (dNss_pl l) (by
  have := depthA_map dNs 2 dNs_depth l
  unfold dNss
  simp only [PyData.depth]
  omega)
theorem prs_inj {a b : List Arr} : a.map prL = b.map prL ↔ a = b := map_inj fun x y z => by
  injection z with z1 z2
  injection z2 with z2 _
  exact Prod.ext z1 z2
theorem dp_prs {K : PySem.W.Frag} {H : Hp} {p : Addr} {xs : List V} {as : List Arr} (h : H p = some (.tup xs)) (hA : Al (PairAt H) xs as) : Dp K H (.ref p) (dNss (as.map prL)) := .tup (SqT.of h) (dp_al (fun _ _ h => dp_ns h) hA.prs)
/-- what isinstance(x, Web) asks -/
structure ClsIs (K : PySem.W.Frag) (C : Addr) : Prop where
  ca : PySem.W.findIn K (.ref C) "__class__" = some (some (.builtin "object.__class__"))
  cn : PySem.W.specialIn K (.builtin "object.__class__") "__get__" = some (some (.builtin "getset_descriptor.__get__"))
  ct : PySem.W.takesIn K (.builtin "object.__class__") = some true
  cm : PySem.W.mroIn K C (.type "object") = some true
def spWebEq (C : Addr) : Sp := fun vs H Q _ => ∃ (x y : Addr) (n m : Nat) (ar br : List Arr), vs = [.ref x, .ref y] ∧ WAt C H x n ar ∧ WAt C H y m br ∧ Q (.bl (decide (n = m ∧ ar = br))) H
def spWebLen (C : Addr) : Sp := fun vs H Q _ => ∃ (x : Addr) (n : Nat) (ar : List Arr), vs = [.ref x] ∧ WAt C H x n ar ∧ ∀ H', Same H H' → Q (vInt n) H'
def spWebArrow (C : Addr) : Sp := fun vs H Q _ => ∃ (x : Addr) (a b n : Nat) (ar : List Arr), vs = [.ref x, vInt a, vInt b] ∧ WAt C H x n ar ∧ a < n ∧ b < n ∧ Q (.bl (decide ((a, b) ∈ ar))) H
def spWebSent (C : Addr) : Sp := fun vs H Q _ => ∃ (x : Addr) (a n : Nat) (ar : List Arr), vs = [.ref x, vInt a] ∧ WAt C H x n ar ∧ a < n ∧ ∀ v, PlacesAt H v (goalsAt ar a) → Q v H
/-- the arrows within the places a .. a + m - 1, called anew -/
def subArr (ar : List Arr) (a m : Nat) : List Arr := (ar.filter fun e => decide (a ≤ e.1 ∧ e.1 < a + m ∧ a ≤ e.2 ∧ e.2 < a + m)).map fun e => (e.1 - a, e.2 - a)
def spOfLot (K : PySem.W.Frag) (C : Addr) : Sp := fun vs H Q _ => ∃ (x p : Addr) (n : Nat) (ar : List Arr) (is : List Int) (a m : Nat), vs = [.ref x, .ref p] ∧ WAt C H x n ar ∧ SqL K H p (is.map V.int) ∧ is.Nodup ∧ (∀ k, k ∈ is ↔ ((a : Int) ≤ k ∧ k < (a + m : Nat))) ∧ 1 ≤ m ∧ a + m ≤ n ∧
  ∀ (H' : Hp) (y : Addr) (br : List Arr), Same H H' → WAt C H' y m br → br.Perm (subArr ar a m) → Q (.ref y) H'
theorem mem_goals {ar : List Arr} {a b : Nat} : b ∈ goalsAt ar a ↔ (a, b) ∈ ar := by
  unfold goalsAt
  rw [List.mem_map]
  constructor
  · rintro ⟨e, he, rfl⟩
    obtain ⟨h1, h2⟩ := List.mem_filter.mp he
    have : e.1 = a := beq_iff_eq.mp h2
    rw [← this]
    exact h1
  · intro h
    exact ⟨(a, b), List.mem_filter.mpr ⟨h, beq_iff_eq.mpr rfl⟩, rfl⟩
theorem dc_enumT {K : PySem.W.Frag} {a : Addr} {xs : List V} {g : TG} {tt : TT} {tk tv : TE} {vs : List Nat} {σ : L2.St} {H1 : Hp} {D : Addr} {Qd : Hp → Prop} (Pv : Nat → Hp → Prop) (h0 : Pv 0 (upd H1 D (.dK []))) (hl : ∀ i H, i ≤ xs.length → Pv i H → SqT K H a xs)
    (hs : ∀ i x H T, xs[i]? = some x → Pv i H → H T = none → g (.ref T) (wipe σ vs) (upd H T (.tup [.int (i : Nat), x])) fun σ2 H2 => wipe σ2 vs = wipe σ vs ∧ tt σ2 H2 fun b H3 =>
      if b = true then tk σ2 H3 fun y H4 => tv σ2 H4 fun z H5 => ∃ kvs k, y = kV k ∧ H5 D = some (.dK kvs) ∧ kvs.length < sizeLine ∧ Pv (i + 1) (upd H5 D (.dK (putK kvs k z))) else Pv (i + 1) H3) (hd : ∀ H, Pv xs.length H → Qd H) :
    ∃ W : Nat → Nat → Hp → Prop, (∃ m, W 0 m (upd H1 D (.dK []))) ∧ ∀ i m H, W i m H →
      ((IteT K a).stop i H ∧ Qd H) ∨ ((IteT K a).go i H ∧ ∃ Nx : Hp → Prop, (∀ H', Nx H' → ∃ m', m' < m ∧ W (i + 1) m' H') ∧ ∀ x H', (IteT K a).yld i H x H' → g x (wipe σ vs) H' fun σ2 H2 => wipe σ2 vs = wipe σ vs ∧ tt σ2 H2 fun b H3 =>
        if b = true then tk σ2 H3 fun y H4 => tv σ2 H4 fun z H5 => ∃ kvs k, y = kV k ∧ H5 D = some (.dK kvs) ∧ kvs.length < sizeLine ∧ Nx (upd H5 D (.dK (putK kvs k z))) else Nx H3) := by
  refine ⟨fun i m H => m = xs.length - i ∧ i ≤ xs.length ∧ Pv i H, ⟨xs.length, rfl, Nat.zero_le _, h0⟩, ?_⟩
  rintro i _ H ⟨rfl, hi, p⟩
  have q := hl i H hi p
  rcases Nat.lt_or_ge i xs.length with lt | ge
  · refine .inr ⟨⟨xs, xs[i], q, List.getElem?_eq_getElem lt⟩, Pv (i + 1), fun H' p' => ⟨xs.length - (i + 1), by omega, rfl, lt, p'⟩, ?_⟩
    rintro y H' ⟨T, x, rfl, hT, rfl, hx⟩
    exact hs i x H T (hx xs q) p hT
  · have e : i = xs.length := Nat.le_antisymm hi ge
    subst e
    exact .inl ⟨⟨xs, q, Nat.le_refl _⟩, hd H p⟩
/-- the dict of the calls: a + j is called j -/
def callK (a : Nat) (m : Nat) : List (Key × V) := (List.range m).map fun j => ((Sum.inl ((a + j : Nat) : Int) : Key), vInt j)
theorem callK_snoc (a m : Nat) : callK a (m + 1) = callK a m ++ [((Sum.inl ((a + m : Nat) : Int) : Key), vInt m)] := by
  unfold callK
  rw [List.range_succ, List.map_append]
  rfl
theorem valV_app {k : Key} : ∀ {l m : List (Key × V)}, valV (l ++ m) k = (valV l k).or (valV m k)
  | [], m => rfl
  | (k', v) :: l, m => by
    by_cases e : k' = k
    · subst e
      rw [List.cons_append, valV_pos rfl, valV_pos rfl]
      rfl
    · rw [List.cons_append, valV_neg e, valV_neg e]
      exact valV_app
theorem valV_call (a x : Nat) : ∀ m : Nat, valV (callK a m) (Sum.inl (x : Int) : Key) = if a ≤ x ∧ x < a + m then some (vInt (x - a)) else none
  | 0 => by
    rw [if_neg (by omega)]
    rfl
  | m + 1 => by
    rw [callK_snoc, valV_app, valV_call a x m]
    by_cases e : a ≤ x ∧ x < a + m
    · rw [if_pos e, if_pos (by omega)]
      rfl
    · rw [if_neg e, Option.none_or]
      by_cases e2 : x = a + m
      · subst e2
        rw [if_pos (by omega)]
        show valV [((Sum.inl ((a + m : Nat) : Int) : Key), vInt m)] _ = _
        rw [valV_pos rfl, Nat.add_sub_cancel_left]
      · rw [if_neg (by omega)]
        show valV [((Sum.inl ((a + m : Nat) : Int) : Key), vInt m)] _ = _
        rw [valV_neg (fun z => e2 (Int.ofNat.inj (Sum.inl.inj z)).symm)]
        rfl
section
variable {P : Program} {w : World} {K : PySem.W.Frag} {mg : Str → Option Value} {base : Heap} {C : Addr}
abbrev nWE : List Str := ["self", "other"]
theorem scWE : FnScope nWE ["self", "other"] (defScope sWeb_eq) := ⟨rfl, rfl, rfl, by decide +kernel, rfl, by decide +kernel, by decide +kernel⟩
theorem ok_web_eq {f : Addr} {fd : FuncData} (F : Fun K "__eq__" "Web.__eq__" sWeb_eq f fd) (T : Bare mg) (WC : WebC K C) (WI : ClsIs K C) (mC : mg "Web" = some (.ref C)) : FnOk P w K mg base CX0 1 f fd ["self", "other"] (spWebEq C) := by
  refine F.ok scWE (fun vs H Q E h => ?_) (fun cdv A outer s H vs Q E hr h => ?_)
  · obtain ⟨x, y, n, m, ar, br, rfl, _⟩ := h
    rfl
  · obtain ⟨x, y, n, m, ar, br, rfl, hx, hy, k⟩ := h
    refine ⟨_, (pss_one (ps_ret (pe_and (pe_callB call_isi (by rfl) T.isi (by decide +kernel) (pa_cons (pv 1) (pa_cons (pe_glob (v := .ref C) rfl mC rfl) pa_nil))) (pe_and (pe_cmpR op_eq (pe_fld (pv 0) rfl) (pe_fld (pv 1) rfl) (nomark _)) (pe_one (pe_cmpR (op_eqD hr.units) (pe_fld (pv 0) rfl) (pe_fld (pv 1) rfl) (nomark _))))))), ?_⟩
    obtain ⟨⟨dx, l, g, fs, ts, gs, a1, a2, a3, a4, a5, a6, a7, a8, a9⟩, _⟩ := id hx
    obtain ⟨⟨dx', l', g', fs', ts', gs', b1, b2, b3, b4, b5, b6, b7, b8, b9⟩, _⟩ := id hy
    refine ⟨_, rfl, _, _, _, _, true, rfl, .own _, .base (.ins b1 WC.cl WI.ca WI.cn WI.ct WI.cm), kit_self, _, rfl, iteT ?_⟩
    refine ⟨_, rfl, x, C, dx, fs, _, rfl, a1, WC.cl, WC.size, a2, _, rfl, y, C, dx', fs', _, rfl, b1, WC.cl, WC.size, b2, rfl, _, rfl, ?_⟩
    rw [dec_nat]
    by_cases e : n = m
    · rw [decide_eq_true e]
      refine iteT ⟨_, rfl, x, C, dx, fs, _, rfl, a1, WC.cl, WC.arrows, a3, _, rfl, y, C, dx', fs', _, rfl, b1, WC.cl, WC.arrows, b3, dNss (ar.map prL), dNss (br.map prL), dp_prs a6 a7, dp_prs b6 b7, dNss_sh _, dNss_sh _, ?_⟩
      have : PyData.eqv (dNss (ar.map prL)) (dNss (br.map prL)) = decide (n = m ∧ ar = br) := eqv_dec (dNss_pl _) (dNss_pl _) ⟨fun z => ⟨e, prs_inj.mp (dNss_inj z)⟩, fun z => by rw [z.2]⟩
      rw [this]
      exact k
    · rw [decide_eq_false e]
      have : decide (n = m ∧ ar = br) = false := decide_eq_false fun z => e z.1
      rw [this] at k
      exact iteF k
abbrev nWN : List Str := ["self"]
theorem scWN : FnScope nWN ["self"] (defScope sWeb_len) := ⟨rfl, rfl, rfl, by decide +kernel, rfl, by decide +kernel, by decide +kernel⟩
theorem ok_web_len {f : Addr} {fd : FuncData} (F : Fun K "__len__" "Web.__len__" sWeb_len f fd) (T : Bare mg) (WC : WebC K C) : FnOk P w K mg base CX0 1 f fd ["self"] (spWebLen C) := by
  refine F.ok scWN (fun vs H Q E h => ?_) (fun cdv A outer s H vs Q E hr h => ?_)
  · obtain ⟨x, n, ar, rfl, _⟩ := h
    rfl
  · obtain ⟨x, n, ar, rfl, hx, k⟩ := h
    refine ⟨_, (pss_one (ps_ret (pe_callB cr_lenRng (by rfl) T.len PySem.boot_len (pa_cons (pe_callTy cr_range1 (by rfl) T.range (by decide +kernel) (pa_cons (pe_fld (pv 0) rfl) pa_nil)) pa_nil)))), ?_⟩
    obtain ⟨⟨dx, l, g, fs, ts, gs, a1, a2, a3, a4, a5, a6, a7, a8, a9⟩, _, _, _, n2⟩ := id hx
    refine ⟨_, rfl, x, C, dx, fs, _, rfl, a1, WC.cl, WC.size, a2, _, rfl, fun p hp => ⟨p, n, rfl, upd_same, by omega, k _ (same_new hp)⟩⟩
abbrev nWA : List Str := ["self", "x", "y"]
theorem scWA : FnScope nWA ["self", "x", "y"] (defScope sWeb_arrow) := ⟨rfl, rfl, rfl, by decide +kernel, rfl, by decide +kernel, by decide +kernel⟩
theorem ok_web_arrow {B f : Addr} {fd : FuncData} (F : Fun K "arrow" "Web.arrow" sWeb_arrow f fd) (WC : WebC K C) (GC : CalE P w K mg base 3 "check_number" nCN (spCheckNum K B)) : FnOk P w K mg base CX0 4 f fd ["self", "x", "y"] (spWebArrow C) := by
  obtain ⟨_, _, ok_cn, b_cn, k_cn, m_cn⟩ := (cal_noex GC).ex
  refine F.ok scWA (fun vs H Q E h => ?_) (fun cdv A outer s H vs Q E hr h => ?_)
  · obtain ⟨x, a, b, n, ar, rfl, _⟩ := h
    rfl
  · obtain ⟨x, a, b, n, ar, rfl, hx, ha, hb, k⟩ := h
    have hr_cn := hr
    refine ⟨_, (pss_cons (ps_expr (pe_call ok_cn hr_cn rfl m_cn k_cn b_cn .nil pass0 (pa_cons (pv 1) (pa_cons pe_str (pa_cons pe_int (pa_cons (pe_op op_sub (pe_fld (pv 0) rfl) pe_int) pa_nil))))))
      (pss_cons (ps_expr (pe_call ok_cn hr_cn rfl m_cn k_cn b_cn .nil pass0 (pa_cons (pv 2) (pa_cons pe_str (pa_cons pe_int (pa_cons (pe_op op_sub (pe_fld (pv 0) rfl) pe_int) pa_nil))))))
      (pss_one (ps_ret (pe_cmpR (op_in_seq : OpR _ _ (rIn K false)) (pv 2) (pe_ix ix_tup (pe_fld (pv 0) rfl) (pv 1) (fun _ _ => rfl)) (by rfl)))))), ?_⟩
    obtain ⟨⟨dx, l, g, fs, ts, gs, a1, a2, a3, a4, a5, a6, a7, a8, a9⟩, _⟩ := id hx
    have e1 : betD (.int (a : Int)) 0 ((n : Int) - 1) = true := decide_eq_true ⟨by omega, by omega⟩
    have e2 : betD (.int (b : Int)) 0 ((n : Int) - 1) = true := decide_eq_true ⟨by omega, by omega⟩
    refine ⟨_, rfl, _, rfl, x, C, dx, fs, _, rfl, a1, WC.cl, WC.size, a2, _, _, rfl, rfl, vInt a, .int a, "place", 0, _, rfl, .int _, .inl ⟨e1, ?_⟩⟩
    refine ⟨_, rfl, _, rfl, x, C, dx, fs, _, rfl, a1, WC.cl, WC.size, a2, _, _, rfl, rfl, vInt b, .int b, "place", 0, _, rfl, .int _, .inl ⟨e2, ?_⟩⟩
    obtain ⟨v, hv, p, rfl, hp⟩ := a9.get2 (i := a) (a := goalsAt ar a) (by rw [List.getElem?_map, List.getElem?_range ha]; rfl)
    refine ⟨_, rfl, _, rfl, x, C, dx, fs, _, rfl, a1, WC.cl, WC.goals, a4, _, rfl, g, _, _, .ref p, rfl, rfl, SqT.of a8, atI_nat (j := a) hv, p, _, rfl, .inr (SqT.of hp), rfl, flat_all _, ?_⟩
    show Q (.bl (inV (vInt b) ((goalsAt ar a).map vInt))) H
    rw [inV_nat]
    have : decide (b ∈ goalsAt ar a) = decide ((a, b) ∈ ar) := decide_eq_decide.mpr mem_goals
    rw [this]
    exact k
abbrev nWS : List Str := ["self", "x"]
theorem scWS : FnScope nWS ["self", "x"] (defScope sWeb_sent) := ⟨rfl, rfl, rfl, by decide +kernel, rfl, by decide +kernel, by decide +kernel⟩
theorem ok_web_sent {B f : Addr} {fd : FuncData} (F : Fun K "sent" "Web.sent" sWeb_sent f fd) (WC : WebC K C) (GC : CalE P w K mg base 3 "check_number" nCN (spCheckNum K B)) : FnOk P w K mg base CX0 4 f fd ["self", "x"] (spWebSent C) := by
  obtain ⟨_, _, ok_cn, b_cn, k_cn, m_cn⟩ := (cal_noex GC).ex
  refine F.ok scWS (fun vs H Q E h => ?_) (fun cdv A outer s H vs Q E hr h => ?_)
  · obtain ⟨x, a, n, ar, rfl, _⟩ := h
    rfl
  · obtain ⟨x, a, n, ar, rfl, hx, ha, k⟩ := h
    have hr_cn := hr
    refine ⟨_, (pss_cons (ps_expr (pe_call ok_cn hr_cn rfl m_cn k_cn b_cn .nil pass0 (pa_cons (pv 1) (pa_cons pe_str (pa_cons pe_int (pa_cons (pe_op op_sub (pe_fld (pv 0) rfl) pe_int) pa_nil))))))
      (pss_one (ps_ret (pe_ix ix_tup (pe_fld (pv 0) rfl) (pv 1) (fun _ _ => rfl))))), ?_⟩
    obtain ⟨⟨dx, l, g, fs, ts, gs, a1, a2, a3, a4, a5, a6, a7, a8, a9⟩, _⟩ := id hx
    have e1 : betD (.int (a : Int)) 0 ((n : Int) - 1) = true := decide_eq_true ⟨by omega, by omega⟩
    refine ⟨_, rfl, _, rfl, x, C, dx, fs, _, rfl, a1, WC.cl, WC.size, a2, _, _, rfl, rfl, vInt a, .int a, "place", 0, _, rfl, .int _, .inl ⟨e1, ?_⟩⟩
    obtain ⟨v, hv, hp⟩ := a9.get2 (i := a) (a := goalsAt ar a) (by rw [List.getElem?_map, List.getElem?_range ha]; rfl)
    exact ⟨_, rfl, x, C, dx, fs, _, rfl, a1, WC.cl, WC.goals, a4, _, rfl, g, _, _, v, rfl, rfl, SqT.of a8, atI_nat (j := a) hv, k v hp⟩
end
end Fam

namespace OwnX
open PySem PySem.Spec PyProof.Rows L2 ItX Fam
/-- a class whose __iter__ at f gives iter(self.lots) -/
structure OwnIt (P : Program) (w : World) (K : PySem.W.Frag) (mg : Str → Option Value) (base : Heap) (C f : Addr) (fl : Str) : Prop where
  find : PySem.W.findIn K (.ref C) "__iter__" = some (some (.ref f))
  fn : PySem.W.isFn K (.ref f) = true
  run : ∀ (A : Around) (outer : List Env) (s : Shared) (H : Hp) (x dx l : Addr) (fs : List (Str × V)) (xs : List V) (Q : VK), Room 1 A → Env0 P w K mg base A outer s H → H x = some (.ins C dx fs) → fs.lookup fl = some (.ref l) → SqT K H l xs →
    (∀ it, H it = Option.none → s.heap.objs.size ≤ it → Q (.ref it) (upd H it (ItT l it))) → codeAny (model P w) A (.call (.ref f) ⟨[.ref x], []⟩) (CR L2.CX0 outer P w H s Q L2.E0) s
/-- for v in e, e such an object -/
def iOwn (K : PySem.W.Frag) (C : Addr) (fl : Str) (tl : TE) : TI := fun σ H R => tl σ H fun x H1 => ∃ (a dx l : Addr) (fs : List (Str × V)), x = .ref a ∧ H1 a = some (.ins C dx fs) ∧ fs.lookup fl = some (.ref l) ∧ (∃ xs, SqT K H1 l xs) ∧ R (Itt K l) H1
theorem pi_own {X : Cx} {tg e : Expr} {te : TE} {C f : Addr} {fl : Str} (O : OwnIt X.prog X.w X.K X.mg X.base C f fl) (hr : Room 1 X.A) (he : PE X e te) : PI X tg e (iOwn X.K C fl te) := by
  refine ⟨fun pins s σ H R I h => ?_⟩
  refine thn (he.run pins s σ H _ I h) fun v s1 ⟨x, H1, I1, r1, q1⟩ => ?_
  obtain ⟨a, dx, l, fs, e, ha, hfl, ⟨xs, hq⟩, q⟩ := q1
  subst e
  cases r1
  obtain ⟨mA, J, _⟩ := ins_get I1.hok ha
  obtain ⟨od, J, _⟩ := J.look
  obtain ⟨m, hF⟩ := I1.fr
  refine PySem.W.owit_iter hF I1.ok.mod.kin J O.find O.fn ?_
  refine wpAny_call (codeAny_mono (O.run X.A X.stack s1 H1 a dx l fs xs (fun v H' => ∃ it, v = .ref it ∧ s1.heap.objs.size ≤ it ∧ H1 it = Option.none ∧ H' = upd H1 it (ItT l it)) hr I1.env0 ha hfl hq fun it h1 h2 => ⟨it, rfl, h2, h1, rfl⟩) fun r s' hr' => ?_)
  cases r with
  | error e => exact False.elim hr'
  | ok fl' =>
    cases fl' with
    | next => exact False.elim hr'
    | brk => exact False.elim hr'
    | cont => exact False.elim hr'
    | ret u =>
      obtain ⟨v, H', I', rv, it, rfl, hsz, hn, rfl⟩ := I1.after hr'
      cases rv
      have hu : (upd H1 it (ItT l it)) it = some (.ext fun h => h.get? it = some (tItObj l)) := upd_same
      have hi : s'.heap.get? it = some (tItObj l) := (I'.hok it _ hu).1
      have hT : s'.TypeIs (.ref it) "tuple_iterator" := ⟨_, hi, rfl⟩
      show wpAny _ _ (specialOf (.ref it) "__next__") _ _ _
      refine wpAny_specialOf hT F.slot_tuple_iterator_next.lookup ?_
      have I2 := inv_drop I' hu
      have hf := inv_fp I' hu (Nat.le_trans I1.sz hsz)
      rw [dropH_upd hn] at I2 hf
      refine ⟨it, [it], _, _, H1, rfl, I2, turn_tuple l it, ⟨_, hi, rfl, rfl⟩, fun b hb => ?_, q⟩
      have e : b = it := by simpa using hb
      rw [e]
      exact hf
end OwnX

/-! A web's walk; the web of a lot. -/
namespace Fam
open PySem L2 S5 ItX OwnX
open C8 (pss_cut tCut)
theorem sub_good {n : Nat} {ar : List Arr} {a m : Nat} (h : GoodArr n ar) : GoodArr m (subArr ar a m) := by
  unfold subArr
  refine ⟨fun e he => ?_, ?_⟩
  · obtain ⟨z, hz, rfl⟩ := List.mem_map.mp he
    obtain ⟨h1, h2⟩ := List.mem_filter.mp hz
    have h2 := of_decide_eq_true h2
    obtain ⟨_, _, ne⟩ := h.1 z h1
    exact ⟨by show z.1 - a < m; omega, by show z.2 - a < m; omega, by show z.1 - a ≠ z.2 - a; omega⟩
  · refine List.pairwise_map.mpr ((List.Pairwise.and_mem.mp (h.2.filter _)).imp fun {x y} ⟨hx, hy, ne⟩ e => ne ?_)
    have h1 := of_decide_eq_true (List.mem_filter.mp hx).2
    have h2 := of_decide_eq_true (List.mem_filter.mp hy).2
    injection e with e1 e2
    exact Prod.ext (by omega) (by omega)
theorem subArr_snoc (ar : List Arr) (a m : Nat) (e : Arr) : subArr (ar ++ [e]) a m = subArr ar a m ++ (if a ≤ e.1 ∧ e.1 < a + m ∧ a ≤ e.2 ∧ e.2 < a + m then [(e.1 - a, e.2 - a)] else []) := by
  unfold subArr
  rw [List.filter_append, List.map_append]
  by_cases h : a ≤ e.1 ∧ e.1 < a + m ∧ a ≤ e.2 ∧ e.2 < a + m
  · have z : (fun e : Arr => decide (a ≤ e.1 ∧ e.1 < a + m ∧ a ≤ e.2 ∧ e.2 < a + m)) e = true := decide_eq_true h
    rw [if_pos h, show [e].filter (fun e : Arr => decide (a ≤ e.1 ∧ e.1 < a + m ∧ a ≤ e.2 ∧ e.2 < a + m)) = [e] from List.filter_cons_of_pos z]
    rfl
  · have z : ¬ (fun e : Arr => decide (a ≤ e.1 ∧ e.1 < a + m ∧ a ≤ e.2 ∧ e.2 < a + m)) e = true := fun z => h (of_decide_eq_true z)
    rw [if_neg h, show [e].filter (fun e : Arr => decide (a ≤ e.1 ∧ e.1 < a + m ∧ a ≤ e.2 ∧ e.2 < a + m)) = [] from List.filter_cons_of_neg z]
    rfl
section
variable {P : Program} {w : World} {K : PySem.W.Frag} {mg : Str → Option Value} {base : Heap} {C : Addr}
abbrev nWT : List Str := ["self"]
theorem scWT : FnScope nWT ["self"] (defScope sWeb_iter) := ⟨rfl, rfl, rfl, by decide +kernel, rfl, by decide +kernel, by decide +kernel⟩
theorem web_iter {f : Addr} {fd : FuncData} (F : Fun K "__iter__" "Web.__iter__" sWeb_iter f fd) (mi : mg "iter" = Option.none) (c : Cls K C) (n : NoAttr K C "arrows")
    (find : PySem.W.findIn K (.ref C) "__iter__" = some (some (.ref f))) (fn : PySem.W.isFn K (.ref f) = true) : OwnIt P w K mg base C f "arrows" := by
  refine ⟨find, fn, fun A outer s H x dx l fs xs Q hr e0 hx hl hq k => ?_⟩
  have b : BindsTo s fd ⟨[.ref x], []⟩ ((["self"] : List Str).zip [Value.ref x]) := F.binds (ps := ["self"]) (fun _ _ _ _ _ _ us hl => match us, hl with | [_], _ => rfl) s [Value.ref x] (e0.mod.kin.keeps (fun b o e => (e0.bs b o e).1)) rfl
  refine fn_sized (k := 0) (sp := fun n vs H Q _ => ∃ (x dx l : Addr) (fs : List (Str × V)) (xs : List V), vs = [.ref x] ∧ H x = some (.ins C dx fs) ∧ fs.lookup ("arrows" : Str) = some (.ref l) ∧ SqT K H l xs ∧ ∀ it, H it = Option.none → n ≤ it → Q (.ref it) (upd H it (ItT l it)))
    F scWT ?_ ?_ hr e0 b (show Vals [V.ref x] [Value.ref x] from .cons rfl .nil) ⟨x, dx, l, fs, xs, rfl, hx, hl, hq, k⟩
  · rintro n vs H Q E ⟨x, _, _, _, _, rfl, _⟩
    rfl
  · rintro cdv A outer s H vs Q E hr ⟨x, dx, l, fs, xs, rfl, hx, hl, hq, k⟩
    refine ⟨_, (pss_one (ps_ret (pe_callB call_iterT (by rfl) mi (by decide +kernel) (pa_cons (pe_fld (pv 0) rfl) pa_nil)))), ?_⟩
    exact ⟨_, rfl, x, C, dx, fs, _, rfl, hx, c, n, hl, l, xs, rfl, hq, fun it h1 h2 => k it h1 h2⟩
abbrev nWO : List Str := ["self", "lot", "places", "calls", "kept", "i", "place", "x", "y"]
theorem scWO : FnScope nWO ["self", "lot"] (defScope sWeb_of_lot) := ⟨rfl, rfl, rfl, by decide +kernel, rfl, by decide +kernel, by decide +kernel⟩
theorem ok_web_of_lot {BL f gi : Addr} {fd gid : FuncData} (F : Fun K "of_lot" "Web.of_lot" sWeb_of_lot f fd) (T : Bare mg) (T2 : Bare2 mg) (WC : WebC K C) (m_Web : mg "Web" = some (.ref C)) (MK_Web : Mk K C gi) (ok_Web : FnOk P w K mg base CX0 4 gi gid ["self", "size", "arrows"] (spWebInit K C)) (b_Web : Binds K gid ["self", "size", "arrows"] [])
    (GL : CalE P w K mg base 3 "lot_of" ["value", "size"] (spLotOfD K BL)) : FnOk P w K mg base CX0 6 f fd ["self", "lot"] (spOfLot K C) := by
  obtain ⟨_, _, ok_lo, b_lo, k_lo, m_lo⟩ := (cal_noex GL).ex
  refine F.ok scWO (fun vs H Q E h => ?_) (fun cdv A outer s H vs Q E hr h => ?_)
  · obtain ⟨x, p, n, ar, is, a, m, rfl, _⟩ := h
    rfl
  · obtain ⟨x, p, n, ar, is, a, m, rfl, hW, hp, nd, hmem, hm, han, k⟩ := h
    have hr_lo := hr.mono (j := 3) (by decide)
    have hr_Web := hr
    
    refine ⟨_, (pss_cons (ps_set (i := 2) scWO.nd rfl (Or.inl rfl) (pe_call ok_lo hr_lo rfl m_lo k_lo b_lo .nil pass0 (pa_cons (pv 1) (pa_cons (pe_fld (pv 0) rfl) pa_nil))))
      (pss_cons (ps_if (pt_not (pt_truth (pv 2) (by intro _; rfl))) (pss_one ps_never) pss_nil)
      (pss_cons (ps_set (i := 3) scWO.nd rfl (Or.inr rfl) (pe_dc (own := [("i", 5), ("place", 6)]) (g := gTup K 2 (gCons (gName 5) (gCons (gName 6) gNil))) (tt := tYes) rfl scWO.nd (pi_enumT (by rfl) T2.enumerate (pa_cons (pv 2) pa_nil)) (blkOk_by (own := [("i", 5), ("place", 6)]) (N := nWO) (sc := defScope sWeb_of_lot) (by decide +kernel)) (fun _ _ _ _ _ => pg_tup (by rfl) (pgs_cons (pg_name (i := 5) (by exact scWO.nd) (by rfl) (by exact Or.inl rfl)) (pgs_cons (pg_name (i := 6) (by exact scWO.nd) (by rfl) (by exact Or.inl rfl)) pgs_nil))) (fun _ _ _ _ _ => pts_nil) (fun _ _ _ _ _ => pv 6) (fun _ _ _ _ _ => pv 5)))
      (pss_cons (ps_setLc (i := 4) (own := [("x", 7), ("y", 8)]) (g := gTup K 2 (gCons (gName 7) (gCons (gName 8) gNil))) (by rfl) scWO.nd rfl rfl (sw_true rfl rfl rfl (by decide +kernel)) (pi_tup (pe_fld (pv 0) rfl)) (blkOk_by (own := [("x", 7), ("y", 8)]) (N := nWO) (sc := defScope sWeb_of_lot) (by decide +kernel)) (fun _ _ _ _ _ => pg_tup (by rfl) (pgs_cons (pg_name (i := 7) (by exact scWO.nd) (by rfl) (by exact Or.inl rfl)) (pgs_cons (pg_name (i := 8) (by exact scWO.nd) (by rfl) (by exact Or.inl rfl)) pgs_nil))) (fun _ _ _ _ _ => pts_one (PW.pt (pw_and (pt_cmp (pc_din (hu_of hr) (pv 7) (pv 3))) (pw_and1 (pt_cmp (pc_din (hu_of hr) (pv 8) (pv 3))))))) (fun _ _ _ _ _ => pe_tup (pa_cons (pe_dget (hu_of hr) (pv 3) (pv 7) (fun _ _ => rfl)) (pa_cons (pe_dget (hu_of hr) (pv 3) (pv 8) (fun _ _ => rfl)) pa_nil))))
      (pss_one (ps_ret (pe_make MK_Web ok_Web hr_Web rfl m_Web b_Web .nil pass0 (pa_cons (pe_callB call_len_seq (by rfl) T.len PySem.boot_len (pa_cons (pv 2) pa_nil)) (pa_cons (pv 4) pa_nil))))))))), ?_⟩
    obtain ⟨⟨dx, l, g, fs, ts, gs, a1, a2, a3, a4, a5, a6, a7, a8, a9⟩, hgood, hasc, n1, n2⟩ := id hW
    obtain ⟨pl, epl⟩ : ∃ pl : List Nat, pl = (List.range m).map fun j => a + j := ⟨_, rfl⟩
    have hgl : GoodLotD n (.list (is.map .int)) (pl.map fun (j : Nat) => (j : Int)) := by
      refine ⟨is, .inl rfl, nd, fun i hi => ?_, ?_, fun k => ?_⟩
      · have := (hmem i).mp hi
        omega
      · rw [epl]
        exact List.pairwise_map.mpr (List.pairwise_map.mpr (List.pairwise_lt_range.imp fun {x y} h => by omega))
      · rw [hmem, epl, List.map_map, List.mem_map]
        constructor
        · rintro ⟨j, hj, rfl⟩
          have := List.mem_range.mp hj
          show (a : Int) ≤ ((a + j : Nat) : Int) ∧ ((a + j : Nat) : Int) < _
          omega
        · rintro ⟨h1, h2⟩
          exact ⟨(k - a).toNat, List.mem_range.mpr (by omega), by show ((a + (k - a).toNat : Nat) : Int) = k; omega⟩
    refine ⟨_, rfl, _, rfl, x, C, dx, fs, _, rfl, a1, WC.cl, WC.size, a2, .ref p, .list (is.map .int), n, rfl, by omega, .lst hp (dp_ints is), .inl ⟨_, hgl, fun H1 q s1 hq hq1 => ?_⟩⟩
    rw [← vI] at hq1
    have lpl : pl.length = m := by rw [epl, List.length_map, List.length_range]
    have hne : (!(pl.map vInt).isEmpty) = true := by
      cases e : pl with
      | nil => rw [e] at lpl; exact absurd lpl (by show ¬ 0 = m; omega)
      | cons _ _ => rfl
    refine ⟨_, rfl, _, .inr (.inl ⟨_, SqT.of hq1, rfl⟩), ?_⟩
    rw [hne]
    refine iteF ⟨_, rfl, q, _, rfl, SqT.of hq1, fun D hD => ?_⟩
    refine dc_enumT (K := K) (a := q) (xs := pl.map vInt) (fun i H' => Same H1 H' ∧ H' D = some (.dK (callK a i))) ⟨same_new hD, upd_same⟩ (fun i H' _ h => SqT.of (h.1 _ _ hq1)) ?_ ?_
    · rintro i z H2 U hz ⟨sm, hD2⟩ hU
      have hz2 := List.getElem?_map (f := vInt) (l := pl) (i := i)
      rw [hz] at hz2
      obtain ⟨y, hy, rfl⟩ := Option.map_eq_some_iff.mp hz2.symm
      have hi : i < m := by
        have := (List.getElem?_eq_some_iff.mp hy).1
        omega
      have ey : y = a + i := by
        rw [epl, List.getElem?_map, List.getElem?_range hi] at hy
        exact (Option.some.inj hy).symm
      subst ey
      have e2 := same_new (o := .tup [V.int (i : Nat), vInt (a + i)]) hU
      refine ⟨U, _, rfl, SqT.of upd_same, rfl, _, _, rfl, _, _, rfl, rfl, rfl, _, rfl, _, rfl, _, (Sum.inl ((a + i : Nat) : Int) : Key), rfl, e2 _ _ hD2, ?_, same_upd (sm.trans e2) hD, ?_⟩
      · unfold callK
        rw [List.length_map, List.length_range]
        exact below (m := 200) (by omega)
      · rw [upd_same, callK_snoc]
        refine congrArg (fun z => some (HO.dK z)) (putK_new _ ?_)
        rw [valV_call, if_neg (by omega)]
    rintro H2 ⟨sm, hD2⟩
    rw [List.length_map, lpl] at hD2
    have s2 := s1.trans sm
    refine ⟨_, rfl, x, C, dx, fs, _, rfl, s2 _ _ a1, WC.cl, WC.arrows, a3, l, rfl, ⟨_, SqT.of (s2 _ _ a6)⟩, fun G hG => ?_⟩
    have hal := good_len hgood n2
    have hts : ts.length = ar.length := a7.len
    refine lc_tup (K := K) (a := l) (xs := ts) (fun i H' => Same H2 H' ∧ ∃ ys, H' G = some (.lst ys) ∧ Al (PairAt H') ys (subArr (ar.take i) a m) ∧ ys.length ≤ i) ⟨same_new hG, [], upd_same, trivial, Nat.le_refl _⟩ (fun i H' _ h => SqT.of ((s2.trans h.1) _ _ a6)) ?_ ?_
    · rintro i z H3 hz ⟨sm3, ys, hY, hYA, hyl⟩
      obtain ⟨e, he, hze⟩ := a7.get hz
      obtain ⟨u, rfl, hu⟩ := hze
      have hi : i < ar.length := (List.getElem?_eq_some_iff.mp he).1
      have ee : ar[i] = e := (List.getElem?_eq_some_iff.mp he).2
      have s3 := s2.trans sm3
      have hD3 := sm3 _ _ hD2
      rw [take_more hi, ee, subArr_snoc]
      have some1 : ∀ y : Nat, (valV (callK a m) (Sum.inl (y : Int) : Key)).isSome = decide (a ≤ y ∧ y < a + m) := fun y => by
        rw [valV_call]
        by_cases c : a ≤ y ∧ y < a + m
        · rw [if_pos c, decide_eq_true c]
          rfl
        · rw [if_neg c, decide_eq_false c]
          rfl
      refine ⟨u, _, rfl, SqT.of (s3 _ _ hu), rfl, _, _, rfl, _, _, rfl, rfl, rfl, ?_⟩
      refine ⟨_, rfl, _, rfl, D, _, rfl, DGet.k (k := (Sum.inl ((e.1 : Nat) : Int) : Key)) hD3, _, rfl, ?_⟩
      rw [some1]
      have stay : ¬ (a ≤ e.1 ∧ e.1 < a + m ∧ a ≤ e.2 ∧ e.2 < a + m) → Same H2 H3 ∧ ∃ ys, H3 G = some (.lst ys) ∧ Al (PairAt H3) ys (subArr (ar.take i) a m ++ (if a ≤ e.1 ∧ e.1 < a + m ∧ a ≤ e.2 ∧ e.2 < a + m then [(e.1 - a, e.2 - a)] else [])) ∧ ys.length ≤ i + 1 := fun z => by
        rw [if_neg z, List.append_nil]
        exact ⟨sm3, ys, hY, hYA, by omega⟩
      by_cases c1 : a ≤ e.1 ∧ e.1 < a + m
      · rw [decide_eq_true c1]
        refine iteT ⟨_, rfl, _, rfl, D, _, rfl, DGet.k (k := (Sum.inl ((e.2 : Nat) : Int) : Key)) hD3, _, rfl, ?_⟩
        rw [some1]
        by_cases c2 : a ≤ e.2 ∧ e.2 < a + m
        · rw [decide_eq_true c2]
          refine iteT ⟨_, rfl, _, rfl, D, _, rfl, (by have := DGet.k (k := (Sum.inl ((e.1 : Nat) : Int) : Key)) hD3; rw [valV_call, if_pos c1] at this; exact this), _, rfl, _, rfl, D, _, rfl, (by have := DGet.k (k := (Sum.inl ((e.2 : Nat) : Int) : Key)) hD3; rw [valV_call, if_pos c2] at this; exact this), small (m := 2) (Nat.le_refl _), fun t ht => ?_⟩
          have e4 := same_new (o := .tup [vInt (e.1 - a), vInt (e.2 - a)]) ht
          have hY4 := e4 _ _ hY
          have t5 : Tups _ (upd (upd H3 t (.tup [vInt (e.1 - a), vInt (e.2 - a)])) G (.lst (ys ++ [.ref t]))) := Tups.upd hY4
          refine ⟨_, hY4, below (m := 200) (by omega), same_upd (sm3.trans e4) hG, ys ++ [.ref t], upd_same, ?_, by rw [List.length_append]; show ys.length + 1 ≤ _; omega⟩
          rw [if_pos ⟨c1.1, c1.2, c2⟩]
          exact Al.append (ys := [.ref t]) (bs := [(e.1 - a, e.2 - a)]) (hYA.imp fun _ _ h => h.tups ((Tups.of e4).trans t5)) ⟨⟨t, rfl, t5 _ _ upd_same⟩, trivial⟩
        · rw [decide_eq_false c2]
          exact iteF (stay fun z => c2 z.2.2)
      · rw [decide_eq_false c1]
        exact iteF (stay fun z => c1 ⟨z.1, z.2.1⟩)
    rintro H3 ⟨sm3, ys, hY, hYA, hyl⟩
    rw [hts, List.take_length] at hYA
    have s3 := s2.trans sm3
    refine ⟨_, rfl, q, _, rfl, .inr (SqT.of ((sm.trans sm3) _ _ hq1)), _, rfl, fun y dz hy hdz hne => ?_⟩
    have mk := made_new (C := C) hy hdz
    refine ⟨y, dz, G, ys, _, m, (by rw [List.length_map, lpl]; rfl), upd_same, by rw [upd_ne hne]; exact upd_same, mk _ _ hY, hYA.imp fun _ _ h => h.tups (Tups.of mk), sub_good hgood, hm, by omega, fun H5 br k5 pm hB => ⟨rfl, k H5 y br (s3.trans (made_same hy hdz k5)) hB pm⟩⟩
end
end Fam

/-! Benches. -/
namespace L2
open PySem PySem.Spec PyProof.Rows
/-- x >= y, whole numbers or pairs of them -/
def rGe2 (K : PySem.W.Frag) : R2 := fun x y H Q => (∃ i j : Int, x = .int i ∧ y = .int j ∧ Q (.bl (decide (j ≤ i))) H) ∨
  ∃ (a b : Addr) (x1 x2 y1 y2 : Int), x = .ref a ∧ y = .ref b ∧ SqT K H a ([x1, x2].map V.int) ∧ SqT K H b ([y1, y2].map V.int) ∧ Q (.bl (decide (y1 < x1 ∨ y1 = x1 ∧ y2 ≤ x2))) H
theorem op_ge2 {X : Cx} (hu : X.A.units < cLine) : OpR X (compareOp .GtE) (rGe2 X.K) := by
  intro pins s σ H x y v u Q I rx ry h
  rcases h with ⟨i, j, rfl, rfl, q⟩ | ⟨a, b, x1, x2, y1, y2, rfl, rfl, ha, hb, q⟩
  · exact op_ge pins s σ H _ _ v u Q I rx ry ⟨i, j, rfl, rfl, q⟩
  · cases rx
    cases ry
    obtain ⟨its, r1, p1, _⟩ := I.tuple ha
    obtain ⟨its2, r2, p2, _⟩ := I.tuple hb
    obtain ⟨u1, u2, rfl, q1, q2⟩ := vals2 r1
    obtain ⟨w1, w2, rfl, q3, q4⟩ := vals2 r2
    obtain ⟨t1, rfl⟩ := q1
    obtain ⟨t2, rfl⟩ := q2
    obtain ⟨t3, rfl⟩ := q3
    obtain ⟨t4, rfl⟩ := q4
    have R := Ob.RcOp.tuples_ge (A := X.A) (s := s) (e := fun j => if j = 0 then decide (x1 = y1) else decide (x2 = y2)) (r := fun j => if j = 0 then decide (y1 ≤ x1) else decide (y2 ≤ x2)) p1 p2 hu (fun j h1 h2 => by
        have hj : j = 0 ∨ j = 1 := by
          have : j < 2 := h1
          omega
        rcases hj with rfl | rfl
        · have := (SeqAt.EqAt.int_int _ _ _ _ : SeqAt.EqAt X.A.in1 s (.int x1 t1) (.int y1 t3) (x1 == y1))
          have z : (x1 == y1) = decide (x1 = y1) := by rw [Bool.eq_iff_iff, beq_iff_eq, decide_eq_true_eq]
          rw [z] at this
          exact this
        · have := (SeqAt.EqAt.int_int _ _ _ _ : SeqAt.EqAt X.A.in1 s (.int x2 t2) (.int y2 t4) (x2 == y2))
          have z : (x2 == y2) = decide (x2 = y2) := by rw [Bool.eq_iff_iff, beq_iff_eq, decide_eq_true_eq]
          rw [z] at this
          exact this) (fun j h1 h2 _ => by
        have hj : j = 0 ∨ j = 1 := by
          have : j < 2 := h1
          omega
        rcases hj with rfl | rfl
        · exact Ob.RcOp.ge_int x1 y1 t1 t3
        · exact Ob.RcOp.ge_int x2 y2 t2 t4)
    have e : Ob.lexAt (fun j => if j = 0 then decide (x1 = y1) else decide (x2 = y2)) (fun j => if j = 0 then decide (y1 ≤ x1) else decide (y2 ≤ x2)) (decide ([Value.int x1 t1, Value.int x2 t2].toArray.size ≥ [Value.int y1 t3, Value.int y2 t4].toArray.size)) 0 (min [Value.int x1 t1, Value.int x2 t2].toArray.size [Value.int y1 t3, Value.int y2 t4].toArray.size) = decide (y1 < x1 ∨ y1 = x1 ∧ y2 ≤ x2) := by
      show (if decide (x1 = y1) = true then (if decide (x2 = y2) = true then true else decide (y2 ≤ x2)) else decide (y1 ≤ x1)) = _
      by_cases c1 : x1 = y1
      · rw [if_pos (decide_eq_true c1)]
        by_cases c2 : x2 = y2
        · rw [if_pos (decide_eq_true c2), decide_eq_true (by omega)]
        · rw [if_neg (fun z => c2 (of_decide_eq_true z)), decide_eq_decide]
          omega
      · rw [if_neg (fun z => c1 (of_decide_eq_true z)), decide_eq_decide]
        omega
    rw [e] at R
    exact R X.prog X.w X.xe (EP X pins σ Q) ⟨.bl _, H, I, rfl, q⟩
end L2
namespace Fam
open PySem L2 S5
open C8 (pss_cut tCut)
structure Jn where
  fore : List Arr
  back : List Arr
  left : List Nat
  right : List Nat
structure Bn where
  labels : Nat
  starts : List Nat
  joins : List Jn
def PrsAt (H : Hp) (v : V) (as : List Arr) : Prop := ∃ p xs, v = .ref p ∧ H p = some (.tup xs) ∧ Al (PairAt H) xs as
theorem PrsAt.tups {H H' : Hp} (k : Tups H H') {v : V} {as : List Arr} (h : PrsAt H v as) : PrsAt H' v as := by
  obtain ⟨p, xs, e, h1, h2⟩ := h
  exact ⟨p, xs, e, k _ _ h1, h2.imp fun _ _ h => h.tups k⟩
def JnAt (H : Hp) (v : V) (j : Jn) : Prop := ∃ p a b c d, v = .ref p ∧ H p = some (.tup [a, b, c, d]) ∧ PrsAt H a j.fore ∧ PrsAt H b j.back ∧ PlacesAt H c j.left ∧ PlacesAt H d j.right
theorem JnAt.tups {H H' : Hp} (k : Tups H H') {v : V} {j : Jn} (h : JnAt H v j) : JnAt H' v j := by
  obtain ⟨p, a, b, c, d, e, h1, h2, h3, h4, h5⟩ := h
  exact ⟨p, a, b, c, d, e, k _ _ h1, h2.tups k, h3.tups k, PlacesAt.tups k h4, PlacesAt.tups k h5⟩
def JnsAt (H : Hp) (v : V) (js : List Jn) : Prop := ∃ p xs, v = .ref p ∧ H p = some (.tup xs) ∧ Al (JnAt H) xs js
theorem JnsAt.tups {H H' : Hp} (k : Tups H H') {v : V} {js : List Jn} (h : JnsAt H v js) : JnsAt H' v js := by
  obtain ⟨p, xs, e, h1, h2⟩ := h
  exact ⟨p, xs, e, k _ _ h1, h2.imp fun _ _ h => h.tups k⟩
def LabsOk (L : Nat) (l : List Nat) : Prop := (∀ x ∈ l, x < L) ∧ l.length ≤ 100
def PrsOk (L : Nat) (as : List Arr) : Prop := (∀ a ∈ as, a.1 < L ∧ a.2 < L) ∧ as.Pairwise plt ∧ as.length ≤ 100
structure JnOk (L : Nat) (j : Jn) : Prop where
  f : PrsOk L j.fore
  b : PrsOk L j.back
  l : LabsOk L j.left
  r : LabsOk L j.right
  ll : j.left.length = L
  lr : j.right.length = L
structure BnOk (b : Bn) : Prop where
  l1 : 1 ≤ b.labels
  l3 : b.labels ≤ 3
  s : LabsOk b.labels b.starts
  s1 : 1 ≤ b.starts.length
  sa : b.starts.Pairwise (· < ·)
  j1 : 1 ≤ b.joins.length
  j3 : b.joins.length ≤ 3
  j : ∀ j ∈ b.joins, JnOk b.labels j
def NoB (fs : List (Str × V)) : Prop := ∀ g : Str, g ≠ "labels" → g ≠ "starts" → g ≠ "joins" → fs.lookup g = none
/-- the bench b stands at x -/
structure BAt (C : Addr) (H : Hp) (x : Addr) (b : Bn) : Prop where
  ex : ∃ (dx : Addr) (fs : List (Str × V)) (vs vj : V), H x = some (.ins C dx fs) ∧ fs.lookup ("labels" : Str) = some (vInt b.labels) ∧ fs.lookup ("starts" : Str) = some vs ∧ fs.lookup ("joins" : Str) = some vj ∧ NoB fs ∧ PlacesAt H vs b.starts ∧ JnsAt H vj b.joins
  ok : BnOk b
theorem BAt.same {C : Addr} {H H' : Hp} {x : Addr} {b : Bn} (h : BAt C H x b) (s : Same H H') : BAt C H' x b := by
  obtain ⟨⟨dx, fs, vs, vj, a1, a2, a3, a4, a5, a6, a7⟩, r⟩ := h
  exact ⟨⟨dx, fs, vs, vj, s _ _ a1, a2, a3, a4, a5, PlacesAt.tups (Tups.of s) a6, a7.tups (Tups.of s)⟩, r⟩
theorem BAt.keep {C : Addr} {H H' : Hp} {a x : Addr} {b : Bn} {ys : List V} (h : BAt C H x b) (ha : H a = some (.lst ys)) (k : Kp a H H') : BAt C H' x b := by
  obtain ⟨⟨dx, fs, vs, vj, a1, a2, a3, a4, a5, a6, a7⟩, r⟩ := h
  exact ⟨⟨dx, fs, vs, vj, k _ _ (ne_of a1 ha (by intro z; cases z)) a1, a2, a3, a4, a5, PlacesAt.tups (Tups.kp ha k) a6, a7.tups (Tups.kp ha k)⟩, r⟩
structure BenC (K : PySem.W.Frag) (C : Addr) : Prop where
  cl : Cls K C
  labels : NoAttr K C "labels"
  starts : NoAttr K C "starts"
  joins : NoAttr K C "joins"
def spAsc : Sp := fun vs H Q _ => ∃ p : Addr, vs = [.ref p] ∧ ((∃ l : List Nat, H p = some (.tup (l.map vInt)) ∧ l.length ≤ 100 ∧ l.Pairwise (· < ·)) ∨ ∃ (xs : List V) (as : List Arr), H p = some (.tup xs) ∧ Al (PairAt H) xs as ∧ as.length ≤ 100 ∧ as.Pairwise plt) ∧ Q (.bl true) H
def spLabs : Sp := fun vs H Q _ => ∃ (v : V) (l : List Nat) (L : Nat), vs = [v, vInt L] ∧ PlacesAt H v l ∧ LabsOk L l ∧ ∀ H', Same H H' → Q (.bl true) H'
def spPrs : Sp := fun vs H Q _ => ∃ (v : V) (as : List Arr) (L : Nat), vs = [v, vInt L] ∧ PrsAt H v as ∧ PrsOk L as ∧ ∀ H', Same H H' → Q (.bl true) H'
def spStarts : Sp := fun vs H Q _ => ∃ (v : V) (l : List Nat) (L : Nat), vs = [v, vInt L] ∧ PlacesAt H v l ∧ LabsOk L l ∧ 1 ≤ l.length ∧ l.Pairwise (· < ·) ∧ ∀ H', Same H H' → Q (.bl true) H'
def spIsJoin : Sp := fun vs H Q _ => ∃ (v : V) (j : Jn) (L : Nat), vs = [v, vInt L] ∧ JnAt H v j ∧ JnOk L j ∧ ∀ H', Same H H' → Q (.bl true) H'
def spJoins : Sp := fun vs H Q _ => ∃ (v : V) (js : List Jn) (L : Nat), vs = [v, vInt L] ∧ JnsAt H v js ∧ (∀ j ∈ js, JnOk L j) ∧ 1 ≤ js.length ∧ js.length ≤ 3 ∧ ∀ H', Same H H' → Q (.bl true) H'
def spBenchInit (C : Addr) : Sp := fun vs H Q _ => ∃ (x dx : Addr) (b : Bn) (v w : V), vs = [.ref x, vInt b.labels, v, w] ∧ H x = some (.ins C dx []) ∧ H dx = some (.own x) ∧ PlacesAt H v b.starts ∧ JnsAt H w b.joins ∧ BnOk b ∧
  ∀ H' : Hp, (∀ y o, y ≠ x → y ≠ dx → H y = some o → H' y = some o) → BAt C H' x b → Q .non H'
def spBenLen (C : Addr) : Sp := fun vs H Q _ => ∃ (x : Addr) (b : Bn), vs = [.ref x] ∧ BAt C H x b ∧ Q (vInt b.joins.length) H
theorem all_true (n : Nat) : (List.replicate n true).all id = true := by
  rw [List.all_eq_true]
  intro x hx
  exact (List.mem_replicate.mp hx).2
theorem rep_snoc (n : Nat) : (List.replicate (n + 1) true).map V.bl = (List.replicate n true).map V.bl ++ [V.bl true] := by
  rw [List.replicate_succ', List.map_append]
  rfl
section
variable {P : Program} {w : World} {K : PySem.W.Frag} {mg : Str → Option Value} {base : Heap} {C : Addr}
abbrev nIA : List Str := ["row", "i"]
theorem scIA : FnScope nIA ["row"] (defScope sIsAscending) := ⟨rfl, rfl, rfl, by decide +kernel, rfl, by decide +kernel, by decide +kernel⟩
theorem ok_is_ascending {f : Addr} {fd : FuncData} (F : Fun K "is_ascending" "is_ascending" sIsAscending f fd) (T : Bare mg) : FnOk P w K mg base CX0 1 f fd ["row"] spAsc := by
  refine F.ok scIA (fun vs H Q E h => ?_) (fun cdv A outer s H vs Q E hr h => ?_)
  · obtain ⟨p, rfl, _⟩ := h
    rfl
  · obtain ⟨p, rfl, h, k⟩ := h
    refine ⟨_, (pss_cons (ps_for PassesOwn.never rfl (pi_range2 rfl T.range (pa_cons pe_int (pa_cons (pe_callB call_len_seq (by rfl) T.len PySem.boot_len (pa_cons (pv 0) pa_nil)) pa_nil))) (pg_name (i := 1) scIA.nd rfl (Or.inl rfl))
          (pss_one (ps_if (pt_cmpR (op_ge2 hr.units0) (pe_ix ix_tup (pv 0) (pe_op op_sub (pv 1) pe_int) (fun _ _ => rfl)) (pe_ix ix_tup (pv 0) (pv 1) (fun _ _ => rfl)) (nomark _)) (pss_one (ps_ret pe_bl)) pss_nil)))
      (pss_one (ps_ret pe_bl))), ?_⟩
    rcases h with ⟨l, hp, hl, ha⟩ | ⟨xs, as, hp, hA, hl, ha⟩
    · refine ⟨_, rfl, p, _, rfl, .inr (SqT.of hp), _, _, rfl, by rw [List.length_map]; omega, ?_⟩
      rw [List.length_map]
      refine for_range (lo := 1) (n := ((l.length : Int) - 1).toNat) (fun i σ H' => H' = H ∧ ∃ y, σ = [some (.ref p), y]) ⟨rfl, none, rfl⟩ ?_ ?_
      · rintro i σ H1 hi ⟨rfl, y, rfl⟩
        have h1 : i < l.length := by omega
        have h2 : i + 1 < l.length := by omega
        have q := List.pairwise_iff_getElem.mp ha i (i + 1) h1 h2 (by omega)
        have e1 : ((1 : Int) + i - 1) = ((i : Nat) : Int) := by omega
        have e2 : ((1 : Int) + i) = ((i + 1 : Nat) : Int) := by omega
        refine ⟨_, rfl, _, rfl, _, _, rfl, rfl, p, _, _, vInt l[i], rfl, rfl, SqT.of hp, ?_, _, rfl, _, rfl, p, _, _, vInt l[i + 1], rfl, rfl, SqT.of hp, ?_, .inl ⟨_, _, rfl, rfl, _, rfl, ?_⟩⟩
        · rw [e1]
          exact atI_nat (by rw [List.getElem?_map, List.getElem?_eq_getElem h1]; rfl)
        · rw [e2]
          exact atI_nat (by rw [List.getElem?_map, List.getElem?_eq_getElem h2]; rfl)
        · rw [decide_eq_false (by omega)]
          exact iteF ⟨rfl, _, rfl⟩
      · rintro σ H1 ⟨rfl, y, rfl⟩
        exact k
    · have hl2 := hA.len
      refine ⟨_, rfl, p, _, rfl, .inr (SqT.of hp), _, _, rfl, by omega, ?_⟩
      refine for_range (lo := 1) (n := ((xs.length : Int) - 1).toNat) (fun i σ H' => H' = H ∧ ∃ y, σ = [some (.ref p), y]) ⟨rfl, none, rfl⟩ ?_ ?_
      · rintro i σ H1 hi ⟨rfl, y, rfl⟩
        have h1 : i < as.length := by omega
        have h2 : i + 1 < as.length := by omega
        have q := List.pairwise_iff_getElem.mp ha i (i + 1) h1 h2 (by omega)
        have e1 : ((1 : Int) + i - 1) = ((i : Nat) : Int) := by omega
        have e2 : ((1 : Int) + i) = ((i + 1 : Nat) : Int) := by omega
        obtain ⟨v1, hv1, u1, rfl, hu1⟩ := hA.get2 (List.getElem?_eq_getElem h1)
        obtain ⟨v2, hv2, u2, rfl, hu2⟩ := hA.get2 (List.getElem?_eq_getElem h2)
        refine ⟨_, rfl, _, rfl, _, _, rfl, rfl, p, _, _, .ref u1, rfl, rfl, SqT.of hp, ?_, _, rfl, _, rfl, p, _, _, .ref u2, rfl, rfl, SqT.of hp, ?_, .inr ⟨u1, u2, as[i].1, as[i].2, as[i + 1].1, as[i + 1].2, rfl, rfl, SqT.of hu1, SqT.of hu2, _, rfl, ?_⟩⟩
        · rw [e1]
          exact atI_nat hv1
        · rw [e2]
          exact atI_nat hv2
        · rw [decide_eq_false (by unfold plt at q; omega)]
          exact iteF ⟨rfl, _, rfl⟩
      · rintro σ H1 ⟨rfl, y, rfl⟩
        exact k
abbrev nAL : List Str := ["row", "labels", "label"]
theorem scAL : FnScope nAL ["row", "labels"] (defScope sAreLabels) := ⟨rfl, rfl, rfl, by decide +kernel, rfl, by decide +kernel, by decide +kernel⟩
theorem ok_are_labels {f : Addr} {fd : FuncData} (F : Fun K "are_labels" "are_labels" sAreLabels f fd) (T : Bare mg) (T2 : Bare2 mg) (GB : Cal P w K mg base 2 "is_between" ["value", "low", "high"] (spBetweenD K)) : FnOk P w K mg base CX0 3 f fd ["row", "labels"] spLabs := by
  obtain ⟨_, _, ok_bt, b_bt, k_bt, m_bt⟩ := GB.ex
  refine F.ok scAL (fun vs H Q E h => ?_) (fun cdv A outer s H vs Q E hr h => ?_)
  · obtain ⟨v, l, L, rfl, _⟩ := h
    rfl
  · obtain ⟨v, l, L, rfl, ⟨p, rfl, hp⟩, hl, k⟩ := h
    have hr_bt := hr
    refine ⟨_, (pss_cons (ps_if (pt_not (pt_val (pe_callB call_isi (by rfl) T.isi (by decide +kernel) (pa_cons (pv 0) (pa_cons (pe_ty (n := "tuple") (by rfl) T.tuple (by decide +kernel)) pa_nil))))) (pss_one (ps_ret pe_bl)) pss_nil)
      (pss_one (ps_ret (pe_callB (cr_all rfl : CallR _ _ (rAll K)) (by rfl) T2.all PyProof.Rows.boot_all (pa_cons (pe_lc (own := [("label", 2)]) (g := gName 2) (tt := tYes) rfl scAL.nd (pi_tup (pv 0)) (blkOk_by (own := [("label", 2)]) (N := nAL) (sc := defScope sAreLabels) (by decide +kernel)) (fun _ _ _ _ _ => pg_name (i := 2) scAL.nd rfl (Or.inl rfl)) (fun _ _ _ _ _ => pts_nil) (fun _ _ _ _ _ => pe_call ok_bt hr_bt rfl m_bt k_bt b_bt .nil pass0 (pa_cons (pv 2) (pa_cons pe_int (pa_cons (pe_op op_sub (pv 1) pe_int) pa_nil))))) pa_nil))))), ?_⟩
    refine ⟨_, rfl, _, _, _, _, true, rfl, .ty _, .base (.tup hp), kit_ty (by decide +kernel), _, rfl, iteF ?_⟩
    refine ⟨_, rfl, p, rfl, ⟨_, SqT.of hp⟩, fun D hD => ?_⟩
    refine lc_tup (K := K) (a := p) (xs := l.map vInt) (fun i H' => Same H H' ∧ H' D = some (.lst ((List.replicate i true).map V.bl))) ⟨same_new hD, upd_same⟩ (fun i H' _ h => SqT.of (h.1 _ _ hp)) ?_ ?_
    · rintro i x H1 hx ⟨sm, hD1⟩
      obtain ⟨hi, rfl⟩ := item hx
      have hlt := hl.1 _ (List.getElem_mem hi)
      have b1 : betD (.int (l[i] : Int)) 0 ((L : Int) - 1) = true := decide_eq_true ⟨by omega, by omega⟩
      refine ⟨rfl, _, rfl, _, rfl, _, _, rfl, rfl, vInt l[i], .int l[i], 0, _, rfl, .int _, _, hD1, ?_, same_upd sm hD, ?_⟩
      · have := hl.2
        exact below (m := 200) (by rw [List.length_map, List.length_replicate]; omega)
      · rw [upd_same, b1, rep_snoc]
    · rintro H1 ⟨sm, hD1⟩
      refine ⟨D, _, rfl, SqL.of hD1, ?_⟩
      rw [all_true]
      exact k _ sm
abbrev nST : List Str := ["starts", "labels"]
theorem scST : FnScope nST ["starts", "labels"] (defScope sAreStarts) := ⟨rfl, rfl, rfl, by decide +kernel, rfl, by decide +kernel, by decide +kernel⟩
theorem ok_are_starts {f : Addr} {fd : FuncData} (F : Fun K "are_starts" "are_starts" sAreStarts f fd) (T : Bare mg) (GL : Cal P w K mg base 3 "are_labels" ["row", "labels"] spLabs) (GA : Cal P w K mg base 1 "is_ascending" ["row"] spAsc) : FnOk P w K mg base CX0 4 f fd ["starts", "labels"] spStarts := by
  obtain ⟨_, _, ok_al, b_al, k_al, m_al⟩ := GL.ex
  obtain ⟨_, _, ok_as, b_as, k_as, m_as⟩ := GA.ex
  refine F.ok scST (fun vs H Q E h => ?_) (fun cdv A outer s H vs Q E hr h => ?_)
  · obtain ⟨v, l, L, rfl, _⟩ := h
    rfl
  · obtain ⟨v, l, L, rfl, hv, hl, h1, ha, k⟩ := h
    have hr_al := hr
    have hr_as := hr.mono (j := 1) (by decide)
    refine ⟨_, (pss_one (ps_ret (pe_and (pe_call ok_al hr_al rfl m_al k_al b_al .nil pass0 (pa_cons (pv 0) (pa_cons (pv 1) pa_nil))) (pe_and (pe_cmpR op_gt (pe_callB call_len_seq (by rfl) T.len PySem.boot_len (pa_cons (pv 0) pa_nil)) pe_int (nomark _)) (pe_one (pe_call ok_as hr_as rfl m_as k_as b_as .nil pass0 (pa_cons (pv 0) pa_nil))))))), ?_⟩
    refine ⟨_, rfl, _, rfl, v, l, L, rfl, hv, hl, fun H1 s1 => ⟨_, rfl, iteT ?_⟩⟩
    obtain ⟨p, rfl, hp⟩ := id hv
    have hp1 := s1 _ _ hp
    refine ⟨_, rfl, p, _, rfl, .inr (SqT.of hp1), _, _, rfl, rfl, _, rfl, ?_⟩
    rw [decide_eq_true (by rw [List.length_map]; omega)]
    exact iteT ⟨_, rfl, p, rfl, .inl ⟨l, hp1, hl.2, ha⟩, k _ s1⟩
abbrev nAP : List Str := ["pairs", "labels", "pair"]
theorem scAP : FnScope nAP ["pairs", "labels"] (defScope sArePairs) := ⟨rfl, rfl, rfl, by decide +kernel, rfl, by decide +kernel, by decide +kernel⟩
theorem ok_are_pairs {f : Addr} {fd : FuncData} (F : Fun K "are_pairs" "are_pairs" sArePairs f fd) (T : Bare mg) (GL : Cal P w K mg base 3 "are_labels" ["row", "labels"] spLabs) (GA : Cal P w K mg base 1 "is_ascending" ["row"] spAsc) : FnOk P w K mg base CX0 4 f fd ["pairs", "labels"] spPrs := by
  obtain ⟨_, _, ok_al, b_al, k_al, m_al⟩ := GL.ex
  obtain ⟨_, _, ok_as, b_as, k_as, m_as⟩ := GA.ex
  refine F.ok scAP (fun vs H Q E h => ?_) (fun cdv A outer s H vs Q E hr h => ?_)
  · obtain ⟨v, as, L, rfl, _⟩ := h
    rfl
  · obtain ⟨v, as, L, rfl, ⟨p, xs, rfl, hp, hA⟩, ⟨h1, h2, h3⟩, k⟩ := h
    have hr_al := hr
    have hr_as := hr.mono (j := 1) (by decide)
    refine ⟨_, (pss_cons (ps_if (pt_not (pt_val (pe_callB call_isi (by rfl) T.isi (by decide +kernel) (pa_cons (pv 0) (pa_cons (pe_ty (n := "tuple") (by rfl) T.tuple (by decide +kernel)) pa_nil))))) (pss_one (ps_ret pe_bl)) pss_nil)
      (pss_cons (ps_for PassesOwn.never rfl (pi_tup (pv 0)) (pg_name (i := 2) scAP.nd rfl (Or.inl rfl))
          (pss_one (ps_if (PW.pt (pw_or (pt_not (pt_val (pe_call ok_al hr_al rfl m_al k_al b_al .nil pass0 (pa_cons (pv 2) (pa_cons (pv 1) pa_nil))))) (pw_or1 (pt_cmpR op_ne (pe_callB call_len_seq (by rfl) T.len PySem.boot_len (pa_cons (pv 2) pa_nil)) pe_int (nomark _))))) (pss_one (ps_ret pe_bl)) pss_nil)))
      (pss_one (ps_ret (pe_call ok_as hr_as rfl m_as k_as b_as .nil pass0 (pa_cons (pv 0) pa_nil)))))), ?_⟩
    refine ⟨_, rfl, _, _, _, _, true, rfl, .ty _, .base (.tup hp), kit_ty (by decide +kernel), _, rfl, iteF ?_⟩
    refine ⟨_, rfl, p, rfl, ⟨_, SqT.of hp⟩, for_tup (K := K) (a := p) (xs := xs) (fun i σ H' => Same H H' ∧ ∃ y, σ = [some (.ref p), some (vInt L), y]) ⟨Same.refl _, none, rfl⟩ (fun i σ H' _ h => SqT.of (h.1 _ _ hp)) ?_ ?_⟩
    · rintro i x σ H1 hx ⟨sm, y, rfl⟩
      obtain ⟨a, ha, hxa⟩ := hA.get hx
      have hxa1 := hxa.tups (Tups.of sm)
      obtain ⟨g1, g2⟩ := h1 a (List.mem_of_getElem? ha)
      refine ⟨_, rfl, _, rfl, x, prL a, L, rfl, hxa1, ⟨fun z hz => ?_, (by show 2 ≤ 100; decide)⟩, fun H2 s2 => ⟨_, rfl, iteF ?_⟩⟩
      · rcases List.mem_cons.mp hz with e | e
        · rw [e]; exact g1
        · rw [List.mem_singleton.mp e]; exact g2
      · obtain ⟨u, rfl, hu⟩ := hxa1
        exact ⟨_, rfl, u, _, rfl, .inr (SqT.of (s2 _ _ hu)), rfl, _, rfl, iteF ⟨sm.trans s2, _, rfl⟩⟩
    · rintro σ H1 ⟨sm, y, rfl⟩
      exact ⟨_, rfl, p, rfl, .inr ⟨xs, as, sm _ _ hp, hA.imp fun _ _ h => h.tups (Tups.of sm), h3, h2⟩, k _ sm⟩
abbrev nIJ : List Str := ["join", "labels", "fore", "back", "left", "right"]
theorem scIJ : FnScope nIJ ["join", "labels"] (defScope sIsJoin) := ⟨rfl, rfl, rfl, by decide +kernel, rfl, by decide +kernel, by decide +kernel⟩
theorem ok_is_join {f : Addr} {fd : FuncData} (F : Fun K "is_join" "is_join" sIsJoin f fd) (T : Bare mg) (GL : Cal P w K mg base 3 "are_labels" ["row", "labels"] spLabs) (GP : Cal P w K mg base 4 "are_pairs" ["pairs", "labels"] spPrs) : FnOk P w K mg base CX0 5 f fd ["join", "labels"] spIsJoin := by
  obtain ⟨_, _, ok_al, b_al, k_al, m_al⟩ := GL.ex
  obtain ⟨_, _, ok_ap, b_ap, k_ap, m_ap⟩ := GP.ex
  refine F.ok scIJ (fun vs H Q E h => ?_) (fun cdv A outer s H vs Q E hr h => ?_)
  · obtain ⟨v, j, L, rfl, _⟩ := h
    rfl
  · obtain ⟨v, j, L, rfl, ⟨p, a, b, c, d, rfl, hp, ha, hb, hc, hd⟩, hj, k⟩ := h
    have hr_ap := hr
    have hr_al := hr.mono (j := 3) (by decide)
    refine ⟨_, (pss_cons (ps_if (PW.pt (pw_or (pt_not (pt_val (pe_callB call_isi (by rfl) T.isi (by decide +kernel) (pa_cons (pv 0) (pa_cons (pe_ty (n := "tuple") (by rfl) T.tuple (by decide +kernel)) pa_nil))))) (pw_or1 (pt_cmpR op_ne (pe_callB call_len_seq (by rfl) T.len PySem.boot_len (pa_cons (pv 0) pa_nil)) pe_int (nomark _))))) (pss_one (ps_ret pe_bl)) pss_nil)
      (pss_cons (ps_asg (pv 0) (pg_tup rfl (pgs_cons (pg_name (i := 2) scIJ.nd rfl (Or.inl rfl)) (pgs_cons (pg_name (i := 3) scIJ.nd rfl (Or.inl rfl)) (pgs_cons (pg_name (i := 4) scIJ.nd rfl (Or.inl rfl)) (pgs_cons (pg_name (i := 5) scIJ.nd rfl (Or.inl rfl)) pgs_nil))))))
      (pss_cons (ps_if (PW.pt (pw_or (pt_not (pt_val (pe_call ok_ap hr_ap rfl m_ap k_ap b_ap .nil pass0 (pa_cons (pv 2) (pa_cons (pv 1) pa_nil))))) (pw_or1 (pt_not (pt_val (pe_call ok_ap hr_ap rfl m_ap k_ap b_ap .nil pass0 (pa_cons (pv 3) (pa_cons (pv 1) pa_nil)))))))) (pss_one (ps_ret pe_bl)) pss_nil)
      (pss_cons (ps_if (PW.pt (pw_or (pt_not (pt_val (pe_call ok_al hr_al rfl m_al k_al b_al .nil pass0 (pa_cons (pv 4) (pa_cons (pv 1) pa_nil))))) (pw_or1 (pt_not (pt_val (pe_call ok_al hr_al rfl m_al k_al b_al .nil pass0 (pa_cons (pv 5) (pa_cons (pv 1) pa_nil)))))))) (pss_one (ps_ret pe_bl)) pss_nil)
      (pss_one (ps_ret (pe_and (pe_cmpR op_eq (pe_callB call_len_seq (by rfl) T.len PySem.boot_len (pa_cons (pv 4) pa_nil)) (pv 1) (nomark _)) (pe_one (pe_cmpR op_eq (pe_callB call_len_seq (by rfl) T.len PySem.boot_len (pa_cons (pv 5) pa_nil)) (pv 1) (nomark _)))))))))), ?_⟩
    refine ⟨_, rfl, _, _, _, _, true, rfl, .ty _, .base (.tup hp), kit_ty (by decide +kernel), _, rfl, iteF ⟨_, rfl, p, _, rfl, .inr (SqT.of hp), rfl, _, rfl, iteF ?_⟩⟩
    refine ⟨_, rfl, p, _, rfl, SqT.of hp, rfl, _, _, rfl, _, _, rfl, _, _, rfl, _, _, rfl, rfl, ?_⟩
    refine ⟨_, rfl, _, rfl, a, j.fore, L, rfl, ha, hj.f, fun H1 s1 => ⟨_, rfl, iteF ⟨_, rfl, _, rfl, b, j.back, L, rfl, hb.tups (Tups.of s1), hj.b, fun H2 s2 => ⟨_, rfl, iteF ?_⟩⟩⟩⟩
    have s12 := s1.trans s2
    refine ⟨_, rfl, _, rfl, c, j.left, L, rfl, PlacesAt.tups (Tups.of s12) hc, hj.l, fun H3 s3 => ⟨_, rfl, iteF ⟨_, rfl, _, rfl, d, j.right, L, rfl, PlacesAt.tups (Tups.of (s12.trans s3)) hd, hj.r, fun H4 s4 => ⟨_, rfl, iteF ?_⟩⟩⟩⟩
    have s14 := s12.trans (s3.trans s4)
    obtain ⟨u, rfl, hu⟩ := hc
    obtain ⟨z, rfl, hz⟩ := hd
    refine ⟨_, rfl, u, _, rfl, .inr (SqT.of (s14 _ _ hu)), _, rfl, rfl, _, rfl, ?_⟩
    rw [List.length_map, dec_nat, decide_eq_true hj.ll]
    refine iteT ⟨_, rfl, z, _, rfl, .inr (SqT.of (s14 _ _ hz)), _, rfl, rfl, ?_⟩
    rw [List.length_map, dec_nat, decide_eq_true hj.lr]
    exact k _ s14
abbrev nAJ : List Str := ["joins", "labels", "join"]
theorem scAJ : FnScope nAJ ["joins", "labels"] (defScope sAreJoins) := ⟨rfl, rfl, rfl, by decide +kernel, rfl, by decide +kernel, by decide +kernel⟩
theorem ok_are_joins {f : Addr} {fd : FuncData} (F : Fun K "are_joins" "are_joins" sAreJoins f fd) (T : Bare mg) (T2 : Bare2 mg) (m_MOST_JOINS : ∃ t, mg "MOST_JOINS" = some (.int 3 t)) (GJ : Cal P w K mg base 5 "is_join" ["join", "labels"] spIsJoin) : FnOk P w K mg base CX0 6 f fd ["joins", "labels"] spJoins := by
  obtain ⟨_, _, ok_ij, b_ij, k_ij, m_ij⟩ := GJ.ex
  obtain ⟨tm, m_MOST_JOINS⟩ := m_MOST_JOINS
  refine F.ok scAJ (fun vs H Q E h => ?_) (fun cdv A outer s H vs Q E hr h => ?_)
  · obtain ⟨v, js, L, rfl, _⟩ := h
    rfl
  · obtain ⟨v, js, L, rfl, ⟨p, xs, rfl, hp, hA⟩, hj, h1, h3, k⟩ := h
    have hr_ij := hr
    have hl := hA.len
    refine ⟨_, (pss_cons (ps_if (PW.pt (pw_or (pt_not (pt_val (pe_callB call_isi (by rfl) T.isi (by decide +kernel) (pa_cons (pv 0) (pa_cons (pe_ty (n := "tuple") (by rfl) T.tuple (by decide +kernel)) pa_nil))))) (pw_or1 (pt_not (pt_chain op_le op_le pe_int (pe_callB call_len_seq (by rfl) T.len PySem.boot_len (pa_cons (pv 0) pa_nil)) (pe_glob (v := .int 3) rfl m_MOST_JOINS ⟨_, rfl⟩)))))) (pss_one (ps_ret pe_bl)) pss_nil)
      (pss_one (ps_ret (pe_callB (cr_all rfl : CallR _ _ (rAll K)) (by rfl) T2.all PyProof.Rows.boot_all (pa_cons (pe_lc (own := [("join", 2)]) (g := gName 2) (tt := tYes) rfl scAJ.nd (pi_tup (pv 0)) (blkOk_by (own := [("join", 2)]) (N := nAJ) (sc := defScope sAreJoins) (by decide +kernel)) (fun _ _ _ _ _ => pg_name (i := 2) scAJ.nd rfl (Or.inl rfl)) (fun _ _ _ _ _ => pts_nil) (fun _ _ _ _ _ => pe_call ok_ij hr_ij rfl m_ij k_ij b_ij .nil pass0 (pa_cons (pv 2) (pa_cons (pv 1) pa_nil)))) pa_nil))))), ?_⟩
    refine ⟨_, rfl, _, _, _, _, true, rfl, .ty _, .base (.tup hp), kit_ty (by decide +kernel), _, rfl, iteF ⟨_, rfl, p, _, rfl, .inr (SqT.of hp), _, _, rfl, rfl, _, rfl, ?_⟩⟩
    rw [decide_eq_true (by omega)]
    refine iteT ⟨_, _, rfl, rfl, _, rfl, ?_⟩
    rw [decide_eq_true (by omega)]
    refine iteF ⟨_, rfl, p, rfl, ⟨_, SqT.of hp⟩, fun D hD => ?_⟩
    refine lc_tup (K := K) (a := p) (xs := xs) (fun i H' => Same H H' ∧ H' D = some (.lst ((List.replicate i true).map V.bl)) ∧ i ≤ xs.length) ⟨same_new hD, upd_same, Nat.zero_le _⟩ (fun i H' _ h => SqT.of (h.1 _ _ hp)) ?_ ?_
    · rintro i x H1 hx ⟨sm, hD1, _⟩
      obtain ⟨j, hji, hxj⟩ := hA.get hx
      have hi : i < xs.length := (List.getElem?_eq_some_iff.mp hx).1
      refine ⟨rfl, _, rfl, _, rfl, x, j, L, rfl, hxj.tups (Tups.of sm), hj j (List.mem_of_getElem? hji), fun H2 s2 => ⟨_, s2 _ _ hD1, ?_, same_upd (sm.trans s2) hD, ?_, hi⟩⟩
      · exact below (m := 200) (by rw [List.length_map, List.length_replicate]; omega)
      · rw [upd_same, rep_snoc]
    · rintro H1 ⟨sm, hD1, _⟩
      refine ⟨D, _, rfl, SqL.of hD1, ?_⟩
      rw [all_true]
      exact k _ sm
abbrev nBN : List Str := ["self", "labels", "starts", "joins"]
theorem scBN : FnScope nBN ["self", "labels", "starts", "joins"] (defScope sBench_init) := ⟨rfl, rfl, rfl, by decide +kernel, rfl, by decide +kernel, by decide +kernel⟩
theorem ok_bench_init {f : Addr} {fd : FuncData} (F : Fun K "__init__" "Bench.__init__" sBench_init f fd) (BC : BenC K C) (m_MOST_LABELS : ∃ t, mg "MOST_LABELS" = some (.int 3 t)) (GB : Cal P w K mg base 2 "is_between" ["value", "low", "high"] (spBetweenD K))
    (GS : Cal P w K mg base 4 "are_starts" ["starts", "labels"] spStarts) (GJ : Cal P w K mg base 6 "are_joins" ["joins", "labels"] spJoins) : FnOk P w K mg base CX0 7 f fd ["self", "labels", "starts", "joins"] (spBenchInit C) := by
  obtain ⟨_, _, ok_bt, b_bt, k_bt, m_bt⟩ := GB.ex
  obtain ⟨_, _, ok_st, b_st, k_st, m_st⟩ := GS.ex
  obtain ⟨_, _, ok_aj, b_aj, k_aj, m_aj⟩ := GJ.ex
  obtain ⟨tm, m_MOST_LABELS⟩ := m_MOST_LABELS
  refine F.ok scBN (fun vs H Q E h => ?_) (fun cdv A outer s H vs Q E hr h => ?_)
  · obtain ⟨x, dx, b, v, w, rfl, _⟩ := h
    rfl
  · obtain ⟨x, dx, b, v, w, rfl, hx, hdx, hv, hw, hb, k⟩ := h
    have hr_aj := hr
    have hr_bt := hr.mono (j := 2) (by decide)
    have hr_st := hr.mono (j := 4) (by decide)
    refine ⟨_, (pss_cons (ps_if (pt_not (pt_val (pe_call ok_bt hr_bt rfl m_bt k_bt b_bt .nil pass0 (pa_cons (pv 1) (pa_cons pe_int (pa_cons (pe_glob (v := .int 3) rfl m_MOST_LABELS ⟨_, rfl⟩) pa_nil)))))) (pss_one ps_never) pss_nil)
      (pss_cons (ps_if (pt_not (pt_val (pe_call ok_st hr_st rfl m_st k_st b_st .nil pass0 (pa_cons (pv 2) (pa_cons (pv 1) pa_nil))))) (pss_one ps_never) pss_nil)
      (pss_cons (ps_if (pt_not (pt_val (pe_call ok_aj hr_aj rfl m_aj k_aj b_aj .nil pass0 (pa_cons (pv 3) (pa_cons (pv 1) pa_nil))))) (pss_one ps_never) pss_nil)
      (pss_cons (ps_fld (pv 0) (pv 1) rfl)
      (pss_cons (ps_fld (pv 0) (pv 2) rfl)
      (pss_one (ps_fld (pv 0) (pv 3) rfl))))))), ?_⟩
    have b1 : betD (.int (b.labels : Int)) 1 3 = true := decide_eq_true ⟨by have := hb.l1; omega, by have := hb.l3; omega⟩
    refine ⟨_, rfl, vInt b.labels, .int b.labels, 1, 3, rfl, .int _, _, rfl, ?_⟩
    rw [b1]
    refine iteF ⟨_, rfl, _, rfl, v, b.starts, b.labels, rfl, hv, hb.s, hb.s1, hb.sa, fun H1 s1 => ⟨_, rfl, iteF ?_⟩⟩
    refine ⟨_, rfl, _, rfl, w, b.joins, b.labels, rfl, hw.tups (Tups.of s1), hb.j, hb.j1, hb.j3, fun H2 s2 => ⟨_, rfl, iteF ?_⟩⟩
    have s12 := s1.trans s2
    have hx2 := s12 _ _ hx
    refine ⟨_, rfl, _, rfl, x, C, dx, _, rfl, hx2, BC.cl, BC.labels, (by show 0 < 1000; decide), ?_⟩
    refine ⟨_, rfl, _, rfl, x, C, dx, _, rfl, upd_same, BC.cl, BC.starts, (by show 1 < 1000; decide), ?_⟩
    refine ⟨_, rfl, _, rfl, x, C, dx, _, rfl, upd_same, BC.cl, BC.joins, (by show 2 < 1000; decide), ?_⟩
    obtain ⟨H5, eH5⟩ : ∃ H5, H5 = upd (upd (upd H2 x (.ins C dx (putF "labels" (vInt b.labels) []))) x (.ins C dx (putF "starts" v (putF "labels" (vInt b.labels) [])))) x (.ins C dx (putF "joins" w (putF "starts" v (putF "labels" (vInt b.labels) [])))) := ⟨_, rfl⟩
    rw [← eH5]
    have keep : ∀ y o, y ≠ x → H2 y = some o → H5 y = some o := fun y o ne e => by
      rw [eH5, upd_ne ne, upd_ne ne, upd_ne ne]
      exact e
    have tu : Tups H2 H5 := fun q ys e => keep _ _ (ne_of e hx2 (by intro z; cases z)) e
    refine k H5 (fun y o n1 n2 e => keep _ _ n1 (s12 _ _ e)) ⟨⟨dx, _, v, w, by rw [eH5]; exact upd_same, ?_, ?_, lk_same, ?_, PlacesAt.tups ((Tups.of s12).trans tu) hv, hw.tups ((Tups.of s12).trans tu)⟩, hb⟩
    · exact (lk_ne (by decide +kernel)).trans ((lk_ne (by decide +kernel)).trans lk_same)
    · exact (lk_ne (by decide +kernel)).trans lk_same
    · exact fun g h1 h2 h3 => (lk_ne h3).trans ((lk_ne h2).trans ((lk_ne h1).trans rfl))
abbrev nBL : List Str := ["self"]
theorem scBL : FnScope nBL ["self"] (defScope sBench_len) := ⟨rfl, rfl, rfl, by decide +kernel, rfl, by decide +kernel, by decide +kernel⟩
theorem ok_bench_len {f : Addr} {fd : FuncData} (F : Fun K "__len__" "Bench.__len__" sBench_len f fd) (T : Bare mg) (BC : BenC K C) : FnOk P w K mg base CX0 1 f fd ["self"] (spBenLen C) := by
  refine F.ok scBL (fun vs H Q E h => ?_) (fun cdv A outer s H vs Q E hr h => ?_)
  · obtain ⟨x, b, rfl, _⟩ := h
    rfl
  · obtain ⟨x, b, rfl, hB, k⟩ := h
    refine ⟨_, (pss_one (ps_ret (pe_callB call_len_seq (by rfl) T.len PySem.boot_len (pa_cons (pe_fld (pv 0) rfl) pa_nil)))), ?_⟩
    obtain ⟨⟨dx, fs, vs, vj, a1, a2, a3, a4, a5, a6, p, xs, rfl, hp, hA⟩, _⟩ := id hB
    refine ⟨_, rfl, x, C, dx, fs, _, rfl, a1, BC.cl, BC.joins, a4, p, xs, rfl, .inr (SqT.of hp), ?_⟩
    rw [hA.len]
    exact k
end
end Fam

/-! is_leaf, is_joined, check_term, of any data. -/
namespace Fam
open PySem L2 S5
open C8 (pss_cut tCut)
def isTup : PyData → Bool
  | .tuple _ => true
  | _ => false
theorem tup_or {K : PySem.W.Frag} {H : Hp} {v : V} {d : PyData} (h : Dp K H v d) : (∃ ds p xs, d = .tuple ds ∧ v = .ref p ∧ SqT K H p xs ∧ DpAll K H xs ds) ∨ (isTup d = false ∧ TyX K H v (.type (tyName d)) ∧ kitB (tyName d) "tuple" = some false) := by
  have ht := dp_ty h
  cases h with
  | non => exact .inr ⟨rfl, ht, (show kitB "NoneType" "tuple" = some false by decide +kernel)⟩
  | bl b => exact .inr ⟨rfl, ht, (show kitB "bool" "tuple" = some false by decide +kernel)⟩
  | int i => exact .inr ⟨rfl, ht, (show kitB "int" "tuple" = some false by decide +kernel)⟩
  | str x => exact .inr ⟨rfl, ht, (show kitB "str" "tuple" = some false by decide +kernel)⟩
  | lst hs _ => exact .inr ⟨rfl, ht, (show kitB "list" "tuple" = some false by decide +kernel)⟩
  | tup hs ha => exact .inl ⟨_, _, _, rfl, rfl, hs, ha⟩
def bitsD (many : Nat) : PyData → Bool
  | .tuple bs => decide (bs.length = many) && bs.all fun d => betD d 0 1
  | _ => false
def labD (b : Bn) (d : PyData) : Bool := match d with
  | .int i => decide (0 ≤ i ∧ i < b.labels) && b.starts.any fun s => (s : Int) == i
  | _ => false
def leafD (b : Bn) (many : Nat) : PyData → Bool
  | .tuple [lab, bits] => labD b lab && bitsD many bits
  | _ => false
theorem leafD_not {b : Bn} {many : Nat} {d : PyData} (h : isTup d = false) : leafD b many d = false := by
  cases d <;> first | rfl | cases h
theorem leafD_len {b : Bn} {many : Nat} {ds : List PyData} (h : ds.length ≠ 2) : leafD b many (.tuple ds) = false := by
  match ds, h with
  | [], _ => rfl
  | [_], _ => rfl
  | [_, _], h => exact absurd rfl h
  | _ :: _ :: _ :: _, _ => rfl
def smallD (d : PyData) : Prop := ∀ a bs, d = .tuple [a, .tuple bs] → bs.length ≤ 100
/-- trees of any data: pairs of parts, the rest -/
inductive Td where
  | node (j : PyData) (l r : Td)
  | other (d : PyData)
def Td.nodes : Td → Nat
  | .node _ l r => l.nodes + r.nodes + 1
  | .other _ => 1
def notThree : PyData → Prop
  | .tuple [_, _, _] => False
  | _ => True
def TdAt (K : PySem.W.Frag) (H : Hp) : V → Td → Prop
  | v, .node j l r => ∃ p a x y, v = .ref p ∧ H p = some (.tup [a, x, y]) ∧ Dp K H a j ∧ TdAt K H x l ∧ TdAt K H y r
  | v, .other d => Dp K H v d ∧ notThree d ∧ smallD d
theorem TdAt.same {K : PySem.W.Frag} {H H' : Hp} (s : Same H H') : ∀ {t : Td} {v : V}, TdAt K H v t → TdAt K H' v t
  | .node _ _ _, _, ⟨p, a, x, y, e, h1, h2, h3, h4⟩ => ⟨p, a, x, y, e, s _ _ h1, dp_same s h2, h3.same s, h4.same s⟩
  | .other _, _, ⟨h1, h2⟩ => ⟨dp_same s h1, h2⟩
def joinD (b : Bn) (d : PyData) : Bool := betD d 0 ((b.joins.length : Int) - 1)
def joinedT (b : Bn) : Td → Bool
  | .node j _ _ => joinD b j
  | .other _ => false
def leafT (b : Bn) (many : Nat) : Td → Bool
  | .node _ _ _ => false
  | .other d => leafD b many d
def isNone : Td → Bool
  | .other .none => true
  | _ => false
/-- the path of the first wrong part -/
def firstBad (b : Bn) (many : Nat) (hole : Bool) : Td → List Nat → Option (List Nat)
  | .node j l r, p => if joinD b j then (firstBad b many hole l (p ++ [0])).or (firstBad b many hole r (p ++ [1])) else some p
  | .other d, p => if hole && isNone (.other d) then none else if leafD b many d then none else some p
def holesT : Td → Nat
  | .node _ l r => holesT l + holesT r
  | .other d => if isNone (.other d) then 1 else 0
/-- what check_term tells of a term -/
def checkT (b : Bn) (many : Nat) (hole : Bool) (t : Td) : Option (List Nat) := (firstBad b many hole t []).or (if hole && decide (holesT t ≠ 1) then some [] else none)
def fbL (b : Bn) (many : Nat) (hole : Bool) : List (List Nat × Td) → Option (List Nat)
  | [] => none
  | (p, t) :: us => (firstBad b many hole t p).or (fbL b many hole us)
def hlL (us : List (List Nat × Td)) : Nat := (us.map fun u => holesT u.2).sum
def ndL (us : List (List Nat × Td)) : Nat := (us.map fun u => u.2.nodes).sum
theorem Td.pos : ∀ t : Td, 0 < t.nodes
  | .node _ _ _ => Nat.succ_pos _
  | .other _ => Nat.one_pos
theorem ndL_snoc (us : List (List Nat × Td)) (u : List Nat × Td) : ndL (us ++ [u]) = ndL us + u.2.nodes := by
  unfold ndL
  rw [List.map_append, List.sum_append]
  simp
theorem ndL_len (us : List (List Nat × Td)) : us.length ≤ ndL us := by
  induction us with
  | nil => exact Nat.zero_le _
  | cons u us ih =>
    have := u.2.pos
    unfold ndL at ih ⊢
    rw [List.map_cons, List.sum_cons, List.length_cons]
    omega
theorem hlL_snoc (us : List (List Nat × Td)) (u : List Nat × Td) : hlL (us ++ [u]) = hlL us + holesT u.2 := by
  unfold hlL
  rw [List.map_append, List.sum_append]
  simp
/-- a thing to do: a path and a part; the parts stand since the heap G -/
def TodoAt (K : PySem.W.Frag) (G H : Hp) (v : V) (u : List Nat × Td) : Prop := ∃ p a x, v = .ref p ∧ H p = some (.tup [a, x]) ∧ PlacesAt H a u.1 ∧ TdAt K G x u.2
theorem TodoAt.tups {K : PySem.W.Frag} {G H H' : Hp} (s : Tups H H') {v : V} {u : List Nat × Td} (h : TodoAt K G H v u) : TodoAt K G H' v u := by
  obtain ⟨p, a, x, e, h1, h2, h3⟩ := h
  exact ⟨p, a, x, e, s _ _ h1, PlacesAt.tups s h2, h3⟩
def Td.data : Td → PyData
  | .node j l r => .tuple [j, l.data, r.data]
  | .other d => d
theorem TdAt.dp {K : PySem.W.Frag} {H : Hp} : ∀ {t : Td} {v : V}, TdAt K H v t → Dp K H v t.data
  | .node _ _ _, _, ⟨p, a, x, y, e, h1, h2, h3, h4⟩ => by
    subst e
    exact .tup (SqT.of h1) (.cons h2 (.cons h3.dp (.cons h4.dp .nil)))
  | .other _, _, ⟨h1, _⟩ => h1
theorem td_leaf (b : Bn) (many : Nat) : ∀ t : Td, leafD b many t.data = leafT b many t
  | .node _ _ _ => rfl
  | .other _ => rfl
theorem TdAt.small {K : PySem.W.Frag} {H : Hp} : ∀ {t : Td} {v : V}, TdAt K H v t → smallD t.data
  | .node _ _ _, _, _ => fun a bs e => by
    have h : (3 : Nat) = 2 := congrArg (fun d => match d with | PyData.tuple l => l.length | _ => 0) e
    cases h
  | .other _, _, ⟨_, _, h⟩ => h
theorem td_none {K : PySem.W.Frag} {H : Hp} {t : Td} {v : V} (h : TdAt K H v t) : v = .non ↔ isNone t = true := by
  cases t with
  | node j l r =>
    obtain ⟨p, a, x, y, e, _⟩ := h
    subst e
    exact ⟨fun z => (by cases z), fun z => (by cases z)⟩
  | other d =>
    obtain ⟨h1, _⟩ := h
    cases h1 with
    | non => exact ⟨fun _ => rfl, fun _ => rfl⟩
    | _ => exact ⟨fun z => (by cases z), fun z => (by cases z)⟩
/-- a path, longer by one -/
theorem cat_one {K : PySem.W.Frag} {H : Hp} {a q : Addr} {pa : List Nat} {s : Nat} {Q : VK} (ha : H a = some (.tup (pa.map vInt))) (hq : H q = some (.tup [vInt s])) (hl : pa.length ≤ 2000)
    (k : ∀ (w : V) (H' : Hp), Same H H' → PlacesAt H' w (pa ++ [s]) → Q w H') : rCatA K (.ref a) (.ref q) H Q := by
  refine ⟨a, q, _, _, rfl, rfl, SqT.of ha, SqT.of hq, ?_, fun e => ?_, fun _ e => (by cases e), fun _ _ p hp => ?_⟩
  · rw [List.length_map]
    exact small (m := 3000) (by show pa.length + 1 ≤ 3000; omega)
  · have e2 : pa = [] := List.map_eq_nil_iff.mp e
    subst e2
    exact k _ H (Same.refl _) ⟨q, rfl, hq⟩
  · refine k _ _ (same_new hp) ⟨p, rfl, ?_⟩
    rw [upd_same, List.map_append]
    rfl
def spIsLeaf (K : PySem.W.Frag) (C : Addr) : Sp := fun vs H Q _ => ∃ (x : Addr) (v : V) (b : Bn) (d : PyData) (many : Nat), vs = [.ref x, v, vInt many] ∧ BAt C H x b ∧ Dp K H v d ∧ smallD d ∧ many ≤ 100 ∧ ∀ H', Same H H' → Q (.bl (leafD b many d)) H'
def spIsJoined (K : PySem.W.Frag) (C : Addr) : Sp := fun vs H Q _ => ∃ (x : Addr) (v : V) (b : Bn) (t : Td), vs = [.ref x, v] ∧ BAt C H x b ∧ TdAt K H v t ∧ Q (.bl (joinedT b t)) H
theorem len2 {α : Type} {l : List α} (h : l.length = 2) : ∃ a b, l = [a, b] := by
  match l, h with
  | [a, b], _ => exact ⟨a, b, rfl⟩
theorem len3 {α : Type} {l : List α} (h : l.length = 3) : ∃ a b c, l = [a, b, c] := by
  match l, h with
  | [a, b, c], _ => exact ⟨a, b, c, rfl⟩
theorem any_starts (i : Int) : ∀ l : List Nat, inV (.int i) (l.map vInt) = l.any fun s => (s : Int) == i
  | [] => rfl
  | s :: l => by
    have := any_starts i l
    unfold inV at this ⊢
    rw [List.map_cons, List.any_cons, List.any_cons, this]
    rfl
theorem bits_all {K : PySem.W.Frag} {H : Hp} {many : Nat} {bs : List PyData} : bitsD many (.tuple bs) = (decide (bs.length = many) && bs.all fun d => betD d 0 1) := rfl
/-- an entry that is not a pair's tuple -/
theorem td_not3 {b : Bn} {K : PySem.W.Frag} {H : Hp} {d : PyData} {p : Addr} {xs : List V} {ds : List PyData} (e : d = .tuple ds) (h : notThree d) (hl : DpAll K H xs ds) : xs.length ≠ 3 := fun z => by
  rw [dpA_len hl] at z
  subst e
  match ds, z, h with
  | [_, _, _], _, h => exact h
section
variable {P : Program} {w : World} {K : PySem.W.Frag} {mg : Str → Option Value} {base : Heap} {C : Addr}
abbrev nIL : List Str := ["bench", "part", "many", "label", "bits", "bit"]
theorem scIL : FnScope nIL ["bench", "part", "many"] (defScope sIsLeaf) := ⟨rfl, rfl, rfl, by decide +kernel, rfl, by decide +kernel, by decide +kernel⟩
theorem ok_is_leaf {f : Addr} {fd : FuncData} (F : Fun K "is_leaf" "is_leaf" sIsLeaf f fd) (T : Bare mg) (T2 : Bare2 mg) (BC : BenC K C) (GB : Cal P w K mg base 2 "is_between" ["value", "low", "high"] (spBetweenD K)) : FnOk P w K mg base CX0 3 f fd ["bench", "part", "many"] (spIsLeaf K C) := by
  obtain ⟨_, _, ok_bt, b_bt, k_bt, m_bt⟩ := GB.ex
  refine F.ok scIL (fun vs H Q E h => ?_) (fun cdv A outer s H vs Q E hr h => ?_)
  · obtain ⟨x, v, b, d, many, rfl, _⟩ := h
    rfl
  · obtain ⟨x, v, b, d, many, rfl, hB, hd, hsm, hm, k⟩ := h
    have hr_bt := hr
    refine ⟨_, (pss_cons (ps_if (PW.pt (pw_or (pt_not (pt_val (pe_callB call_isi (by rfl) T.isi (by decide +kernel) (pa_cons (pv 1) (pa_cons (pe_ty (n := "tuple") (by rfl) T.tuple (by decide +kernel)) pa_nil))))) (pw_or1 (pt_cmpR op_ne (pe_callB call_len_seq (by rfl) T.len PySem.boot_len (pa_cons (pv 1) pa_nil)) pe_int (nomark _))))) (pss_one (ps_ret pe_bl)) pss_nil)
      (pss_cons (ps_asg (pv 1) (pg_tup rfl (pgs_cons (pg_name (i := 3) scIL.nd rfl (Or.inl rfl)) (pgs_cons (pg_name (i := 4) scIL.nd rfl (Or.inl rfl)) pgs_nil))))
      (pss_cons (ps_if (PW.pt (pw_or (pt_not (pt_val (pe_call ok_bt hr_bt rfl m_bt k_bt b_bt .nil pass0 (pa_cons (pv 3) (pa_cons pe_int (pa_cons (pe_op op_sub (pe_fld (pv 0) rfl) pe_int) pa_nil)))))) (pw_or1 (pt_cmpR op_notIn_seq (pv 3) (pe_fld (pv 0) rfl) (by rfl))))) (pss_one (ps_ret pe_bl)) pss_nil)
      (pss_cons (ps_if (PW.pt (pw_or (pt_not (pt_val (pe_callB call_isi (by rfl) T.isi (by decide +kernel) (pa_cons (pv 4) (pa_cons (pe_ty (n := "tuple") (by rfl) T.tuple (by decide +kernel)) pa_nil))))) (pw_or1 (pt_cmpR op_ne (pe_callB call_len_seq (by rfl) T.len PySem.boot_len (pa_cons (pv 4) pa_nil)) (pv 2) (nomark _))))) (pss_one (ps_ret pe_bl)) pss_nil)
      (pss_one (ps_ret (pe_callB (cr_all rfl : CallR _ _ (rAll K)) (by rfl) T2.all PyProof.Rows.boot_all (pa_cons (pe_lc (own := [("bit", 5)]) (g := gName 5) (tt := tYes) rfl scIL.nd (pi_tup (pv 4)) (blkOk_by (own := [("bit", 5)]) (N := nIL) (sc := defScope sIsLeaf) (by decide +kernel)) (fun _ _ _ _ _ => pg_name (i := 5) scIL.nd rfl (Or.inl rfl)) (fun _ _ _ _ _ => pts_nil) (fun _ _ _ _ _ => pe_call ok_bt hr_bt rfl m_bt k_bt b_bt .nil pass0 (pa_cons (pv 5) (pa_cons pe_int (pa_cons pe_int pa_nil))))) pa_nil)))))))), ?_⟩
    rcases tup_or hd with ⟨ds, p, xs, rfl, rfl, hp, hA⟩ | ⟨ht, h1, h2⟩
    rotate_left
    · rw [leafD_not ht] at k
      exact ⟨_, rfl, _, _, _, _, false, rfl, .ty _, h1, kit_ty h2, _, rfl, iteT (k _ (Same.refl _))⟩
    refine ⟨_, rfl, _, _, _, _, true, rfl, .ty _, ty_tup hp, kit_ty (by decide +kernel), _, rfl, iteF ?_⟩
    have hl := dpA_len hA
    refine ⟨_, rfl, p, xs, rfl, .inr hp, rfl, _, rfl, ?_⟩
    by_cases h2 : ds.length = 2
    rotate_left
    · have e : (!decide (V.int (xs.length : Int) = V.int 2)) = true := by
        rw [Bool.not_eq_true', decide_eq_false fun z => h2 (by have := V.int.inj z; omega)]
      rw [e]
      rw [leafD_len h2] at k
      exact iteT (k _ (Same.refl _))
    have e : (!decide (V.int (xs.length : Int) = V.int 2)) = false := by
      rw [Bool.not_eq_false', decide_eq_true (by rw [hl, h2]; rfl)]
    rw [e]
    obtain ⟨lab, bits, rfl⟩ := len2 h2
    cases hA with
    | @cons v1 _ _ _ d1 hA =>
    cases hA with
    | @cons v2 _ _ _ d2 hA =>
    cases hA
    refine iteF ⟨_, rfl, p, _, rfl, hp, rfl, _, _, rfl, _, _, rfl, rfl, ?_⟩
    obtain ⟨⟨dx, fs, ws, wj, a1, a2, a3, a4, a5, ⟨q, rfl, hq⟩, a7⟩, hok⟩ := id hB
    refine ⟨_, rfl, _, rfl, x, C, dx, fs, _, rfl, a1, BC.cl, BC.labels, a2, _, _, rfl, rfl, v1, lab, 0, _, rfl, d1, _, rfl, ?_⟩
    cases eb : betD lab 0 ((b.labels : Int) - 1) with
    | false =>
      have el : labD b lab = false := by
        cases lab with
        | int i =>
          have z := of_decide_eq_false eb
          show (decide (0 ≤ i ∧ i < (b.labels : Int)) && _) = false
          rw [decide_eq_false (by omega)]
          rfl
        | _ => rfl
      have : leafD b many (.tuple [lab, bits]) = false := by
        show (labD b lab && _) = false
        rw [el]
        rfl
      rw [this] at k
      exact iteT (k _ (Same.refl _))
    | true =>
      obtain ⟨i, rfl, i1, i2⟩ := bet_int eb
      cases d1
      have el : labD b (.int i) = b.starts.any fun s => (s : Int) == i := by
        show (decide (0 ≤ i ∧ i < (b.labels : Int)) && _) = _
        rw [decide_eq_true (by omega)]
        rfl
      refine iteF ⟨_, rfl, _, rfl, x, C, dx, fs, _, rfl, a1, BC.cl, BC.starts, a3, q, _, rfl, .inr (SqT.of hq), rfl, flat_all _, ?_⟩
      show ∃ k_1, V.bl (if true = true then !inV (V.int i) (b.starts.map vInt) else inV (V.int i) (b.starts.map vInt)) = V.bl k_1 ∧ _
      refine ⟨_, rfl, ?_⟩
      rw [if_pos rfl, any_starts, ← el]
      cases ela : labD b (.int i) with
      | false =>
        have : leafD b many (.tuple [.int i, bits]) = false := by
          show (labD b (.int i) && _) = false
          rw [ela]
          rfl
        rw [this] at k
        exact iteT (k _ (Same.refl _))
      | true =>
        have hlf : leafD b many (.tuple [.int i, bits]) = bitsD many bits := by
          show (labD b (.int i) && _) = _
          rw [ela]
          rfl
        rw [hlf] at k
        refine iteF ?_
        rcases tup_or d2 with ⟨bs, u, ys, rfl, rfl, hu, hbs⟩ | ⟨ht, h1, h2⟩
        rotate_left
        · have : bitsD many bits = false := by cases bits <;> first | rfl | cases ht
          rw [this] at k
          exact ⟨_, rfl, _, _, _, _, false, rfl, .ty _, h1, kit_ty h2, _, rfl, iteT (k _ (Same.refl _))⟩
        have lb := dpA_len hbs
        refine ⟨_, rfl, _, _, _, _, true, rfl, .ty _, ty_tup hu, kit_ty (by decide +kernel), _, rfl, iteF ⟨_, rfl, u, ys, rfl, .inr hu, _, rfl, rfl, _, rfl, ?_⟩⟩
        have en : decide (V.int (ys.length : Int) = vInt many) = decide (bs.length = many) := by
          rw [lb]
          exact dec_nat _ _
        rw [en]
        rw [bits_all (K := K) (H := H)] at k
        by_cases hlm : bs.length = many
        rotate_left
        · rw [decide_eq_false hlm] at k ⊢
          exact iteT (k _ (Same.refl _))
        rw [decide_eq_true hlm] at k ⊢
        refine iteF ⟨_, rfl, u, rfl, ⟨_, hu⟩, fun D hD => ?_⟩
        have hbl : bs.length ≤ 100 := hsm _ _ rfl
        refine lc_tup (K := K) (a := u) (xs := ys) (fun i H' => Same H H' ∧ H' D = some (.lst ((bs.take i).map fun d => V.bl (betD d 0 1)))) ⟨same_new hD, upd_same⟩ (fun i H' _ h => same_seqT h.1 hu) ?_ ?_
        · rintro j y H1 hy ⟨sm, hD1⟩
          obtain ⟨e, he, hye⟩ := dpA_get hbs hy
          have hj : j < bs.length := (List.getElem?_eq_some_iff.mp he).1
          have ee : bs[j] = e := (List.getElem?_eq_some_iff.mp he).2
          refine ⟨rfl, _, rfl, y, e, 0, 1, rfl, dp_same sm hye, _, hD1, ?_, same_upd sm hD, ?_⟩
          · exact below (m := 200) (by rw [List.length_map, List.length_take]; omega)
          · rw [upd_same, take_more hj, ee, List.map_append]
            rfl
        · rintro H1 ⟨sm, hD1⟩
          rw [lb, List.take_length] at hD1
          refine ⟨D, bs.map fun d => betD d 0 1, rfl, SqL.of (by rw [hD1, List.map_map]; rfl), ?_⟩
          have : (bs.map fun d => betD d 0 1).all id = (true && bs.all fun d => betD d 0 1) := by
            rw [List.all_map]
            rfl
          rw [this]
          exact k _ sm
abbrev nJD : List Str := ["bench", "part"]
theorem scJD : FnScope nJD ["bench", "part"] (defScope sIsJoined) := ⟨rfl, rfl, rfl, by decide +kernel, rfl, by decide +kernel, by decide +kernel⟩
theorem ok_is_joined {f gl : Addr} {fd gld : FuncData} (F : Fun K "is_joined" "is_joined" sIsJoined f fd) (T : Bare mg) (LN : DunO K C "__len__" gl) (ok_ln : FnOk P w K mg base CX0 1 gl gld ["self"] (spBenLen C)) (b_ln : Binds K gld ["self"] [])
    (GB : Cal P w K mg base 2 "is_between" ["value", "low", "high"] (spBetweenD K)) : FnOk P w K mg base CX0 3 f fd ["bench", "part"] (spIsJoined K C) := by
  obtain ⟨_, _, ok_bt, b_bt, k_bt, m_bt⟩ := GB.ex
  refine F.ok scJD (fun vs H Q E h => ?_) (fun cdv A outer s H vs Q E hr h => ?_)
  · obtain ⟨x, v, b, t, rfl, _⟩ := h
    rfl
  · obtain ⟨x, v, b, t, rfl, hB, ht, k⟩ := h
    have hr_bt := hr
    have hr_ln := hr
    refine ⟨_, (pss_one (ps_ret (pe_and (pe_callB call_isi (by rfl) T.isi (by decide +kernel) (pa_cons (pv 1) (pa_cons (pe_ty (n := "tuple") (by rfl) T.tuple (by decide +kernel)) pa_nil))) (pe_and (pe_cmpR op_eq (pe_callB call_len_seq (by rfl) T.len PySem.boot_len (pa_cons (pv 1) pa_nil)) pe_int (nomark _)) (pe_one (pe_call ok_bt hr_bt rfl m_bt k_bt b_bt .nil pass0 (pa_cons (pe_ix ix_tup (pv 1) pe_int (fun _ _ => rfl)) (pa_cons pe_int (pa_cons (pe_op op_sub (pe_callB (cr_lenO LN.at_ LN.fn ok_ln hr_ln b_ln pass0) (by rfl) T.len PySem.boot_len (pa_cons (pv 0) pa_nil)) pe_int) pa_nil))))))))), ?_⟩
    cases t with
    | node j l r =>
      obtain ⟨p, a, y, z, rfl, hp, hj, hl, hr2⟩ := id ht
      refine ⟨_, rfl, _, _, _, _, true, rfl, .ty _, .base (.tup hp), kit_ty (by decide +kernel), _, rfl, iteT ⟨_, rfl, p, _, rfl, .inr (SqT.of hp), rfl, _, rfl, iteT ?_⟩⟩
      obtain ⟨⟨dx, fs, ws, wj, a1, a2, a3, a4, a5, a6, a7⟩, hok⟩ := id hB
      have hn := hok.j3
      refine ⟨_, rfl, p, _, _, a, rfl, rfl, SqT.of hp, atI_nat (j := 0) rfl, _, rfl, x, dx, fs, rfl, a1, x, b, rfl, hB, b.joins.length, rfl, by omega, _, _, rfl, rfl, a, j, 0, _, rfl, hj, k⟩
    | other d =>
      obtain ⟨hd, h3, _⟩ := id ht
      rcases tup_or hd with ⟨ds, p, xs, rfl, rfl, hp, hA⟩ | ⟨h0, h1, h2⟩
      · have hl := dpA_len hA
        refine ⟨_, rfl, _, _, _, _, true, rfl, .ty _, ty_tup hp, kit_ty (by decide +kernel), _, rfl, iteT ⟨_, rfl, p, _, rfl, .inr hp, rfl, _, rfl, ?_⟩⟩
        have : decide (V.int (xs.length : Int) = V.int 3) = false := decide_eq_false fun z => by
          have e3 : ds.length = 3 := by have := V.int.inj z; omega
          obtain ⟨a, b, c, rfl⟩ := len3 e3
          exact h3
        rw [this]
        exact iteF k
      · exact ⟨_, rfl, _, _, _, _, false, rfl, .ty _, h1, kit_ty h2, _, rfl, iteF k⟩
abbrev nCT : List Str := ["bench", "term", "many", "hole", "holes", "todo", "path", "part"]
theorem scCT : FnScope nCT ["bench", "term", "many", "hole"] (defScope sCheckTerm) := ⟨rfl, rfl, rfl, by decide +kernel, rfl, by decide +kernel, by decide +kernel⟩
theorem firstL_snoc {b : Bn} {many : Nat} {hole : Bool} (us : List (List Nat × Td)) (u : List Nat × Td) : fbL b many hole (us ++ [u]).reverse = (firstBad b many hole u.2 u.1).or (fbL b many hole us.reverse) := by
  rw [List.reverse_append]
  rfl
/-- check_term: nothing, or the path of the first wrong part -/
def spCheckTerm (K : PySem.W.Frag) (C B : Addr) : Sp := fun vs H Q E => ∃ (x : Addr) (v : V) (b : Bn) (t : Td) (many : Nat) (hole : Bool), vs = [.ref x, v, vInt many, .bl hole] ∧ BAt C H x b ∧ TdAt K H v t ∧ t.nodes ≤ 1000 ∧ many ≤ 100 ∧
  (checkT b many hole t = none → ∀ H', Same H H' → Q .non H') ∧ (∀ p, checkT b many hole t = some p → ∀ (dd : Addr) (H' : Hp) (w : V), Same H H' → H dd = none → H' dd = some (.xd [("path", w)]) → PlacesAt H' w p → E (.ref B) (some dd) H')
theorem ok_check_term {B f : Addr} {fd : FuncData} (F : FunD K "check_term" "check_term" (defArgs sCheckTerm) (defBody sCheckTerm) (defScope sCheckTerm) [] [("hole", .bl false)] f fd) (N : BadRaiseT P w K mg base B)
    (GJ : Cal P w K mg base 3 "is_joined" ["bench", "part"] (spIsJoined K C)) (GL : Cal P w K mg base 3 "is_leaf" ["bench", "part", "many"] (spIsLeaf K C)) : FnOk P w K mg base (L2.CX P w) 4 f fd ["bench", "term", "many", "hole"] (spCheckTerm K C B) := by
  obtain ⟨_, _, ok_jd, b_jd, k_jd, m_jd⟩ := GJ.ex
  obtain ⟨_, _, ok_il, b_il, k_il, m_il⟩ := GL.ex
  obtain ⟨ge, ged, iC, tI, ok_e, b_e⟩ := N.init
  refine F.ok scCT (fun vs H Q E h => ?_) (fun cdv A outer s H vs Q E hr h => ?_)
  · obtain ⟨x, v, b, t, many, hole, rfl, _⟩ := h
    rfl
  · obtain ⟨x, v, b, t, many, hole, rfl, hB, ht, hn, hm, k, ke⟩ := h
    have hr_jd := hr
    have hr_il := hr
    have hr_e := hr.mono (j := 2) (by decide)
    refine ⟨_, (pss_cons (ps_set (i := 4) scCT.nd rfl (Or.inl rfl) pe_int)
      (pss_cons (ps_set (i := 5) scCT.nd rfl (Or.inl rfl) (pe_lst (pa_cons (pe_tup (pa_cons (pe_tup pa_nil) (pa_cons (pv 1) pa_nil))) pa_nil)))
      (pss_cons (ps_while (passes_of rfl) (pt_truth (pv 5) (by intro _; rfl))
          (pss_cons (ps_asg (pe_bm0 PySem.F.plainAttrs_list PySem.F.slot_list_pop PySem.F.type_list_pop mt_pop (pv 5)) (pg_tup rfl (pgs_cons (pg_name (i := 6) scCT.nd rfl (Or.inl rfl)) (pgs_cons (pg_name (i := 7) scCT.nd rfl (Or.inl rfl)) pgs_nil))))
          (pss_one (ps_if (PW.pt (pw_and (pt_val (pv 3)) (pw_and1 (pt_cmpR op_isN (pv 7) pe_non (nomark _))))) (pss_one (ps_aug (i := 4) scCT.nd rfl (Or.inl rfl) pe_int ip_add)) (pss_one (ps_if (pt_val (pe_call ok_jd hr_jd rfl m_jd k_jd b_jd .nil pass0 (pa_cons (pv 0) (pa_cons (pv 7) pa_nil)))) (pss_cons (ps_expr (pe_bm PySem.F.plainAttrs_list PySem.F.slot_list_append PySem.F.type_list_append mt_append (pv 5) (pa_cons (pe_tup (pa_cons (pe_op op_catA (pv 6) (pe_tup (pa_cons pe_int pa_nil))) (pa_cons (pe_ix ix_tup (pv 7) pe_int (fun _ _ => rfl)) pa_nil))) pa_nil)))
                  (pss_one (ps_expr (pe_bm PySem.F.plainAttrs_list PySem.F.slot_list_append PySem.F.type_list_append mt_append (pv 5) (pa_cons (pe_tup (pa_cons (pe_op op_catA (pv 6) (pe_tup (pa_cons pe_int pa_nil))) (pa_cons (pe_ix ix_tup (pv 7) pe_int (fun _ _ => rfl)) pa_nil))) pa_nil))))) (pss_one (ps_if (pt_not (pt_val (pe_call ok_il hr_il rfl m_il k_il b_il .nil pass0 (pa_cons (pv 0) (pa_cons (pv 7) (pa_cons (pv 2) pa_nil)))))) (pss_one (ps_raise rfl (takes_of rfl rfl rfl rfl) (pmk_oex N.oex iC tI ok_e hr_e b_e .nil pass0 rfl N.gB (pa_cons (pv 6) pa_nil)))) pss_nil))))))))
      (pss_one (ps_if (PW.pt (pw_and (pt_val (pv 3)) (pw_and1 (pt_cmpR op_ne (pv 4) pe_int (nomark _))))) (pss_one (ps_raise rfl (takes_of rfl rfl rfl rfl) (pmk_oex N.oex iC tI ok_e hr_e b_e .nil pass0 rfl N.gB (pa_cons (pe_tup pa_nil) pa_nil)))) pss_nil))))), ?_⟩
    refine ⟨small (m := 1) (Nat.zero_le _), fun p0 hp0 => ⟨_, rfl, small (m := 2) (Nat.le_refl _), fun p1 hp1 => ⟨small (m := 1) (Nat.le_refl _), fun D hD => ?_⟩⟩⟩
    have e0 := same_new (o := .tup []) hp0
    have e1 := same_new (o := .tup [V.ref p0, v]) hp1
    have e2 := same_new (o := .lst [V.ref p1]) hD
    have s0 := e0.trans (e1.trans e2)
    have nD : H D = none := (e0.trans e1).free hD
    refine ⟨fun m σ H' => ∃ (h : Nat) (y6 y7 : Option V) (ts : List V) (us : List (List Nat × Td)), σ = [some (.ref x), some v, some (vInt many), some (.bl hole), some (vInt h), some (.ref D), y6, y7] ∧ m = ndL us ∧ Same H H' ∧ H' D = some (.lst ts) ∧ Al (TodoAt K H H') ts us ∧ fbL b many hole us.reverse = firstBad b many hole t [] ∧ (hole = true → h + hlL us = holesT t) ∧ ndL us ≤ t.nodes ∧ (∀ u ∈ us, u.1.length + u.2.nodes ≤ t.nodes),
      ⟨_, 0, none, none, [.ref p1], [([], t)], rfl, rfl, s0, upd_same, ⟨⟨p1, .ref p0, v, rfl, e2 _ _ upd_same, ⟨p0, rfl, e2 _ _ (e1 _ _ upd_same)⟩, ht⟩, trivial⟩, Option.or_none, fun _ => by unfold hlL; simp, by unfold ndL; simp, fun u hu => ?_⟩, ?_⟩
    · rw [List.mem_singleton.mp hu]
      show 0 + t.nodes ≤ _
      omega
    rintro m σ H1 ⟨h, y6, y7, ts, us, rfl, rfl, sm, hT, hU, hf, hh, hle, hdep⟩
    refine ⟨_, rfl, _, .inl ⟨ts, SqL.of hT, rfl⟩, ?_⟩
    rcases List.eq_nil_or_concat ts with rfl | ⟨ts', z, rfl⟩
    · have eu : us = [] := by
        cases us with
        | nil => rfl
        | cons _ _ => exact hU.elim
      subst eu
      refine iteF ?_
      have fb : firstBad b many hole t [] = none := hf.symm
      have ec : checkT b many hole t = if hole && decide (holesT t ≠ 1) then some [] else none := by
        unfold checkT
        rw [fb]
        rfl
      cases hole with
      | false => exact ⟨_, rfl, _, rfl, iteF (k (by rw [ec]; rfl) _ sm)⟩
      | true =>
        have h1 : h = holesT t := by
          have := hh rfl
          unfold hlL at this
          simpa using this
        refine ⟨_, rfl, _, rfl, iteT ⟨_, rfl, rfl, _, rfl, ?_⟩⟩
        have ed : decide (vInt h = V.int 1) = decide (holesT t = 1) := by
          rw [h1]
          exact dec_nat _ 1
        rw [ed]
        by_cases e1 : holesT t = 1
        · rw [decide_eq_true e1]
          exact iteF (k (by rw [ec, decide_eq_false (fun z => z e1)]; rfl) _ sm)
        · rw [decide_eq_false e1]
          refine iteT ⟨small (m := 1) (Nat.zero_le _), fun q hq => ?_⟩
          have eq1 := same_new (o := .tup []) hq
          exact bad_readT (ta := fun _ H0 Q' => Q' [V.ref q] H0) (σ := []) N (fun Q' z => z) (fun dd H' s' hdd hd' => ke [] (by rw [ec, decide_eq_true e1]; rfl) dd H' (.ref q) (sm.trans (eq1.trans s')) ((sm.trans eq1).free hdd) hd' ⟨q, rfl, s' _ _ upd_same⟩)
    rw [List.concat_eq_append] at hT hU ⊢
    obtain ⟨us', u, rfl, hU', hu⟩ := hU.snoc
    obtain ⟨pa, tm⟩ := u
    obtain ⟨pp, a, xv, rfl, hpp, ⟨pt, rfl, hpt⟩, htm⟩ := hu
    rw [ne_snoc]
    rw [firstL_snoc] at hf
    rw [ndL_snoc] at hle ⊢
    rw [hlL_snoc] at hh
    have hdu := hdep (pa, tm) (List.mem_append_right _ (List.mem_singleton.mpr rfl))
    have hdu' : pa.length + tm.nodes ≤ t.nodes := hdu
    have hle : ndL us' + tm.nodes ≤ t.nodes := hle
    refine iteT ⟨fun σ' H' => ∃ m', m' < ndL us' + tm.nodes ∧ ∃ (h : Nat) (y6 y7 : Option V) (ts : List V) (us : List (List Nat × Td)), σ' = [some (.ref x), some v, some (vInt many), some (.bl hole), some (vInt h), some (.ref D), y6, y7] ∧ m' = ndL us ∧ Same H H' ∧ H' D = some (.lst ts) ∧ Al (TodoAt K H H') ts us ∧ fbL b many hole us.reverse = firstBad b many hole t [] ∧ (hole = true → h + hlL us = holesT t) ∧ ndL us ≤ t.nodes ∧ (∀ u ∈ us, u.1.length + u.2.nodes ≤ t.nodes), fun σ' H' h => h, ?_⟩
    refine ⟨_, rfl, .inl ⟨rfl, _, SqL.of hT⟩, D, _, _, rfl, rfl, hT, last_of _ _, ?_⟩
    rw [List.dropLast_concat]
    obtain ⟨H2, eH2⟩ : ∃ H2, H2 = upd H1 D (.lst ts') := ⟨_, rfl⟩
    rw [← eH2]
    have t2 : Tups H1 H2 := by rw [eH2]; exact Tups.upd hT
    have sm2 : Same H H2 := by rw [eH2]; exact same_upd sm nD
    have hT2 : H2 D = some (.lst ts') := by rw [eH2]; exact upd_same
    have hU2 := hU'.imp fun _ _ h => h.tups t2
    have hpp2 := t2 _ _ hpp
    have hpt2 := t2 _ _ hpt
    have hdep2 : ∀ u ∈ us', u.1.length + u.2.nodes ≤ t.nodes := fun u hu => hdep u (List.mem_append_left _ hu)
    have tpos := tm.pos
    have htm2 := htm.same sm2
    refine ⟨pp, _, rfl, SqT.of hpp2, rfl, _, _, rfl, _, _, rfl, rfl, ?_⟩
    refine ⟨_, rfl, _, rfl, ite2 (fun z => ⟨_, rfl, rfl, _, rfl, ite2 (fun z2 => ?_) (fun z2 => ?_)⟩) (fun z => ?_)⟩
    · have eN : isNone tm = true := (td_none htm).mp (of_decide_eq_true z2)
      have et : holesT tm = 1 ∧ tm.nodes = 1 := by
        cases tm with
        | node j l r => cases eN
        | other d => exact ⟨if_pos eN, rfl⟩
      refine ⟨_, rfl, _, _, rfl, rfl, ndL us', by omega, h + 1, _, _, ts', us', rfl, rfl, sm2, hT2, hU2, ?_, fun hz => ?_, by omega, hdep2⟩
      · rw [← hf]
        have : firstBad b many hole tm pa = none := by
          cases tm with
          | node j l r => cases eN
          | other d =>
            show (if (hole && isNone (.other d)) = true then none else _) = none
            rw [z, eN]
            rfl
        rw [this]
        rfl
      · have := hh hz
        have := et.1
        show h + 1 + hlL us' = _
        have h2 : h + (hlL us' + holesT tm) = holesT t := hh hz
        omega
    all_goals
      have hnn : (hole && isNone tm) = false := by
        first
          | (have h0 : isNone tm = false := by
              cases e : isNone tm with
              | false => rfl
              | true => exact absurd (decide_eq_true ((td_none htm).mpr e)) z2
             rw [h0, Bool.and_false])
          | (have h0 : hole = false := by
              cases e : hole with
              | false => rfl
              | true => exact absurd e z
             rw [h0, Bool.false_and])
      refine ⟨_, rfl, _, rfl, x, xv, b, tm, rfl, hB.same sm2, htm2, _, rfl, ?_⟩
      cases ej : joinedT b tm with
      | true =>
        cases tm with
        | other d => cases ej
        | node j l r =>
          obtain ⟨pn, aj, vl, vr, rfl, hpn, hj, hl, hr2⟩ := id htm
          have ejj : joinD b j = true := ej
          have hnn : (Td.node j l r).nodes = l.nodes + r.nodes + 1 := rfl
          have hl' : us'.length ≤ 1000 := by have := ndL_len us'; omega
          have ll := hU2.len
          refine iteT ⟨_, rfl, .inl ⟨rfl, _, SqL.of hT2⟩, _, rfl, small (m := 1) (Nat.le_refl _), fun q1 hq1 => ?_⟩
          have f1 := same_new (o := .tup [V.int 1]) hq1
          refine cat_one (s := 1) (f1 _ _ hpt2) upd_same (by omega) fun w1 H3 s3 hw1 => ?_
          have sm3 := sm2.trans (f1.trans s3)
          refine ⟨_, rfl, pn, _, _, vr, rfl, rfl, SqT.of (sm3 _ _ hpn), atI_nat (j := 2) rfl, small (m := 2) (Nat.le_refl _), fun q2 hq2 => ?_⟩
          have f4 := same_new (o := .tup [w1, vr]) hq2
          have hT4 := (f1.trans (s3.trans f4)) _ _ hT2
          refine ⟨D, _, _, rfl, rfl, hT4, below (m := 2000) (by omega), ?_⟩
          obtain ⟨H5, eH5⟩ : ∃ H5, H5 = upd (upd H3 q2 (.tup [w1, vr])) D (.lst (ts' ++ [.ref q2])) := ⟨_, rfl⟩
          rw [← eH5]
          have t5 : Tups (upd H3 q2 (.tup [w1, vr])) H5 := by rw [eH5]; exact Tups.upd hT4
          have sm5 : Same H H5 := by rw [eH5]; exact same_upd (sm3.trans f4) nD
          have hT5 : H5 D = some (.lst (ts' ++ [.ref q2])) := by rw [eH5]; exact upd_same
          have t25 : Tups H2 H5 := (Tups.of (f1.trans (s3.trans f4))).trans t5
          have hU5 : Al (TodoAt K H H5) (ts' ++ [.ref q2]) (us' ++ [(pa ++ [1], r)]) := Al.append (ys := [.ref q2]) (bs := [(pa ++ [1], r)]) (hU2.imp fun _ _ h => h.tups t25) ⟨⟨q2, w1, vr, rfl, t5 _ _ upd_same, PlacesAt.tups ((Tups.of f4).trans t5) hw1, hr2⟩, trivial⟩
          have hpt5 := t25 _ _ hpt2
          refine ⟨_, rfl, .inl ⟨rfl, _, SqL.of hT5⟩, _, rfl, small (m := 1) (Nat.le_refl _), fun q3 hq3 => ?_⟩
          have f6 := same_new (o := .tup [V.int 0]) hq3
          refine cat_one (s := 0) (f6 _ _ hpt5) upd_same (by omega) fun w2 H7 s7 hw2 => ?_
          have sm7 := sm5.trans (f6.trans s7)
          refine ⟨_, rfl, pn, _, _, vl, rfl, rfl, SqT.of (sm7 _ _ hpn), atI_nat (j := 1) rfl, small (m := 2) (Nat.le_refl _), fun q4 hq4 => ?_⟩
          have f8 := same_new (o := .tup [w2, vl]) hq4
          have hT8 := (f6.trans (s7.trans f8)) _ _ hT5
          refine ⟨D, _, _, rfl, rfl, hT8, below (m := 2000) (by rw [List.length_append]; show ts'.length + 1 ≤ 2000; omega), ?_⟩
          have t9 : Tups (upd H7 q4 (.tup [w2, vl])) (upd (upd H7 q4 (.tup [w2, vl])) D (.lst (ts' ++ [.ref q2] ++ [.ref q4]))) := Tups.upd hT8
          have t59 := (Tups.of (f6.trans (s7.trans f8))).trans t9
          refine ⟨ndL (us' ++ [(pa ++ [1], r)] ++ [(pa ++ [0], l)]), ?_, h, _, _, _, us' ++ [(pa ++ [1], r)] ++ [(pa ++ [0], l)], rfl, rfl, same_upd (sm7.trans f8) nD, upd_same, ?_, ?_, fun hz => ?_, ?_, fun u hu => ?_⟩
          · rw [ndL_snoc, ndL_snoc]
            show ndL us' + r.nodes + l.nodes < _
            omega
          · exact Al.append (ys := [.ref q4]) (bs := [(pa ++ [0], l)]) (hU5.imp fun _ _ h => h.tups t59) ⟨⟨q4, w2, vl, rfl, t9 _ _ upd_same, PlacesAt.tups ((Tups.of f8).trans t9) hw2, hl⟩, trivial⟩
          · rw [← hf, firstL_snoc, firstL_snoc]
            show _ = (firstBad b many hole (.node j l r) pa).or _
            have : firstBad b many hole (.node j l r) pa = (firstBad b many hole l (pa ++ [0])).or (firstBad b many hole r (pa ++ [1])) := if_pos ejj
            rw [this, Option.or_assoc]
          · have h2 : h + (hlL us' + holesT (.node j l r)) = holesT t := hh hz
            have h3 : holesT (.node j l r) = holesT l + holesT r := rfl
            rw [hlL_snoc, hlL_snoc]
            show h + (hlL us' + holesT r + holesT l) = _
            omega
          · rw [ndL_snoc, ndL_snoc]
            show ndL us' + r.nodes + l.nodes ≤ _
            omega
          · rcases List.mem_append.mp hu with hu | hu
            · rcases List.mem_append.mp hu with hu | hu
              · exact hdep2 u hu
              · rw [List.mem_singleton.mp hu]
                show (pa ++ [1]).length + r.nodes ≤ _
                rw [List.length_append]
                show pa.length + 1 + r.nodes ≤ _
                omega
            · rw [List.mem_singleton.mp hu]
              show (pa ++ [0]).length + l.nodes ≤ _
              rw [List.length_append]
              show pa.length + 1 + l.nodes ≤ _
              omega
      | false =>
        refine iteF ⟨_, rfl, _, rfl, _, rfl, x, xv, b, tm.data, many, rfl, hB.same sm2, htm2.dp, htm2.small, hm, fun H3 s3 => ⟨_, rfl, ?_⟩⟩
        rw [td_leaf]
        have fbt : firstBad b many hole tm pa = if leafT b many tm then none else some pa := by
          cases tm with
          | node j l r =>
            have : joinD b j = false := ej
            show (if joinD b j = true then _ else some pa) = _
            rw [this]
            rfl
          | other d =>
            show (if (hole && isNone (.other d)) = true then none else if leafD b many d = true then none else some pa) = _
            rw [hnn]
            rfl
        rw [fbt] at hf
        cases el : leafT b many tm with
        | true =>
          rw [el] at hf
          have hol : (hole = true → holesT tm = 0) := fun hz => by
            rw [hz, Bool.true_and] at hnn
            cases tm with
            | node j l r => cases el
            | other d => exact if_neg (by rw [hnn]; decide)
          refine iteF ⟨ndL us', by omega, h, _, _, ts', us', rfl, rfl, sm2.trans s3, s3 _ _ hT2, hU2.imp fun _ _ h => h.tups (Tups.of s3), hf, fun hz => ?_, by omega, hdep2⟩
          have h2 : h + (hlL us' + holesT tm) = holesT t := hh hz
          have := hol hz
          omega
        | false =>
          rw [el] at hf
          have ec : checkT b many hole t = some pa := by
            unfold checkT
            rw [← hf]
            rfl
          refine iteT (bad_readT N (fun Q' z => ⟨_, rfl, z⟩) fun dd H' s' hdd hd' => ke pa ec dd H' (.ref pt) (sm2.trans (s3.trans s')) ((sm2.trans s3).free hdd) hd' ⟨pt, rfl, (s3.trans s') _ _ hpt2⟩)
end
end Fam

/-! xs[a:b] = ys and xs[a:] = ys as statements, ys another list. -/
namespace L2
open PySem PySem.Spec PyProof.Rows
theorem bounds_end {a n : Nat} (h : a ≤ n) : sliceBounds (some (a : Int)) none none n = ((a : Int), (n : Int), 1) := by
  simp only [sliceBounds, Option.getD_none]
  have h1 : ¬ ((a : Int) < 0) := by omega
  simp only [h1, if_false, show (1 : Int) > 0 by decide, if_true]
  congr 1
  omega
section
variable {prog : Program} {w : World} {A : Around} {E : Value → Shared → Prop} {s : Shared}
theorem put_slice {l b sl : Addr} {its new : Array Value} {n n2 : Nat} {vl vu : Value} {a c : Nat} {hi : Option Int} {Q : Unit → Shared → Prop}
    (e : s.heap.get? l = some { cls := .type "list", data := .seq its n }) (e2 : s.heap.get? b = some { cls := .type "list", data := .seq new n2 }) (hne : l ≠ b) (hs : s.heap.IsSliceOf sl vl vu .none) (pl : IsPart vl (some (a : Int))) (pu : IsPart vu hi)
    (bd : sliceBounds (some (a : Int)) hi none its.size = ((a : Int), (c : Int), 1)) (hac : a ≤ c) (hc : c ≤ its.size) (sz : its.size + new.size ≤ sizeLine) (q : Q () { s with heap := s.heap.update l (Obj.mapSeq fun xs => xs.extract 0 a ++ new ++ xs.extract c xs.size) }) :
    wpAny (model prog w) A (setItem (.ref l) (.ref sl) (.ref b)) Q E s := by
  have hl : s.heap.IsList l its := PySem.IsL.isList e
  have hb : s.heap.IsList b new := PySem.IsL.isList e2
  obtain ⟨os, g1, g2, g3⟩ := id hs
  have ts : s.TypeIs (.ref sl) "slice" := ⟨os, g1, g2⟩
  have st : ¬ ((rawPart none == rawInt 0) = true) := Bool.false_ne_true
  have ns : Builtin.List.listSameRef (.ref l) (.ref b) = false := by unfold Builtin.List.listSameRef; exact beq_eq_false_iff_ne.mpr hne
  have mx : (max (a : Int) (c : Int)).toNat = c := by omega
  have room : ((fun xs : Array Value => xs.extract 0 a ++ new ++ xs.extract c xs.size) its).size ≤ sizeLine + 1 := by simp only [Array.size_append, Array.size_extract]; omega
  unfold setItem
  try with_reducible refine wpAny_holding ?_
  first | refine wpAny_bind (wpAny_pure ?_) | skip
  refine wpAny_bind (wpAny_sequenceKey hl.typeIs (by decide) (wpAny_bind (wpAny_callSpecial?_slot (name := Str.ofString "__setitem__") hl.typeIs slot_list_setitem (wpAny_call_entry slot_list_setitem hl.typeIs entry_list_setitem ?_ (args_list_setitem _ _ _)))))
  show wpAny _ _ (Builtin.List.listSubscript? (.ref sl) >>= _) _ _ s
  refine wpAny_bind (by
    unfold Builtin.List.listSubscript?
    refine wpAny_bind (wpAny_specialOf ts slice_no_index ?_)
    simp only [Option.isNone_none, if_true]
    refine wpAny_pure (show wpAny _ _ (typeOf (.ref sl) >>= _) _ _ s from wpAny_bind (wpAny_typeOf ts ?_))
    first | rw [if_neg (by decide)] | refine PySem.W.KFB.if_not (by decide) ?_
    rw [listSliceParts_eq]
    refine wpAny_bind (wpAny_bind (wpAny_field g1 g3 (x := .none) rfl (wpAny_bind (wpAny_listPart .none (by
      rw [if_neg st]
      refine wpAny_bind (wpAny_field g1 g3 (x := vl) rfl (wpAny_bind (wpAny_listPart pl (wpAny_bind (wpAny_field g1 g3 (x := vu) rfl (wpAny_bind (wpAny_listPart pu (wpAny_pure ?_))))))))
      first
        | simp only [ns, Bool.false_eq_true, if_false]
        | refine PySem.W.KFB.if_not ns ?_
        | (dsimp only; rw [if_neg (by rw [ns]; exact Bool.false_ne_true)])
      refine wpAny_bind (m := Builtin.List.listAllItems (.ref b) "must assign iterable to extended slice") (by
        unfold Builtin.List.listAllItems
        refine wpAny_bind (wpAny_typeOf hb.typeIs ?_)
        first | refine PySem.W.KFB.if_so (by decide) ?_ | rw [if_pos (by decide)] | simp only [beq_self_eq_true, Bool.true_or, if_true]
        unfold Builtin.List.listItems
        refine wpAny_bind (wpAny_seqItems e2 rfl (wpAny_pure (wpAny_bind (wpAny_bind (wpAny_seqItems e rfl (wpAny_pure ?_))))))
        refine wpAny_bind (wpAny_of_eq ((sliceIndices_raw (some (a : Int)) hi none its.size (by simp)).trans (congrArg (pure : Int × Int × Int → Sem (Int × Int × Int)) bd)) ?_)
        show wpAny _ _ (if ((1 : Int) == 1) = true then _ else _) _ _ s
        rw [if_pos (by decide)]
        refine wpAny_bind (wpAny_rule ?_)
        first | simp only [notLongL sz, Bool.false_eq_true, if_false] | refine PySem.W.KFB.if_not (notLongL sz) ?_
        first | refine wpAny_bind (wpAny_pure ?_) | skip
        show wpAny _ _ (updateSeq l (fun xs => xs.extract 0 ((a : Int)).toNat ++ new ++ xs.extract (max (a : Int) (c : Int)).toNat xs.size) >>= _) _ _ s
        rw [mx, Int.toNat_natCast]
        refine wpAny_bind (wpAny_updateSeq (hz := Nat.le_trans (Nat.le_add_right _ _) sz) (_hz' := room) e rfl (wpAny_bind (wpAny_letGo ?_)))
        first | exact wpAny_bind (wpAny_pure (wpAny_pure ⟨.none, rfl, wpAny_pure q⟩)) | exact wpAny_pure ⟨.none, rfl, wpAny_pure q⟩)))))))
end
section
variable {X : Cx}
/-- o[lo:hi] = v, lists at o and v; the whole rest where hi is left out -/
def putSl (o : V) (lo hi : Option Int) (v : V) (H : Hp) (Q : Hp → Prop) : Prop := ∃ (l b : Addr) (xs ys : List V) (a c : Nat), o = .ref l ∧ v = .ref b ∧ H l = some (.lst xs) ∧ H b = some (.lst ys) ∧ l ≠ b ∧ lo = some (a : Int) ∧ (hi = some (c : Int) ∨ hi = none ∧ c = xs.length) ∧ a ≤ c ∧ c ≤ xs.length ∧ xs.length + ys.length ≤ sizeLine ∧
  Q (upd H l (.lst (xs.take a ++ ys ++ xs.drop c)))
def gPutSl (to : TE) (tl th : TO) : TG := fun v σ H Q => to σ H fun o H1 => tl σ H1 fun lo H2 => th σ H2 fun hi H3 => putSl o lo hi v H3 fun H4 => Q σ H4
theorem pg_slice {o : Expr} {lo hi : Option Expr} {to : TE} {tl th : TO} {p2 pos : Pos} (ho : PE X o to) (hl : PO X lo tl) (hh : PO X hi th)
    (ha : ∀ v, assign (.Subscript o (.Slice lo hi none p2) pos) X.env v = (do
      let ov ← holding [v] (eval o X.env)
      let iv ← holding [v, ov] (eval (.Slice lo hi none p2) X.env)
      standAt pos
      holding [v, ov, iv] (setItem ov iv v)
      release [iv, v, ov] []) := by intro _; rfl) : PG X (.Subscript o (.Slice lo hi none p2) pos) (gPutSl to tl th) := by
  refine ⟨fun pins s σ H v u Q I r h => ?_⟩
  rw [ha]
  refine wpAny_bind (wpAny_holding (thn (ho.run pins s σ H _ I h) fun ov s1 ⟨x, H1, I1, r1, q1⟩ => wpAny_bind (wpAny_holding (wpAny_Slice (thn (hl.run pins s1 σ H1 _ I1 q1) fun vl s2 ⟨a, H2, I2, pl, q2⟩ => thn (hh.run pins s2 σ H2 _ I2 q2) fun vu s3 ⟨c, H3, I3, pu, q3⟩ => ?_)))))
  rw [evalPart_none]
  refine wpAny_pure (wpAny_bind (wpAny_standAt (wpAny_bind (wpAny_holding ?_))))
  have I4 : Inv X pins σ H3 { s3 with heap := s3.heap.push { cls := .type "slice", data := .fields #[vl, vu, .none] } } := I3.kept (t' := s3.toks) fun b ob q => Heap.get?_push_of_some _ q
  have sl : ({ s3 with heap := s3.heap.push { cls := .type "slice", data := .fields #[vl, vu, .none] } } : Shared).heap.IsSliceOf s3.heap.objs.size vl vu .none := Heap.IsSliceOf.new ..
  generalize ({ s3 with heap := s3.heap.push { cls := .type "slice", data := .fields #[vl, vu, .none] } } : Shared) = s4 at I4 sl ⊢
  obtain ⟨l, b, xs, ys, i, j, rfl, rfl, hx, hy, ne, rfl, hj, hij, hjl, sz, q⟩ := q3
  cases r1
  cases r
  obtain ⟨z, its, n, ra, ea, e⟩ := I4.lstM hx
  obtain ⟨z2, its2, n2, rb, eb, e2⟩ := I4.lstM hy
  have bd : sliceBounds (some (i : Int)) c none its.toArray.size = ((i : Int), (j : Int), 1) := by
    rcases hj with rfl | ⟨rfl, rfl⟩
    · exact bounds_run hij (by rw [List.size_toArray, ← ea]; exact hjl)
    · have := bounds_end (a := i) (n := its.toArray.size) (by rw [List.size_toArray, ← ea]; exact hij)
      rw [this, List.size_toArray, ← ea]
  refine put_slice (a := i) (c := j) e e2 ne sl pl pu bd hij (by rw [List.size_toArray, ← ea]; exact hjl) (by rw [List.size_toArray, List.size_toArray, ← ea, ← eb]; exact sz) (wpAny_release ⟨σ, _, I4.lset (its' := its.take i ++ its2 ++ its.drop j) (t' := s4.toks) hx e (splice_eq its its2 i j) (Vals.append (Vals.append (ra.take _) rb) (ra.drop _)) ?_, q⟩)
  rw [List.length_append, List.length_append, List.length_take, List.length_drop]
  omega
end
end L2

/-! Arrows between two parts. -/
namespace L2
open PySem PySem.Spec PyProof.Rows
theorem Room.u65 {k : Nat} {A : Around} (r : Room k A) : A.units + 65 < cLine := by have := r.un; omega
/-- x in t, t a tuple of data of any depth -/
def rInDT (K : PySem.W.Frag) : R2 := fun x y H Q => ∃ d ds, Dp K H x d ∧ Dp K H y (.tuple ds) ∧ SeqAt.shaped d = true ∧ SeqAt.shaped (.tuple ds) = true ∧ Q (.bl (ds.any fun z => PyData.eqv z d)) H
theorem op_inDT {X : Cx} (hu : X.A.units + 65 < cLine) : OpR X (compareOp .In) (rInDT X.K) := by
  intro pins s σ H x y v u Q I rx ry h
  obtain ⟨d, ds, hd, he, sd, se, q⟩ := h
  obtain ⟨as, r1⟩ := Dp.reads I d x v hd rx
  obtain ⟨bs, r2⟩ := Dp.reads I (.tuple ds) y u he ry
  exact SeqAt.in_tuple_reads r2 r1 (SeqAt.canLay_of_shaped se) (SeqAt.canLay_of_shaped sd) (room_in_shaped sd hu) ⟨.bl _, H, I, rfl, q⟩
end L2
namespace Fam
open PySem L2 S5
open C8 (pss_cut tCut)
theorem any_prs (a : Arr) : ∀ as : List Arr, ((as.map prL).map dNs).any (fun z => PyData.eqv z (dNs (prL a))) = decide (a ∈ as)
  | [] => rfl
  | b :: as => by
    have h1 : PyData.eqv (dNs (prL b)) (dNs (prL a)) = decide (a = b) := eqv_dec (dNs_pl _) (dNs_pl _) ⟨fun z => by
      have := dNs_inj z
      injection this with z1 z2
      injection z2 with z2 _
      exact Prod.ext z1.symm z2.symm, fun z => by rw [z]⟩
    rw [List.map_cons, List.map_cons, List.any_cons, h1, any_prs a as, Bool.eq_iff_iff, Bool.or_eq_true, decide_eq_true_eq, decide_eq_true_eq, decide_eq_true_eq, List.mem_cons]
/-- pair in fore -/
theorem in_prs {K : PySem.W.Frag} {H : Hp} {x v : V} {a : Arr} {as : List Arr} {Q : VK} (hx : PairAt H x a) (hv : PrsAt H v as) (q : Q (.bl (decide (a ∈ as))) H) : rInDT K x v H Q := by
  obtain ⟨p, xs, rfl, hp, hA⟩ := hv
  refine ⟨dNs (prL a), (as.map prL).map dNs, dp_ns hx, dp_prs hp hA, shaped_pl (dNs_pl _) (Nat.le_trans (dNs_depth _) (by decide)), dNss_sh _, ?_⟩
  rw [any_prs]
  exact q
def cell (fore back : List Arr) (a b x y : Nat) : List Arr := (if (a, b) ∈ fore then [(x, y)] else []) ++ (if (a, b) ∈ back then [(y, x)] else [])
def rowAr (fore back : List Arr) (L : List Nat) (x m n : Nat) : List Arr := (List.range' m n).flatMap fun y => cell fore back (L.getD x 0) (L.getD y 0) x y
def btwAr (fore back : List Arr) (L : List Nat) (s k m n : Nat) : List Arr := (List.range' s k).flatMap fun x => rowAr fore back L x m n
theorem rowAr_succ (fore back : List Arr) (L : List Nat) (x m n : Nat) : rowAr fore back L x m (n + 1) = rowAr fore back L x m n ++ cell fore back (L.getD x 0) (L.getD (m + n) 0) x (m + n) := by
  unfold rowAr
  rw [List.range'_1_concat, List.flatMap_append]
  simp
theorem btwAr_succ (fore back : List Arr) (L : List Nat) (s k m n : Nat) : btwAr fore back L s (k + 1) m n = btwAr fore back L s k m n ++ rowAr fore back L (s + k) m n := by
  unfold btwAr
  rw [List.range'_1_concat, List.flatMap_append]
  simp
theorem cell_len (fore back : List Arr) (a b x y : Nat) : (cell fore back a b x y).length ≤ 2 := by
  unfold cell
  rw [List.length_append]
  split <;> split <;> simp
theorem rowAr_len (fore back : List Arr) (L : List Nat) (x m : Nat) : ∀ n, (rowAr fore back L x m n).length ≤ 2 * n
  | 0 => Nat.le_refl _
  | n + 1 => by
    have h1 := rowAr_len fore back L x m n
    have h2 := cell_len fore back (L.getD x 0) (L.getD (m + n) 0) x (m + n)
    rw [rowAr_succ, List.length_append]
    omega
theorem btwAr_len (fore back : List Arr) (L : List Nat) (s m n : Nat) : ∀ k, (btwAr fore back L s k m n).length ≤ k * (2 * n)
  | 0 => by show 0 ≤ _; omega
  | k + 1 => by
    have h1 := btwAr_len fore back L s m n k
    have h2 := rowAr_len fore back L (s + k) m n
    rw [btwAr_succ, List.length_append, Nat.succ_mul]
    omega
def spBetween2 (K : PySem.W.Frag) : Sp := fun vs H Q _ => ∃ (p t : Addr) (L : List Nat) (s m : Nat) (v w : V) (fore back : List Arr), vs = [.ref p, .ref t, v, w] ∧ SqL K H p (L.map vInt) ∧ H t = some (.tup [vInt s, vInt m]) ∧ PrsAt H v fore ∧ PrsAt H w back ∧ s ≤ m ∧ m ≤ L.length ∧ L.length ≤ 12 ∧
  ∀ (H' : Hp) (q : Addr) (xs : List V), Same H H' → H q = none → H' q = some (.lst xs) → Al (PairAt H') xs (btwAr fore back L s (m - s) m (L.length - m)) → Q (.ref q) H'
section
variable {P : Program} {w : World} {K : PySem.W.Frag} {mg : Str → Option Value} {base : Heap} {C : Addr}
abbrev nAB : List Str := ["labels", "starts", "fore", "back", "start", "middle", "arrows", "x", "y", "pair"]
theorem scAB : FnScope nAB ["labels", "starts", "fore", "back"] (defScope sArrowsBetween) := ⟨rfl, rfl, rfl, by decide +kernel, rfl, by decide +kernel, by decide +kernel⟩
theorem ok_arrows_between {f : Addr} {fd : FuncData} (F : Fun K "arrows_between" "arrows_between" sArrowsBetween f fd) (T : Bare mg) : FnOk P w K mg base CX0 1 f fd ["labels", "starts", "fore", "back"] (spBetween2 K) := by
  refine F.ok scAB (fun vs H Q E h => ?_) (fun cdv A outer s H vs Q E hr h => ?_)
  · obtain ⟨p, t, L, s, m, v, w, fore, back, rfl, _⟩ := h
    rfl
  · obtain ⟨p, t, L, s, m, v, w, fore, back, rfl, hp, ht, hv, hw, hsm, hmL, hL, k⟩ := h
    refine ⟨_, (pss_cons (ps_asg (pv 1) (pg_tup rfl (pgs_cons (pg_name (i := 4) scAB.nd rfl (Or.inl rfl)) (pgs_cons (pg_name (i := 5) scAB.nd rfl (Or.inl rfl)) pgs_nil))))
      (pss_cons (ps_set (i := 6) scAB.nd rfl (Or.inl rfl) (pe_lst pa_nil))
      (pss_cons (ps_for PassesOwn.never rfl (pi_range2 rfl T.range (pa_cons (pv 4) (pa_cons (pv 5) pa_nil))) (pg_name (i := 7) scAB.nd rfl (Or.inl rfl))
          (pss_one (ps_for PassesOwn.never rfl (pi_range2 rfl T.range (pa_cons (pv 5) (pa_cons (pe_callB call_len_seq (by rfl) T.len PySem.boot_len (pa_cons (pv 0) pa_nil)) pa_nil))) (pg_name (i := 8) scAB.nd rfl (Or.inl rfl))
              (pss_cons (ps_set (i := 9) scAB.nd rfl (Or.inl rfl) (pe_tup (pa_cons (pe_ix ix_list (pv 0) (pv 7) (fun _ _ => rfl)) (pa_cons (pe_ix ix_list (pv 0) (pv 8) (fun _ _ => rfl)) pa_nil))))
              (pss_cut (ps_if (pt_cmpR (op_inDT hr.u65) (pv 9) (pv 2) (by rfl)) (pss_one (ps_expr (pe_bm PySem.F.plainAttrs_list PySem.F.slot_list_append PySem.F.type_list_append mt_append (pv 6) (pa_cons (pe_tup (pa_cons (pv 7) (pa_cons (pv 8) pa_nil))) pa_nil)))) pss_nil)
              (pss_one (ps_if (pt_cmpR (op_inDT hr.u65) (pv 9) (pv 3) (by rfl)) (pss_one (ps_expr (pe_bm PySem.F.plainAttrs_list PySem.F.slot_list_append PySem.F.type_list_append mt_append (pv 6) (pa_cons (pe_tup (pa_cons (pv 8) (pa_cons (pv 7) pa_nil))) pa_nil)))) pss_nil)))))))
      (pss_one (ps_ret (pv 6)))))), ?_⟩
    refine ⟨_, rfl, t, _, rfl, SqT.of ht, rfl, _, _, rfl, _, _, rfl, rfl, small (m := 1) (Nat.zero_le _), fun D hD => ?_⟩
    have e0 := same_new (o := .lst []) hD
    refine ⟨_, rfl, _, rfl, (s : Int), (m : Int), rfl, ⟨by omega, by omega, by omega, by omega⟩, ?_⟩
    have en : ((m : Int) - s).toNat = m - s := by omega
    rw [en]
    refine for_range (lo := (s : Int)) (n := m - s) (fun i σ H' => ∃ (y7 y8 y9 : Option V) (ys : List V), σ = [some (.ref p), some (.ref t), some v, some w, some (vInt s), some (vInt m), some (.ref D), y7, y8, y9] ∧ Same H H' ∧ H' D = some (.lst ys) ∧ Al (PairAt H') ys (btwAr fore back L s i m (L.length - m))) ⟨none, none, none, [], rfl, e0, upd_same, trivial⟩ ?_ ?_
    · rintro i σ H1 hi ⟨y7, y8, y9, ys, rfl, sm, hY, hA⟩
      have ei : (s : Int) + i = ((s + i : Nat) : Int) := by omega
      have b1 := btwAr_len fore back L s m (L.length - m) i
      have b2 : i * (2 * (L.length - m)) ≤ 12 * 24 := Nat.mul_le_mul (by omega) (by omega)
      have bl := hA.len
      refine ⟨_, rfl, _, rfl, p, _, rfl, .inl (sm.seq hp), (m : Int), (L.length : Int), by rw [List.length_map], ⟨by omega, by omega, by omega, by omega⟩, ?_⟩
      have en2 : ((L.length : Int) - m).toNat = L.length - m := by omega
      rw [en2, ei]
      refine for_range (lo := (m : Int)) (n := L.length - m) (fun j σ H' => ∃ (y8 y9 : Option V) (zs : List V), σ = [some (.ref p), some (.ref t), some v, some w, some (vInt s), some (vInt m), some (.ref D), some (vInt (s + i)), y8, y9] ∧ Same H H' ∧ H' D = some (.lst zs) ∧ Al (PairAt H') zs (btwAr fore back L s i m (L.length - m) ++ rowAr fore back L (s + i) m j)) ⟨y8, y9, ys, rfl, sm, hY, by
        show Al _ _ (_ ++ [])
        rw [List.append_nil]
        exact hA⟩ ?_ ?_
      · rintro j σ H2 hj ⟨y8, y9, zs, rfl, sm2, hZ, hB⟩
        have ej : (m : Int) + j = ((m + j : Nat) : Int) := by omega
        have hs1 : s + i < L.length := by omega
        have hm1 : m + j < L.length := by omega
        have c1 := rowAr_len fore back L (s + i) m j
        have cl := hB.len
        rw [List.length_append] at cl
        rw [ej]
        have g1 : L.getD (s + i) 0 = L[s + i] := by rw [List.getD_eq_getElem?_getD, List.getElem?_eq_getElem hs1]; rfl
        have g2 : L.getD (m + j) 0 = L[m + j] := by rw [List.getD_eq_getElem?_getD, List.getElem?_eq_getElem hm1]; rfl
        refine ⟨_, rfl, _, rfl, p, _, _, vInt L[s + i], rfl, rfl, sm2.seq hp, atI_nat (j := s + i) (by rw [List.getElem?_map, List.getElem?_eq_getElem hs1]; rfl), _, rfl, _, rfl, p, _, _, vInt L[m + j], rfl, rfl, sm2.seq hp, atI_nat (j := m + j) (by rw [List.getElem?_map, List.getElem?_eq_getElem hm1]; rfl), small (m := 2) (Nat.le_refl _), fun u hu => ?_⟩
        have e3 := same_new (o := .tup [vInt L[s + i], vInt L[m + j]]) hu
        obtain ⟨H3, eH3⟩ : ∃ H3, H3 = upd H2 u (.tup [vInt L[s + i], vInt L[m + j]]) := ⟨_, rfl⟩
        rw [← eH3] at e3 ⊢
        have sm3 := sm2.trans e3
        have hu3 : PairAt H3 (.ref u) (L[s + i], L[m + j]) := ⟨u, rfl, by rw [eH3]; exact upd_same⟩
        have hZ3 := e3 _ _ hZ
        have hB3 := hB.imp fun _ _ h => h.tups (Tups.of e3)
        rw [rowAr_succ, g1, g2, ← List.append_assoc]
        -- fore
        obtain ⟨pre, epre⟩ : ∃ pre : List Arr, pre = if (L[s + i], L[m + j]) ∈ fore then [(s + i, m + j)] else [] := ⟨_, rfl⟩
        have lpre : pre.length ≤ 1 := by rw [epre]; split <;> simp
        refine ⟨fun σ' H' => ∃ zs', σ' = [some (.ref p), some (.ref t), some v, some w, some (vInt s), some (vInt m), some (.ref D), some (vInt (s + i)), some (vInt (m + j)), some (.ref u)] ∧ Same H H' ∧ H' D = some (.lst zs') ∧ PairAt H' (.ref u) (L[s + i], L[m + j]) ∧ Al (PairAt H') zs' (btwAr fore back L s i m (L.length - m) ++ rowAr fore back L (s + i) m j ++ pre), ?_, ?_⟩
        · refine ⟨_, rfl, _, rfl, in_prs hu3 (hv.tups (Tups.of sm3)) ⟨_, rfl, ?_⟩⟩
          by_cases c : (L[s + i], L[m + j]) ∈ fore
          · rw [decide_eq_true c]
            refine iteT ⟨_, rfl, .inl ⟨rfl, _, SqL.of hZ3⟩, _, rfl, _, rfl, small (m := 2) (Nat.le_refl _), fun z hz => ?_⟩
            have e4 := same_new (o := .tup [vInt (s + i), vInt (m + j)]) hz
            have hZ4 := e4 _ _ hZ3
            have t5 : Tups _ (upd (upd H3 z (.tup [vInt (s + i), vInt (m + j)])) D (.lst (zs ++ [.ref z]))) := Tups.upd hZ4
            refine ⟨D, _, _, rfl, rfl, hZ4, below (m := 1000) (by omega), zs ++ [.ref z], rfl, same_upd (sm3.trans e4) hD, upd_same, hu3.tups ((Tups.of e4).trans t5), ?_⟩
            rw [epre, if_pos c]
            exact Al.append (ys := [.ref z]) (bs := [(s + i, m + j)]) (hB3.imp fun _ _ h => h.tups ((Tups.of e4).trans t5)) ⟨⟨z, rfl, t5 _ _ upd_same⟩, trivial⟩
          · rw [decide_eq_false c]
            refine iteF ⟨zs, rfl, sm3, hZ3, hu3, ?_⟩
            rw [epre, if_neg c, List.append_nil]
            exact hB3
        · rintro σ' H4 ⟨zs', rfl, sm4, hZ4, hu4, hB4⟩
          have cl4 := hB4.len
          rw [List.length_append, List.length_append] at cl4
          have ecell : cell fore back L[s + i] L[m + j] (s + i) (m + j) = pre ++ (if (L[s + i], L[m + j]) ∈ back then [(m + j, s + i)] else []) := by
            rw [epre]
            rfl
          rw [ecell, ← List.append_assoc]
          refine ⟨_, rfl, _, rfl, in_prs hu4 (hw.tups (Tups.of sm4)) ⟨_, rfl, ?_⟩⟩
          by_cases c : (L[s + i], L[m + j]) ∈ back
          · rw [decide_eq_true c]
            refine iteT ⟨_, rfl, .inl ⟨rfl, _, SqL.of hZ4⟩, _, rfl, _, rfl, small (m := 2) (Nat.le_refl _), fun z hz => ?_⟩
            have e4 := same_new (o := .tup [vInt (m + j), vInt (s + i)]) hz
            have hZ5 := e4 _ _ hZ4
            have t5 : Tups _ (upd (upd H4 z (.tup [vInt (m + j), vInt (s + i)])) D (.lst (zs' ++ [.ref z]))) := Tups.upd hZ5
            refine ⟨D, _, _, rfl, rfl, hZ5, below (m := 1000) (by omega), _, _, zs' ++ [.ref z], rfl, same_upd (sm4.trans e4) hD, upd_same, ?_⟩
            rw [if_pos c]
            exact Al.append (ys := [.ref z]) (bs := [(m + j, s + i)]) (hB4.imp fun _ _ h => h.tups ((Tups.of e4).trans t5)) ⟨⟨z, rfl, t5 _ _ upd_same⟩, trivial⟩
          · rw [decide_eq_false c]
            refine iteF ⟨_, _, zs', rfl, sm4, hZ4, ?_⟩
            rw [if_neg c, List.append_nil]
            exact hB4
      · rintro σ H2 ⟨y8, y9, zs, rfl, sm2, hZ, hB⟩
        refine ⟨_, y8, y9, zs, rfl, sm2, hZ, ?_⟩
        rw [btwAr_succ]
        exact hB
    · rintro σ H1 ⟨y7, y8, y9, ys, rfl, sm, hY, hA⟩
      exact ⟨_, rfl, k H1 D ys sm hD hY hA⟩
end
end Fam

/-! built, web_of, labels_of. -/
namespace Fam
open PySem L2 S5
open C8 (pss_cut tCut)
def dJn : Jn := ⟨[], [], [], []⟩
def jnOf (b : Bn) (j : Nat) : Jn := b.joins.getD j dJn
def labT (b : Bn) : Tm → List Nat
  | .hole => []
  | .leaf a _ => [a]
  | .join j l r => (labT b l).map (fun x => (jnOf b j).left.getD x 0) ++ (labT b r).map (fun x => (jnOf b j).right.getD x 0)
def shA (o : Nat) (as : List Arr) : List Arr := as.map fun a => (o + a.1, o + a.2)
def arrT (b : Bn) : Tm → List Arr
  | .join j l r => arrT b l ++ shA (labT b l).length (arrT b r) ++ btwAr (jnOf b j).fore (jnOf b j).back (labT b l ++ labT b r) 0 (labT b l).length (labT b l).length (labT b r).length
  | _ => []
def TmOk (b : Bn) : Tm → Prop
  | .hole => False
  | .leaf a _ => a ∈ b.starts
  | .join j l r => j < b.joins.length ∧ TmOk b l ∧ TmOk b r
theorem labT_len (b : Bn) : ∀ t : Tm, TmOk b t → (labT b t).length = (leavesT t).length
  | .leaf _ _, _ => rfl
  | .join j l r, h => by
    show ((labT b l).map _ ++ (labT b r).map _).length = (leavesT l ++ leavesT r).length
    rw [List.length_append, List.length_append, List.length_map, List.length_map, labT_len b l h.2.1, labT_len b r h.2.2]
theorem shA_app (o : Nat) (a b : List Arr) : shA o (a ++ b) = shA o a ++ shA o b := List.map_append
theorem shA_shA (o p : Nat) (a : List Arr) : shA o (shA p a) = shA (o + p) a := by
  unfold shA
  rw [List.map_map]
  refine List.map_congr_left fun x _ => ?_
  show (o + (p + x.1), o + (p + x.2)) = (o + p + x.1, o + p + x.2)
  rw [Nat.add_assoc, Nat.add_assoc]
theorem cell_sh (f k : List Arr) (a b x y o : Nat) : cell f k a b (o + x) (o + y) = shA o (cell f k a b x y) := by
  unfold cell
  rw [shA_app]
  split <;> split <;> rfl
theorem getD_pre (Lp L : List Nat) (x : Nat) : (Lp ++ L).getD (Lp.length + x) 0 = L.getD x 0 := by
  rw [List.getD_eq_getElem?_getD, List.getElem?_append_right (Nat.le_add_right _ _), Nat.add_sub_cancel_left, List.getD_eq_getElem?_getD]
theorem row_sh (f k : List Arr) (Lp L : List Nat) (x m : Nat) : ∀ n, rowAr f k (Lp ++ L) (Lp.length + x) (Lp.length + m) n = shA Lp.length (rowAr f k L x m n)
  | 0 => rfl
  | n + 1 => by
    rw [rowAr_succ, rowAr_succ, shA_app, row_sh f k Lp L x m n, Nat.add_assoc, getD_pre, getD_pre, cell_sh]
theorem btw_sh (f k : List Arr) (Lp L : List Nat) (s m n : Nat) : ∀ q, btwAr f k (Lp ++ L) (Lp.length + s) q (Lp.length + m) n = shA Lp.length (btwAr f k L s q m n)
  | 0 => rfl
  | q + 1 => by
    rw [btwAr_succ, btwAr_succ, shA_app, btw_sh f k Lp L s m n q, Nat.add_assoc, row_sh]
def labsL (b : Bn) (ts : List Tm) : List Nat := (ts.map (labT b)).flatten
def arrS (b : Bn) : Nat → List Tm → List Arr
  | _, [] => []
  | o, t :: ts => shA o (arrT b t) ++ arrS b (o + (labT b t).length) ts
theorem labsL_app (b : Bn) (xs ys : List Tm) : labsL b (xs ++ ys) = labsL b xs ++ labsL b ys := by
  unfold labsL
  rw [List.map_append, List.flatten_append]
theorem arrS_app (b : Bn) : ∀ (xs ys : List Tm) (o : Nat), arrS b o (xs ++ ys) = arrS b o xs ++ arrS b (o + (labsL b xs).length) ys
  | [], ys, o => rfl
  | x :: xs, ys, o => by
    show shA o (arrT b x) ++ arrS b _ (xs ++ ys) = shA o (arrT b x) ++ arrS b _ xs ++ _
    rw [arrS_app b xs ys, List.append_assoc]
    show _ = shA o (arrT b x) ++ (_ ++ arrS b (o + (labT b x ++ labsL b xs).length) ys)
    rw [List.length_append, Nat.add_assoc]
theorem arr_join (b : Bn) (Lp : List Nat) (j : Nat) (l r : Tm) : arrS b Lp.length [l, r] ++ btwAr (jnOf b j).fore (jnOf b j).back (Lp ++ (labT b l ++ labT b r)) Lp.length (labT b l).length (Lp.length + (labT b l).length) (labT b r).length = arrS b Lp.length [.join j l r] := by
  show shA Lp.length (arrT b l) ++ (shA (Lp.length + (labT b l).length) (arrT b r) ++ []) ++ _ = shA Lp.length (arrT b l ++ shA (labT b l).length (arrT b r) ++ _) ++ []
  have := btw_sh (jnOf b j).fore (jnOf b j).back Lp (labT b l ++ labT b r) 0 (labT b l).length (labT b r).length (labT b l).length
  rw [Nat.add_zero] at this
  rw [List.append_nil, List.append_nil, this, shA_app, shA_app, shA_shA]
theorem jn_ok {b : Bn} (hb : BnOk b) {j : Nat} (h : j < b.joins.length) : JnOk b.labels (jnOf b j) := by
  unfold jnOf
  rw [List.getD_eq_getElem?_getD, List.getElem?_eq_getElem h]
  exact hb.j _ (List.getElem_mem h)
theorem getD_lt {l : List Nat} {L x : Nat} (h : ∀ a ∈ l, a < L) (hl : x < l.length) : l.getD x 0 < L := by
  rw [List.getD_eq_getElem?_getD, List.getElem?_eq_getElem hl]
  exact h _ (List.getElem_mem hl)
theorem lab_lt {b : Bn} (hb : BnOk b) : ∀ t : Tm, TmOk b t → ∀ a ∈ labT b t, a < b.labels
  | .leaf a _, h, x, hx => by
    rw [List.mem_singleton.mp hx]
    exact hb.s.1 _ h
  | .join j l r, h, x, hx => by
    have hj := jn_ok hb h.1
    rcases List.mem_append.mp hx with q | q
    · obtain ⟨a, ha, rfl⟩ := List.mem_map.mp q
      exact getD_lt hj.l.1 (by rw [hj.ll]; exact lab_lt hb l h.2.1 a ha)
    · obtain ⟨a, ha, rfl⟩ := List.mem_map.mp q
      exact getD_lt hj.r.1 (by rw [hj.lr]; exact lab_lt hb r h.2.2 a ha)
theorem mem_cell {f k : List Arr} {a b x y : Nat} {e : Arr} (h : e ∈ cell f k a b x y) : e = (x, y) ∨ e = (y, x) := by
  unfold cell at h
  rcases List.mem_append.mp h with h | h
  · split at h
    · exact .inl (List.mem_singleton.mp h)
    · cases h
  · split at h
    · exact .inr (List.mem_singleton.mp h)
    · cases h
theorem mem_row {f k : List Arr} {L : List Nat} {x m : Nat} {e : Arr} : ∀ {n}, e ∈ rowAr f k L x m n → ∃ y, m ≤ y ∧ y < m + n ∧ (e = (x, y) ∨ e = (y, x))
  | 0, h => by cases h
  | n + 1, h => by
    rw [rowAr_succ] at h
    rcases List.mem_append.mp h with h | h
    · obtain ⟨y, h1, h2, h3⟩ := mem_row h
      exact ⟨y, h1, by omega, h3⟩
    · exact ⟨m + n, by omega, by omega, mem_cell h⟩
theorem mem_btw {f k : List Arr} {L : List Nat} {s m n : Nat} {e : Arr} : ∀ {q}, e ∈ btwAr f k L s q m n → ∃ x y, s ≤ x ∧ x < s + q ∧ m ≤ y ∧ y < m + n ∧ (e = (x, y) ∨ e = (y, x))
  | 0, h => by cases h
  | q + 1, h => by
    rw [btwAr_succ] at h
    rcases List.mem_append.mp h with h | h
    · obtain ⟨x, y, h1, h2, h3⟩ := mem_btw h
      exact ⟨x, y, h1, by omega, h3⟩
    · obtain ⟨y, h1, h2, h3⟩ := mem_row h
      exact ⟨s + q, y, by omega, by omega, h1, h2, h3⟩
theorem nd_app {α : Type} {a b : List α} (h1 : a.Nodup) (h2 : b.Nodup) (h : ∀ x, x ∈ a → x ∈ b → False) : (a ++ b).Nodup := List.nodup_append.mpr ⟨h1, h2, fun x hx y hy e => h x hx (by rw [e]; exact hy)⟩
theorem cell_nd {f k : List Arr} {a b x y : Nat} (h : x ≠ y) : (cell f k a b x y).Nodup := by
  unfold cell
  refine nd_app (by split <;> simp) (by split <;> simp) fun e h1 h2 => ?_
  split at h1
  · split at h2
    · rw [List.mem_singleton.mp h1] at h2
      have := List.mem_singleton.mp h2
      injection this with e1 e2
      exact h e1
    · cases h2
  · cases h1
theorem row_nd {f k : List Arr} {L : List Nat} {x m : Nat} (h : x < m) : ∀ n, (rowAr f k L x m n).Nodup
  | 0 => List.nodup_nil
  | n + 1 => by
    rw [rowAr_succ]
    refine nd_app (row_nd h n) (cell_nd (by omega)) fun e h1 h2 => ?_
    obtain ⟨y, a1, a2, a3⟩ := mem_row h1
    have a4 := mem_cell h2
    rcases a3 with rfl | rfl <;> rcases a4 with e | e <;> injection e with e1 e2 <;> omega
theorem btw_nd {f k : List Arr} {L : List Nat} {s m n : Nat} : ∀ q, s + q ≤ m → (btwAr f k L s q m n).Nodup
  | 0, _ => List.nodup_nil
  | q + 1, h => by
    rw [btwAr_succ]
    refine nd_app (btw_nd q (by omega)) (row_nd (by omega) n) fun e h1 h2 => ?_
    obtain ⟨x, y, a1, a2, a3, a4, a5⟩ := mem_btw h1
    obtain ⟨z, b1, b2, b3⟩ := mem_row h2
    rcases a5 with rfl | rfl <;> rcases b3 with e | e <;> injection e with e1 e2 <;> omega
theorem arr_good (b : Bn) : ∀ t : Tm, GoodArr (labT b t).length (arrT b t)
  | .hole => ⟨fun a h => (by cases h), List.nodup_nil⟩
  | .leaf _ _ => ⟨fun a h => (by cases h), List.nodup_nil⟩
  | .join j l r => by
    obtain ⟨l1, l2⟩ := arr_good b l
    obtain ⟨r1, r2⟩ := arr_good b r
    have en : (labT b (.join j l r)).length = (labT b l).length + (labT b r).length := by
      show ((labT b l).map _ ++ (labT b r).map _).length = _
      rw [List.length_append, List.length_map, List.length_map]
    rw [en]
    have shm : ∀ e ∈ shA (labT b l).length (arrT b r), ∃ a ∈ arrT b r, e = ((labT b l).length + a.1, (labT b l).length + a.2) := fun e he => by
      obtain ⟨a, ha, rfl⟩ := List.mem_map.mp he
      exact ⟨a, ha, rfl⟩
    constructor
    · intro e he
      rcases List.mem_append.mp he with he | he
      · rcases List.mem_append.mp he with he | he
        · obtain ⟨a1, a2, a3⟩ := l1 e he
          exact ⟨by omega, by omega, a3⟩
        · obtain ⟨a, ha, rfl⟩ := shm e he
          obtain ⟨a1, a2, a3⟩ := r1 a ha
          exact ⟨by show (labT b l).length + a.1 < _; omega, by show (labT b l).length + a.2 < _; omega, by show (labT b l).length + a.1 ≠ (labT b l).length + a.2; omega⟩
      · obtain ⟨x, y, a1, a2, a3, a4, a5⟩ := mem_btw he
        rcases a5 with rfl | rfl
        · exact ⟨by show x < _; omega, by show y < _; omega, by show x ≠ y; omega⟩
        · exact ⟨by show y < _; omega, by show x < _; omega, by show y ≠ x; omega⟩
    · have ndr : (shA (labT b l).length (arrT b r)).Nodup := List.pairwise_map.mpr (r2.imp fun {x y} ne e => ne (by
        injection e with e1 e2
        exact Prod.ext (by omega) (by omega)))
      have d1 : ∀ e, e ∈ arrT b l → e ∈ shA (labT b l).length (arrT b r) → False := fun e h1 h2 => by
        obtain ⟨a1, a2, a3⟩ := l1 e h1
        obtain ⟨a, ha, rfl⟩ := shm e h2
        have : (labT b l).length + a.1 < (labT b l).length := a1
        omega
      refine nd_app (nd_app l2 ndr d1) (btw_nd _ (by omega)) fun e h1 h2 => ?_
      obtain ⟨x, y, a1, a2, a3, a4, a5⟩ := mem_btw h2
      rcases List.mem_append.mp h1 with h1 | h1
      · obtain ⟨c1, c2, c3⟩ := l1 e h1
        rcases a5 with rfl | rfl
        · have : y < _ := c2
          omega
        · have : y < _ := c1
          omega
      · obtain ⟨a, ha, ea⟩ := shm e h1
        rw [ea] at a5
        rcases a5 with e | e <;> injection e with e1 e2 <;> omega
def stepOk (b : Bn) : Stp → Prop
  | .tm (.leaf a _) => a ∈ b.starts
  | .tm _ => False
  | .num j => j < b.joins.length
theorem post_ok (b : Bn) : ∀ t : Tm, TmOk b t → ∀ s ∈ post t, stepOk b s
  | .leaf a bs, h, s, hs => by rw [List.mem_singleton.mp hs]; exact h
  | .join j l r, h, s, hs => by
    rcases List.mem_append.mp hs with hs | hs
    · rcases List.mem_append.mp hs with hs | hs
      · exact post_ok b l h.2.1 s hs
      · exact post_ok b r h.2.2 s hs
    · rw [List.mem_singleton.mp hs]
      exact h.1
theorem cut_mid (xs : List V) {a c : Nat} (h : a ≤ c) (hc : c ≤ xs.length) : cutV xs (some (a : Int)) (some (c : Int)) = (xs.drop a).take (c - a) := by
  unfold cutV
  rw [HT.sIx_nat, HT.sIx_nat, Nat.min_eq_left (Nat.le_trans h hc), Nat.min_eq_left hc]
theorem cut_end (xs : List V) {a : Nat} (h : a ≤ xs.length) : cutV xs (some (a : Int)) none = xs.drop a := by
  unfold cutV
  rw [HT.sIx_nat, HT.sIx_none, Nat.min_eq_left h]
  exact List.take_of_length_le (by rw [List.length_drop]; exact Nat.le_refl _)
/-- the three lists of the walk -/
structure BS (G H H' : Hp) (PL PA PS P : Addr) (Ls : List Nat) (as : List Arr) (sz : List Nat) (xs : List V) : Prop where
  sm : Same H H'
  hL : H' PL = some (.lst (Ls.map vInt))
  hA : ∃ zs, H' PA = some (.lst zs) ∧ Al (PairAt H') zs as
  hS : H' PS = some (.lst (sz.map vInt))
  hP : H' P = some (.lst xs)
  tu : Tups G H'
structure BN (H : Hp) (PL PA PS P : Addr) : Prop where
  nL : H PL = none
  nA : H PA = none
  nS : H PS = none
  la : PL ≠ PA
  ls : PL ≠ PS
  as : PA ≠ PS
  pl : P ≠ PL
  pa : P ≠ PA
  ps : P ≠ PS
theorem BS.same {G H H' H2 : Hp} {PL PA PS P : Addr} {Ls : List Nat} {as : List Arr} {sz : List Nat} {xs : List V} (h : BS G H H' PL PA PS P Ls as sz xs) (s : Same H' H2) : BS G H H2 PL PA PS P Ls as sz xs := by
  obtain ⟨zs, h1, h2⟩ := h.hA
  exact ⟨h.sm.trans s, s _ _ h.hL, ⟨zs, s _ _ h1, h2.imp fun _ _ h => h.tups (Tups.of s)⟩, s _ _ h.hS, s _ _ h.hP, h.tu.trans (Tups.of s)⟩
theorem BS.setL {G H H' : Hp} {PL PA PS P : Addr} {Ls Ls' : List Nat} {as : List Arr} {sz : List Nat} {xs ys : List V} (h : BS G H H' PL PA PS P Ls as sz xs) (n : BN H PL PA PS P) (e : ys = Ls'.map vInt) : BS G H (upd H' PL (.lst ys)) PL PA PS P Ls' as sz xs := by
  obtain ⟨zs, h1, h2⟩ := h.hA
  subst e
  exact ⟨same_upd h.sm n.nL, upd_same, ⟨zs, by rw [upd_ne n.la.symm]; exact h1, h2.imp fun _ _ q => q.tups (Tups.upd h.hL)⟩, by rw [upd_ne n.ls.symm]; exact h.hS, by rw [upd_ne n.pl]; exact h.hP, h.tu.trans (Tups.upd h.hL)⟩
theorem BS.setS {G H H' : Hp} {PL PA PS P : Addr} {Ls : List Nat} {as : List Arr} {sz sz' : List Nat} {xs ys : List V} (h : BS G H H' PL PA PS P Ls as sz xs) (n : BN H PL PA PS P) (e : ys = sz'.map vInt) : BS G H (upd H' PS (.lst ys)) PL PA PS P Ls as sz' xs := by
  obtain ⟨zs, h1, h2⟩ := h.hA
  subst e
  exact ⟨same_upd h.sm n.nS, by rw [upd_ne n.ls]; exact h.hL, ⟨zs, by rw [upd_ne n.as]; exact h1, h2.imp fun _ _ q => q.tups (Tups.upd h.hS)⟩, upd_same, by rw [upd_ne n.ps]; exact h.hP, h.tu.trans (Tups.upd h.hS)⟩
theorem BS.setA {G H H' : Hp} {PL PA PS P : Addr} {Ls : List Nat} {as as' : List Arr} {sz : List Nat} {xs zs ys : List V} (h : BS G H H' PL PA PS P Ls as sz xs) (n : BN H PL PA PS P) (h1 : H' PA = some (.lst zs)) (e : Al (PairAt H') ys as') : BS G H (upd H' PA (.lst ys)) PL PA PS P Ls as' sz xs :=
  ⟨same_upd h.sm n.nA, by rw [upd_ne n.la]; exact h.hL, ⟨ys, upd_same, e.imp fun _ _ q => q.tups (Tups.upd h1)⟩, by rw [upd_ne n.as.symm]; exact h.hS, by rw [upd_ne n.pa]; exact h.hP, h.tu.trans (Tups.upd h1)⟩
def spBuilt (C CW : Addr) : Sp := fun vs H Q _ => ∃ (x : Addr) (v : V) (b : Bn) (t : Tm), vs = [.ref x, v] ∧ BAt C H x b ∧ TmAt H v t ∧ TmOk b t ∧ t.nodes ≤ 100000 ∧ (leavesT t).length ≤ 12 ∧
  ∀ (H' : Hp) (p y : Addr) (u : V) (ar : List Arr), Same H H' → H' p = some (.tup [.ref y, u]) → WAt CW H' y (leavesT t).length ar → ar.Perm (arrT b t) → PlacesAt H' u (labT b t) → Q (.ref p) H'
def spWebOf (C CW : Addr) : Sp := fun vs H Q _ => ∃ (x : Addr) (v : V) (b : Bn) (t : Tm), vs = [.ref x, v] ∧ BAt C H x b ∧ TmAt H v t ∧ TmOk b t ∧ t.nodes ≤ 100000 ∧ (leavesT t).length ≤ 12 ∧
  ∀ (H' : Hp) (y : Addr) (ar : List Arr), Same H H' → WAt CW H' y (leavesT t).length ar → ar.Perm (arrT b t) → Q (.ref y) H'
def spLabelsOf (C CW : Addr) : Sp := fun vs H Q _ => ∃ (x : Addr) (v : V) (b : Bn) (t : Tm), vs = [.ref x, v] ∧ BAt C H x b ∧ TmAt H v t ∧ TmOk b t ∧ t.nodes ≤ 100000 ∧ (leavesT t).length ≤ 12 ∧
  ∀ (H' : Hp) (u : V), Same H H' → PlacesAt H' u (labT b t) → Q u H'
theorem tm_pos (b : Bn) : ∀ t : Tm, TmOk b t → 1 ≤ (leavesT t).length
  | .leaf _ _, _ => Nat.le_refl _
  | .join j l r, h => by
    have := tm_pos b l h.2.1
    show 1 ≤ (leavesT l ++ leavesT r).length
    rw [List.length_append]
    omega
theorem cntS_cons (s : Stp) (ss : List Stp) : cntS (s :: ss) = (stpLeaf s).length + cntS ss := by
  have := cntS_app [s] ss
  rw [List.singleton_append] at this
  rw [this]
  unfold cntS
  simp
theorem arrS_len (b : Bn) : ∀ (ts : List Tm) (o : Nat), (∀ u ∈ ts, TmOk b u) → (labsL b ts).length ≤ 12 → (arrS b o ts).length ≤ 200 * (labsL b ts).length
  | [], _, _, _ => Nat.zero_le _
  | u :: ts, o, h, hl => by
    have e : labsL b (u :: ts) = labT b u ++ labsL b ts := rfl
    rw [e, List.length_append] at hl ⊢
    have h1 := good_len (arr_good b u) (by omega)
    have h2 := labT_len b u (h u List.mem_cons_self)
    have h3 := tm_pos b u (h u List.mem_cons_self)
    have h4 := arrS_len b ts (o + (labT b u).length) (fun z hz => h z (List.mem_cons_of_mem _ hz)) (by omega)
    show (shA o (arrT b u) ++ arrS b _ ts).length ≤ _
    unfold shA
    rw [List.length_append, List.length_map]
    omega
theorem mapV_getD (l : List Nat) (L : List Nat) : L.map (fun x => vInt (l.getD x 0)) = (L.map fun x => l.getD x 0).map vInt := by
  rw [List.map_map]
  rfl
section
variable {P : Program} {w : World} {K : PySem.W.Frag} {mg : Str → Option Value} {base : Heap} {C CW : Addr}
/-- [row[label] for label in part] -/
theorem relab_turn {H7 : Hp} {p q D : Addr} {row L : List Nat} {i : Nat} {x : V} (hq : H7 q = some (.tup (row.map vInt))) (hx : (L.map vInt)[i]? = some x) (hr : ∀ a ∈ L, a < row.length) (hl : L.length ≤ 12) : ∃ a, L[i]? = some a ∧ x = vInt a ∧ (row.map vInt)[a]? = some (vInt (row.getD a 0)) := by
  rw [List.getElem?_map] at hx
  obtain ⟨a, ha, rfl⟩ := Option.map_eq_some_iff.mp hx
  have hal := hr a (List.mem_of_getElem? ha)
  refine ⟨a, ha, rfl, ?_⟩
  rw [List.getElem?_map, List.getElem?_eq_getElem hal, List.getD_eq_getElem?_getD, List.getElem?_eq_getElem hal]
  rfl
abbrev nBU : List Str := ["bench", "term", "labels", "arrows", "sizes", "step", "fore", "back", "left", "right", "middle", "start", "label"]
theorem scBU : FnScope nBU ["bench", "term"] (defScope sBuilt) := ⟨rfl, rfl, rfl, by decide +kernel, rfl, by decide +kernel, by decide +kernel⟩
theorem ok_built {f gi : Addr} {fd gid : FuncData} (F : Fun K "built" "built" sBuilt f fd) (T : Bare mg) (BC : BenC K C) (m_Web : mg "Web" = some (.ref CW)) (MK_Web : Mk K CW gi) (ok_Web : FnOk P w K mg base CX0 4 gi gid ["self", "size", "arrows"] (spWebInit K CW)) (b_Web : Binds K gid ["self", "size", "arrows"] [])
    (GP : Cal P w K mg base 1 "postfix" ["term"] spPostfix) (GA : Cal P w K mg base 1 "arrows_between" ["labels", "starts", "fore", "back"] (spBetween2 K)) : FnOk P w K mg base CX0 6 f fd ["bench", "term"] (spBuilt C CW) := by
  obtain ⟨_, _, ok_pf, b_pf, k_pf, m_pf⟩ := GP.ex
  obtain ⟨_, _, ok_ab, b_ab, k_ab, m_ab⟩ := GA.ex
  refine F.ok scBU (fun vs H Q E h => ?_) (fun cdv A outer s H vs Q E hr h => ?_)
  · obtain ⟨x, v, b, t, rfl, _⟩ := h
    rfl
  · obtain ⟨x, v, b, t, rfl, hB, ht, hok, hn, h12, k⟩ := h
    have hr_Web := hr
    have hr_pf := hr.mono (j := 1) (by decide)
    have hr_ab := hr.mono (j := 1) (by decide)
    refine ⟨_, (pss_cons (ps_set (i := 2) scBU.nd rfl (Or.inl rfl) (pe_lst pa_nil))
      (pss_cons (ps_set (i := 3) scBU.nd rfl (Or.inl rfl) (pe_lst pa_nil))
      (pss_cons (ps_set (i := 4) scBU.nd rfl (Or.inl rfl) (pe_lst pa_nil))
      (pss_cons (ps_for PassesOwn.never rfl (pi_list (pe_call ok_pf hr_pf rfl m_pf k_pf b_pf .nil pass0 (pa_cons (pv 1) pa_nil))) (pg_name (i := 5) scBU.nd rfl (Or.inl rfl))
          (pss_one (ps_if (pt_val (pe_callB call_isi (by rfl) T.isi (by decide +kernel) (pa_cons (pv 5) (pa_cons (pe_ty (n := "tuple") (by rfl) T.tuple (by decide +kernel)) pa_nil)))) (pss_cons (ps_expr (pe_bm PySem.F.plainAttrs_list PySem.F.slot_list_append PySem.F.type_list_append mt_append (pv 2) (pa_cons (pe_ix ix_tup (pv 5) pe_int (fun _ _ => rfl)) pa_nil)))
              (pss_one (ps_expr (pe_bm PySem.F.plainAttrs_list PySem.F.slot_list_append PySem.F.type_list_append mt_append (pv 4) (pa_cons pe_int pa_nil))))) (pss_cons (ps_asg (pe_ix ix_tup (pe_fld (pv 0) rfl) (pv 5) (fun _ _ => rfl)) (pg_tup rfl (pgs_cons (pg_name (i := 6) scBU.nd rfl (Or.inl rfl)) (pgs_cons (pg_name (i := 7) scBU.nd rfl (Or.inl rfl)) (pgs_cons (pg_name (i := 8) scBU.nd rfl (Or.inr rfl)) (pgs_cons (pg_name (i := 9) scBU.nd rfl (Or.inr rfl)) pgs_nil))))))
              (pss_cons (ps_set (i := 10) scBU.nd rfl (Or.inl rfl) (pe_op op_sub (pe_callB call_len_seq (by rfl) T.len PySem.boot_len (pa_cons (pv 2) pa_nil)) (pe_bm0 PySem.F.plainAttrs_list PySem.F.slot_list_pop PySem.F.type_list_pop mt_pop (pv 4))))
              (pss_cons (ps_set (i := 11) scBU.nd rfl (Or.inl rfl) (pe_op op_sub (pv 10) (pe_bm0 PySem.F.plainAttrs_list PySem.F.slot_list_pop PySem.F.type_list_pop mt_pop (pv 4))))
              (pss_cons (ps_expr (pe_bm PySem.F.plainAttrs_list PySem.F.slot_list_append PySem.F.type_list_append mt_append (pv 4) (pa_cons (pe_op op_sub (pe_callB call_len_seq (by rfl) T.len PySem.boot_len (pa_cons (pv 2) pa_nil)) (pv 11)) pa_nil)))
              (pss_cons (ps_expr (pe_bm PySem.F.plainAttrs_list PySem.F.slot_list_extend PySem.F.type_list_extend mt_extend (pv 3) (pa_cons (pe_call ok_ab hr_ab rfl m_ab k_ab b_ab .nil pass0 (pa_cons (pv 2) (pa_cons (pe_tup (pa_cons (pv 11) (pa_cons (pv 10) pa_nil))) (pa_cons (pv 6) (pa_cons (pv 7) pa_nil))))) pa_nil)))
              (pss_cons (ps_asg (pe_lc (own := [("label", 12)]) (g := gName 12) (tt := tYes) rfl scBU.nd (pi_list (pe_slice sl_list (pv 2) (po_some (pv 11)) (po_some (pv 10)))) (blkOk_by (own := [("label", 12)]) (N := nBU) (sc := defScope sBuilt) (by decide +kernel)) (fun _ _ _ _ _ => pg_name (i := 12) scBU.nd rfl (Or.inl rfl)) (fun _ _ _ _ _ => pts_nil) (fun _ _ _ _ _ => pe_ix (ix_tup : IxR _ (rIxT K)) (pv 8) (pv 12) (fun _ _ => rfl))) (pg_slice (pv 2) (po_some (pv 11)) (po_some (pv 10))))
              (pss_one (ps_asg (pe_lc (own := [("label", 12)]) (g := gName 12) (tt := tYes) rfl scBU.nd (pi_list (pe_slice sl_list (pv 2) (po_some (pv 10)) po_none)) (blkOk_by (own := [("label", 12)]) (N := nBU) (sc := defScope sBuilt) (by decide +kernel)) (fun _ _ _ _ _ => pg_name (i := 12) scBU.nd rfl (Or.inl rfl)) (fun _ _ _ _ _ => pts_nil) (fun _ _ _ _ _ => pe_ix (ix_tup : IxR _ (rIxT K)) (pv 9) (pv 12) (fun _ _ => rfl))) (pg_slice (pv 2) (po_some (pv 10)) po_none))))))))))))
      (pss_one (ps_ret (pe_tup (pa_cons (pe_make MK_Web ok_Web hr_Web rfl m_Web b_Web .nil pass0 (pa_cons (pe_callB call_len_seq (by rfl) T.len PySem.boot_len (pa_cons (pv 2) pa_nil)) (pa_cons (pv 3) pa_nil))) (pa_cons (pe_tupleOf rfl T.tuple (pv 2)) pa_nil))))))))), ?_⟩
    refine ⟨small (m := 1) (Nat.zero_le _), fun PL hPL => ⟨small (m := 1) (Nat.zero_le _), fun PA hPA => ⟨small (m := 1) (Nat.zero_le _), fun PS hPS => ?_⟩⟩⟩
    have e1 := same_new (o := .lst []) hPL
    have e2 := same_new (o := .lst []) hPA
    have e3 := same_new (o := .lst []) hPS
    have e13 := e1.trans (e2.trans e3)
    refine ⟨_, rfl, v, t, rfl, ht.same e13, hn, fun H1 P0 xs s1 hP hP1 hS => ?_⟩
    have tPL : H1 PL = some (.lst []) := (e2.trans (e3.trans s1)) _ _ upd_same
    have tPA : H1 PA = some (.lst []) := (e3.trans s1) _ _ upd_same
    have tPS : H1 PS = some (.lst []) := s1 _ _ upd_same
    have bn : BN H PL PA PS P0 := ⟨hPL, e1.free hPA, (e1.trans e2).free hPS, (ne_of_none upd_same hPA), (ne_of_none (e2 _ _ upd_same) hPS), (ne_of_none upd_same hPS),
      (ne_of_none ((e2.trans e3) _ _ upd_same) hP).symm, (ne_of_none (e3 _ _ upd_same) hP).symm, (ne_of_none upd_same hP).symm⟩
    have hpo := post_ok b t hok
    refine ⟨P0, rfl, ⟨_, SqL.of hP1⟩, for_list (xs := xs) (fun i σ H' => ∃ (y5 y6 y7 y8 y9 y10 y11 : Option V) (st : List Tm), σ = [some (.ref x), some v, some (.ref PL), some (.ref PA), some (.ref PS), y5, y6, y7, y8, y9, y10, y11, none] ∧ BS H1 H H' PL PA PS P0 (labsL b st.reverse) (arrS b 0 st.reverse) (st.reverse.map fun u => (labT b u).length) xs ∧ runS ((post t).drop i) st = some [t] ∧ (∀ u ∈ st, TmOk b u) ∧ (labsL b st.reverse).length + cntS ((post t).drop i) = (leavesT t).length ∧ st.length ≤ i)
      ⟨none, none, none, none, none, none, none, [], rfl, ⟨e13.trans s1, tPL, ⟨[], tPA, trivial⟩, tPS, hP1, Tups.refl _⟩, runS_all t, (fun u h => by cases h), by show 0 + cntS (post t) = _; rw [cntS_post, Nat.zero_add], Nat.le_refl _⟩ (fun i σ H' _ h => by obtain ⟨_, _, _, _, _, _, _, _, _, h, _⟩ := h; exact SqL.of h.hP) ?_ ?_⟩
    · rintro i z σ H2 hz ⟨y5, y6, y7, y8, y9, y10, y11, st, rfl, bs, hrun, hst, hcnt, hsi⟩
      obtain ⟨sp, hsp, hzs⟩ := hS.get hz
      have hzs2 : StpAt H2 z sp := hzs.tups bs.tu
      have hi : i < (post t).length := by
        rcases Nat.lt_or_ge i (post t).length with q | q
        · exact q
        · rw [List.getElem?_eq_none q] at hsp
          cases hsp
      have ed : (post t).drop i = sp :: (post t).drop (i + 1) := by
        rw [List.drop_eq_getElem_cons hi]
        rw [List.getElem?_eq_getElem hi] at hsp
        rw [Option.some.inj hsp]
      have hspo := hpo sp (List.mem_of_getElem? hsp)
      rw [ed] at hrun
      rw [ed, cntS_cons] at hcnt
      cases sp with
      | tm u =>
        cases u with
        | hole => exact hspo.elim
        | join j l r => exact hspo.elim
        | leaf a bits =>
          obtain ⟨q1, q2, rfl, h1, h2⟩ := id hzs2
          have hst' : ∀ u ∈ (Tm.leaf a bits :: st), TmOk b u := fun u hu => by
            rcases List.mem_cons.mp hu with e | hu
            · rw [e]; exact hspo
            · exact hst u hu
          have hc1 : (labsL b st.reverse).length + (1 + cntS ((post t).drop (i + 1))) = (leavesT t).length := hcnt
          refine ⟨_, rfl, _, _, _, _, true, rfl, .ty _, .base (.tup h1), kit_ty (by decide +kernel), _, rfl, iteT ?_⟩
          refine ⟨_, rfl, .inl ⟨rfl, _, SqL.of bs.hL⟩, _, rfl, q1, _, _, vInt a, rfl, rfl, SqT.of h1, atI_nat (j := 0) rfl, PL, _, _, rfl, rfl, bs.hL, below (m := 100) (by rw [List.length_map]; omega), ?_⟩
          have bs2 := bs.setL bn (Ls' := labsL b (Tm.leaf a bits :: st).reverse) (ys := (labsL b st.reverse).map vInt ++ [vInt a]) (by
            rw [List.reverse_cons, labsL_app, List.map_append]
            rfl)
          refine ⟨_, rfl, .inl ⟨rfl, _, SqL.of bs2.hS⟩, PS, _, _, rfl, rfl, bs2.hS, below (m := 200000) (by rw [List.length_map, List.length_map, List.length_reverse]; rw [post_len] at hi; omega), ?_⟩
          have bs3 := bs2.setS bn (sz' := (Tm.leaf a bits :: st).reverse.map fun u => (labT b u).length) (ys := (st.reverse.map fun u => (labT b u).length).map vInt ++ [V.int 1]) (by
            rw [List.reverse_cons, List.map_append, List.map_append]
            rfl)
          have eA : arrS b 0 st.reverse = arrS b 0 (Tm.leaf a bits :: st).reverse := by
            rw [List.reverse_cons, arrS_app]
            show _ = _ ++ (shA _ [] ++ [])
            rw [List.append_nil]
            show _ = _ ++ []
            rw [List.append_nil]
          rw [eA] at bs3
          refine ⟨_, y6, y7, y8, y9, y10, y11, .leaf a bits :: st, rfl, bs3, hrun, hst', ?_, by rw [List.length_cons]; omega⟩
          rw [List.reverse_cons, labsL_app, List.length_append]
          show (labsL b st.reverse).length + 1 + _ = _
          omega
      | num j =>
        have ez : z = vInt j := hzs2
        subst ez
        match st, hrun, hst, hcnt, bs, hsi with
        | [], hrun, _, _, _, _ => cases hrun
        | [_], hrun, _, _, _, _ => cases hrun
        | r :: l :: st0, hrun, hst, hcnt, bs, hsi =>
        have hj : j < b.joins.length := hspo
        have okl := hst l (List.mem_cons_of_mem _ List.mem_cons_self)
        have okr := hst r List.mem_cons_self
        obtain ⟨Lp, eLp⟩ : ∃ Lp, Lp = labsL b st0.reverse := ⟨_, rfl⟩
        have erev : (r :: l :: st0).reverse = st0.reverse ++ [l, r] := by simp
        have eL : labsL b (r :: l :: st0).reverse = Lp ++ (labT b l ++ labT b r) := by
          rw [erev, labsL_app, ← eLp]
          unfold labsL
          simp
        have eS : (r :: l :: st0).reverse.map (fun u => (labT b u).length) = st0.reverse.map (fun u => (labT b u).length) ++ [(labT b l).length] ++ [(labT b r).length] := by
          rw [erev, List.map_append, List.append_assoc]
          rfl
        have eA : arrS b 0 (r :: l :: st0).reverse = arrS b 0 st0.reverse ++ arrS b Lp.length [l, r] := by
          rw [erev, arrS_app, ← eLp, Nat.zero_add]
        rw [eL] at hcnt
        rw [eL, eS, eA] at bs
        have hlen : Lp.length + ((labT b l).length + (labT b r).length) ≤ 12 := by
          rw [List.length_append, List.length_append] at hcnt
          omega
        obtain ⟨⟨dx, fs, ws, wj, a1, a2, a3, a4, a5, a6, ⟨pj, xj, rfl, hpj, hJ⟩⟩, hbok⟩ := (hB.same bs.sm)
        have hjn := jn_ok hbok hj
        obtain ⟨vj, hvj, hja⟩ := hJ.get2 (i := j) (a := jnOf b j) (by unfold jnOf; rw [List.getD_eq_getElem?_getD, List.getElem?_eq_getElem hj]; rfl)
        obtain ⟨pq, vf, vb, vl, vr, rfl, hpq, hF, hBk, ⟨ql, rfl, hql⟩, ⟨qr, rfl, hqr⟩⟩ := id hja
        refine ⟨_, rfl, _, _, _, _, false, rfl, .ty _, .base (.int _), kit_ty (by decide +kernel), _, rfl, iteF ?_⟩
        refine ⟨_, rfl, x, C, dx, fs, _, rfl, a1, BC.cl, BC.joins, a4, _, rfl, pj, _, _, .ref pq, rfl, rfl, SqT.of hpj, atI_nat (j := j) hvj, ?_⟩
        refine ⟨pq, _, rfl, SqT.of hpq, rfl, _, _, rfl, _, _, rfl, _, _, rfl, _, _, rfl, rfl, ?_⟩
        -- middle
        obtain ⟨nl, enl⟩ : ∃ nl, nl = (labT b l).length := ⟨_, rfl⟩
        obtain ⟨nr, enr⟩ : ∃ nr, nr = (labT b r).length := ⟨_, rfl⟩
        obtain ⟨sz0, esz⟩ : ∃ sz0, sz0 = st0.reverse.map (fun u => (labT b u).length) := ⟨_, rfl⟩
        obtain ⟨Lg, eLg⟩ : ∃ Lg, Lg = Lp ++ (labT b l ++ labT b r) := ⟨_, rfl⟩
        rw [← enl, ← enr, ← esz, ← eLg] at bs
        have lLg : Lg.length = Lp.length + nl + nr := by rw [eLg, List.length_append, List.length_append, enl, enr]; omega
        have lsz : sz0.length = st0.length := by rw [esz, List.length_map, List.length_reverse]
        have hS2 : H2 PS = some (.lst ((sz0 ++ [nl]).map vInt ++ [vInt nr])) := by rw [bs.hS, List.map_append]; rfl
        refine ⟨_, rfl, PL, _, rfl, .inl (SqL.of bs.hL), _, rfl, .inl ⟨rfl, _, SqL.of hS2⟩, PS, _, _, rfl, rfl, hS2, last_of _ _, _, _, rfl, rfl, ?_⟩
        rw [List.dropLast_concat, List.length_map]
        dsimp only
        have em : ((Lg.length : Nat) : Int) - ((nr : Nat) : Int) = ((Lp.length + nl : Nat) : Int) := by omega
        rw [em]
        have bs3 := bs.setS bn (sz' := sz0 ++ [nl]) (ys := (sz0 ++ [nl]).map vInt) rfl
        obtain ⟨H3, eH3⟩ : ∃ H3, H3 = upd H2 PS (.lst ((sz0 ++ [nl]).map vInt)) := ⟨_, rfl⟩
        rw [← eH3] at bs3 ⊢
        have t23 : Tups H2 H3 := by rw [eH3]; exact Tups.upd bs.hS
        -- start
        have hS3 : H3 PS = some (.lst (sz0.map vInt ++ [vInt nl])) := by rw [bs3.hS, List.map_append]; rfl
        refine ⟨_, rfl, _, rfl, .inl ⟨rfl, _, SqL.of hS3⟩, PS, _, _, rfl, rfl, hS3, last_of _ _, _, _, rfl, rfl, ?_⟩
        rw [List.dropLast_concat]
        dsimp only
        have es : ((Lp.length + nl : Nat) : Int) - ((nl : Nat) : Int) = ((Lp.length : Nat) : Int) := by omega
        rw [es]
        have bs4 := bs3.setS bn (sz' := sz0) (ys := sz0.map vInt) rfl
        obtain ⟨H4, eH4⟩ : ∃ H4, H4 = upd H3 PS (.lst (sz0.map vInt)) := ⟨_, rfl⟩
        rw [← eH4] at bs4 ⊢
        have t24 : Tups H2 H4 := t23.trans (by rw [eH4]; exact Tups.upd bs3.hS)
        -- sizes.append(len(labels) - start)
        refine ⟨_, rfl, .inl ⟨rfl, _, SqL.of bs4.hS⟩, _, rfl, PL, _, rfl, .inl (SqL.of bs4.hL), _, rfl, _, _, rfl, rfl, PS, _, _, rfl, rfl, bs4.hS, below (m := 200000) (by rw [List.length_map, lsz]; rw [post_len] at hi; have : st0.length + 2 ≤ i := hsi; omega), ?_⟩
        rw [List.length_map]
        dsimp only
        have ew : ((Lg.length : Nat) : Int) - ((Lp.length : Nat) : Int) = ((nl + nr : Nat) : Int) := by omega
        rw [ew]
        have bs5 := bs4.setS bn (sz' := sz0 ++ [nl + nr]) (ys := sz0.map vInt ++ [V.int ((nl + nr : Nat) : Int)]) (by rw [List.map_append]; rfl)
        obtain ⟨H5, eH5⟩ : ∃ H5, H5 = upd H4 PS (.lst (sz0.map vInt ++ [V.int ((nl + nr : Nat) : Int)])) := ⟨_, rfl⟩
        rw [← eH5] at bs5 ⊢
        have t25 : Tups H2 H5 := t24.trans (by rw [eH5]; exact Tups.upd bs4.hS)
        -- arrows.extend(..)
        obtain ⟨zs5, hA5, hA5'⟩ := bs5.hA
        refine ⟨_, rfl, .inl ⟨rfl, _, SqL.of hA5⟩, _, rfl, _, rfl, _, rfl, small (m := 2) (Nat.le_refl _), fun tt htt => ?_⟩
        have f6 := same_new (o := .tup [V.int ((Lp.length : Nat) : Int), V.int ((Lp.length + nl : Nat) : Int)]) htt
        have bs6 := bs5.same f6
        refine ⟨_, rfl, _, rfl, PL, tt, Lg, Lp.length, Lp.length + nl, vf, vb, (jnOf b j).fore, (jnOf b j).back, rfl, SqL.of bs6.hL, upd_same, hF.tups (t25.trans (Tups.of f6)), hBk.tups (t25.trans (Tups.of f6)), by omega, by omega, by omega, fun H7 qa xa s7 hqa hqa7 hAl => ?_⟩
        have e1 : Lp.length + nl - Lp.length = nl := by omega
        have e2 : Lg.length - (Lp.length + nl) = nr := by omega
        rw [e1, e2] at hAl
        have bs7 := bs6.same s7
        have hA7 := s7 _ _ (f6 _ _ hA5)
        have hA7' := hA5'.imp fun _ _ h => h.tups (Tups.of (f6.trans s7))
        have lb1 := btwAr_len (jnOf b j).fore (jnOf b j).back Lg Lp.length (Lp.length + nl) nr nl
        have lb2 : nl * (2 * nr) ≤ 12 * 24 := Nat.mul_le_mul (by omega) (by omega)
        have la1 := hAl.len
        have la2 := hA7'.len
        have ga := arrS_len b (r :: l :: st0).reverse 0 (fun u hu => hst u (List.mem_reverse.mp hu)) (by rw [eL, ← eLg]; omega)
        rw [eL, ← eLg, eA] at ga
        refine ⟨PA, qa, _, _, rfl, rfl, hA7, hqa7, small (m := 4000) (by rw [la1, la2]; omega), ?_⟩
        have bs8 := bs7.setA bn (ys := zs5 ++ xa) (as' := arrS b 0 (Tm.join j l r :: st0).reverse) hA7 (by
          have := hA7'.append hAl
          rw [List.append_assoc, enl, enr] at this
          have ej := arr_join b Lp j l r
          rw [← eLg] at ej
          rw [ej] at this
          rw [List.reverse_cons, arrS_app, ← eLp, Nat.zero_add]
          exact this)
        obtain ⟨H8, eH8⟩ : ∃ H8, H8 = upd H7 PA (.lst (zs5 ++ xa)) := ⟨_, rfl⟩
        rw [← eH8] at bs8 ⊢
        have t28 : Tups H2 H8 := t25.trans ((Tups.of (f6.trans s7)).trans (by rw [eH8]; exact Tups.upd hA7))
        -- labels[start:middle] = ..
        have hql8 := t28 _ _ hql
        have hqr8 := t28 _ _ hqr
        have em2 : ((Lp.length + nl : Nat) : Int) = ((Lp.length + nl : Nat) : Int) := rfl
        refine ⟨_, rfl, _, rfl, _, rfl, _, rfl, _, rfl, PL, _, rfl, SqL.of bs8.hL, fun pc hpc => ?_⟩
        rw [cut_mid _ (by omega) (by rw [List.length_map]; omega)]
        have ec1 : ((Lg.map vInt).drop Lp.length).take (Lp.length + nl - Lp.length) = (labT b l).map vInt := by
          rw [eLg, List.map_append, List.map_append, List.drop_left' (by rw [List.length_map]), e1, List.take_left' (by rw [List.length_map, enl])]
        rw [ec1]
        have f9 := same_new (o := .lst ((labT b l).map vInt)) hpc
        refine ⟨pc, rfl, ⟨_, SqL.of upd_same⟩, fun D hD => ?_⟩
        obtain ⟨H9, eH9⟩ : ∃ H9, H9 = upd H8 pc (.lst ((labT b l).map vInt)) := ⟨_, rfl⟩
        rw [← eH9] at f9 hD ⊢
        have hpc9 : H9 pc = some (.lst ((labT b l).map vInt)) := by rw [eH9]; exact upd_same
        refine lc_list (K := K) (a := pc) (xs := (labT b l).map vInt) (fun i H' => Same H9 H' ∧ H' D = some (.lst (((labT b l).take i).map fun x => vInt ((jnOf b j).left.getD x 0)))) ⟨same_new hD, upd_same⟩ (fun i H' _ h => SqL.of (h.1 _ _ hpc9)) ?_ ?_
        · rintro i x0 H10 hx0 ⟨sm10, hD10⟩
          obtain ⟨a, ha, rfl, hat⟩ := relab_turn (p := pc) (q := ql) (D := D) (f9 _ _ hql8) hx0 (fun a ha => by rw [hjn.ll]; exact lab_lt hbok l okl a ha) (by omega)
          have hal : i < (labT b l).length := (List.getElem?_eq_some_iff.mp ha).1
          refine ⟨rfl, _, rfl, _, rfl, ql, _, _, _, rfl, rfl, SqT.of ((f9.trans sm10) _ _ hql8), atI_nat (j := a) hat, _, hD10, below (m := 100) (by rw [List.length_map, List.length_take]; omega), same_upd sm10 hD, ?_⟩
          rw [upd_same, take_more hal, List.map_append]
          have : (labT b l)[i] = a := (List.getElem?_eq_some_iff.mp ha).2
          rw [this]
          rfl
        rintro H10 ⟨sm10, hD10⟩
        rw [List.length_map, List.take_length, mapV_getD] at hD10
        have s810 := f9.trans sm10
        have bs10 := bs8.same s810
        have nDL : PL ≠ D := ne_of_none (f9 _ _ bs8.hL) hD
        obtain ⟨L1, eL1⟩ : ∃ L1, L1 = (labT b l).map fun x => (jnOf b j).left.getD x 0 := ⟨_, rfl⟩
        rw [← eL1] at hD10
        have lL1 : L1.length = nl := by rw [eL1, List.length_map, enl]
        refine ⟨_, rfl, _, rfl, _, rfl, _, rfl, _, rfl, PL, D, _, _, Lp.length, Lp.length + nl, rfl, rfl, bs10.hL, hD10, nDL, rfl, .inl rfl, by omega, by rw [List.length_map]; omega, small (m := 100) (by rw [List.length_map, List.length_map]; omega), ?_⟩
        have ec2 : (Lg.map vInt).take Lp.length ++ L1.map vInt ++ (Lg.map vInt).drop (Lp.length + nl) = (Lp ++ (L1 ++ labT b r)).map vInt := by
          rw [eLg, List.map_append, List.map_append, List.take_left' (by rw [List.length_map]), ← List.append_assoc, List.drop_left' (by rw [List.length_append, List.length_map, List.length_map, enl]), List.map_append, List.map_append, List.append_assoc]
        rw [ec2]
        have bs11 := bs10.setL bn (Ls' := Lp ++ (L1 ++ labT b r)) rfl
        obtain ⟨H11, eH11⟩ : ∃ H11, H11 = upd H10 PL (.lst ((Lp ++ (L1 ++ labT b r)).map vInt)) := ⟨_, rfl⟩
        rw [← eH11] at bs11 ⊢
        have hqr11 : H11 qr = some (.tup ((jnOf b j).right.map vInt)) := by
          rw [eH11]
          exact Tups.upd bs10.hL _ _ (s810 _ _ hqr8)
        -- labels[middle:] = ..
        refine ⟨_, rfl, _, rfl, _, rfl, PL, _, rfl, SqL.of bs11.hL, fun pd hpd => ?_⟩
        have lL2 : (Lp ++ (L1 ++ labT b r)).length = Lp.length + nl + nr := by rw [List.length_append, List.length_append, lL1, enr]; omega
        rw [cut_end _ (by rw [List.length_map]; omega)]
        have ec3 : ((Lp ++ (L1 ++ labT b r)).map vInt).drop (Lp.length + nl) = (labT b r).map vInt := by
          rw [← List.append_assoc, List.map_append, List.drop_left' (by rw [List.length_map, List.length_append, lL1])]
        rw [ec3]
        have f12 := same_new (o := .lst ((labT b r).map vInt)) hpd
        refine ⟨pd, rfl, ⟨_, SqL.of upd_same⟩, fun D2 hD2 => ?_⟩
        obtain ⟨H12, eH12⟩ : ∃ H12, H12 = upd H11 pd (.lst ((labT b r).map vInt)) := ⟨_, rfl⟩
        rw [← eH12] at f12 hD2 ⊢
        have hpd12 : H12 pd = some (.lst ((labT b r).map vInt)) := by rw [eH12]; exact upd_same
        refine lc_list (K := K) (a := pd) (xs := (labT b r).map vInt) (fun i H' => Same H12 H' ∧ H' D2 = some (.lst (((labT b r).take i).map fun x => vInt ((jnOf b j).right.getD x 0)))) ⟨same_new hD2, upd_same⟩ (fun i H' _ h => SqL.of (h.1 _ _ hpd12)) ?_ ?_
        · rintro i x0 H13 hx0 ⟨sm13, hD13⟩
          obtain ⟨a, ha, rfl, hat⟩ := relab_turn (p := pd) (q := qr) (D := D2) (f12 _ _ hqr11) hx0 (fun a ha => by rw [hjn.lr]; exact lab_lt hbok r okr a ha) (by omega)
          have hal : i < (labT b r).length := (List.getElem?_eq_some_iff.mp ha).1
          refine ⟨rfl, _, rfl, _, rfl, qr, _, _, _, rfl, rfl, SqT.of ((f12.trans sm13) _ _ hqr11), atI_nat (j := a) hat, _, hD13, below (m := 100) (by rw [List.length_map, List.length_take]; omega), same_upd sm13 hD2, ?_⟩
          rw [upd_same, take_more hal, List.map_append]
          have : (labT b r)[i] = a := (List.getElem?_eq_some_iff.mp ha).2
          rw [this]
          rfl
        rintro H13 ⟨sm13, hD13⟩
        rw [List.length_map, List.take_length, mapV_getD] at hD13
        have s1113 := f12.trans sm13
        have bs13 := bs11.same s1113
        have nD2 : PL ≠ D2 := ne_of_none (f12 _ _ bs11.hL) hD2
        obtain ⟨L2, eL2⟩ : ∃ L2, L2 = (labT b r).map fun x => (jnOf b j).right.getD x 0 := ⟨_, rfl⟩
        rw [← eL2] at hD13
        have lL3 : L2.length = nr := by rw [eL2, List.length_map, enr]
        refine ⟨_, rfl, _, rfl, _, rfl, PL, D2, _, _, Lp.length + nl, Lp.length + nl + nr, rfl, rfl, bs13.hL, hD13, nD2, rfl, .inr ⟨rfl, by rw [List.length_map]; omega⟩, by omega, by rw [List.length_map]; omega, small (m := 100) (by rw [List.length_map, List.length_map]; omega), ?_⟩
        have ec4 : ((Lp ++ (L1 ++ labT b r)).map vInt).take (Lp.length + nl) ++ L2.map vInt ++ ((Lp ++ (L1 ++ labT b r)).map vInt).drop (Lp.length + nl + nr) = (labsL b (Tm.join j l r :: st0).reverse).map vInt := by
          rw [List.drop_eq_nil_of_le (by rw [List.length_map]; omega), List.append_nil, ← List.append_assoc, List.map_append, List.take_left' (by rw [List.length_map, List.length_append, lL1]), ← List.map_append, List.reverse_cons, labsL_app, ← eLp, List.append_assoc]
          refine congrArg (List.map vInt) (congrArg (Lp ++ ·) ?_)
          show L1 ++ L2 = labT b (.join j l r) ++ []
          rw [List.append_nil, eL1, eL2]
          rfl
        have bs14 := bs13.setL bn (Ls' := labsL b (Tm.join j l r :: st0).reverse) ec4
        have eS2 : sz0 ++ [nl + nr] = (Tm.join j l r :: st0).reverse.map fun u => (labT b u).length := by
          rw [List.reverse_cons, List.map_append, ← esz, enl, enr]
          show _ = sz0 ++ [((labT b l).map _ ++ (labT b r).map _).length]
          rw [List.length_append, List.length_map, List.length_map]
        rw [eS2] at bs14
        refine ⟨_, _, _, _, _, _, _, .join j l r :: st0, rfl, bs14, hrun, fun u hu => ?_, ?_, by have : st0.length + 2 ≤ i := hsi; rw [List.length_cons]; omega⟩
        · rcases List.mem_cons.mp hu with e | hu
          · rw [e]
            exact ⟨hj, okl, okr⟩
          · exact hst u (List.mem_cons_of_mem _ (List.mem_cons_of_mem _ hu))
        · have e0 : labsL b (Tm.join j l r :: st0).reverse = Lp ++ (L1 ++ L2) := by
            rw [List.reverse_cons, labsL_app, ← eLp, eL1, eL2]
            show Lp ++ (labT b (.join j l r) ++ []) = _
            rw [List.append_nil]
            rfl
          have hc : Lg.length + (0 + cntS ((post t).drop (i + 1))) = (leavesT t).length := by rw [eLg]; exact hcnt
          rw [e0, List.length_append, List.length_append, lL1, lL3]
          omega
    · rintro σ H2 ⟨y5, y6, y7, y8, y9, y10, y11, st, rfl, bs, hrun, hst, hcnt, _⟩
      have ed : (post t).drop xs.length = [] := List.drop_eq_nil_of_le (by rw [hS.len]; exact Nat.le_refl _)
      rw [ed] at hrun
      have e : st = [t] := Option.some.inj hrun
      subst e
      have eL : labsL b [t] = labT b t := by
        unfold labsL
        simp
      have eA : arrS b 0 [t] = arrT b t := by
        show shA 0 (arrT b t) ++ [] = _
        rw [List.append_nil]
        unfold shA
        simp
      have bs : BS H1 H H2 PL PA PS P0 (labT b t) (arrT b t) [(labT b t).length] xs := by
        have := bs
        rw [show [t].reverse = [t] from rfl, eL, eA] at this
        exact this
      have ll := labT_len b t hok
      have lp := tm_pos b t hok
      obtain ⟨zs, hz1, hz2⟩ := bs.hA
      refine ⟨_, rfl, PL, _, rfl, .inl (SqL.of bs.hL), _, rfl, fun y dz hy hdz hne => ?_⟩
      have mk := made_new (C := CW) hy hdz
      refine ⟨y, dz, PA, zs, _, (leavesT t).length, (by rw [List.length_map, ll]; rfl), upd_same, by rw [upd_ne hne]; exact upd_same, mk _ _ hz1, hz2.imp fun _ _ h => h.tups (Tups.of mk), by rw [← ll]; exact arr_good b t, lp, h12, fun H5 br k5 pm hW => ⟨rfl, ?_⟩⟩
      have s5 := made_same hy hdz k5
      have hL5 := s5 _ _ bs.hL
      refine ⟨_, rfl, .inl ⟨PL, _, rfl, SqL.of hL5, fun q hq => ⟨small (m := 2) (Nat.le_refl _), fun r hr2 => ?_⟩⟩⟩
      have e6 := same_new (o := .tup ((labT b t).map vInt)) hq
      have e7 := same_new (o := .tup [V.ref y, .ref q]) hr2
      exact k _ r y (.ref q) br (bs.sm.trans (s5.trans (e6.trans e7))) upd_same (hW.same (e6.trans e7)) pm ⟨q, rfl, e7 _ _ upd_same⟩
abbrev nWB : List Str := ["bench", "term"]
theorem scWB : FnScope nWB ["bench", "term"] (defScope sWebOf) := ⟨rfl, rfl, rfl, by decide +kernel, rfl, by decide +kernel, by decide +kernel⟩
theorem ok_web_of {f : Addr} {fd : FuncData} (F : Fun K "web_of" "web_of" sWebOf f fd) (GB : Cal P w K mg base 6 "built" ["bench", "term"] (spBuilt C CW)) : FnOk P w K mg base CX0 7 f fd ["bench", "term"] (spWebOf C CW) := by
  obtain ⟨_, _, ok_bu, b_bu, k_bu, m_bu⟩ := GB.ex
  refine F.ok scWB (fun vs H Q E h => ?_) (fun cdv A outer s H vs Q E hr h => ?_)
  · obtain ⟨x, v, b, t, rfl, _⟩ := h
    rfl
  · obtain ⟨x, v, b, t, rfl, hB, ht, hok, hn, h12, k⟩ := h
    have hr_bu := hr
    refine ⟨_, (pss_one (ps_ret (pe_ix ix_tup (pe_call ok_bu hr_bu rfl m_bu k_bu b_bu .nil pass0 (pa_cons (pv 0) (pa_cons (pv 1) pa_nil))) pe_int (fun _ _ => rfl)))), ?_⟩
    exact ⟨_, rfl, _, rfl, x, v, b, t, rfl, hB, ht, hok, hn, h12, fun H1 p y u ar s1 hp hW pm hu => ⟨p, _, _, .ref y, rfl, rfl, SqT.of hp, atI_nat (j := 0) rfl, k H1 y ar s1 hW pm⟩⟩
abbrev nLB : List Str := ["bench", "term"]
theorem scLB : FnScope nLB ["bench", "term"] (defScope sLabelsOf) := ⟨rfl, rfl, rfl, by decide +kernel, rfl, by decide +kernel, by decide +kernel⟩
theorem ok_labels_of {f : Addr} {fd : FuncData} (F : Fun K "labels_of" "labels_of" sLabelsOf f fd) (GB : Cal P w K mg base 6 "built" ["bench", "term"] (spBuilt C CW)) : FnOk P w K mg base CX0 7 f fd ["bench", "term"] (spLabelsOf C CW) := by
  obtain ⟨_, _, ok_bu, b_bu, k_bu, m_bu⟩ := GB.ex
  refine F.ok scLB (fun vs H Q E h => ?_) (fun cdv A outer s H vs Q E hr h => ?_)
  · obtain ⟨x, v, b, t, rfl, _⟩ := h
    rfl
  · obtain ⟨x, v, b, t, rfl, hB, ht, hok, hn, h12, k⟩ := h
    have hr_bu := hr
    refine ⟨_, (pss_one (ps_ret (pe_ix ix_tup (pe_call ok_bu hr_bu rfl m_bu k_bu b_bu .nil pass0 (pa_cons (pv 0) (pa_cons (pv 1) pa_nil))) pe_int (fun _ _ => rfl)))), ?_⟩
    exact ⟨_, rfl, _, rfl, x, v, b, t, rfl, hB, ht, hok, hn, h12, fun H1 p y u ar s1 hp hW pm hu => ⟨p, _, _, u, rfl, rfl, SqT.of hp, atI_nat (j := 1) rfl, k H1 u s1 hu⟩⟩
end
end Fam

/-! The law's benches. -/
namespace Fam
open PySem L2 S5
open C8 (pss_cut tCut)
/-- the parts of a bench in a list -/
def PartsAt (H : Hp) (v : V) (b : Bn) : Prop := ∃ p vs vj, v = .ref p ∧ H p = some (.lst [vInt b.labels, vs, vj]) ∧ PlacesAt H vs b.starts ∧ JnsAt H vj b.joins
theorem PartsAt.same {H H' : Hp} (s : Same H H') {v : V} {b : Bn} (h : PartsAt H v b) : PartsAt H' v b := by
  obtain ⟨p, vs, vj, e, h1, h2, h3⟩ := h
  exact ⟨p, vs, vj, e, s _ _ h1, PlacesAt.tups (Tups.of s) h2, h3.tups (Tups.of s)⟩
/-- a bench's parts while the tape at a moves on -/
def PartsNot (a : Addr) : V → Prop := fun v => v ≠ .ref a
theorem PartsAt.keep {H H' : Hp} {a : Addr} {c : Nat} {ts : List Int} {v : V} {b : Bn} (h : PartsAt H v b) (n : v ≠ .ref a) (hT : TapeAt H a c ts) (k : Kp a H H') : PartsAt H' v b := by
  obtain ⟨p, vs, vj, e, h1, h2, h3⟩ := h
  subst e
  exact ⟨p, vs, vj, rfl, k _ _ (fun z => n (by rw [z])) h1, PlacesAt.tups (Tups.kp hT k) h2, h3.tups (Tups.kp hT k)⟩
def BnJ (L : Nat) (j : Jn) : Prop := (∀ a ∈ j.fore, a.1 < L ∧ a.2 < L) ∧ j.fore.length ≤ 1 ∧ (∀ a ∈ j.back, a.1 < L ∧ a.2 < L) ∧ j.back.length ≤ 1 ∧ (∀ x ∈ j.left, x < L) ∧ (∀ x ∈ j.right, x < L) ∧ j.left.length = L ∧ j.right.length = L ∧ L ≤ 3
instance (L : Nat) (j : Jn) : Decidable (BnJ L j) := by unfold BnJ; infer_instance
theorem one_asc {α : Type} {R : α → α → Prop} {l : List α} (h : l.length ≤ 1) : l.Pairwise R := by
  match l, h with
  | [], _ => exact .nil
  | [a], _ => exact List.pairwise_singleton _ _
theorem bnJ {L : Nat} {j : Jn} (h : BnJ L j) : JnOk L j := by
  obtain ⟨h1, h2, h3, h4, h5, h6, h7, h8, h9⟩ := h
  exact ⟨⟨h1, one_asc h2, by omega⟩, ⟨h3, one_asc h4, by omega⟩, ⟨h5, by omega⟩, ⟨h6, by omega⟩, h7, h8⟩
def bn0 : Bn := ⟨2, [0], [⟨[(0, 0)], [], [0, 1], [1, 1]⟩]⟩
def bn1 : Bn := ⟨2, [0], [⟨[(0, 0)], [(0, 0)], [0, 1], [1, 1]⟩]⟩
def bn2 : Bn := ⟨1, [0], [⟨[], [], [0], [0]⟩, ⟨[(0, 0)], [(0, 0)], [0], [0]⟩]⟩
def bn3 : Bn := ⟨2, [0], [⟨[(0, 0)], [], [1, 1], [0, 1]⟩]⟩
theorem bn0_ok : BnOk bn0 := ⟨by decide, by decide, ⟨by decide, by decide⟩, by decide, by decide, by decide, by decide, fun j hj => by
  have : decide (BnJ bn0.labels j) = true := (List.all_eq_true.mp (show (bn0.joins.all fun j => decide (BnJ bn0.labels j)) = true by decide) j hj)
  exact bnJ (of_decide_eq_true this)⟩
theorem bn1_ok : BnOk bn1 := ⟨by decide, by decide, ⟨by decide, by decide⟩, by decide, by decide, by decide, by decide, fun j hj => by
  have : decide (BnJ bn1.labels j) = true := (List.all_eq_true.mp (show (bn1.joins.all fun j => decide (BnJ bn1.labels j)) = true by decide) j hj)
  exact bnJ (of_decide_eq_true this)⟩
theorem bn2_ok : BnOk bn2 := ⟨by decide, by decide, ⟨by decide, by decide⟩, by decide, by decide, by decide, by decide, fun j hj => by
  have : decide (BnJ bn2.labels j) = true := (List.all_eq_true.mp (show (bn2.joins.all fun j => decide (BnJ bn2.labels j)) = true by decide) j hj)
  exact bnJ (of_decide_eq_true this)⟩
theorem bn3_ok : BnOk bn3 := ⟨by decide, by decide, ⟨by decide, by decide⟩, by decide, by decide, by decide, by decide, fun j hj => by
  have : decide (BnJ bn3.labels j) = true := (List.all_eq_true.mp (show (bn3.joins.all fun j => decide (BnJ bn3.labels j)) = true by decide) j hj)
  exact bnJ (of_decide_eq_true this)⟩

def spNamed : Sp := fun vs H Q _ => ∃ n : Nat, vs = [vInt n] ∧ ∀ (H' : Hp) (p : Addr) (b : Bn), Same H H' → PartsAt H' (.ref p) b → BnOk b → Q (.ref p) H'
def spLPairs : Sp := fun vs H Q _ => ∃ (a : Addr) (c : Nat) (ts : List Int) (L : Nat), vs = [.ref a, vInt L] ∧ TapeAt H a c ts ∧ L ≤ 3 ∧ ∀ (H' : Hp) (c' : Nat) (v : V) (as : List Arr), Kp a H H' → TapeAt H' a c' ts → PrsAt H' v as → PrsOk L as → Q v H'
def spLBits : Sp := fun vs H Q _ => ∃ (a : Addr) (c : Nat) (ts : List Int) (m : Nat), vs = [.ref a, vInt m] ∧ TapeAt H a c ts ∧ m ≤ 100 ∧ ∀ (H' : Hp) (c' : Nat) (v : V) (bs : List Nat), Kp a H H' → TapeAt H' a c' ts → PlacesAt H' v bs → bs.length = m → (∀ x ∈ bs, x < 2) → Q v H'
def spDrawnBench : Sp := fun vs H Q _ => ∃ (a : Addr) (c : Nat) (ts : List Int), vs = [.ref a] ∧ TapeAt H a c ts ∧ ∀ (H' : Hp) (c' : Nat) (p : Addr) (b : Bn), Kp a H H' → TapeAt H' a c' ts → p ≠ a → PartsAt H' (.ref p) b → BnOk b → Q (.ref p) H'
section
variable {P : Program} {w : World} {K : PySem.W.Frag} {mg : Str → Option Value} {base : Heap}
abbrev nNM : List Str := ["_law_word"]
theorem scNM : FnScope nNM ["_law_word"] (defScope sLNamed) := ⟨rfl, rfl, rfl, by decide +kernel, rfl, by decide +kernel, by decide +kernel⟩
theorem ok_named {f : Addr} {fd : FuncData} (F : Fun K "_law_named" "_law_named" sLNamed f fd) : FnOk P w K mg base CX0 1 f fd ["_law_word"] spNamed := by
  refine F.ok scNM (fun vs H Q E h => ?_) (fun cdv A outer s H vs Q E hr h => ?_)
  · obtain ⟨n, rfl, _⟩ := h
    rfl
  · obtain ⟨n, rfl, k⟩ := h
    refine ⟨_, (pss_cons (ps_if (pt_cmpR op_eq (pv 0) pe_int (nomark _)) (pss_one (ps_ret (pe_lst (pa_cons pe_int (pa_cons (pe_tup (pa_cons pe_int pa_nil)) (pa_cons (pe_tup (pa_cons (pe_tup (pa_cons (pe_tup (pa_cons (pe_tup (pa_cons pe_int (pa_cons pe_int pa_nil))) pa_nil)) (pa_cons (pe_tup (pa_cons (pe_tup (pa_cons pe_int (pa_cons pe_int pa_nil))) pa_nil)) (pa_cons (pe_tup (pa_cons pe_int (pa_cons pe_int pa_nil))) (pa_cons (pe_tup (pa_cons pe_int (pa_cons pe_int pa_nil))) pa_nil))))) pa_nil)) pa_nil)))))) pss_nil)
      (pss_cons (ps_if (pt_cmpR op_eq (pv 0) pe_int (nomark _)) (pss_one (ps_ret (pe_lst (pa_cons pe_int (pa_cons (pe_tup (pa_cons pe_int pa_nil)) (pa_cons (pe_tup (pa_cons (pe_tup (pa_cons (pe_tup pa_nil) (pa_cons (pe_tup pa_nil) (pa_cons (pe_tup (pa_cons pe_int pa_nil)) (pa_cons (pe_tup (pa_cons pe_int pa_nil)) pa_nil))))) (pa_cons (pe_tup (pa_cons (pe_tup (pa_cons (pe_tup (pa_cons pe_int (pa_cons pe_int pa_nil))) pa_nil)) (pa_cons (pe_tup (pa_cons (pe_tup (pa_cons pe_int (pa_cons pe_int pa_nil))) pa_nil)) (pa_cons (pe_tup (pa_cons pe_int pa_nil)) (pa_cons (pe_tup (pa_cons pe_int pa_nil)) pa_nil))))) pa_nil))) pa_nil)))))) pss_nil)
      (pss_cons (ps_if (pt_cmpR op_eq (pv 0) pe_int (nomark _)) (pss_one (ps_ret (pe_lst (pa_cons pe_int (pa_cons (pe_tup (pa_cons pe_int pa_nil)) (pa_cons (pe_tup (pa_cons (pe_tup (pa_cons (pe_tup (pa_cons (pe_tup (pa_cons pe_int (pa_cons pe_int pa_nil))) pa_nil)) (pa_cons (pe_tup pa_nil) (pa_cons (pe_tup (pa_cons pe_int (pa_cons pe_int pa_nil))) (pa_cons (pe_tup (pa_cons pe_int (pa_cons pe_int pa_nil))) pa_nil))))) pa_nil)) pa_nil)))))) pss_nil)
      (pss_one (ps_ret (pe_lst (pa_cons pe_int (pa_cons (pe_tup (pa_cons pe_int pa_nil)) (pa_cons (pe_tup (pa_cons (pe_tup (pa_cons (pe_tup (pa_cons (pe_tup (pa_cons pe_int (pa_cons pe_int pa_nil))) pa_nil)) (pa_cons (pe_tup pa_nil) (pa_cons (pe_tup (pa_cons pe_int (pa_cons pe_int pa_nil))) (pa_cons (pe_tup (pa_cons pe_int (pa_cons pe_int pa_nil))) pa_nil))))) pa_nil)) pa_nil))))))))), ?_⟩
    refine ⟨_, rfl, rfl, _, rfl, ite2 (fun z => ?_) (fun z => ?_)⟩
    · refine ⟨small (m := 1) (by show 1 ≤ 1; decide), fun p1 hp1 => ?_⟩
      obtain ⟨G1, eG1⟩ : ∃ G1, G1 = upd H p1 (.tup [V.int 0]) := ⟨_, rfl⟩
      have s1 : Same H G1 := by rw [eG1]; exact same_new hp1
      have f1 : G1 p1 = some (.tup [V.int 0]) := by rw [eG1]; exact upd_same
      rw [← eG1]
      refine ⟨small (m := 2) (by show 2 ≤ 2; decide), fun p2 hp2 => ?_⟩
      obtain ⟨G2, eG2⟩ : ∃ G2, G2 = upd G1 p2 (.tup [V.int 0, V.int 0]) := ⟨_, rfl⟩
      have s2 : Same G1 G2 := by rw [eG2]; exact same_new hp2
      have f2 : G2 p2 = some (.tup [V.int 0, V.int 0]) := by rw [eG2]; exact upd_same
      rw [← eG2]
      refine ⟨small (m := 1) (by show 1 ≤ 1; decide), fun p3 hp3 => ?_⟩
      obtain ⟨G3, eG3⟩ : ∃ G3, G3 = upd G2 p3 (.tup [(V.ref p2)]) := ⟨_, rfl⟩
      have s3 : Same G2 G3 := by rw [eG3]; exact same_new hp3
      have f3 : G3 p3 = some (.tup [(V.ref p2)]) := by rw [eG3]; exact upd_same
      rw [← eG3]
      refine ⟨small (m := 2) (by show 2 ≤ 2; decide), fun p4 hp4 => ?_⟩
      obtain ⟨G4, eG4⟩ : ∃ G4, G4 = upd G3 p4 (.tup [V.int 0, V.int 0]) := ⟨_, rfl⟩
      have s4 : Same G3 G4 := by rw [eG4]; exact same_new hp4
      have f4 : G4 p4 = some (.tup [V.int 0, V.int 0]) := by rw [eG4]; exact upd_same
      rw [← eG4]
      refine ⟨small (m := 1) (by show 1 ≤ 1; decide), fun p5 hp5 => ?_⟩
      obtain ⟨G5, eG5⟩ : ∃ G5, G5 = upd G4 p5 (.tup [(V.ref p4)]) := ⟨_, rfl⟩
      have s5 : Same G4 G5 := by rw [eG5]; exact same_new hp5
      have f5 : G5 p5 = some (.tup [(V.ref p4)]) := by rw [eG5]; exact upd_same
      rw [← eG5]
      refine ⟨small (m := 2) (by show 2 ≤ 2; decide), fun p6 hp6 => ?_⟩
      obtain ⟨G6, eG6⟩ : ∃ G6, G6 = upd G5 p6 (.tup [V.int 0, V.int 1]) := ⟨_, rfl⟩
      have s6 : Same G5 G6 := by rw [eG6]; exact same_new hp6
      have f6 : G6 p6 = some (.tup [V.int 0, V.int 1]) := by rw [eG6]; exact upd_same
      rw [← eG6]
      refine ⟨small (m := 2) (by show 2 ≤ 2; decide), fun p7 hp7 => ?_⟩
      obtain ⟨G7, eG7⟩ : ∃ G7, G7 = upd G6 p7 (.tup [V.int 1, V.int 1]) := ⟨_, rfl⟩
      have s7 : Same G6 G7 := by rw [eG7]; exact same_new hp7
      have f7 : G7 p7 = some (.tup [V.int 1, V.int 1]) := by rw [eG7]; exact upd_same
      rw [← eG7]
      refine ⟨small (m := 4) (by show 4 ≤ 4; decide), fun p8 hp8 => ?_⟩
      obtain ⟨G8, eG8⟩ : ∃ G8, G8 = upd G7 p8 (.tup [(V.ref p3), (V.ref p5), (V.ref p6), (V.ref p7)]) := ⟨_, rfl⟩
      have s8 : Same G7 G8 := by rw [eG8]; exact same_new hp8
      have f8 : G8 p8 = some (.tup [(V.ref p3), (V.ref p5), (V.ref p6), (V.ref p7)]) := by rw [eG8]; exact upd_same
      rw [← eG8]
      refine ⟨small (m := 1) (by show 1 ≤ 1; decide), fun p9 hp9 => ?_⟩
      obtain ⟨G9, eG9⟩ : ∃ G9, G9 = upd G8 p9 (.tup [(V.ref p8)]) := ⟨_, rfl⟩
      have s9 : Same G8 G9 := by rw [eG9]; exact same_new hp9
      have f9 : G9 p9 = some (.tup [(V.ref p8)]) := by rw [eG9]; exact upd_same
      rw [← eG9]
      refine ⟨small (m := 3) (by show 3 ≤ 3; decide), fun p10 hp10 => ?_⟩
      obtain ⟨G10, eG10⟩ : ∃ G10, G10 = upd G9 p10 (.lst [V.int 2, (V.ref p1), (V.ref p9)]) := ⟨_, rfl⟩
      have s10 : Same G9 G10 := by rw [eG10]; exact same_new hp10
      have f10 : G10 p10 = some (.lst [V.int 2, (V.ref p1), (V.ref p9)]) := by rw [eG10]; exact upd_same
      rw [← eG10]
      have g1 := (s10 _ _ (s9 _ _ (s8 _ _ (s7 _ _ (s6 _ _ (s5 _ _ (s4 _ _ (s3 _ _ (s2 _ _ f1)))))))))
      have g2 := (s10 _ _ (s9 _ _ (s8 _ _ (s7 _ _ (s6 _ _ (s5 _ _ (s4 _ _ (s3 _ _ f2))))))))
      have g3 := (s10 _ _ (s9 _ _ (s8 _ _ (s7 _ _ (s6 _ _ (s5 _ _ (s4 _ _ f3)))))))
      have g4 := (s10 _ _ (s9 _ _ (s8 _ _ (s7 _ _ (s6 _ _ (s5 _ _ f4))))))
      have g5 := (s10 _ _ (s9 _ _ (s8 _ _ (s7 _ _ (s6 _ _ f5)))))
      have g6 := (s10 _ _ (s9 _ _ (s8 _ _ (s7 _ _ f6))))
      have g7 := (s10 _ _ (s9 _ _ (s8 _ _ f7)))
      have g8 := (s10 _ _ (s9 _ _ f8))
      have g9 := (s10 _ _ f9)
      have g10 := f10
      have all : Same H G10 := (s1.trans (s2.trans (s3.trans (s4.trans (s5.trans (s6.trans (s7.trans (s8.trans (s9.trans s10)))))))))
      exact k G10 p10 bn1 all (⟨⟨p10, _, _, rfl, g10, ⟨p1, rfl, g1⟩, ⟨p9, _, rfl, g9, ⟨⟨p8, _, _, _, _, rfl, g8, ⟨p3, _, rfl, g3, ⟨⟨p2, rfl, g2⟩, trivial⟩⟩, ⟨p5, _, rfl, g5, ⟨⟨p4, rfl, g4⟩, trivial⟩⟩, ⟨p6, rfl, g6⟩, ⟨p7, rfl, g7⟩⟩, trivial⟩⟩⟩, bn1_ok⟩ : PartsAt G10 (.ref p10) bn1 ∧ BnOk bn1).1 bn1_ok
    refine ⟨_, rfl, rfl, _, rfl, ite2 (fun z => ?_) (fun z => ?_)⟩
    · refine ⟨small (m := 1) (by show 1 ≤ 1; decide), fun p1 hp1 => ?_⟩
      obtain ⟨G1, eG1⟩ : ∃ G1, G1 = upd H p1 (.tup [V.int 0]) := ⟨_, rfl⟩
      have s1 : Same H G1 := by rw [eG1]; exact same_new hp1
      have f1 : G1 p1 = some (.tup [V.int 0]) := by rw [eG1]; exact upd_same
      rw [← eG1]
      refine ⟨small (m := 1) (by show 0 ≤ 1; decide), fun p2 hp2 => ?_⟩
      obtain ⟨G2, eG2⟩ : ∃ G2, G2 = upd G1 p2 (.tup []) := ⟨_, rfl⟩
      have s2 : Same G1 G2 := by rw [eG2]; exact same_new hp2
      have f2 : G2 p2 = some (.tup []) := by rw [eG2]; exact upd_same
      rw [← eG2]
      refine ⟨small (m := 1) (by show 0 ≤ 1; decide), fun p3 hp3 => ?_⟩
      obtain ⟨G3, eG3⟩ : ∃ G3, G3 = upd G2 p3 (.tup []) := ⟨_, rfl⟩
      have s3 : Same G2 G3 := by rw [eG3]; exact same_new hp3
      have f3 : G3 p3 = some (.tup []) := by rw [eG3]; exact upd_same
      rw [← eG3]
      refine ⟨small (m := 1) (by show 1 ≤ 1; decide), fun p4 hp4 => ?_⟩
      obtain ⟨G4, eG4⟩ : ∃ G4, G4 = upd G3 p4 (.tup [V.int 0]) := ⟨_, rfl⟩
      have s4 : Same G3 G4 := by rw [eG4]; exact same_new hp4
      have f4 : G4 p4 = some (.tup [V.int 0]) := by rw [eG4]; exact upd_same
      rw [← eG4]
      refine ⟨small (m := 1) (by show 1 ≤ 1; decide), fun p5 hp5 => ?_⟩
      obtain ⟨G5, eG5⟩ : ∃ G5, G5 = upd G4 p5 (.tup [V.int 0]) := ⟨_, rfl⟩
      have s5 : Same G4 G5 := by rw [eG5]; exact same_new hp5
      have f5 : G5 p5 = some (.tup [V.int 0]) := by rw [eG5]; exact upd_same
      rw [← eG5]
      refine ⟨small (m := 4) (by show 4 ≤ 4; decide), fun p6 hp6 => ?_⟩
      obtain ⟨G6, eG6⟩ : ∃ G6, G6 = upd G5 p6 (.tup [(V.ref p2), (V.ref p3), (V.ref p4), (V.ref p5)]) := ⟨_, rfl⟩
      have s6 : Same G5 G6 := by rw [eG6]; exact same_new hp6
      have f6 : G6 p6 = some (.tup [(V.ref p2), (V.ref p3), (V.ref p4), (V.ref p5)]) := by rw [eG6]; exact upd_same
      rw [← eG6]
      refine ⟨small (m := 2) (by show 2 ≤ 2; decide), fun p7 hp7 => ?_⟩
      obtain ⟨G7, eG7⟩ : ∃ G7, G7 = upd G6 p7 (.tup [V.int 0, V.int 0]) := ⟨_, rfl⟩
      have s7 : Same G6 G7 := by rw [eG7]; exact same_new hp7
      have f7 : G7 p7 = some (.tup [V.int 0, V.int 0]) := by rw [eG7]; exact upd_same
      rw [← eG7]
      refine ⟨small (m := 1) (by show 1 ≤ 1; decide), fun p8 hp8 => ?_⟩
      obtain ⟨G8, eG8⟩ : ∃ G8, G8 = upd G7 p8 (.tup [(V.ref p7)]) := ⟨_, rfl⟩
      have s8 : Same G7 G8 := by rw [eG8]; exact same_new hp8
      have f8 : G8 p8 = some (.tup [(V.ref p7)]) := by rw [eG8]; exact upd_same
      rw [← eG8]
      refine ⟨small (m := 2) (by show 2 ≤ 2; decide), fun p9 hp9 => ?_⟩
      obtain ⟨G9, eG9⟩ : ∃ G9, G9 = upd G8 p9 (.tup [V.int 0, V.int 0]) := ⟨_, rfl⟩
      have s9 : Same G8 G9 := by rw [eG9]; exact same_new hp9
      have f9 : G9 p9 = some (.tup [V.int 0, V.int 0]) := by rw [eG9]; exact upd_same
      rw [← eG9]
      refine ⟨small (m := 1) (by show 1 ≤ 1; decide), fun p10 hp10 => ?_⟩
      obtain ⟨G10, eG10⟩ : ∃ G10, G10 = upd G9 p10 (.tup [(V.ref p9)]) := ⟨_, rfl⟩
      have s10 : Same G9 G10 := by rw [eG10]; exact same_new hp10
      have f10 : G10 p10 = some (.tup [(V.ref p9)]) := by rw [eG10]; exact upd_same
      rw [← eG10]
      refine ⟨small (m := 1) (by show 1 ≤ 1; decide), fun p11 hp11 => ?_⟩
      obtain ⟨G11, eG11⟩ : ∃ G11, G11 = upd G10 p11 (.tup [V.int 0]) := ⟨_, rfl⟩
      have s11 : Same G10 G11 := by rw [eG11]; exact same_new hp11
      have f11 : G11 p11 = some (.tup [V.int 0]) := by rw [eG11]; exact upd_same
      rw [← eG11]
      refine ⟨small (m := 1) (by show 1 ≤ 1; decide), fun p12 hp12 => ?_⟩
      obtain ⟨G12, eG12⟩ : ∃ G12, G12 = upd G11 p12 (.tup [V.int 0]) := ⟨_, rfl⟩
      have s12 : Same G11 G12 := by rw [eG12]; exact same_new hp12
      have f12 : G12 p12 = some (.tup [V.int 0]) := by rw [eG12]; exact upd_same
      rw [← eG12]
      refine ⟨small (m := 4) (by show 4 ≤ 4; decide), fun p13 hp13 => ?_⟩
      obtain ⟨G13, eG13⟩ : ∃ G13, G13 = upd G12 p13 (.tup [(V.ref p8), (V.ref p10), (V.ref p11), (V.ref p12)]) := ⟨_, rfl⟩
      have s13 : Same G12 G13 := by rw [eG13]; exact same_new hp13
      have f13 : G13 p13 = some (.tup [(V.ref p8), (V.ref p10), (V.ref p11), (V.ref p12)]) := by rw [eG13]; exact upd_same
      rw [← eG13]
      refine ⟨small (m := 2) (by show 2 ≤ 2; decide), fun p14 hp14 => ?_⟩
      obtain ⟨G14, eG14⟩ : ∃ G14, G14 = upd G13 p14 (.tup [(V.ref p6), (V.ref p13)]) := ⟨_, rfl⟩
      have s14 : Same G13 G14 := by rw [eG14]; exact same_new hp14
      have f14 : G14 p14 = some (.tup [(V.ref p6), (V.ref p13)]) := by rw [eG14]; exact upd_same
      rw [← eG14]
      refine ⟨small (m := 3) (by show 3 ≤ 3; decide), fun p15 hp15 => ?_⟩
      obtain ⟨G15, eG15⟩ : ∃ G15, G15 = upd G14 p15 (.lst [V.int 1, (V.ref p1), (V.ref p14)]) := ⟨_, rfl⟩
      have s15 : Same G14 G15 := by rw [eG15]; exact same_new hp15
      have f15 : G15 p15 = some (.lst [V.int 1, (V.ref p1), (V.ref p14)]) := by rw [eG15]; exact upd_same
      rw [← eG15]
      have g1 := (s15 _ _ (s14 _ _ (s13 _ _ (s12 _ _ (s11 _ _ (s10 _ _ (s9 _ _ (s8 _ _ (s7 _ _ (s6 _ _ (s5 _ _ (s4 _ _ (s3 _ _ (s2 _ _ f1))))))))))))))
      have g2 := (s15 _ _ (s14 _ _ (s13 _ _ (s12 _ _ (s11 _ _ (s10 _ _ (s9 _ _ (s8 _ _ (s7 _ _ (s6 _ _ (s5 _ _ (s4 _ _ (s3 _ _ f2)))))))))))))
      have g3 := (s15 _ _ (s14 _ _ (s13 _ _ (s12 _ _ (s11 _ _ (s10 _ _ (s9 _ _ (s8 _ _ (s7 _ _ (s6 _ _ (s5 _ _ (s4 _ _ f3))))))))))))
      have g4 := (s15 _ _ (s14 _ _ (s13 _ _ (s12 _ _ (s11 _ _ (s10 _ _ (s9 _ _ (s8 _ _ (s7 _ _ (s6 _ _ (s5 _ _ f4)))))))))))
      have g5 := (s15 _ _ (s14 _ _ (s13 _ _ (s12 _ _ (s11 _ _ (s10 _ _ (s9 _ _ (s8 _ _ (s7 _ _ (s6 _ _ f5))))))))))
      have g6 := (s15 _ _ (s14 _ _ (s13 _ _ (s12 _ _ (s11 _ _ (s10 _ _ (s9 _ _ (s8 _ _ (s7 _ _ f6)))))))))
      have g7 := (s15 _ _ (s14 _ _ (s13 _ _ (s12 _ _ (s11 _ _ (s10 _ _ (s9 _ _ (s8 _ _ f7))))))))
      have g8 := (s15 _ _ (s14 _ _ (s13 _ _ (s12 _ _ (s11 _ _ (s10 _ _ (s9 _ _ f8)))))))
      have g9 := (s15 _ _ (s14 _ _ (s13 _ _ (s12 _ _ (s11 _ _ (s10 _ _ f9))))))
      have g10 := (s15 _ _ (s14 _ _ (s13 _ _ (s12 _ _ (s11 _ _ f10)))))
      have g11 := (s15 _ _ (s14 _ _ (s13 _ _ (s12 _ _ f11))))
      have g12 := (s15 _ _ (s14 _ _ (s13 _ _ f12)))
      have g13 := (s15 _ _ (s14 _ _ f13))
      have g14 := (s15 _ _ f14)
      have g15 := f15
      have all : Same H G15 := (s1.trans (s2.trans (s3.trans (s4.trans (s5.trans (s6.trans (s7.trans (s8.trans (s9.trans (s10.trans (s11.trans (s12.trans (s13.trans (s14.trans s15))))))))))))))
      exact k G15 p15 bn2 all (⟨⟨p15, _, _, rfl, g15, ⟨p1, rfl, g1⟩, ⟨p14, _, rfl, g14, ⟨⟨p6, _, _, _, _, rfl, g6, ⟨p2, _, rfl, g2, trivial⟩, ⟨p3, _, rfl, g3, trivial⟩, ⟨p4, rfl, g4⟩, ⟨p5, rfl, g5⟩⟩, ⟨⟨p13, _, _, _, _, rfl, g13, ⟨p8, _, rfl, g8, ⟨⟨p7, rfl, g7⟩, trivial⟩⟩, ⟨p10, _, rfl, g10, ⟨⟨p9, rfl, g9⟩, trivial⟩⟩, ⟨p11, rfl, g11⟩, ⟨p12, rfl, g12⟩⟩, trivial⟩⟩⟩⟩, bn2_ok⟩ : PartsAt G15 (.ref p15) bn2 ∧ BnOk bn2).1 bn2_ok
    refine ⟨_, rfl, rfl, _, rfl, ite2 (fun z => ?_) (fun z => ?_)⟩
    · refine ⟨small (m := 1) (by show 1 ≤ 1; decide), fun p1 hp1 => ?_⟩
      obtain ⟨G1, eG1⟩ : ∃ G1, G1 = upd H p1 (.tup [V.int 0]) := ⟨_, rfl⟩
      have s1 : Same H G1 := by rw [eG1]; exact same_new hp1
      have f1 : G1 p1 = some (.tup [V.int 0]) := by rw [eG1]; exact upd_same
      rw [← eG1]
      refine ⟨small (m := 2) (by show 2 ≤ 2; decide), fun p2 hp2 => ?_⟩
      obtain ⟨G2, eG2⟩ : ∃ G2, G2 = upd G1 p2 (.tup [V.int 0, V.int 0]) := ⟨_, rfl⟩
      have s2 : Same G1 G2 := by rw [eG2]; exact same_new hp2
      have f2 : G2 p2 = some (.tup [V.int 0, V.int 0]) := by rw [eG2]; exact upd_same
      rw [← eG2]
      refine ⟨small (m := 1) (by show 1 ≤ 1; decide), fun p3 hp3 => ?_⟩
      obtain ⟨G3, eG3⟩ : ∃ G3, G3 = upd G2 p3 (.tup [(V.ref p2)]) := ⟨_, rfl⟩
      have s3 : Same G2 G3 := by rw [eG3]; exact same_new hp3
      have f3 : G3 p3 = some (.tup [(V.ref p2)]) := by rw [eG3]; exact upd_same
      rw [← eG3]
      refine ⟨small (m := 1) (by show 0 ≤ 1; decide), fun p4 hp4 => ?_⟩
      obtain ⟨G4, eG4⟩ : ∃ G4, G4 = upd G3 p4 (.tup []) := ⟨_, rfl⟩
      have s4 : Same G3 G4 := by rw [eG4]; exact same_new hp4
      have f4 : G4 p4 = some (.tup []) := by rw [eG4]; exact upd_same
      rw [← eG4]
      refine ⟨small (m := 2) (by show 2 ≤ 2; decide), fun p5 hp5 => ?_⟩
      obtain ⟨G5, eG5⟩ : ∃ G5, G5 = upd G4 p5 (.tup [V.int 1, V.int 1]) := ⟨_, rfl⟩
      have s5 : Same G4 G5 := by rw [eG5]; exact same_new hp5
      have f5 : G5 p5 = some (.tup [V.int 1, V.int 1]) := by rw [eG5]; exact upd_same
      rw [← eG5]
      refine ⟨small (m := 2) (by show 2 ≤ 2; decide), fun p6 hp6 => ?_⟩
      obtain ⟨G6, eG6⟩ : ∃ G6, G6 = upd G5 p6 (.tup [V.int 0, V.int 1]) := ⟨_, rfl⟩
      have s6 : Same G5 G6 := by rw [eG6]; exact same_new hp6
      have f6 : G6 p6 = some (.tup [V.int 0, V.int 1]) := by rw [eG6]; exact upd_same
      rw [← eG6]
      refine ⟨small (m := 4) (by show 4 ≤ 4; decide), fun p7 hp7 => ?_⟩
      obtain ⟨G7, eG7⟩ : ∃ G7, G7 = upd G6 p7 (.tup [(V.ref p3), (V.ref p4), (V.ref p5), (V.ref p6)]) := ⟨_, rfl⟩
      have s7 : Same G6 G7 := by rw [eG7]; exact same_new hp7
      have f7 : G7 p7 = some (.tup [(V.ref p3), (V.ref p4), (V.ref p5), (V.ref p6)]) := by rw [eG7]; exact upd_same
      rw [← eG7]
      refine ⟨small (m := 1) (by show 1 ≤ 1; decide), fun p8 hp8 => ?_⟩
      obtain ⟨G8, eG8⟩ : ∃ G8, G8 = upd G7 p8 (.tup [(V.ref p7)]) := ⟨_, rfl⟩
      have s8 : Same G7 G8 := by rw [eG8]; exact same_new hp8
      have f8 : G8 p8 = some (.tup [(V.ref p7)]) := by rw [eG8]; exact upd_same
      rw [← eG8]
      refine ⟨small (m := 3) (by show 3 ≤ 3; decide), fun p9 hp9 => ?_⟩
      obtain ⟨G9, eG9⟩ : ∃ G9, G9 = upd G8 p9 (.lst [V.int 2, (V.ref p1), (V.ref p8)]) := ⟨_, rfl⟩
      have s9 : Same G8 G9 := by rw [eG9]; exact same_new hp9
      have f9 : G9 p9 = some (.lst [V.int 2, (V.ref p1), (V.ref p8)]) := by rw [eG9]; exact upd_same
      rw [← eG9]
      have g1 := (s9 _ _ (s8 _ _ (s7 _ _ (s6 _ _ (s5 _ _ (s4 _ _ (s3 _ _ (s2 _ _ f1))))))))
      have g2 := (s9 _ _ (s8 _ _ (s7 _ _ (s6 _ _ (s5 _ _ (s4 _ _ (s3 _ _ f2)))))))
      have g3 := (s9 _ _ (s8 _ _ (s7 _ _ (s6 _ _ (s5 _ _ (s4 _ _ f3))))))
      have g4 := (s9 _ _ (s8 _ _ (s7 _ _ (s6 _ _ (s5 _ _ f4)))))
      have g5 := (s9 _ _ (s8 _ _ (s7 _ _ (s6 _ _ f5))))
      have g6 := (s9 _ _ (s8 _ _ (s7 _ _ f6)))
      have g7 := (s9 _ _ (s8 _ _ f7))
      have g8 := (s9 _ _ f8)
      have g9 := f9
      have all : Same H G9 := (s1.trans (s2.trans (s3.trans (s4.trans (s5.trans (s6.trans (s7.trans (s8.trans s9))))))))
      exact k G9 p9 bn3 all (⟨⟨p9, _, _, rfl, g9, ⟨p1, rfl, g1⟩, ⟨p8, _, rfl, g8, ⟨⟨p7, _, _, _, _, rfl, g7, ⟨p3, _, rfl, g3, ⟨⟨p2, rfl, g2⟩, trivial⟩⟩, ⟨p4, _, rfl, g4, trivial⟩, ⟨p5, rfl, g5⟩, ⟨p6, rfl, g6⟩⟩, trivial⟩⟩⟩, bn3_ok⟩ : PartsAt G9 (.ref p9) bn3 ∧ BnOk bn3).1 bn3_ok
    refine ⟨small (m := 1) (by show 1 ≤ 1; decide), fun p1 hp1 => ?_⟩
    obtain ⟨G1, eG1⟩ : ∃ G1, G1 = upd H p1 (.tup [V.int 0]) := ⟨_, rfl⟩
    have s1 : Same H G1 := by rw [eG1]; exact same_new hp1
    have f1 : G1 p1 = some (.tup [V.int 0]) := by rw [eG1]; exact upd_same
    rw [← eG1]
    refine ⟨small (m := 2) (by show 2 ≤ 2; decide), fun p2 hp2 => ?_⟩
    obtain ⟨G2, eG2⟩ : ∃ G2, G2 = upd G1 p2 (.tup [V.int 0, V.int 0]) := ⟨_, rfl⟩
    have s2 : Same G1 G2 := by rw [eG2]; exact same_new hp2
    have f2 : G2 p2 = some (.tup [V.int 0, V.int 0]) := by rw [eG2]; exact upd_same
    rw [← eG2]
    refine ⟨small (m := 1) (by show 1 ≤ 1; decide), fun p3 hp3 => ?_⟩
    obtain ⟨G3, eG3⟩ : ∃ G3, G3 = upd G2 p3 (.tup [(V.ref p2)]) := ⟨_, rfl⟩
    have s3 : Same G2 G3 := by rw [eG3]; exact same_new hp3
    have f3 : G3 p3 = some (.tup [(V.ref p2)]) := by rw [eG3]; exact upd_same
    rw [← eG3]
    refine ⟨small (m := 1) (by show 0 ≤ 1; decide), fun p4 hp4 => ?_⟩
    obtain ⟨G4, eG4⟩ : ∃ G4, G4 = upd G3 p4 (.tup []) := ⟨_, rfl⟩
    have s4 : Same G3 G4 := by rw [eG4]; exact same_new hp4
    have f4 : G4 p4 = some (.tup []) := by rw [eG4]; exact upd_same
    rw [← eG4]
    refine ⟨small (m := 2) (by show 2 ≤ 2; decide), fun p5 hp5 => ?_⟩
    obtain ⟨G5, eG5⟩ : ∃ G5, G5 = upd G4 p5 (.tup [V.int 0, V.int 1]) := ⟨_, rfl⟩
    have s5 : Same G4 G5 := by rw [eG5]; exact same_new hp5
    have f5 : G5 p5 = some (.tup [V.int 0, V.int 1]) := by rw [eG5]; exact upd_same
    rw [← eG5]
    refine ⟨small (m := 2) (by show 2 ≤ 2; decide), fun p6 hp6 => ?_⟩
    obtain ⟨G6, eG6⟩ : ∃ G6, G6 = upd G5 p6 (.tup [V.int 1, V.int 1]) := ⟨_, rfl⟩
    have s6 : Same G5 G6 := by rw [eG6]; exact same_new hp6
    have f6 : G6 p6 = some (.tup [V.int 1, V.int 1]) := by rw [eG6]; exact upd_same
    rw [← eG6]
    refine ⟨small (m := 4) (by show 4 ≤ 4; decide), fun p7 hp7 => ?_⟩
    obtain ⟨G7, eG7⟩ : ∃ G7, G7 = upd G6 p7 (.tup [(V.ref p3), (V.ref p4), (V.ref p5), (V.ref p6)]) := ⟨_, rfl⟩
    have s7 : Same G6 G7 := by rw [eG7]; exact same_new hp7
    have f7 : G7 p7 = some (.tup [(V.ref p3), (V.ref p4), (V.ref p5), (V.ref p6)]) := by rw [eG7]; exact upd_same
    rw [← eG7]
    refine ⟨small (m := 1) (by show 1 ≤ 1; decide), fun p8 hp8 => ?_⟩
    obtain ⟨G8, eG8⟩ : ∃ G8, G8 = upd G7 p8 (.tup [(V.ref p7)]) := ⟨_, rfl⟩
    have s8 : Same G7 G8 := by rw [eG8]; exact same_new hp8
    have f8 : G8 p8 = some (.tup [(V.ref p7)]) := by rw [eG8]; exact upd_same
    rw [← eG8]
    refine ⟨small (m := 3) (by show 3 ≤ 3; decide), fun p9 hp9 => ?_⟩
    obtain ⟨G9, eG9⟩ : ∃ G9, G9 = upd G8 p9 (.lst [V.int 2, (V.ref p1), (V.ref p8)]) := ⟨_, rfl⟩
    have s9 : Same G8 G9 := by rw [eG9]; exact same_new hp9
    have f9 : G9 p9 = some (.lst [V.int 2, (V.ref p1), (V.ref p8)]) := by rw [eG9]; exact upd_same
    rw [← eG9]
    have g1 := (s9 _ _ (s8 _ _ (s7 _ _ (s6 _ _ (s5 _ _ (s4 _ _ (s3 _ _ (s2 _ _ f1))))))))
    have g2 := (s9 _ _ (s8 _ _ (s7 _ _ (s6 _ _ (s5 _ _ (s4 _ _ (s3 _ _ f2)))))))
    have g3 := (s9 _ _ (s8 _ _ (s7 _ _ (s6 _ _ (s5 _ _ (s4 _ _ f3))))))
    have g4 := (s9 _ _ (s8 _ _ (s7 _ _ (s6 _ _ (s5 _ _ f4)))))
    have g5 := (s9 _ _ (s8 _ _ (s7 _ _ (s6 _ _ f5))))
    have g6 := (s9 _ _ (s8 _ _ (s7 _ _ f6)))
    have g7 := (s9 _ _ (s8 _ _ f7))
    have g8 := (s9 _ _ f8)
    have g9 := f9
    have all : Same H G9 := (s1.trans (s2.trans (s3.trans (s4.trans (s5.trans (s6.trans (s7.trans (s8.trans s9))))))))
    exact k G9 p9 bn0 all (⟨⟨p9, _, _, rfl, g9, ⟨p1, rfl, g1⟩, ⟨p8, _, rfl, g8, ⟨⟨p7, _, _, _, _, rfl, g7, ⟨p3, _, rfl, g3, ⟨⟨p2, rfl, g2⟩, trivial⟩⟩, ⟨p4, _, rfl, g4, trivial⟩, ⟨p5, rfl, g5⟩, ⟨p6, rfl, g6⟩⟩, trivial⟩⟩⟩, bn0_ok⟩ : PartsAt G9 (.ref p9) bn0 ∧ BnOk bn0).1 bn0_ok

end
end Fam

/-! Drawn pairs, bits, benches, leaves. -/
namespace Fam
open PySem L2 S5
open C8 (pss_cut tCut)
def GLabs (m : Nat) (l : List Nat) : Prop := ∀ x ∈ l, x < m
theorem nm_snoc {m n : Nat} {l : List Nat} (h : GLabs m l) (hn : n < m) : GLabs m (l ++ [n]) := fun x hx => by
  rcases List.mem_append.mp hx with q | q
  · exact h x q
  · rw [List.mem_singleton.mp q]; exact hn
def spLLeaf : Sp := fun vs H Q _ => ∃ (a : Addr) (c : Nat) (ts : List Int) (v : V) (b : Bn) (m : Nat), vs = [.ref a, v, vInt m] ∧ TapeAt H a c ts ∧ PartsAt H v b ∧ BnOk b ∧ m ≤ 100 ∧ ∀ (H' : Hp) (c' : Nat) (y : V) (s : Nat) (bs : List Nat), Kp a H H' → TapeAt H' a c' ts → LeafAt H' y (s, bs) → s ∈ b.starts → bs.length = m → GLabs 2 bs → Q y H'
section
variable {P : Program} {w : World} {K : PySem.W.Frag} {mg : Str → Option Value} {base : Heap}
abbrev nLP : List Str := ["_law_tape", "_law_labels", "_law_pairs_here", "_law_a", "_law_b"]
theorem scLP : FnScope nLP ["_law_tape", "_law_labels"] (defScope sLPairs) := ⟨rfl, rfl, rfl, by decide +kernel, rfl, by decide +kernel, by decide +kernel⟩
theorem ok_l_pairs {f : Addr} {fd : FuncData} (F : Fun K "_law_pairs" "_law_pairs" sLPairs f fd) (T : Bare mg) (GT : Cal P w K mg base 1 "_law_take" ["_law_tape", "_law_many"] spDraw) : FnOk P w K mg base CX0 2 f fd ["_law_tape", "_law_labels"] spLPairs := by
  obtain ⟨_, _, ok_tk, b_tk, k_tk, m_tk⟩ := GT.ex
  refine F.ok scLP (fun vs H Q E h => ?_) (fun cdv A outer s H vs Q E hr h => ?_)
  · obtain ⟨a, c, ts, L, rfl, _⟩ := h
    rfl
  · obtain ⟨a, c, ts, L, rfl, hT, hL, k⟩ := h
    have hr_tk := hr
    refine ⟨_, (pss_cons (ps_set (i := 2) scLP.nd rfl (Or.inl rfl) (pe_lst pa_nil))
      (pss_cons (ps_for PassesOwn.never rfl (pi_range1 rfl T.range (pa_cons (pv 1) pa_nil)) (pg_name (i := 3) scLP.nd rfl (Or.inl rfl))
          (pss_one (ps_for PassesOwn.never rfl (pi_range1 rfl T.range (pa_cons (pv 1) pa_nil)) (pg_name (i := 4) scLP.nd rfl (Or.inl rfl))
              (pss_one (ps_if (pt_cmpR op_eq (pe_call ok_tk hr_tk rfl m_tk k_tk b_tk .nil pass0 (pa_cons (pv 0) (pa_cons pe_int pa_nil))) pe_int (nomark _)) (pss_one (ps_expr (pe_bm PySem.F.plainAttrs_list PySem.F.slot_list_append PySem.F.type_list_append mt_append (pv 2) (pa_cons (pe_tup (pa_cons (pv 3) (pa_cons (pv 4) pa_nil))) pa_nil)))) pss_nil)))))
      (pss_one (ps_ret (pe_tupleOf rfl T.tuple (pv 2)))))), ?_⟩
    refine ⟨small (m := 1) (Nat.zero_le _), fun D hD => ?_⟩
    have nD := tape_ne hT hD
    have k0 : Kp a H (upd H D (.lst [])) := (Kp.refl a H).upd hD
    refine ⟨_, rfl, _, rfl, by omega, by omega, ?_⟩
    rw [Int.toNat_natCast]
    refine for_range (lo := 0) (n := L) (fun i σ H' => ∃ (y3 y4 : Option V) (c : Nat) (ys : List V) (as : List Arr), σ = [some (.ref a), some (vInt L), some (.ref D), y3, y4] ∧ Kp a H H' ∧ TapeAt H' a c ts ∧ H' D = some (.lst ys) ∧ Al (PairAt H') ys as ∧ (∀ e ∈ as, e.1 < i ∧ e.1 < L ∧ e.2 < L) ∧ as.Pairwise plt ∧ as.length ≤ i * L) ⟨none, none, c, [], [], rfl, k0, hT.upd nD, upd_same, trivial, (fun e h => by cases h), .nil, Nat.zero_le _⟩ ?_ ?_
    · rintro i σ H1 hi ⟨y3, y4, c1, ys, as, rfl, k1, hT1, hY, hA, hin, hpw, hlen⟩
      refine ⟨_, rfl, _, rfl, by omega, by omega, ?_⟩
      rw [Int.toNat_natCast]
      have ei : (0 : Int) + i = ((i : Nat) : Int) := by omega
      rw [ei]
      refine for_range (lo := 0) (n := L) (fun j σ H' => ∃ (y4 : Option V) (c : Nat) (zs : List V) (bs : List Arr), σ = [some (.ref a), some (vInt L), some (.ref D), some (vInt i), y4] ∧ Kp a H H' ∧ TapeAt H' a c ts ∧ H' D = some (.lst zs) ∧ Al (PairAt H') zs bs ∧ (∀ e ∈ bs, (e.1 < i ∨ e.1 = i ∧ e.2 < j) ∧ e.1 < L ∧ e.2 < L) ∧ bs.Pairwise plt ∧ bs.length ≤ i * L + j) ⟨y4, c1, ys, as, rfl, k1, hT1, hY, hA, fun e he => ⟨.inl (hin e he).1, (hin e he).2⟩, hpw, hlen⟩ ?_ ?_
      · rintro j σ H2 hj ⟨y4, c2, zs, bs, rfl, k2, hT2, hZ, hB, hib, hpb, hlb⟩
        have ej : (0 : Int) + j = ((j : Nat) : Int) := by omega
        rw [ej]
        refine ⟨_, rfl, a, c2, ts, 3, rfl, hT2, by decide, fun H3 c3 n hn hH3 hT3 => ?_⟩
        have k3 : Kp a H H3 := k2.trans (Kp.of hH3)
        have hDa : D ≠ a := nD
        have hZ3 : H3 D = some (.lst zs) := by rw [hH3 D hDa]; exact hZ
        have hB3 := hB.imp fun _ _ h => h.tups (Tups.kp hT2 (Kp.of hH3))
        have hil : i * L ≤ 9 := Nat.le_trans (Nat.mul_le_mul (Nat.le_trans (Nat.le_of_lt hi) hL) hL) (by decide)
        have lb := hB.len
        refine ⟨rfl, _, rfl, ite2 (fun z => ?_) (fun z => ?_)⟩
        · refine ⟨_, rfl, .inl ⟨rfl, _, SqL.of hZ3⟩, _, rfl, _, rfl, small (m := 2) (Nat.le_refl _), fun u hu => ?_⟩
          have e4 := same_new (o := .tup [vInt i, vInt j]) hu
          have hZ4 := e4 _ _ hZ3
          have t5 : Tups _ (upd (upd H3 u (.tup [vInt i, vInt j])) D (.lst (zs ++ [.ref u]))) := Tups.upd hZ4
          refine ⟨D, _, _, rfl, rfl, hZ4, below (m := 100) (by omega), _, c3, zs ++ [.ref u], bs ++ [(i, j)], rfl, (k3.trans (kp_same e4)).upd hD, (hT3.same e4).upd hDa, upd_same, ?_, fun e he => ?_, ?_, ?_⟩
          · exact Al.append (ys := [.ref u]) (bs := [(i, j)]) (hB3.imp fun _ _ h => h.tups ((Tups.of e4).trans t5)) ⟨⟨u, rfl, t5 _ _ upd_same⟩, trivial⟩
          · rcases List.mem_append.mp he with he | he
            · obtain ⟨h1, h2, h3⟩ := hib e he
              exact ⟨by omega, h2, h3⟩
            · rw [List.mem_singleton.mp he]
              exact ⟨.inr ⟨rfl, Nat.lt_succ_self _⟩, hi, hj⟩
          · refine List.pairwise_append.mpr ⟨hpb, List.pairwise_singleton _ _, fun e he f hf => ?_⟩
            rw [List.mem_singleton.mp hf]
            obtain ⟨h1, _⟩ := hib e he
            show e.1 < i ∨ e.1 = i ∧ e.2 < j
            exact h1
          · rw [List.length_append]
            show bs.length + 1 ≤ _
            omega
        · exact ⟨_, c3, zs, bs, rfl, k3, hT3, hZ3, hB3, fun e he => ⟨by have := (hib e he).1; omega, (hib e he).2⟩, hpb, by omega⟩
      · rintro σ H2 ⟨y4, c2, zs, bs, rfl, k2, hT2, hZ, hB, hib, hpb, hlb⟩
        exact ⟨_, _, c2, zs, bs, rfl, k2, hT2, hZ, hB, fun e he => ⟨by have := (hib e he).1; omega, (hib e he).2⟩, hpb, by rw [Nat.succ_mul]; exact hlb⟩
    · rintro σ H1 ⟨y3, y4, c1, ys, as, rfl, k1, hT1, hY, hA, hin, hpw, hlen⟩
      refine ⟨_, rfl, .inl ⟨D, ys, rfl, SqL.of hY, fun q hq => ?_⟩⟩
      have e2 := same_new (o := .tup ys) hq
      have hil : L * L ≤ 9 := Nat.le_trans (Nat.mul_le_mul hL hL) (by decide)
      exact k _ c1 (.ref q) as (k1.trans (kp_same e2)) (hT1.same e2) ⟨q, ys, rfl, upd_same, hA.imp fun _ _ h => h.tups (Tups.of e2)⟩ ⟨fun e he => (hin e he).2, hpw, by omega⟩
abbrev nBI : List Str := ["_law_tape", "_law_many", "_law_k"]
theorem scBI : FnScope nBI ["_law_tape", "_law_many"] (defScope sLBits) := ⟨rfl, rfl, rfl, by decide +kernel, rfl, by decide +kernel, by decide +kernel⟩
theorem ok_l_bits {f : Addr} {fd : FuncData} (F : Fun K "_law_bits" "_law_bits" sLBits f fd) (T : Bare mg) (GT : Cal P w K mg base 1 "_law_take" ["_law_tape", "_law_many"] spDraw) : FnOk P w K mg base CX0 2 f fd ["_law_tape", "_law_many"] spLBits := by
  obtain ⟨_, _, ok_tk, b_tk, k_tk, m_tk⟩ := GT.ex
  refine F.ok scBI (fun vs H Q E h => ?_) (fun cdv A outer s H vs Q E hr h => ?_)
  · obtain ⟨a, c, ts, m, rfl, _⟩ := h
    rfl
  · obtain ⟨a, c, ts, m, rfl, hT, hm, k⟩ := h
    have hr_tk := hr
    refine ⟨_, (pss_one (ps_ret (pe_tupleOf rfl T.tuple (pe_lc (own := [("_law_k", 2)]) (g := gName 2) (tt := tYes) rfl scBI.nd (pi_range1 rfl T.range (pa_cons (pv 1) pa_nil)) (blkOk_by (own := [("_law_k", 2)]) (N := nBI) (sc := defScope sLBits) (by decide +kernel)) (fun _ _ _ _ _ => pg_name (i := 2) scBI.nd rfl (Or.inl rfl)) (fun _ _ _ _ _ => pts_nil) (fun _ _ _ _ _ => pe_call ok_tk hr_tk rfl m_tk k_tk b_tk .nil pass0 (pa_cons (pv 0) (pa_cons pe_int pa_nil))))))), ?_⟩
    refine ⟨_, rfl, _, rfl, by omega, by omega, ?_⟩
    rw [Int.toNat_natCast]
    refine fun D hD => ?_
    have nD := tape_ne hT hD
    refine lc_range (lo := 0) (n := m) (fun i H' => Kp a H H' ∧ ∃ (c : Nat) (l : List Nat), TapeAt H' a c ts ∧ H' D = some (.lst (l.map vInt)) ∧ l.length = i ∧ GLabs 2 l) ⟨(Kp.refl a H).upd hD, c, [], hT.upd nD, upd_same, rfl, (fun x h => by cases h)⟩ ?_ ?_
    · rintro i H1 hi ⟨k1, c1, l, hT1, hD1, hl, hg⟩
      refine ⟨rfl, _, rfl, a, c1, ts, 2, rfl, hT1, by decide, fun H2 c2 n hn hH2 hT2 => ?_⟩
      have hD2 : H2 D = some (.lst (l.map vInt)) := by rw [hH2 D nD]; exact hD1
      refine ⟨_, hD2, below (m := 200) (by rw [List.length_map]; omega), (k1.trans (Kp.of hH2)).upd hD, c2, l ++ [n], hT2.upd nD, by rw [upd_same, List.map_append]; rfl, by rw [List.length_append, hl]; rfl, nm_snoc hg hn⟩
    · rintro H1 ⟨k1, c1, l, hT1, hD1, hl, hg⟩
      refine .inl ⟨D, _, rfl, SqL.of hD1, fun q hq => ?_⟩
      have e2 := same_new (o := .tup (l.map vInt)) hq
      exact k _ c1 (.ref q) l (k1.trans (kp_same e2)) (hT1.same e2) ⟨q, rfl, upd_same⟩ hl hg
abbrev nLL : List Str := ["_law_tape", "_law_parts", "_law_many", "_law_start"]
theorem scLL : FnScope nLL ["_law_tape", "_law_parts", "_law_many"] (defScope sLLeaf) := ⟨rfl, rfl, rfl, by decide +kernel, rfl, by decide +kernel, by decide +kernel⟩
theorem ok_l_leaf {f : Addr} {fd : FuncData} (F : Fun K "_law_leaf" "_law_leaf" sLLeaf f fd) (T : Bare mg) (GT : Cal P w K mg base 1 "_law_take" ["_law_tape", "_law_many"] spDraw) (GB : Cal P w K mg base 2 "_law_bits" ["_law_tape", "_law_many"] spLBits) : FnOk P w K mg base CX0 3 f fd ["_law_tape", "_law_parts", "_law_many"] spLLeaf := by
  obtain ⟨_, _, ok_tk, b_tk, k_tk, m_tk⟩ := GT.ex
  obtain ⟨_, _, ok_bi, b_bi, k_bi, m_bi⟩ := GB.ex
  refine F.ok scLL (fun vs H Q E h => ?_) (fun cdv A outer s H vs Q E hr h => ?_)
  · obtain ⟨a, c, ts, v, b, m, rfl, _⟩ := h
    rfl
  · obtain ⟨a, c, ts, v, b, m, rfl, hT, hP, hok, hm, k⟩ := h
    have hr_bi := hr
    have hr_tk := hr.mono (j := 1) (by decide)
    refine ⟨_, (pss_cons (ps_set (i := 3) scLL.nd rfl (Or.inl rfl) (pe_ix ix_tup (pe_ix ix_list (pv 1) pe_int (fun _ _ => rfl)) (pe_call ok_tk hr_tk rfl m_tk k_tk b_tk .nil pass0 (pa_cons (pv 0) (pa_cons (pe_callB call_len_seq (by rfl) T.len PySem.boot_len (pa_cons (pe_ix ix_list (pv 1) pe_int (fun _ _ => rfl)) pa_nil)) pa_nil))) (fun _ _ => rfl)))
      (pss_one (ps_ret (pe_tup (pa_cons (pv 3) (pa_cons (pe_call ok_bi hr_bi rfl m_bi k_bi b_bi .nil pass0 (pa_cons (pv 0) (pa_cons (pv 2) pa_nil))) pa_nil)))))), ?_⟩
    obtain ⟨p, vst, vj, rfl, hp, ⟨q, rfl, hq⟩, hJ⟩ := id hP
    refine ⟨_, rfl, p, _, _, .ref q, rfl, rfl, SqL.of hp, atI_nat (j := 1) rfl, _, rfl, _, rfl, p, _, _, .ref q, rfl, rfl, SqL.of hp, atI_nat (j := 1) rfl, q, _, rfl, .inr (SqT.of hq), ?_⟩
    rw [List.length_map]
    refine ⟨a, c, ts, b.starts.length, rfl, hT, hok.s1, fun H1 c1 n hn hH1 hT1 => ?_⟩
    have k1 : Kp a H H1 := Kp.of hH1
    have hq1 := Tups.kp hT k1 _ _ hq
    refine ⟨q, _, _, vInt b.starts[n], rfl, rfl, SqT.of hq1, atI_nat (j := n) (by rw [List.getElem?_map, List.getElem?_eq_getElem hn]; rfl), ?_⟩
    refine ⟨_, rfl, _, rfl, _, rfl, a, c1, ts, m, rfl, hT1, hm, fun H2 c2 vb bs k2 hT2 hvb hbl hg => ⟨small (m := 2) (Nat.le_refl _), fun u hu => ?_⟩⟩
    obtain ⟨z, rfl, hz⟩ := hvb
    have e3 := same_new (o := .tup [vInt b.starts[n], V.ref z]) hu
    exact k _ c2 (.ref u) b.starts[n] bs ((k1.trans k2).trans (kp_same e3)) (hT2.same e3) ⟨u, z, rfl, upd_same, e3 _ _ hz⟩ (List.getElem_mem hn) hbl hg
end
end Fam

/-! Drawn benches. -/
namespace Fam
open PySem L2 S5
open C8 (pss_cut tCut)
/-- a row of n draws below m, made in the heap by a comprehension: what it asks -/
theorem draws_ask {te : TE} {a : Addr} {ts : List Int} {m n : Nat} {H : Hp} {c : Nat} {σ : L2.St} {i : Nat} {vs : List Nat} {D : Addr} {Qd : Hp → Prop} (hD : H D = none) (hT : TapeAt H a c ts) (hm : 0 < m) (hn : n ≤ 100)
    (run : ∀ (σ' : L2.St) (H' : Hp) (c' : Nat) (Q' : VK), (∃ v : V, σ' = (wipe σ vs).set i (some v)) → TapeAt H' a c' ts → (∀ (H2 : Hp) (c2 x : Nat), x < m → (∀ b, b ≠ a → H2 b = H' b) → TapeAt H2 a c2 ts → Q' (vInt x) H2) → te σ' H' Q')
    (hw : ∀ v : V, wipe ((wipe σ vs).set i (some v)) vs = wipe σ vs)
    (k : ∀ (H' : Hp) (c' : Nat) (l : List Nat), D ≠ a → Kp a H H' → TapeAt H' a c' ts → H' D = some (.lst (l.map vInt)) → l.length = n → GLabs m l → Qd H') :
    ∃ W : Nat → Nat → Hp → Prop, (∃ q, W 0 q (upd H D (.lst []))) ∧ ∀ j q H, W j q H →
      ((Itr 0 n).stop j H ∧ Qd H) ∨ ((Itr 0 n).go j H ∧ ∃ Nx : Hp → Prop, (∀ H', Nx H' → ∃ m', m' < q ∧ W (j + 1) m' H') ∧ ∀ x H', (Itr 0 n).yld j H x H' → gName i x (wipe σ vs) H' fun σ2 H2 => wipe σ2 vs = wipe σ vs ∧ tYes σ2 H2 fun b H3 =>
        if b = true then te σ2 H3 fun y H4 => ∃ acc, H4 D = some (.lst acc) ∧ acc.length < sizeLine ∧ Nx (upd H4 D (.lst (acc ++ [y]))) else Nx H3) := by
  have nD := tape_ne hT hD
  refine lc_range (lo := 0) (n := n) (fun j H' => Kp a H H' ∧ ∃ (c : Nat) (l : List Nat), TapeAt H' a c ts ∧ H' D = some (.lst (l.map vInt)) ∧ l.length = j ∧ GLabs m l) ⟨(Kp.refl a H).upd hD, c, [], hT.upd nD, upd_same, rfl, (fun x h => by cases h)⟩ ?_ ?_
  · rintro j H1 hj ⟨k1, c1, l, hT1, hD1, hl, hg⟩
    refine ⟨hw _, run _ _ c1 _ ⟨_, rfl⟩ hT1 fun H2 c2 x hx hH2 hT2 => ?_⟩
    have hD2 : H2 D = some (.lst (l.map vInt)) := by rw [hH2 D nD]; exact hD1
    exact ⟨_, hD2, below (m := 200) (by rw [List.length_map]; omega), (k1.trans (Kp.of hH2)).upd hD, c2, l ++ [x], hT2.upd nD, by rw [upd_same, List.map_append]; rfl, by rw [List.length_append, hl]; rfl, nm_snoc hg hx⟩
  · rintro H1 ⟨k1, c1, l, hT1, hD1, hl, hg⟩
    exact k H1 c1 l nD k1 hT1 hD1 hl hg
def StOk (L : Nat) (st : List Nat) : Prop := GLabs L st ∧ 1 ≤ st.length ∧ st.length ≤ 2 ∧ st.Pairwise (· < ·)
section
variable {P : Program} {w : World} {K : PySem.W.Frag} {mg : Str → Option Value} {base : Heap}
abbrev nDB : List Str := ["_law_tape", "_law_labels", "_law_starts", "_law_joins", "_law_k", "_law_fore", "_law_back", "_law_left", "_law_right", "_law_a"]
theorem scDB : FnScope nDB ["_law_tape"] (defScope sLDrawnBench) := ⟨rfl, rfl, rfl, by decide +kernel, rfl, by decide +kernel, by decide +kernel⟩
theorem ok_drawn_bench {f : Addr} {fd : FuncData} (F : Fun K "_law_drawn_bench" "_law_drawn_bench" sLDrawnBench f fd) (T : Bare mg) (GT : Cal P w K mg base 1 "_law_take" ["_law_tape", "_law_many"] spDraw) (GP : Cal P w K mg base 2 "_law_pairs" ["_law_tape", "_law_labels"] spLPairs) : FnOk P w K mg base CX0 3 f fd ["_law_tape"] spDrawnBench := by
  obtain ⟨_, _, ok_tk, b_tk, k_tk, m_tk⟩ := GT.ex
  obtain ⟨_, _, ok_pr, b_pr, k_pr, m_pr⟩ := GP.ex
  refine F.ok scDB (fun vs H Q E h => ?_) (fun cdv A outer s H vs Q E hr h => ?_)
  · obtain ⟨a, c, ts, rfl, _⟩ := h
    rfl
  · obtain ⟨a, c, ts, rfl, hT, k⟩ := h
    have hr_pr := hr
    have hr_tk := hr.mono (j := 1) (by decide)
    refine ⟨_, (pss_cons (ps_set (i := 1) scDB.nd rfl (Or.inr rfl) (pe_op op_add pe_int (pe_call ok_tk hr_tk rfl m_tk k_tk b_tk .nil pass0 (pa_cons (pv 0) (pa_cons pe_int pa_nil)))))
      (pss_cons (ps_set (i := 2) scDB.nd rfl (Or.inl rfl) (pe_lst (pa_cons pe_int pa_nil)))
      (pss_cut (ps_if (pt_cmpR op_eq (pv 1) pe_int (nomark _)) (pss_one (ps_set (i := 2) scDB.nd rfl (Or.inl rfl) (pe_ix ix_list (pe_lst (pa_cons (pe_lst (pa_cons pe_int pa_nil)) (pa_cons (pe_lst (pa_cons pe_int (pa_cons pe_int pa_nil))) (pa_cons (pe_lst (pa_cons pe_int pa_nil)) pa_nil)))) (pe_call ok_tk hr_tk rfl m_tk k_tk b_tk .nil pass0 (pa_cons (pv 0) (pa_cons pe_int pa_nil))) (fun _ _ => rfl)))) pss_nil)
      (pss_cons (ps_set (i := 3) scDB.nd rfl (Or.inl rfl) (pe_lst pa_nil))
      (pss_cons (ps_for PassesOwn.never rfl (pi_range1 rfl T.range (pa_cons (pe_op op_add pe_int (pe_call ok_tk hr_tk rfl m_tk k_tk b_tk .nil pass0 (pa_cons (pv 0) (pa_cons pe_int pa_nil)))) pa_nil)) (pg_name (i := 4) scDB.nd rfl (Or.inl rfl))
          (pss_cons (ps_set (i := 5) scDB.nd rfl (Or.inl rfl) (pe_call ok_pr hr_pr rfl m_pr k_pr b_pr .nil pass0 (pa_cons (pv 0) (pa_cons (pv 1) pa_nil))))
          (pss_cons (ps_set (i := 6) scDB.nd rfl (Or.inl rfl) (pe_call ok_pr hr_pr rfl m_pr k_pr b_pr .nil pass0 (pa_cons (pv 0) (pa_cons (pv 1) pa_nil))))
          (pss_cons (ps_set (i := 7) scDB.nd rfl (Or.inl rfl) (pe_tupleOf rfl T.tuple (pe_lc (own := [("_law_a", 9)]) (g := gName 9) (tt := tYes) rfl scDB.nd (pi_range1 rfl T.range (pa_cons (pv 1) pa_nil)) (blkOk_by (own := [("_law_a", 9)]) (N := nDB) (sc := defScope sLDrawnBench) (by decide +kernel)) (fun _ _ _ _ _ => pg_name (i := 9) scDB.nd rfl (Or.inl rfl)) (fun _ _ _ _ _ => pts_nil) (fun _ _ _ _ _ => pe_call ok_tk hr_tk rfl m_tk k_tk b_tk .nil pass0 (pa_cons (pv 0) (pa_cons (pv 1) pa_nil))))))
          (pss_cons (ps_set (i := 8) scDB.nd rfl (Or.inl rfl) (pe_tupleOf rfl T.tuple (pe_lc (own := [("_law_a", 9)]) (g := gName 9) (tt := tYes) rfl scDB.nd (pi_range1 rfl T.range (pa_cons (pv 1) pa_nil)) (blkOk_by (own := [("_law_a", 9)]) (N := nDB) (sc := defScope sLDrawnBench) (by decide +kernel)) (fun _ _ _ _ _ => pg_name (i := 9) scDB.nd rfl (Or.inl rfl)) (fun _ _ _ _ _ => pts_nil) (fun _ _ _ _ _ => pe_call ok_tk hr_tk rfl m_tk k_tk b_tk .nil pass0 (pa_cons (pv 0) (pa_cons (pv 1) pa_nil))))))
          (pss_one (ps_expr (pe_bm PySem.F.plainAttrs_list PySem.F.slot_list_append PySem.F.type_list_append mt_append (pv 3) (pa_cons (pe_tup (pa_cons (pv 5) (pa_cons (pv 6) (pa_cons (pv 7) (pa_cons (pv 8) pa_nil))))) pa_nil)))))))))
      (pss_one (ps_ret (pe_lst (pa_cons (pv 1) (pa_cons (pe_tupleOf rfl T.tuple (pv 2)) (pa_cons (pe_tupleOf rfl T.tuple (pv 3)) pa_nil))))))))))), ?_⟩
    refine ⟨_, rfl, a, c, ts, 2, rfl, hT, by decide, fun H1 c1 n hn hH1 hT1 => ⟨_, _, rfl, rfl, ?_⟩⟩
    show gName 1 (V.int ((1:Int) + (n:Int))) _ _ _
    obtain ⟨L, eL⟩ : ∃ L, L = 1 + n := ⟨_, rfl⟩
    have eL2 : (1 : Int) + (n : Int) = ((L : Nat) : Int) := by omega
    rw [eL2]
    have hL1 : 1 ≤ L := by omega
    have hL2 : L ≤ 2 := by omega
    have k1 : Kp a H H1 := Kp.of hH1
    refine ⟨small (m := 1) (Nat.le_refl _), fun S0 hS0 => ?_⟩
    have e2 := same_new (o := .lst [V.int 0]) hS0
    have nS0 := tape_ne hT1 hS0
    have fS0 : H S0 = none := k1.free hT1 hS0
    refine ⟨fun σ' H' => ∃ (S : Addr) (st : List Nat) (c : Nat), σ' = [some (.ref a), some (vInt L), some (.ref S), none, none, none, none, none, none, none] ∧ Kp a H H' ∧ TapeAt H' a c ts ∧ S ≠ a ∧ H' S = some (.lst (st.map vInt)) ∧ StOk L st, ?_, ?_⟩
    · refine ⟨_, rfl, rfl, _, rfl, ite2 (fun z => ?_) (fun z => ?_)⟩
      · have hL : L = 2 := by
          have := V.int.inj (of_decide_eq_true z)
          omega
        refine ⟨small (m := 1) (Nat.le_refl _), fun q1 hq1 => ⟨small (m := 2) (Nat.le_refl _), fun q2 hq2 => ⟨small (m := 1) (Nat.le_refl _), fun q3 hq3 => ⟨small (m := 3) (Nat.le_refl _), fun O hO => ?_⟩⟩⟩⟩
        have g1 := same_new (o := .lst [V.int 0]) hq1
        have g2 := same_new (o := .lst [V.int 0, V.int 1]) hq2
        have g3 := same_new (o := .lst [V.int 1]) hq3
        have g4 := same_new (o := .lst [V.ref q1, V.ref q2, V.ref q3]) hO
        have g := e2.trans (g1.trans (g2.trans (g3.trans g4)))
        have hTg := hT1.same g
        have nO := tape_ne (((hT1.same e2).same g1).same (g2.trans g3)) hO
        have n1 := tape_ne (hT1.same e2) hq1
        have n2 := tape_ne ((hT1.same e2).same g1) hq2
        have n3 := tape_ne ((hT1.same e2).same (g1.trans g2)) hq3
        have f1 := (g2.trans (g3.trans g4)) _ _ (upd_same (H := upd H1 S0 (.lst [V.int 0])) (a := q1))
        have f2 := (g3.trans g4) _ _ (upd_same (a := q2) (o := .lst [V.int 0, V.int 1]))
        have f3 := g4 _ _ (upd_same (a := q3) (o := .lst [V.int 1]))
        obtain ⟨G, eG⟩ : ∃ G, G = upd (upd (upd (upd (upd H1 S0 (.lst [V.int 0])) q1 (.lst [V.int 0])) q2 (.lst [V.int 0, V.int 1])) q3 (.lst [V.int 1])) O (.lst [V.ref q1, V.ref q2, V.ref q3]) := ⟨_, rfl⟩
        have fO : G O = some (.lst [V.ref q1, V.ref q2, V.ref q3]) := by rw [eG]; exact upd_same
        rw [← eG] at f1 f2 f3 g hTg ⊢
        refine ⟨_, rfl, a, c1, ts, 3, rfl, hTg, by decide, fun H2 c2 m hm hH2 hT2 => ?_⟩
        have kk : Kp a H H2 := k1.trans ((kp_same g).trans (Kp.of hH2))
        have fO2 : H2 O = some (.lst [V.ref q1, V.ref q2, V.ref q3]) := by rw [hH2 O nO]; exact fO
        have h3 : m = 0 ∨ m = 1 ∨ m = 2 := by omega
        rcases h3 with rfl | rfl | rfl
        · exact ⟨O, _, _, .ref q1, rfl, rfl, SqL.of fO2, atI_nat (j := 0) rfl, q1, [0], c2, rfl, kk, hT2, n1, by rw [hH2 q1 n1]; exact f1, by rw [hL]; unfold GLabs; decide, by decide, by decide, by decide⟩
        · exact ⟨O, _, _, .ref q2, rfl, rfl, SqL.of fO2, atI_nat (j := 1) rfl, q2, [0, 1], c2, rfl, kk, hT2, n2, by rw [hH2 q2 n2]; exact f2, by rw [hL]; unfold GLabs; decide, by decide, by decide, by decide⟩
        · exact ⟨O, _, _, .ref q3, rfl, rfl, SqL.of fO2, atI_nat (j := 2) rfl, q3, [1], c2, rfl, kk, hT2, n3, by rw [hH2 q3 n3]; exact f3, by rw [hL]; unfold GLabs; decide, by decide, by decide, by decide⟩
      · exact ⟨S0, [0], c1, rfl, k1.trans (kp_same e2), hT1.same e2, nS0, upd_same, (fun x hx => by rw [List.mem_singleton.mp hx]; omega), by decide, by decide, by decide⟩
    · rintro σ' H2 ⟨S, st, c2, rfl, k2, hT2, nS, hS, hst⟩
      refine ⟨small (m := 1) (Nat.zero_le _), fun J hJ => ?_⟩
      have e3 := same_new (o := .lst []) hJ
      have nJ := tape_ne hT2 hJ
      have fJ : H J = none := k2.free hT2 hJ
      have nJS : S ≠ J := ne_of_none hS hJ
      refine ⟨_, rfl, a, c2, ts, 2, rfl, hT2.same e3, by decide, fun H3 c3 m hm hH3 hT3 => ⟨_, _, rfl, rfl, ?_⟩⟩
      refine ⟨_, rfl, by omega, by omega, ?_⟩
      have em : ((1 : Int) + (m : Int)).toNat = 1 + m := by omega
      rw [em]
      have k3 : Kp a H H3 := k2.trans ((kp_same e3).trans (Kp.of hH3))
      have hS3 : H3 S = some (.lst (st.map vInt)) := by rw [hH3 S nS]; exact e3 _ _ hS
      have hJ3 : H3 J = some (.lst []) := by rw [hH3 J nJ]; exact upd_same
      refine for_range (lo := 0) (n := 1 + m) (fun i σ H' => ∃ (y4 y5 y6 y7 y8 : Option V) (c : Nat) (ys : List V) (js : List Jn), σ = [some (.ref a), some (vInt L), some (.ref S), some (.ref J), y4, y5, y6, y7, y8, none] ∧ Kp a H H' ∧ TapeAt H' a c ts ∧ H' S = some (.lst (st.map vInt)) ∧ H' J = some (.lst ys) ∧ Al (JnAt H') ys js ∧ (∀ j ∈ js, JnOk L j) ∧ js.length = i) ⟨none, none, none, none, none, c3, [], [], rfl, k3, hT3, hS3, hJ3, trivial, (fun j h => by cases h), rfl⟩ ?_ ?_
      · rintro i σ H4 hi ⟨y4, y5, y6, y7, y8, c4, ys, js, rfl, k4, hT4, hS4, hJ4, hA4, hok4, hjl⟩
        refine ⟨_, rfl, _, rfl, a, c4, ts, L, rfl, hT4, by omega, fun H5 c5 vf fore k5 hT5 hf hfo => ⟨_, rfl, _, rfl, a, c5, ts, L, rfl, hT5, by omega, fun H6 c6 vb back k6 hT6 hb hbo => ?_⟩⟩
        -- left
        refine ⟨_, rfl, _, rfl, by omega, by omega, ?_⟩
        rw [Int.toNat_natCast]
        intro D7 hD7
        refine draws_ask (i := 9) (m := L) (n := L) hD7 hT6 (by omega) (by omega) (fun σ' H' c' Q' e hT' kk => ?_) ?_ fun H7 c7 lf nD7 k7 hT7 hL7 hl7 hg7 => ?_
        · obtain ⟨v, rfl⟩ := e
          exact ⟨_, rfl, _, rfl, a, c', ts, L, rfl, hT', by omega, fun H2 c2 x hx h1 h2 => kk H2 c2 x hx h1 h2⟩
        · exact fun v => rfl
        refine .inl ⟨D7, _, rfl, SqL.of hL7, fun q7 hq7 => ?_⟩
        have e7 := same_new (o := .tup (lf.map vInt)) hq7
        obtain ⟨G7, eG7⟩ : ∃ G7, G7 = upd H7 q7 (.tup (lf.map vInt)) := ⟨_, rfl⟩
        rw [← eG7] at e7 ⊢
        have hl7' : PlacesAt G7 (.ref q7) lf := ⟨q7, rfl, by rw [eG7]; exact upd_same⟩
        -- right
        refine ⟨_, rfl, _, rfl, by omega, by omega, ?_⟩
        rw [Int.toNat_natCast]
        intro D8 hD8
        refine draws_ask (i := 9) (m := L) (n := L) hD8 (hT7.same e7) (by omega) (by omega) (fun σ' H' c' Q' e hT' kk => ?_) ?_ fun H8 c8 rg nD8 k8 hT8 hL8 hl8 hg8 => ?_
        · obtain ⟨v, rfl⟩ := e
          exact ⟨_, rfl, _, rfl, a, c', ts, L, rfl, hT', by omega, fun H2 c2 x hx h1 h2 => kk H2 c2 x hx h1 h2⟩
        · exact fun v => rfl
        refine .inl ⟨D8, _, rfl, SqL.of hL8, fun q8 hq8 => ?_⟩
        have e8 := same_new (o := .tup (rg.map vInt)) hq8
        obtain ⟨G8, eG8⟩ : ∃ G8, G8 = upd H8 q8 (.tup (rg.map vInt)) := ⟨_, rfl⟩
        rw [← eG8] at e8 ⊢
        have hr8' : PlacesAt G8 (.ref q8) rg := ⟨q8, rfl, by rw [eG8]; exact upd_same⟩
        have ka : Kp a H4 G8 := k5.trans (k6.trans (k7.trans ((kp_same e7).trans (k8.trans (kp_same e8)))))
        have hT8' := hT8.same e8
        have hJ8 := ka J _ nJ hJ4
        have hS8 := ka S _ nS hS4
        refine ⟨_, rfl, .inl ⟨rfl, _, SqL.of hJ8⟩, _, rfl, _, rfl, _, rfl, _, rfl, small (m := 4) (Nat.le_refl _), fun u hu => ?_⟩
        have e9 := same_new (o := .tup [vf, vb, V.ref q7, V.ref q8]) hu
        have hJ9 := e9 _ _ hJ8
        have t10 : Tups _ (upd (upd G8 u (.tup [vf, vb, V.ref q7, V.ref q8])) J (.lst (ys ++ [.ref u]))) := Tups.upd hJ9
        have tA := (Tups.kp hT4 ka).trans ((Tups.of e9).trans t10)
        have tf : Tups H5 G8 := Tups.kp hT5 (k6.trans (k7.trans ((kp_same e7).trans (k8.trans (kp_same e8)))))
        have tb : Tups H6 G8 := Tups.kp hT6 (k7.trans ((kp_same e7).trans (k8.trans (kp_same e8))))
        have tl : Tups G7 G8 := Tups.kp (hT7.same e7) (k8.trans (kp_same e8))
        have te := (Tups.of e9).trans t10
        have ll := hA4.len
        refine ⟨J, _, _, rfl, rfl, hJ9, below (m := 100) (by omega), _, _, _, _, _, c8, ys ++ [.ref u], js ++ [⟨fore, back, lf, rg⟩], rfl, ((k4.trans ka).trans (kp_same e9)).upd fJ, (hT8'.same e9).upd nJ, by rw [upd_ne nJS]; exact e9 _ _ hS8, upd_same, ?_, fun j hj => ?_, by rw [List.length_append, hjl]; rfl⟩
        · exact Al.append (ys := [.ref u]) (bs := [⟨fore, back, lf, rg⟩]) (hA4.imp fun _ _ h => h.tups tA) ⟨⟨u, vf, vb, .ref q7, .ref q8, rfl, t10 _ _ upd_same, hf.tups (tf.trans te), hb.tups (tb.trans te), PlacesAt.tups (tl.trans te) hl7', PlacesAt.tups te hr8'⟩, trivial⟩
        · rcases List.mem_append.mp hj with hj | hj
          · exact hok4 j hj
          · rw [List.mem_singleton.mp hj]
            exact ⟨hfo, hbo, ⟨hg7, by show lf.length ≤ 100; omega⟩, ⟨hg8, by show rg.length ≤ 100; omega⟩, hl7, hl8⟩
      · rintro σ H4 ⟨y4, y5, y6, y7, y8, c4, ys, js, rfl, k4, hT4, hS4, hJ4, hA4, hok4, hjl⟩
        refine ⟨_, rfl, _, rfl, .inl ⟨S, _, rfl, SqL.of hS4, fun q hq => ?_⟩⟩
        have e5 := same_new (o := .tup (st.map vInt)) hq
        refine ⟨_, rfl, .inl ⟨J, ys, rfl, SqL.of (e5 _ _ hJ4), fun q2 hq2 => ?_⟩⟩
        have e6 := same_new (o := .tup ys) hq2
        refine ⟨small (m := 3) (Nat.le_refl _), fun R hR => ?_⟩
        have e7 := same_new (o := .lst [vInt L, V.ref q, V.ref q2]) hR
        have e57 := e5.trans (e6.trans e7)
        have nR : R ≠ a := tape_ne ((hT4.same e5).same e6) hR
        refine k _ c4 R ⟨L, st, js⟩ (k4.trans (kp_same e57)) (hT4.same e57) nR ⟨R, .ref q, .ref q2, rfl, upd_same, ⟨q, rfl, (e6.trans e7) _ _ upd_same⟩, ⟨q2, ys, rfl, e7 _ _ upd_same, hA4.imp fun _ _ h => h.tups (Tups.of e57)⟩⟩ ⟨hL1, by show L ≤ 3; omega, ⟨hst.1, by show st.length ≤ 100; have := hst.2.2.1; omega⟩, hst.2.1, hst.2.2.2, by show 1 ≤ js.length; omega, by show js.length ≤ 3; omega, hok4⟩
abbrev nYB : List Str := ["_law_tape", "_law_word"]
theorem scYB : FnScope nYB ["_law_tape"] (defScope sLAnyBench) := ⟨rfl, rfl, rfl, by decide +kernel, rfl, by decide +kernel, by decide +kernel⟩
theorem ok_any_bench {f : Addr} {fd : FuncData} (F : Fun K "_law_any_bench" "_law_any_bench" sLAnyBench f fd) (T : Bare mg) (GT : Cal P w K mg base 1 "_law_take" ["_law_tape", "_law_many"] spDraw) (GD : Cal P w K mg base 3 "_law_drawn_bench" ["_law_tape"] spDrawnBench) (GN : Cal P w K mg base 1 "_law_named" ["_law_word"] spNamed) : FnOk P w K mg base CX0 4 f fd ["_law_tape"] spDrawnBench := by
  obtain ⟨_, _, ok_tk, b_tk, k_tk, m_tk⟩ := GT.ex
  obtain ⟨_, _, ok_db, b_db, k_db, m_db⟩ := GD.ex
  obtain ⟨_, _, ok_nm, b_nm, k_nm, m_nm⟩ := GN.ex
  refine F.ok scYB (fun vs H Q E h => ?_) (fun cdv A outer s H vs Q E hr h => ?_)
  · obtain ⟨a, c, ts, rfl, _⟩ := h
    rfl
  · obtain ⟨a, c, ts, rfl, hT, k⟩ := h
    have hr_db := hr
    have hr_tk := hr.mono (j := 1) (by decide)
    have hr_nm := hr.mono (j := 1) (by decide)
    refine ⟨_, (pss_cons (ps_set (i := 1) scYB.nd rfl (Or.inl rfl) (pe_ix ix_list (pe_lst (pa_cons pe_int (pa_cons pe_int (pa_cons pe_int (pa_cons pe_int (pa_cons pe_int (pa_cons pe_int (pa_cons pe_int (pa_cons pe_int pa_nil))))))))) (pe_call ok_tk hr_tk rfl m_tk k_tk b_tk .nil pass0 (pa_cons (pv 0) (pa_cons pe_int pa_nil))) (fun _ _ => rfl)))
      (pss_cons (ps_if (pt_cmpR op_eq (pv 1) pe_int (nomark _)) (pss_one (ps_ret (pe_call ok_db hr_db rfl m_db k_db b_db .nil pass0 (pa_cons (pv 0) pa_nil)))) pss_nil)
      (pss_one (ps_ret (pe_call ok_nm hr_nm rfl m_nm k_nm b_nm .nil pass0 (pa_cons (pv 1) pa_nil)))))), ?_⟩
    refine ⟨small (m := 8) (Nat.le_refl _), fun O hO => ?_⟩
    have e1 := same_new (o := .lst ([0, 4, 0, 2, 1, 0, 3, 4].map vInt)) hO
    have nO := tape_ne hT hO
    refine ⟨_, rfl, a, c, ts, 8, rfl, hT.same e1, by decide, fun H2 c2 m hm hH2 hT2 => ?_⟩
    have fO2 : H2 O = some (.lst ([0, 4, 0, 2, 1, 0, 3, 4].map vInt)) := by rw [hH2 O nO]; exact upd_same
    have kk : Kp a H H2 := (kp_same e1).trans (Kp.of hH2)
    have hl : m < ([0, 4, 0, 2, 1, 0, 3, 4] : List Nat).length := hm
    obtain ⟨x, ex⟩ : ∃ x, x = ([0, 4, 0, 2, 1, 0, 3, 4] : List Nat)[m] := ⟨_, rfl⟩
    refine ⟨O, _, _, vInt x, rfl, rfl, SqL.of fO2, atI_nat (j := m) (by rw [List.getElem?_map, List.getElem?_eq_getElem hl, ← ex]; rfl), ?_⟩
    refine ⟨_, rfl, rfl, _, rfl, ite2 (fun z => ?_) (fun z => ?_)⟩
    · exact ⟨_, rfl, a, c2, ts, rfl, hT2, fun H3 c3 p b k3 hT3 np hP hok => k H3 c3 p b (kk.trans k3) hT3 np hP hok⟩
    · refine ⟨_, rfl, x, rfl, fun H3 p b s3 hP hok => ?_⟩
      have np : p ≠ a := fun e => by
        obtain ⟨p', vs, vj, e1, h1, h2, _⟩ := hP
        cases e1
        subst e
        have := s3 _ _ hT2
        rw [h1] at this
        obtain ⟨q, rfl, _⟩ := h2
        have h3 := congrArg (fun o => match o with | some (HO.lst (_ :: y :: _)) => y | _ => V.non) this
        have h4 : V.ref q = (match ts.map V.int with | y :: _ => y | _ => V.non) := by
          cases ts with
          | nil => cases h3
          | cons t ts => exact h3
        cases ts with
        | nil => cases h4
        | cons t ts => cases h4
      exact k H3 c2 p b (kk.trans (kp_same s3)) (hT2.same s3) np hP hok
end
end Fam

/-! Drawn terms and contexts. -/
namespace Fam
open PySem L2 S5
open C8 (pss_cut tCut)
def TmG (b : Bn) (m : Nat) : Tm → Prop
  | .hole => True
  | .leaf a bs => a ∈ b.starts ∧ bs.length = m ∧ GLabs 2 bs
  | .join j l r => j < b.joins.length ∧ TmG b m l ∧ TmG b m r
def holesM : Tm → Nat
  | .hole => 1
  | .leaf _ _ => 0
  | .join _ l r => holesM l + holesM r
theorem nodesM : ∀ t : Tm, t.nodes + 1 = 2 * ((leavesT t).length + holesM t)
  | .hole => rfl
  | .leaf _ _ => rfl
  | .join j l r => by
    have h1 := nodesM l
    have h2 := nodesM r
    show l.nodes + r.nodes + 1 + 1 = 2 * ((leavesT l ++ leavesT r).length + (holesM l + holesM r))
    rw [List.length_append]
    omega
theorem TmG.ok {b : Bn} {m : Nat} : ∀ {t : Tm}, TmG b m t → holesM t = 0 → TmOk b t
  | .hole, _, h => by cases h
  | .leaf a bs, h, _ => h.1
  | .join j l r, ⟨h1, h2, h3⟩, e => by
    have e' : holesM l + holesM r = 0 := e
    exact ⟨h1, h2.ok (by omega), h3.ok (by omega)⟩
structure RowOk (b : Bn) (m n h : Nat) (us : List Tm) : Prop where
  g : ∀ t ∈ us, TmG b m t
  h : (us.map holesM).sum = h
  l : (us.map fun t => (leavesT t).length).sum = n
theorem RowOk.merge {b : Bn} {m n h j : Nat} {A C : List Tm} {t1 t2 : Tm} (r : RowOk b m n h (A ++ t1 :: t2 :: C)) (hj : j < b.joins.length) : RowOk b m n h (A ++ [.join j t1 t2] ++ C) := by
  obtain ⟨g, h1, h2⟩ := r
  refine ⟨fun t ht => ?_, ?_, ?_⟩
  · rcases List.mem_append.mp ht with ht | ht
    · rcases List.mem_append.mp ht with ht | ht
      · exact g t (List.mem_append_left _ ht)
      · rw [List.mem_singleton.mp ht]
        exact ⟨hj, g _ (List.mem_append_right _ (List.mem_cons_self ..)), g _ (List.mem_append_right _ (List.mem_cons_of_mem _ (List.mem_cons_self ..)))⟩
    · exact g t (List.mem_append_right _ (List.mem_cons_of_mem _ (List.mem_cons_of_mem _ ht)))
  · rw [← h1]
    simp [holesM]
    omega
  · rw [← h2]
    simp [leavesT]
    omega
theorem Al.uncons {α : Type} {R : V → α → Prop} {x : V} {xs : List V} {as : List α} (h : Al R (x :: xs) as) : ∃ a as', as = a :: as' ∧ R x a ∧ Al R xs as' := by
  cases as with
  | nil => exact h.elim
  | cons a as => exact ⟨a, as, rfl, h.1, h.2⟩
theorem Al.split {α : Type} {R : V → α → Prop} {A B : List V} : ∀ {xs : List V} {as : List α}, Al R xs as → xs = A ++ B → ∃ a1 a2, as = a1 ++ a2 ∧ Al R A a1 ∧ Al R B a2 := by
  intro xs as h e
  subst e
  refine ⟨as.take A.length, as.drop A.length, (List.take_append_drop _ _).symm, ?_, ?_⟩
  · have := h.take A.length
    rwa [List.take_left] at this
  · have := h.drop A.length
    rwa [List.drop_left] at this
theorem two_at (xs : List V) (p : Nat) (h : p + 1 < xs.length) : ∃ A x y C, xs = A ++ x :: y :: C ∧ A.length = p := by
  refine ⟨xs.take p, xs[p], xs[p + 1], xs.drop (p + 2), ?_, by rw [List.length_take]; omega⟩
  rw [← List.drop_eq_getElem_cons (by omega), ← List.drop_eq_getElem_cons (by omega), List.take_append_drop]
theorem sub1 {n : Nat} (h : 1 ≤ n) : ((n : Int) - 1) = ((n - 1 : Nat) : Int) := by omega
theorem cut_beg (xs : List V) (p : Nat) : cutV xs none (some (p : Int)) = xs.take p := by
  unfold cutV
  rw [HT.sIx_nat, HT.sIx_none, Nat.sub_zero, List.drop_zero]
  rcases Nat.le_total p xs.length with h | h
  · rw [Nat.min_eq_left h]
  · rw [Nat.min_eq_right h, List.take_length, List.take_of_length_le h]
def spLTerm : Sp := fun vs H Q _ => ∃ (a : Addr) (c : Nat) (ts : List Int) (v : V) (b : Bn) (n m : Nat), vs = [.ref a, v, vInt n, vInt m] ∧ TapeAt H a c ts ∧ PartsAt H v b ∧ v ≠ .ref a ∧ BnOk b ∧ 1 ≤ n ∧ n ≤ 100 ∧ m ≤ 100 ∧
  ∀ (H' : Hp) (c' : Nat) (y : V) (t : Tm), Kp a H H' → TapeAt H' a c' ts → TmAt H' y t → TmG b m t → holesM t = 0 → (leavesT t).length = n → Q y H'
def spLContext : Sp := fun vs H Q _ => ∃ (a : Addr) (c : Nat) (ts : List Int) (v : V) (b : Bn) (n m : Nat), vs = [.ref a, v, vInt n, vInt m] ∧ TapeAt H a c ts ∧ PartsAt H v b ∧ v ≠ .ref a ∧ BnOk b ∧ 1 ≤ n ∧ n ≤ 100 ∧ m ≤ 100 ∧
  ∀ (H' : Hp) (c' : Nat) (y : V) (t : Tm), Kp a H H' → TapeAt H' a c' ts → TmAt H' y t → TmG b m t → holesM t = 1 → (leavesT t).length = n → Q y H'
section
variable {P : Program} {w : World} {K : PySem.W.Frag} {mg : Str → Option Value} {base : Heap}
abbrev nTE : List Str := ["_law_tape", "_law_parts", "_law_size", "_law_many", "_law_row", "_law_k", "_law_at", "_law_j"]
theorem scTE : FnScope nTE ["_law_tape", "_law_parts", "_law_size", "_law_many"] (defScope sLTerm) := ⟨rfl, rfl, rfl, by decide +kernel, rfl, by decide +kernel, by decide +kernel⟩
theorem leaves_row {b : Bn} {m : Nat} : ∀ {us : List Tm}, (∀ t ∈ us, ∃ s bs, t = .leaf s bs ∧ TmG b m t) → RowOk b m us.length 0 us
  | [], _ => ⟨fun t h => (by cases h), rfl, rfl⟩
  | t :: us, h => by
    have ih := leaves_row (us := us) fun t ht => h t (List.mem_cons_of_mem _ ht)
    obtain ⟨s, bs, e, hg⟩ := h t (List.mem_cons_self ..)
    subst e
    refine ⟨fun t ht => ?_, ?_, ?_⟩
    · rcases List.mem_cons.mp ht with e | ht
      · rw [e]; exact hg
      · exact ih.g t ht
    · rw [List.map_cons, List.sum_cons, ih.h]
      rfl
    · rw [List.map_cons, List.sum_cons, ih.l, List.length_cons, Nat.add_comm]
      rfl
theorem RowOk.ins {b : Bn} {m n p : Nat} {us : List Tm} (r : RowOk b m n 0 us) : RowOk b m n 1 (us.take p ++ [.hole] ++ us.drop p) := by
  obtain ⟨g, h, l⟩ := r
  have h' := h
  have l' := l
  rw [← List.take_append_drop p us, List.map_append, List.sum_append] at h' l'
  refine ⟨fun t ht => ?_, ?_, ?_⟩
  · rcases List.mem_append.mp ht with ht | ht
    · rcases List.mem_append.mp ht with ht | ht
      · exact g t (List.mem_of_mem_take ht)
      · rw [List.mem_singleton.mp ht]
        trivial
    · exact g t (List.mem_of_mem_drop ht)
  · rw [List.map_append, List.map_append, List.sum_append, List.sum_append]
    show _ + 1 + _ = 1
    omega
  · rw [List.map_append, List.map_append, List.sum_append, List.sum_append]
    show _ + 0 + _ = n
    omega
theorem ok_l_term {f : Addr} {fd : FuncData} (F : Fun K "_law_term" "_law_term" sLTerm f fd) (T : Bare mg) (GT : Cal P w K mg base 1 "_law_take" ["_law_tape", "_law_many"] spDraw) (GL : Cal P w K mg base 3 "_law_leaf" ["_law_tape", "_law_parts", "_law_many"] spLLeaf) : FnOk P w K mg base CX0 4 f fd ["_law_tape", "_law_parts", "_law_size", "_law_many"] spLTerm := by
  obtain ⟨_, _, ok_tk, b_tk, k_tk, m_tk⟩ := GT.ex
  obtain ⟨_, _, ok_le, b_le, k_le, m_le⟩ := GL.ex
  refine F.ok scTE (fun vs H Q E h => ?_) (fun cdv A outer s H vs Q E hr h => ?_)
  · obtain ⟨a, c, ts, v, b, n, m, rfl, _⟩ := h
    rfl
  · obtain ⟨a, c, ts, v, b, n, m, rfl, hT, hP, hva, hok, hn1, hn2, hm, k⟩ := h
    have hr_le := hr
    have hr_tk := hr.mono (j := 1) (by decide)
    refine ⟨_, (pss_cons (ps_setLc (i := 4) (own := [("_law_k", 5)]) (g := gName 5) (tt := tYes) (by rfl) scTE.nd rfl rfl (sw_true rfl rfl rfl (by decide +kernel)) (pi_range1 rfl T.range (pa_cons (pv 2) pa_nil)) (blkOk_by (own := [("_law_k", 5)]) (N := nTE) (sc := defScope sLTerm) (by decide +kernel)) (fun _ _ _ _ _ => pg_name (i := 5) scTE.nd rfl (Or.inl rfl)) (fun _ _ _ _ _ => pts_nil) (fun _ _ _ _ _ => pe_call ok_le hr_le rfl m_le k_le b_le .nil pass0 (pa_cons (pv 0) (pa_cons (pv 1) (pa_cons (pv 3) pa_nil)))))
      (pss_cons (ps_for PassesOwn.never rfl (pi_range1 rfl T.range (pa_cons (pe_op op_sub (pv 2) pe_int) pa_nil)) (pg_name (i := 5) scTE.nd rfl (Or.inl rfl))
          (pss_cons (ps_set (i := 6) scTE.nd rfl (Or.inl rfl) (pe_call ok_tk hr_tk rfl m_tk k_tk b_tk .nil pass0 (pa_cons (pv 0) (pa_cons (pe_op op_sub (pe_callB call_len_seq (by rfl) T.len PySem.boot_len (pa_cons (pv 4) pa_nil)) pe_int) pa_nil))))
          (pss_cons (ps_set (i := 7) scTE.nd rfl (Or.inl rfl) (pe_call ok_tk hr_tk rfl m_tk k_tk b_tk .nil pass0 (pa_cons (pv 0) (pa_cons (pe_callB call_len_seq (by rfl) T.len PySem.boot_len (pa_cons (pe_ix ix_list (pv 1) pe_int (fun _ _ => rfl)) pa_nil)) pa_nil))))
          (pss_one (ps_set (i := 4) scTE.nd rfl (Or.inl rfl) (pe_op op_cat (pe_op op_cat (pe_slice sl_list (pv 4) po_none (po_some (pv 6))) (pe_lst (pa_cons (pe_tup (pa_cons (pv 7) (pa_cons (pe_ix ix_list (pv 4) (pv 6) (fun _ _ => rfl)) (pa_cons (pe_ix ix_list (pv 4) (pe_op op_add (pv 6) pe_int) (fun _ _ => rfl)) pa_nil)))) pa_nil))) (pe_slice sl_list (pv 4) (po_some (pe_op op_add (pv 6) pe_int)) po_none)))))))
      (pss_one (ps_ret (pe_ix ix_list (pv 4) pe_int (fun _ _ => rfl)))))), ?_⟩
    refine ⟨_, rfl, ?_⟩
    refine ⟨_, rfl, by omega, by omega, ?_⟩
    rw [Int.toNat_natCast]
    intro D hD
    have nD := tape_ne hT hD
    refine lc_range (lo := 0) (n := n) (fun i H' => Kp a H H' ∧ ∃ (c : Nat) (xs : List V) (us : List Tm), TapeAt H' a c ts ∧ H' D = some (.lst xs) ∧ Al (TmAt H') xs us ∧ (∀ t ∈ us, ∃ s bs, t = .leaf s bs ∧ TmG b m t) ∧ us.length = i) ⟨(Kp.refl a H).upd hD, c, [], [], hT.upd nD, upd_same, trivial, (fun t h => by cases h), rfl⟩ ?_ ?_
    · rintro i H1 hi ⟨k1, c1, xs, us, hT1, hD1, hA1, hu1, hl1⟩
      have hxl := hA1.len
      refine ⟨rfl, _, rfl, _, rfl, _, rfl, a, c1, ts, v, b, m, rfl, hT1, PartsAt.keep hP hva hT k1, hok, hm, fun H2 c2 y s bs k2 hT2 hy hs hbl hg => ?_⟩
      have hD2 : H2 D = some (.lst xs) := k2 D _ nD hD1
      refine ⟨xs, hD2, below (m := 300) (by omega), (k1.trans k2).upd hD, c2, xs ++ [y], us ++ [.leaf s bs], hT2.upd nD, upd_same, ?_, fun t ht => ?_, by rw [List.length_append, hl1]; rfl⟩
      · exact (hA1.imp fun _ _ h => h.tups ((Tups.kp hT1 k2).trans (Tups.upd hD2))).append ⟨TmAt.tups (Tups.upd hD2) hy, trivial⟩
      · rcases List.mem_append.mp ht with h | h
        · exact hu1 t h
        · exact ⟨s, bs, List.mem_singleton.mp h, by rw [List.mem_singleton.mp h]; exact ⟨hs, hbl, hg⟩⟩
    · rintro H1 ⟨k1, c1, xs, us, hT1, hD1, hA1, hu1, hl1⟩
      have hxl := hA1.len
      have hrow := leaves_row hu1
      obtain ⟨hh, ehh⟩ : ∃ hh, hh = 0 := ⟨0, rfl⟩
      rw [hl1, ← ehh] at hrow
      refine ⟨_, rfl, _, _, rfl, rfl, _, rfl, by omega, by omega, ?_⟩
      rw [show ((n : Int) - 1).toNat = n - 1 by omega]
      have st0 : ∃ (R : Addr) (y5 y6 y7 : Option V) (c : Nat) (xs : List V) (us : List Tm), [some (.ref a), some v, some (vInt n), some (vInt m), some (.ref D), none, none, none] = [some (.ref a), some v, some (vInt n), some (vInt m), some (V.ref R), y5, y6, y7] ∧ Kp a H H1 ∧ TapeAt H1 a c ts ∧ R ≠ a ∧ H1 R = some (.lst xs) ∧ Al (TmAt H1) xs us ∧ RowOk b m n hh us ∧ us.length + 0 = n := ⟨D, none, none, none, c1, xs, us, rfl, k1, hT1, nD, hD1, hA1, hrow, hl1⟩
      refine for_range (lo := 0) (n := n - 1) (fun i σ H' => ∃ (R : Addr) (y5 y6 y7 : Option V) (c : Nat) (xs : List V) (us : List Tm), σ = [some (.ref a), some v, some (vInt n), some (vInt m), some (.ref R), y5, y6, y7] ∧ Kp a H H' ∧ TapeAt H' a c ts ∧ R ≠ a ∧ H' R = some (.lst xs) ∧ Al (TmAt H') xs us ∧ RowOk b m n hh us ∧ us.length + i = n) st0 ?_ ?_
      · rintro i σ H3 hi ⟨R, y5, y6, y7, c3, xs, us, rfl, k3, hT3, nR, hR3, hA3, hrow, hlen⟩
        have hxl := hA3.len
        have hP3 := PartsAt.keep hP hva hT k3
        refine ⟨_, rfl, _, rfl, R, _, rfl, .inl (SqL.of hR3), _, _, rfl, rfl, a, c3, ts, xs.length - 1, (congrArg (fun z => [V.ref a, V.int z]) (sub1 (by omega))), hT3, by omega, fun H4 c4 p hp hH4 hT4 => ?_⟩
        have hR4 : H4 R = some (.lst xs) := by rw [hH4 R nR]; exact hR3
        have k4 : Kp a H3 H4 := Kp.of hH4
        have hP4 := PartsAt.keep hP3 hva hT3 k4
        obtain ⟨pp, vst, vj, rfl, hpp, hvs, q, js, rfl, hq, hJ⟩ := hP4
        have hjl := hJ.len
        refine ⟨_, rfl, _, rfl, pp, _, _, .ref q, rfl, rfl, SqL.of hpp, atI_nat (j := 2) rfl, q, _, rfl, .inr (SqT.of hq), a, c4, ts, js.length, rfl, hT4, by have := hok.j1; omega, fun H5 c5 j hj hH5 hT5 => ?_⟩
        have k5 : Kp a H4 H5 := Kp.of hH5
        have hR5 : H5 R = some (.lst xs) := by rw [hH5 R nR]; exact hR4
        have hA5 := hA3.imp fun _ _ h => h.tups ((Tups.kp hT3 k4).trans (Tups.kp hT4 k5))
        obtain ⟨A, x, y, C, exs, hAl⟩ := two_at xs p (by omega)
        have hle : A.length + (C.length + 2) ≤ 200 := by
          have := congrArg List.length exs
          rw [List.length_append, List.length_cons, List.length_cons] at this
          omega
        obtain ⟨us1, us2, eu, hA1, hA2⟩ := hA5.split exs
        obtain ⟨t1, us3, rfl, ht1, hA3'⟩ := Al.uncons hA2
        obtain ⟨t2, us4, rfl, ht2, hA4'⟩ := Al.uncons hA3'
        subst eu exs
        have gx : (A ++ x :: y :: C)[p]? = some x := by rw [← hAl, List.getElem?_append_right (Nat.le_refl _), Nat.sub_self]; rfl
        have gy : (A ++ x :: y :: C)[p + 1]? = some y := by rw [← hAl, List.getElem?_append_right (by omega), show A.length + 1 - A.length = 1 by omega]; rfl
        refine ⟨_, rfl, _, rfl, _, rfl, R, _, rfl, SqL.of hR5, fun S1 hS1 => ?_⟩
        rw [show cutV (A ++ x :: y :: C) none (some (p : Int)) = A by rw [cut_beg, ← hAl, List.take_left]]
        have e1 := same_new (o := .lst A) hS1
        have nS1 := tape_ne hT5 hS1
        refine ⟨_, rfl, _, rfl, _, rfl, R, _, _, x, rfl, rfl, SqL.of (e1 _ _ hR5), atI_nat (j := p) gx, _, rfl, _, rfl, _, _, rfl, rfl, R, _, _, y, rfl, rfl, SqL.of (e1 _ _ hR5), atI_nat (j := p + 1) gy, small (m := 3) (Nat.le_refl _), fun u hu => ?_⟩
        have e2 := same_new (o := .tup [vInt j, x, y]) hu
        refine ⟨small (m := 1) (Nat.le_refl _), fun S2 hS2 => ?_⟩
        have e3 := same_new (o := .lst [V.ref u]) hS2
        refine ⟨S1, S2, _, _, rfl, rfl, (e2.trans e3) _ _ upd_same, upd_same, below (m := 300) (by first | omega | (simp; omega)), fun S3 hS3 => ?_⟩
        have e4 := same_new (o := .lst (A ++ [V.ref u])) hS3
        have ee := e1.trans (e2.trans (e3.trans e4))
        refine ⟨_, rfl, _, rfl, _, _, rfl, rfl, _, rfl, R, _, rfl, SqL.of (ee _ _ hR5), fun S4 hS4 => ?_⟩
        rw [show cutV (A ++ x :: y :: C) (some ((p : Int) + 2)) none = C by
          rw [show ((p : Int) + 2) = ((p + 2 : Nat) : Int) by omega, cut_end _ (by rw [List.length_append, hAl]; simp), ← hAl]; simp]
        have e5 := same_new (o := .lst C) hS4
        have hz : (A ++ [V.ref u]).length + C.length ≤ 300 := by rw [List.length_append, List.length_singleton]; omega
        refine ⟨S3, S4, _, _, rfl, rfl, e5 _ _ upd_same, upd_same, small (m := 300) hz, fun R' hR' => ?_⟩
        have e6 := same_new (o := .lst (A ++ [V.ref u] ++ C)) hR'
        have eall := ee.trans (e5.trans e6)
        have hT6 := hT5.same eall
        have tt := Tups.of eall
        have k56 : Kp a H3 _ := k4.trans (k5.trans (kp_same eall))
        refine ⟨R', _, _, _, c5, A ++ [V.ref u] ++ C, us1 ++ [.join j t1 t2] ++ us4, rfl, k3.trans k56, hT6, tape_ne (hT5.same (ee.trans e5)) hR', upd_same, ?_, ?_, ?_⟩
        · exact ((hA1.imp fun _ _ h => h.tups tt).append (show Al (TmAt _) [V.ref u] [Tm.join j t1 t2] from ⟨⟨u, x, y, rfl, (e3.trans (e4.trans (e5.trans e6))) _ _ upd_same, ht1.tups tt, ht2.tups tt⟩, trivial⟩)).append (hA4'.imp fun _ _ h => h.tups tt)
        · exact hrow.merge (by omega)
        · simp at hlen ⊢
          omega
      · rintro σ H3 ⟨R, y5, y6, y7, c3, xs, us, rfl, k3, hT3, nR, hR3, hA3, hrow, hlen⟩
        have hl1 : us.length = 1 := by omega
        obtain ⟨t, rfl⟩ : ∃ t, us = [t] := by
          match us, hl1 with
          | [t], _ => exact ⟨t, rfl⟩
        obtain ⟨y, hy, hty⟩ := hA3.get2 (i := 0) (a := t) rfl
        refine ⟨_, rfl, R, _, _, y, rfl, rfl, SqL.of hR3, atI_nat (j := 0) hy, ?_⟩
        have e1 := hrow.h
        have e2 := hrow.l
        simp at e1 e2
        exact k H3 c3 y t k3 hT3 hty (hrow.g t (List.mem_cons_self ..)) (by omega) e2
abbrev nCT0 : List Str := ["_law_tape", "_law_parts", "_law_size", "_law_many", "_law_row", "_law_k", "_law_at", "_law_j"]
theorem scCT0 : FnScope nCT0 ["_law_tape", "_law_parts", "_law_size", "_law_many"] (defScope sLContext) := ⟨rfl, rfl, rfl, by decide +kernel, rfl, by decide +kernel, by decide +kernel⟩
theorem ok_l_context {f : Addr} {fd : FuncData} (F : Fun K "_law_context" "_law_context" sLContext f fd) (T : Bare mg) (GT : Cal P w K mg base 1 "_law_take" ["_law_tape", "_law_many"] spDraw) (GL : Cal P w K mg base 3 "_law_leaf" ["_law_tape", "_law_parts", "_law_many"] spLLeaf) : FnOk P w K mg base CX0 4 f fd ["_law_tape", "_law_parts", "_law_size", "_law_many"] spLContext := by
  obtain ⟨_, _, ok_tk, b_tk, k_tk, m_tk⟩ := GT.ex
  obtain ⟨_, _, ok_le, b_le, k_le, m_le⟩ := GL.ex
  refine F.ok scCT0 (fun vs H Q E h => ?_) (fun cdv A outer s H vs Q E hr h => ?_)
  · obtain ⟨a, c, ts, v, b, n, m, rfl, _⟩ := h
    rfl
  · obtain ⟨a, c, ts, v, b, n, m, rfl, hT, hP, hva, hok, hn1, hn2, hm, k⟩ := h
    have hr_le := hr
    have hr_tk := hr.mono (j := 1) (by decide)
    refine ⟨_, (pss_cons (ps_setLc (i := 4) (own := [("_law_k", 5)]) (g := gName 5) (tt := tYes) (by rfl) scCT0.nd rfl rfl (sw_true rfl rfl rfl (by decide +kernel)) (pi_range1 rfl T.range (pa_cons (pv 2) pa_nil)) (blkOk_by (own := [("_law_k", 5)]) (N := nCT0) (sc := defScope sLContext) (by decide +kernel)) (fun _ _ _ _ _ => pg_name (i := 5) scCT0.nd rfl (Or.inl rfl)) (fun _ _ _ _ _ => pts_nil) (fun _ _ _ _ _ => pe_call ok_le hr_le rfl m_le k_le b_le .nil pass0 (pa_cons (pv 0) (pa_cons (pv 1) (pa_cons (pv 3) pa_nil)))))
      (pss_cons (ps_expr (pe_bm PySem.F.plainAttrs_list PySem.F.slot_list_insert PySem.F.type_list_insert mt_insert (pv 4) (pa_cons (pe_call ok_tk hr_tk rfl m_tk k_tk b_tk .nil pass0 (pa_cons (pv 0) (pa_cons (pe_op op_add (pv 2) pe_int) pa_nil))) (pa_cons pe_non pa_nil))))
      (pss_cons (ps_for PassesOwn.never rfl (pi_range1 rfl T.range (pa_cons (pv 2) pa_nil)) (pg_name (i := 5) scCT0.nd rfl (Or.inl rfl))
          (pss_cons (ps_set (i := 6) scCT0.nd rfl (Or.inl rfl) (pe_call ok_tk hr_tk rfl m_tk k_tk b_tk .nil pass0 (pa_cons (pv 0) (pa_cons (pe_op op_sub (pe_callB call_len_seq (by rfl) T.len PySem.boot_len (pa_cons (pv 4) pa_nil)) pe_int) pa_nil))))
          (pss_cons (ps_set (i := 7) scCT0.nd rfl (Or.inl rfl) (pe_call ok_tk hr_tk rfl m_tk k_tk b_tk .nil pass0 (pa_cons (pv 0) (pa_cons (pe_callB call_len_seq (by rfl) T.len PySem.boot_len (pa_cons (pe_ix ix_list (pv 1) pe_int (fun _ _ => rfl)) pa_nil)) pa_nil))))
          (pss_one (ps_set (i := 4) scCT0.nd rfl (Or.inl rfl) (pe_op op_cat (pe_op op_cat (pe_slice sl_list (pv 4) po_none (po_some (pv 6))) (pe_lst (pa_cons (pe_tup (pa_cons (pv 7) (pa_cons (pe_ix ix_list (pv 4) (pv 6) (fun _ _ => rfl)) (pa_cons (pe_ix ix_list (pv 4) (pe_op op_add (pv 6) pe_int) (fun _ _ => rfl)) pa_nil)))) pa_nil))) (pe_slice sl_list (pv 4) (po_some (pe_op op_add (pv 6) pe_int)) po_none)))))))
      (pss_one (ps_ret (pe_ix ix_list (pv 4) pe_int (fun _ _ => rfl))))))), ?_⟩
    refine ⟨_, rfl, ?_⟩
    refine ⟨_, rfl, by omega, by omega, ?_⟩
    rw [Int.toNat_natCast]
    intro D hD
    have nD := tape_ne hT hD
    refine lc_range (lo := 0) (n := n) (fun i H' => Kp a H H' ∧ ∃ (c : Nat) (xs : List V) (us : List Tm), TapeAt H' a c ts ∧ H' D = some (.lst xs) ∧ Al (TmAt H') xs us ∧ (∀ t ∈ us, ∃ s bs, t = .leaf s bs ∧ TmG b m t) ∧ us.length = i) ⟨(Kp.refl a H).upd hD, c, [], [], hT.upd nD, upd_same, trivial, (fun t h => by cases h), rfl⟩ ?_ ?_
    · rintro i H1 hi ⟨k1, c1, xs, us, hT1, hD1, hA1, hu1, hl1⟩
      have hxl := hA1.len
      refine ⟨rfl, _, rfl, _, rfl, _, rfl, a, c1, ts, v, b, m, rfl, hT1, PartsAt.keep hP hva hT k1, hok, hm, fun H2 c2 y s bs k2 hT2 hy hs hbl hg => ?_⟩
      have hD2 : H2 D = some (.lst xs) := k2 D _ nD hD1
      refine ⟨xs, hD2, below (m := 300) (by omega), (k1.trans k2).upd hD, c2, xs ++ [y], us ++ [.leaf s bs], hT2.upd nD, upd_same, ?_, fun t ht => ?_, by rw [List.length_append, hl1]; rfl⟩
      · exact (hA1.imp fun _ _ h => h.tups ((Tups.kp hT1 k2).trans (Tups.upd hD2))).append ⟨TmAt.tups (Tups.upd hD2) hy, trivial⟩
      · rcases List.mem_append.mp ht with h | h
        · exact hu1 t h
        · exact ⟨s, bs, List.mem_singleton.mp h, by rw [List.mem_singleton.mp h]; exact ⟨hs, hbl, hg⟩⟩
    · rintro H1 ⟨k1, c1, xs, us, hT1, hD1, hA1, hu1, hl1⟩
      have hxl := hA1.len
      have hrow0 := leaves_row hu1
      rw [hl1] at hrow0
      obtain ⟨hh, ehh⟩ : ∃ hh, hh = 1 := ⟨1, rfl⟩
      refine ⟨_, rfl, .inl ⟨rfl, _, SqL.of hD1⟩, _, rfl, _, rfl, _, _, rfl, rfl, a, c1, ts, n + 1, (congrArg (fun z => [V.ref a, V.int z]) (by omega)), hT1, by omega, fun H2 c2 p hp hH2 hT2 => ?_⟩
      have k2 : Kp a H1 H2 := Kp.of hH2
      have hD2 : H2 D = some (.lst xs) := by rw [hH2 D nD]; exact hD1
      refine ⟨D, xs, _, _, rfl, rfl, hD2, below (m := 300) (by omega), by omega, by omega, ?_⟩
      rw [Int.toNat_natCast]
      obtain ⟨H3, eH3⟩ : ∃ H3, H3 = upd H2 D (.lst (xs.take p ++ [V.non] ++ xs.drop p)) := ⟨_, rfl⟩
      rw [← eH3]
      have hA2 := hA1.imp fun _ _ h => h.tups ((Tups.kp hT1 k2).trans (Tups.upd (o := .lst (xs.take p ++ [V.non] ++ xs.drop p)) hD2))
      rw [← eH3] at hA2
      have hAn : Al (TmAt H3) (xs.take p ++ [V.non] ++ xs.drop p) (us.take p ++ [.hole] ++ us.drop p) := ((hA2.take p).append (show Al (TmAt H3) [V.non] [Tm.hole] from ⟨rfl, trivial⟩)).append (hA2.drop p)
      have hrow := hrow0.ins (p := p)
      rw [← ehh] at hrow
      refine ⟨_, rfl, _, rfl, by omega, by omega, ?_⟩
      rw [Int.toNat_natCast]
      have st0 : ∃ (R : Addr) (y5 y6 y7 : Option V) (c : Nat) (xs : List V) (us : List Tm), [some (.ref a), some v, some (vInt n), some (vInt m), some (.ref D), none, none, none] = [some (.ref a), some v, some (vInt n), some (vInt m), some (V.ref R), y5, y6, y7] ∧ Kp a H H3 ∧ TapeAt H3 a c ts ∧ R ≠ a ∧ H3 R = some (.lst xs) ∧ Al (TmAt H3) xs us ∧ RowOk b m n hh us ∧ us.length + 0 = n + 1 := ⟨D, none, none, none, c2, _, _, rfl, by rw [eH3]; exact (k1.trans k2).upd hD, by rw [eH3]; exact hT2.upd nD, nD, by rw [eH3]; exact upd_same, hAn, hrow, by rw [List.length_append, List.length_append, List.length_take, List.length_drop, List.length_singleton]; omega⟩
      refine for_range (lo := 0) (n := (n + 1) - 1) (fun i σ H' => ∃ (R : Addr) (y5 y6 y7 : Option V) (c : Nat) (xs : List V) (us : List Tm), σ = [some (.ref a), some v, some (vInt n), some (vInt m), some (.ref R), y5, y6, y7] ∧ Kp a H H' ∧ TapeAt H' a c ts ∧ R ≠ a ∧ H' R = some (.lst xs) ∧ Al (TmAt H') xs us ∧ RowOk b m n hh us ∧ us.length + i = (n + 1)) st0 ?_ ?_
      · rintro i σ H3 hi ⟨R, y5, y6, y7, c3, xs, us, rfl, k3, hT3, nR, hR3, hA3, hrow, hlen⟩
        have hxl := hA3.len
        have hP3 := PartsAt.keep hP hva hT k3
        refine ⟨_, rfl, _, rfl, R, _, rfl, .inl (SqL.of hR3), _, _, rfl, rfl, a, c3, ts, xs.length - 1, (congrArg (fun z => [V.ref a, V.int z]) (sub1 (by omega))), hT3, by omega, fun H4 c4 p hp hH4 hT4 => ?_⟩
        have hR4 : H4 R = some (.lst xs) := by rw [hH4 R nR]; exact hR3
        have k4 : Kp a H3 H4 := Kp.of hH4
        have hP4 := PartsAt.keep hP3 hva hT3 k4
        obtain ⟨pp, vst, vj, rfl, hpp, hvs, q, js, rfl, hq, hJ⟩ := hP4
        have hjl := hJ.len
        refine ⟨_, rfl, _, rfl, pp, _, _, .ref q, rfl, rfl, SqL.of hpp, atI_nat (j := 2) rfl, q, _, rfl, .inr (SqT.of hq), a, c4, ts, js.length, rfl, hT4, by have := hok.j1; omega, fun H5 c5 j hj hH5 hT5 => ?_⟩
        have k5 : Kp a H4 H5 := Kp.of hH5
        have hR5 : H5 R = some (.lst xs) := by rw [hH5 R nR]; exact hR4
        have hA5 := hA3.imp fun _ _ h => h.tups ((Tups.kp hT3 k4).trans (Tups.kp hT4 k5))
        obtain ⟨A, x, y, C, exs, hAl⟩ := two_at xs p (by omega)
        have hle : A.length + (C.length + 2) ≤ 200 := by
          have := congrArg List.length exs
          rw [List.length_append, List.length_cons, List.length_cons] at this
          omega
        obtain ⟨us1, us2, eu, hA1, hA2⟩ := hA5.split exs
        obtain ⟨t1, us3, rfl, ht1, hA3'⟩ := Al.uncons hA2
        obtain ⟨t2, us4, rfl, ht2, hA4'⟩ := Al.uncons hA3'
        subst eu exs
        have gx : (A ++ x :: y :: C)[p]? = some x := by rw [← hAl, List.getElem?_append_right (Nat.le_refl _), Nat.sub_self]; rfl
        have gy : (A ++ x :: y :: C)[p + 1]? = some y := by rw [← hAl, List.getElem?_append_right (by omega), show A.length + 1 - A.length = 1 by omega]; rfl
        refine ⟨_, rfl, _, rfl, _, rfl, R, _, rfl, SqL.of hR5, fun S1 hS1 => ?_⟩
        rw [show cutV (A ++ x :: y :: C) none (some (p : Int)) = A by rw [cut_beg, ← hAl, List.take_left]]
        have e1 := same_new (o := .lst A) hS1
        have nS1 := tape_ne hT5 hS1
        refine ⟨_, rfl, _, rfl, _, rfl, R, _, _, x, rfl, rfl, SqL.of (e1 _ _ hR5), atI_nat (j := p) gx, _, rfl, _, rfl, _, _, rfl, rfl, R, _, _, y, rfl, rfl, SqL.of (e1 _ _ hR5), atI_nat (j := p + 1) gy, small (m := 3) (Nat.le_refl _), fun u hu => ?_⟩
        have e2 := same_new (o := .tup [vInt j, x, y]) hu
        refine ⟨small (m := 1) (Nat.le_refl _), fun S2 hS2 => ?_⟩
        have e3 := same_new (o := .lst [V.ref u]) hS2
        refine ⟨S1, S2, _, _, rfl, rfl, (e2.trans e3) _ _ upd_same, upd_same, below (m := 300) (by first | omega | (simp; omega)), fun S3 hS3 => ?_⟩
        have e4 := same_new (o := .lst (A ++ [V.ref u])) hS3
        have ee := e1.trans (e2.trans (e3.trans e4))
        refine ⟨_, rfl, _, rfl, _, _, rfl, rfl, _, rfl, R, _, rfl, SqL.of (ee _ _ hR5), fun S4 hS4 => ?_⟩
        rw [show cutV (A ++ x :: y :: C) (some ((p : Int) + 2)) none = C by
          rw [show ((p : Int) + 2) = ((p + 2 : Nat) : Int) by omega, cut_end _ (by rw [List.length_append, hAl]; simp), ← hAl]; simp]
        have e5 := same_new (o := .lst C) hS4
        have hz : (A ++ [V.ref u]).length + C.length ≤ 300 := by rw [List.length_append, List.length_singleton]; omega
        refine ⟨S3, S4, _, _, rfl, rfl, e5 _ _ upd_same, upd_same, small (m := 300) hz, fun R' hR' => ?_⟩
        have e6 := same_new (o := .lst (A ++ [V.ref u] ++ C)) hR'
        have eall := ee.trans (e5.trans e6)
        have hT6 := hT5.same eall
        have tt := Tups.of eall
        have k56 : Kp a H3 _ := k4.trans (k5.trans (kp_same eall))
        refine ⟨R', _, _, _, c5, A ++ [V.ref u] ++ C, us1 ++ [.join j t1 t2] ++ us4, rfl, k3.trans k56, hT6, tape_ne (hT5.same (ee.trans e5)) hR', upd_same, ?_, ?_, ?_⟩
        · exact ((hA1.imp fun _ _ h => h.tups tt).append (show Al (TmAt _) [V.ref u] [Tm.join j t1 t2] from ⟨⟨u, x, y, rfl, (e3.trans (e4.trans (e5.trans e6))) _ _ upd_same, ht1.tups tt, ht2.tups tt⟩, trivial⟩)).append (hA4'.imp fun _ _ h => h.tups tt)
        · exact hrow.merge (by omega)
        · simp at hlen ⊢
          omega
      · rintro σ H3 ⟨R, y5, y6, y7, c3, xs, us, rfl, k3, hT3, nR, hR3, hA3, hrow, hlen⟩
        have hl1 : us.length = 1 := by omega
        obtain ⟨t, rfl⟩ : ∃ t, us = [t] := by
          match us, hl1 with
          | [t], _ => exact ⟨t, rfl⟩
        obtain ⟨y, hy, hty⟩ := hA3.get2 (i := 0) (a := t) rfl
        refine ⟨_, rfl, R, _, _, y, rfl, rfl, SqL.of hR3, atI_nat (j := 0) hy, ?_⟩
        have e1 := hrow.h
        have e2 := hrow.l
        simp at e1 e2
        exact k H3 c3 y t k3 hT3 hty (hrow.g t (List.mem_cons_self ..)) (by omega) e2
end
end Fam

/-! The law's walk, and what it builds on it. -/
namespace Fam
open PySem L2 S5
open C8 (pss_cut tCut)
def postP : Tm → List Tm
  | .join j l r => postP l ++ postP r ++ [.join j l r]
  | t => [t]
theorem postP_len : ∀ t : Tm, (postP t).length = t.nodes
  | .hole => rfl
  | .leaf _ _ => rfl
  | .join j l r => by
    show (postP l ++ postP r ++ [Tm.join j l r]).length = l.nodes + r.nodes + 1
    rw [List.length_append, List.length_append, postP_len l, postP_len r]
    rfl
def rpostP (t : Tm) : List Tm := (postP t).reverse
theorem rpostP_join (j : Nat) (l r : Tm) : rpostP (.join j l r) = .join j l r :: (rpostP r ++ rpostP l) := by
  unfold rpostP
  show (postP l ++ postP r ++ [Tm.join j l r]).reverse = _
  rw [List.reverse_append, List.reverse_append]
  rfl
def spLWalk : Sp := fun vs H Q _ => ∃ (v : V) (t : Tm), vs = [v] ∧ TmAt H v t ∧ t.nodes ≤ 900 ∧ ∀ (H' : Hp) (p : Addr) (xs : List V), Same H H' → H p = none → H' p = some (.lst xs) → Al (TmAt H') xs (postP t) → Q (.ref p) H'
section
variable {P : Program} {w : World} {K : PySem.W.Frag} {mg : Str → Option Value} {base : Heap}
abbrev nWK : List Str := ["_law_term_here", "_law_open_parts", "_law_order", "_law_k", "_law_part_here"]
theorem scWK : FnScope nWK ["_law_term_here"] (defScope sLWalk) := ⟨rfl, rfl, rfl, by decide +kernel, rfl, by decide +kernel, by decide +kernel⟩
theorem ok_l_walk {f : Addr} {fd : FuncData} (F : Fun K "_law_walk" "_law_walk" sLWalk f fd) (T : Bare mg) : FnOk P w K mg base CX0 1 f fd ["_law_term_here"] spLWalk := by
  refine F.ok scWK (fun vs H Q E h => ?_) (fun cdv A outer s H vs Q E hr h => ?_)
  · obtain ⟨v, t, rfl, _⟩ := h
    rfl
  · obtain ⟨v, t, rfl, ht, hn, k⟩ := h
    refine ⟨_, (pss_cons (ps_set (i := 1) scWK.nd rfl (Or.inl rfl) (pe_lst (pa_cons (pv 0) pa_nil)))
      (pss_cons (ps_set (i := 2) scWK.nd rfl (Or.inl rfl) (pe_lst pa_nil))
      (pss_cons (ps_for PassesOwn.never rfl (pi_range1 rfl T.range (pa_cons pe_int pa_nil)) (pg_name (i := 3) scWK.nd rfl (Or.inl rfl))
          (pss_one (ps_if (pt_cmpR op_gt (pe_callB call_len_seq (by rfl) T.len PySem.boot_len (pa_cons (pv 1) pa_nil)) pe_int (nomark _)) (pss_cons (ps_set (i := 4) scWK.nd rfl (Or.inl rfl) (pe_bm0 PySem.F.plainAttrs_list PySem.F.slot_list_pop PySem.F.type_list_pop mt_pop (pv 1)))
              (pss_cons (ps_expr (pe_bm PySem.F.plainAttrs_list PySem.F.slot_list_append PySem.F.type_list_append mt_append (pv 2) (pa_cons (pv 4) pa_nil)))
              (pss_one (ps_if (PW.pt (pw_and (pt_cmpR op_notN (pv 4) pe_non (nomark _)) (pw_and1 (pt_cmpR op_eq (pe_callB call_len_seq (by rfl) T.len PySem.boot_len (pa_cons (pv 4) pa_nil)) pe_int (nomark _))))) (pss_cons (ps_expr (pe_bm PySem.F.plainAttrs_list PySem.F.slot_list_append PySem.F.type_list_append mt_append (pv 1) (pa_cons (pe_ix ix_tup (pv 4) pe_int (fun _ _ => rfl)) pa_nil)))
                  (pss_one (ps_expr (pe_bm PySem.F.plainAttrs_list PySem.F.slot_list_append PySem.F.type_list_append mt_append (pv 1) (pa_cons (pe_ix ix_tup (pv 4) pe_int (fun _ _ => rfl)) pa_nil))))) pss_nil)))) pss_nil)))
      (pss_cons (ps_expr (pe_bm0 PySem.F.plainAttrs_list PySem.F.slot_list_reverse PySem.F.type_list_reverse mt_reverse (pv 2)))
      (pss_one (ps_ret (pv 2))))))), ?_⟩
    refine ⟨_, rfl, small (m := 1) (Nat.le_refl _), fun D1 hD1 => ⟨small (m := 1) (Nat.zero_le _), fun D2 hD2 => ?_⟩⟩
    have s1 := same_new (o := .lst [v]) hD1
    have s2 := same_new (o := .lst []) hD2
    have n2 : H D2 = none := s1.free hD2
    have n12 : D1 ≠ D2 := (ne_of_none upd_same hD2)
    refine ⟨_, rfl, by decide, by decide, ?_⟩
    rw [show (900 : Int).toNat = 900 from rfl]
    refine for_range (lo := 0) (n := 900) (fun i σ H' => ∃ (y3 y4 : Option V) (fs ts : List V) (ss us : List Tm), σ = [some v, some (.ref D1), some (.ref D2), y3, y4] ∧ Same H H' ∧ H' D1 = some (.lst ts) ∧ H' D2 = some (.lst fs) ∧ Al (TmAt H') fs ss ∧ Al (TmAt H') ts us ∧ rpostP t = ss ++ (us.reverse.map rpostP).flatten ∧ ss.length + nodesL us = t.nodes ∧ (us = [] ∨ ss.length = i))
      ⟨none, none, [], [v], [], [t], rfl, s1.trans s2, s2 _ _ upd_same, upd_same, trivial, ⟨ht.same (s1.trans s2), trivial⟩, by simp, by simp [nodesL], .inr rfl⟩ ?_ ?_
    · rintro i σ H1 hi ⟨y3, y4, fs, ts, ss, us, rfl, sm, ht1, hf, hS, hT, hr, hle, hc⟩
      refine ⟨_, rfl, D1, ts, rfl, .inl (SqL.of ht1), _, _, rfl, rfl, _, rfl, ?_⟩
      rcases List.eq_nil_or_concat ts with rfl | ⟨ts', x, rfl⟩
      · have e : us = [] := by
          cases us with
          | nil => rfl
          | cons _ _ => exact hT.elim
        subst e
        exact iteF ⟨_, y4, fs, [], ss, [], rfl, sm, ht1, hf, hS, trivial, hr, hle, .inl rfl⟩
      rw [List.concat_eq_append] at ht1 hT ⊢
      obtain ⟨us', u, rfl, hT', hu⟩ := hT.snoc
      have hci : ss.length = i := by
        rcases hc with h | h
        · cases us' <;> cases h
        · exact h
      refine ite2 (fun _ => ?_) (fun z => absurd (by rw [List.length_append]; simp) z)
      refine ⟨_, rfl, .inl ⟨rfl, _, SqL.of ht1⟩, D1, _, _, rfl, rfl, ht1, last_of _ _, ?_⟩
      rw [List.dropLast_concat]
      obtain ⟨H2, eH2⟩ : ∃ H2, H2 = upd H1 D1 (.lst ts') := ⟨_, rfl⟩
      rw [← eH2]
      have tu : Tups H1 H2 := by rw [eH2]; exact Tups.upd ht1
      have sm2 : Same H H2 := by rw [eH2]; exact same_upd sm hD1
      have hf2 : H2 D2 = some (.lst fs) := by rw [eH2, upd_ne n12.symm]; exact hf
      have ht2 : H2 D1 = some (.lst ts') := by rw [eH2]; exact upd_same
      have er : (us' ++ [u]).reverse.map rpostP = rpostP u :: us'.reverse.map rpostP := by
        rw [List.reverse_append]
        rfl
      rw [er, List.flatten_cons] at hr
      rw [nodesL_snoc] at hle
      have lenf : fs.length + ts'.length ≤ 900 := by
        have h1 := hS.len
        have h2 := hT'.len
        have h3 := nodesL_len us'
        have h4 := nodes_pos u
        omega
      refine ⟨_, rfl, .inl ⟨rfl, _, SqL.of hf2⟩, _, rfl, D2, _, _, rfl, rfl, hf2, below (m := 200000) (by omega), ?_⟩
      obtain ⟨H3, eH3⟩ : ∃ H3, H3 = upd H2 D2 (.lst (fs ++ [x])) := ⟨_, rfl⟩
      rw [← eH3]
      have t3 : Tups H2 H3 := by rw [eH3]; exact Tups.upd hf2
      have t13 := tu.trans t3
      have sm3 : Same H H3 := by rw [eH3]; exact same_upd sm2 n2
      have hf3 : H3 D2 = some (.lst (fs ++ [x])) := by rw [eH3]; exact upd_same
      have ht3 : H3 D1 = some (.lst ts') := by rw [eH3, upd_ne n12]; exact ht2
      have hu3 := hu.tups t13
      have hS3 : Al (TmAt H3) (fs ++ [x]) (ss ++ [u]) := (hS.imp fun _ _ h => h.tups t13).append ⟨hu3, trivial⟩
      have hT3 := hT'.imp fun _ _ h => h.tups t13
      have hl3 : (ss ++ [u]).length = i + 1 := by rw [List.length_append, hci]; rfl
      have one : rpostP u = [u] → u.nodes = 1 → ∃ (y3 y4 : Option V) (fs' ts : List V) (ss us : List Tm), [some v, some (.ref D1), some (.ref D2), some (V.int (0 + (i : Int))), some x] = [some v, some (V.ref D1), some (.ref D2), y3, y4] ∧ Same H H3 ∧ H3 D1 = some (.lst ts) ∧ H3 D2 = some (.lst fs') ∧ Al (TmAt H3) fs' ss ∧ Al (TmAt H3) ts us ∧ rpostP t = ss ++ (us.reverse.map rpostP).flatten ∧ ss.length + nodesL us = t.nodes ∧ (us = [] ∨ ss.length = i + 1) := fun e1 e2 =>
        ⟨_, _, fs ++ [x], ts', ss ++ [u], us', rfl, sm3, ht3, hf3, hS3, hT3, by rw [hr, e1, List.append_assoc], by rw [hl3]; omega, .inr hl3⟩
      cases u with
      | hole =>
        have e : x = .non := hu3
        subst e
        exact ⟨_, rfl, rfl, _, rfl, iteF (iteF (one rfl rfl))⟩
      | leaf a bs =>
        obtain ⟨p, q, rfl, h1, h2⟩ := id hu3
        refine ⟨_, rfl, rfl, _, rfl, iteT ?_⟩
        exact ⟨_, rfl, p, _, rfl, .inr (SqT.of h1), rfl, _, rfl, iteF (one rfl rfl)⟩
      | join j l r =>
        obtain ⟨p, y, z, rfl, h1, h2, h3⟩ := id hu3
        refine ⟨_, rfl, rfl, _, rfl, iteT ?_⟩
        refine ⟨_, rfl, p, _, rfl, .inr (SqT.of h1), rfl, _, rfl, iteT ?_⟩
        refine ⟨_, rfl, .inl ⟨rfl, _, SqL.of ht3⟩, _, rfl, p, _, _, _, rfl, rfl, SqT.of h1, atI_nat (j := 1) rfl, D1, _, _, rfl, rfl, ht3, below (m := 200000) (by omega), ?_⟩
        obtain ⟨H4, eH4⟩ : ∃ H4, H4 = upd H3 D1 (.lst (ts' ++ [y])) := ⟨_, rfl⟩
        rw [← eH4]
        have t4 : Tups H3 H4 := by rw [eH4]; exact Tups.upd ht3
        have sm4 : Same H H4 := by rw [eH4]; exact same_upd sm3 hD1
        have hf4 : H4 D2 = some (.lst (fs ++ [.ref p])) := by rw [eH4, upd_ne n12.symm]; exact hf3
        have ht4 : H4 D1 = some (.lst (ts' ++ [y])) := by rw [eH4]; exact upd_same
        refine ⟨_, rfl, .inl ⟨rfl, _, SqL.of ht4⟩, _, rfl, p, _, _, _, rfl, rfl, SqT.of (t4 _ _ h1), atI_nat (j := 2) rfl, D1, _, _, rfl, rfl, ht4, ?_, ?_⟩
        · rw [List.length_append]
          show ts'.length + 1 < _
          exact below (m := 200000) (by omega)
        have t5 : Tups H4 (upd H4 D1 (.lst (ts' ++ [y] ++ [z]))) := Tups.upd ht4
        have t35 := t4.trans t5
        refine ⟨_, _, fs ++ [.ref p], ts' ++ [y] ++ [z], ss ++ [.join j l r], us' ++ [l] ++ [r], rfl, same_upd sm4 hD1, upd_same, ?_, hS3.imp fun _ _ h => h.tups t35, ?_, ?_, ?_, .inr hl3⟩
        · rw [upd_ne n12.symm]
          exact hf4
        · exact Al.append (ys := [z]) (bs := [r]) (Al.append (ys := [y]) (bs := [l]) (hT3.imp fun _ _ h => h.tups t35) ⟨h2.tups t35, trivial⟩) ⟨h3.tups t35, trivial⟩
        · rw [hr, rpostP_join, List.reverse_append, List.reverse_append]
          simp
        · rw [nodesL_snoc, nodesL_snoc, hl3]
          have : (Tm.join j l r).nodes = l.nodes + r.nodes + 1 := rfl
          omega
    · rintro σ H1 ⟨y3, y4, fs, ts, ss, us, rfl, sm, ht1, hf, hS, hT, hr, hle, hc⟩
      have eu : us = [] := by
        rcases hc with h | h
        · exact h
        · cases us with
          | nil => rfl
          | cons u us =>
            have h1 := nodes_pos u
            have h2 : nodesL (u :: us) = u.nodes + nodesL us := rfl
            omega
      subst eu
      refine ⟨_, rfl, .inl ⟨rfl, _, SqL.of hf⟩, D2, fs, rfl, rfl, hf, ?_⟩
      refine ⟨_, rfl, ?_⟩
      have t3 : Tups H1 (upd H1 D2 (.lst fs.reverse)) := Tups.upd hf
      refine k _ D2 fs.reverse (same_upd sm n2) n2 upd_same ?_
      have : postP t = ss.reverse := by
        have := congrArg List.reverse hr
        rw [show rpostP t = (postP t).reverse from rfl, List.reverse_reverse] at this
        rw [this]
        simp
      rw [this]
      exact (hS.imp fun _ _ h => h.tups t3).rev
end
end Fam

/-! Put, coloured and the leaves by the law's walk. -/
namespace Fam
open PySem L2 S5
open C8 (pss_cut tCut)
def mapT (f : Nat → Tm → Tm) : Tm → Nat → Tm × Nat
  | .join j l r, k => (.join j (mapT f l k).1 (mapT f r (mapT f l k).2).1, (mapT f r (mapT f l k).2).2)
  | .leaf a bs, k => (f k (.leaf a bs), k + 1)
  | .hole, k => (f k .hole, k)
def runP (f : Nat → Tm → Tm) : List Tm → List Tm → Nat → Option (List Tm)
  | [], st, _ => some st
  | .hole :: ss, st, k => runP f ss (f k .hole :: st) k
  | .leaf a bs :: ss, st, k => runP f ss (f k (.leaf a bs) :: st) (k + 1)
  | .join j _ _ :: ss, r :: l :: st, k => runP f ss (.join j l r :: st) k
  | .join _ _ _ :: _, _, _ => none
theorem runP_post (f : Nat → Tm → Tm) : ∀ (t : Tm) (ss st : List Tm) (k : Nat), runP f (postP t ++ ss) st k = runP f ss ((mapT f t k).1 :: st) (mapT f t k).2
  | .hole, ss, st, k => rfl
  | .leaf a bs, ss, st, k => rfl
  | .join j l r, ss, st, k => by
    show runP f (postP l ++ postP r ++ [Tm.join j l r] ++ ss) st k = _
    rw [List.append_assoc, List.append_assoc, runP_post f l, runP_post f r]
    rfl
theorem runP_all (f : Nat → Tm → Tm) (t : Tm) (k : Nat) : runP f (postP t) [] k = some [(mapT f t k).1] := by
  have := runP_post f t [] [] k
  rw [List.append_nil] at this
  exact this
def fPut (t : Tm) (_ : Nat) : Tm → Tm
  | .hole => t
  | u => u
theorem map_put (t : Tm) : ∀ (c : Tm) (k : Nat), (mapT (fPut t) c k).1 = putT c t
  | .hole, k => rfl
  | .leaf a bs, k => rfl
  | .join j l r, k => by
    show Tm.join j _ _ = Tm.join j _ _
    rw [map_put t l, map_put t r]
def fCol (rows : List (List Nat)) (k : Nat) : Tm → Tm
  | .leaf a _ => .leaf a (rows.map fun r => r.getD k 0)
  | u => u
def colT (rows : List (List Nat)) (t : Tm) : Tm := (mapT (fCol rows) t 0).1
theorem map_k (f : Nat → Tm → Tm) : ∀ (t : Tm) (k : Nat), (mapT f t k).2 = k + (leavesT t).length
  | .hole, k => rfl
  | .leaf a bs, k => rfl
  | .join j l r, k => by
    show (mapT f r (mapT f l k).2).2 = k + (leavesT l ++ leavesT r).length
    rw [map_k f r, map_k f l, List.length_append]
    omega
/-- a row of numbers in a list -/
def RowAt (H : Hp) (v : V) (l : List Nat) : Prop := ∃ p, v = .ref p ∧ H p = some (.lst (l.map vInt))
theorem RowAt.same {H H' : Hp} (s : Same H H') {v : V} {l : List Nat} (h : RowAt H v l) : RowAt H' v l := by
  obtain ⟨p, e, h⟩ := h
  exact ⟨p, e, s _ _ h⟩
def leafL : Tm → List (Nat × List Nat)
  | .leaf a bs => [(a, bs)]
  | _ => []
theorem leafL_post : ∀ t : Tm, ((postP t).map leafL).flatten = leavesT t
  | .hole => rfl
  | .leaf a bs => rfl
  | .join j l r => by
    show ((postP l ++ postP r ++ [Tm.join j l r]).map leafL).flatten = leavesT l ++ leavesT r
    rw [List.map_append, List.map_append, List.flatten_append, List.flatten_append, leafL_post l, leafL_post r]
    show leavesT l ++ leavesT r ++ [] = _
    rw [List.append_nil]
/-- whole terms have no hole in the walk -/
theorem post_whole : ∀ t : Tm, holesM t = 0 → ∀ s ∈ postP t, s ≠ .hole
  | .hole, h, _, _ => by cases h
  | .leaf a bs, _, s, hs => by rw [List.mem_singleton.mp hs]; intro z; cases z
  | .join j l r, h, s, hs => by
    have h' : holesM l + holesM r = 0 := h
    rcases List.mem_append.mp hs with hs | hs
    · rcases List.mem_append.mp hs with hs | hs
      · exact post_whole l (by omega) s hs
      · exact post_whole r (by omega) s hs
    · rw [List.mem_singleton.mp hs]
      intro z
      cases z
def spLPut : Sp := fun vs H Q _ => ∃ (v u : V) (t t2 : Tm), vs = [v, u] ∧ TmAt H v t ∧ TmAt H u t2 ∧ t.nodes ≤ 900 ∧ ∀ (H' : Hp) (x : V), Same H H' → TmAt H' x (putT t t2) → Q x H'
def spLColoured : Sp := fun vs H Q _ => ∃ (v : V) (r : Addr) (t : Tm) (rv : List V) (rows : List (List Nat)), vs = [v, .ref r] ∧ TmAt H v t ∧ t.nodes ≤ 900 ∧ holesM t = 0 ∧ H r = some (.lst rv) ∧ Al (RowAt H) rv rows ∧ rows.length ≤ 100 ∧ (∀ l ∈ rows, (leavesT t).length ≤ l.length) ∧
  ∀ (H' : Hp) (x : V), Same H H' → TmAt H' x (colT rows t) → Q x H'
def spLLeaves : Sp := fun vs H Q _ => ∃ (v : V) (t : Tm), vs = [v] ∧ TmAt H v t ∧ t.nodes ≤ 900 ∧ ∀ (H' : Hp) (p : Addr) (xs : List V), Same H H' → H p = none → H' p = some (.lst xs) → Al (LeafAt H') xs (leavesT t) → Q (.ref p) H'
section
variable {P : Program} {w : World} {K : PySem.W.Frag} {mg : Str → Option Value} {base : Heap}
abbrev nLP0 : List Str := ["_law_context_here", "_law_term_here", "_law_done", "_law_part_here", "_law_right", "_law_left"]
theorem scLP0 : FnScope nLP0 ["_law_context_here", "_law_term_here"] (defScope sLPut) := ⟨rfl, rfl, rfl, by decide +kernel, rfl, by decide +kernel, by decide +kernel⟩
theorem ok_l_put {f : Addr} {fd : FuncData} (F : Fun K "_law_put" "_law_put" sLPut f fd) (T : Bare mg) (GW : Cal P w K mg base 1 "_law_walk" ["_law_term_here"] spLWalk) : FnOk P w K mg base CX0 2 f fd ["_law_context_here", "_law_term_here"] spLPut := by
  obtain ⟨_, _, ok_wk, b_wk, k_wk, m_wk⟩ := GW.ex
  refine F.ok scLP0 (fun vs H Q E h => ?_) (fun cdv A outer s H vs Q E hr h => ?_)
  · obtain ⟨v, u, t, t2, rfl, _⟩ := h
    rfl
  · obtain ⟨v, u, t, t2, rfl, ht, hu, hn, k⟩ := h
    have hr_wk := hr
    refine ⟨_, (pss_cons (ps_set (i := 2) scLP0.nd rfl (Or.inl rfl) (pe_lst pa_nil))
      (pss_cons (ps_for PassesOwn.never rfl (pi_list (pe_call ok_wk hr_wk rfl m_wk k_wk b_wk .nil pass0 (pa_cons (pv 0) pa_nil))) (pg_name (i := 3) scLP0.nd rfl (Or.inl rfl))
          (pss_one (ps_if (pt_cmpR op_isN (pv 3) pe_non (nomark _)) (pss_one (ps_expr (pe_bm PySem.F.plainAttrs_list PySem.F.slot_list_append PySem.F.type_list_append mt_append (pv 2) (pa_cons (pv 1) pa_nil)))) (pss_one (ps_if (pt_cmpR op_eq (pe_callB call_len_seq (by rfl) T.len PySem.boot_len (pa_cons (pv 3) pa_nil)) pe_int (nomark _)) (pss_one (ps_expr (pe_bm PySem.F.plainAttrs_list PySem.F.slot_list_append PySem.F.type_list_append mt_append (pv 2) (pa_cons (pv 3) pa_nil)))) (pss_cons (ps_set (i := 4) scLP0.nd rfl (Or.inl rfl) (pe_bm0 PySem.F.plainAttrs_list PySem.F.slot_list_pop PySem.F.type_list_pop mt_pop (pv 2)))
                  (pss_cons (ps_set (i := 5) scLP0.nd rfl (Or.inl rfl) (pe_bm0 PySem.F.plainAttrs_list PySem.F.slot_list_pop PySem.F.type_list_pop mt_pop (pv 2)))
                  (pss_one (ps_expr (pe_bm PySem.F.plainAttrs_list PySem.F.slot_list_append PySem.F.type_list_append mt_append (pv 2) (pa_cons (pe_tup (pa_cons (pe_ix ix_tup (pv 3) pe_int (fun _ _ => rfl)) (pa_cons (pv 5) (pa_cons (pv 4) pa_nil)))) pa_nil)))))))))))
      (pss_one (ps_ret (pe_ix ix_list (pv 2) pe_int (fun _ _ => rfl)))))), ?_⟩
    refine ⟨small (m := 1) (Nat.zero_le _), fun D hD => ⟨_, rfl, ?_⟩⟩
    have s1 := same_new (o := .lst []) hD
    refine ⟨v, t, rfl, ht.same s1, hn, fun H0 p0 xs s2 hp0 hxs hS => ⟨p0, rfl, ⟨_, SqL.of hxs⟩, ?_⟩⟩
    have np0 : p0 ≠ D := fun e => by rw [e, upd_same] at hp0; cases hp0
    have fp0 : H p0 = none := s1.free hp0
    refine for_list (xs := xs) (fun i σ H' => ∃ (y3 y4 y5 : Option V) (ys : List V) (st : List Tm) (n : Nat), σ = [some v, some u, some (.ref D), y3, y4, y5] ∧ Same H H' ∧ Tups H0 H' ∧ H' p0 = some (.lst xs) ∧ H' D = some (.lst ys) ∧ Al (TmAt H') ys st.reverse ∧ runP (fPut t2) ((postP t).drop i) st n = some [(mapT (fPut t2) t 0).1] ∧ st.length ≤ i)
      ⟨none, none, none, [], [], 0, rfl, s1.trans s2, Tups.refl _, hxs, s2 _ _ upd_same, trivial, runP_all _ _ _, Nat.le_refl _⟩ ?_ ?_ ?_
    · rintro i σ H1 hi ⟨y3, y4, y5, ys, st, n, rfl, sm, t01, hp1, _⟩
      exact SqL.of hp1
    · rintro i x σ H1 hx ⟨y3, y4, y5, ys, st, n, rfl, sm, t01, hp1, hy, hst, hrn, hle⟩
      obtain ⟨sp, hsp, hxs1⟩ := hS.get hx
      have hx1 := hxs1.tups t01
      have hi : i < xs.length := by
        rcases Nat.lt_or_ge i xs.length with q | q
        · exact q
        · rw [List.getElem?_eq_none q] at hx
          cases hx
      have ed : (postP t).drop i = sp :: (postP t).drop (i + 1) := by
        have hi2 : i < (postP t).length := by rw [← hS.len]; exact hi
        rw [List.drop_eq_getElem_cons hi2]
        rw [List.getElem?_eq_getElem hi2] at hsp
        rw [Option.some.inj hsp]
      rw [ed] at hrn
      have hys := hst.len
      rw [List.length_reverse] at hys
      have hil : i < 900 := by
        have := hS.len
        rw [postP_len] at this
        omega
      have push : ∀ (w : V) (tm : Tm) (n' : Nat), TmAt H1 w tm → runP (fPut t2) ((postP t).drop (i + 1)) (tm :: st) n' = some [(mapT (fPut t2) t 0).1] → ∃ (y3' y4' y5' : Option V) (ys' : List V) (st : List Tm) (n : Nat), [some v, some u, some (.ref D), some x, y4, y5] = [some v, some u, some (V.ref D), y3', y4', y5'] ∧ Same H (upd H1 D (.lst (ys ++ [w]))) ∧ Tups H0 (upd H1 D (.lst (ys ++ [w]))) ∧ (upd H1 D (.lst (ys ++ [w]))) p0 = some (.lst xs) ∧ (upd H1 D (.lst (ys ++ [w]))) D = some (.lst ys') ∧ Al (TmAt (upd H1 D (.lst (ys ++ [w])))) ys' st.reverse ∧ runP (fPut t2) ((postP t).drop (i + 1)) st n = some [(mapT (fPut t2) t 0).1] ∧ st.length ≤ i + 1 := fun w tm n' h1 h2 => by
        have tu : Tups H1 (upd H1 D (.lst (ys ++ [w]))) := Tups.upd hy
        refine ⟨_, _, _, ys ++ [w], tm :: st, n', rfl, same_upd sm hD, t01.trans tu, by rw [upd_ne np0]; exact hp1, upd_same, ?_, h2, by rw [List.length_cons]; omega⟩
        rw [List.reverse_cons]
        exact (hst.imp fun _ _ h => h.tups tu).append ⟨h1.tups tu, trivial⟩
      cases sp with
      | hole =>
        have e : x = .non := hx1
        subst e
        refine ⟨_, rfl, rfl, _, rfl, iteT ?_⟩
        exact ⟨_, rfl, .inl ⟨rfl, _, SqL.of hy⟩, _, rfl, D, _, _, rfl, rfl, hy, below (m := 200000) (by omega), push u t2 n (hu.same sm) hrn⟩
      | leaf a bs =>
        obtain ⟨p, q, rfl, h1, h2⟩ := id hx1
        refine ⟨_, rfl, rfl, _, rfl, iteF ?_⟩
        refine ⟨_, rfl, p, _, rfl, .inr (SqT.of h1), rfl, _, rfl, iteT ?_⟩
        exact ⟨_, rfl, .inl ⟨rfl, _, SqL.of hy⟩, _, rfl, D, _, _, rfl, rfl, hy, below (m := 200000) (by omega), push _ _ (n + 1) hx1 hrn⟩
      | join j l0 r0 =>
        match st, hst, hrn, hle, hys with
        | [], _, hrn, _, _ => cases hrn
        | [_], _, hrn, _, _ => cases hrn
        | r :: l :: st, hst, hrn, hle, hys =>
          rw [List.reverse_cons] at hst
          obtain ⟨ys1, vr, rfl, hst1, hvr⟩ := hst.snoc2
          rw [List.reverse_cons] at hst1
          obtain ⟨ys2, vl, rfl, hst2, hvl⟩ := hst1.snoc2
          obtain ⟨p, y0, z0, rfl, h1, h2, h3⟩ := id hx1
          refine ⟨_, rfl, rfl, _, rfl, iteF ?_⟩
          refine ⟨_, rfl, p, _, rfl, .inr (SqT.of h1), rfl, _, rfl, iteF ?_⟩
          refine ⟨_, rfl, .inl ⟨rfl, _, SqL.of hy⟩, D, _, _, rfl, rfl, hy, last_of _ _, ?_⟩
          rw [List.dropLast_concat]
          obtain ⟨H2, eH2⟩ : ∃ H2, H2 = upd H1 D (.lst (ys2 ++ [vl])) := ⟨_, rfl⟩
          rw [← eH2]
          have t2 : Tups H1 H2 := by rw [eH2]; exact Tups.upd hy
          have sm2 : Same H H2 := by rw [eH2]; exact same_upd sm hD
          have hy2 : H2 D = some (.lst (ys2 ++ [vl])) := by rw [eH2]; exact upd_same
          refine ⟨_, rfl, .inl ⟨rfl, _, SqL.of hy2⟩, D, _, _, rfl, rfl, hy2, last_of _ _, ?_⟩
          rw [List.dropLast_concat]
          obtain ⟨H3, eH3⟩ : ∃ H3, H3 = upd H2 D (.lst ys2) := ⟨_, rfl⟩
          rw [← eH3]
          have t3 : Tups H2 H3 := by rw [eH3]; exact Tups.upd hy2
          have sm3 : Same H H3 := by rw [eH3]; exact same_upd sm2 hD
          have hy3 : H3 D = some (.lst ys2) := by rw [eH3]; exact upd_same
          refine ⟨_, rfl, .inl ⟨rfl, _, SqL.of hy3⟩, _, rfl, p, _, _, _, rfl, rfl, SqT.of ((t2.trans t3) _ _ h1), atI_nat (j := 0) rfl, _, rfl, _, rfl, small (m := 3) (Nat.le_refl _), fun q hq => ?_⟩
          have s4 := same_new (o := .tup [vInt j, vl, vr]) hq
          have hy4 := s4 _ _ hy3
          have t14 := t2.trans (t3.trans (Tups.of s4))
          refine ⟨D, _, _, rfl, rfl, hy4, below (m := 200000) (by have := hst2.len; rw [List.length_reverse] at this; simp at hle; omega), ?_⟩
          have t5 : Tups (upd H3 q (.tup [vInt j, vl, vr])) (upd (upd H3 q (.tup [vInt j, vl, vr])) D (.lst (ys2 ++ [.ref q]))) := Tups.upd hy4
          have t15 := t14.trans t5
          refine ⟨_, _, _, ys2 ++ [.ref q], .join j l r :: st, n, rfl, same_upd (sm3.trans s4) hD, t01.trans t15, ?_, upd_same, ?_, hrn, by simp at hle ⊢; omega⟩
          · rw [upd_ne np0]
            refine s4 _ _ ?_
            rw [eH3, upd_ne np0, eH2, upd_ne np0]
            exact hp1
          rw [List.reverse_cons]
          refine (hst2.imp fun _ _ h => h.tups t15).append ⟨⟨q, vl, vr, rfl, ?_, hvl.tups t15, hvr.tups t15⟩, trivial⟩
          exact t5 _ _ upd_same
    · rintro σ H1 ⟨y3, y4, y5, ys, st, n, rfl, sm, t01, hp1, hy, hst, hrn, hle⟩
      rw [hS.len, List.drop_length] at hrn
      have e : st = [(mapT (fPut t2) t 0).1] := Option.some.inj hrn
      subst e
      obtain ⟨y, hy0, hyt⟩ := hst.get2 (i := 0) rfl
      rw [map_put] at hyt
      exact ⟨_, rfl, D, _, _, y, rfl, rfl, SqL.of hy, atI_nat (j := 0) hy0, k H1 y sm hyt⟩
abbrev nLE0 : List Str := ["_law_term_here", "_law_part_here"]
theorem scLE0 : FnScope nLE0 ["_law_term_here"] (defScope sLLeaves) := ⟨rfl, rfl, rfl, by decide +kernel, rfl, by decide +kernel, by decide +kernel⟩
theorem ok_l_leaves {f : Addr} {fd : FuncData} (F : Fun K "_law_leaves" "_law_leaves" sLLeaves f fd) (T : Bare mg) (GW : Cal P w K mg base 1 "_law_walk" ["_law_term_here"] spLWalk) : FnOk P w K mg base CX0 2 f fd ["_law_term_here"] spLLeaves := by
  obtain ⟨_, _, ok_wk, b_wk, k_wk, m_wk⟩ := GW.ex
  refine F.ok scLE0 (fun vs H Q E h => ?_) (fun cdv A outer s H vs Q E hr h => ?_)
  · obtain ⟨v, t, rfl, _⟩ := h
    rfl
  · obtain ⟨v, t, rfl, ht, hn, k⟩ := h
    have hr_wk := hr
    refine ⟨_, (pss_one (ps_ret (pe_lc (own := [("_law_part_here", 1)]) (g := gName 1) rfl scLE0.nd (pi_list (pe_call ok_wk hr_wk rfl m_wk k_wk b_wk .nil pass0 (pa_cons (pv 0) pa_nil))) (blkOk_by (own := [("_law_part_here", 1)]) (N := nLE0) (sc := defScope sLLeaves) (by decide +kernel)) (fun _ _ _ _ _ => pg_name (i := 1) scLE0.nd rfl (Or.inl rfl)) (fun _ _ _ _ _ => pts_one (PW.pt (pw_and (pt_cmpR op_notN (pv 1) pe_non (nomark _)) (pw_and1 (pt_cmpR op_eq (pe_callB (call_len_seq : CallR _ (.builtin "len") (rLenS K)) (by rfl) T.len PySem.boot_len (pa_cons (pv 1) pa_nil)) pe_int (nomark _)))))) (fun _ _ _ _ _ => pv 1)))), ?_⟩
    refine ⟨_, rfl, v, t, rfl, ht, hn, fun H1 p xs s1 hp hxs hS => ⟨p, rfl, ⟨_, SqL.of hxs⟩, fun D hD => ?_⟩⟩
    have hl : xs.length ≤ 900 := by rw [hS.len, postP_len]; exact hn
    refine lc_list (K := K) (a := p) (xs := xs) (fun i H' => Same H1 H' ∧ ∃ ys, H' D = some (.lst ys) ∧ Al (LeafAt H1) ys (((postP t).take i).map leafL).flatten ∧ ys.length ≤ i) ⟨same_new hD, [], upd_same, trivial, Nat.le_refl _⟩ (fun i H' _ h => SqL.of (h.1 _ _ hxs)) ?_ ?_
    · rintro i x H2 hx ⟨sm, ys, hy, hA, hle⟩
      obtain ⟨sp, hsp, hxs1⟩ := hS.get hx
      have hi : i < (postP t).length := by
        rcases Nat.lt_or_ge i (postP t).length with q | q
        · exact q
        · rw [List.getElem?_eq_none q] at hsp
          cases hsp
      have hil : i < 900 := by rw [postP_len] at hi; omega
      have esp : (postP t)[i] = sp := by rw [List.getElem?_eq_getElem hi] at hsp; exact Option.some.inj hsp
      have et : (((postP t).take (i + 1)).map leafL).flatten = (((postP t).take i).map leafL).flatten ++ leafL sp := by
        rw [take_more hi, List.map_append, List.flatten_append, esp]
        simp
      rw [et]
      have no : leafL sp = [] → (Same H1 H2 ∧ ∃ ys, H2 D = some (.lst ys) ∧ Al (LeafAt H1) ys ((((postP t).take i).map leafL).flatten ++ leafL sp) ∧ ys.length ≤ i + 1) := fun h0 => ⟨sm, ys, hy, by rw [h0, List.append_nil]; exact hA, by omega⟩
      cases sp with
      | hole =>
        have e : x = .non := hxs1
        subst e
        exact ⟨rfl, _, rfl, rfl, _, rfl, iteF (iteF (no rfl))⟩
      | join j l r =>
        obtain ⟨q, y, z, rfl, h1, h2, h3⟩ := id hxs1
        exact ⟨rfl, _, rfl, rfl, _, rfl, iteT ⟨_, rfl, q, _, rfl, .inr (SqT.of (sm _ _ h1)), rfl, _, rfl, iteF (no rfl)⟩⟩
      | leaf a bs =>
        obtain ⟨q, q2, rfl, h1, h2⟩ := id hxs1
        refine ⟨rfl, _, rfl, rfl, _, rfl, iteT ⟨_, rfl, q, _, rfl, .inr (SqT.of (sm _ _ h1)), rfl, _, rfl, iteT ⟨_, rfl, _, hy, below (m := 200000) (by omega), same_upd sm hD, _, upd_same, ?_, ?_⟩⟩⟩
        · exact Al.append (ys := [.ref q]) (bs := [(a, bs)]) hA ⟨⟨q, q2, rfl, h1, h2⟩, trivial⟩
        · rw [List.length_append]
          show ys.length + 1 ≤ _
          omega
    rintro H2 ⟨sm, ys, hy, hA, _⟩
    rw [hS.len, List.take_length, leafL_post] at hA
    exact k H2 D ys (s1.trans sm) (s1.free hD) hy (hA.imp fun _ _ h => TmAt.same sm h)
abbrev nCD0 : List Str := ["_law_term_here", "_law_rows", "_law_done", "_law_place", "_law_part_here", "_law_right", "_law_left", "_law_row"]
theorem scCD0 : FnScope nCD0 ["_law_term_here", "_law_rows"] (defScope sLColoured) := ⟨rfl, rfl, rfl, by decide +kernel, rfl, by decide +kernel, by decide +kernel⟩
theorem ok_l_coloured {f : Addr} {fd : FuncData} (F : Fun K "_law_coloured" "_law_coloured" sLColoured f fd) (T : Bare mg) (GW : Cal P w K mg base 1 "_law_walk" ["_law_term_here"] spLWalk) : FnOk P w K mg base CX0 2 f fd ["_law_term_here", "_law_rows"] spLColoured := by
  obtain ⟨_, _, ok_wk, b_wk, k_wk, m_wk⟩ := GW.ex
  refine F.ok scCD0 (fun vs H Q E h => ?_) (fun cdv A outer s H vs Q E hr h => ?_)
  · obtain ⟨v, r, t, rv, rows, rfl, _⟩ := h
    rfl
  · obtain ⟨v, rp, t, rv, rows, rfl, ht, hn, hwh, hrp, hRA, hrl, hrows, k⟩ := h
    have hr_wk := hr
    refine ⟨_, (pss_cons (ps_set (i := 2) scCD0.nd rfl (Or.inl rfl) (pe_lst pa_nil))
      (pss_cons (ps_set (i := 3) scCD0.nd rfl (Or.inr rfl) pe_int)
      (pss_cons (ps_for PassesOwn.never rfl (pi_list (pe_call ok_wk hr_wk rfl m_wk k_wk b_wk .nil pass0 (pa_cons (pv 0) pa_nil))) (pg_name (i := 4) scCD0.nd rfl (Or.inl rfl))
          (pss_one (ps_if (pt_cmpR op_eq (pe_callB call_len_seq (by rfl) T.len PySem.boot_len (pa_cons (pv 4) pa_nil)) pe_int (nomark _)) (pss_cons (ps_expr (pe_bm PySem.F.plainAttrs_list PySem.F.slot_list_append PySem.F.type_list_append mt_append (pv 2) (pa_cons (pe_tup (pa_cons (pe_ix ix_tup (pv 4) pe_int (fun _ _ => rfl)) (pa_cons (pe_tupleOf (by rfl) T.tuple (pe_lc (own := [("_law_row", 7)]) (g := gName 7) (tt := tYes) rfl scCD0.nd (pi_list (pv 1)) (blkOk_by (own := [("_law_row", 7)]) (N := nCD0) (sc := defScope sLColoured) (by decide +kernel)) (fun _ _ _ _ _ => pg_name (i := 7) scCD0.nd rfl (Or.inl rfl)) (fun _ _ _ _ _ => pts_nil) (fun _ _ _ _ _ => pe_ix (ix_list : IxR _ (rIxL K)) (pv 7) (pv 3) (fun _ _ => rfl)))) pa_nil))) pa_nil)))
              (pss_one (ps_aug (i := 3) scCD0.nd rfl (Or.inr rfl) pe_int ip_add))) (pss_cons (ps_set (i := 5) scCD0.nd rfl (Or.inl rfl) (pe_bm0 PySem.F.plainAttrs_list PySem.F.slot_list_pop PySem.F.type_list_pop mt_pop (pv 2)))
              (pss_cons (ps_set (i := 6) scCD0.nd rfl (Or.inl rfl) (pe_bm0 PySem.F.plainAttrs_list PySem.F.slot_list_pop PySem.F.type_list_pop mt_pop (pv 2)))
              (pss_one (ps_expr (pe_bm PySem.F.plainAttrs_list PySem.F.slot_list_append PySem.F.type_list_append mt_append (pv 2) (pa_cons (pe_tup (pa_cons (pe_ix ix_tup (pv 4) pe_int (fun _ _ => rfl)) (pa_cons (pv 6) (pa_cons (pv 5) pa_nil)))) pa_nil)))))))))
      (pss_one (ps_ret (pe_ix ix_list (pv 2) pe_int (fun _ _ => rfl))))))), ?_⟩
    refine ⟨small (m := 1) (Nat.zero_le _), fun D hD => ⟨_, rfl, ?_⟩⟩
    have s1 := same_new (o := .lst []) hD
    refine ⟨v, t, rfl, ht.same s1, hn, fun H0 p0 xs s2 hp0 hxs hS => ⟨p0, rfl, ⟨_, SqL.of hxs⟩, ?_⟩⟩
    have np0 : p0 ≠ D := fun e => by rw [e, upd_same] at hp0; cases hp0
    have fp0 : H p0 = none := s1.free hp0
    refine for_list (xs := xs) (fun i σ H' => ∃ (y4 y5 y6 : Option V) (ys : List V) (st : List Tm) (n : Nat), σ = [some v, some (.ref rp), some (.ref D), some (vInt n), y4, y5, y6, none] ∧ Same H H' ∧ Tups H0 H' ∧ H' p0 = some (.lst xs) ∧ H' D = some (.lst ys) ∧ Al (TmAt H') ys st.reverse ∧ runP (fCol rows) ((postP t).drop i) st n = some [(mapT (fCol rows) t 0).1] ∧ st.length ≤ i ∧ n + (((postP t).drop i).map leafL).flatten.length = (leavesT t).length)
      ⟨none, none, none, [], [], 0, rfl, s1.trans s2, Tups.refl _, hxs, s2 _ _ upd_same, trivial, runP_all _ _ _, Nat.le_refl _, by rw [List.drop_zero, leafL_post, Nat.zero_add]⟩ ?_ ?_ ?_
    · rintro i σ H1 hi ⟨y4, y5, y6, ys, st, n, rfl, sm, t01, hp1, _⟩
      exact SqL.of hp1
    · rintro i x σ H1 hx ⟨y4, y5, y6, ys, st, n, rfl, sm, t01, hp1, hy, hst, hrn, hle, hcn⟩
      obtain ⟨sp, hsp, hxs1⟩ := hS.get hx
      have hx1 := hxs1.tups t01
      have hi : i < xs.length := by
        rcases Nat.lt_or_ge i xs.length with q | q
        · exact q
        · rw [List.getElem?_eq_none q] at hx
          cases hx
      have ed : (postP t).drop i = sp :: (postP t).drop (i + 1) := by
        have hi2 : i < (postP t).length := by rw [← hS.len]; exact hi
        rw [List.drop_eq_getElem_cons hi2]
        rw [List.getElem?_eq_getElem hi2] at hsp
        rw [Option.some.inj hsp]
      rw [ed] at hrn
      have hys := hst.len
      rw [List.length_reverse] at hys
      rw [ed, List.map_cons, List.flatten_cons, List.length_append] at hcn
      have hil : i < 900 := by
        have := hS.len
        rw [postP_len] at this
        omega
      have hmem : sp ∈ postP t := List.mem_of_getElem? hsp
      cases sp with
      | hole => exact absurd rfl (post_whole t hwh _ hmem)
      | leaf a bs =>
        obtain ⟨p, q, rfl, h1, h2⟩ := id hx1
        have hcn' : n + 1 + (((postP t).drop (i + 1)).map leafL).flatten.length = (leavesT t).length := by
          have : (leafL (Tm.leaf a bs)).length = 1 := rfl
          omega
        refine ⟨_, rfl, p, _, rfl, .inr (SqT.of h1), rfl, _, rfl, iteT ?_⟩
        refine ⟨_, rfl, .inl ⟨rfl, _, SqL.of hy⟩, _, rfl, p, _, _, _, rfl, rfl, SqT.of h1, atI_nat (j := 0) rfl, _, rfl, rp, rfl, ⟨_, SqL.of (sm _ _ hrp)⟩, fun D2 hD2 => ?_⟩
        have nD2 : D ≠ D2 := ne_of_none hy hD2
        refine lc_list (K := K) (a := rp) (xs := rv) (fun i H' => Same H1 H' ∧ H' D2 = some (.lst ((rows.take i).map fun r => vInt (r.getD n 0)))) ⟨same_new hD2, upd_same⟩ (fun i H' _ h => SqL.of (h.1 _ _ (sm _ _ hrp))) ?_ ?_
        · rintro i2 x2 H2 hx2 ⟨sm2, hd2⟩
          obtain ⟨row, hrow, pr, rfl, hpr⟩ := hRA.get hx2
          have hil2 : i2 < rows.length := (List.getElem?_eq_some_iff.mp hrow).1
          have hgr : rows[i2] = row := (List.getElem?_eq_some_iff.mp hrow).2
          have hnl : n < row.length := by
            have := hrows row (List.mem_of_getElem? hrow)
            omega
          refine ⟨rfl, _, rfl, _, rfl, pr, _, _, vInt (row.getD n 0), rfl, rfl, SqL.of (sm2 _ _ (sm _ _ hpr)), atI_nat (j := n) (by rw [List.getElem?_map, List.getElem?_eq_getElem hnl, List.getD_eq_getElem?_getD, List.getElem?_eq_getElem hnl]; rfl), _, hd2, below (m := 200) (by rw [List.length_map, List.length_take]; omega), same_upd sm2 hD2, ?_⟩
          rw [upd_same, take_more hil2, List.map_append, hgr]
          rfl
        rintro H2 ⟨sm2, hd2⟩
        rw [hRA.len, List.take_length] at hd2
        refine .inl ⟨D2, _, rfl, SqL.of hd2, fun q3 hq3 => ⟨small (m := 2) (Nat.le_refl _), fun q4 hq4 => ?_⟩⟩
        have e3 := same_new (o := .tup (rows.map fun r => vInt (r.getD n 0))) hq3
        have e4 := same_new (o := .tup [vInt a, V.ref q3]) hq4
        have s14 := sm2.trans (e3.trans e4)
        have hy4 := s14 _ _ hy
        refine ⟨D, _, _, rfl, rfl, hy4, below (m := 200000) (by omega), ?_⟩
        refine ⟨_, rfl, _, _, rfl, rfl, ?_⟩
        have tu := (Tups.of s14).trans (Tups.upd (o := .lst (ys ++ [.ref q4])) hy4)
        refine ⟨_, _, _, ys ++ [.ref q4], .leaf a (rows.map fun r => r.getD n 0) :: st, n + 1, rfl, same_upd (sm.trans s14) hD, t01.trans tu, by rw [upd_ne np0]; exact s14 _ _ hp1, upd_same, ?_, hrn, by rw [List.length_cons]; omega, hcn'⟩
        rw [List.reverse_cons]
        refine (hst.imp fun _ _ h => h.tups tu).append ⟨⟨q4, q3, rfl, Tups.upd hy4 _ _ upd_same, ?_⟩, trivial⟩
        have := Tups.upd (o := .lst (ys ++ [.ref q4])) hy4 _ _ (e4 _ _ (upd_same (H := H2) (a := q3)))
        rw [List.map_map]
        exact this
      | join j l0 r0 =>
        match st, hst, hrn, hle, hys with
        | [], _, hrn, _, _ => cases hrn
        | [_], _, hrn, _, _ => cases hrn
        | r :: l :: st, hst, hrn, hle, hys =>
          rw [List.reverse_cons] at hst
          obtain ⟨ys1, vr, rfl, hst1, hvr⟩ := hst.snoc2
          rw [List.reverse_cons] at hst1
          obtain ⟨ys2, vl, rfl, hst2, hvl⟩ := hst1.snoc2
          obtain ⟨p, y0, z0, rfl, h1, h2, h3⟩ := id hx1
          refine ⟨_, rfl, p, _, rfl, .inr (SqT.of h1), rfl, _, rfl, iteF ?_⟩
          refine ⟨_, rfl, .inl ⟨rfl, _, SqL.of hy⟩, D, _, _, rfl, rfl, hy, last_of _ _, ?_⟩
          rw [List.dropLast_concat]
          obtain ⟨H2, eH2⟩ : ∃ H2, H2 = upd H1 D (.lst (ys2 ++ [vl])) := ⟨_, rfl⟩
          rw [← eH2]
          have t2 : Tups H1 H2 := by rw [eH2]; exact Tups.upd hy
          have sm2 : Same H H2 := by rw [eH2]; exact same_upd sm hD
          have hy2 : H2 D = some (.lst (ys2 ++ [vl])) := by rw [eH2]; exact upd_same
          refine ⟨_, rfl, .inl ⟨rfl, _, SqL.of hy2⟩, D, _, _, rfl, rfl, hy2, last_of _ _, ?_⟩
          rw [List.dropLast_concat]
          obtain ⟨H3, eH3⟩ : ∃ H3, H3 = upd H2 D (.lst ys2) := ⟨_, rfl⟩
          rw [← eH3]
          have t3 : Tups H2 H3 := by rw [eH3]; exact Tups.upd hy2
          have sm3 : Same H H3 := by rw [eH3]; exact same_upd sm2 hD
          have hy3 : H3 D = some (.lst ys2) := by rw [eH3]; exact upd_same
          refine ⟨_, rfl, .inl ⟨rfl, _, SqL.of hy3⟩, _, rfl, p, _, _, _, rfl, rfl, SqT.of ((t2.trans t3) _ _ h1), atI_nat (j := 0) rfl, _, rfl, _, rfl, small (m := 3) (Nat.le_refl _), fun q hq => ?_⟩
          have s4 := same_new (o := .tup [vInt j, vl, vr]) hq
          have hy4 := s4 _ _ hy3
          have t14 := t2.trans (t3.trans (Tups.of s4))
          refine ⟨D, _, _, rfl, rfl, hy4, below (m := 200000) (by have := hst2.len; rw [List.length_reverse] at this; simp at hle; omega), ?_⟩
          have t5 : Tups (upd H3 q (.tup [vInt j, vl, vr])) (upd (upd H3 q (.tup [vInt j, vl, vr])) D (.lst (ys2 ++ [.ref q]))) := Tups.upd hy4
          have t15 := t14.trans t5
          refine ⟨_, _, _, ys2 ++ [.ref q], .join j l r :: st, n, rfl, same_upd (sm3.trans s4) hD, t01.trans t15, ?_, upd_same, ?_, hrn, by simp at hle ⊢; omega, by have : (leafL (Tm.join j l0 r0)).length = 0 := rfl; omega⟩
          · rw [upd_ne np0]
            refine s4 _ _ ?_
            rw [eH3, upd_ne np0, eH2, upd_ne np0]
            exact hp1
          rw [List.reverse_cons]
          refine (hst2.imp fun _ _ h => h.tups t15).append ⟨⟨q, vl, vr, rfl, ?_, hvl.tups t15, hvr.tups t15⟩, trivial⟩
          exact t5 _ _ upd_same
    · rintro σ H1 ⟨y4, y5, y6, ys, st, n, rfl, sm, t01, hp1, hy, hst, hrn, hle, _⟩
      rw [hS.len, List.drop_length] at hrn
      have e : st = [(mapT (fCol rows) t 0).1] := Option.some.inj hrn
      subst e
      obtain ⟨y, hy0, hyt⟩ := hst.get2 (i := 0) rfl
      exact ⟨_, rfl, D, _, _, y, rfl, rfl, SqL.of hy, atI_nat (j := 0) hy0, k H1 y sm hyt⟩
end
end Fam

/-! Webs of the law: joined. -/
namespace Fam
open PySem L2 S5
open C8 (pss_cut tCut)
/-- a web in lists: labels, arrows, bits; X holds of its addresses -/
def LwX (X : Addr → Prop) (H : Hp) (v : V) (L : List Nat) (as : List Arr) (bs : List (List Nat)) : Prop := ∃ (p pl pa pb : Addr) (zs ws : List V), v = .ref p ∧ H p = some (.lst [.ref pl, .ref pa, .ref pb]) ∧ H pl = some (.lst (L.map vInt)) ∧ H pa = some (.lst zs) ∧ Al (PairAt H) zs as ∧ H pb = some (.lst ws) ∧ Al (PlacesAt H) ws bs ∧ X p ∧ X pl ∧ X pa ∧ X pb
theorem LwX.imp {X Y : Addr → Prop} (f : ∀ a, X a → Y a) {H : Hp} {v : V} {L : List Nat} {as : List Arr} {bs : List (List Nat)} (h : LwX X H v L as bs) : LwX Y H v L as bs := by
  obtain ⟨p, pl, pa, pb, zs, ws, e, h1, h2, h3, h4, h5, h6, x1, x2, x3, x4⟩ := h
  exact ⟨p, pl, pa, pb, zs, ws, e, h1, h2, h3, h4, h5, h6, f _ x1, f _ x2, f _ x3, f _ x4⟩
theorem LwX.same {X : Addr → Prop} {H H' : Hp} (s : Same H H') {v : V} {L : List Nat} {as : List Arr} {bs : List (List Nat)} (h : LwX X H v L as bs) : LwX X H' v L as bs := by
  obtain ⟨p, pl, pa, pb, zs, ws, e, h1, h2, h3, h4, h5, h6, x⟩ := h
  exact ⟨p, pl, pa, pb, zs, ws, e, s _ _ h1, s _ _ h2, s _ _ h3, h4.imp fun _ _ h => h.tups (Tups.of s), s _ _ h5, h6.imp fun _ _ h => PlacesAt.tups (Tups.of s) h, x⟩
theorem LwX.keep {D : Addr} {H H' : Hp} {ys : List V} (hD : H D = some (.lst ys)) (k : Kp D H H') {v : V} {L : List Nat} {as : List Arr} {bs : List (List Nat)} (h : LwX (· ≠ D) H v L as bs) : LwX (· ≠ D) H' v L as bs := by
  obtain ⟨p, pl, pa, pb, zs, ws, e, h1, h2, h3, h4, h5, h6, x1, x2, x3, x4⟩ := h
  have t := Tups.kp hD k
  exact ⟨p, pl, pa, pb, zs, ws, e, k _ _ x1 h1, k _ _ x2 h2, k _ _ x3 h3, h4.imp fun _ _ h => h.tups t, k _ _ x4 h5, h6.imp fun _ _ h => PlacesAt.tups t h, x1, x2, x3, x4⟩
def joinL (j : Jn) (L1 L2 : List Nat) : List Nat := L1.map (fun x => j.left.getD x 0) ++ L2.map (fun x => j.right.getD x 0)
def joinA (j : Jn) (L1 L2 : List Nat) (a1 a2 : List Arr) : List Arr := a1 ++ shA L1.length a2 ++ btwAr j.fore j.back (L1 ++ L2) 0 L1.length L1.length L2.length
def spLJoin : Sp := fun vs H Q _ => ∃ (vj vl vr : V) (j : Jn) (L1 L2 : List Nat) (a1 a2 : List Arr) (b1 b2 : List (List Nat)), vs = [vj, vl, vr] ∧ JnAt H vj j ∧ LwX (fun _ => True) H vl L1 a1 b1 ∧ LwX (fun _ => True) H vr L2 a2 b2 ∧ L1.length + L2.length ≤ 12 ∧ a1.length ≤ 5000 ∧ a2.length ≤ 5000 ∧ b1.length ≤ 100 ∧ b2.length ≤ 100 ∧ (∀ x ∈ L1, x < j.left.length) ∧ (∀ x ∈ L2, x < j.right.length) ∧
  ∀ (H' : Hp) (y : V), Same H H' → LwX (fun a => H a = none) H' y (joinL j L1 L2) (joinA j L1 L2 a1 a2) (b1 ++ b2) → Q y H'
section
variable {P : Program} {w : World} {K : PySem.W.Frag} {mg : Str → Option Value} {base : Heap}
abbrev nJW : List Str := ["_law_join", "_law_left", "_law_right", "_law_shift", "_law_arrows", "_law_x", "_law_y", "_law_labels", "_law_a"]
theorem scJW : FnScope nJW ["_law_join", "_law_left", "_law_right"] (defScope sLJoinWebs) := ⟨rfl, rfl, rfl, by decide +kernel, rfl, by decide +kernel, by decide +kernel⟩
theorem ok_l_join {f : Addr} {fd : FuncData} (F : Fun K "_law_join_webs" "_law_join_webs" sLJoinWebs f fd) (T : Bare mg) : FnOk P w K mg base CX0 1 f fd ["_law_join", "_law_left", "_law_right"] spLJoin := by
  refine F.ok scJW (fun vs H Q E h => ?_) (fun cdv A outer s H vs Q E hr h => ?_)
  · obtain ⟨vj, vl, vr, j, L1, L2, a1, a2, b1, b2, rfl, _⟩ := h
    rfl
  · obtain ⟨vj, vl, vr, j, L1, L2, a1, a2, b1, b2, rfl, hj, hl, hrw, hn, ha1, ha2, hb1, hb2, hx1, hx2, k⟩ := h
    obtain ⟨jp, vf, vb, vjl, vjr, rfl, hjp, hf, hb, ⟨ql, rfl, hql⟩, ⟨qr, rfl, hqr⟩⟩ := hj
    obtain ⟨p1, l1, r1, s1, zs1, ws1, rfl, e11, e12, e13, e14, e15, e16, _⟩ := hl
    obtain ⟨p2, l2, r2, s2, zs2, ws2, rfl, e21, e22, e23, e24, e25, e26, _⟩ := hrw
    have lz1 := e14.len
    have lz2 := e24.len
    have lw1 := e16.len
    have lw2 := e26.len
    refine ⟨_, (pss_cons (ps_set (i := 3) scJW.nd rfl (Or.inr rfl) (pe_callB call_len_seq (by rfl) T.len PySem.boot_len (pa_cons (pe_ix ix_list (pv 1) pe_int (fun _ _ => rfl)) pa_nil)))
      (pss_cons (ps_set (i := 4) scJW.nd rfl (Or.inl rfl) (pe_op op_cat (pe_ix ix_list (pv 1) pe_int (fun _ _ => rfl)) (pe_lc (own := [("_law_x", 5), ("_law_y", 6)]) (g := gTup K 2 (gCons (gName 5) (gCons (gName 6) gNil))) (tt := tYes) rfl scJW.nd (pi_list (pe_ix ix_list (pv 2) pe_int (fun _ _ => rfl))) (blkOk_by (own := [("_law_x", 5), ("_law_y", 6)]) (N := nJW) (sc := defScope sLJoinWebs) (by decide +kernel)) (fun _ _ _ _ _ => pg_tup (by rfl) (pgs_cons (pg_name (i := 5) (by exact scJW.nd) (by rfl) (by exact Or.inl rfl)) (pgs_cons (pg_name (i := 6) (by exact scJW.nd) (by rfl) (by exact Or.inl rfl)) pgs_nil))) (fun _ _ _ _ _ => pts_nil) (fun _ _ _ _ _ => pe_tup (pa_cons (pe_op op_add (pv 5) (pv 3)) (pa_cons (pe_op op_add (pv 6) (pv 3)) pa_nil))))))
      (pss_cons (ps_for PassesOwn.never rfl (pi_range1 rfl T.range (pa_cons (pv 3) pa_nil)) (pg_name (i := 5) scJW.nd rfl (Or.inl rfl))
          (pss_one (ps_for PassesOwn.never rfl (pi_range1 rfl T.range (pa_cons (pe_callB call_len_seq (by rfl) T.len PySem.boot_len (pa_cons (pe_ix ix_list (pv 2) pe_int (fun _ _ => rfl)) pa_nil)) pa_nil)) (pg_name (i := 6) scJW.nd rfl (Or.inl rfl))
              (pss_cut (ps_if (pt_cmpR (op_inDT hr.u65) (pe_tup (pa_cons (pe_ix ix_list (pe_ix ix_list (pv 1) pe_int (fun _ _ => rfl)) (pv 5) (fun _ _ => rfl)) (pa_cons (pe_ix ix_list (pe_ix ix_list (pv 2) pe_int (fun _ _ => rfl)) (pv 6) (fun _ _ => rfl)) pa_nil))) (pe_ix ix_tup (pv 0) pe_int (fun _ _ => rfl)) (by rfl)) (pss_one (ps_expr (pe_bm PySem.F.plainAttrs_list PySem.F.slot_list_append PySem.F.type_list_append mt_append (pv 4) (pa_cons (pe_tup (pa_cons (pv 5) (pa_cons (pe_op op_add (pv 6) (pv 3)) pa_nil))) pa_nil)))) pss_nil)
              (pss_one (ps_if (pt_cmpR (op_inDT hr.u65) (pe_tup (pa_cons (pe_ix ix_list (pe_ix ix_list (pv 1) pe_int (fun _ _ => rfl)) (pv 5) (fun _ _ => rfl)) (pa_cons (pe_ix ix_list (pe_ix ix_list (pv 2) pe_int (fun _ _ => rfl)) (pv 6) (fun _ _ => rfl)) pa_nil))) (pe_ix ix_tup (pv 0) pe_int (fun _ _ => rfl)) (by rfl)) (pss_one (ps_expr (pe_bm PySem.F.plainAttrs_list PySem.F.slot_list_append PySem.F.type_list_append mt_append (pv 4) (pa_cons (pe_tup (pa_cons (pe_op op_add (pv 6) (pv 3)) (pa_cons (pv 5) pa_nil))) pa_nil)))) pss_nil))))))
      (pss_cons (ps_set (i := 7) scJW.nd rfl (Or.inl rfl) (pe_op op_cat (pe_lc (own := [("_law_a", 8)]) (g := gName 8) (tt := tYes) rfl scJW.nd (pi_list (pe_ix ix_list (pv 1) pe_int (fun _ _ => rfl))) (blkOk_by (own := [("_law_a", 8)]) (N := nJW) (sc := defScope sLJoinWebs) (by decide +kernel)) (fun _ _ _ _ _ => pg_name (i := 8) scJW.nd rfl (Or.inl rfl)) (fun _ _ _ _ _ => pts_nil) (fun _ _ _ _ _ => pe_ix (ix_tup : IxR _ (rIxT K)) (pe_ix (ix_tup : IxR _ (rIxT K)) (pv 0) pe_int (fun _ _ => rfl)) (pv 8) (fun _ _ => rfl))) (pe_lc (own := [("_law_a", 8)]) (g := gName 8) (tt := tYes) rfl scJW.nd (pi_list (pe_ix ix_list (pv 2) pe_int (fun _ _ => rfl))) (blkOk_by (own := [("_law_a", 8)]) (N := nJW) (sc := defScope sLJoinWebs) (by decide +kernel)) (fun _ _ _ _ _ => pg_name (i := 8) scJW.nd rfl (Or.inl rfl)) (fun _ _ _ _ _ => pts_nil) (fun _ _ _ _ _ => pe_ix (ix_tup : IxR _ (rIxT K)) (pe_ix (ix_tup : IxR _ (rIxT K)) (pv 0) pe_int (fun _ _ => rfl)) (pv 8) (fun _ _ => rfl)))))
      (pss_one (ps_ret (pe_lst (pa_cons (pv 7) (pa_cons (pv 4) (pa_cons (pe_op op_cat (pe_ix ix_list (pv 1) pe_int (fun _ _ => rfl)) (pe_ix ix_list (pv 2) pe_int (fun _ _ => rfl))) pa_nil)))))))))), ?_⟩
    -- shift, arrows
    refine ⟨_, rfl, p1, _, _, .ref l1, rfl, rfl, SqL.of e11, atI_nat (j := 0) rfl, l1, _, rfl, .inl (SqL.of e12), ?_⟩
    refine ⟨_, rfl, p1, _, _, .ref r1, rfl, rfl, SqL.of e11, atI_nat (j := 1) rfl, _, rfl, p2, _, _, .ref r2, rfl, rfl, SqL.of e21, atI_nat (j := 1) rfl, r2, rfl, ⟨_, SqL.of e23⟩, fun D1 hD1 => ?_⟩
    refine lc_list (K := K) (a := r2) (xs := zs2) (fun i H' => Same H H' ∧ ∃ ys, H' D1 = some (.lst ys) ∧ Al (PairAt H') ys (shA L1.length (a2.take i))) ⟨same_new hD1, [], upd_same, trivial⟩ (fun i H' _ h => SqL.of (h.1 _ _ e23)) ?_ ?_
    · rintro i x H1 hx ⟨sm, ys, hy, hA⟩
      obtain ⟨e, he, q, rfl, hq⟩ := e24.get hx
      have hi : i < a2.length := (List.getElem?_eq_some_iff.mp he).1
      have hie : a2[i] = e := (List.getElem?_eq_some_iff.mp he).2
      have yl := hA.len
      have yl2 : ys.length ≤ 5000 := by rw [yl, shA, List.length_map, List.length_take]; omega
      refine ⟨q, _, rfl, SqT.of (sm _ _ hq), rfl, _, _, rfl, _, _, rfl, rfl, rfl, _, rfl, _, rfl, _, _, rfl, rfl, _, rfl, _, rfl, _, _, rfl, rfl, small (m := 2) (Nat.le_refl _), fun u hu => ?_⟩
      have e3 := same_new (o := .tup [V.int ((e.1 : Int) + ((L1.map vInt).length : Nat)), V.int ((e.2 : Int) + ((L1.map vInt).length : Nat))]) hu
      refine ⟨_, e3 _ _ hy, below (m := 6000) (by omega), same_upd (sm.trans e3) hD1, _, upd_same, ?_⟩
      have t4 := (Tups.of e3).trans (Tups.upd (o := .lst (ys ++ [.ref u])) (e3 _ _ hy))
      rw [take_more hi, hie]
      have : shA L1.length (a2.take i ++ [e]) = shA L1.length (a2.take i) ++ [(L1.length + e.1, L1.length + e.2)] := by
        unfold shA
        rw [List.map_append]
        rfl
      rw [this]
      refine (hA.imp fun _ _ h => h.tups t4).append (show Al (PairAt _) [V.ref u] [(L1.length + e.1, L1.length + e.2)] from ⟨⟨u, rfl, ?_⟩, trivial⟩)
      have h5 := Tups.upd (o := .lst (ys ++ [.ref u])) (e3 _ _ hy) _ _ (upd_same (H := H1) (a := u) (o := .tup [V.int ((e.1 : Int) + ((L1.map vInt).length : Nat)), V.int ((e.2 : Int) + ((L1.map vInt).length : Nat))]))
      have h6 : [V.int ((e.1 : Int) + ((L1.map vInt).length : Nat)), V.int ((e.2 : Int) + ((L1.map vInt).length : Nat))] = (prL (L1.length + e.1, L1.length + e.2)).map vInt := by
        rw [List.length_map]
        show _ = [V.int ((L1.length + e.1 : Nat) : Int), V.int ((L1.length + e.2 : Nat) : Int)]
        rw [show ((e.1 : Int) + (L1.length : Nat)) = ((L1.length + e.1 : Nat) : Int) by omega, show ((e.2 : Int) + (L1.length : Nat)) = ((L1.length + e.2 : Nat) : Int) by omega]
      rw [← h6]
      exact h5
    rintro H1 ⟨sm1, ys1, hy1, hA1⟩
    rw [lz2, List.take_length] at hA1
    have yl1 := hA1.len
    rw [shA, List.length_map] at yl1
    refine ⟨r1, D1, _, _, rfl, rfl, sm1 _ _ e13, hy1, small (m := 12000) (by omega), fun D hD => ?_⟩
    have sD := same_new (o := .lst (zs1 ++ ys1)) hD
    have smD := sm1.trans sD
    have fD : H D = none := sm1.free hD
    have hAD : Al (PairAt (upd H1 D (.lst (zs1 ++ ys1)))) (zs1 ++ ys1) (a1 ++ shA L1.length a2) := (e14.imp fun _ _ h => h.tups (Tups.of smD)).append (hA1.imp fun _ _ h => h.tups (Tups.of sD))
    obtain ⟨H2, eH2⟩ : ∃ H2, H2 = upd H1 D (.lst (zs1 ++ ys1)) := ⟨_, rfl⟩
    have hD2 : H2 D = some (.lst (zs1 ++ ys1)) := by rw [eH2]; exact upd_same
    rw [← eH2] at smD hAD ⊢
    obtain ⟨pre0, epre0⟩ : ∃ pre0, pre0 = a1 ++ shA L1.length a2 := ⟨_, rfl⟩
    rw [← epre0] at hAD
    have lp0 : pre0.length ≤ 10000 := by rw [epre0, List.length_append, shA, List.length_map]; omega
    obtain ⟨L, eL⟩ : ∃ L, L = L1 ++ L2 := ⟨_, rfl⟩
    have lL : L.length = L1.length + L2.length := by rw [eL, List.length_append]
    rw [List.length_map]
    refine ⟨_, rfl, _, rfl, by omega, by omega, ?_⟩
    rw [Int.toNat_natCast]
    refine for_range (lo := 0) (n := L1.length) (fun i σ H' => ∃ (y5 y6 : Option V) (ys : List V), σ = [some (.ref jp), some (.ref p1), some (.ref p2), some (vInt L1.length), some (.ref D), y5, y6, none, none] ∧ Same H H' ∧ H' D = some (.lst ys) ∧ Al (PairAt H') ys (pre0 ++ btwAr j.fore j.back L 0 i L1.length L2.length)) ⟨none, none, _, rfl, smD, hD2, by
      show Al _ _ (_ ++ [])
      rw [List.append_nil]
      exact hAD⟩ ?_ ?_
    · rintro i σ H3 hi ⟨y5, y6, ys, rfl, sm, hY, hA⟩
      have b1 := btwAr_len j.fore j.back L 0 L1.length L2.length i
      have b2 : i * (2 * L2.length) ≤ 12 * 24 := Nat.mul_le_mul (by omega) (by omega)
      refine ⟨_, rfl, p2, _, _, .ref l2, rfl, rfl, SqL.of (sm _ _ e21), atI_nat (j := 0) rfl, l2, _, rfl, .inl (SqL.of (sm _ _ e22)), ?_⟩
      rw [List.length_map]
      refine ⟨_, rfl, by omega, by omega, ?_⟩
      rw [Int.toNat_natCast]
      have ei : (0 : Int) + i = ((i : Nat) : Int) := by omega
      rw [ei]
      refine for_range (lo := 0) (n := L2.length) (fun k σ H' => ∃ (y6 : Option V) (zs : List V), σ = [some (.ref jp), some (.ref p1), some (.ref p2), some (vInt L1.length), some (.ref D), some (vInt i), y6, none, none] ∧ Same H H' ∧ H' D = some (.lst zs) ∧ Al (PairAt H') zs (pre0 ++ btwAr j.fore j.back L 0 i L1.length L2.length ++ rowAr j.fore j.back L i L1.length k)) ⟨y6, ys, rfl, sm, hY, by
        show Al _ _ (_ ++ [])
        rw [List.append_nil]
        exact hA⟩ ?_ ?_
      · rintro c σ H4 hc ⟨y6, zs, rfl, sm4, hZ, hB⟩
        have ec : (0 : Int) + c = ((c : Nat) : Int) := by omega
        rw [ec]
        have c1 := rowAr_len j.fore j.back L i L1.length c
        have cl := hB.len
        rw [List.length_append, List.length_append] at cl
        have g1 : L.getD i 0 = L1[i] := by rw [eL, List.getD_eq_getElem?_getD, List.getElem?_append_left hi, List.getElem?_eq_getElem hi]; rfl
        have g2 : L.getD (L1.length + c) 0 = L2[c] := by rw [eL, List.getD_eq_getElem?_getD, List.getElem?_append_right (by omega), Nat.add_sub_cancel_left, List.getElem?_eq_getElem hc]; rfl
        rw [rowAr_succ, g1, g2, ← List.append_assoc]
        obtain ⟨pre, epre⟩ : ∃ pre : List Arr, pre = if (L1[i], L2[c]) ∈ j.fore then [(i, L1.length + c)] else [] := ⟨_, rfl⟩
        have lpre : pre.length ≤ 1 := by rw [epre]; split <;> simp
        have at1 : atI (L1.map vInt) ((i : Nat) : Int) = some (vInt L1[i]) := atI_nat (j := i) (by rw [List.getElem?_map, List.getElem?_eq_getElem hi]; rfl)
        have at2 : atI (L2.map vInt) ((c : Nat) : Int) = some (vInt L2[c]) := atI_nat (j := c) (by rw [List.getElem?_map, List.getElem?_eq_getElem hc]; rfl)
        have ecl : ((c : Int) + ((L1.length : Nat) : Int)) = ((L1.length + c : Nat) : Int) := by omega
        refine ⟨fun σ' H' => ∃ zs', σ' = [some (.ref jp), some (.ref p1), some (.ref p2), some (vInt L1.length), some (.ref D), some (vInt i), some (vInt c), none, none] ∧ Same H H' ∧ H' D = some (.lst zs') ∧ Al (PairAt H') zs' (pre0 ++ btwAr j.fore j.back L 0 i L1.length L2.length ++ rowAr j.fore j.back L i L1.length c ++ pre), ?_, ?_⟩
        · refine ⟨_, rfl, p1, _, _, .ref l1, rfl, rfl, SqL.of (sm4 _ _ e11), atI_nat (j := 0) rfl, _, rfl, l1, _, _, vInt L1[i], rfl, rfl, SqL.of (sm4 _ _ e12), at1, _, rfl, p2, _, _, .ref l2, rfl, rfl, SqL.of (sm4 _ _ e21), atI_nat (j := 0) rfl, _, rfl, l2, _, _, vInt L2[c], rfl, rfl, SqL.of (sm4 _ _ e22), at2, small (m := 2) (Nat.le_refl _), fun u hu => ?_⟩
          have e3 := same_new (o := .tup [vInt L1[i], vInt L2[c]]) hu
          have hu5 : PairAt (upd H4 u (.tup [vInt L1[i], vInt L2[c]])) (.ref u) (L1[i], L2[c]) := ⟨u, rfl, upd_same⟩
          have sm5 := sm4.trans e3
          have hZ5 := e3 _ _ hZ
          have hB5 := hB.imp fun _ _ h => h.tups (Tups.of e3)
          obtain ⟨H5, eH5⟩ : ∃ H5, H5 = upd H4 u (.tup [vInt L1[i], vInt L2[c]]) := ⟨_, rfl⟩
          rw [← eH5] at e3 hu5 sm5 hZ5 hB5 ⊢
          refine ⟨_, rfl, jp, _, _, vf, rfl, rfl, SqT.of (sm5 _ _ hjp), atI_nat (j := 0) rfl, in_prs hu5 (hf.tups (Tups.of sm5)) ⟨_, rfl, ?_⟩⟩
          by_cases cc : (L1[i], L2[c]) ∈ j.fore
          · rw [decide_eq_true cc]
            refine iteT ⟨_, rfl, .inl ⟨rfl, _, SqL.of hZ5⟩, _, rfl, _, rfl, _, rfl, _, _, rfl, rfl, small (m := 2) (Nat.le_refl _), fun z hz => ?_⟩
            have e4 := same_new (o := .tup [vInt i, V.int ((c : Int) + ((L1.length : Nat) : Int))]) hz
            have hZ6 := e4 _ _ hZ5
            have t5 : Tups _ (upd (upd H5 z (.tup [vInt i, V.int ((c : Int) + ((L1.length : Nat) : Int))])) D (.lst (zs ++ [.ref z]))) := Tups.upd hZ6
            refine ⟨D, _, _, rfl, rfl, hZ6, below (m := 20000) (by omega), zs ++ [.ref z], rfl, same_upd (sm5.trans e4) fD, upd_same, ?_⟩
            rw [epre, if_pos cc]
            exact Al.append (ys := [.ref z]) (bs := [(i, L1.length + c)]) (hB5.imp fun _ _ h => h.tups ((Tups.of e4).trans t5)) ⟨⟨z, rfl, (t5 _ _ upd_same).trans (show some (HO.tup [vInt i, V.int ((c : Int) + ((L1.length : Nat) : Int))]) = some (HO.tup [vInt i, V.int ((L1.length + c : Nat) : Int)]) by rw [ecl])⟩, trivial⟩
          · rw [decide_eq_false cc]
            refine iteF ⟨zs, rfl, sm5, hZ5, ?_⟩
            rw [epre, if_neg cc, List.append_nil]
            exact hB5
        · rintro σ' H6 ⟨zs', rfl, sm6, hZ6, hB6⟩
          have cl6 := hB6.len
          rw [List.length_append, List.length_append, List.length_append] at cl6
          have ecell : cell j.fore j.back L1[i] L2[c] i (L1.length + c) = pre ++ (if (L1[i], L2[c]) ∈ j.back then [(L1.length + c, i)] else []) := by
            rw [epre]
            rfl
          rw [ecell, ← List.append_assoc]
          refine ⟨_, rfl, p1, _, _, .ref l1, rfl, rfl, SqL.of (sm6 _ _ e11), atI_nat (j := 0) rfl, _, rfl, l1, _, _, vInt L1[i], rfl, rfl, SqL.of (sm6 _ _ e12), at1, _, rfl, p2, _, _, .ref l2, rfl, rfl, SqL.of (sm6 _ _ e21), atI_nat (j := 0) rfl, _, rfl, l2, _, _, vInt L2[c], rfl, rfl, SqL.of (sm6 _ _ e22), at2, small (m := 2) (Nat.le_refl _), fun u hu => ?_⟩
          have e3 := same_new (o := .tup [vInt L1[i], vInt L2[c]]) hu
          have hu5 : PairAt (upd H6 u (.tup [vInt L1[i], vInt L2[c]])) (.ref u) (L1[i], L2[c]) := ⟨u, rfl, upd_same⟩
          have sm5 := sm6.trans e3
          have hZ5 := e3 _ _ hZ6
          have hB5 := hB6.imp fun _ _ h => h.tups (Tups.of e3)
          obtain ⟨H5, eH5⟩ : ∃ H5, H5 = upd H6 u (.tup [vInt L1[i], vInt L2[c]]) := ⟨_, rfl⟩
          rw [← eH5] at e3 hu5 sm5 hZ5 hB5 ⊢
          refine ⟨_, rfl, jp, _, _, vb, rfl, rfl, SqT.of (sm5 _ _ hjp), atI_nat (j := 1) rfl, in_prs hu5 (hb.tups (Tups.of sm5)) ⟨_, rfl, ?_⟩⟩
          by_cases cc : (L1[i], L2[c]) ∈ j.back
          · rw [decide_eq_true cc]
            refine iteT ⟨_, rfl, .inl ⟨rfl, _, SqL.of hZ5⟩, _, rfl, _, rfl, _, _, rfl, rfl, _, rfl, small (m := 2) (Nat.le_refl _), fun z hz => ?_⟩
            have e4 := same_new (o := .tup [V.int ((c : Int) + ((L1.length : Nat) : Int)), vInt i]) hz
            have hZ7 := e4 _ _ hZ5
            have t5 : Tups _ (upd (upd H5 z (.tup [V.int ((c : Int) + ((L1.length : Nat) : Int)), vInt i])) D (.lst (zs' ++ [.ref z]))) := Tups.upd hZ7
            refine ⟨D, _, _, rfl, rfl, hZ7, below (m := 20000) (by omega), _, zs' ++ [.ref z], rfl, same_upd (sm5.trans e4) fD, upd_same, ?_⟩
            rw [if_pos cc]
            exact Al.append (ys := [.ref z]) (bs := [(L1.length + c, i)]) (hB5.imp fun _ _ h => h.tups ((Tups.of e4).trans t5)) ⟨⟨z, rfl, (t5 _ _ upd_same).trans (show some (HO.tup [V.int ((c : Int) + ((L1.length : Nat) : Int)), vInt i]) = some (HO.tup [V.int ((L1.length + c : Nat) : Int), vInt i]) by rw [ecl])⟩, trivial⟩
          · rw [decide_eq_false cc]
            refine iteF ⟨_, zs', rfl, sm5, hZ5, ?_⟩
            rw [if_neg cc, List.append_nil]
            exact hB5
      · rintro σ H4 ⟨y6, zs, rfl, sm4, hZ, hB⟩
        refine ⟨_, _, zs, rfl, sm4, hZ, ?_⟩
        rw [btwAr_succ, Nat.zero_add, ← List.append_assoc]
        exact hB
    · rintro σ H3 ⟨y5, y6, ys, rfl, sm, hY, hA⟩
      -- labels
      refine ⟨_, rfl, p1, _, _, .ref l1, rfl, rfl, SqL.of (sm _ _ e11), atI_nat (j := 0) rfl, l1, rfl, ⟨_, SqL.of (sm _ _ e12)⟩, fun D3 hD3 => ?_⟩
      refine lc_list (K := K) (a := l1) (xs := L1.map vInt) (fun i H' => Same H3 H' ∧ H' D3 = some (.lst (((L1.take i).map fun x => vInt (j.left.getD x 0))))) ⟨same_new hD3, upd_same⟩ (fun i H' _ h => SqL.of (h.1 _ _ (sm _ _ e12))) ?_ ?_
      · rintro i x0 H4 hx0 ⟨sm4, hD4⟩
        obtain ⟨a, ha, rfl, hat⟩ := relab_turn (p := l1) (q := ql) (D := D3) (sm _ _ hql) hx0 hx1 (by omega)
        have hal : i < L1.length := (List.getElem?_eq_some_iff.mp ha).1
        refine ⟨rfl, _, rfl, jp, _, _, .ref ql, rfl, rfl, SqT.of (sm4 _ _ (sm _ _ hjp)), atI_nat (j := 2) rfl, _, rfl, ql, _, _, _, rfl, rfl, SqT.of (sm4 _ _ (sm _ _ hql)), atI_nat (j := a) hat, _, hD4, below (m := 100) (by rw [List.length_map, List.length_take]; omega), same_upd sm4 hD3, ?_⟩
        rw [upd_same, take_more hal, List.map_append]
        have : L1[i] = a := (List.getElem?_eq_some_iff.mp ha).2
        rw [this]
        rfl
      rintro H4 ⟨sm4, hD4⟩
      rw [List.length_map, List.take_length, mapV_getD] at hD4
      have sm34 := sm.trans sm4
      refine ⟨_, rfl, p2, _, _, .ref l2, rfl, rfl, SqL.of (sm34 _ _ e21), atI_nat (j := 0) rfl, l2, rfl, ⟨_, SqL.of (sm34 _ _ e22)⟩, fun D5 hD5 => ?_⟩
      refine lc_list (K := K) (a := l2) (xs := L2.map vInt) (fun i H' => Same H4 H' ∧ H' D5 = some (.lst (((L2.take i).map fun x => vInt (j.right.getD x 0))))) ⟨same_new hD5, upd_same⟩ (fun i H' _ h => SqL.of (h.1 _ _ (sm34 _ _ e22))) ?_ ?_
      · rintro i x0 H5 hx0 ⟨sm5, hD6⟩
        obtain ⟨a, ha, rfl, hat⟩ := relab_turn (p := l2) (q := qr) (D := D5) (sm34 _ _ hqr) hx0 hx2 (by omega)
        have hal : i < L2.length := (List.getElem?_eq_some_iff.mp ha).1
        refine ⟨rfl, _, rfl, jp, _, _, .ref qr, rfl, rfl, SqT.of (sm5 _ _ (sm34 _ _ hjp)), atI_nat (j := 3) rfl, _, rfl, qr, _, _, _, rfl, rfl, SqT.of (sm5 _ _ (sm34 _ _ hqr)), atI_nat (j := a) hat, _, hD6, below (m := 100) (by rw [List.length_map, List.length_take]; omega), same_upd sm5 hD5, ?_⟩
        rw [upd_same, take_more hal, List.map_append]
        have : L2[i] = a := (List.getElem?_eq_some_iff.mp ha).2
        rw [this]
        rfl
      rintro H5 ⟨sm5, hD6⟩
      rw [List.length_map, List.take_length, mapV_getD] at hD6
      have sm35 := sm34.trans sm5
      refine ⟨D3, D5, _, _, rfl, rfl, sm5 _ _ hD4, hD6, small (m := 100) (by rw [List.length_map, List.length_map, List.length_map, List.length_map]; omega), fun D7 hD7 => ?_⟩
      have e7 := same_new (o := .lst ((L1.map fun x => j.left.getD x 0).map vInt ++ (L2.map fun x => j.right.getD x 0).map vInt)) hD7
      have sm7 := sm35.trans e7
      have f7 : H D7 = none := sm35.free hD7
      have hY7 := (sm4.trans (sm5.trans e7)) _ _ hY
      have hA7 := hA.imp fun _ _ h => h.tups (Tups.of (sm4.trans (sm5.trans e7)))
      have h77 := upd_same (H := H5) (a := D7) (o := .lst ((L1.map fun x => j.left.getD x 0).map vInt ++ (L2.map fun x => j.right.getD x 0).map vInt))
      obtain ⟨H7, eH7⟩ : ∃ H7, H7 = upd H5 D7 (.lst ((L1.map fun x => j.left.getD x 0).map vInt ++ (L2.map fun x => j.right.getD x 0).map vInt)) := ⟨_, rfl⟩
      rw [← eH7] at sm7 hY7 hA7 h77 ⊢
      -- the web
      refine ⟨_, rfl, _, rfl, _, rfl, p1, _, _, .ref s1, rfl, rfl, SqL.of (sm7 _ _ e11), atI_nat (j := 2) rfl, _, rfl, p2, _, _, .ref s2, rfl, rfl, SqL.of (sm7 _ _ e21), atI_nat (j := 2) rfl, s1, s2, _, _, rfl, rfl, sm7 _ _ e15, sm7 _ _ e25, small (m := 300) (by omega), fun D8 hD8 => ?_⟩
      have e8 := same_new (o := .lst (ws1 ++ ws2)) hD8
      refine ⟨small (m := 3) (Nat.le_refl _), fun R hR => ?_⟩
      have e9 := same_new (o := .lst [V.ref D7, V.ref D, V.ref D8]) hR
      have sm9 := sm7.trans (e8.trans e9)
      refine k _ (.ref R) sm9 ⟨R, D7, D, D8, ys, ws1 ++ ws2, rfl, upd_same, ?_, (e8.trans e9) _ _ hY7, ?_, e9 _ _ upd_same, (e16.imp fun _ _ h => PlacesAt.tups (Tups.of sm9) h).append (e26.imp fun _ _ h => PlacesAt.tups (Tups.of sm9) h), (sm7.trans e8).free hR, f7, fD, sm7.free hD8⟩
      · unfold joinL
        rw [List.map_append]
        exact (e8.trans e9) _ _ h77
      · unfold joinA
        rw [← epre0, ← eL]
        exact hA7.imp fun _ _ h => h.tups (Tups.of (e8.trans e9))
end
end Fam

/-! The law's web of a term; its tracks. -/
namespace Fam
open PySem L2 S5
open C8 (pss_cut tCut)
theorem LwX.keep2 {X : Addr → Prop} {D : Addr} {H H' : Hp} {ys : List V} (hX : ∀ a, X a → a ≠ D) (hD : H D = some (.lst ys)) (k : Kp D H H') {v : V} {L : List Nat} {as : List Arr} {bs : List (List Nat)} (h : LwX X H v L as bs) : LwX X H' v L as bs := by
  obtain ⟨p, pl, pa, pb, zs, ws, e, h1, h2, h3, h4, h5, h6, x1, x2, x3, x4⟩ := h
  have t := Tups.kp hD k
  exact ⟨p, pl, pa, pb, zs, ws, e, k _ _ (hX _ x1) h1, k _ _ (hX _ x2) h2, k _ _ (hX _ x3) h3, h4.imp fun _ _ h => h.tups t, k _ _ (hX _ x4) h5, h6.imp fun _ _ h => PlacesAt.tups t h, x1, x2, x3, x4⟩
def bitsT (t : Tm) : List (List Nat) := (leavesT t).map (·.2)
def fId (_ : Nat) (u : Tm) : Tm := u
theorem map_id' : ∀ (t : Tm) (k : Nat), (mapT fId t k).1 = t
  | .hole, k => rfl
  | .leaf a bs, k => rfl
  | .join j l r, k => by
    show Tm.join j _ _ = Tm.join j _ _
    rw [map_id' l, map_id' r]
def okP (b : Bn) : Tm → Prop
  | .hole => False
  | .leaf a _ => a ∈ b.starts
  | .join j _ _ => j < b.joins.length
theorem post_okP (b : Bn) : ∀ t : Tm, TmOk b t → ∀ s ∈ postP t, okP b s
  | .hole, h, _, _ => h.elim
  | .leaf a bs, h, s, hs => by rw [List.mem_singleton.mp hs]; exact h
  | .join j l r, ⟨h1, h2, h3⟩, s, hs => by
    rcases List.mem_append.mp hs with hs | hs
    · rcases List.mem_append.mp hs with hs | hs
      · exact post_okP b l h2 s hs
      · exact post_okP b r h3 s hs
    · rw [List.mem_singleton.mp hs]
      exact h1
theorem arrT_len (b : Bn) {t : Tm} (h : TmOk b t) (hl : (labT b t).length ≤ 12) : (arrT b t).length ≤ 5000 := by
  have e : (labsL b [t]).length = (labT b t).length := by
    unfold labsL
    simp
  have := arrS_len b [t] 0 (fun u hu => by rw [List.mem_singleton.mp hu]; exact h) (by rw [e]; exact hl)
  rw [e] at this
  have e2 : (arrS b 0 [t]).length = (arrT b t).length := by
    show (shA 0 (arrT b t) ++ []).length = _
    rw [List.append_nil, shA, List.length_map]
  omega
def lvL (us : List Tm) : Nat := (us.map fun u => (leavesT u).length).sum
theorem kp_upd {D : Addr} {H : Hp} {o : HO} : Kp D H (upd H D o) := Kp.of fun b hb => upd_ne hb
def spLBuilt : Sp := fun vs H Q _ => ∃ (v vt : V) (b : Bn) (t : Tm), vs = [v, vt] ∧ PartsAt H v b ∧ BnOk b ∧ TmAt H vt t ∧ TmOk b t ∧ t.nodes ≤ 900 ∧ (leavesT t).length ≤ 12 ∧ ∀ (H' : Hp) (y : V), Same H H' → LwX (fun a => H a = none) H' y (labT b t) (arrT b t) (bitsT t) → Q y H'
def spLTrack : Sp := fun vs H Q _ => ∃ (v : V) (k : Nat) (L : List Nat) (as : List Arr) (bs : List (List Nat)), vs = [v, vInt k] ∧ LwX (fun _ => True) H v L as bs ∧ L.length = bs.length ∧ L.length ≤ 100 ∧ (∀ r ∈ bs, k < r.length) ∧
  ∀ (H' : Hp) (y : V), Same H H' → PlacesAt H' y ((List.range L.length).filter fun p => decide ((bs.getD p []).getD k 0 = 1)) → Q y H'
section
variable {P : Program} {w : World} {K : PySem.W.Frag} {mg : Str → Option Value} {base : Heap}
abbrev nLB0 : List Str := ["_law_parts", "_law_term_here", "_law_done", "_law_part_here", "_law_right", "_law_left"]
theorem scLB0 : FnScope nLB0 ["_law_parts", "_law_term_here"] (defScope sLBuilt) := ⟨rfl, rfl, rfl, by decide +kernel, rfl, by decide +kernel, by decide +kernel⟩
theorem ok_l_built {f : Addr} {fd : FuncData} (F : Fun K "_law_built" "_law_built" sLBuilt f fd) (T : Bare mg) (GW : Cal P w K mg base 1 "_law_walk" ["_law_term_here"] spLWalk) (GJ : Cal P w K mg base 1 "_law_join_webs" ["_law_join", "_law_left", "_law_right"] spLJoin) : FnOk P w K mg base CX0 2 f fd ["_law_parts", "_law_term_here"] spLBuilt := by
  obtain ⟨_, _, ok_wk, b_wk, k_wk, m_wk⟩ := GW.ex
  obtain ⟨_, _, ok_jw, b_jw, k_jw, m_jw⟩ := GJ.ex
  refine F.ok scLB0 (fun vs H Q E h => ?_) (fun cdv A outer s H vs Q E hr h => ?_)
  · obtain ⟨v, vt, b, t, rfl, _⟩ := h
    rfl
  · obtain ⟨v, vt, b, t, rfl, hP, hbok, ht, hok, hn, hl12, k⟩ := h
    have hr_wk := hr
    have hr_jw := hr
    obtain ⟨pp, vst, vjs, rfl, hpp, hvs, q, js, rfl, hq, hJ⟩ := hP
    refine ⟨_, (pss_cons (ps_set (i := 2) scLB0.nd rfl (Or.inl rfl) (pe_lst pa_nil))
      (pss_cons (ps_for PassesOwn.never rfl (pi_list (pe_call ok_wk hr_wk rfl m_wk k_wk b_wk .nil pass0 (pa_cons (pv 1) pa_nil))) (pg_name (i := 3) scLB0.nd rfl (Or.inl rfl))
          (pss_one (ps_if (pt_cmpR op_eq (pe_callB call_len_seq (by rfl) T.len PySem.boot_len (pa_cons (pv 3) pa_nil)) pe_int (nomark _)) (pss_one (ps_expr (pe_bm PySem.F.plainAttrs_list PySem.F.slot_list_append PySem.F.type_list_append mt_append (pv 2) (pa_cons (pe_lst (pa_cons (pe_lst (pa_cons (pe_ix ix_tup (pv 3) pe_int (fun _ _ => rfl)) pa_nil)) (pa_cons (pe_lst pa_nil) (pa_cons (pe_lst (pa_cons (pe_ix ix_tup (pv 3) pe_int (fun _ _ => rfl)) pa_nil)) pa_nil)))) pa_nil)))) (pss_cons (ps_set (i := 4) scLB0.nd rfl (Or.inl rfl) (pe_bm0 PySem.F.plainAttrs_list PySem.F.slot_list_pop PySem.F.type_list_pop mt_pop (pv 2)))
              (pss_cons (ps_set (i := 5) scLB0.nd rfl (Or.inl rfl) (pe_bm0 PySem.F.plainAttrs_list PySem.F.slot_list_pop PySem.F.type_list_pop mt_pop (pv 2)))
              (pss_one (ps_expr (pe_bm PySem.F.plainAttrs_list PySem.F.slot_list_append PySem.F.type_list_append mt_append (pv 2) (pa_cons (pe_call ok_jw hr_jw rfl m_jw k_jw b_jw .nil pass0 (pa_cons (pe_ix ix_tup (pe_ix ix_list (pv 0) pe_int (fun _ _ => rfl)) (pe_ix ix_tup (pv 3) pe_int (fun _ _ => rfl)) (fun _ _ => rfl)) (pa_cons (pv 5) (pa_cons (pv 4) pa_nil)))) pa_nil)))))))))
      (pss_one (ps_ret (pe_ix ix_list (pv 2) pe_int (fun _ _ => rfl)))))), ?_⟩
    refine ⟨small (m := 1) (Nat.zero_le _), fun D hD => ⟨_, rfl, ?_⟩⟩
    have s1 := same_new (o := .lst []) hD
    refine ⟨vt, t, rfl, ht.same s1, hn, fun H0 p0 xs s2 hp0 hxs hS => ⟨p0, rfl, ⟨_, SqL.of hxs⟩, ?_⟩⟩
    have np0 : p0 ≠ D := fun e => by rw [e, upd_same] at hp0; cases hp0
    have fp0 : H p0 = none := s1.free hp0
    refine for_list (xs := xs) (fun i σ H' => ∃ (y3 y4 y5 : Option V) (ys : List V) (st : List Tm) (n : Nat), σ = [some (.ref pp), some vt, some (.ref D), y3, y4, y5] ∧ Same H H' ∧ Tups H0 H' ∧ H' p0 = some (.lst xs) ∧ H' D = some (.lst ys) ∧ Al (fun v u => LwX (fun a => a ≠ D ∧ H a = none) H' v (labT b u) (arrT b u) (bitsT u)) ys st.reverse ∧ runP fId ((postP t).drop i) st n = some [t] ∧ st.length ≤ i ∧ (∀ u ∈ st, TmOk b u) ∧ lvL st + (((postP t).drop i).map leafL).flatten.length = (leavesT t).length)
      ⟨none, none, none, [], [], 0, rfl, s1.trans s2, Tups.refl _, hxs, s2 _ _ upd_same, trivial, by have := runP_all fId t 0; rw [map_id'] at this; exact this, Nat.le_refl _, (fun u hu => by cases hu), by rw [List.drop_zero, leafL_post]; exact Nat.zero_add _⟩ ?_ ?_ ?_
    · rintro i σ H1 hi ⟨y3, y4, y5, ys, st, n, rfl, sm, t01, hp1, _⟩
      exact SqL.of hp1
    · rintro i x σ H1 hx ⟨y3, y4, y5, ys, st, n, rfl, sm, t01, hp1, hy, hst, hrn, hle, hsok, hcn⟩
      obtain ⟨sp, hsp, hxs1⟩ := hS.get hx
      have hx1 := hxs1.tups t01
      have hi : i < xs.length := by
        rcases Nat.lt_or_ge i xs.length with q | q
        · exact q
        · rw [List.getElem?_eq_none q] at hx
          cases hx
      have ed : (postP t).drop i = sp :: (postP t).drop (i + 1) := by
        have hi2 : i < (postP t).length := by rw [← hS.len]; exact hi
        rw [List.drop_eq_getElem_cons hi2]
        rw [List.getElem?_eq_getElem hi2] at hsp
        rw [Option.some.inj hsp]
      rw [ed] at hrn
      rw [ed, List.map_cons, List.flatten_cons, List.length_append] at hcn
      have hys := hst.len
      rw [List.length_reverse] at hys
      have hil : i < 900 := by
        have := hS.len
        rw [postP_len] at this
        omega
      have hspo := post_okP b t hok sp (List.mem_of_getElem? hsp)
      cases sp with
      | hole => exact hspo.elim
      | leaf a bs =>
        obtain ⟨p, p2, rfl, h1, h2⟩ := id hx1
        refine ⟨_, rfl, p, _, rfl, .inr (SqT.of h1), rfl, _, rfl, iteT ?_⟩
        refine ⟨_, rfl, .inl ⟨rfl, _, SqL.of hy⟩, _, rfl, p, _, _, _, rfl, rfl, SqT.of h1, atI_nat (j := 0) rfl, small (m := 1) (Nat.le_refl _), fun c1 hc1 => ⟨small (m := 1) (Nat.zero_le _), fun c2 hc2 => ?_⟩⟩
        have e1 := same_new (o := .lst [vInt a]) hc1
        have e2 := same_new (o := .lst []) hc2
        refine ⟨_, rfl, p, _, _, _, rfl, rfl, SqT.of ((e1.trans e2) _ _ h1), atI_nat (j := 1) rfl, small (m := 1) (Nat.le_refl _), fun c3 hc3 => ⟨small (m := 3) (Nat.le_refl _), fun c4 hc4 => ?_⟩⟩
        have e3 := same_new (o := .lst [V.ref p2]) hc3
        have e4 := same_new (o := .lst [V.ref c1, V.ref c2, V.ref c3]) hc4
        have e14 := e1.trans (e2.trans (e3.trans e4))
        have hy4 := e14 _ _ hy
        refine ⟨D, _, _, rfl, rfl, hy4, below (m := 200000) (by omega), ?_⟩
        have tu := (Tups.of e14).trans (Tups.upd (o := .lst (ys ++ [.ref c4])) hy4)
        have n1 : c1 ≠ D := fun e => by rw [e, hy] at hc1; cases hc1
        have n2 : c2 ≠ D := fun e => by rw [e, e1 _ _ hy] at hc2; cases hc2
        have n3 : c3 ≠ D := fun e => by rw [e, (e1.trans e2) _ _ hy] at hc3; cases hc3
        have n4 : c4 ≠ D := fun e => by rw [e, (e1.trans (e2.trans e3)) _ _ hy] at hc4; cases hc4
        refine ⟨_, _, _, ys ++ [.ref c4], .leaf a bs :: st, n + 1, rfl, same_upd (sm.trans e14) hD, t01.trans tu, by rw [upd_ne np0]; exact e14 _ _ hp1, upd_same, ?_, hrn, by rw [List.length_cons]; omega, fun u hu => ?_, ?_⟩
        · rw [List.reverse_cons]
          refine (hst.imp fun _ _ h => LwX.keep2 (fun _ h => h.1) hy4 kp_upd (h.same e14)).append ⟨⟨c4, c1, c2, c3, [], [.ref p2], rfl, by rw [upd_ne n4]; exact upd_same, by rw [upd_ne n1]; exact (e2.trans (e3.trans e4)) _ _ upd_same, by rw [upd_ne n2]; exact (e3.trans e4) _ _ upd_same, trivial, by rw [upd_ne n3]; exact e4 _ _ upd_same, ⟨⟨p2, rfl, tu _ _ h2⟩, trivial⟩, ⟨n4, (sm.trans (e1.trans (e2.trans e3))).free hc4⟩, ⟨n1, sm.free hc1⟩, ⟨n2, (sm.trans e1).free hc2⟩, ⟨n3, (sm.trans (e1.trans e2)).free hc3⟩⟩, trivial⟩
        · rcases List.mem_cons.mp hu with e | hu
          · rw [e]
            exact hspo
          · exact hsok u hu
        · have : lvL (Tm.leaf a bs :: st) = 1 + lvL st := rfl
          have : (leafL (Tm.leaf a bs)).length = 1 := rfl
          omega
      | join j l0 r0 =>
        match st, hst, hrn, hle, hys, hsok, hcn with
        | [], _, hrn, _, _, _, _ => cases hrn
        | [_], _, hrn, _, _, _, _ => cases hrn
        | r :: l :: st, hst, hrn, hle, hys, hsok, hcn =>
          rw [List.reverse_cons] at hst
          obtain ⟨ys1, vr, rfl, hst1, hvr⟩ := hst.snoc2
          rw [List.reverse_cons] at hst1
          obtain ⟨ys2, vl, rfl, hst2, hvl⟩ := hst1.snoc2
          have hjlt : j < b.joins.length := hspo
          obtain ⟨p, y0, z0, rfl, h1, h2, h3⟩ := id hx1
          have okr := hsok r (List.mem_cons_self ..)
          have okl := hsok l (List.mem_cons_of_mem _ (List.mem_cons_self ..))
          have hcn2 : (leavesT r).length + ((leavesT l).length + lvL st) + (0 + (((postP t).drop (i + 1)).map leafL).flatten.length) = (leavesT t).length := hcn
          have el := labT_len b l okl
          have erl := labT_len b r okr
          refine ⟨_, rfl, p, _, rfl, .inr (SqT.of h1), rfl, _, rfl, iteF ?_⟩
          refine ⟨_, rfl, .inl ⟨rfl, _, SqL.of hy⟩, D, _, _, rfl, rfl, hy, last_of _ _, ?_⟩
          rw [List.dropLast_concat]
          obtain ⟨H2, eH2⟩ : ∃ H2, H2 = upd H1 D (.lst (ys2 ++ [vl])) := ⟨_, rfl⟩
          rw [← eH2]
          have t2 : Tups H1 H2 := by rw [eH2]; exact Tups.upd hy
          have k2 : Kp D H1 H2 := by rw [eH2]; exact kp_upd
          have sm2 : Same H H2 := by rw [eH2]; exact same_upd sm hD
          have hy2 : H2 D = some (.lst (ys2 ++ [vl])) := by rw [eH2]; exact upd_same
          refine ⟨_, rfl, .inl ⟨rfl, _, SqL.of hy2⟩, D, _, _, rfl, rfl, hy2, last_of _ _, ?_⟩
          rw [List.dropLast_concat]
          obtain ⟨H3, eH3⟩ : ∃ H3, H3 = upd H2 D (.lst ys2) := ⟨_, rfl⟩
          rw [← eH3]
          have t3 : Tups H2 H3 := by rw [eH3]; exact Tups.upd hy2
          have k3 : Kp D H1 H3 := k2.trans (by rw [eH3]; exact kp_upd)
          have sm3 : Same H H3 := by rw [eH3]; exact same_upd sm2 hD
          have hy3 : H3 D = some (.lst ys2) := by rw [eH3]; exact upd_same
          have t13 := t2.trans t3
          obtain ⟨vjv, hvjv, hja⟩ := hJ.get2 (i := j) (a := jnOf b j) (by unfold jnOf; rw [List.getD_eq_getElem?_getD, List.getElem?_eq_getElem hjlt]; rfl)
          have hjn := jn_ok hbok hjlt
          have hl3 := LwX.keep2 (fun _ h => h.1) hy k3 hvl
          have hr3 := LwX.keep2 (fun _ h => h.1) hy k3 hvr
          refine ⟨_, rfl, .inl ⟨rfl, _, SqL.of hy3⟩, _, rfl, pp, _, _, .ref q, rfl, rfl, SqL.of (sm3 _ _ hpp), atI_nat (j := 2) rfl, _, rfl, p, _, _, _, rfl, rfl, SqT.of (t13 _ _ h1), atI_nat (j := 0) rfl, q, _, _, vjv, rfl, rfl, SqT.of (sm3 _ _ hq), atI_nat (j := j) hvjv, _, rfl, _, rfl, ?_⟩
          refine ⟨vjv, vl, vr, jnOf b j, labT b l, labT b r, arrT b l, arrT b r, bitsT l, bitsT r, rfl, hja.tups (Tups.of sm3), hl3.imp (fun _ _ => trivial), hr3.imp (fun _ _ => trivial), by omega, arrT_len b okl (by omega), arrT_len b okr (by omega), by unfold bitsT; rw [List.length_map]; omega, by unfold bitsT; rw [List.length_map]; omega, fun a ha => by rw [hjn.ll]; exact lab_lt hbok l okl a ha, fun a ha => by rw [hjn.lr]; exact lab_lt hbok r okr a ha, fun H4 y s4 hy4l => ?_⟩
          have hy4 := s4 _ _ hy3
          refine ⟨D, _, _, rfl, rfl, hy4, below (m := 200000) (by have := hst2.len; rw [List.length_reverse] at this; simp at hle; omega), ?_⟩
          have t5 : Tups H4 (upd H4 D (.lst (ys2 ++ [y]))) := Tups.upd hy4
          refine ⟨_, _, _, ys2 ++ [y], .join j l r :: st, n, rfl, same_upd (sm3.trans s4) hD, t01.trans (t13.trans ((Tups.of s4).trans t5)), ?_, upd_same, ?_, hrn, by simp at hle ⊢; omega, fun u hu => ?_, ?_⟩
          · rw [upd_ne np0]
            refine s4 _ _ ?_
            rw [eH3, upd_ne np0, eH2, upd_ne np0]
            exact hp1
          · rw [List.reverse_cons]
            refine (hst2.imp fun _ _ h => LwX.keep2 (fun _ h => h.1) hy4 kp_upd ((LwX.keep2 (fun _ h => h.1) hy k3 h).same s4)).append ⟨?_, trivial⟩
            have e1 : bitsT (.join j l r) = bitsT l ++ bitsT r := List.map_append
            show LwX (fun a => a ≠ D ∧ H a = none) _ y _ _ (bitsT (.join j l r))
            rw [e1]
            refine LwX.keep2 (fun _ h => h.1) hy4 kp_upd (hy4l.imp fun a ha => ⟨fun e => ?_, sm3.free ha⟩)
            rw [e, hy3] at ha
            cases ha
          · rcases List.mem_cons.mp hu with e | hu
            · rw [e]
              exact ⟨hjlt, okl, okr⟩
            · exact hsok u (List.mem_cons_of_mem _ (List.mem_cons_of_mem _ hu))
          · have : lvL (Tm.join j l r :: st) = (leavesT l ++ leavesT r).length + lvL st := rfl
            rw [this, List.length_append]
            omega
    · rintro σ H1 ⟨y3, y4, y5, ys, st, n, rfl, sm, t01, hp1, hy, hst, hrn, hle, hsok, hcn⟩
      rw [hS.len, List.drop_length] at hrn
      have e : st = [t] := Option.some.inj hrn
      subst e
      obtain ⟨y, hy0, hyt⟩ := hst.get2 (i := 0) rfl
      exact ⟨_, rfl, D, _, _, y, rfl, rfl, SqL.of hy, atI_nat (j := 0) hy0, k H1 y sm (hyt.imp fun _ h => h.2)⟩
abbrev nTR0 : List Str := ["_law_built_here", "_law_track_here", "_law_place"]
theorem scTR0 : FnScope nTR0 ["_law_built_here", "_law_track_here"] (defScope sLTrack) := ⟨rfl, rfl, rfl, by decide +kernel, rfl, by decide +kernel, by decide +kernel⟩
theorem ok_l_track {f : Addr} {fd : FuncData} (F : Fun K "_law_track" "_law_track" sLTrack f fd) (T : Bare mg) : FnOk P w K mg base CX0 1 f fd ["_law_built_here", "_law_track_here"] spLTrack := by
  refine F.ok scTR0 (fun vs H Q E h => ?_) (fun cdv A outer s H vs Q E hr h => ?_)
  · obtain ⟨v, k, L, as, bs, rfl, _⟩ := h
    rfl
  · obtain ⟨v, n, L, as, bs, rfl, hv, hlb, hl, hrows, k⟩ := h
    obtain ⟨p, pl, pa, pb, zs, ws, rfl, h1, h2, h3, h4, h5, h6, _⟩ := hv
    refine ⟨_, (pss_one (ps_ret (pe_tupleOf (by rfl) T.tuple (pe_lc (own := [("_law_place", 2)]) (g := gName 2) rfl scTR0.nd (pi_range1 rfl T.range (pa_cons (pe_callB call_len_seq (by rfl) T.len PySem.boot_len (pa_cons (pe_ix ix_list (pv 0) pe_int (fun _ _ => rfl)) pa_nil)) pa_nil)) (blkOk_by (own := [("_law_place", 2)]) (N := nTR0) (sc := defScope sLTrack) (by decide +kernel)) (fun _ _ _ _ _ => pg_name (i := 2) scTR0.nd rfl (Or.inl rfl)) (fun _ _ _ _ _ => pts_one (pt_cmpR op_eq (pe_ix (ix_tup : IxR _ (rIxT K)) (pe_ix (ix_list : IxR _ (rIxL K)) (pe_ix (ix_list : IxR _ (rIxL K)) (pv 0) pe_int (fun _ _ => rfl)) (pv 2) (fun _ _ => rfl)) (pv 1) (fun _ _ => rfl)) pe_int (nomark _))) (fun _ _ _ _ _ => pv 2))))), ?_⟩
    refine ⟨_, rfl, p, _, _, .ref pl, rfl, rfl, SqL.of h1, atI_nat (j := 0) rfl, pl, _, rfl, .inl (SqL.of h2), ?_⟩
    rw [List.length_map]
    refine ⟨_, rfl, by omega, by omega, ?_⟩
    rw [Int.toNat_natCast]
    intro D hD
    refine lc_range (lo := 0) (n := L.length) (fun i H' => Same H H' ∧ H' D = some (.lst (((List.range i).filter fun p => decide ((bs.getD p []).getD n 0 = 1)).map vInt))) ⟨same_new hD, upd_same⟩ ?_ ?_
    · rintro i H1 hi ⟨sm, hd⟩
      have hib : i < bs.length := by omega
      obtain ⟨wv, hwv, q, rfl, hq⟩ := h6.get2 (i := i) (a := bs[i]) (List.getElem?_eq_getElem hib)
      have hnl : n < bs[i].length := hrows _ (List.getElem_mem hib)
      have ei : (0 : Int) + i = ((i : Nat) : Int) := by omega
      rw [ei]
      have eg : (bs.getD i []).getD n 0 = bs[i][n] := by
        rw [List.getD_eq_getElem?_getD (l := bs), List.getElem?_eq_getElem hib]
        show bs[i].getD n 0 = _
        rw [List.getD_eq_getElem?_getD, List.getElem?_eq_getElem hnl]
        rfl
      have ef : (List.range (i + 1)).filter (fun p => decide ((bs.getD p []).getD n 0 = 1)) = (List.range i).filter (fun p => decide ((bs.getD p []).getD n 0 = 1)) ++ (if bs[i][n] = 1 then [i] else []) := by
        rw [List.range_succ, List.filter_append]
        congr 1
        rw [List.filter_cons, eg]
        by_cases c : bs[i][n] = 1
        · rw [decide_eq_true c, if_pos rfl, if_pos c]; rfl
        · rw [decide_eq_false c, if_neg c]; rfl
      have lf := List.length_filter_le (fun p => decide ((bs.getD p []).getD n 0 = 1)) (List.range i)
      rw [List.length_range] at lf
      rw [ef]
      refine ⟨rfl, _, rfl, p, _, _, .ref pb, rfl, rfl, SqL.of (sm _ _ h1), atI_nat (j := 2) rfl, _, rfl, pb, _, _, .ref q, rfl, rfl, SqL.of (sm _ _ h5), atI_nat (j := i) hwv, _, rfl, q, _, _, vInt bs[i][n], rfl, rfl, SqT.of (sm _ _ hq), atI_nat (j := n) (by rw [List.getElem?_map, List.getElem?_eq_getElem hnl]; rfl), rfl, _, rfl, ?_⟩
      refine ite2 (fun z => ?_) (fun z => ?_)
      · have c : bs[i][n] = 1 := by
          have := V.int.inj (of_decide_eq_true z)
          omega
        rw [if_pos c]
        refine ⟨_, rfl, _, hd, below (m := 200) (by rw [List.length_map]; omega), same_upd sm hD, ?_⟩
        rw [upd_same, List.map_append]
        rfl
      · have c : ¬ bs[i][n] = 1 := fun c => z (decide_eq_true (by rw [c]; rfl))
        rw [if_neg c, List.append_nil]
        exact ⟨sm, hd⟩
    rintro H1 ⟨sm, hd⟩
    refine .inl ⟨D, _, rfl, SqL.of hd, fun q hq => ?_⟩
    have e3 := same_new (o := .tup (((List.range L.length).filter fun p => decide ((bs.getD p []).getD n 0 = 1)).map vInt)) hq
    exact k _ (.ref q) (sm.trans e3) ⟨q, rfl, upd_same⟩
end
end Fam

/-! Terms as data; sorted pairs; what the law's checks say of a whole term. -/
namespace Fam
open PySem L2 S5
open C8 (pss_cut tCut)
def dTm : Tm → PyData
  | .hole => .none
  | .leaf a bs => .tuple [.int (a : Int), dNs bs]
  | .join j l r => .tuple [.int (j : Int), dTm l, dTm r]
theorem dp_tm {K : PySem.W.Frag} {H : Hp} : ∀ {t : Tm} {v : V}, TmAt H v t → Dp K H v (dTm t)
  | .hole, v, h => by
    have e : v = .non := h
    subst e
    exact .non
  | .leaf a bs, _, ⟨p, q, e, h1, h2⟩ => by
    subst e
    exact .tup (SqT.of h1) (.cons (.int _) (.cons (dp_ns ⟨q, rfl, h2⟩) .nil))
  | .join j l r, _, ⟨p, x, y, e, h1, h2, h3⟩ => by
    subst e
    exact .tup (SqT.of h1) (.cons (.int _) (.cons (dp_tm h2) (.cons (dp_tm h3) .nil)))
theorem dTm_pl : ∀ t : Tm, plD (dTm t) = true
  | .hole => rfl
  | .leaf a bs => by
    show (true && (plD (dNs bs) && true)) = true
    rw [dNs_pl]
    rfl
  | .join j l r => by
    show (true && (plD (dTm l) && (plD (dTm r) && true))) = true
    rw [dTm_pl l, dTm_pl r]
    rfl
theorem dTm_depth : ∀ t : Tm, (dTm t).depth ≤ t.nodes + 3
  | .hole => by show PyData.depth .none ≤ _; simp [PyData.depth]
  | .leaf a bs => by
    have := dNs_depth bs
    show PyData.depth (.tuple [.int (a : Int), dNs bs]) ≤ 1 + 3
    simp only [PyData.depth, PyData.depthAll]
    omega
  | .join j l r => by
    have h1 := dTm_depth l
    have h2 := dTm_depth r
    show PyData.depth (.tuple [.int (j : Int), dTm l, dTm r]) ≤ l.nodes + r.nodes + 1 + 3
    simp only [PyData.depth, PyData.depthAll]
    omega
theorem dTm_sh {t : Tm} (h : t.nodes ≤ 60) : SeqAt.shaped (dTm t) = true := shaped_pl (dTm_pl t) (by have := dTm_depth t; omega)
theorem dTm_inj : ∀ {t u : Tm}, dTm t = dTm u → t = u
  | .hole, .hole, _ => rfl
  | .hole, .leaf _ _, h => by cases h
  | .hole, .join _ _ _, h => by cases h
  | .leaf _ _, .hole, h => by cases h
  | .leaf a bs, .leaf c ds, h => by
    have h1 := PyData.tuple.inj h
    injection h1 with h1 h2
    injection h2 with h2 _
    rw [Int.ofNat.inj (PyData.int.inj h1), dNs_inj h2]
  | .leaf _ _, .join _ _ _, h => by
    have h1 := PyData.tuple.inj h
    injection h1 with _ h1
    injection h1 with _ h1
    cases h1
  | .join _ _ _, .hole, h => by cases h
  | .join _ _ _, .leaf _ _, h => by
    have h1 := PyData.tuple.inj h
    injection h1 with _ h1
    injection h1 with _ h1
    cases h1
  | .join j l r, .join k m n, h => by
    have h1 := PyData.tuple.inj h
    injection h1 with h1 h2
    injection h2 with h2 h3
    injection h3 with h3 _
    rw [Int.ofNat.inj (PyData.int.inj h1), dTm_inj h2, dTm_inj h3]
def decTm : (a b : Tm) → Decidable (a = b)
  | .hole, .hole => Decidable.isTrue rfl
  | .hole, .leaf _ _ => Decidable.isFalse fun e => by cases e
  | .hole, .join _ _ _ => Decidable.isFalse fun e => by cases e
  | .leaf _ _, .hole => Decidable.isFalse fun e => by cases e
  | .leaf a bs, .leaf c ds => if h : a = c ∧ bs = ds then Decidable.isTrue (by rw [h.1, h.2]) else Decidable.isFalse fun e => by
      injection e with e1 e2
      exact h ⟨e1, e2⟩
  | .leaf _ _, .join _ _ _ => Decidable.isFalse fun e => by cases e
  | .join _ _ _, .hole => Decidable.isFalse fun e => by cases e
  | .join _ _ _, .leaf _ _ => Decidable.isFalse fun e => by cases e
  | .join j l r, .join k m n => match decTm l m, decTm r n with
    | Decidable.isTrue h1, Decidable.isTrue h2 => if h : j = k then Decidable.isTrue (by rw [h, h1, h2]) else Decidable.isFalse fun e => by
        injection e with e1 e2 e3
        exact h e1
    | Decidable.isFalse h1, _ => Decidable.isFalse fun e => by
        injection e with e1 e2 e3
        exact h1 e2
    | _, Decidable.isFalse h2 => Decidable.isFalse fun e => by
        injection e with e1 e2 e3
        exact h2 e3
instance : DecidableEq Tm := decTm
theorem tm_ne {K : PySem.W.Frag} {H : Hp} {v w : V} {t u : Tm} {Q : VK} (hv : TmAt H v t) (hw : TmAt H w u) (h1 : t.nodes ≤ 60) (h2 : u.nodes ≤ 60) (q : Q (.bl (!decide (t = u))) H) : rNeD K v w H Q := by
  refine ⟨dTm t, dTm u, dp_tm hv, dp_tm hw, dTm_sh h1, dTm_sh h2, ?_⟩
  rw [eqv_dec (p := t = u) (dTm_pl t) (dTm_pl u) ⟨dTm_inj, fun e => by rw [e]⟩]
  exact q
/-! ### a term, tried -/
def toTd : Tm → Td
  | .hole => .other .none
  | .leaf a bs => .other (.tuple [.int (a : Int), dNs bs])
  | .join j l r => .node (.int (j : Int)) (toTd l) (toTd r)
theorem td_tm {K : PySem.W.Frag} {H : Hp} {b : Bn} {m : Nat} (hm : m ≤ 100) : ∀ {t : Tm} {v : V}, TmG b m t → TmAt H v t → TdAt K H v (toTd t)
  | .hole, v, _, h => by
    have e : v = .non := h
    subst e
    exact ⟨.non, trivial, fun a bs e => (by cases e)⟩
  | .leaf a bs, _, g, h => by
    refine ⟨dp_tm h, trivial, fun c ds e => ?_⟩
    have e1 := PyData.tuple.inj e
    injection e1 with _ e1
    injection e1 with e1 _
    have e2 := PyData.tuple.inj e1
    rw [← e2, List.length_map, g.2.1]
    exact hm
  | .join j l r, _, g, ⟨p, x, y, e, h1, h2, h3⟩ => ⟨p, vInt j, x, y, e, h1, .int _, td_tm hm g.2.1 h2, td_tm hm g.2.2 h3⟩
theorem td_nodes : ∀ t : Tm, (toTd t).nodes = t.nodes
  | .hole => rfl
  | .leaf _ _ => rfl
  | .join j l r => by
    show (toTd l).nodes + (toTd r).nodes + 1 = l.nodes + r.nodes + 1
    rw [td_nodes l, td_nodes r]
theorem td_holes : ∀ t : Tm, holesT (toTd t) = holesM t
  | .hole => rfl
  | .leaf _ _ => rfl
  | .join j l r => by
    show holesT (toTd l) + holesT (toTd r) = _
    rw [td_holes l, td_holes r]
    rfl
theorem leaf_good {b : Bn} (hb : BnOk b) {m a : Nat} {bs : List Nat} (g : TmG b m (.leaf a bs)) : leafD b m (.tuple [.int (a : Int), dNs bs]) = true := by
  obtain ⟨h1, h2, h3⟩ := g
  show (labD b (.int (a : Int)) && bitsD m (dNs bs)) = true
  rw [Bool.and_eq_true]
  refine ⟨?_, ?_⟩
  · show (decide (0 ≤ (a : Int) ∧ (a : Int) < b.labels) && b.starts.any fun s => (s : Int) == (a : Int)) = true
    have := hb.s.1 a h1
    rw [decide_eq_true (by omega), Bool.true_and]
    exact List.any_eq_true.mpr ⟨a, h1, beq_self_eq_true _⟩
  · show bitsD m (.tuple (bs.map fun (n : Nat) => PyData.int (n : Int))) = true
    show (decide ((bs.map fun (n : Nat) => PyData.int (n : Int)).length = m) && (bs.map fun (n : Nat) => PyData.int (n : Int)).all fun d => betD d 0 1) = true
    rw [List.length_map, decide_eq_true h2, Bool.true_and, List.all_map, List.all_eq_true]
    intro x hx
    have := h3 x hx
    exact decide_eq_true ⟨by omega, by omega⟩
theorem join_good {b : Bn} {j : Nat} (h : j < b.joins.length) : joinD b (.int (j : Int)) = true := decide_eq_true ⟨by omega, by omega⟩
theorem good_first {b : Bn} (hb : BnOk b) {m : Nat} {hole : Bool} : ∀ {t : Tm} {p : List Nat}, TmG b m t → (hole = true ∨ holesM t = 0) → firstBad b m hole (toTd t) p = none
  | .hole, p, _, h => by
    rcases h with h | h
    · subst h
      rfl
    · cases h
  | .leaf a bs, p, g, _ => by
    show (if hole && false then none else if leafD b m (.tuple [.int (a : Int), dNs bs]) then none else some p) = none
    rw [leaf_good hb g, Bool.and_false]
    rfl
  | .join j l r, p, g, h => by
    have hl : hole = true ∨ holesM l = 0 := by
      rcases h with h | h
      · exact .inl h
      · have : holesM l + holesM r = 0 := h
        exact .inr (by omega)
    have hr : hole = true ∨ holesM r = 0 := by
      rcases h with h | h
      · exact .inl h
      · have : holesM l + holesM r = 0 := h
        exact .inr (by omega)
    show (if joinD b (.int (j : Int)) then (firstBad b m hole (toTd l) (p ++ [0])).or (firstBad b m hole (toTd r) (p ++ [1])) else some p) = none
    rw [join_good g.1, good_first hb g.2.1 hl, good_first hb g.2.2 hr]
    rfl
theorem good_whole {b : Bn} (hb : BnOk b) {m : Nat} {t : Tm} (g : TmG b m t) (h : holesM t = 0) : checkT b m false (toTd t) = none := by
  unfold checkT
  rw [good_first hb g (.inr h)]
  rfl
theorem good_open {b : Bn} (hb : BnOk b) {m : Nat} {t : Tm} (g : TmG b m t) (h : holesM t = 1) : checkT b m true (toTd t) = none := by
  unfold checkT
  rw [good_first hb g (.inl rfl), td_holes, h]
  rfl
/-! ### rows in their order -/
theorem plt_irr (a : Arr) : ¬ plt a a := by
  rintro (h | ⟨_, h⟩) <;> omega
theorem plt_asym {a b : Arr} (h : plt a b) : ¬ plt b a := by
  rcases h with h | ⟨h1, h⟩ <;> rintro (z | ⟨z1, z⟩) <;> omega
theorem asc_eq : ∀ {xs ys : List Arr}, xs.Perm ys → xs.Pairwise plt → ys.Pairwise plt → xs = ys
  | [], ys, p, _, _ => by rw [List.nil_perm.mp p]
  | x :: xs, [], p, _, _ => by cases p.length_eq
  | x :: xs, y :: ys, p, hx, hy => by
    obtain ⟨h1, h2⟩ := List.pairwise_cons.mp hx
    obtain ⟨h3, h4⟩ := List.pairwise_cons.mp hy
    have e : x = y := by
      rcases List.mem_cons.mp (p.mem_iff.mp (List.mem_cons_self ..)) with e | e
      · exact e
      · rcases List.mem_cons.mp (p.mem_iff.mpr (List.mem_cons_self ..)) with e' | e'
        · exact e'.symm
        · exact absurd (h3 x e) (plt_asym (h1 y e'))
    subst e
    rw [asc_eq (List.Perm.cons_inv p) h2 h4]
/-- sorted(xs), xs a list of pairs, no two the same -/
theorem srt_pairs {H : Hp} {xs : List V} {as : List Arr} (hA : Al (PairAt H) xs as) (nd : as.Nodup) : ∃ ta : List Addr, xs = ta.map V.ref ∧ (∀ t ∈ ta, H t = some (.tup ((kOf H t).map V.int))) ∧
    ∀ ts' : List Addr, ts'.Perm ta → ts'.Pairwise (fun p q => HT.lexLt (kOf H q) (kOf H p) = false) → ∃ ar, Al (PairAt H) (ts'.map V.ref) ar ∧ ar.Perm as ∧ ar.Pairwise plt := by
  obtain ⟨ts, e1, e2, e3⟩ := hA.prs.refs
  obtain ⟨ta, eta⟩ : ∃ ta : List Addr, ta = ts.map Prod.fst := ⟨_, rfl⟩
  have exs : xs = ta.map V.ref := by rw [e1, eta, List.map_map]; rfl
  rw [exs] at hA
  refine ⟨ta, exs, fun t ht => ?_, fun ts' hts hs => ?_⟩
  · rw [eta] at ht
    obtain ⟨z, hz, rfl⟩ := List.mem_map.mp ht
    rw [kOf_eq (e3 z hz)]
    exact e3 z hz
  obtain ⟨ar, par, hA3⟩ := Al.perm (hts.symm.map V.ref) hA
  have ndr : ar.Nodup := par.nodup_iff.mp nd
  have w1 : (ts'.map V.ref).Pairwise fun u v => ∀ a b, PairAt H u a → PairAt H v b → ¬ plt b a := List.pairwise_map.mpr (hs.imp fun {u v} e a b ha hb z => by
    obtain ⟨u', e', hu⟩ := ha
    cases e'
    obtain ⟨v', e', hv⟩ := hb
    cases e'
    rw [vI] at hu hv
    rw [kOf_eq hu, kOf_eq hv] at e
    rw [(plt_lex b a).mpr z] at e
    cases e)
  have w2 : ar.Pairwise fun a b => ¬ plt b a := Al.pairwise (R := PairAt H) (fun u v a b ha hb f => f a b ha hb) w1 hA3
  refine ⟨ar, hA3, par.symm, (List.Pairwise.and w2 ndr).imp fun {a b} ⟨z1, z2⟩ => ?_⟩
  rcases plt_tri a b with z | z | z
  · exact z
  · exact absurd z z2
  · exact absurd z z1
/-! ### parts that are wide -/
def wideP : Tm → Bool
  | .join _ _ (.join _ _ _) => true
  | _ => false
theorem wide_app (xs ys : List Tm) : (xs ++ ys).filter wideP = xs.filter wideP ++ ys.filter wideP := List.filter_append ..
theorem narrow_wide : ∀ t : Tm, holesM t = 0 → narrowT t = decide (((postP t).filter wideP).length = 0)
  | .hole, h => by cases h
  | .leaf _ _, _ => rfl
  | .join j l (.leaf a bs), h => by
    have h' : holesM l = 0 := h
    show narrowT l = decide (((postP l ++ [Tm.leaf a bs] ++ [Tm.join j l (.leaf a bs)]).filter wideP).length = 0)
    rw [narrow_wide l h', wide_app, wide_app]
    show _ = decide ((_ ++ [] ++ []).length = 0)
    rw [List.append_nil, List.append_nil]
  | .join j l .hole, h => by
    have h' : holesM l + 1 = 0 := h
    omega
  | .join j l (.join k m n), h => by
    show false = decide (((postP l ++ postP (.join k m n) ++ [Tm.join j l (.join k m n)]).filter wideP).length = 0)
    rw [wide_app]
    symm
    refine decide_eq_false fun z => ?_
    rw [List.length_append] at z
    have : ([Tm.join j l (.join k m n)].filter wideP).length = 1 := rfl
    omega
/-! ### leaves of a term with m tracks -/
theorem lv_len {b : Bn} {m : Nat} : ∀ {t : Tm}, TmG b m t → ∀ c ∈ leavesT t, c.1 ∈ b.starts ∧ c.2.length = m ∧ GLabs 2 c.2
  | .hole, _, _, h => by cases h
  | .leaf a bs, g, c, h => by rw [List.mem_singleton.mp h]; exact g
  | .join j l r, g, c, h => by
    rcases List.mem_append.mp h with h | h
    · exact lv_len g.2.1 c h
    · exact lv_len g.2.2 c h
theorem many_m {b : Bn} {m : Nat} {t : Tm} (g : TmG b m t) (h : holesM t = 0) : manyT t = m := by
  have h1 := tm_pos b t (g.ok h)
  have h2 := lv_len g
  unfold manyT
  cases e : leavesT t with
  | nil => rw [e] at h1; cases h1
  | cons c cs =>
    rw [e] at h2
    exact (h2 c (List.mem_cons_self ..)).2.1
theorem track_eq {b : Bn} {m k : Nat} {t : Tm} (g : TmG b m t) : ((List.range (leavesT t).length).filter fun p => decide (((bitsT t).getD p []).getD k 0 = 1)) = trackL (leavesT t) k := by
  unfold trackL
  refine List.filter_congr fun p hp => decide_eq_decide.mpr ?_
  have hlt : p < (leavesT t).length := List.mem_range.mp hp
  have e1 : (bitsT t).getD p [] = (leavesT t)[p].2 := by
    unfold bitsT
    rw [List.getD_eq_getElem?_getD, List.getElem?_map, List.getElem?_eq_getElem hlt]
    rfl
  have e2 : (leavesT t).getD p (0, []) = (leavesT t)[p] := by
    rw [List.getD_eq_getElem?_getD, List.getElem?_eq_getElem hlt]
    rfl
  rw [e1, e2]
  have h2 := (lv_len g _ (List.getElem_mem hlt)).2.2
  rcases Nat.lt_or_ge k (leavesT t)[p].2.length with q | q
  · have := h2 _ (List.getElem_mem q)
    rw [List.getD_eq_getElem?_getD, List.getElem?_eq_getElem q]
    show (leavesT t)[p].2[k] = 1 ↔ (leavesT t)[p].2[k] ≠ 0
    omega
  · rw [List.getD_eq_getElem?_getD, List.getElem?_eq_none q]
    show 0 = 1 ↔ (0 : Nat) ≠ 0
    omega
theorem asc_nat : ∀ {xs ys : List Nat}, xs.Pairwise (· < ·) → ys.Pairwise (· < ·) → (∀ y, y ∈ xs ↔ y ∈ ys) → xs = ys
  | [], [], _, _, _ => rfl
  | [], y :: ys, _, _, h => by cases (h y).mpr (List.mem_cons_self ..)
  | x :: xs, [], _, _, h => by cases (h x).mp (List.mem_cons_self ..)
  | x :: xs, y :: ys, hx, hy, h => by
    obtain ⟨h1, h2⟩ := List.pairwise_cons.mp hx
    obtain ⟨h3, h4⟩ := List.pairwise_cons.mp hy
    have e : x = y := by
      rcases List.mem_cons.mp ((h x).mp (List.mem_cons_self ..)) with e | e
      · exact e
      · rcases List.mem_cons.mp ((h y).mpr (List.mem_cons_self ..)) with e' | e'
        · exact e'.symm
        · have := h3 x e
          have := h1 y e'
          omega
    subst e
    rw [asc_nat h2 h4 fun z => ?_]
    have hz := h z
    rw [List.mem_cons, List.mem_cons] at hz
    constructor
    · intro q
      rcases hz.mp (.inr q) with e | e
      · have := h1 z q
        omega
      · exact e
    · intro q
      rcases hz.mpr (.inr q) with e | e
      · have := h3 z q
        omega
      · exact e
theorem goals_eq {ar : List Arr} {n x : Nat} (g : ∀ a ∈ ar, a.1 < n ∧ a.2 < n) (srt : ar.Pairwise plt) : goalsAt ar x = (List.range n).filter fun y => decide ((x, y) ∈ ar) := by
  have p1 : (goalsAt ar x).Pairwise (· < ·) := by
    unfold goalsAt
    refine List.pairwise_map.mpr ?_
    have s2 := List.Pairwise.filter (fun a => a.1 == x) srt
    refine (List.pairwise_filter.mpr ?_)
    refine srt.imp fun {a b} h ha hb => ?_
    have ha' : a.1 = x := beq_iff_eq.mp ha
    have hb' : b.1 = x := beq_iff_eq.mp hb
    rcases h with h | ⟨_, h⟩
    · omega
    · exact h
  have p2 : ((List.range n).filter fun y => decide ((x, y) ∈ ar)).Pairwise (· < ·) := List.Pairwise.filter _ List.pairwise_lt_range
  have m1 : ∀ y, y ∈ goalsAt ar x ↔ y ∈ (List.range n).filter fun y => decide ((x, y) ∈ ar) := fun y => by
    rw [mem_goals, List.mem_filter, List.mem_range, decide_eq_true_eq]
    exact ⟨fun h => ⟨(g _ h).2, h⟩, fun h => h.2⟩
  exact asc_nat p1 p2 m1
end Fam

/-! The web of a drawn term is as the law builds it. -/
namespace Fam
open PySem L2 S5 ItX OwnX
open C8 (pss_cut tCut)
structure CalD (P : Program) (w : World) (K : PySem.W.Frag) (mg : Str → Option Value) (base : Heap) (k : Nat) (x : Str) (ps : List Str) (dvs : List V) (sp : Sp) : Prop where
  ex : ∃ (g : Addr) (gd : FuncData) (ds : List Value), FnOk P w K mg base (L2.CX P w) k g gd ps sp ∧ Binds K gd ps ds ∧ Vals dvs ds ∧ PySem.W.keepIn K (.ref g) = true ∧ mg x = some (.ref g)
theorem no_right : ∀ (t : Tm) {j : Nat} {l : Tm}, holesM t = 0 → ¬ Tm.join j l .hole ∈ postP t
  | .hole, j, l, h, _ => by cases h
  | .leaf a bs, j, l, _, hm => by cases List.mem_singleton.mp hm
  | .join j0 l0 r0, j, l, h, hm => by
    have h' : holesM l0 + holesM r0 = 0 := h
    rcases List.mem_append.mp hm with hm | hm
    · rcases List.mem_append.mp hm with hm | hm
      · exact no_right l0 (by omega) hm
      · exact no_right r0 (by omega) hm
    · have e := List.mem_singleton.mp hm
      injection e with e1 e2 e3
      rw [← e3] at h'
      have : holesM Tm.hole = 1 := rfl
      omega
def spLWebOk (C CW : Addr) : Sp := fun vs H Q _ => ∃ (x : Addr) (v vt : V) (b : Bn) (t : Tm) (m : Nat), vs = [.ref x, v, vt, vInt m] ∧ BAt C H x b ∧ PartsAt H v b ∧ TmAt H vt t ∧ TmG b m t ∧ holesM t = 0 ∧ (leavesT t).length ≤ 12 ∧ m ≤ 100 ∧ ∀ H', Same H H' → Q (.bl true) H'
theorem dp_rowI {K : PySem.W.Frag} {H : Hp} {p : Addr} {l : List Nat} (h : H p = some (.lst (l.map vInt))) : Dp K H (.ref p) (.list (l.map fun (n : Nat) => PyData.int (n : Int))) := .lst (SqL.of h) (dp_nums l)
def dLs (l : List Nat) : PyData := .list (l.map fun (n : Nat) => PyData.int (n : Int))
theorem dLs_pl (l : List Nat) : plD (dLs l) = true := plA_map _ (fun _ => rfl) l
theorem dLs_sh (l : List Nat) : SeqAt.shaped (dLs l) = true := shaped_pl (dLs_pl l) (by
  have := depthA_map (fun (n : Nat) => PyData.int (n : Int)) 1 (fun a => by simp [PyData.depth]) l
  unfold dLs
  simp only [PyData.depth]
  omega)
theorem dNs_sh (l : List Nat) : SeqAt.shaped (dNs l) = true := shaped_pl (dNs_pl l) (Nat.le_trans (dNs_depth l) (by decide))
/-- the same numbers: no difference -/
theorem ns_same {K : PySem.W.Frag} {H : Hp} {x y : V} {l : List Nat} {Q : VK} (hx : PlacesAt H x l) (hy : PlacesAt H y l) (q : Q (.bl false) H) : rNeD K x y H Q := by
  refine ⟨dNs l, dNs l, dp_ns hx, dp_ns hy, dNs_sh l, dNs_sh l, ?_⟩
  rw [eqv_dec (p := True) (dNs_pl l) (dNs_pl l) ⟨fun _ => trivial, fun _ => rfl⟩]
  exact q
theorem ls_same {K : PySem.W.Frag} {H : Hp} {p q : Addr} {l : List Nat} {Q : VK} (hx : H p = some (.lst (l.map vInt))) (hy : H q = some (.lst (l.map vInt))) (k : Q (.bl false) H) : rNeD K (.ref p) (.ref q) H Q := by
  refine ⟨dLs l, dLs l, dp_rowI hx, dp_rowI hy, dLs_sh l, dLs_sh l, ?_⟩
  rw [eqv_dec (p := True) (dLs_pl l) (dLs_pl l) ⟨fun _ => trivial, fun _ => rfl⟩]
  exact k
theorem nss_same {K : PySem.W.Frag} {H : Hp} {p q : Addr} {xs ys : List V} {l : List (List Nat)} {Q : VK} (hp : H p = some (.tup xs)) (hx : Al (PlacesAt H) xs l) (hq : H q = some (.tup ys)) (hy : Al (PlacesAt H) ys l) (k : Q (.bl false) H) : rNeD K (.ref p) (.ref q) H Q := by
  refine ⟨dNss l, dNss l, .tup (SqT.of hp) (dp_al (fun _ _ h => dp_ns h) hx), .tup (SqT.of hq) (dp_al (fun _ _ h => dp_ns h) hy), dNss_sh l, dNss_sh l, ?_⟩
  rw [eqv_dec (p := True) (dNss_pl l) (dNss_pl l) ⟨fun _ => trivial, fun _ => rfl⟩]
  exact k
def dNsL (ls : List (List Nat)) : PyData := .list (ls.map dNs)
theorem dNsL_pl (l : List (List Nat)) : plD (dNsL l) = true := plA_map _ dNs_pl l
theorem dNsL_sh (l : List (List Nat)) : SeqAt.shaped (dNsL l) = true := shaped_pl (dNsL_pl l) (by
  have := depthA_map dNs 2 dNs_depth l
  unfold dNsL
  simp only [PyData.depth]
  omega)
theorem nsl_same {K : PySem.W.Frag} {H : Hp} {p q : Addr} {xs ys : List V} {l : List (List Nat)} {Q : VK} (hp : H p = some (.lst xs)) (hx : Al (PlacesAt H) xs l) (hq : H q = some (.lst ys)) (hy : Al (PlacesAt H) ys l) (k : Q (.bl false) H) : rNeD K (.ref p) (.ref q) H Q := by
  refine ⟨dNsL l, dNsL l, .lst (SqL.of hp) (dp_al (fun _ _ h => dp_ns h) hx), .lst (SqL.of hq) (dp_al (fun _ _ h => dp_ns h) hy), dNsL_sh l, dNsL_sh l, ?_⟩
  rw [eqv_dec (p := True) (dNsL_pl l) (dNsL_pl l) ⟨fun _ => trivial, fun _ => rfl⟩]
  exact k
section
variable {P : Program} {w : World} {K : PySem.W.Frag} {mg : Str → Option Value} {base : Heap} {C CW : Addr}
abbrev nWK2 : List Str := ["_law_bench", "_law_parts", "_law_term_here", "_law_many", "_law_built_here", "_law_web", "_law_size", "_law_arrows", "_law_x", "_law_wide", "_law_pair", "_law_y", "_law_track_here", "_law_part_here"]
theorem scWK2 : FnScope nWK2 ["_law_bench", "_law_parts", "_law_term_here", "_law_many"] (defScope sLWebOk) := ⟨rfl, rfl, rfl, by decide +kernel, rfl, by decide +kernel, by decide +kernel⟩
theorem ok_l_web {B f gi gl gs ga : Addr} {fd gld gsd gad : FuncData} (F : Fun K "_law_web_ok" "_law_web_ok" sLWebOk f fd) (T : Bare mg) (WC : WebC K CW) (OW : OwnIt P w K mg base CW gi "arrows")
    (LN : DunO K CW "__len__" gl) (ok_wl : FnOk P w K mg base CX0 1 gl gld ["self"] (spWebLen CW)) (b_wl : Binds K gld ["self"] [])
    (M_sent : Meth K CW "sent" gs) (ok_sent : FnOk P w K mg base CX0 4 gs gsd ["self", "x"] (spWebSent CW)) (b_sent : Binds K gsd ["self", "x"] [])
    (M_arrow : Meth K CW "arrow" ga) (ok_arrow : FnOk P w K mg base CX0 4 ga gad ["self", "x", "y"] (spWebArrow CW)) (b_arrow : Binds K gad ["self", "x", "y"] [])
    (GW : Cal P w K mg base 1 "_law_walk" ["_law_term_here"] spLWalk) (GB : Cal P w K mg base 2 "_law_built" ["_law_parts", "_law_term_here"] spLBuilt) (GWb : Cal P w K mg base 7 "web_of" ["bench", "term"] (spWebOf C CW)) (GLb : Cal P w K mg base 7 "labels_of" ["bench", "term"] (spLabelsOf C CW))
    (GI : Cal P w K mg base 1 "_law_int" ["_law_value"] spLawInt) (GTr : Cal P w K mg base 1 "_law_track" ["_law_built_here", "_law_track_here"] spLTrack) (GTo : Cal P w K mg base 4 "tracks_of" ["term"] spTracksOf) (GN : Cal P w K mg base 1 "is_narrow" ["term"] spIsNarrow)
    (GS : Cal P w K mg base 3 "size_of" ["term"] spSizeOf) (GM : Cal P w K mg base 3 "many_of" ["term"] spManyOf) (GC : CalD P w K mg base 4 "check_term" ["bench", "term", "many", "hole"] [.bl false] (spCheckTerm K C B)) : FnOk P w K mg base CX0 8 f fd ["_law_bench", "_law_parts", "_law_term_here", "_law_many"] (spLWebOk C CW) := by
  obtain ⟨_, _, ok_wk, b_wk, k_wk, m_wk⟩ := GW.ex
  obtain ⟨_, _, ok_lb, b_lb, k_lb, m_lb⟩ := GB.ex
  obtain ⟨_, _, ok_wb, b_wb, k_wb, m_wb⟩ := GWb.ex
  obtain ⟨_, _, ok_lb2, b_lb2, k_lb2, m_lb2⟩ := GLb.ex
  obtain ⟨_, _, ok_li, b_li, k_li, m_li⟩ := GI.ex
  obtain ⟨_, _, ok_tr, b_tr, k_tr, m_tr⟩ := GTr.ex
  obtain ⟨_, _, ok_tof, b_tof, k_tof, m_tof⟩ := GTo.ex
  obtain ⟨_, _, ok_na, b_na, k_na, m_na⟩ := GN.ex
  obtain ⟨_, _, ok_sz, b_sz, k_sz, m_sz⟩ := GS.ex
  obtain ⟨_, _, ok_mo, b_mo, k_mo, m_mo⟩ := GM.ex
  obtain ⟨_, _, _, ok_ct0, b_ct, v_ct, k_ct, m_ct⟩ := GC.ex
  have ok_ct := ok_noex ok_ct0
  refine F.ok scWK2 (fun vs H Q E h => ?_) (fun cdv A outer s H vs Q E hr h => ?_)
  · obtain ⟨x, v, vt, b, t, m, rfl, _⟩ := h
    rfl
  · obtain ⟨x, v, vt, b, t, m, rfl, hB, hP, ht, hg, hwh, hl12, hm, k⟩ := h
    have hr_wb := hr
    have hr_lb2 := hr
    have hr_ct := hr.mono (j := 4) (by decide)
    have hr_sent := hr.mono (j := 4) (by decide)
    have hr_arrow := hr.mono (j := 4) (by decide)
    have hr_tof := hr.mono (j := 4) (by decide)
    have hr_sz := hr.mono (j := 3) (by decide)
    have hr_mo := hr.mono (j := 3) (by decide)
    have hr_lb := hr.mono (j := 2) (by decide)
    have hr_wl := hr.mono (j := 2) (by decide)
    have hr_1 := hr.mono (j := 1) (by decide)
    have hr_wk := hr_1
    have hr_li := hr_1
    have hr_tr := hr_1
    have hr_na := hr_1
    refine ⟨_, (pss_cons (ps_set (i := 4) scWK2.nd rfl (Or.inr rfl) (pe_call ok_lb hr_lb rfl m_lb k_lb b_lb .nil pass0 (pa_cons (pv 1) (pa_cons (pv 2) pa_nil))))
      (pss_cons (ps_set (i := 5) scWK2.nd rfl (Or.inr rfl) (pe_call ok_wb hr_wb rfl m_wb k_wb b_wb .nil pass0 (pa_cons (pv 0) (pa_cons (pv 2) pa_nil))))
      (pss_cons (ps_set (i := 6) scWK2.nd rfl (Or.inl rfl) (pe_callB call_len_seq (by rfl) T.len PySem.boot_len (pa_cons (pe_ix ix_list (pv 4) pe_int (fun _ _ => rfl)) pa_nil)))
      (pss_cons (ps_set (i := 7) scWK2.nd rfl (Or.inr rfl) (pe_tupleOf (by rfl) T.tuple (pe_callB (cr_sortedTA hr.units) (by rfl) T.sorted (by decide +kernel) (pa_cons (pe_ix ix_list (pv 4) pe_int (fun _ _ => rfl)) pa_nil))))
      (pss_cons (ps_if (PW.pt (pw_or (pt_not (pt_val (pe_call ok_li hr_li rfl m_li k_li b_li .nil pass0 (pa_cons (pe_fld (pv 5) rfl) pa_nil)))) (pw_or (pt_cmpR op_ne (pe_fld (pv 5) rfl) (pv 6) (nomark _)) (pw_or (pt_cmpR op_ne (pe_callB (cr_lenO LN.at_ LN.fn ok_wl hr_wl b_wl pass0) (by rfl) T.len PySem.boot_len (pa_cons (pv 5) pa_nil)) (pv 6) (nomark _)) (pw_or1 (pt_cmpR (op_neD hr.units) (pe_fld (pv 5) rfl) (pv 7) (nomark _))))))) (pss_one (ps_ret pe_bl)) pss_nil)
      (pss_cons (ps_if (PW.pt (pw_or (pt_cmpR (op_neD hr.units) (pe_lc (own := [("_law_pair", 10)]) (g := gName 10) (tt := tYes) rfl scWK2.nd (pi_own OW hr_1 (pv 5)) (blkOk_by (own := [("_law_pair", 10)]) (N := nWK2) (sc := defScope sLWebOk) (by decide +kernel)) (fun _ _ _ _ _ => pg_name (i := 10) scWK2.nd rfl (Or.inl rfl)) (fun _ _ _ _ _ => pts_nil) (fun _ _ _ _ _ => pv 10)) (pe_callTy call_list_of (by rfl) T.list (by decide +kernel) (pa_cons (pv 7) pa_nil)) (nomark _)) (pw_or1 (pt_cmpR (op_neD hr.units) (pe_call ok_lb2 hr_lb2 rfl m_lb2 k_lb2 b_lb2 .nil pass0 (pa_cons (pv 0) (pa_cons (pv 2) pa_nil))) (pe_tupleOf (by rfl) T.tuple (pe_ix ix_list (pv 4) pe_int (fun _ _ => rfl))) (nomark _))))) (pss_one (ps_ret pe_bl)) pss_nil)
      (pss_cons (ps_for PassesOwn.never rfl (pi_range1 rfl T.range (pa_cons (pv 6) pa_nil)) (pg_name (i := 8) scWK2.nd rfl (Or.inr rfl))
          (pss_cons (ps_if (pt_cmpR (op_neD hr.units) (pe_meth (pv 5) WC.cl M_sent ok_sent hr_sent b_sent .nil pass0 (pa_cons (pv 8) pa_nil)) (pe_tupleOf (by rfl) T.tuple (pe_lc (own := [("_law_y", 11)]) (g := gName 11) rfl scWK2.nd (pi_range1 rfl T.range (pa_cons (pv 6) pa_nil)) (blkOk_by (own := [("_law_y", 11)]) (N := nWK2) (sc := defScope sLWebOk) (by decide +kernel)) (fun _ _ _ _ _ => pg_name (i := 11) scWK2.nd rfl (Or.inl rfl)) (fun _ _ _ _ _ => pts_one (pt_cmpR (op_inDT hr.u65 : OpR _ _ (rInDT K)) (pe_tup (pa_cons (pv 8) (pa_cons (pv 11) pa_nil))) (pv 7) (by rfl))) (fun _ _ _ _ _ => pv 11))) (nomark _)) (pss_one (ps_ret pe_bl)) pss_nil)
          (pss_one (ps_if (pt_cmpR (op_neD hr.units) (pe_lc (own := [("_law_y", 11)]) (g := gName 11) rfl scWK2.nd (pi_range1 rfl T.range (pa_cons (pv 6) pa_nil)) (blkOk_by (own := [("_law_y", 11)]) (N := nWK2) (sc := defScope sLWebOk) (by decide +kernel)) (fun _ _ _ _ _ => pg_name (i := 11) scWK2.nd rfl (Or.inl rfl)) (fun _ _ _ _ _ => pts_one (pt_val (pe_meth (pv 5) WC.cl M_arrow ok_arrow hr_arrow b_arrow .nil pass0 (pa_cons (pv 8) (pa_cons (pv 11) pa_nil))))) (fun _ _ _ _ _ => pv 11)) (pe_callTy call_list_of (by rfl) T.list (by decide +kernel) (pa_cons (pe_meth (pv 5) WC.cl M_sent ok_sent hr_sent b_sent .nil pass0 (pa_cons (pv 8) pa_nil)) pa_nil)) (nomark _)) (pss_one (ps_ret pe_bl)) pss_nil))))
      (pss_cons (ps_if (pt_cmpR (op_neD hr.units) (pe_call ok_tof hr_tof rfl m_tof k_tof b_tof .nil pass0 (pa_cons (pv 2) pa_nil)) (pe_tupleOf (by rfl) T.tuple (pe_lc (own := [("_law_track_here", 12)]) (g := gName 12) (tt := tYes) rfl scWK2.nd (pi_range1 rfl T.range (pa_cons (pv 3) pa_nil)) (blkOk_by (own := [("_law_track_here", 12)]) (N := nWK2) (sc := defScope sLWebOk) (by decide +kernel)) (fun _ _ _ _ _ => pg_name (i := 12) scWK2.nd rfl (Or.inl rfl)) (fun _ _ _ _ _ => pts_nil) (fun _ _ _ _ _ => pe_call ok_tr hr_tr rfl m_tr k_tr b_tr .nil pass0 (pa_cons (pv 4) (pa_cons (pv 12) pa_nil))))) (nomark _)) (pss_one (ps_ret pe_bl)) pss_nil)
      (pss_cons (ps_setLc (i := 9) (own := [("_law_part_here", 13)]) (g := gName 13) (by rfl) scWK2.nd rfl rfl (sw_true rfl rfl rfl (by decide +kernel)) (pi_list (pe_call ok_wk hr_wk rfl m_wk k_wk b_wk .nil pass0 (pa_cons (pv 2) pa_nil))) (blkOk_by (own := [("_law_part_here", 13)]) (N := nWK2) (sc := defScope sLWebOk) (by decide +kernel)) (fun _ _ _ _ _ => pg_name (i := 13) scWK2.nd rfl (Or.inl rfl)) (fun _ _ _ _ _ => pts_one (PW.pt (pw_and (pt_cmpR op_eq (pe_callB (call_len_seq : CallR _ (.builtin "len") (rLenS K)) (by rfl) T.len PySem.boot_len (pa_cons (pv 13) pa_nil)) pe_int (nomark _)) (pw_and1 (pt_cmpR op_eq (pe_callB (call_len_seq : CallR _ (.builtin "len") (rLenS K)) (by rfl) T.len PySem.boot_len (pa_cons (pe_ix (ix_tup : IxR _ (rIxT K)) (pv 13) pe_int (fun _ _ => rfl)) pa_nil)) pe_int (nomark _)))))) (fun _ _ _ _ _ => pv 13))
      (pss_cons (ps_if (pt_cmpR op_ne (pe_call ok_na hr_na rfl m_na k_na b_na .nil pass0 (pa_cons (pv 2) pa_nil)) (pe_cmpR op_eq (pe_callB call_len_seq (by rfl) T.len PySem.boot_len (pa_cons (pv 9) pa_nil)) pe_int (nomark _)) (nomark _)) (pss_one (ps_ret pe_bl)) pss_nil)
      (pss_one (ps_ret (pe_and (pe_cmpR op_eq (pe_call ok_sz hr_sz rfl m_sz k_sz b_sz .nil pass0 (pa_cons (pv 2) pa_nil)) (pv 6) (nomark _)) (pe_and (pe_cmpR op_eq (pe_call ok_mo hr_mo rfl m_mo k_mo b_mo .nil pass0 (pa_cons (pv 2) pa_nil)) (pv 3) (nomark _)) (pe_one (pe_cmpR op_isN (pe_call ok_ct hr_ct rfl m_ct k_ct b_ct v_ct pass0 (pa_cons (pv 0) (pa_cons (pv 2) (pa_cons (pv 3) pa_nil)))) pe_non (nomark _))))))))))))))))), ?_⟩
    have hok := hg.ok hwh
    have hno := nodesM t
    have hb := hB.ok
    have ell := labT_len b t hok
    have hn1 := tm_pos b t hok
    obtain ⟨n, en⟩ : ∃ n, n = (leavesT t).length := ⟨_, rfl⟩
    rw [← en] at ell hl12 hn1
    refine ⟨_, rfl, _, rfl, v, vt, b, t, rfl, hP, hb, ht, hok, by omega, by omega, fun H1 vb s1 hvb => ?_⟩
    refine ⟨_, rfl, _, rfl, x, vt, b, t, rfl, hB.same s1, ht.same s1, hok, by omega, by omega, fun H2 y ar s2 hy har => ?_⟩
    obtain ⟨p, pl, pa, pb, zs, ws, rfl, g1, g2, g3, g4, g5, g6, _⟩ := hvb.same s2
    have s02 := s1.trans s2
    rw [← en] at hy
    refine ⟨_, rfl, p, _, _, .ref pl, rfl, rfl, SqL.of g1, atI_nat (j := 0) rfl, pl, _, rfl, .inl (SqL.of g2), ?_⟩
    rw [List.length_map, ell]
    refine ⟨_, rfl, p, _, _, .ref pa, rfl, rfl, SqL.of g1, atI_nat (j := 1) rfl, ?_⟩
    obtain ⟨ta, exs, hkt, hso⟩ := srt_pairs g4 (arr_good b t).2
    refine ⟨pa, ta, kOf H2, rfl, by rw [← exs]; exact SqL.of g3, hkt, fun ts' q hts hs hq => ?_⟩
    obtain ⟨ar2, hz2, par2, asc2⟩ := hso ts' hts hs
    obtain ⟨zs2, ezs⟩ : ∃ zs2, zs2 = ts'.map V.ref := ⟨_, rfl⟩
    rw [← ezs] at hz2 ⊢
    have e2 : ar2 = ar := asc_eq (par2.trans har.symm) asc2 hy.asc
    subst e2
    have s3 := same_new (o := .lst zs2) hq
    refine .inl ⟨q, _, rfl, SqL.of upd_same, fun q2 hq2 => ?_⟩
    have s4 := same_new (o := .tup zs2) hq2
    have s34 := s3.trans s4
    have hz4 : Al (PairAt (upd (upd H2 q (.lst zs2)) q2 (.tup zs2))) zs2 ar2 := hz2.imp fun _ _ h => h.tups (Tups.of s34)
    have hq24 : (upd (upd H2 q (.lst zs2)) q2 (.tup zs2)) q2 = some (.tup zs2) := upd_same
    have hy4 := hy.same s34
    have g14 := s34 _ _ g1
    have g24 := s34 _ _ g2
    have g54 := s34 _ _ g5
    have g64 := g6.imp fun _ _ h => PlacesAt.tups (Tups.of s34) h
    have hL4 : LwX (fun _ => True) (upd (upd H2 q (.lst zs2)) q2 (.tup zs2)) (.ref p) (labT b t) (arrT b t) (bitsT t) := ⟨p, pl, pa, pb, zs, ws, rfl, g14, g24, s34 _ _ g3, g4.imp fun _ _ h => h.tups (Tups.of s34), g54, g64, trivial, trivial, trivial, trivial⟩
    have s04 := s02.trans s34
    obtain ⟨H4, eH4⟩ : ∃ H4, H4 = upd (upd H2 q (.lst zs2)) q2 (.tup zs2) := ⟨_, rfl⟩
    rw [← eH4] at hz4 hq24 hy4 g14 g24 hL4 s04 ⊢
    clear eH4 g1 g2 g5 g6 g54 g64
    -- size, arrows
    obtain ⟨⟨dx, l, g, fs, ts, gs, a1, a2, a3, a4, a5, a6, a7, a8, a9⟩, _⟩ := id hy4
    refine ⟨_, rfl, y, CW, dx, fs, _, rfl, a1, WC.cl, WC.size, a2, _, rfl, _, rfl, iteF ?_⟩
    refine ⟨_, rfl, y, CW, dx, fs, _, rfl, a1, WC.cl, WC.size, a2, _, rfl, rfl, _, rfl, ?_⟩
    rw [decide_eq_true rfl]
    refine iteF ⟨_, rfl, y, dx, fs, rfl, a1, y, n, ar2, rfl, hy4, fun H5 s5 => ⟨n, rfl, by omega, _, rfl, rfl, _, rfl, ?_⟩⟩
    rw [decide_eq_true rfl]
    have a15 := s5 _ _ a1
    have hz5 := hz4.imp fun _ _ h => h.tups (Tups.of s5)
    have hq25 := s5 _ _ hq24
    refine iteF ⟨_, rfl, y, CW, dx, fs, _, rfl, a15, WC.cl, WC.arrows, a3, _, rfl, nss_same (s5 _ _ a6) (a7.imp fun _ _ h => h.tups (Tups.of s5)).prs hq25 hz5.prs ⟨_, rfl, iteF ?_⟩⟩
    -- the walk, the labels
    refine ⟨_, rfl, y, dx, l, fs, rfl, a15, a3, ⟨_, SqT.of (s5 _ _ a6)⟩, fun D hD => ?_⟩
    refine lc_tup (K := K) (a := l) (xs := ts) (fun i H' => Same H5 H' ∧ H' D = some (.lst (ts.take i))) ⟨same_new hD, upd_same⟩ (fun i H' _ h => SqT.of (h.1 _ _ (s5 _ _ a6))) ?_ ?_
    · rintro i z H6 hz ⟨sm, hd⟩
      have hil : i < ts.length := (List.getElem?_eq_some_iff.mp hz).1
      have hzi : ts[i] = z := (List.getElem?_eq_some_iff.mp hz).2
      have lts := a7.len
      have lgd := good_len hy.good hy.n2
      refine ⟨rfl, _, rfl, _, hd, below (m := 100000) (by rw [List.length_take]; omega), same_upd sm hD, ?_⟩
      rw [upd_same, take_more hil, hzi]
    rintro H6 ⟨s6, hd6⟩
    rw [List.take_length] at hd6
    have s56 := s5.trans s6
    refine ⟨_, rfl, q2, _, rfl, .inr (SqT.of (s6 _ _ hq25)), fun D7 hD7 => ?_⟩
    have e7 := same_new (o := .lst zs2) hD7
    have s7 := s56.trans e7
    refine nsl_same (e7 _ _ hd6) (a7.imp fun _ _ h => h.tups (Tups.of s7)).prs upd_same (hz4.imp fun _ _ h => h.tups (Tups.of s7)).prs ⟨_, rfl, iteF ?_⟩
    have s07 := s04.trans s7
    refine ⟨_, rfl, _, rfl, x, vt, b, t, rfl, hB.same s07, ht.same s07, hok, by omega, by omega, fun H8 u s8 hu => ?_⟩
    have s48 := s7.trans s8
    refine ⟨_, rfl, p, _, _, .ref pl, rfl, rfl, SqL.of (s48 _ _ g14), atI_nat (j := 0) rfl, .inl ⟨pl, _, rfl, SqL.of (s48 _ _ g24), fun q9 hq9 => ?_⟩⟩
    have e9 := same_new (o := .tup ((labT b t).map vInt)) hq9
    refine ns_same (PlacesAt.tups (Tups.of e9) hu) ⟨q9, rfl, upd_same⟩ ⟨_, rfl, iteF ?_⟩
    have s49 := s48.trans e9
    obtain ⟨H9, eH9⟩ : ∃ H9, H9 = upd H8 q9 (.tup ((labT b t).map vInt)) := ⟨_, rfl⟩
    rw [← eH9] at s49 ⊢
    -- the goals
    refine ⟨_, rfl, _, rfl, by omega, by omega, ?_⟩
    rw [Int.toNat_natCast]
    refine for_range (lo := 0) (n := n) (fun i σ H' => ∃ y8 : Option V, σ = [some (.ref x), some v, some vt, some (vInt m), some (.ref p), some (.ref y), some (vInt n), some (.ref q2), y8, none, none, none, none, none] ∧ Same H4 H') ⟨none, rfl, s49⟩ ?_ ?_
    · rintro i σ H10 hi ⟨y8, rfl, s10⟩
      have ei : (0 : Int) + i = ((i : Nat) : Int) := by omega
      rw [ei]
      have hy10 := hy4.same s10
      have hz10 := hz4.imp fun _ _ h => h.tups (Tups.of s10)
      have hq10 := s10 _ _ hq24
      have hgo := goals_eq (n := n) (x := i) (ar := ar2) (fun a h => ⟨(hy.good.1 a h).1, (hy.good.1 a h).2.1⟩) asc2
      have lgo : ∀ j, ((List.range j).filter fun z => decide ((i, z) ∈ ar2)).length ≤ j := fun j => by
        have := List.length_filter_le (fun z => decide ((i, z) ∈ ar2)) (List.range j)
        rwa [List.length_range] at this
      have fstep : ∀ j, (List.range (j + 1)).filter (fun z => decide ((i, z) ∈ ar2)) = (List.range j).filter (fun z => decide ((i, z) ∈ ar2)) ++ (if (i, j) ∈ ar2 then [j] else []) := fun j => by
        rw [List.range_succ, List.filter_append]
        congr 1
        rw [List.filter_cons]
        by_cases c : (i, j) ∈ ar2
        · rw [decide_eq_true c, if_pos rfl, if_pos c]; rfl
        · rw [decide_eq_false c, if_neg c]; rfl
      refine ⟨_, rfl, y, dx, fs, rfl, s10 _ _ a1, a5 _ (by decide) (by decide) (by decide), _, rfl, y, i, n, ar2, rfl, hy10, hi, fun u10 hu10 => ?_⟩
      refine ⟨_, rfl, _, rfl, by omega, by omega, ?_⟩
      rw [Int.toNat_natCast]
      intro D hD
      refine lc_range (lo := 0) (n := n) (fun j H' => Same H10 H' ∧ H' D = some (.lst (((List.range j).filter fun z => decide ((i, z) ∈ ar2)).map vInt))) ⟨same_new hD, upd_same⟩ ?_ ?_
      · rintro j H11 hj ⟨sm, hd⟩
        have ej : (0 : Int) + j = ((j : Nat) : Int) := by omega
        rw [ej]
        have := lgo j
        rw [fstep j]
        refine ⟨rfl, _, rfl, _, rfl, small (m := 2) (Nat.le_refl _), fun u hu => ?_⟩
        have e3 := same_new (o := .tup [vInt i, vInt j]) hu
        have s3 := sm.trans e3
        refine ⟨_, rfl, in_prs (as := ar2) (a := (i, j)) ⟨u, rfl, upd_same⟩ ⟨q2, zs2, rfl, s3 _ _ hq10, hz10.imp fun _ _ h => h.tups (Tups.of s3)⟩ ⟨_, rfl, ?_⟩⟩
        by_cases c : (i, j) ∈ ar2
        · rw [decide_eq_true c, if_pos c]
          refine iteT ⟨_, rfl, _, e3 _ _ hd, below (m := 200) (by rw [List.length_map]; omega), same_upd s3 hD, ?_⟩
          rw [upd_same, List.map_append]
          rfl
        · rw [decide_eq_false c, if_neg c, List.append_nil]
          exact iteF ⟨s3, e3 _ _ hd⟩
      rintro H11 ⟨s11, hd11⟩
      rw [← hgo] at hd11
      refine .inl ⟨D, _, rfl, SqL.of hd11, fun q12 hq12 => ?_⟩
      have e12 := same_new (o := .tup ((goalsAt ar2 i).map vInt)) hq12
      have s12 := s11.trans e12
      refine ns_same (PlacesAt.tups (Tups.of s12) hu10) ⟨q12, rfl, upd_same⟩ ⟨_, rfl, iteF ?_⟩
      obtain ⟨H12, eH12⟩ : ∃ H12, H12 = upd H11 q12 (.tup ((goalsAt ar2 i).map vInt)) := ⟨_, rfl⟩
      rw [← eH12] at s12 ⊢
      refine ⟨_, rfl, _, rfl, by omega, by omega, ?_⟩
      rw [Int.toNat_natCast]
      intro D2 hD2
      refine lc_range (lo := 0) (n := n) (fun j H' => Same H12 H' ∧ H' D2 = some (.lst (((List.range j).filter fun z => decide ((i, z) ∈ ar2)).map vInt))) ⟨same_new hD2, upd_same⟩ ?_ ?_
      · rintro j H13 hj ⟨sm, hd⟩
        have ej : (0 : Int) + j = ((j : Nat) : Int) := by omega
        rw [ej]
        have := lgo j
        rw [fstep j]
        refine ⟨rfl, _, rfl, y, dx, fs, rfl, (s10.trans (s12.trans sm)) _ _ a1, a5 _ (by decide) (by decide) (by decide), _, rfl, _, rfl, y, i, j, n, ar2, rfl, hy10.same (s12.trans sm), hi, hj, _, rfl, ?_⟩
        by_cases c : (i, j) ∈ ar2
        · rw [decide_eq_true c, if_pos c]
          refine iteT ⟨_, rfl, _, hd, below (m := 200) (by rw [List.length_map]; omega), same_upd sm hD2, ?_⟩
          rw [upd_same, List.map_append]
          rfl
        · rw [decide_eq_false c, if_neg c, List.append_nil]
          exact iteF ⟨sm, hd⟩
      rintro H13 ⟨s13, hd13⟩
      rw [← hgo] at hd13
      refine ⟨_, rfl, y, dx, fs, rfl, (s10.trans (s12.trans s13)) _ _ a1, a5 _ (by decide) (by decide) (by decide), _, rfl, y, i, n, ar2, rfl, hy10.same (s12.trans s13), hi, fun u14 hu14 => ?_⟩
      obtain ⟨q14, rfl, hq14⟩ := hu14
      refine ⟨q14, _, rfl, .inr (SqT.of hq14), fun D3 hD3 => ?_⟩
      have e14 := same_new (o := .lst ((goalsAt ar2 i).map vInt)) hD3
      exact ls_same (e14 _ _ hd13) upd_same ⟨_, rfl, iteF ⟨_, rfl, s10.trans (s12.trans (s13.trans e14))⟩⟩
    rintro σ H10 ⟨y8, rfl, s10⟩
    -- the tracks
    have s010 := s04.trans s10
    have hmt := many_m hg hwh
    refine ⟨_, rfl, vt, t, rfl, ht.same s010, by omega, by omega, fun c hc => by rw [hmt]; exact (lv_len hg c hc).2.1, fun H11 qt xt s11 hqt hqt11 hAt => ?_⟩
    rw [hmt] at hAt
    refine ⟨_, rfl, _, rfl, by omega, by omega, ?_⟩
    rw [Int.toNat_natCast]
    intro D hD
    refine lc_range (lo := 0) (n := m) (fun j H' => Same H11 H' ∧ ∃ ys, H' D = some (.lst ys) ∧ Al (PlacesAt H') ys ((List.range j).map (trackL (leavesT t))) ∧ ys.length = j) ⟨same_new hD, [], upd_same, trivial, rfl⟩ ?_ ?_
    · rintro j H12 hj ⟨sm, ys, hd, hA, hjl⟩
      have ej : (0 : Int) + j = ((j : Nat) : Int) := by omega
      rw [ej]
      refine ⟨rfl, _, rfl, _, rfl, _, j, labT b t, arrT b t, bitsT t, rfl, hL4.same (s10.trans (s11.trans sm)), by rw [ell, en]; unfold bitsT; rw [List.length_map], by omega, fun r hr => ?_, fun H13 y13 s13 hy13 => ?_⟩
      · obtain ⟨c, hc, rfl⟩ := List.mem_map.mp hr
        rw [(lv_len hg c hc).2.1]
        exact hj
      rw [ell, en, track_eq hg] at hy13
      have hd13 := s13 _ _ hd
      refine ⟨_, hd13, below (m := 200) (by omega), same_upd (sm.trans s13) hD, ys ++ [y13], upd_same, ?_, by rw [List.length_append, hjl]; rfl⟩
      have tu := (Tups.of s13).trans (Tups.upd (o := .lst (ys ++ [y13])) hd13)
      rw [List.range_succ, List.map_append]
      exact (hA.imp fun _ _ h => PlacesAt.tups tu h).append (show Al (PlacesAt _) [y13] [trackL (leavesT t) j] from ⟨PlacesAt.tups (Tups.upd hd13) hy13, trivial⟩)
    rintro H12 ⟨s12, ys, hd12, hA12, _⟩
    refine .inl ⟨D, _, rfl, SqL.of hd12, fun q13 hq13 => ?_⟩
    have e13 := same_new (o := .tup ys) hq13
    have s13 := s12.trans e13
    refine nss_same (s13 _ _ hqt11) (hAt.imp fun _ _ h => PlacesAt.tups (Tups.of s13) h) upd_same (hA12.imp fun _ _ h => PlacesAt.tups (Tups.of e13) h) ⟨_, rfl, iteF ?_⟩
    have s013 := s010.trans (s11.trans s13)
    obtain ⟨H13, eH13⟩ : ∃ H13, H13 = upd H12 q13 (.tup ys) := ⟨_, rfl⟩
    rw [← eH13] at s013 ⊢
    -- the wide parts
    refine ⟨_, rfl, vt, t, rfl, ht.same s013, by omega, fun H14 pw xw s14 hpw hpw14 hAw => ⟨pw, rfl, ⟨_, SqL.of hpw14⟩, fun D4 hD4 => ?_⟩⟩
    have lxw := hAw.len
    rw [postP_len] at lxw
    refine lc_list (K := K) (a := pw) (xs := xw) (fun j H' => Same H14 H' ∧ ∃ ys, H' D4 = some (.lst ys) ∧ ys.length = (((postP t).take j).filter wideP).length) ⟨same_new hD4, [], upd_same, rfl⟩ (fun j H' _ h => SqL.of (h.1 _ _ hpw14)) ?_ ?_
    · rintro j z H15 hz ⟨sm, ys, hd, hl⟩
      obtain ⟨u, hu, hzu⟩ := hAw.get hz
      have hjl : j < (postP t).length := (List.getElem?_eq_some_iff.mp hu).1
      have hju : (postP t)[j] = u := (List.getElem?_eq_some_iff.mp hu).2
      have lft := List.length_filter_le wideP ((postP t).take j)
      rw [List.length_take] at lft
      have hjn : j < t.nodes := by rw [postP_len] at hjl; exact hjl
      rw [take_more hjl, hju, wide_app, List.length_append]
      have hne := post_whole t hwh u (List.mem_of_getElem? hu)
      have no : wideP u = false → (Same H14 H15 ∧ ∃ ys, H15 D4 = some (.lst ys) ∧ ys.length = (((postP t).take j).filter wideP).length + ([u].filter wideP).length) := fun h0 => ⟨sm, ys, hd, by rw [hl, List.filter_cons, h0]; rfl⟩
      cases u with
      | hole => exact absurd rfl hne
      | leaf a bs =>
        obtain ⟨q, q', rfl, h1, h2⟩ := id hzu
        exact ⟨rfl, _, rfl, q, _, rfl, .inr (SqT.of (sm _ _ h1)), rfl, _, rfl, iteF (iteF (no rfl))⟩
      | join jj l r =>
        obtain ⟨q, y0, z0, rfl, h1, h2, h3⟩ := id hzu
        refine ⟨rfl, _, rfl, q, _, rfl, .inr (SqT.of (sm _ _ h1)), rfl, _, rfl, iteT ?_⟩
        cases r with
        | hole =>
          have : Tm.join jj l .hole ∈ postP t := List.mem_of_getElem? hu
          exact absurd this (no_right t hwh)
        | leaf a bs =>
          obtain ⟨q3, q4, rfl, h4, h5⟩ := id h3
          exact ⟨_, rfl, q, _, _, .ref q3, rfl, rfl, SqT.of (sm _ _ h1), atI_nat (j := 2) rfl, q3, _, rfl, .inr (SqT.of (sm _ _ h4)), rfl, _, rfl, iteF (no rfl)⟩
        | join k2 l2 r2 =>
          obtain ⟨q3, y3, z3, rfl, h4, h5, h6⟩ := id h3
          refine ⟨_, rfl, q, _, _, .ref q3, rfl, rfl, SqT.of (sm _ _ h1), atI_nat (j := 2) rfl, q3, _, rfl, .inr (SqT.of (sm _ _ h4)), rfl, _, rfl, iteT ⟨_, rfl, _, hd, below (m := 1000) (by omega), same_upd sm hD4, ys ++ [.ref q], upd_same, ?_⟩⟩
          rw [List.length_append, hl]
          rfl
    rintro H15 ⟨s15, yw, hd15, hlw⟩
    rw [hAw.len, List.take_length] at hlw
    have s015 := s013.trans (s14.trans s15)
    have hq : V.bl (narrowT t) = V.bl (decide (V.int ((yw.length : Nat) : Int) = V.int 0)) := by
      rw [narrow_wide t hwh, ← hlw]
      congr 1
      exact decide_eq_decide.mpr ⟨fun h => by rw [h]; rfl, fun h => Int.ofNat.inj (V.int.inj h)⟩
    refine ⟨_, rfl, vt, t, rfl, ht.same s015, _, rfl, D4, yw, rfl, .inl (SqL.of hd15), rfl, rfl, _, rfl, ?_⟩
    refine ite2 (fun z => absurd z (by rw [decide_eq_true hq]; exact Bool.false_ne_true)) fun _ => ?_
    refine ⟨_, rfl, vt, t, rfl, ht.same s015, by omega, fun H16 s16 => ⟨_, rfl, rfl, _, rfl, ?_⟩⟩
    rw [← en, decide_eq_true rfl]
    refine iteT ⟨_, rfl, vt, t, rfl, ht.same (s015.trans s16), by omega, fun H17 s17 => ⟨_, rfl, rfl, _, rfl, ?_⟩⟩
    rw [hmt, decide_eq_true rfl]
    have s017 := s015.trans (s16.trans s17)
    refine iteT ⟨_, rfl, _, rfl, _, rfl, x, vt, b, toTd t, m, false, rfl, hB.same s017, td_tm hm hg (ht.same s017), by rw [td_nodes]; omega, hm, fun _ H18 s18 => ⟨rfl, ?_⟩, fun p e => by rw [good_whole hb hg hwh] at e; cases e⟩
    exact k _ (s017.trans s18)
end
end Fam

/-! A term in a context: its leaves, its web. -/
namespace Fam
open PySem L2 S5
open C8 (pss_cut tCut)
theorem put_leaves : ∀ (c t : Tm), (leavesT (putT c t)).length = (leavesT c).length + holesM c * (leavesT t).length
  | .hole, t => by show (leavesT t).length = 0 + 1 * _; omega
  | .leaf a bs, t => by show 1 = 1 + 0 * _; omega
  | .join j l r, t => by
    show (leavesT (putT l t) ++ leavesT (putT r t)).length = (leavesT l ++ leavesT r).length + (holesM l + holesM r) * _
    rw [List.length_append, List.length_append, put_leaves l, put_leaves r, Nat.add_mul]
    omega
theorem put_holes : ∀ (c t : Tm), holesM (putT c t) = holesM c * holesM t
  | .hole, t => by show holesM t = 1 * _; omega
  | .leaf a bs, t => by show 0 = 0 * _; omega
  | .join j l r, t => by
    show holesM (putT l t) + holesM (putT r t) = (holesM l + holesM r) * _
    rw [put_holes l, put_holes r, Nat.add_mul]
theorem put_good {b : Bn} {m : Nat} : ∀ {c t : Tm}, TmG b m c → TmG b m t → TmG b m (putT c t)
  | .hole, t, _, h => h
  | .leaf a bs, t, g, _ => g
  | .join j l r, t, g, h => ⟨g.1, put_good g.2.1 h, put_good g.2.2 h⟩
theorem put_hole : ∀ c : Tm, putT c .hole = c
  | .hole => rfl
  | .leaf a bs => rfl
  | .join j l r => by
    show Tm.join j _ _ = _
    rw [put_hole l, put_hole r]
theorem put_assoc : ∀ (c d t : Tm), putT (putT c d) t = putT c (putT d t)
  | .hole, d, t => rfl
  | .leaf a bs, d, t => rfl
  | .join j l r, d, t => by
    show Tm.join j _ _ = Tm.join j _ _
    rw [put_assoc l, put_assoc r]
theorem nodes60 {t : Tm} {n : Nat} (h : (leavesT t).length ≤ n) (hh : holesM t ≤ 2) (hn : n ≤ 28) : t.nodes ≤ 60 := by
  have := nodesM t
  omega
/-- leaves ahead of the hole -/
def ahd : Tm → Nat
  | .hole => 0
  | .leaf _ _ => 1
  | .join _ l r => if holesM l = 0 then (leavesT l).length + ahd r else ahd l
theorem ahd_whole : ∀ t : Tm, holesM t = 0 → ahd t = (leavesT t).length
  | .hole, h => by cases h
  | .leaf _ _, _ => rfl
  | .join j l r, h => by
    have h' : holesM l + holesM r = 0 := h
    show (if holesM l = 0 then (leavesT l).length + ahd r else ahd l) = (leavesT l ++ leavesT r).length
    rw [if_pos (by omega), ahd_whole r (by omega), List.length_append]
theorem ahd_le : ∀ t : Tm, ahd t ≤ (leavesT t).length
  | .hole => Nat.le_refl _
  | .leaf _ _ => Nat.le_refl _
  | .join j l r => by
    have h1 := ahd_le l
    have h2 := ahd_le r
    show (if holesM l = 0 then (leavesT l).length + ahd r else ahd l) ≤ (leavesT l ++ leavesT r).length
    rw [List.length_append]
    split <;> omega
def scan : List Tm → Nat → Bool → Nat
  | [], n, _ => n
  | .hole :: ss, n, _ => scan ss n true
  | .leaf _ _ :: ss, n, met => scan ss (if met then n else n + 1) met
  | .join _ _ _ :: ss, n, met => scan ss n met
theorem scan_post : ∀ (t : Tm) (ss : List Tm) (n : Nat) (met : Bool), scan (postP t ++ ss) n met = scan ss (if met then n else n + ahd t) (met || decide (holesM t ≠ 0))
  | .hole, ss, n, met => by cases met <;> rfl
  | .leaf a bs, ss, n, met => by cases met <;> rfl
  | .join j l r, ss, n, met => by
    show scan (postP l ++ postP r ++ [Tm.join j l r] ++ ss) n met = _
    rw [List.append_assoc, List.append_assoc, scan_post l, scan_post r]
    show scan ss _ _ = _
    have e1 : ahd (.join j l r) = if holesM l = 0 then (leavesT l).length + ahd r else ahd l := rfl
    have e2 : holesM (.join j l r) = holesM l + holesM r := rfl
    rw [e1, e2]
    cases met with
    | true => simp
    | false =>
      by_cases h : holesM l = 0
      · rw [ahd_whole l h]
        simp [h, Nat.add_assoc]
      · simp [h]
theorem scan_all (t : Tm) : scan (postP t) 0 false = ahd t := by
  have := scan_post t [] 0 false
  rw [List.append_nil] at this
  rw [this]
  show 0 + ahd t = _
  omega
/-! ### the web of the lot -/
theorem sub_app (xs ys : List Arr) (a m : Nat) : subArr (xs ++ ys) a m = subArr xs a m ++ subArr ys a m := by
  unfold subArr
  rw [List.filter_append, List.map_append]
theorem sub_none {xs : List Arr} {a m : Nat} (h : ∀ e ∈ xs, ¬ (a ≤ e.1 ∧ e.1 < a + m ∧ a ≤ e.2 ∧ e.2 < a + m)) : subArr xs a m = [] := by
  unfold subArr
  rw [List.filter_eq_nil_iff.mpr fun e he => by rw [decide_eq_true_eq]; exact h e he]
  rfl
theorem sub_all {xs : List Arr} {n : Nat} (h : ∀ e ∈ xs, e.1 < n ∧ e.2 < n) : subArr xs 0 n = xs := by
  unfold subArr
  rw [List.filter_eq_self.mpr fun e he => by
    have := h e he
    exact decide_eq_true (by omega)]
  have : (fun e : Arr => (e.1 - 0, e.2 - 0)) = id := by
    funext e
    rfl
  rw [this, List.map_id]
theorem sub_sh (xs : List Arr) (o a m : Nat) : subArr (shA o xs) (o + a) m = subArr xs a m := by
  unfold subArr shA
  rw [List.filter_map, List.map_map]
  congr 1
  · funext e
    show (o + e.1 - (o + a), o + e.2 - (o + a)) = (e.1 - a, e.2 - a)
    rw [Nat.add_sub_add_left, Nat.add_sub_add_left]
  · refine List.filter_congr fun e _ => ?_
    show decide _ = decide _
    exact decide_eq_decide.mpr ⟨fun h => by
      obtain ⟨h1, h2, h3, h4⟩ := h
      have h1' : o + a ≤ o + e.1 := h1
      have h2' : o + e.1 < o + a + m := h2
      have h3' : o + a ≤ o + e.2 := h3
      have h4' : o + e.2 < o + a + m := h4
      exact ⟨by omega, by omega, by omega, by omega⟩, fun h => ⟨by show o + a ≤ o + e.1; omega, by show o + e.1 < o + a + m; omega, by show o + a ≤ o + e.2; omega, by show o + e.2 < o + a + m; omega⟩⟩
theorem lab_put_whole (b : Bn) : ∀ (c t : Tm), holesM c = 0 → putT c t = c
  | .hole, t, h => by cases h
  | .leaf a bs, t, _ => rfl
  | .join j l r, t, h => by
    have h' : holesM l + holesM r = 0 := h
    show Tm.join j _ _ = _
    rw [lab_put_whole b l t (by omega), lab_put_whole b r t (by omega)]
theorem labl (b : Bn) : ∀ t : Tm, (labT b t).length = (leavesT t).length
  | .hole => rfl
  | .leaf _ _ => rfl
  | .join j l r => by
    show ((labT b l).map _ ++ (labT b r).map _).length = (leavesT l ++ leavesT r).length
    rw [List.length_append, List.length_map, List.length_map, List.length_append, labl b l, labl b r]
theorem sub_put (b : Bn) : ∀ (c t : Tm), holesM c = 1 → subArr (arrT b (putT c t)) (ahd c) (leavesT t).length = arrT b t
  | .hole, t, _ => by
    show subArr (arrT b t) 0 _ = _
    refine sub_all fun e he => ?_
    have := (arr_good b t).1 e he
    rw [labl] at this
    exact ⟨this.1, this.2.1⟩
  | .leaf a bs, t, h => by cases h
  | .join j l r, t, h => by
    have h' : holesM l + holesM r = 1 := h
    have gl := arr_good b (putT l t)
    have gr := arr_good b (putT r t)
    have ell := labl b (putT l t)
    have elr := labl b (putT r t)
    show subArr (arrT b (putT l t) ++ shA (labT b (putT l t)).length (arrT b (putT r t)) ++ btwAr (jnOf b j).fore (jnOf b j).back (labT b (putT l t) ++ labT b (putT r t)) 0 (labT b (putT l t)).length (labT b (putT l t)).length (labT b (putT r t)).length) (if holesM l = 0 then (leavesT l).length + ahd r else ahd l) _ = _
    rw [sub_app, sub_app]
    have pl := put_leaves l t
    have al := ahd_le l
    by_cases z : holesM l = 0
    · have el := lab_put_whole b l t z
      rw [if_pos z]
      rw [el] at gl ell ⊢
      rw [sub_none (xs := arrT b l) (fun e he => by have := gl.1 e he; omega), ell, sub_sh, sub_put b r t (by omega), sub_none (fun e he => by
        obtain ⟨x, y, h1, h2, h3, h4, h5⟩ := mem_btw he
        rcases h5 with rfl | rfl
        · show ¬ (_ ≤ x ∧ _); omega
        · show ¬ (_ ≤ y ∧ y < _ ∧ _ ≤ x ∧ _); omega), List.nil_append, List.append_nil]
    · have z1 : holesM l = 1 := by omega
      rw [if_neg z]
      rw [z1, Nat.one_mul] at pl
      rw [sub_put b l t z1, sub_none (xs := shA _ _) (fun e he => by
        obtain ⟨a, ha, rfl⟩ := List.mem_map.mp he
        show ¬ (_ ≤ _ + a.1 ∧ _ + a.1 < _ ∧ _)
        omega), sub_none (xs := btwAr _ _ _ _ _ _ _) (fun e he => by
        obtain ⟨x, y, h1, h2, h3, h4, h5⟩ := mem_btw he
        rcases h5 with rfl | rfl
        · show ¬ (_ ≤ x ∧ x < _ ∧ _ ≤ y ∧ y < _); omega
        · show ¬ (_ ≤ y ∧ y < _ ∧ _); omega), List.append_nil, List.append_nil]
theorem sub_perm {xs ys : List Arr} (h : xs.Perm ys) (a m : Nat) : (subArr xs a m).Perm (subArr ys a m) := (h.filter _).map _
end Fam

/-! A term put into a context: its web is the web of its lot. -/
namespace Fam
open PySem L2 S5 ItX OwnX
open C8 (pss_cut tCut)
structure CalK (P : Program) (w : World) (K : PySem.W.Frag) (mg : Str → Option Value) (base : Heap) (k : Nat) (x : Str) (ps : List Str) (n : Nat) (ks : List Str) (sp : Sp) : Prop where
  ex : ∃ (g : Addr) (gd : FuncData), FnOk P w K mg base (L2.CX P w) k g gd ps sp ∧ KBn K gd ps n ks (fun us ws => us ++ ws) (fun vs zs => vs ++ zs) ∧ PySem.W.keepIn K (.ref g) = true ∧ mg x = some (.ref g)
def spLPutOk (C : Addr) : Sp := fun vs H Q _ => ∃ (x a : Addr) (c : Nat) (ts : List Int) (v vt : V) (b : Bn) (t : Tm) (m : Nat), vs = [.ref x, v, .ref a, vt, vInt m] ∧ TapeAt H a c ts ∧ v ≠ .ref a ∧ BAt C H x b ∧ PartsAt H v b ∧ TmAt H vt t ∧ TmG b m t ∧ holesM t = 0 ∧ (leavesT t).length ≤ 7 ∧ m ≤ 100 ∧
  ∀ (H' : Hp) (c' : Nat), Kp a H H' → TapeAt H' a c' ts → Q (.bl true) H'
/-- the lot in the law's order -/
def lotR (a n : Nat) : List Nat := (List.range n).map fun k => a + n - 1 - k
theorem lot_mem {a n : Nat} {k : Int} : k ∈ (lotR a n).map (fun (n : Nat) => (n : Int)) ↔ ((a : Int) ≤ k ∧ k < (a + n : Nat)) := by
  rw [List.mem_map]
  constructor
  · rintro ⟨z, hz, rfl⟩
    obtain ⟨i, hi, rfl⟩ := List.mem_map.mp hz
    have := List.mem_range.mp hi
    exact ⟨by omega, by omega⟩
  · rintro ⟨h1, h2⟩
    exact ⟨k.toNat, List.mem_map.mpr ⟨a + n - 1 - k.toNat, List.mem_range.mpr (by omega), by omega⟩, by omega⟩
theorem lot_nd (a n : Nat) : ((lotR a n).map (fun (n : Nat) => (n : Int))).Nodup := by
  unfold lotR
  rw [List.map_map]
  refine List.pairwise_map.mpr (List.pairwise_lt_range.imp_of_mem fun {i j} hi hj h e => ?_)
  have := List.mem_range.mp hi
  have := List.mem_range.mp hj
  have e' : ((a + n - 1 - i : Nat) : Int) = ((a + n - 1 - j : Nat) : Int) := e
  omega
section
variable {P : Program} {w : World} {K : PySem.W.Frag} {mg : Str → Option Value} {base : Heap} {C CW : Addr}
abbrev nPO : List Str := ["_law_bench", "_law_parts", "_law_tape", "_law_term_here", "_law_many", "_law_outer", "_law_inner", "_law_whole", "_law_ahead", "_law_met", "_law_part_here", "_law_size", "_law_places", "_law_inside", "_law_k"]
theorem scPO : FnScope nPO ["_law_bench", "_law_parts", "_law_tape", "_law_term_here", "_law_many"] (defScope sLPutOk) := ⟨rfl, rfl, rfl, by decide +kernel, rfl, by decide +kernel, by decide +kernel⟩
theorem ok_l_put_ok {B f ge go : Addr} {fd ged god : FuncData} (F : Fun K "_law_put_ok" "_law_put_ok" sLPutOk f fd) (T : Bare mg) (WC : WebC K CW) (WI : ClsIs K CW)
    (WE : DunO K CW "__eq__" ge) (ok_we : FnOk P w K mg base CX0 1 ge ged ["self", "other"] (spWebEq CW)) (b_we : Binds K ged ["self", "other"] [])
    (M_of_lot : Meth K CW "of_lot" go) (ok_of_lot : FnOk P w K mg base CX0 6 go god ["self", "lot"] (spOfLot K CW)) (b_of_lot : Binds K god ["self", "lot"] [])
    (GT : Cal P w K mg base 1 "_law_take" ["_law_tape", "_law_many"] spDraw) (GX : Cal P w K mg base 4 "_law_context" ["_law_tape", "_law_parts", "_law_size", "_law_many"] spLContext) (GP : Cal P w K mg base 3 "put" ["context", "term"] spPut)
    (GL : Cal P w K mg base 2 "_law_put" ["_law_context_here", "_law_term_here"] spLPut) (GW : Cal P w K mg base 1 "_law_walk" ["_law_term_here"] spLWalk) (GLv : Cal P w K mg base 2 "_law_leaves" ["_law_term_here"] spLLeaves)
    (GB : Cal P w K mg base 2 "_law_built" ["_law_parts", "_law_term_here"] spLBuilt) (GWb : Cal P w K mg base 7 "web_of" ["bench", "term"] (spWebOf C CW))
    (GC : CalK P w K mg base 4 "check_term" ["bench", "term", "many", "hole"] 3 ["hole"] (spCheckTerm K C B)) : FnOk P w K mg base CX0 8 f fd ["_law_bench", "_law_parts", "_law_tape", "_law_term_here", "_law_many"] (spLPutOk C) := by
  obtain ⟨_, _, ok_tk, b_tk, k_tk, m_tk⟩ := GT.ex
  obtain ⟨_, _, ok_cx, b_cx, k_cx, m_cx⟩ := GX.ex
  obtain ⟨_, _, ok_pu, b_pu, k_pu, m_pu⟩ := GP.ex
  obtain ⟨_, _, ok_lp, b_lp, k_lp, m_lp⟩ := GL.ex
  obtain ⟨_, _, ok_wk, b_wk, k_wk, m_wk⟩ := GW.ex
  obtain ⟨_, _, ok_ll, b_ll, k_ll, m_ll⟩ := GLv.ex
  obtain ⟨_, _, ok_lb, b_lb, k_lb, m_lb⟩ := GB.ex
  obtain ⟨_, _, ok_wb, b_wb, k_wb, m_wb⟩ := GWb.ex
  obtain ⟨_, _, ok_ct0, kb_ct, k_ct, m_ct⟩ := GC.ex
  have ok_ct := ok_noex ok_ct0
  refine F.ok scPO (fun vs H Q E h => ?_) (fun cdv A outer s H vs Q E hr h => ?_)
  · obtain ⟨x, a, c, ts, v, vt, b, t, m, rfl, _⟩ := h
    rfl
  · obtain ⟨x, a, c, ts, v, vt, b, t, m, rfl, hT, hva, hB, hP, ht, hg, hwh, hl7, hm, k⟩ := h
    have hr_wb := hr
    have hr_of_lot := hr.mono (j := 6) (by decide)
    have hr_cx := hr.mono (j := 4) (by decide)
    have hr_ct := hr.mono (j := 4) (by decide)
    have hr_pu := hr.mono (j := 3) (by decide)
    have hr_lp := hr.mono (j := 2) (by decide)
    have hr_ll := hr_lp
    have hr_lb := hr_lp
    have hr_tk := hr.mono (j := 1) (by decide)
    have hr_wk := hr_tk
    have hr_we := hr_tk
    refine ⟨_, (pss_cons (ps_set (i := 5) scPO.nd rfl (Or.inl rfl) (pe_call ok_cx hr_cx rfl m_cx k_cx b_cx .nil pass0 (pa_cons (pv 2) (pa_cons (pv 1) (pa_cons (pe_op op_add pe_int (pe_call ok_tk hr_tk rfl m_tk k_tk b_tk .nil pass0 (pa_cons (pv 2) (pa_cons pe_int pa_nil)))) (pa_cons (pv 4) pa_nil))))))
      (pss_cons (ps_set (i := 6) scPO.nd rfl (Or.inl rfl) (pe_call ok_cx hr_cx rfl m_cx k_cx b_cx .nil pass0 (pa_cons (pv 2) (pa_cons (pv 1) (pa_cons (pe_op op_add pe_int (pe_call ok_tk hr_tk rfl m_tk k_tk b_tk .nil pass0 (pa_cons (pv 2) (pa_cons pe_int pa_nil)))) (pa_cons (pv 4) pa_nil))))))
      (pss_cons (ps_set (i := 7) scPO.nd rfl (Or.inl rfl) (pe_call ok_pu hr_pu rfl m_pu k_pu b_pu .nil pass0 (pa_cons (pv 5) (pa_cons (pv 3) pa_nil))))
      (pss_cons (ps_if (PW.pt (pw_or (pt_cmpR (op_neD hr.units) (pv 7) (pe_call ok_lp hr_lp rfl m_lp k_lp b_lp .nil pass0 (pa_cons (pv 5) (pa_cons (pv 3) pa_nil))) (nomark _)) (pw_or (pt_cmpR (op_neD hr.units) (pe_call ok_pu hr_pu rfl m_pu k_pu b_pu .nil pass0 (pa_cons pe_non (pa_cons (pv 3) pa_nil))) (pv 3) (nomark _)) (pw_or1 (pt_cmpR (op_neD hr.units) (pe_call ok_pu hr_pu rfl m_pu k_pu b_pu .nil pass0 (pa_cons (pv 5) (pa_cons pe_non pa_nil))) (pv 5) (nomark _)))))) (pss_one (ps_ret pe_bl)) pss_nil)
      (pss_cons (ps_if (pt_cmpR (op_neD hr.units) (pe_call ok_pu hr_pu rfl m_pu k_pu b_pu .nil pass0 (pa_cons (pe_call ok_pu hr_pu rfl m_pu k_pu b_pu .nil pass0 (pa_cons (pv 5) (pa_cons (pv 6) pa_nil))) (pa_cons (pv 3) pa_nil))) (pe_call ok_lp hr_lp rfl m_lp k_lp b_lp .nil pass0 (pa_cons (pv 5) (pa_cons (pe_call ok_lp hr_lp rfl m_lp k_lp b_lp .nil pass0 (pa_cons (pv 6) (pa_cons (pv 3) pa_nil))) pa_nil))) (nomark _)) (pss_one (ps_ret pe_bl)) pss_nil)
      (pss_cons (ps_if (PW.pt (pw_or (pt_cmpR op_notN (pe_callN ok_ct hr_ct rfl m_ct k_ct kb_ct pass0 (pa_cons (pv 0) (pa_cons (pv 5) (pa_cons (pv 4) pa_nil))) (pk_cons pe_bl pk_nil)) pe_non (nomark _)) (pw_or1 (pt_cmpR op_notN (pe_callN ok_ct hr_ct rfl m_ct k_ct kb_ct pass0 (pa_cons (pv 0) (pa_cons pe_non (pa_cons (pv 4) pa_nil))) (pk_cons pe_bl pk_nil)) pe_non (nomark _))))) (pss_one (ps_ret pe_bl)) pss_nil)
      (pss_cons (ps_set (i := 8) scPO.nd rfl (Or.inr rfl) pe_int)
      (pss_cons (ps_set (i := 9) scPO.nd rfl (Or.inl rfl) pe_bl)
      (pss_cons (ps_for PassesOwn.never rfl (pi_list (pe_call ok_wk hr_wk rfl m_wk k_wk b_wk .nil pass0 (pa_cons (pv 5) pa_nil))) (pg_name (i := 10) scPO.nd rfl (Or.inl rfl))
          (pss_one (ps_if (pt_cmpR op_isN (pv 10) pe_non (nomark _)) (pss_one (ps_set (i := 9) scPO.nd rfl (Or.inl rfl) pe_bl)) (pss_one (ps_if (PW.pt (pw_and (pt_cmpR op_eq (pe_callB call_len_seq (by rfl) T.len PySem.boot_len (pa_cons (pv 10) pa_nil)) pe_int (nomark _)) (pw_and1 (pt_not (pt_val (pv 9)))))) (pss_one (ps_aug (i := 8) scPO.nd rfl (Or.inr rfl) pe_int ip_add)) pss_nil)))))
      (pss_cons (ps_set (i := 11) scPO.nd rfl (Or.inr rfl) (pe_callB call_len_seq (by rfl) T.len PySem.boot_len (pa_cons (pe_call ok_ll hr_ll rfl m_ll k_ll b_ll .nil pass0 (pa_cons (pv 3) pa_nil)) pa_nil)))
      (pss_cons (ps_setLc (i := 12) (own := [("_law_k", 14)]) (g := gName 14) (tt := tYes) (by rfl) scPO.nd rfl rfl (sw_true rfl rfl rfl (by decide +kernel)) (pi_range1 rfl T.range (pa_cons (pv 11) pa_nil)) (blkOk_by (own := [("_law_k", 14)]) (N := nPO) (sc := defScope sLPutOk) (by decide +kernel)) (fun _ _ _ _ _ => pg_name (i := 14) scPO.nd rfl (Or.inl rfl)) (fun _ _ _ _ _ => pts_nil) (fun _ _ _ _ _ => pe_op op_sub (pe_op op_sub (pe_op op_add (pv 8) (pv 11)) pe_int) (pv 14)))
      (pss_cons (ps_set (i := 13) scPO.nd rfl (Or.inl rfl) (pe_meth (pe_call ok_wb hr_wb rfl m_wb k_wb b_wb .nil pass0 (pa_cons (pv 0) (pa_cons (pv 7) pa_nil))) WC.cl M_of_lot ok_of_lot hr_of_lot b_of_lot .nil pass0 (pa_cons (pv 12) pa_nil)))
      (pss_cons (ps_if (PW.pt (pw_or (pt_not (pt_cmpR (op_eqO WE.at_ WE.fn ok_we hr_we b_we pass0) (pv 13) (pe_call ok_wb hr_wb rfl m_wb k_wb b_wb .nil pass0 (pa_cons (pv 0) (pa_cons (pv 3) pa_nil))) (nomark _))) (pw_or1 (pt_cmpR (op_neD hr.units) (pv 12) (pe_lc (own := [("_law_k", 14)]) (g := gName 14) (tt := tYes) rfl scPO.nd (pi_range1 rfl T.range (pa_cons (pv 11) pa_nil)) (blkOk_by (own := [("_law_k", 14)]) (N := nPO) (sc := defScope sLPutOk) (by decide +kernel)) (fun _ _ _ _ _ => pg_name (i := 14) scPO.nd rfl (Or.inl rfl)) (fun _ _ _ _ _ => pts_nil) (fun _ _ _ _ _ => pe_op op_sub (pe_op op_sub (pe_op op_add (pv 8) (pv 11)) pe_int) (pv 14))) (nomark _))))) (pss_one (ps_ret pe_bl)) pss_nil)
      (pss_one (ps_ret (pe_cmpR (op_eqD hr.units) (pe_fld (pv 13) rfl) (pe_tupleOf (by rfl) T.tuple (pe_callB (cr_sortedTA hr.units) (by rfl) T.sorted (by decide +kernel) (pa_cons (pe_ix ix_list (pe_call ok_lb hr_lb rfl m_lb k_lb b_lb .nil pass0 (pa_cons (pv 1) (pa_cons (pv 3) pa_nil))) pe_int (fun _ _ => rfl)) pa_nil))) (nomark _))))))))))))))))), ?_⟩
    have hok := hg.ok hwh
    have hb := hB.ok
    have hn1 := tm_pos b t hok
    -- the contexts
    refine ⟨_, rfl, _, rfl, _, rfl, a, c, ts, 3, rfl, hT, by decide, fun H1 c1 n1 hn1' hH1 hT1 => ⟨_, _, rfl, rfl, _, rfl, ?_⟩⟩
    have k1 : Kp a H H1 := Kp.of hH1
    refine ⟨a, c1, ts, v, b, 1 + n1, m, (congrArg (fun z => [V.ref a, v, V.int z, vInt m]) (by omega)), hT1, PartsAt.keep hP hva hT k1, hva, hb, by omega, by omega, hm, fun H2 c2 vo cu k2 hT2 hcu gcu hcu1 lcu => ?_⟩
    have k02 := k1.trans k2
    refine ⟨_, rfl, _, rfl, _, rfl, a, c2, ts, 2, rfl, hT2, by decide, fun H3 c3 n2 hn2' hH3 hT3 => ⟨_, _, rfl, rfl, _, rfl, ?_⟩⟩
    have k3 : Kp a H2 H3 := Kp.of hH3
    refine ⟨a, c3, ts, v, b, 1 + n2, m, (congrArg (fun z => [V.ref a, v, V.int z, vInt m]) (by omega)), hT3, PartsAt.keep hP hva hT (k02.trans k3), hva, hb, by omega, by omega, hm, fun H4 c4 vi ci k4 hT4 hci gci hci1 lci => ?_⟩
    have k04 := k02.trans (k3.trans k4)
    have hcu4 := hcu.tups (Tups.kp hT2 (k3.trans k4))
    have ht4 := ht.tups (Tups.kp hT k04)
    have hB4 := hB.keep hT k04
    have hP4 := PartsAt.keep hP hva hT k04
    -- sizes
    have pl := put_leaves cu t
    have ph := put_holes cu t
    rw [hcu1, Nat.one_mul] at pl ph
    have n_t : t.nodes ≤ 60 := nodes60 (n := 28) (by omega) (by omega) (by decide)
    have n_cu : cu.nodes ≤ 60 := nodes60 (n := 28) (by omega) (by omega) (by decide)
    have n_ci : ci.nodes ≤ 60 := nodes60 (n := 28) (by omega) (by omega) (by decide)
    have n_w : (putT cu t).nodes ≤ 60 := nodes60 (n := 28) (by omega) (by omega) (by decide)
    have pl2 := put_leaves cu ci
    have ph2 := put_holes cu ci
    rw [hcu1, Nat.one_mul] at pl2 ph2
    have n_cc : (putT cu ci).nodes ≤ 60 := nodes60 (n := 28) (by omega) (by omega) (by decide)
    have pl3 := put_leaves (putT cu ci) t
    have ph3 := put_holes (putT cu ci) t
    rw [ph2, hci1, Nat.one_mul] at pl3 ph3
    have n_cw : (putT (putT cu ci) t).nodes ≤ 60 := nodes60 (n := 28) (by omega) (by omega) (by decide)
    -- whole
    refine ⟨_, rfl, _, rfl, vo, vt, cu, t, rfl, hcu4, ht4, by omega, fun H5 vw s5 hw => ?_⟩
    refine ⟨_, rfl, _, rfl, _, rfl, vo, vt, cu, t, rfl, hcu4.same s5, ht4.same s5, by omega, fun H6 y6 s6 hy6 => tm_ne (hw.same s6) hy6 n_w n_w ⟨_, rfl, ?_⟩⟩
    rw [decide_eq_true rfl]
    refine iteF ?_
    have s46 := s5.trans s6
    refine ⟨_, rfl, .non, vt, .hole, t, rfl, rfl, ht4.same s46, by decide, fun H7 y7 s7 hy7 => ⟨_, rfl, tm_ne hy7 ((ht4.same s46).same s7) n_t n_t ⟨_, rfl, ?_⟩⟩⟩
    rw [show putT .hole t = t from rfl, decide_eq_true rfl]
    refine iteF ?_
    have s47 := s46.trans s7
    refine ⟨_, rfl, vo, .non, cu, .hole, rfl, hcu4.same s47, rfl, by omega, fun H8 y8 s8 hy8 => ⟨_, rfl, tm_ne hy8 ((hcu4.same s47).same s8) (by rw [put_hole]; exact n_cu) n_cu ⟨_, rfl, ?_⟩⟩⟩
    rw [put_hole, decide_eq_true rfl]
    refine iteF ?_
    have s48 := s47.trans s8
    -- put in put
    refine ⟨_, rfl, _, rfl, vo, vi, cu, ci, rfl, hcu4.same s48, hci.same s48, by omega, fun H9 y9 s9 hy9 => ?_⟩
    have s49 := s48.trans s9
    refine ⟨_, rfl, y9, vt, putT cu ci, t, rfl, hy9, ht4.same s49, by omega, fun H10 y10 s10 hy10 => ?_⟩
    have s410 := s49.trans s10
    refine ⟨_, rfl, _, rfl, _, rfl, vi, vt, ci, t, rfl, hci.same s410, ht4.same s410, by omega, fun H11 y11 s11 hy11 => ?_⟩
    have s411 := s410.trans s11
    refine ⟨vo, y11, cu, putT ci t, rfl, hcu4.same s411, hy11, by omega, fun H12 y12 s12 hy12 => ?_⟩
    rw [← put_assoc] at hy12
    refine tm_ne (hy10.same (s11.trans s12)) hy12 n_cw n_cw ⟨_, rfl, ?_⟩
    rw [decide_eq_true rfl]
    refine iteF ?_
    have s412 := s411.trans s12
    -- check_term
    refine ⟨_, rfl, _, rfl, _, rfl, rfl, rfl, x, vo, b, toTd cu, m, true, rfl, hB4.same s412, td_tm hm gcu (hcu4.same s412), by rw [td_nodes]; omega, hm, fun _ H13 s13 => ⟨rfl, _, rfl, ?_⟩, fun p e => by rw [good_open hb gcu hcu1] at e; cases e⟩
    refine iteF ?_
    have s413 := s412.trans s13
    refine ⟨_, rfl, _, rfl, rfl, rfl, x, .non, b, toTd .hole, m, true, rfl, hB4.same s413, ⟨.non, trivial, fun a bs e => (by cases e)⟩, by decide, hm, fun _ H14 s14 => ⟨rfl, _, rfl, ?_⟩, fun p e => by cases e⟩
    refine iteF ?_
    have s414 := s413.trans s14
    -- the leaves ahead
    refine ⟨_, rfl, vo, cu, rfl, hcu4.same s414, by omega, fun H15 po xo s15 hpo hpo15 hAo => ⟨po, rfl, ⟨_, SqL.of hpo15⟩, ?_⟩⟩
    have s415 := s414.trans s15
    have lxo := hAo.len
    rw [postP_len] at lxo
    refine for_list (xs := xo) (fun i σ H' => ∃ (n : Nat) (met : Bool) (y10 : Option V), σ = [some (.ref x), some v, some (.ref a), some vt, some (vInt m), some vo, some vi, some vw, some (vInt n), some (.bl met), y10, none, none, none, none] ∧ H' = H15 ∧ scan ((postP cu).drop i) n met = ahd cu)
      ⟨0, false, none, rfl, rfl, by rw [List.drop_zero]; exact scan_all cu⟩ ?_ ?_ ?_
    · rintro i σ H' hi ⟨n, met, y10, rfl, rfl, _⟩
      exact SqL.of hpo15
    · rintro i z σ H' hz ⟨n, met, y10, rfl, rfl, hsc⟩
      obtain ⟨u, hu, hzu⟩ := hAo.get hz
      have hjl : i < (postP cu).length := (List.getElem?_eq_some_iff.mp hu).1
      have hju : (postP cu)[i] = u := (List.getElem?_eq_some_iff.mp hu).2
      rw [List.drop_eq_getElem_cons hjl, hju] at hsc
      cases u with
      | hole =>
        have e : z = .non := hzu
        subst e
        exact ⟨_, rfl, rfl, _, rfl, iteT ⟨n, true, _, rfl, rfl, hsc⟩⟩
      | leaf a bs =>
        obtain ⟨q, q', rfl, h1, h2⟩ := id hzu
        refine ⟨_, rfl, rfl, _, rfl, iteF ⟨_, rfl, q, _, rfl, .inr (SqT.of h1), rfl, _, rfl, iteT ⟨_, rfl, _, rfl, ?_⟩⟩⟩
        cases met with
        | true => exact iteF ⟨n, true, _, rfl, rfl, hsc⟩
        | false => exact iteT ⟨_, rfl, _, _, rfl, rfl, n + 1, false, _, rfl, rfl, hsc⟩
      | join jj l r =>
        obtain ⟨q, y0, z0, rfl, h1, h2, h3⟩ := id hzu
        exact ⟨_, rfl, rfl, _, rfl, iteF ⟨_, rfl, q, _, rfl, .inr (SqT.of h1), rfl, _, rfl, iteF (iteF ⟨n, met, _, rfl, rfl, hsc⟩)⟩⟩
    rintro σ H' ⟨n, met, y10, rfl, rfl, hsc⟩
    rw [lxo, ← postP_len, List.drop_length] at hsc
    have hn : n = ahd cu := hsc
    subst hn
    -- the lot
    have hal := ahd_le cu
    obtain ⟨N, eN⟩ : ∃ N, N = (leavesT t).length := ⟨_, rfl⟩
    refine ⟨_, rfl, vt, t, rfl, ht4.same s415, by omega, fun H16 pq xq s16 hpq hpq16 hAq => ⟨pq, xq, rfl, .inl (SqL.of hpq16), ?_⟩⟩
    rw [hAq.len, ← eN]
    have s416 := s415.trans s16
    refine ⟨_, rfl, _, rfl, by omega, by omega, ?_⟩
    rw [Int.toNat_natCast]
    intro D hD
    have lotstep : ∀ i, i < N → V.int (((ahd cu : Int) + (N : Int) - 1 - (0 + (i : Nat)))) = vInt (ahd cu + N - 1 - i) := fun i hi => congrArg V.int (by omega)
    refine lc_range (lo := 0) (n := N) (fun i H' => Same H16 H' ∧ H' D = some (.lst (((List.range i).map fun k => ahd cu + N - 1 - k).map vInt))) ⟨same_new hD, upd_same⟩ ?_ ?_
    · rintro i H17 hi ⟨sm, hd⟩
      refine ⟨rfl, _, rfl, _, rfl, _, _, rfl, rfl, _, _, rfl, rfl, _, rfl, _, _, rfl, rfl, _, hd, below (m := 200) (by rw [List.length_map, List.length_map, List.length_range]; omega), same_upd sm hD, ?_⟩
      rw [upd_same, List.range_succ, List.map_append, List.map_append]
      exact congrArg (fun z => some (HO.lst (_ ++ [z]))) (lotstep i hi)
    rintro H17 ⟨s17, hd17⟩
    have s417 := s416.trans s17
    -- the web of the lot
    have gw := put_good gcu hg
    have hw0 : holesM (putT cu t) = 0 := by omega
    refine ⟨_, rfl, _, rfl, x, vw, b, putT cu t, rfl, hB4.same s417, hw.same ((((((((s6.trans s7).trans s8).trans s9).trans s10).trans s11).trans s12).trans s13).trans (s14.trans (s15.trans (s16.trans s17)))), gw.ok hw0, by omega, by omega, fun H18 yw arw s18 hyw parw => ?_⟩
    obtain ⟨⟨dxw, lw, gw', fsw, tsw, gsw, aw1, aw2, aw3, aw4, aw5, _⟩, _⟩ := id hyw
    have hd18 := s18 _ _ hd17
    refine ⟨yw, dxw, fsw, rfl, aw1, aw5 _ (by decide) (by decide) (by decide), _, rfl, yw, D, (leavesT (putT cu t)).length, arw, (lotR (ahd cu) N).map (fun (n : Nat) => (n : Int)), ahd cu, N, rfl, hyw, by rw [← vI]; exact SqL.of hd18, lot_nd _ _, fun k => lot_mem, by omega, by omega, fun H19 yi bri s19 hyi pari => ?_⟩
    have hpe : (subArr arw (ahd cu) N).Perm (arrT b t) := by
      have := sub_perm parw (ahd cu) N
      rw [eN, sub_put b cu t hcu1] at this
      rw [eN]
      exact this
    have pari2 := pari.trans hpe
    have s419 := s417.trans (s18.trans s19)
    -- as the web of the term
    refine ⟨_, rfl, _, rfl, _, rfl, x, vt, b, t, rfl, hB4.same s419, ht4.same s419, hok, by omega, by omega, fun H20 yt art s20 hyt part => ?_⟩
    have hyi20 := hyi.same s20
    obtain ⟨⟨dxi, li, gi', fsi, tsi, gsi, ai1, ai2, ai3, ai4, ai5, ai6, ai7, _⟩, _⟩ := id hyi20
    obtain ⟨⟨dxt, lt, gt', fst, tst, gst, at1, _⟩, _⟩ := id hyt
    have ebr : bri = art := asc_eq (pari2.trans part.symm) hyi.asc hyt.asc
    refine ⟨yi, dxi, fsi, _, rfl, ai1, .base (.ins at1 WC.cl WI.ca WI.cn WI.ct WI.cm), not_first, yi, yt, N, (leavesT t).length, bri, art, rfl, hyi20, hyt, _, rfl, ?_⟩
    rw [decide_eq_true ⟨eN, ebr⟩]
    refine iteF ?_
    have hd20 := (s19.trans s20) _ _ hd18
    refine ⟨_, rfl, _, rfl, _, rfl, by omega, by omega, ?_⟩
    rw [Int.toNat_natCast]
    intro D2 hD2
    refine lc_range (lo := 0) (n := N) (fun i H' => Same H20 H' ∧ H' D2 = some (.lst (((List.range i).map fun k => ahd cu + N - 1 - k).map vInt))) ⟨same_new hD2, upd_same⟩ ?_ ?_
    · rintro i H21 hi ⟨sm, hd⟩
      refine ⟨rfl, _, rfl, _, rfl, _, _, rfl, rfl, _, _, rfl, rfl, _, rfl, _, _, rfl, rfl, _, hd, below (m := 200) (by rw [List.length_map, List.length_map, List.length_range]; omega), same_upd sm hD2, ?_⟩
      rw [upd_same, List.range_succ, List.map_append, List.map_append]
      exact congrArg (fun z => some (HO.lst (_ ++ [z]))) (lotstep i hi)
    rintro H21 ⟨s21, hd21⟩
    refine ls_same (s21 _ _ hd20) hd21 ⟨_, rfl, iteF ?_⟩
    have s421 := s419.trans (s20.trans s21)
    -- its arrows
    refine ⟨_, rfl, yi, CW, dxi, fsi, _, rfl, s21 _ _ ai1, WC.cl, WC.arrows, ai3, ?_⟩
    refine ⟨_, rfl, _, rfl, v, vt, b, t, rfl, hP4.same s421, hb, ht4.same s421, hok, by omega, by omega, fun H22 vb s22 hvb => ?_⟩
    obtain ⟨p, pl', pa, pb, zs, ws, rfl, g1, g2, g3, g4, g5, g6, _⟩ := hvb
    refine ⟨p, _, _, .ref pa, rfl, rfl, SqL.of g1, atI_nat (j := 1) rfl, ?_⟩
    obtain ⟨ta, exs, hkt, hso⟩ := srt_pairs g4 (arr_good b t).2
    refine ⟨pa, ta, kOf H22, rfl, by rw [← exs]; exact SqL.of g3, hkt, fun ts' q hts hs hq => ?_⟩
    obtain ⟨ar2, hz2, par2, asc2⟩ := hso ts' hts hs
    have e2 : ar2 = bri := asc_eq (par2.trans pari2.symm) asc2 hyi.asc
    subst e2
    have s3 := same_new (o := .lst (ts'.map V.ref)) hq
    refine .inl ⟨q, _, rfl, SqL.of upd_same, fun q2 hq2 => ?_⟩
    have s4 := same_new (o := .tup (ts'.map V.ref)) hq2
    have s34 := s22.trans (s3.trans s4)
    refine ⟨dNss (ar2.map prL), dNss (ar2.map prL), dp_prs ((s21.trans s34) _ _ ai6) (ai7.imp fun _ _ h => h.tups (Tups.of (s21.trans s34))), dp_prs upd_same (hz2.imp fun _ _ h => h.tups (Tups.of (s3.trans s4))), dNss_sh _, dNss_sh _, ?_⟩
    rw [eqv_dec (p := True) (dNss_pl _) (dNss_pl _) ⟨fun _ => trivial, fun _ => rfl⟩]
    have sl := s421.trans s34
    exact k _ c4 (k04.trans (kp_same sl)) (hT4.same sl)
end
end Fam

/-! What is refused; hung. -/
namespace L2
open PySem PySem.Spec PyProof.Rows
section
variable {X : Cx} {CX : CXT} {k n : Nat} {f : Addr} {fd : FuncData} {ps ks : List Str} {sp : Sp} {E : St → XK} {x : Str} {p pos : Pos} {e : Expr} {es : List Expr} {kws : List Keyword} {t tk : TA} {g : List Value → List Value → List Value} {gV : List V → List V → List V}
def tCallNS (n m : Nat) (sp : Sp) (gV : List V → List V → List V) (E : St → XK) (t tk : TA) : TE := fun σ H Q => t σ H fun vs H1 => tk σ H1 fun zs H2 => vs.length = n ∧ zs.length = m ∧ sp (gV vs zs) H2 Q (E σ)
/-- f(e, .., k = v, ..) in a try: what is raised is wished for at the slots -/
theorem pe_callNS (F : FnOk X.prog X.w X.K X.mg X.base CX k f fd ps sp) (hr : Room k X.A) (hg : Gl X x) (hm : X.mg x = some (.ref f)) (hk : PySem.W.keepIn X.K (.ref f) = true) (hb : KBn X.K fd ps n ks g gV) (hx : ∀ σ, PassesAt CX X σ (E σ))
    (ha : PA X (e :: es) t) (hkw : PK X kws tk) (hall : (backToKw pos (keywordEach kws X.env)).all (·.1.isSome) = true := by rfl) (hks : (backToKw pos (keywordEach kws X.env)).filterMap (·.1) = ks := by rfl)
    (hdb : (x == ("__debug__" : Str)) = false := by decide) (he : starEach (e :: es) X.env = (false, eval e X.env) :: starEach es X.env := by rfl)
    (hpl : ((backTo pos (starEach (e :: es) X.env)).any (·.1) || (backToKw pos (keywordEach kws X.env)).any (·.1.isNone)) = false := by rfl) :
    PE X (.Call (.Name x p) (e :: es) kws pos) (tCallNS n ks.length sp gV E t tk) := by
  refine ⟨fun pins s σ H Q I h => ?_⟩
  refine wpAny_Call_Name_kw (ld_glob I hg hm ?_ hdb)
  refine PySem.W.callWith_KW (h₀ := X.base) I.ok.mod.kin hk hall (thn (ha.run pos pins s σ H _ I h) fun us s1 ⟨vs, H1, I1, r, q⟩ => ?_) hpl he
  refine thn (hkw.run pos pins s1 σ H1 _ I1 q) fun ws s2 ⟨zs, H2, I2, rz, l1, l2, q2⟩ => ⟨I2.kIn, ?_⟩
  rw [hks]
  have r2 := hb.rel r rz
  refine wpAny_call (codeAny_mono (F.run X.A X.stack s2 H2 ⟨us, ks.zip ws⟩ (g us ws) (gV vs zs) Q (E σ) hr I2.env0 (hb.to s2 us ws I2.kIn (r.length.symm.trans l1) (rz.length.symm.trans l2)) r2 q2) fun r s' hq => ?_)
  cases r with
  | error e => exact hx σ pins H2 s2 e s' I2 hq
  | ok fl =>
    cases fl with
    | ret u => exact I2.after hq
    | next => exact False.elim hq
    | brk => exact False.elim hq
    | cont => exact False.elim hq
end
/-- isinstance(e, c), e the exception that the suite holds, of whatever class -/
def rIsE2 (K : PySem.W.Frag) (cls : Value) (d : Option Addr) (D a : Addr) : List V → Hp → VK → Prop := fun xs H Q => cls = .ref D ∧ d = none ∧ rIsE K D a xs H Q
theorem call_isE2 {X : Cx} {a D : Addr} {oe : Obj} {cls : Value} {d : Option Addr} {pn : List (Addr × Obj)} (C : ExcC X.K D) (hz : Zc cls d oe) (hf : ∃ vs, oe.data = .fields vs) : CallR (X.suite a ((a, oe) :: pn)) (.builtin "isinstance") (rIsE2 X.K cls d D a) := by
  intro pins s σ H xs us Q I r h
  obtain ⟨e1, e2, h⟩ := h
  subst e1 e2
  exact call_isE C hz hf pins s σ H xs us Q I r h
end L2
namespace Fam
open PySem L2 S5 ItX OwnX
open C8 (pss_cut tCut)
/-- what is told of a lot that is refused -/
structure LotFacts (K : PySem.W.Frag) (mg : Str → Option Value) (BL BT : Addr) : Prop where
  gB : mg "BadLot" = some (.ref BL)
  gT : mg "BadTerm" = some (.ref BT)
  gV : mg "ValueError" = none
  te : PySem.W.exmOne K (.ref BL) (.ref BL) = some true
  c : ExcC K BL
  kv : PySem.W.kitOne K (.ref BL) (.type "ValueError") = some true
  kt : PySem.W.kitOne K (.ref BL) (.ref BT) = some false
def spLotRefused (K : PySem.W.Frag) : Sp := fun vs H Q _ => ∃ (v x : V) (t : Tm) (d : PyData), vs = [v, x] ∧ TmAt H v t ∧ t.nodes ≤ 1000 ∧ (leavesT t).length ≤ 60 ∧ Dp K H x d ∧ TracksD (leavesT t).length d none ∧ ∀ H', Same H H' → Q (.bl true) H'
def spNumRefused (K : PySem.W.Frag) : Sp := fun vs H Q _ => ∃ (v x : V) (t : Tm) (d : PyData) (w : Int) (z : Str), vs = [.int w, v, x] ∧ TmAt H v t ∧ t.nodes ≤ 900 ∧ 1 ≤ (leavesT t).length ∧ Dp K H x d ∧
  ((w = 0 ∧ betD d 0 ((leavesT t).length - 1) = false ∧ z = "place") ∨ (w = 1 ∧ betD d 0 ((leavesT t).length - 1) = false ∧ z = "place") ∨ (w = 2 ∧ betD d 0 200 = false ∧ z = "times")) ∧ ∀ H', Same H H' → Q (.str z) H'
def spHungOk : Sp := fun vs H Q _ => ∃ (v u : V) (t t2 : Tm) (n : Nat), vs = [v, u, vInt n] ∧ TmAt H v t ∧ TmAt H u t2 ∧ n ≤ 3 ∧ (leavesT t).length ≤ 7 ∧ (leavesT t2).length ≤ 2 ∧ holesM t = 0 ∧ holesM t2 = 0 ∧ 1 ≤ (leavesT t).length ∧ ∀ H', Same H H' → Q (.bl true) H'
theorem hung_len (t t2 : Tm) : ∀ n, (leavesT (hungT t t2 n)).length = (leavesT t).length + n * (leavesT t2).length
  | 0 => by show (leavesT t).length = _ + 0 * _; omega
  | n + 1 => by
    show (leavesT (hungT t t2 n) ++ leavesT t2).length = _
    rw [List.length_append, hung_len t t2 n, Nat.succ_mul]
    omega
theorem hung_holes {t t2 : Tm} (h : holesM t = 0) (h2 : holesM t2 = 0) : ∀ n, holesM (hungT t t2 n) = 0
  | 0 => h
  | n + 1 => by
    show holesM (hungT t t2 n) + holesM t2 = 0
    rw [hung_holes h h2 n, h2]
theorem tm_eq {K : PySem.W.Frag} {H : Hp} {v w : V} {t : Tm} {Q : VK} (hv : TmAt H v t) (hw : TmAt H w t) (h1 : t.nodes ≤ 60) (q : Q (.bl true) H) : rEqD K v w H Q := by
  refine ⟨dTm t, dTm t, dp_tm hv, dp_tm hw, dTm_sh h1, dTm_sh h1, ?_⟩
  rw [eqv_dec (p := True) (dTm_pl t) (dTm_pl t) ⟨fun _ => trivial, fun _ => rfl⟩]
  exact q
section
variable {P : Program} {w : World} {K : PySem.W.Frag} {mg : Str → Option Value} {base : Heap}
abbrev nLRf : List Str := ["_law_term_here", "_law_tracks", "_law_told", "refused"]
theorem scLRf : FnScope nLRf ["_law_term_here", "_law_tracks"] (defScope sLLotRefused) := ⟨rfl, rfl, rfl, by decide +kernel, rfl, by decide +kernel, by decide +kernel⟩
theorem ok_lot_refused {BL BT f : Addr} {fd : FuncData} (F : Fun K "_law_lot_refused" "_law_lot_refused" sLLotRefused f fd) (T : Bare mg) (N : LotFacts K mg BL BT) (GC : CalE P w K mg base 5 "colour" ["term", "tracks"] (spColour K BL)) : FnOk P w K mg base CX0 6 f fd ["_law_term_here", "_law_tracks"] (spLotRefused K) := by
  obtain ⟨_, _, ok_co, b_co, k_co, m_co⟩ := GC.ex
  refine F.ok scLRf (fun vs H Q E h => ?_) (fun cdv A outer s H vs Q E hr h => ?_)
  · obtain ⟨v, x, t, d, rfl, _⟩ := h
    rfl
  · obtain ⟨v, x, t, d, rfl, ht, hn, hl, hd, htr, k⟩ := h
    have hr_co := hr
    refine ⟨_, pss_cons (ps_set (i := 2) scLRf.nd rfl (Or.inl rfl) pe_bl)
      (pss_cons (ps_try_first (i := 3) rfl rfl scLRf.nd rfl rfl ⟨rfl, by decide +kernel, .inl N.gB⟩
          (fun W pn xe tk _ => pss_one (ps_expr (pe_callS ok_co hr_co rfl m_co k_co b_co (fun σ => passAt tk σ) (pa_cons (pv 0) (pa_cons (pv 1) pa_nil)))))
          (fun a oe cls d pn hz hf => pss_one (ps_set (i := 2) scLRf.nd rfl (Or.inl rfl) (pe_and (pe_callB (call_isE2 N.c hz hf) (by rfl) T.isi (by decide +kernel) (pa_cons (pv 3) (pa_cons (pe_ty (n := "ValueError") (by rfl) N.gV (by decide +kernel)) pa_nil))) (pe_one (pe_not (pe_callB (call_isE2 N.c hz hf) (by rfl) T.isi (by decide +kernel) (pa_cons (pv 3) (pa_cons (pe_glob (v := .ref BT) rfl N.gT rfl) pa_nil)))))))))
      (pss_one (ps_ret (pv 2)))), ?_⟩
    refine ⟨_, rfl, _, rfl, v, x, t, d, none, rfl, ht, hn, hl, hd, htr, (fun ls e => by cases e), fun _ H' s => ⟨N.te, fun a ha => ?_⟩⟩
    exact ⟨_, rfl, rfl, rfl, .ty "ValueError", .type "ValueError", true, rfl, (fun u hu => hu), N.kv, _, rfl, iteT ⟨_, rfl, rfl, rfl, .ref BT, .ref BT, false, rfl, (fun u hu => hu), N.kt, _, rfl, _, rfl, k H' s⟩⟩
abbrev nNR : List Str := ["_law_word", "_law_term_here", "_law_value", "_law_told", "_law_bits_here", "refused"]
theorem scNR : FnScope nNR ["_law_word", "_law_term_here", "_law_value"] (defScope sLNumberRefused) := ⟨rfl, rfl, rfl, by decide +kernel, rfl, by decide +kernel, by decide +kernel⟩
theorem ok_num_refused {B f : Addr} {fd : FuncData} (F : Fun K "_law_number_refused" "_law_number_refused" sLNumberRefused f fd) (T : Bare mg) (N : BadFacts K mg B) (GL : Cal P w K mg base 2 "_law_leaves" ["_law_term_here"] spLLeaves)
    (GA : CalE P w K mg base 4 "leaf_at" ["term", "place"] (spLeafAtD K B)) (GC : CalE P w K mg base 4 "changed" ["term", "place", "bits"] (spChangedD K B)) (GH : CalK P w K mg base 4 "hung" ["t", "u", "times"] 2 ["times"] (spHung K B)) : FnOk P w K mg base CX0 5 f fd ["_law_word", "_law_term_here", "_law_value"] (spNumRefused K) := by
  obtain ⟨_, _, ok_ll, b_ll, k_ll, m_ll⟩ := GL.ex
  obtain ⟨_, _, ok_la, b_la, k_la, m_la⟩ := GA.ex
  obtain ⟨_, _, ok_ch, b_ch, k_ch, m_ch⟩ := GC.ex
  obtain ⟨_, _, ok_hu, kb_hu, k_hu, m_hu⟩ := GH.ex
  refine F.ok scNR (fun vs H Q E h => ?_) (fun cdv A outer s H vs Q E hr h => ?_)
  · obtain ⟨v, x, t, d, w, z, rfl, _⟩ := h
    rfl
  · obtain ⟨v, x, t, d, w, z, rfl, ht, hn, hl, hd, hw, k⟩ := h
    have hr_ll := hr.mono (j := 2) (by decide)
    refine ⟨_, pss_cons (ps_set (i := 3) scNR.nd rfl (Or.inl rfl) pe_str)
      (pss_cons (ps_set (i := 4) scNR.nd rfl (Or.inl rfl) (pe_ix ix_tup (pe_ix ix_list (pe_call ok_ll hr_ll rfl m_ll k_ll b_ll .nil pass0 (pa_cons (pv 1) pa_nil)) pe_int (fun _ _ => rfl)) pe_int (fun _ _ => rfl)))
      (pss_cons (ps_try_first (i := 5) rfl rfl scNR.nd rfl rfl ⟨rfl, by decide +kernel, .inl N.gB⟩
          (fun W pn xe tk _ => pss_one (ps_if (pt_cmpR op_eq (pv 0) pe_int (nomark _))
            (pss_one (ps_expr (pe_callS ok_la hr rfl m_la k_la b_la (fun σ => passAt tk σ) (pa_cons (pv 1) (pa_cons (pv 2) pa_nil)))))
            (pss_one (ps_if (pt_cmpR op_eq (pv 0) pe_int (nomark _))
              (pss_one (ps_expr (pe_callS ok_ch hr rfl m_ch k_ch b_ch (fun σ => passAt tk σ) (pa_cons (pv 1) (pa_cons (pv 2) (pa_cons (pv 4) pa_nil))))))
              (pss_one (ps_expr (pe_callNS ok_hu hr rfl m_hu k_hu kb_hu (fun σ => passAt tk σ) (pa_cons (pv 1) (pa_cons (pv 1) pa_nil)) (pk_cons (pv 2) pk_nil))))))))
          (fun a oe cls d pn hz hf => pss_one (ps_set (i := 3) scNR.nd rfl (Or.inl rfl) (by exact pe_xf N.xf N.no hz hf (pv 5)))))
      (pss_one (ps_ret (pv 3))))), ?_⟩
    refine ⟨_, rfl, v, t, rfl, ht, hn, fun H1 p xs s1 hp hxs hA => ?_⟩
    obtain ⟨cs, ecs⟩ : ∃ cs, cs = leavesT t := ⟨_, rfl⟩
    rw [← ecs] at hA hl hw
    obtain ⟨c, hc⟩ : ∃ c, cs[0]? = some c := ⟨cs[0], List.getElem?_eq_getElem (by omega)⟩
    obtain ⟨y, hy, q, q2, rfl, h1, h2⟩ := hA.get2 hc
    refine ⟨p, _, _, .ref q, rfl, rfl, SqL.of hxs, atI_nat (j := 0) hy, q, _, _, .ref q2, rfl, rfl, SqT.of h1, atI_nat (j := 1) rfl, ?_⟩
    have ht1 := ht.same s1
    have hd1 := dp_same s1 hd
    rcases hw with ⟨rfl, hb, rfl⟩ | ⟨rfl, hb, rfl⟩ | ⟨rfl, hb, rfl⟩
    · refine ⟨_, rfl, rfl, _, rfl, iteT ⟨_, rfl, _, rfl, v, x, t, d, rfl, ht1, by omega, hd1, .inr ⟨by rw [← ecs]; exact hb, fun dd H' s hdd hd' => ⟨N.te, fun a ha => ?_⟩⟩⟩⟩
      exact ⟨_, rfl, rfl, rfl, dd, _, _, rfl, hd', rfl, _, rfl, k H' (s1.trans s)⟩
    · refine ⟨_, rfl, rfl, _, rfl, iteF ⟨_, rfl, rfl, _, rfl, iteT ⟨_, rfl, _, rfl, _, rfl, v, x, q2, t, d, c.2, rfl, ht1, by omega, hd1, h2, .inr ⟨by rw [← ecs]; exact hb, fun dd H' s hdd hd' => ⟨N.te, fun a ha => ?_⟩⟩⟩⟩⟩
      exact ⟨_, rfl, rfl, rfl, dd, _, _, rfl, hd', rfl, _, rfl, k H' (s1.trans s)⟩
    · refine ⟨_, rfl, rfl, _, rfl, iteF ⟨_, rfl, rfl, _, rfl, iteF ⟨_, rfl, _, rfl, _, rfl, rfl, rfl, v, v, x, t, t, d, rfl, ht1, ht1, hd1, .inr ⟨hb, fun dd H' s hdd hd' => ⟨N.te, fun a ha => ?_⟩⟩⟩⟩⟩
      exact ⟨_, rfl, rfl, rfl, dd, _, _, rfl, hd', rfl, _, rfl, k H' (s1.trans s)⟩
abbrev nHO : List Str := ["_law_term_here", "_law_other", "_law_often", "_law_whole", "_law_k", "_law_words", "_law_bad"]
theorem scHO : FnScope nHO ["_law_term_here", "_law_other", "_law_often"] (defScope sLHungOk) := ⟨rfl, rfl, rfl, by decide +kernel, rfl, by decide +kernel, by decide +kernel⟩
theorem bad_times {K : PySem.W.Frag} {i : Nat} {x : V} (h : ([V.int 201, V.int (-1), V.bl true, V.non] : List V)[i]? = some x) : ∃ d, (∀ H, Dp K H x d) ∧ betD d 0 200 = false := by
  match i, h with
  | 0, h => cases h; exact ⟨.int 201, fun _ => .int _, by decide⟩
  | 1, h => cases h; exact ⟨.int (-1), fun _ => .int _, by decide⟩
  | 2, h => cases h; exact ⟨.bool true, fun _ => .bl _, rfl⟩
  | 3, h => cases h; exact ⟨.none, fun _ => .non, rfl⟩
  | n + 4, h => cases h
theorem times4 (z : Str) (hz : PyData.strOk z = true) : SeqAt.shaped (.list (List.replicate 4 (PyData.str z))) = true ∧ PyData.eqv (.list (List.replicate 4 (PyData.str z))) (.list (List.replicate 4 (PyData.str z))) = true := by
  constructor
  · unfold SeqAt.shaped
    simp [List.replicate, PyData.canLay0, PyData.canLayAll0, PyData.depth, PyData.depthAll, hz]
  · simp [List.replicate, PyData.eqv, PyData.eqvAll]
theorem ok_hung_ok {B f : Addr} {fd : FuncData} (F : Fun K "_law_hung_ok" "_law_hung_ok" sLHungOk f fd) (T : Bare mg) (GN : Cal P w K mg base 5 "_law_number_refused" ["_law_word", "_law_term_here", "_law_value"] (spNumRefused K))
    (GH : CalK P w K mg base 4 "hung" ["t", "u", "times"] 2 ["times"] (spHung K B)) (GD : CalD P w K mg base 4 "hung" ["t", "u", "times"] [.int 1] (spHung K B)) : FnOk P w K mg base CX0 6 f fd ["_law_term_here", "_law_other", "_law_often"] spHungOk := by
  obtain ⟨_, _, ok_nr, b_nr, k_nr, m_nr⟩ := GN.ex
  obtain ⟨_, _, ok_hu0, kb_hu, k_hu, m_hu⟩ := GH.ex
  obtain ⟨_, _, _, ok_hv0, b_hv, v_hv, k_hv, m_hv⟩ := GD.ex
  have ok_hu := ok_noex ok_hu0
  have ok_hv := ok_noex ok_hv0
  refine F.ok scHO (fun vs H Q E h => ?_) (fun cdv A outer s H vs Q E hr h => ?_)
  · obtain ⟨v, u, t, t2, n, rfl, _⟩ := h
    rfl
  · obtain ⟨v, u, t, t2, n, rfl, ht, hu, hn, hl, hl2, hh, hh2, hl1, k⟩ := h
    have hr_nr := hr
    have hr_hu := hr.mono (j := 4) (by decide)
    have hr_hv := hr_hu
    refine ⟨_, (pss_cons (ps_set (i := 3) scHO.nd rfl (Or.inl rfl) (pv 0))
      (pss_cons (ps_for PassesOwn.never rfl (pi_range1 rfl T.range (pa_cons (pv 2) pa_nil)) (pg_name (i := 4) scHO.nd rfl (Or.inl rfl))
          (pss_one (ps_set (i := 3) scHO.nd rfl (Or.inl rfl) (pe_tup (pa_cons pe_int (pa_cons (pv 3) (pa_cons (pv 1) pa_nil)))))))
      (pss_cons (ps_setLc (i := 5) (own := [("_law_bad", 6)]) (g := gName 6) (tt := tYes) (by rfl) scHO.nd rfl rfl (sw_true rfl rfl rfl (by decide +kernel)) (pi_list (pe_lst (pa_cons pe_int (pa_cons (pe_un un_neg pe_int) (pa_cons pe_bl (pa_cons pe_non pa_nil)))))) (blkOk_by (own := [("_law_bad", 6)]) (N := nHO) (sc := defScope sLHungOk) (by decide +kernel)) (fun _ _ _ _ _ => pg_name (i := 6) scHO.nd rfl (Or.inl rfl)) (fun _ _ _ _ _ => pts_nil) (fun _ _ _ _ _ => pe_call ok_nr hr_nr rfl m_nr k_nr b_nr .nil pass0 (pa_cons pe_int (pa_cons (pv 0) (pa_cons (pv 6) pa_nil)))))
      (pss_one (ps_ret (pe_and (pe_cmpR (op_eqD hr.units) (pe_callN ok_hu hr_hu rfl m_hu k_hu kb_hu pass0 (pa_cons (pv 0) (pa_cons (pv 1) pa_nil)) (pk_cons (pv 2) pk_nil)) (pv 3) (nomark _)) (pe_and (pe_cmpR (op_eqD hr.units) (pe_call ok_hv hr_hv rfl m_hv k_hv b_hv v_hv pass0 (pa_cons (pv 0) (pa_cons (pv 1) pa_nil))) (pe_tup (pa_cons pe_int (pa_cons (pv 0) (pa_cons (pv 1) pa_nil)))) (nomark _)) (pe_one (pe_cmpR (op_eqD hr.units) (pv 5) (pe_op op_rep (pe_lst (pa_cons pe_str pa_nil)) pe_int) (nomark _)))))))))), ?_⟩
    have hno := nodesM t
    have hno2 := nodesM t2
    refine ⟨_, rfl, _, rfl, _, rfl, by omega, by omega, ?_⟩
    rw [Int.toNat_natCast]
    refine for_range (lo := 0) (n := n) (fun i σ H' => ∃ (y : V) (y4 : Option V), σ = [some v, some u, some (vInt n), some y, y4, none, none] ∧ Same H H' ∧ TmAt H' y (hungT t t2 i)) ⟨v, none, rfl, fun _ _ h => h, ht⟩ ?_ ?_
    · rintro i σ H1 hi ⟨y, y4, rfl, sm, hy⟩
      refine ⟨_, rfl, _, rfl, small (m := 3) (Nat.le_refl _), fun q hq => ?_⟩
      have e1 := same_new (o := .tup [V.int 0, y, u]) hq
      exact ⟨_, _, rfl, sm.trans e1, q, y, u, rfl, upd_same, hy.same e1, hu.same (sm.trans e1)⟩
    rintro σ H1 ⟨y, y4, rfl, s1, hy⟩
    have hlh := hung_len t t2 n
    have hhh := hung_holes hh hh2 n
    have b3 : n * (leavesT t2).length ≤ 3 * 2 := Nat.mul_le_mul hn hl2
    have nh : (hungT t t2 n).nodes ≤ 60 := nodes60 (n := 28) (by omega) (by omega) (by decide)
    have nj : (Tm.join 0 t t2).nodes ≤ 60 := by show t.nodes + t2.nodes + 1 ≤ 60; omega
    refine ⟨_, rfl, small (m := 4) (Nat.le_refl _), fun O hO => ?_⟩
    have e2 := same_new (o := .lst [V.int 201, V.int (-1), V.bl true, V.non]) hO
    refine ⟨O, rfl, ⟨_, SqL.of upd_same⟩, fun D hD => ?_⟩
    obtain ⟨H2, eH2⟩ : ∃ H2, H2 = upd H1 O (.lst [V.int 201, V.int (-1), V.bl true, V.non]) := ⟨_, rfl⟩
    have hO2 : H2 O = some (.lst [V.int 201, V.int (-1), V.bl true, V.non]) := by rw [eH2]; exact upd_same
    rw [← eH2] at e2 hD
    refine lc_list (K := K) (a := O) (xs := [V.int 201, V.int (-1), V.bl true, V.non]) (fun i H' => Same H2 H' ∧ H' D = some (.lst (List.replicate i (V.str "times")))) ⟨by rw [← eH2]; exact same_new hD, upd_same⟩ (fun i H' _ h => SqL.of (h.1 _ _ hO2)) ?_ ?_
    · rintro i x H3 hx ⟨sm, hd⟩
      obtain ⟨d, hdx, hdb⟩ := bad_times (K := K) hx
      have hi4 : i < 4 := (List.getElem?_eq_some_iff.mp hx).1
      refine ⟨rfl, _, rfl, _, rfl, v, x, t, d, 2, "times", rfl, ht.same (s1.trans (e2.trans sm)), by omega, hl1, hdx _, .inr (.inr ⟨rfl, hdb, rfl⟩), fun H4 s4 => ⟨_, s4 _ _ hd, below (m := 10) (by rw [List.length_replicate]; omega), same_upd (sm.trans s4) hD, ?_⟩⟩
      rw [upd_same, List.replicate_succ']
    rintro H3 ⟨s3, hd3⟩
    have s03 := s1.trans (e2.trans s3)
    refine ⟨_, rfl, _, rfl, _, rfl, rfl, rfl, v, u, vInt n, t, t2, .int (n : Int), rfl, ht.same s03, hu.same s03, .int _, .inl ⟨n, rfl, by omega, fun H4 y5 s4 hy5 => ?_⟩⟩
    refine ⟨_, rfl, tm_eq hy5 (hy.same (e2.trans (s3.trans s4))) nh ⟨_, rfl, iteT ?_⟩⟩
    have s04 := s03.trans s4
    refine ⟨_, rfl, _, rfl, v, u, V.int 1, t, t2, .int 1, rfl, ht.same s04, hu.same s04, .int _, .inl ⟨1, rfl, by decide, fun H5 y6 s5 hy6 => ?_⟩⟩
    have s05 := s04.trans s5
    refine ⟨_, rfl, _, rfl, small (m := 3) (Nat.le_refl _), fun q hq => ?_⟩
    have e6 := same_new (o := .tup [V.int 0, v, u]) hq
    refine tm_eq (hy6.same e6) ⟨q, v, u, rfl, upd_same, ht.same (s05.trans e6), hu.same (s05.trans e6)⟩ nj ⟨_, rfl, iteT ?_⟩
    refine ⟨_, rfl, small (m := 1) (Nat.le_refl _), fun q2 hq2 => ?_⟩
    have e7 := same_new (o := .lst [V.str "times"]) hq2
    refine ⟨q2, 4, _, rfl, rfl, upd_same, by decide, by decide, small (m := 4) (Nat.le_refl _), fun q3 hq3 => ?_⟩
    have e8 := same_new (o := .lst (List.replicate 4 [V.str "times"]).flatten) hq3
    have s38 := s4.trans (s5.trans (e6.trans (e7.trans e8)))
    have d4 : ∀ H, DpAll K H (List.replicate 4 (V.str "times")) (List.replicate 4 (PyData.str "times")) := fun H => .cons (.str _) (.cons (.str _) (.cons (.str _) (.cons (.str _) .nil)))
    refine ⟨.list (List.replicate 4 (PyData.str "times")), .list (List.replicate 4 (PyData.str "times")), .lst (SqL.of (s38 _ _ hd3)) (d4 _), .lst (SqL.of upd_same) (d4 _), (times4 "times" (by decide +kernel)).1, (times4 "times" (by decide +kernel)).1, ?_⟩
    rw [(times4 "times" (by decide +kernel)).2]
    exact k _ (s05.trans (e6.trans (e7.trans e8)))
end
end Fam

/-! Painted leaves: the two ways agree. -/
namespace Fam
open PySem L2 S5
/-- a term of the same joins and labels, its leaves' bits by a rule of place and leaf -/
def bitF (g : Nat → (Nat × List Nat) → List Nat) (k : Nat) : Tm → Tm
  | .leaf a bs => .leaf a (g k (a, bs))
  | u => u
theorem fill_map (g : Nat → (Nat × List Nat) → List Nat) : ∀ (t : Tm) (k : Nat) (rest : List (Nat × List Nat)), fillT t (((leavesT t).mapIdx fun i c => (c.1, g (k + i) c)) ++ rest) = ((mapT (bitF g) t k).1, rest)
  | .hole, k, rest => rfl
  | .leaf a bs, k, rest => rfl
  | .join j l r, k, rest => by
    have e : (leavesT (.join j l r)).mapIdx (fun i c => (c.1, g (k + i) c)) = (leavesT l).mapIdx (fun i c => (c.1, g (k + i) c)) ++ (leavesT r).mapIdx (fun i c => (c.1, g (k + (leavesT l).length + i) c)) := by
      show (leavesT l ++ leavesT r).mapIdx _ = _
      rw [List.mapIdx_append]
      congr 2
      funext i c
      rw [Nat.add_comm i, Nat.add_assoc]
    rw [e, List.append_assoc]
    show (Tm.join j (fillT l _).1 (fillT r (fillT l _).2).1, (fillT r (fillT l _).2).2) = _
    rw [fill_map g l k]
    have h2 := fill_map g r (k + (leavesT l).length) rest
    rw [h2]
    show _ = (Tm.join j (mapT (bitF g) l k).1 (mapT (bitF g) r (mapT (bitF g) l k).2).1, rest)
    rw [map_k]
theorem fill_all (g : Nat → (Nat × List Nat) → List Nat) (t : Tm) : (fillT t ((leavesT t).mapIdx fun i c => (c.1, g i c))).1 = (mapT (bitF g) t 0).1 := by
  have := fill_map g t 0 []
  rw [List.append_nil] at this
  have e : (fun (i : Nat) (c : Nat × List Nat) => (c.1, g (0 + i) c)) = fun i c => (c.1, g i c) := by
    funext i c
    rw [Nat.zero_add]
  rw [e] at this
  rw [this]
theorem col_bit (rows : List (List Nat)) : fCol rows = bitF fun i _ => rows.map fun r => r.getD i 0 := by
  funext k u
  cases u <;> rfl
/-- the leaves of a map -/
theorem map_leaves (g : Nat → (Nat × List Nat) → List Nat) : ∀ (t : Tm) (k : Nat), leavesT (mapT (bitF g) t k).1 = (leavesT t).mapIdx fun i c => (c.1, g (k + i) c)
  | .hole, k => rfl
  | .leaf a bs, k => rfl
  | .join j l r, k => by
    show leavesT (mapT (bitF g) l k).1 ++ leavesT (mapT (bitF g) r (mapT (bitF g) l k).2).1 = (leavesT l ++ leavesT r).mapIdx _
    rw [map_leaves g l, map_leaves g r, map_k, List.mapIdx_append]
    congr 2
    funext i c
    rw [Nat.add_comm i, Nat.add_assoc]
theorem map_nodes (g : Nat → (Nat × List Nat) → List Nat) : ∀ (t : Tm) (k : Nat), (mapT (bitF g) t k).1.nodes = t.nodes
  | .hole, k => rfl
  | .leaf a bs, k => rfl
  | .join j l r, k => by
    show (mapT (bitF g) l k).1.nodes + (mapT (bitF g) r _).1.nodes + 1 = l.nodes + r.nodes + 1
    rw [map_nodes g l, map_nodes g r]
theorem map_map2 (g h : Nat → (Nat × List Nat) → List Nat) (hg : ∀ i a bs cs, g i (a, bs) = g i (a, cs)) : ∀ (t : Tm) (k : Nat), (mapT (bitF g) (mapT (bitF h) t k).1 k).1 = (mapT (bitF g) t k).1
  | .hole, k => rfl
  | .leaf a bs, k => by
    show Tm.leaf a (g k (a, h k (a, bs))) = Tm.leaf a (g k (a, bs))
    rw [hg k a _ bs]
  | .join j l r, k => by
    show Tm.join j (mapT (bitF g) (mapT (bitF h) l k).1 k).1 (mapT (bitF g) (mapT (bitF h) r (mapT (bitF h) l k).2).1 (mapT (bitF g) (mapT (bitF h) l k).1 k).2).1 = Tm.join j (mapT (bitF g) l k).1 (mapT (bitF g) r (mapT (bitF g) l k).2).1
    have el : (leavesT (mapT (bitF h) l k).1).length = (leavesT l).length := by rw [map_leaves, List.length_mapIdx]
    rw [map_map2 g h hg l, map_k, map_k, map_k, el, map_map2 g h hg r]
/-- a rule that gives each leaf its own bits changes nothing -/
theorem map_self (g : Nat → (Nat × List Nat) → List Nat) : ∀ (t : Tm) (k : Nat), (∀ i c, (leavesT t)[i]? = some c → g (k + i) c = c.2) → (mapT (bitF g) t k).1 = t
  | .hole, k, _ => rfl
  | .leaf a bs, k, h => by
    have := h 0 (a, bs) rfl
    show Tm.leaf a (g k (a, bs)) = _
    rw [Nat.add_zero] at this
    rw [this]
  | .join j l r, k, h => by
    show Tm.join j (mapT (bitF g) l k).1 (mapT (bitF g) r (mapT (bitF g) l k).2).1 = _
    rw [map_k, map_self g l k fun i c e => h i c (by
      show (leavesT l ++ leavesT r)[i]? = _
      rw [List.getElem?_append_left (List.getElem?_eq_some_iff.mp e).1]
      exact e), map_self g r _ fun i c e => by
      rw [Nat.add_assoc]
      refine h _ c ?_
      show (leavesT l ++ leavesT r)[(leavesT l).length + i]? = _
      rw [List.getElem?_append_right (Nat.le_add_right _ _), Nat.add_sub_cancel_left]
      exact e]
theorem map_congr (g h : Nat → (Nat × List Nat) → List Nat) : ∀ (t : Tm) (k : Nat), (∀ i c, (leavesT t)[i]? = some c → g (k + i) c = h (k + i) c) → (mapT (bitF g) t k).1 = (mapT (bitF h) t k).1
  | .hole, k, _ => rfl
  | .leaf a bs, k, q => by
    have := q 0 (a, bs) rfl
    rw [Nat.add_zero] at this
    show Tm.leaf a (g k (a, bs)) = Tm.leaf a (h k (a, bs))
    rw [this]
  | .join j l r, k, q => by
    show Tm.join j (mapT (bitF g) l k).1 (mapT (bitF g) r (mapT (bitF g) l k).2).1 = Tm.join j (mapT (bitF h) l k).1 (mapT (bitF h) r (mapT (bitF h) l k).2).1
    rw [map_k, map_k, map_congr g h l k fun i c e => q i c (by
      show (leavesT l ++ leavesT r)[i]? = _
      rw [List.getElem?_append_left (List.getElem?_eq_some_iff.mp e).1]
      exact e), map_congr g h r _ fun i c e => by
      rw [Nat.add_assoc]
      refine q _ c ?_
      show (leavesT l ++ leavesT r)[(leavesT l).length + i]? = _
      rw [List.getElem?_append_right (Nat.le_add_right _ _), Nat.add_sub_cancel_left]
      exact e]
theorem paint_bit (t : Tm) (ls : List (List Int)) : paintT t ls = (mapT (bitF fun i _ => ls.map (bitIn i)) t 0).1 := fill_all (fun i _ => ls.map (bitIn i)) t
/-- the places of a row's ones -/
def onesR (row : List Nat) (n : Nat) : List Nat := (List.range n).filter fun i => decide (row.getD i 0 = 1)
def lotI (row : List Nat) (n : Nat) : List Int := (onesR row n).map fun (x : Nat) => (x : Int)
theorem mem_lotI {row : List Nat} {n : Nat} {k : Int} : k ∈ lotI row n ↔ ∃ i : Nat, i < n ∧ row.getD i 0 = 1 ∧ k = (i : Int) := by
  unfold lotI onesR
  rw [List.mem_map]
  constructor
  · rintro ⟨i, hi, rfl⟩
    obtain ⟨h1, h2⟩ := List.mem_filter.mp hi
    exact ⟨i, List.mem_range.mp h1, of_decide_eq_true h2, rfl⟩
  · rintro ⟨i, h1, h2, rfl⟩
    exact ⟨i, List.mem_filter.mpr ⟨List.mem_range.mpr h1, decide_eq_true h2⟩, rfl⟩
theorem bit_lotI {row : List Nat} {n i : Nat} (h : GLabs 2 row) (hi : i < n) : bitIn i (lotI row n) = row.getD i 0 := by
  unfold bitIn
  have hb : row.getD i 0 < 2 := by
    rw [List.getD_eq_getElem?_getD]
    cases e : row[i]? with
    | none => exact Nat.zero_lt_two
    | some x => exact h x (List.mem_of_getElem? e)
  by_cases c : row.getD i 0 = 1
  · rw [if_pos (mem_lotI.mpr ⟨i, hi, c, rfl⟩), c]
  · rw [if_neg fun z => by
      obtain ⟨k, h1, h2, h3⟩ := mem_lotI.mp z
      have : i = k := by omega
      subst this
      exact c h2]
    omega
theorem lotI_asc (row : List Nat) (n : Nat) : (lotI row n).Pairwise (· < ·) := by
  unfold lotI onesR
  refine List.pairwise_map.mpr ((List.Pairwise.filter _ List.pairwise_lt_range).imp fun {a b} h => ?_)
  omega
/-- .. in the law's order -/
def lotDn (row : List Nat) (n k : Nat) : List Nat := ((List.range k).filter fun i => decide (row.getD (n - 1 - i) 0 = 1)).map fun i => n - 1 - i
def lotD (row : List Nat) (n : Nat) : List Nat := lotDn row n n
theorem lotDn_succ (row : List Nat) (n k : Nat) : lotDn row n (k + 1) = lotDn row n k ++ (if row.getD (n - 1 - k) 0 = 1 then [n - 1 - k] else []) := by
  unfold lotDn
  rw [List.range_succ, List.filter_append, List.map_append]
  congr 1
  rw [List.filter_cons]
  by_cases c : row.getD (n - 1 - k) 0 = 1
  · rw [decide_eq_true c, if_pos rfl, if_pos c]
    rfl
  · rw [decide_eq_false c, if_neg c]
    rfl
theorem lotDn_len (row : List Nat) (n k : Nat) : (lotDn row n k).length ≤ k := by
  unfold lotDn
  rw [List.length_map]
  have := List.length_filter_le (fun i => decide (row.getD (n - 1 - i) 0 = 1)) (List.range k)
  rwa [List.length_range] at this
theorem good_lotD (row : List Nat) (n : Nat) {d : PyData} (h : SeqD d ((lotD row n).map fun (x : Nat) => PyData.int (x : Int))) : GoodLotD n d (lotI row n) := by
  refine ⟨(lotD row n).map fun (x : Nat) => (x : Int), by rw [List.map_map]; exact h, ?_, fun k hk => ?_, lotI_asc _ _, fun k => ?_⟩
  · unfold lotD lotDn
    rw [List.map_map]
    refine List.pairwise_map.mpr ((List.Pairwise.filter _ List.pairwise_lt_range).imp_of_mem fun {i j} hi hj h e => ?_)
    have h1 := List.mem_range.mp (List.mem_filter.mp hi).1
    have h2 := List.mem_range.mp (List.mem_filter.mp hj).1
    have e' : ((n - 1 - i : Nat) : Int) = ((n - 1 - j : Nat) : Int) := e
    omega
  · obtain ⟨x, hx, rfl⟩ := List.mem_map.mp hk
    obtain ⟨i, hi, rfl⟩ := List.mem_map.mp hx
    have h1 := List.mem_range.mp (List.mem_filter.mp hi).1
    exact ⟨by omega, by omega⟩
  · rw [mem_lotI, List.mem_map]
    constructor
    · rintro ⟨i, h1, h2, rfl⟩
      refine ⟨i, List.mem_map.mpr ⟨n - 1 - i, List.mem_filter.mpr ⟨List.mem_range.mpr (by omega), ?_⟩, by omega⟩, rfl⟩
      rw [show n - 1 - (n - 1 - i) = i by omega]
      exact decide_eq_true h2
    · rintro ⟨x, hx, rfl⟩
      obtain ⟨i, hi, rfl⟩ := List.mem_map.mp hx
      obtain ⟨h1, h2⟩ := List.mem_filter.mp hi
      have := List.mem_range.mp h1
      exact ⟨n - 1 - i, by omega, of_decide_eq_true h2, rfl⟩
theorem lots_good {n : Nat} {α : Type} {f : α → PyData} {g : α → List Int} (h : ∀ a, GoodLotD n (f a) (g a)) : ∀ as : List α, LotsD n (as.map f) (some (as.map g))
  | [] => .nil
  | a :: as => .cons (o := some (as.map g)) (h a) (lots_good h as)
theorem lots_good' {n : Nat} {α : Type} {f : α → PyData} {g : α → List Int} : ∀ as : List α, (∀ a ∈ as, GoodLotD n (f a) (g a)) → LotsD n (as.map f) (some (as.map g))
  | [], _ => .nil
  | a :: as, h => .cons (o := some (as.map g)) (h a (List.mem_cons_self ..)) (lots_good' as fun b hb => h b (List.mem_cons_of_mem _ hb))
theorem paint_rows {t : Tm} {rows : List (List Nat)} (h : ∀ r ∈ rows, GLabs 2 r) : paintT t (rows.map fun r => lotI r (leavesT t).length) = colT rows t := by
  unfold colT
  rw [paint_bit, col_bit]
  refine map_congr _ _ t 0 fun i c e => ?_
  have hi := (List.getElem?_eq_some_iff.mp e).1
  rw [List.map_map, Nat.zero_add]
  exact List.map_congr_left fun r hr => bit_lotI (h r hr) hi
theorem lotI_in (row : List Nat) (n : Nat) : InR n (lotI row n) := fun k hk => by
  obtain ⟨i, h1, _, rfl⟩ := mem_lotI.mp hk
  exact ⟨by omega, by omega⟩
/-- the row of a track -/
def trackR (t : Tm) (k : Nat) : List Nat := (leavesT t).map fun c => c.2.getD k 0
theorem track_lot {b : Bn} {m k : Nat} {t : Tm} (g : TmG b m t) : (trackL (leavesT t) k) = onesR (trackR t k) (leavesT t).length := by
  unfold trackL onesR
  refine List.filter_congr fun p hp => decide_eq_decide.mpr ?_
  have hlt : p < (leavesT t).length := List.mem_range.mp hp
  have e1 : (trackR t k).getD p 0 = (leavesT t)[p].2.getD k 0 := by
    unfold trackR
    rw [List.getD_eq_getElem?_getD, List.getElem?_map, List.getElem?_eq_getElem hlt]
    rfl
  have e2 : (leavesT t).getD p (0, []) = (leavesT t)[p] := by
    rw [List.getD_eq_getElem?_getD, List.getElem?_eq_getElem hlt]
    rfl
  rw [e1, e2]
  have h2 := (lv_len g _ (List.getElem_mem hlt)).2.2
  rcases Nat.lt_or_ge k (leavesT t)[p].2.length with q | q
  · have := h2 _ (List.getElem_mem q)
    rw [List.getD_eq_getElem?_getD, List.getElem?_eq_getElem q]
    show (leavesT t)[p].2[k] ≠ 0 ↔ (leavesT t)[p].2[k] = 1
    omega
  · rw [List.getD_eq_getElem?_getD, List.getElem?_eq_none q]
    show (0 : Nat) ≠ 0 ↔ 0 = 1
    omega
theorem track_bits {b : Bn} {m k : Nat} {t : Tm} (g : TmG b m t) : GLabs 2 (trackR t k) := fun x hx => by
  obtain ⟨c, hc, rfl⟩ := List.mem_map.mp hx
  rw [List.getD_eq_getElem?_getD]
  cases e : c.2[k]? with
  | none => exact Nat.zero_lt_two
  | some x => exact (lv_len g c hc).2.2 x (List.mem_of_getElem? e)
theorem rows_get (bs : List Nat) (m : Nat) (h : bs.length = m) : (List.range m).map (fun k => bs.getD k 0) = bs := by
  subst h
  refine List.ext_getElem? fun i => ?_
  rw [List.getElem?_map]
  rcases Nat.lt_or_ge i bs.length with q | q
  · rw [List.getElem?_range q, List.getElem?_eq_getElem q]
    show some (bs.getD i 0) = _
    rw [List.getD_eq_getElem?_getD, List.getElem?_eq_getElem q]
    rfl
  · rw [List.getElem?_eq_none q, List.getElem?_eq_none (by rw [List.length_range]; exact q)]
    rfl
/-- its own tracks painted on a term of its shape -/
theorem paint_back {b : Bn} {m : Nat} {t : Tm} (g : TmG b m t) (rows : List (List Nat)) : paintT (paintT (colT rows t) []) ((List.range m).map fun k => lotI (trackR t k) (leavesT t).length) = t := by
  unfold colT
  rw [paint_bit, paint_bit, col_bit, map_map2 _ _ (fun _ _ _ _ => rfl), map_map2 _ _ (fun _ _ _ _ => rfl)]
  refine map_self _ t 0 fun i c e => ?_
  have hi := (List.getElem?_eq_some_iff.mp e).1
  rw [Nat.zero_add, List.map_map]
  have : ((fun l => bitIn i l) ∘ fun k => lotI (trackR t k) (leavesT t).length) = fun k => c.2.getD k 0 := by
    funext k
    show bitIn i (lotI (trackR t k) (leavesT t).length) = _
    rw [bit_lotI (track_bits g) hi]
    unfold trackR
    rw [List.getD_eq_getElem?_getD, List.getElem?_map, e]
    rfl
  show (List.range m).map ((fun l => bitIn i l) ∘ _) = _
  rw [this]
  exact rows_get c.2 m (lv_len g c (List.mem_of_getElem? e)).2.1
/-- one leaf changed -/
theorem set_col {b : Bn} {m at_ : Nat} {t : Tm} {c : Nat × List Nat} {bs : List Nat} (g : TmG b m t) (hc : (leavesT t)[at_]? = some c) (hb : bs.length = m) :
    (fillT t ((leavesT t).set at_ (c.1, bs))).1 = colT ((List.range m).map fun k => (trackR t k).set at_ (bs.getD k 0)) t := by
  have e : (leavesT t).set at_ (c.1, bs) = (leavesT t).mapIdx fun i z => (z.1, if i = at_ then bs else z.2) := by
    refine List.ext_getElem? fun i => ?_
    rw [List.getElem?_mapIdx, List.getElem?_set]
    have hlt := (List.getElem?_eq_some_iff.mp hc).1
    by_cases q : at_ = i
    · subst q
      rw [if_pos rfl, if_pos hlt, hc]
      show some _ = some (c.1, if at_ = at_ then bs else c.2)
      rw [if_pos rfl]
    · rw [if_neg q]
      cases e : (leavesT t)[i]? with
      | none => rfl
      | some z =>
        show some z = some (z.1, if i = at_ then bs else z.2)
        rw [if_neg fun z => q z.symm]
  rw [e]
  have := fill_all (fun i z => if i = at_ then bs else z.2) t
  rw [this]
  unfold colT
  rw [col_bit]
  refine map_congr _ _ t 0 fun i z e => ?_
  rw [Nat.zero_add, List.map_map]
  have hi := (List.getElem?_eq_some_iff.mp e).1
  have ez : z.2.length = m := (lv_len g z (List.mem_of_getElem? e)).2.1
  by_cases q : i = at_
  · subst q
    rw [if_pos rfl]
    have : ((fun r : List Nat => r.getD i 0) ∘ fun k => (trackR t k).set i (bs.getD k 0)) = fun k => bs.getD k 0 := by
      funext k
      show ((trackR t k).set i (bs.getD k 0)).getD i 0 = _
      rw [List.getD_eq_getElem?_getD, List.getElem?_set, if_pos rfl, if_pos (by unfold trackR; rw [List.length_map]; exact hi)]
      rfl
    rw [this, rows_get bs m hb]
  · rw [if_neg q]
    have : ((fun r : List Nat => r.getD i 0) ∘ fun k => (trackR t k).set at_ (bs.getD k 0)) = fun k => z.2.getD k 0 := by
      funext k
      show ((trackR t k).set at_ (bs.getD k 0)).getD i 0 = _
      rw [List.getD_eq_getElem?_getD, List.getElem?_set, if_neg fun z => q z.symm]
      unfold trackR
      rw [List.getElem?_map, e]
      rfl
    rw [this, rows_get z.2 m ez]
theorem set_leaves {b : Bn} {m at_ : Nat} {t : Tm} {c : Nat × List Nat} {bs : List Nat} (g : TmG b m t) (hc : (leavesT t)[at_]? = some c) : (leavesT (fillT t ((leavesT t).set at_ (c.1, bs))).1)[at_]? = some (c.1, bs) ∧ (leavesT (fillT t ((leavesT t).set at_ (c.1, bs))).1).length = (leavesT t).length ∧ (fillT t ((leavesT t).set at_ (c.1, bs))).1.nodes = t.nodes := by
  have hlt := (List.getElem?_eq_some_iff.mp hc).1
  have e : (leavesT t).set at_ (c.1, bs) = (leavesT t).mapIdx fun i z => (z.1, if i = at_ then bs else z.2) := by
    refine List.ext_getElem? fun i => ?_
    rw [List.getElem?_mapIdx, List.getElem?_set]
    by_cases q : at_ = i
    · subst q
      rw [if_pos rfl, if_pos hlt, hc]
      show some _ = some (c.1, if at_ = at_ then bs else c.2)
      rw [if_pos rfl]
    · rw [if_neg q]
      cases e : (leavesT t)[i]? with
      | none => rfl
      | some z =>
        show some z = some (z.1, if i = at_ then bs else z.2)
        rw [if_neg fun z => q z.symm]
  have f := fill_all (fun i z => if i = at_ then bs else z.2) t
  rw [e, f]
  have ml := map_leaves (fun i (z : Nat × List Nat) => if i = at_ then bs else z.2) t 0
  refine ⟨?_, by rw [ml, List.length_mapIdx], map_nodes _ t 0⟩
  rw [ml, List.getElem?_mapIdx, hc]
  show some (c.1, if 0 + at_ = at_ then bs else c.2) = _
  rw [Nat.zero_add, if_pos rfl]
end Fam

/-! Colours: as the law paints. -/
namespace Fam
open PySem L2 S5 ItX OwnX
open C8 (pss_cut tCut)
/-- the scope of the n-th comprehension that a name is set to -/
def setCompScope : Nat → List Stmt → Scope
  | 0, .Assign _ (.ListComp _ _ sc _) _ :: _ => sc
  | n + 1, .Assign _ (.ListComp _ _ _ _) _ :: r => setCompScope n r
  | n, _ :: r => setCompScope n r
  | _, [] => default
abbrev scCKin (n : Nat) : Scope := relabel (setCompScope n (defBody sLColourOk)) (PyProof.Rows.envOfC "_law_colour_ok" (defScope sLColourOk) 0 0 .none)
def spColourOk : Sp := fun vs H Q _ => ∃ (a : Addr) (c : Nat) (ts : List Int) (v : V) (b : Bn) (t : Tm) (m : Nat), vs = [.ref a, v, vInt m] ∧ TapeAt H a c ts ∧ TmAt H v t ∧ TmG b m t ∧ holesM t = 0 ∧ (leavesT t).length ≤ 7 ∧ m ≤ 100 ∧
  ∀ (H' : Hp) (c' : Nat), Kp a H H' → TapeAt H' a c' ts → Q (.bl true) H'
/-- rows at addresses of which X holds -/
def RowX (X : Addr → Prop) (H : Hp) (v : V) (l : List Nat) : Prop := ∃ p, v = .ref p ∧ X p ∧ H p = some (.lst (l.map vInt))
theorem RowX.keep {X : Addr → Prop} {H H' : Hp} {a : Addr} {v : V} {l : List Nat} (k : Kp a H H') (hX : ∀ p, X p → p ≠ a) (h : RowX X H v l) : RowX X H' v l := by
  obtain ⟨p, e, n, h⟩ := h
  exact ⟨p, e, n, k _ _ (hX p n) h⟩
theorem RowX.same {X : Addr → Prop} {H H' : Hp} {v : V} {l : List Nat} (s : Same H H') (h : RowX X H v l) : RowX X H' v l := by
  obtain ⟨p, e, n, h⟩ := h
  exact ⟨p, e, n, s _ _ h⟩
theorem RowX.row {X : Addr → Prop} {H : Hp} {v : V} {l : List Nat} (h : RowX X H v l) : RowAt H v l := by
  obtain ⟨p, e, _, h⟩ := h
  exact ⟨p, e, h⟩
theorem RowX.imp {X Y : Addr → Prop} {H : Hp} {v : V} {l : List Nat} (f : ∀ p, X p → Y p) (h : RowX X H v l) : RowX Y H v l := by
  obtain ⟨p, e, n, h⟩ := h
  exact ⟨p, e, f p n, h⟩
def dLL (ls : List (List Nat)) : PyData := .list (ls.map dLs)
theorem dLL_pl (l : List (List Nat)) : plD (dLL l) = true := plA_map _ dLs_pl l
theorem dLs_depth (l : List Nat) : (dLs l).depth ≤ 2 := by
  have := depthA_map (fun (n : Nat) => PyData.int (n : Int)) 1 (fun a => by simp [PyData.depth]) l
  unfold dLs
  simp only [PyData.depth]
  omega
theorem dLL_sh (l : List (List Nat)) : SeqAt.shaped (dLL l) = true := shaped_pl (dLL_pl l) (by
  have := depthA_map dLs 2 dLs_depth l
  unfold dLL
  simp only [PyData.depth]
  omega)
theorem dp_row {K : PySem.W.Frag} {H : Hp} {v : V} {l : List Nat} (h : RowAt H v l) : Dp K H v (dLs l) := by
  obtain ⟨p, rfl, h⟩ := h
  exact dp_rowI h
theorem ll_same {K : PySem.W.Frag} {H : Hp} {p q : Addr} {xs ys : List V} {l : List (List Nat)} {Q : VK} (hp : H p = some (.lst xs)) (hx : Al (RowAt H) xs l) (hq : H q = some (.lst ys)) (hy : Al (RowAt H) ys l) (k : Q (.bl false) H) : rNeD K (.ref p) (.ref q) H Q := by
  refine ⟨dLL l, dLL l, .lst (SqL.of hp) (dp_al (fun _ _ h => dp_row h) hx), .lst (SqL.of hq) (dp_al (fun _ _ h => dp_row h) hy), dLL_sh l, dLL_sh l, ?_⟩
  rw [eqv_dec (p := True) (dLL_pl l) (dLL_pl l) ⟨fun _ => trivial, fun _ => rfl⟩]
  exact k
theorem tm_same {K : PySem.W.Frag} {H : Hp} {v w : V} {t u : Tm} {Q : VK} (hv : TmAt H v t) (hw : TmAt H w u) (e : t = u) (h1 : t.nodes ≤ 60) (q : Q (.bl false) H) : rNeD K v w H Q := by
  subst e
  refine tm_ne hv hw h1 h1 ?_
  rw [decide_eq_true rfl]
  exact q
section
variable {P : Program} {w : World} {K : PySem.W.Frag} {mg : Str → Option Value} {base : Heap}
abbrev nCK : List Str := ["_law_tape", "_law_term_here", "_law_many", "_law_leaves_here", "_law_size", "_law_rows", "_law_lots", "_law_kept", "_law_painted", "_law_at", "_law_bits_here", "_law_now", "_law_track_here", "_law_row", "_law_new", "_law_bad", "_law_place", "_law_k", "_law_lot", "_law_leaf_here"]
theorem scCK : FnScope nCK ["_law_tape", "_law_term_here", "_law_many"] (defScope sLColourOk) := ⟨rfl, rfl, rfl, by decide +kernel, rfl, by decide +kernel, by decide +kernel⟩
theorem nd_inj {α : Type} {l : List α} (nd : l.Nodup) {i j : Nat} (hi : i < l.length) (hj : j < l.length) (e : l[i] = l[j]) : i = j := by
  rcases Nat.lt_trichotomy i j with h | h | h
  · exact absurd e (List.pairwise_iff_getElem.mp nd i j hi hj h)
  · exact h
  · exact absurd e.symm (List.pairwise_iff_getElem.mp nd j i hj hi h)
def badLots (N : Nat) : List PyData := [.int 5, .none, .str "X", .list [.tuple [.int (N : Int)]], .list [.list [.int 0, .int 0]], .list [.tuple [.int 0], .none], .list [.tuple [.bool true]], .list [.tuple [.int (-1)]], .list [.tuple [], .tuple [.str "0"]]]
theorem bad_lots {N i : Nat} {d : PyData} (hN : 1 ≤ N) (h : (badLots N)[i]? = some d) : TracksD N d none := by
  have one : ∀ x : PyData, betD x 0 ((N : Int) - 1) = false → BadLotD N (.tuple [x]) := fun x hx => .inr ⟨[x], .inr rfl, .inl ⟨x, List.mem_singleton.mpr rfl, hx⟩⟩
  have neg : betD (.int (-1)) 0 ((N : Int) - 1) = false := by show decide ((0 : Int) ≤ -1 ∧ (-1 : Int) ≤ (N : Int) - 1) = false; exact decide_eq_false (by omega)
  have big : betD (.int (N : Int)) 0 ((N : Int) - 1) = false := decide_eq_false (by omega)
  match i, h with
  | 0, h => cases h; exact .inl ⟨rfl, rfl⟩
  | 1, h => cases h; exact .inl ⟨rfl, rfl⟩
  | 2, h => cases h; exact .inl ⟨rfl, rfl⟩
  | 3, h => cases h; exact .inr ⟨_, .inl rfl, by simp, .bad (one _ big)⟩
  | 4, h => cases h; exact .inr ⟨_, .inl rfl, by simp, .bad (.inr ⟨_, .inl rfl, .inr ⟨[0, 0], rfl, (fun k hk => by simp at hk; omega), by simp, by simp⟩⟩)⟩
  | 5, h =>
    cases h
    refine .inr ⟨_, .inl rfl, by simp, .cons (o := none) (l := [0]) ⟨[0], .inr rfl, by simp, (fun k hk => by simp at hk; omega), by simp, fun k => Iff.rfl⟩ (.bad (.inl rfl))⟩
  | 6, h => cases h; exact .inr ⟨_, .inl rfl, by simp, .bad (one _ rfl)⟩
  | 7, h => cases h; exact .inr ⟨_, .inl rfl, by simp, .bad (one _ neg)⟩
  | 8, h =>
    cases h
    refine .inr ⟨_, .inl rfl, by simp, .cons (o := none) (l := []) ⟨[], .inr rfl, by simp, (fun k hk => by cases hk), by simp, fun k => Iff.rfl⟩ (.bad (one _ rfl))⟩
  | n + 9, h => cases h
theorem wipe_one {σ : L2.St} {i : Nat} {x : Option V} : wipe ((wipe σ [i]).set i x) [i] = wipe σ [i] := by
  show ((σ.set i none).set i x).set i none = σ.set i none
  rw [List.set_set, List.set_set]
theorem ixN_nat {n j : Nat} (h : j < n) : ixN n (j : Int) = some j := by
  unfold ixN
  rw [if_pos (by omega), if_pos (by omega)]
  simp
theorem al_get {α : Type} {R : V → α → Prop} : ∀ {xs : List V} {as : List α}, xs.length = as.length → (∀ (i : Nat) (x : V) (a : α), xs[i]? = some x → as[i]? = some a → R x a) → Al R xs as
  | [], [], _, _ => trivial
  | x :: xs, a :: as, h, f => ⟨f 0 x a rfl rfl, al_get (Nat.succ.inj h) fun i y b h1 h2 => f (i + 1) y b h1 h2⟩
  | [], _ :: _, h, _ => by cases h
  | _ :: _, [], h, _ => by cases h
theorem bad_nums {K : PySem.W.Frag} {n i : Nat} {x : V} (hn : 1 ≤ n) (h : ([vInt n, V.int (-1), V.bl true, V.non] : List V)[i]? = some x) : ∃ d, (∀ H, Dp K H x d) ∧ betD d 0 ((n : Int) - 1) = false := by
  match i, h with
  | 0, h => cases h; exact ⟨.int (n : Int), fun _ => .int _, decide_eq_false (by omega)⟩
  | 1, h => cases h; exact ⟨.int (-1), fun _ => .int _, (by show decide ((0 : Int) ≤ -1 ∧ (-1 : Int) ≤ (n : Int) - 1) = false; exact decide_eq_false (by omega))⟩
  | 2, h => cases h; exact ⟨.bool true, fun _ => .bl _, rfl⟩
  | 3, h => cases h; exact ⟨.none, fun _ => .non, rfl⟩
  | n + 4, h => cases h
theorem ok_l_colour {BL B f : Addr} {fd : FuncData} (F : Fun K "_law_colour_ok" "_law_colour_ok" sLColourOk f fd) (T : Bare mg) (GT : Cal P w K mg base 1 "_law_take" ["_law_tape", "_law_many"] spDraw) (GB : Cal P w K mg base 2 "_law_bits" ["_law_tape", "_law_many"] spLBits)
    (GLv : Cal P w K mg base 2 "_law_leaves" ["_law_term_here"] spLLeaves) (GCd : Cal P w K mg base 2 "_law_coloured" ["_law_term_here", "_law_rows"] spLColoured) (GC : CalE P w K mg base 5 "colour" ["term", "tracks"] (spColour K BL)) (GBa : Cal P w K mg base 6 "bare" ["term"] spBare)
    (GTo : Cal P w K mg base 4 "tracks_of" ["term"] spTracksOf) (GA : CalE P w K mg base 4 "leaf_at" ["term", "place"] (spLeafAtD K B)) (GCh : CalE P w K mg base 4 "changed" ["term", "place", "bits"] (spChangedD K B))
    (GLr : Cal P w K mg base 6 "_law_lot_refused" ["_law_term_here", "_law_tracks"] (spLotRefused K)) (GNr : Cal P w K mg base 5 "_law_number_refused" ["_law_word", "_law_term_here", "_law_value"] (spNumRefused K)) : FnOk P w K mg base CX0 7 f fd ["_law_tape", "_law_term_here", "_law_many"] spColourOk := by
  obtain ⟨_, _, ok_tk, b_tk, k_tk, m_tk⟩ := GT.ex
  obtain ⟨_, _, ok_bi, b_bi, k_bi, m_bi⟩ := GB.ex
  obtain ⟨_, _, ok_ll, b_ll, k_ll, m_ll⟩ := GLv.ex
  obtain ⟨_, _, ok_cd, b_cd, k_cd, m_cd⟩ := GCd.ex
  obtain ⟨_, _, ok_co, b_co, k_co, m_co⟩ := (cal_noex GC).ex
  obtain ⟨_, _, ok_ba, b_ba, k_ba, m_ba⟩ := GBa.ex
  obtain ⟨_, _, ok_tof, b_tof, k_tof, m_tof⟩ := GTo.ex
  obtain ⟨_, _, ok_la, b_la, k_la, m_la⟩ := (cal_noex GA).ex
  obtain ⟨_, _, ok_ch, b_ch, k_ch, m_ch⟩ := (cal_noex GCh).ex
  obtain ⟨_, _, ok_lr, b_lr, k_lr, m_lr⟩ := GLr.ex
  obtain ⟨_, _, ok_nr, b_nr, k_nr, m_nr⟩ := GNr.ex
  refine F.ok scCK (fun vs H Q E h => ?_) (fun cdv A outer s H vs Q E hr h => ?_)
  · obtain ⟨a, c, ts, v, b, t, m, rfl, _⟩ := h
    rfl
  · obtain ⟨a, c, ts, v, b, t, m, rfl, hT, ht, hg, hwh, hl7, hm, k⟩ := h
    have hr_lr := hr
    have hr_ba := hr
    have hr_co := hr.mono (j := 5) (by decide)
    have hr_nr := hr_co
    have hr_tof := hr.mono (j := 4) (by decide)
    have hr_la := hr_tof
    have hr_ch := hr_tof
    have hr_ll := hr.mono (j := 2) (by decide)
    have hr_bi := hr_ll
    have hr_cd := hr_ll
    have hr_tk := hr.mono (j := 1) (by decide)
    refine ⟨_, (pss_cons (ps_set (i := 3) scCK.nd rfl (Or.inr rfl) (pe_call ok_ll hr_ll rfl m_ll k_ll b_ll .nil pass0 (pa_cons (pv 1) pa_nil)))
      (pss_cons (ps_set (i := 4) scCK.nd rfl (Or.inr rfl) (pe_callB call_len_seq (by rfl) T.len PySem.boot_len (pa_cons (pv 3) pa_nil)))
      (pss_cons (ps_setLc (i := 5) (own := [("_law_track_here", 12)]) (g := gName 12) (tt := tYes) (by rfl) scCK.nd rfl rfl (sw_true rfl rfl rfl (by decide +kernel)) (pi_range1 rfl T.range (pa_cons (pe_call ok_tk hr_tk rfl m_tk k_tk b_tk .nil pass0 (pa_cons (pv 0) (pa_cons pe_int pa_nil))) pa_nil)) (blkOk_by (own := [("_law_track_here", 12)]) (N := nCK) (sc := defScope sLColourOk) (by decide +kernel)) (fun _ _ _ _ _ => pg_name (i := 12) scCK.nd rfl (Or.inl rfl)) (fun _ _ _ _ _ => pts_nil) (fun _ _ _ _ _ => pe_lc (own := [("_law_place", 16)]) (g := gName 16) (tt := tYes) rfl scCK.nd (pi_range1 rfl T.range (pa_cons (pv 4) pa_nil)) (blkOk_by (own := [("_law_place", 16)]) (N := nCK) (sc := scCKin 0) (by decide +kernel)) (fun _ _ _ _ _ => pg_name (i := 16) scCK.nd rfl (Or.inl rfl)) (fun _ _ _ _ _ => pts_nil) (fun _ _ _ _ _ => pe_call ok_tk hr_tk rfl m_tk k_tk b_tk .nil pass0 (pa_cons (pv 0) (pa_cons pe_int pa_nil)))))
      (pss_cons (ps_setLc (i := 6) (own := [("_law_row", 13)]) (g := gName 13) (tt := tYes) (by rfl) scCK.nd rfl rfl (sw_true rfl rfl rfl (by decide +kernel)) (pi_list (pv 5)) (blkOk_by (own := [("_law_row", 13)]) (N := nCK) (sc := defScope sLColourOk) (by decide +kernel)) (fun _ _ _ _ _ => pg_name (i := 13) scCK.nd rfl (Or.inr rfl)) (fun _ _ _ _ _ => pts_nil) (fun _ _ _ _ _ => pe_lc (own := [("_law_k", 17)]) (g := gName 17) rfl scCK.nd (pi_range1 rfl T.range (pa_cons (pv 4) pa_nil)) (blkOk_by (own := [("_law_k", 17)]) (N := nCK) (sc := scCKin 1) (by decide +kernel)) (fun _ _ _ _ _ => pg_name (i := 17) scCK.nd rfl (Or.inl rfl)) (fun _ _ _ _ _ => pts_one (pt_cmpR op_eq (pe_ix (ix_list : IxR _ (rIxL K)) (pv 13) (pe_op op_sub (pe_op op_sub (pv 4) pe_int) (pv 17)) (fun _ _ => rfl)) pe_int (nomark _))) (fun _ _ _ _ _ => pe_op op_sub (pe_op op_sub (pv 4) pe_int) (pv 17))))
      (pss_cons (ps_setLc (i := 7) (own := [("_law_lot", 18)]) (g := gName 18) (tt := tYes) (by rfl) scCK.nd rfl rfl (sw_true rfl rfl rfl (by decide +kernel)) (pi_list (pv 6)) (blkOk_by (own := [("_law_lot", 18)]) (N := nCK) (sc := defScope sLColourOk) (by decide +kernel)) (fun _ _ _ _ _ => pg_name (i := 18) scCK.nd rfl (Or.inl rfl)) (fun _ _ _ _ _ => pts_nil) (fun _ _ _ _ _ => pe_callTy (call_list_of : CallR _ (.type "list") (rListOf K)) (by rfl) T.list (by decide +kernel) (pa_cons (pv 18) pa_nil)))
      (pss_cons (ps_set (i := 8) scCK.nd rfl (Or.inl rfl) (pe_call ok_cd hr_cd rfl m_cd k_cd b_cd .nil pass0 (pa_cons (pv 1) (pa_cons (pv 5) pa_nil))))
      (pss_cons (ps_if (PW.pt (pw_or (pt_cmpR (op_neD hr.units) (pe_call ok_co hr_co rfl m_co k_co b_co .nil pass0 (pa_cons (pv 1) (pa_cons (pv 6) pa_nil))) (pv 8) (nomark _)) (pw_or (pt_cmpR (op_neD hr.units) (pv 6) (pv 7) (nomark _)) (pw_or1 (pt_cmpR (op_neD hr.units) (pe_call ok_co hr_co rfl m_co k_co b_co .nil pass0 (pa_cons (pv 1) (pa_cons (pe_tupleOf (by rfl) T.tuple (pe_lc (own := [("_law_lot", 18)]) (g := gName 18) (tt := tYes) (te := tThen (tVar 18) (kTup K)) rfl scCK.nd (pi_list (pv 6)) (blkOk_by (own := [("_law_lot", 18)]) (N := nCK) (sc := defScope sLColourOk) (by decide +kernel)) (fun _ _ _ _ _ => pg_name (i := 18) scCK.nd rfl (Or.inl rfl)) (fun _ _ _ _ _ => pts_nil) (fun _ _ _ _ _ => pe_tupleOf (by rfl) T.tuple (pv 18)))) pa_nil))) (pv 8) (nomark _)))))) (pss_one (ps_ret pe_bl)) pss_nil)
      (pss_cons (ps_if (PW.pt (pw_or (pt_cmpR (op_neD hr.units) (pe_call ok_ba hr_ba rfl m_ba k_ba b_ba .nil pass0 (pa_cons (pv 1) pa_nil)) (pe_call ok_cd hr_cd rfl m_cd k_cd b_cd .nil pass0 (pa_cons (pv 1) (pa_cons (pe_lst pa_nil) pa_nil))) (nomark _)) (pw_or1 (pt_cmpR (op_neD hr.units) (pe_call ok_co hr_co rfl m_co k_co b_co .nil pass0 (pa_cons (pe_call ok_ba hr_ba rfl m_ba k_ba b_ba .nil pass0 (pa_cons (pv 8) pa_nil)) (pa_cons (pe_call ok_tof hr_tof rfl m_tof k_tof b_tof .nil pass0 (pa_cons (pv 1) pa_nil)) pa_nil))) (pv 1) (nomark _))))) (pss_one (ps_ret pe_bl)) pss_nil)
      (pss_cons (ps_set (i := 9) scCK.nd rfl (Or.inl rfl) (pe_call ok_tk hr_tk rfl m_tk k_tk b_tk .nil pass0 (pa_cons (pv 0) (pa_cons (pv 4) pa_nil))))
      (pss_cut (ps_set (i := 10) scCK.nd rfl (Or.inl rfl) (pe_call ok_bi hr_bi rfl m_bi k_bi b_bi .nil pass0 (pa_cons (pv 0) (pa_cons (pv 2) pa_nil))))
      (pss_cons (ps_setLc (i := 11) (own := [("_law_track_here", 12)]) (g := gName 12) (tt := tYes) (by rfl) scCK.nd rfl rfl (sw_true rfl rfl rfl (by decide +kernel)) (pi_range1 rfl T.range (pa_cons (pv 2) pa_nil)) (blkOk_by (own := [("_law_track_here", 12)]) (N := nCK) (sc := defScope sLColourOk) (by decide +kernel)) (fun _ _ _ _ _ => pg_name (i := 12) scCK.nd rfl (Or.inr rfl)) (fun _ _ _ _ _ => pts_nil) (fun _ _ _ _ _ => pe_lc (own := [("_law_leaf_here", 19)]) (g := gName 19) (tt := tYes) rfl scCK.nd (pi_list (pv 3) : PI _ _ _ (iList K (tVar 3))) (blkOk_by (own := [("_law_leaf_here", 19)]) (N := nCK) (sc := scCKin 3) (by decide +kernel)) (fun _ _ _ _ _ => pg_name (i := 19) scCK.nd rfl (Or.inl rfl)) (fun _ _ _ _ _ => pts_nil) (fun _ _ _ _ _ => pe_ix (ix_tup : IxR _ (rIxT K)) (pe_ix (ix_tup : IxR _ (rIxT K)) (pv 19) pe_int (fun _ _ => rfl)) (pv 12) (fun _ _ => rfl))))
      (pss_cons (ps_for PassesOwn.never rfl (pi_range1 rfl T.range (pa_cons (pv 2) pa_nil)) (pg_name (i := 12) scCK.nd rfl (Or.inl rfl))
          (pss_cons (ps_set (i := 13) scCK.nd rfl (Or.inl rfl) (pe_ix ix_list (pv 11) (pv 12) (fun _ _ => rfl)))
          (pss_one (ps_asg (pe_ix ix_tup (pv 10) (pv 12) (fun _ _ => rfl)) (pg_sub (pv 13) (pv 9) set_list)))))
      (pss_cons (ps_set (i := 14) scCK.nd rfl (Or.inl rfl) (pe_call ok_ch hr_ch rfl m_ch k_ch b_ch .nil pass0 (pa_cons (pv 1) (pa_cons (pv 9) (pa_cons (pv 10) pa_nil)))))
      (pss_cons (ps_if (PW.pt (pw_or (pt_cmpR (op_neD hr.units) (pv 14) (pe_call ok_cd hr_cd rfl m_cd k_cd b_cd .nil pass0 (pa_cons (pv 1) (pa_cons (pv 11) pa_nil))) (nomark _)) (pw_or (pt_cmpR (op_neD hr.units) (pe_call ok_la hr_la rfl m_la k_la b_la .nil pass0 (pa_cons (pv 14) (pa_cons (pv 9) pa_nil))) (pe_tup (pa_cons (pe_ix ix_tup (pe_ix ix_list (pv 3) (pv 9) (fun _ _ => rfl)) pe_int (fun _ _ => rfl)) (pa_cons (pv 10) pa_nil))) (nomark _)) (pw_or1 (pt_cmpR (op_neD hr.units) (pe_call ok_la hr_la rfl m_la k_la b_la .nil pass0 (pa_cons (pv 1) (pa_cons (pv 9) pa_nil))) (pe_ix ix_list (pv 3) (pv 9) (fun _ _ => rfl)) (nomark _)))))) (pss_one (ps_ret pe_bl)) pss_nil)
      (pss_cons (ps_for PassesOwn.never rfl (pi_list (pe_lst (pa_cons pe_int (pa_cons pe_non (pa_cons pe_str (pa_cons (pe_lst (pa_cons (pe_tup (pa_cons (pv 4) pa_nil)) pa_nil)) (pa_cons (pe_lst (pa_cons (pe_lst (pa_cons pe_int (pa_cons pe_int pa_nil))) pa_nil)) (pa_cons (pe_lst (pa_cons (pe_tup (pa_cons pe_int pa_nil)) (pa_cons pe_non pa_nil))) (pa_cons (pe_lst (pa_cons (pe_tup (pa_cons pe_bl pa_nil)) pa_nil)) (pa_cons (pe_lst (pa_cons (pe_tup (pa_cons (pe_un un_neg pe_int) pa_nil)) pa_nil)) (pa_cons (pe_lst (pa_cons (pe_tup pa_nil) (pa_cons (pe_tup (pa_cons pe_str pa_nil)) pa_nil))) pa_nil))))))))))) (pg_name (i := 15) scCK.nd rfl (Or.inl rfl))
          (pss_one (ps_if (pt_not (pt_val (pe_call ok_lr hr_lr rfl m_lr k_lr b_lr .nil pass0 (pa_cons (pv 1) (pa_cons (pv 15) pa_nil))))) (pss_one (ps_ret pe_bl)) pss_nil)))
      (pss_cons (ps_for PassesOwn.never rfl (pi_list (pe_lst (pa_cons (pv 4) (pa_cons (pe_un un_neg pe_int) (pa_cons pe_bl (pa_cons pe_non pa_nil)))))) (pg_name (i := 15) scCK.nd rfl (Or.inl rfl))
          (pss_one (ps_if (PW.pt (pw_or (pt_cmpR op_ne (pe_call ok_nr hr_nr rfl m_nr k_nr b_nr .nil pass0 (pa_cons pe_int (pa_cons (pv 1) (pa_cons (pv 15) pa_nil)))) pe_str (nomark _)) (pw_or1 (pt_cmpR op_ne (pe_call ok_nr hr_nr rfl m_nr k_nr b_nr .nil pass0 (pa_cons pe_int (pa_cons (pv 1) (pa_cons (pv 15) pa_nil)))) pe_str (nomark _))))) (pss_one (ps_ret pe_bl)) pss_nil)))
      (pss_one (ps_ret pe_bl)))))))))))))))))), ?_⟩
    have hno := nodesM t
    have hn1 := tm_pos b t (hg.ok hwh)
    have hgl := lv_len hg
    obtain ⟨cs, ecs⟩ : ∃ cs, cs = leavesT t := ⟨_, rfl⟩
    obtain ⟨N, eN⟩ : ∃ N, N = cs.length := ⟨_, rfl⟩
    refine ⟨_, rfl, v, t, rfl, ht, by omega, fun H1 pl xl s1 hpl hxl hAl => ?_⟩
    rw [← ecs] at hAl hl7 hn1 hgl hno
    rw [← eN] at hl7 hn1 hno
    have lxl := hAl.len
    rw [← eN] at lxl
    refine ⟨_, rfl, pl, xl, rfl, .inl (SqL.of hxl), ?_⟩
    rw [lxl]
    -- the rows
    have hT1 := hT.same s1
    have npl : pl ≠ a := tape_ne hT hpl
    refine ⟨_, rfl, a, c, ts, 4, rfl, hT1, by decide, fun H2 c2 nr hnr hH2 hT2 => ⟨_, rfl, by omega, by omega, ?_⟩⟩
    rw [Int.toNat_natCast]
    intro D hD
    have nDa := tape_ne hT2 hD
    have k02 : Kp a H H2 := (kp_same s1).trans (Kp.of hH2)
    have hxl2 : H2 pl = some (.lst xl) := by rw [hH2 pl npl]; exact hxl
    have tu12 : Tups H1 H2 := Tups.kp hT1 (Kp.of hH2)
    refine lc_range (lo := 0) (n := nr) (fun i H' => Kp a H2 H' ∧ ∃ (c : Nat) (rv : List V) (rows : List (List Nat)), TapeAt H' a c ts ∧ H' D = some (.lst rv) ∧ Al (RowX (fun p => p ≠ a ∧ p ≠ D) H') rv rows ∧ rows.length = i ∧ ∀ r ∈ rows, r.length = N ∧ GLabs 2 r) ⟨(Kp.refl a H2).upd hD, c2, [], [], hT2.upd nDa, upd_same, trivial, rfl, (fun r h => by cases h)⟩ ?_ ?_
    · rintro i H3 hi ⟨k3, c3, rv, rows, hT3, hD3, hR3, hl3, hr3⟩
      have lrv := hR3.len
      refine ⟨rfl, _, rfl, _, rfl, by omega, by omega, ?_⟩
      rw [Int.toNat_natCast]
      intro D7 hD7
      refine draws_ask (i := 16) (m := 2) (n := N) hD7 hT3 (by decide) (by omega) (fun σ' H' c' Q' e hT' kk => ?_) ?_ fun H7 c7 row nD7 k7 hT7 hL7 hl7 hg7 => ?_
      · obtain ⟨v, rfl⟩ := e
        exact ⟨_, rfl, a, c', ts, 2, rfl, hT', by decide, fun H2 c2 x hx h1 h2 => kk H2 c2 x hx h1 h2⟩
      · exact fun v => rfl
      have hD37 := k7 D _ nDa hD3
      have nDD : D7 ≠ D := fun e => by rw [e, hD3] at hD7; cases hD7
      refine ⟨rv, hD37, below (m := 300) (by omega), (k3.trans k7).upd hD, c7, rv ++ [.ref D7], rows ++ [row], hT7.upd nDa, upd_same, ?_, by rw [List.length_append, hl3]; rfl, fun r hr => ?_⟩
      · exact ((hR3.imp fun _ _ h => RowX.keep k7 (fun p h => h.1) h).imp fun _ _ h => RowX.keep kp_upd (fun p h => h.2) h).append ⟨⟨D7, rfl, ⟨nD7, nDD⟩, by rw [upd_ne nDD]; exact hL7⟩, trivial⟩
      · rcases List.mem_append.mp hr with h | h
        · exact hr3 r h
        · rw [List.mem_singleton.mp h]
          exact ⟨hl7, hg7⟩
    rintro H3 ⟨k3, c3, rv, rows, hT3, hD3, hR3, hl3, hr3⟩
    have k03 := k02.trans k3
    have ht3 := ht.tups (Tups.kp hT k03)
    have hxl3 : H3 pl = some (.lst xl) := k3 pl _ npl hxl2
    have hAl3 : Al (LeafAt H3) xl cs := hAl.imp fun _ _ h => TmAt.tups (tu12.trans (Tups.kp hT2 k3)) h
    have hRow3 : Al (RowAt H3) rv rows := hR3.imp fun _ _ h => h.row
    have lrv := hRow3.len
    clear hR3 hAl tu12
    have ixe : ∀ k, k < N → ((N : Int) - 1 - (0 + ((k : Nat) : Int))) = ((N - 1 - k : Nat) : Int) := fun k hk => by omega
    -- the lots
    refine ⟨_, rfl, D, rfl, ⟨_, SqL.of hD3⟩, fun D2 hD2 => ?_⟩
    refine lc_list (K := K) (a := D) (xs := rv) (fun i H' => Same H3 H' ∧ ∃ ys, H' D2 = some (.lst ys) ∧ Al (RowX (fun p => p ≠ D2) H') ys ((rows.take i).map fun r => lotD r N)) ⟨same_new hD2, [], upd_same, trivial⟩ (fun i H' _ h => SqL.of (h.1 _ _ hD3)) ?_ ?_
    · rintro i x H4 hx ⟨s4, ys, hd4, hA4⟩
      obtain ⟨row, hrow, pr, rfl, hpr⟩ := hRow3.get hx
      have hil : i < rows.length := (List.getElem?_eq_some_iff.mp hrow).1
      have hie : rows[i] = row := (List.getElem?_eq_some_iff.mp hrow).2
      have hrl := (hr3 row (List.mem_of_getElem? hrow)).1
      have lys := hA4.len
      rw [List.length_map, List.length_take] at lys
      refine ⟨rfl, _, rfl, _, rfl, by omega, by omega, ?_⟩
      rw [Int.toNat_natCast]
      intro D4 hD4
      refine lc_range (lo := 0) (n := N) (fun k H' => Same H4 H' ∧ H' D4 = some (.lst ((lotDn row N k).map vInt))) ⟨same_new hD4, upd_same⟩ ?_ ?_
      · rintro k H5 hk ⟨s5, hd5⟩
        have hkl : N - 1 - k < row.length := by omega
        have lk := lotDn_len row N k
        have hat : row.getD (N - 1 - k) 0 = row[N - 1 - k] := by rw [List.getD_eq_getElem?_getD, List.getElem?_eq_getElem hkl]; rfl
        rw [lotDn_succ, hat]
        refine ⟨rfl, _, rfl, _, rfl, _, _, rfl, rfl, _, rfl, _, _, rfl, rfl, pr, _, _, vInt row[N - 1 - k], rfl, rfl, SqL.of (s5 _ _ (s4 _ _ hpr)), ?_, rfl, _, rfl, ?_⟩
        · show atI _ ((N : Int) - 1 - (0 + ((k : Nat) : Int))) = _
          rw [ixe k hk]
          exact atI_nat (by rw [List.getElem?_map, List.getElem?_eq_getElem hkl]; rfl)
        refine ite2 (fun z => ?_) (fun z => ?_)
        · have c1 : row[N - 1 - k] = 1 := by
            have := V.int.inj (of_decide_eq_true z)
            omega
          rw [if_pos c1]
          refine ⟨_, rfl, _, _, rfl, rfl, _, rfl, _, _, rfl, rfl, _, hd5, below (m := 300) (by rw [List.length_map]; omega), same_upd s5 hD4, ?_⟩
          rw [upd_same, List.map_append]
          exact congrArg (fun z => some (HO.lst (_ ++ [z]))) (congrArg V.int (ixe k hk))
        · have c1 : ¬ row[N - 1 - k] = 1 := fun c1 => z (decide_eq_true (by rw [c1]; rfl))
          rw [if_neg c1, List.append_nil]
          exact ⟨s5, hd5⟩
      rintro H5 ⟨s5, hd5⟩
      have hd45 := s5 _ _ hd4
      have nD42 : D4 ≠ D2 := fun e => by rw [e, hd4] at hD4; cases hD4
      refine ⟨ys, hd45, below (m := 300) (by omega), same_upd (s4.trans s5) hD2, ys ++ [.ref D4], upd_same, ?_⟩
      rw [take_more hil, List.map_append, hie]
      exact ((hA4.imp fun _ _ h => h.same s5).imp fun _ _ h => RowX.keep kp_upd (fun p h => h) h).append (show Al (RowX _ _) [V.ref D4] [lotD row N] from ⟨⟨D4, rfl, nD42, by rw [upd_ne nD42]; exact hd5⟩, trivial⟩)
    rintro H4 ⟨s4, lv, hd4, hA4⟩
    obtain ⟨lots, elots⟩ : ∃ lots, lots = rows.map fun r => lotD r N := ⟨_, rfl⟩
    rw [lrv, List.take_length, ← elots] at hA4
    have hL4 : Al (RowAt H4) lv lots := hA4.imp fun _ _ h => h.row
    have llv := hL4.len
    have llots : lots.length = nr := by rw [elots, List.length_map, hl3]
    -- kept
    refine ⟨_, rfl, D2, rfl, ⟨_, SqL.of hd4⟩, fun D5 hD5 => ?_⟩
    refine lc_list (K := K) (a := D2) (xs := lv) (fun i H' => Same H4 H' ∧ ∃ ys, H' D5 = some (.lst ys) ∧ Al (RowX (fun p => p ≠ D5) H') ys (lots.take i)) ⟨same_new hD5, [], upd_same, trivial⟩ (fun i H' _ h => SqL.of (h.1 _ _ hd4)) ?_ ?_
    · rintro i x H5 hx ⟨s5, ys, hd5, hA5⟩
      obtain ⟨lot, hlot, pr, rfl, hpr⟩ := hL4.get hx
      have hil : i < lots.length := (List.getElem?_eq_some_iff.mp hlot).1
      have hie : lots[i] = lot := (List.getElem?_eq_some_iff.mp hlot).2
      have lys := hA5.len
      rw [List.length_take] at lys
      refine ⟨rfl, _, rfl, pr, _, rfl, .inl (SqL.of (s5 _ _ hpr)), fun D6 hD6 => ?_⟩
      have e6 := same_new (o := .lst (lot.map vInt)) hD6
      have nD65 : D6 ≠ D5 := fun e => by rw [e, hd5] at hD6; cases hD6
      refine ⟨ys, e6 _ _ hd5, below (m := 300) (by omega), same_upd (s5.trans e6) hD5, ys ++ [.ref D6], upd_same, ?_⟩
      rw [take_more hil, hie]
      exact ((hA5.imp fun _ _ h => h.same e6).imp fun _ _ h => RowX.keep kp_upd (fun p h => h) h).append (show Al (RowX _ _) [V.ref D6] [lot] from ⟨⟨D6, rfl, nD65, by rw [upd_ne nD65]; exact upd_same⟩, trivial⟩)
    rintro H5 ⟨s5, kv, hd5, hA5⟩
    rw [llv, List.take_length] at hA5
    have s35 := s4.trans s5
    -- painted
    refine ⟨_, rfl, _, rfl, v, D, t, rv, rows, rfl, ht3.same s35, by omega, hwh, s35 _ _ hD3, hRow3.imp (fun _ _ h => h.same s35), by omega, (fun l hl => by rw [(hr3 l hl).1, eN, ecs]; exact Nat.le_refl _), fun H6 vp s6 hvp => ?_⟩
    have s36 := s35.trans s6
    have nc : ∀ rs : List (List Nat), (colT rs t).nodes = t.nodes := fun rs => by unfold colT; rw [col_bit]; exact map_nodes _ t 0
    have n60 : t.nodes ≤ 60 := by omega
    have hpr : paintT t (rows.map fun r => lotI r N) = colT rows t := by rw [eN, ecs]; exact paint_rows fun r hr => (hr3 r hr).2
    have hN : (leavesT t).length = N := by rw [eN, ecs]
    have hpi : ∀ l ∈ rows.map (fun r => lotI r N), InR (leavesT t).length l := fun l hl => by
      obtain ⟨r, _, rfl⟩ := List.mem_map.mp hl
      rw [hN]
      exact lotI_in _ _
    have hL6 : Al (RowAt H6) lv lots := hL4.imp fun _ _ h => h.same (s5.trans s6)
    have hd46 := (s5.trans s6) _ _ hd4
    refine ⟨_, rfl, _, rfl, v, .ref D2, t, dLL lots, some (rows.map fun r => lotI r N), rfl, ht3.same s36, by omega, by omega, .lst (SqL.of hd46) (dp_al (fun _ _ h => dp_row h) hL6), .inr ⟨lots.map dLs, .inl rfl, by rw [List.length_map]; omega, ?_⟩, fun ls e => ?_, fun e => by cases e⟩
    · rw [hN, elots, List.map_map]
      exact lots_good (fun r => good_lotD r N (.inl rfl)) rows
    cases e
    refine ⟨by rw [List.length_map]; omega, hpi, fun H7 y7 s7 hy7 => ?_⟩
    refine ⟨_, rfl, tm_same hy7 (hvp.same s7) hpr (by rw [hpr, nc]; exact n60) ⟨_, rfl, iteF ?_⟩⟩
    refine ⟨_, rfl, _, rfl, ll_same (s7 _ _ hd46) (hL6.imp fun _ _ h => h.same s7) ((s6.trans s7) _ _ hd5) (hA5.imp fun _ _ h => h.row.same (s6.trans s7)) ⟨_, rfl, iteF ?_⟩⟩
    have s37 := s36.trans s7
    have hL7 := hL6.imp fun _ _ h => h.same s7
    have hd47 := s7 _ _ hd46
    refine ⟨_, rfl, _, rfl, D2, rfl, ⟨_, SqL.of hd47⟩, fun D8 hD8 => ?_⟩
    refine lc_list (K := K) (a := D2) (xs := lv) (fun i H' => Same H7 H' ∧ ∃ ys, H' D8 = some (.lst ys) ∧ Al (PlacesAt H') ys (lots.take i)) ⟨same_new hD8, [], upd_same, trivial⟩ (fun i H' _ h => SqL.of (h.1 _ _ hd47)) ?_ ?_
    · rintro i x H8 hx ⟨s8, ys, hd8, hA8⟩
      obtain ⟨lot, hlot, pr, rfl, hpr⟩ := hL7.get hx
      have hil : i < lots.length := (List.getElem?_eq_some_iff.mp hlot).1
      have hie : lots[i] = lot := (List.getElem?_eq_some_iff.mp hlot).2
      have lys := hA8.len
      rw [List.length_take] at lys
      refine ⟨rfl, _, rfl, .inl ⟨pr, _, rfl, SqL.of (s8 _ _ hpr), fun q hq => ?_⟩⟩
      have e9 := same_new (o := .tup (lot.map vInt)) hq
      have tu := (Tups.of e9).trans (Tups.upd (o := .lst (ys ++ [.ref q])) (e9 _ _ hd8))
      refine ⟨ys, e9 _ _ hd8, below (m := 300) (by omega), same_upd (s8.trans e9) hD8, ys ++ [.ref q], upd_same, ?_⟩
      rw [take_more hil, hie]
      exact (hA8.imp fun _ _ h => PlacesAt.tups tu h).append (show Al (PlacesAt _) [V.ref q] [lot] from ⟨⟨q, rfl, Tups.upd (e9 _ _ hd8) _ _ upd_same⟩, trivial⟩)
    rintro H8 ⟨s8, tv, hd8, hA8⟩
    rw [llv, List.take_length] at hA8
    refine .inl ⟨D8, _, rfl, SqL.of hd8, fun q9 hq9 => ?_⟩
    have e9 := same_new (o := .tup tv) hq9
    have s39 := s37.trans (s8.trans e9)
    refine ⟨v, .ref q9, t, dNss lots, some (rows.map fun r => lotI r N), rfl, ht3.same s39, by omega, by omega, .tup (SqT.of upd_same) (dp_al (fun _ _ h => dp_ns h) (hA8.imp fun _ _ h => PlacesAt.tups (Tups.of e9) h)), .inr ⟨lots.map dNs, .inr rfl, by rw [List.length_map]; omega, ?_⟩, fun ls e => ?_, fun e => by cases e⟩
    · rw [hN, elots, List.map_map]
      exact lots_good (fun r => good_lotD r N (.inr rfl)) rows
    cases e
    refine ⟨by rw [List.length_map]; omega, hpi, fun H10 y10 s10 hy10 => ?_⟩
    have s610 := s7.trans (s8.trans (e9.trans s10))
    refine ⟨_, rfl, tm_same hy10 (hvp.same s610) hpr (by rw [hpr, nc]; exact n60) ⟨_, rfl, iteF ?_⟩⟩
    have s310 := s36.trans s610
    have hvp10 := hvp.same s610
    -- bare
    refine ⟨_, rfl, v, t, rfl, ht3.same s310, by omega, by omega, fun H11 y11 s11 hy11 => ?_⟩
    have s311 := s310.trans s11
    refine ⟨_, rfl, small (m := 1) (Nat.zero_le _), fun q12 hq12 => ?_⟩
    have e12 := same_new (o := .lst []) hq12
    refine ⟨v, q12, t, [], [], rfl, ht3.same (s311.trans e12), by omega, hwh, upd_same, trivial, by decide, (fun l h => by cases h), fun H13 y13 s13 hy13 => ?_⟩
    have s313 := s311.trans (e12.trans s13)
    have hp0 : paintT t [] = colT [] t := paint_rows (rows := []) fun r h => by cases h
    refine tm_same (hy11.same (e12.trans s13)) hy13 hp0 (by rw [hp0, nc]; exact n60) ⟨_, rfl, iteF ?_⟩
    have nlc : (leavesT (colT rows t)).length = N := by unfold colT; rw [col_bit, map_leaves, List.length_mapIdx, hN]
    have nlp : (leavesT (paintT (colT rows t) [])).length = N := by rw [paint_bit, map_leaves, List.length_mapIdx, nlc]
    have npp : (paintT (colT rows t) []).nodes = t.nodes := by rw [paint_bit, map_nodes, nc]
    refine ⟨_, rfl, vp, colT rows t, rfl, hvp10.same (s11.trans (e12.trans s13)), by rw [nc]; omega, by omega, fun H14 y14 s14 hy14 => ?_⟩
    have s314 := s313.trans s14
    have hmt := many_m hg hwh
    refine ⟨_, rfl, v, t, rfl, ht3.same s314, by omega, by omega, (fun c hc => by rw [hmt, ← ecs] at *; exact (hgl c hc).2.1), fun H15 qt xt s15 hqt hqt15 hAt => ?_⟩
    rw [hmt] at hAt
    have s315 := s314.trans s15
    refine ⟨y14, .ref qt, paintT (colT rows t) [], dNss ((List.range m).map (trackL (leavesT t))), some ((List.range m).map fun k => lotI (trackR t k) N), rfl, hy14.same s15, by omega, by omega, .tup (SqT.of hqt15) (dp_al (fun _ _ h => dp_ns h) hAt), .inr ⟨((List.range m).map (trackL (leavesT t))).map dNs, .inr rfl, by rw [List.length_map, List.length_map, List.length_range]; omega, ?_⟩, fun ls e => ?_, fun e => by cases e⟩
    · rw [nlp, List.map_map]
      refine lots_good (fun k => ⟨lotI (trackR t k) N, .inr ?_, (lotI_asc _ _).imp (fun h e => by omega), lotI_in _ _, lotI_asc _ _, fun k => Iff.rfl⟩) _
      show dNs (trackL (leavesT t) k) = _
      rw [track_lot hg, hN]
      unfold dNs lotI
      rw [List.map_map]
      rfl
    cases e
    refine ⟨by rw [List.length_map, List.length_range]; omega, (fun l hl => by
      obtain ⟨r, _, rfl⟩ := List.mem_map.mp hl
      rw [nlp]
      exact lotI_in _ _), fun H16 y16 s16 hy16 => ?_⟩
    have hpb : paintT (paintT (colT rows t) []) ((List.range m).map fun k => lotI (trackR t k) N) = t := by rw [← hN]; exact paint_back hg rows
    have s316 := s315.trans s16
    refine ⟨_, rfl, tm_same hy16 (ht3.same s316) hpb (by rw [hpb]; exact n60) ⟨_, rfl, iteF ?_⟩⟩
    -- one leaf changed
    have hT16 := hT3.same s316
    refine ⟨_, rfl, _, rfl, a, c3, ts, N, rfl, hT16, by omega, fun H17 c17 at_ hat hH17 hT17 => ?_⟩
    refine ⟨fun σ' H' => ∃ (c18 : Nat) (qb : Addr) (bs : List Nat), σ' = [some (.ref a), some v, some (vInt m), some (.ref pl), some (vInt N), some (.ref D), some (.ref D2), some (.ref D5), some vp, some (vInt at_), some (.ref qb), none, none, none, none, none, none, none, none, none] ∧ Kp a H3 H' ∧ TapeAt H' a c18 ts ∧ H' qb = some (.tup (bs.map vInt)) ∧ bs.length = m ∧ GLabs 2 bs, ?_, ?_⟩
    · refine ⟨_, rfl, _, rfl, a, c17, ts, m, rfl, hT17, hm, fun H18 c18 vb bs k18 hT18 hvb hbl hbg => ?_⟩
      obtain ⟨qb, rfl, hqb⟩ := hvb
      exact ⟨c18, qb, bs, rfl, (kp_same s316).trans ((Kp.of hH17).trans k18), hT18, hqb, hbl, hbg⟩
    rintro σ' H18 ⟨c18, qb, bs, rfl, k318, hT18, hqb, hbl, hbg⟩
    have tu318 : Tups H3 H18 := Tups.kp hT3 k318
    have ht18 := ht3.tups tu318
    have hxl18 : H18 pl = some (.lst xl) := k318 pl _ npl hxl3
    have hAl18 : Al (LeafAt H18) xl cs := hAl3.imp fun _ _ h => TmAt.tups tu318 h
    have k018 := k03.trans k318
    obtain ⟨cc, hcc⟩ : ∃ cc, cs[at_]? = some cc := ⟨cs[at_], List.getElem?_eq_getElem (by omega)⟩
    have hct : (leavesT t)[at_]? = some cc := by rw [← ecs]; exact hcc
    -- now
    refine ⟨_, rfl, _, rfl, by omega, by omega, ?_⟩
    rw [Int.toNat_natCast]
    intro D6 hD6
    refine lc_range (lo := 0) (n := m) (fun i H' => Same H18 H' ∧ ∃ rs : List Addr, H' D6 = some (.lst (rs.map V.ref)) ∧ rs.length = i ∧ rs.Nodup ∧ (∀ r ∈ rs, H18 r = none ∧ r ≠ D6) ∧ ∀ (k : Nat) (r : Addr), rs[k]? = some r → H' r = some (.lst ((trackR t k).map vInt))) ⟨same_new hD6, [], upd_same, rfl, List.nodup_nil, (by intro r h; cases h), (by intro k r h; cases h)⟩ ?_ ?_
    · rintro i H19 hi ⟨s19, rs, hd19, hl19, nd19, hr19, hk19⟩
      have ei : (0 : Int) + i = ((i : Nat) : Int) := by omega
      rw [ei]
      refine ⟨wipe_one, _, rfl, pl, rfl, ⟨_, SqL.of (s19 _ _ hxl18)⟩, fun D7 hD7 => ?_⟩
      refine lc_list (K := K) (a := pl) (xs := xl) (fun j H' => Same H19 H' ∧ H' D7 = some (.lst (((cs.take j).map fun c => c.2.getD i 0).map vInt))) ⟨same_new hD7, upd_same⟩ (fun j H' _ h => SqL.of (h.1 _ _ (s19 _ _ hxl18))) ?_ ?_
      · rintro j x H20 hx ⟨s20, hd20⟩
        obtain ⟨c, hc, q, q2, rfl, h1, h2⟩ := hAl18.get hx
        have hjl : j < cs.length := (List.getElem?_eq_some_iff.mp hc).1
        have hje : cs[j] = c := (List.getElem?_eq_some_iff.mp hc).2
        have hil2 : i < c.2.length := by rw [(hgl c (List.mem_of_getElem? hc)).2.1]; exact hi
        have ss := s19.trans s20
        refine ⟨wipe_one, _, rfl, q, _, _, .ref q2, rfl, rfl, SqT.of (ss _ _ h1), atI_nat (j := 1) rfl, _, rfl, q2, _, _, vInt c.2[i], rfl, rfl, SqT.of (ss _ _ h2), atI_nat (j := i) (by rw [List.getElem?_map, List.getElem?_eq_getElem hil2]; rfl), _, hd20, below (m := 300) (by rw [List.length_map, List.length_map, List.length_take]; omega), same_upd s20 hD7, ?_⟩
        rw [upd_same, take_more hjl, List.map_append, List.map_append, hje]
        have : c.2.getD i 0 = c.2[i] := by rw [List.getD_eq_getElem?_getD, List.getElem?_eq_getElem hil2]; rfl
        show _ = some (HO.lst (_ ++ [vInt (c.2.getD i 0)]))
        rw [this]
      rintro H20 ⟨s20, hd20⟩
      rw [lxl, eN, List.take_length, ecs] at hd20
      have nD76 : D7 ≠ D6 := fun e => by rw [e, hd19] at hD7; cases hD7
      have nin : D7 ∉ rs := fun h => by
        obtain ⟨k, hk⟩ := List.getElem?_of_mem h
        rw [hk19 k D7 hk] at hD7
        cases hD7
      refine ⟨rs.map V.ref, s20 _ _ hd19, below (m := 300) (by rw [List.length_map]; omega), same_upd (s19.trans s20) hD6, rs ++ [D7], by rw [upd_same, List.map_append]; rfl, by rw [List.length_append, hl19]; rfl, nd_app nd19 (by simp) (fun x h1 h2 => nin (by rw [← List.mem_singleton.mp h2]; exact h1)), fun r hr => ?_, fun k r hk => ?_⟩
      · rcases List.mem_append.mp hr with h | h
        · exact hr19 r h
        · rw [List.mem_singleton.mp h]
          exact ⟨s19.free hD7, nD76⟩
      · rcases Nat.lt_or_ge k rs.length with q | q
        · rw [List.getElem?_append_left q] at hk
          rw [upd_ne (hr19 r (List.mem_of_getElem? hk)).2]
          exact s20 _ _ (hk19 k r hk)
        · have hkl := (List.getElem?_eq_some_iff.mp hk).1
          rw [List.length_append, List.length_singleton] at hkl
          have ek : k = rs.length := by omega
          subst ek
          rw [List.getElem?_append_right (Nat.le_refl _), Nat.sub_self] at hk
          have er : D7 = r := Option.some.inj hk
          subst er
          rw [upd_ne nD76, hl19]
          exact hd20
    rintro H19 ⟨s19, rs, hd19, hl19, nd19, hr19, hk19⟩
    have htl : ∀ k, (trackR t k).length = N := fun k => by unfold trackR; rw [List.length_map, hN]
    refine ⟨_, rfl, _, rfl, by omega, by omega, ?_⟩
    rw [Int.toNat_natCast]
    refine for_range (lo := 0) (n := m) (fun i σ H' => ∃ (y12 y13 : Option V), σ = [some (.ref a), some v, some (vInt m), some (.ref pl), some (vInt N), some (.ref D), some (.ref D2), some (.ref D5), some vp, some (vInt at_), some (.ref qb), some (.ref D6), y12, y13, none, none, none, none, none, none] ∧ Same H18 H' ∧ H' D6 = some (.lst (rs.map V.ref)) ∧ ∀ (k : Nat) (r : Addr), rs[k]? = some r → H' r = some (.lst ((if k < i then (trackR t k).set at_ (bs.getD k 0) else trackR t k).map vInt))) ⟨none, none, rfl, s19, hd19, fun k r h => by rw [if_neg (Nat.not_lt_zero _)]; exact hk19 k r h⟩ ?_ ?_
    · rintro i σ H20 hi ⟨y12, y13, rfl, s20, hd20, hk20⟩
      have ei : (0 : Int) + i = ((i : Nat) : Int) := by omega
      rw [ei]
      have hil : i < rs.length := by omega
      have hri : rs[i]? = some rs[i] := List.getElem?_eq_getElem hil
      have hrm := hr19 _ (List.getElem_mem hil)
      have hib : i < bs.length := by omega
      have hrow := hk20 i _ hri
      rw [if_neg (Nat.lt_irrefl _)] at hrow
      refine ⟨_, rfl, _, rfl, D6, _, _, .ref rs[i], rfl, rfl, SqL.of hd20, atI_nat (j := i) (by rw [List.getElem?_map, hri]; rfl), ?_⟩
      refine ⟨_, rfl, _, rfl, qb, _, _, vInt bs[i], rfl, rfl, SqT.of (s20 _ _ hqb), atI_nat (j := i) (by rw [List.getElem?_map, List.getElem?_eq_getElem hib]; rfl), ?_⟩
      refine ⟨_, rfl, _, rfl, rs[i], _, (at_ : Int), at_, rfl, rfl, hrow, ixN_nat (by rw [List.length_map, htl]; exact hat), ?_⟩
      refine ⟨_, _, rfl, same_upd s20 hrm.1, by rw [upd_ne hrm.2.symm]; exact hd20, fun k r hk => ?_⟩
      by_cases e : k = i
      · subst e
        rw [hri] at hk
        have er : rs[k] = r := Option.some.inj hk
        subst er
        rw [upd_same, if_pos (Nat.lt_succ_self _), List.map_set]
        have : bs.getD k 0 = bs[k] := by rw [List.getD_eq_getElem?_getD, List.getElem?_eq_getElem hib]; rfl
        rw [this]
      · have hne : r ≠ rs[i] := fun er => e (by
          have hkl := (List.getElem?_eq_some_iff.mp hk).1
          have hke := (List.getElem?_eq_some_iff.mp hk).2
          exact nd_inj nd19 hkl hil (hke.trans er))
        rw [upd_ne hne, hk20 k r hk]
        by_cases c : k < i
        · rw [if_pos c, if_pos (by omega)]
        · rw [if_neg c, if_neg (by omega)]
    rintro σ H20 ⟨y12, y13, rfl, s20, hd20, hk20⟩
    obtain ⟨nrows, enr⟩ : ∃ nrows, nrows = (List.range m).map fun k => (trackR t k).set at_ (bs.getD k 0) := ⟨_, rfl⟩
    have hNow : Al (RowAt H20) (rs.map V.ref) nrows := by
      rw [enr]
      refine al_get (by rw [List.length_map, List.length_map, List.length_range]; exact hl19) fun k x l h1 h2 => ?_
      rw [List.getElem?_map] at h1 h2
      obtain ⟨r, hr, rfl⟩ := Option.map_eq_some_iff.mp h1
      obtain ⟨k', hk', rfl⟩ := Option.map_eq_some_iff.mp h2
      have hkm : k < m := by
        have := (List.getElem?_eq_some_iff.mp hk').1
        rwa [List.length_range] at this
      rw [List.getElem?_range hkm] at hk'
      cases hk'
      have := hk20 k r hr
      rw [if_pos hkm] at this
      exact ⟨r, rfl, this⟩
    -- new
    have ht20 := ht18.same s20
    refine ⟨_, rfl, _, rfl, _, rfl, v, vInt at_, qb, t, .int (at_ : Int), bs, rfl, ht20, by omega, .int _, s20 _ _ hqb, .inl ⟨at_, cc, rfl, hct, fun H21 vn s21 hvn => ?_⟩⟩
    obtain ⟨sl1, sl2, sl3⟩ := set_leaves (bs := bs) hg hct
    obtain ⟨tn, etn⟩ : ∃ tn, tn = (fillT t ((leavesT t).set at_ (cc.1, bs))).1 := ⟨_, rfl⟩
    have esc : tn = colT nrows t := by rw [etn, enr]; exact set_col hg hct hbl
    rw [← etn] at hvn sl1 sl2 sl3
    have s1821 := s20.trans s21
    refine ⟨_, rfl, _, rfl, _, rfl, v, D6, t, rs.map V.ref, nrows, rfl, ht20.same s21, by omega, hwh, s21 _ _ hd20, hNow.imp (fun _ _ h => h.same s21), by rw [enr, List.length_map, List.length_range]; exact hm, (fun l hl => by
      rw [enr] at hl
      obtain ⟨k, _, rfl⟩ := List.mem_map.mp hl
      rw [List.length_set, htl, hN]
      exact Nat.le_refl _), fun H22 y22 s22 hy22 => ?_⟩
    refine tm_same (hvn.same s22) hy22 esc (by omega) ⟨_, rfl, iteF ?_⟩
    have s1822 := s1821.trans s22
    refine ⟨_, rfl, _, rfl, vn, vInt at_, tn, .int (at_ : Int), rfl, hvn.same s22, by omega, .int _, .inl ⟨at_, (cc.1, bs), rfl, sl1, fun H23 y23 s23 hy23 => ?_⟩⟩
    have s1823 := s1822.trans s23
    obtain ⟨yc, hyc, q0, q1, rfl, hq0, hq1⟩ := hAl18.get2 hcc
    refine ⟨_, rfl, _, rfl, pl, _, _, .ref q0, rfl, rfl, SqL.of (s1823 _ _ hxl18), atI_nat (j := at_) hyc, q0, _, _, vInt cc.1, rfl, rfl, SqT.of (s1823 _ _ hq0), atI_nat (j := 0) rfl, _, rfl, small (m := 2) (Nat.le_refl _), fun u hu => ?_⟩
    have e24 := same_new (o := .tup [vInt cc.1, V.ref qb]) hu
    refine tm_same (t := .leaf cc.1 bs) (u := .leaf cc.1 bs) (TmAt.same e24 hy23) ⟨u, qb, rfl, upd_same, (s1823.trans e24) _ _ hqb⟩ rfl (by show 1 ≤ 60; decide) ⟨_, rfl, iteF ?_⟩
    have s1824 := s1823.trans e24
    refine ⟨_, rfl, _, rfl, v, vInt at_, t, .int (at_ : Int), rfl, ht18.same s1824, by omega, .int _, .inl ⟨at_, cc, rfl, hct, fun H25 y25 s25 hy25 => ?_⟩⟩
    have s1825 := s1824.trans s25
    refine ⟨_, rfl, _, rfl, pl, _, _, .ref q0, rfl, rfl, SqL.of (s1825 _ _ hxl18), atI_nat (j := at_) hyc, tm_same (t := .leaf cc.1 cc.2) (u := .leaf cc.1 cc.2) hy25 ⟨q0, q1, rfl, s1825 _ _ hq0, s1825 _ _ hq1⟩ rfl (by show 1 ≤ 60; decide) ⟨_, rfl, iteF ?_⟩⟩
    -- lots that are refused
    refine ⟨_, rfl, small (m := 1) (Nat.le_refl _), fun q1 hq1 => ⟨small (m := 1) (Nat.le_refl _), fun q2 hq2 => ⟨small (m := 2) (Nat.le_refl _), fun q3 hq3 => ⟨small (m := 1) (Nat.le_refl _), fun q4 hq4 => ⟨small (m := 1) (Nat.le_refl _), fun q5 hq5 => ⟨small (m := 2) (Nat.le_refl _), fun q6 hq6 => ⟨small (m := 1) (Nat.le_refl _), fun q7 hq7 => ⟨small (m := 1) (Nat.le_refl _), fun q8 hq8 => ⟨_, rfl, small (m := 1) (Nat.le_refl _), fun q9 hq9 => ⟨small (m := 1) (Nat.le_refl _), fun q10 hq10 => ⟨small (m := 1) (Nat.zero_le _), fun q11 hq11 => ⟨small (m := 1) (Nat.le_refl _), fun q12 hq12 => ⟨small (m := 2) (Nat.le_refl _), fun q13 hq13 => ⟨small (m := 9) (Nat.le_refl _), fun O hO => ?_⟩⟩⟩⟩⟩⟩⟩⟩⟩⟩⟩⟩⟩⟩
    have eq1 := same_new (o := .tup [vInt N]) hq1
    have eq2 := same_new (o := .lst [V.ref q1]) hq2
    have eq3 := same_new (o := .lst [V.int 0, V.int 0]) hq3
    have eq4 := same_new (o := .lst [V.ref q3]) hq4
    have eq5 := same_new (o := .tup [V.int 0]) hq5
    have eq6 := same_new (o := .lst [V.ref q5, V.non]) hq6
    have eq7 := same_new (o := .tup [V.bl true]) hq7
    have eq8 := same_new (o := .lst [V.ref q7]) hq8
    have eq9 := same_new (o := .tup [V.int (-1)]) hq9
    have eq10 := same_new (o := .lst [V.ref q9]) hq10
    have eq11 := same_new (o := .tup []) hq11
    have eq12 := same_new (o := .tup [V.str "0"]) hq12
    have eq13 := same_new (o := .lst [V.ref q11, V.ref q12]) hq13
    have eO := same_new (o := .lst [V.int 5, V.non, V.str "X", V.ref q2, V.ref q4, V.ref q6, V.ref q8, V.ref q10, V.ref q13]) hO
    have fq1 := (eq2.trans (eq3.trans (eq4.trans (eq5.trans (eq6.trans (eq7.trans (eq8.trans (eq9.trans (eq10.trans (eq11.trans (eq12.trans (eq13.trans eO)))))))))))) _ _ upd_same
    have fq2 := (eq3.trans (eq4.trans (eq5.trans (eq6.trans (eq7.trans (eq8.trans (eq9.trans (eq10.trans (eq11.trans (eq12.trans (eq13.trans eO))))))))))) _ _ upd_same
    have fq3 := (eq4.trans (eq5.trans (eq6.trans (eq7.trans (eq8.trans (eq9.trans (eq10.trans (eq11.trans (eq12.trans (eq13.trans eO)))))))))) _ _ upd_same
    have fq4 := (eq5.trans (eq6.trans (eq7.trans (eq8.trans (eq9.trans (eq10.trans (eq11.trans (eq12.trans (eq13.trans eO))))))))) _ _ upd_same
    have fq5 := (eq6.trans (eq7.trans (eq8.trans (eq9.trans (eq10.trans (eq11.trans (eq12.trans (eq13.trans eO)))))))) _ _ upd_same
    have fq6 := (eq7.trans (eq8.trans (eq9.trans (eq10.trans (eq11.trans (eq12.trans (eq13.trans eO))))))) _ _ upd_same
    have fq7 := (eq8.trans (eq9.trans (eq10.trans (eq11.trans (eq12.trans (eq13.trans eO)))))) _ _ upd_same
    have fq8 := (eq9.trans (eq10.trans (eq11.trans (eq12.trans (eq13.trans eO))))) _ _ upd_same
    have fq9 := (eq10.trans (eq11.trans (eq12.trans (eq13.trans eO)))) _ _ upd_same
    have fq10 := (eq11.trans (eq12.trans (eq13.trans eO))) _ _ upd_same
    have fq11 := (eq12.trans (eq13.trans eO)) _ _ upd_same
    have fq12 := (eq13.trans eO) _ _ upd_same
    have fq13 := eO _ _ upd_same
    have sall := (eq1.trans (eq2.trans (eq3.trans (eq4.trans (eq5.trans (eq6.trans (eq7.trans (eq8.trans (eq9.trans (eq10.trans (eq11.trans (eq12.trans (eq13.trans eO)))))))))))))
    have fO : (upd (upd (upd (upd (upd (upd (upd (upd (upd (upd (upd (upd (upd (upd H25 q1 (.tup [vInt N])) q2 (.lst [V.ref q1])) q3 (.lst [V.int 0, V.int 0])) q4 (.lst [V.ref q3])) q5 (.tup [V.int 0])) q6 (.lst [V.ref q5, V.non])) q7 (.tup [V.bl true])) q8 (.lst [V.ref q7])) q9 (.tup [V.int (-1)])) q10 (.lst [V.ref q9])) q11 (.tup [])) q12 (.tup [V.str "0"])) q13 (.lst [V.ref q11, V.ref q12])) O (.lst [V.int 5, V.non, V.str "X", V.ref q2, V.ref q4, V.ref q6, V.ref q8, V.ref q10, V.ref q13])) O = some (.lst [V.int 5, V.non, V.str "X", V.ref q2, V.ref q4, V.ref q6, V.ref q8, V.ref q10, V.ref q13]) := upd_same
    obtain ⟨HO, eHO⟩ : ∃ HO, HO = (upd (upd (upd (upd (upd (upd (upd (upd (upd (upd (upd (upd (upd (upd H25 q1 (.tup [vInt N])) q2 (.lst [V.ref q1])) q3 (.lst [V.int 0, V.int 0])) q4 (.lst [V.ref q3])) q5 (.tup [V.int 0])) q6 (.lst [V.ref q5, V.non])) q7 (.tup [V.bl true])) q8 (.lst [V.ref q7])) q9 (.tup [V.int (-1)])) q10 (.lst [V.ref q9])) q11 (.tup [])) q12 (.tup [V.str "0"])) q13 (.lst [V.ref q11, V.ref q12])) O (.lst [V.int 5, V.non, V.str "X", V.ref q2, V.ref q4, V.ref q6, V.ref q8, V.ref q10, V.ref q13])) := ⟨_, rfl⟩
    rw [← eHO] at sall fO fq1 fq2 fq3 fq4 fq5 fq6 fq7 fq8 fq9 fq10 fq11 fq12 fq13 ⊢
    clear eHO eq1 eq2 eq3 eq4 eq5 eq6 eq7 eq8 eq9 eq10 eq11 eq12 eq13 eO
    have hDp : DpAll K HO [V.int 5, V.non, V.str "X", V.ref q2, V.ref q4, V.ref q6, V.ref q8, V.ref q10, V.ref q13] (badLots N) :=
      .cons (.int _) (.cons .non (.cons (.str _) (.cons (.lst (SqL.of fq2) (.cons (.tup (SqT.of fq1) (.cons (.int _) .nil)) .nil)) (.cons (.lst (SqL.of fq4) (.cons (.lst (SqL.of fq3) (.cons (.int _) (.cons (.int _) .nil))) .nil))
        (.cons (.lst (SqL.of fq6) (.cons (.tup (SqT.of fq5) (.cons (.int _) .nil)) (.cons .non .nil))) (.cons (.lst (SqL.of fq8) (.cons (.tup (SqT.of fq7) (.cons (.bl _) .nil)) .nil)) (.cons (.lst (SqL.of fq10) (.cons (.tup (SqT.of fq9) (.cons (.int _) .nil)) .nil))
          (.cons (.lst (SqL.of fq13) (.cons (.tup (SqT.of fq11) .nil) (.cons (.tup (SqT.of fq12) (.cons (.str _) .nil)) .nil))) .nil))))))))
    have s18O := s1825.trans sall
    refine ⟨O, rfl, ⟨_, SqL.of fO⟩, for_list (K := K) (a := O) (xs := [V.int 5, V.non, V.str "X", V.ref q2, V.ref q4, V.ref q6, V.ref q8, V.ref q10, V.ref q13]) (fun i σ H' => ∃ y15 : Option V, σ = [some (.ref a), some v, some (vInt m), some (.ref pl), some (vInt N), some (.ref D), some (.ref D2), some (.ref D5), some vp, some (vInt at_), some (.ref qb), some (.ref D6), y12, y13, some vn, y15, none, none, none, none] ∧ Same HO H') ⟨none, rfl, fun _ _ h => h⟩ ?_ ?_ ?_⟩
    · rintro i σ H' hi ⟨y15, rfl, s26⟩
      exact SqL.of (s26 _ _ fO)
    · rintro i x σ H26 hx ⟨y15, rfl, s26⟩
      obtain ⟨d, hd, hdx⟩ := dpA_get hDp hx
      refine ⟨_, rfl, _, rfl, v, x, t, d, rfl, ht18.same (s18O.trans s26), by omega, by omega, dp_same s26 hdx, by rw [hN]; exact bad_lots hn1 hd, fun H27 s27 => ⟨_, rfl, iteF ⟨_, rfl, s26.trans s27⟩⟩⟩
    rintro σ H26 ⟨y15, rfl, s26⟩
    refine ⟨_, rfl, _, rfl, small (m := 4) (Nat.le_refl _), fun O2 hO2 => ?_⟩
    have e27 := same_new (o := .lst [vInt N, V.int (-1), V.bl true, V.non]) hO2
    have s1827 := s18O.trans (s26.trans e27)
    have fO2 : (upd H26 O2 (.lst [vInt N, V.int (-1), V.bl true, V.non])) O2 = some (.lst [vInt N, V.int (-1), V.bl true, V.non]) := upd_same
    obtain ⟨H27, eH27⟩ : ∃ H27, H27 = upd H26 O2 (.lst [vInt N, V.int (-1), V.bl true, V.non]) := ⟨_, rfl⟩
    rw [← eH27] at s1827 fO2 ⊢
    refine ⟨O2, rfl, ⟨_, SqL.of fO2⟩, for_list (K := K) (a := O2) (xs := [vInt N, V.int (-1), V.bl true, V.non]) (fun i σ H' => ∃ y15 : Option V, σ = [some (.ref a), some v, some (vInt m), some (.ref pl), some (vInt N), some (.ref D), some (.ref D2), some (.ref D5), some vp, some (vInt at_), some (.ref qb), some (.ref D6), y12, y13, some vn, y15, none, none, none, none] ∧ Same H27 H') ⟨y15, rfl, fun _ _ h => h⟩ ?_ ?_ ?_⟩
    · rintro i σ H' hi ⟨y15, rfl, s28⟩
      exact SqL.of (s28 _ _ fO2)
    · rintro i x σ H28 hx ⟨y15, rfl, s28⟩
      obtain ⟨d, hdx, hdb⟩ := bad_nums (K := K) hn1 hx
      have hdb' : betD d 0 ((leavesT t).length - 1) = false := by rw [hN]; exact hdb
      refine ⟨_, rfl, _, rfl, v, x, t, d, 0, "place", rfl, ht18.same (s1827.trans s28), by omega, by omega, hdx _, .inl ⟨rfl, hdb', rfl⟩, fun H29 s29 => ⟨rfl, _, rfl, wordne ?_⟩⟩
      refine ⟨_, rfl, _, rfl, v, x, t, d, 1, "place", rfl, ht18.same (s1827.trans (s28.trans s29)), by omega, by omega, hdx _, .inr (.inl ⟨rfl, hdb', rfl⟩), fun H30 s30 => ⟨rfl, _, rfl, wordne ?_⟩⟩
      exact ⟨_, rfl, s28.trans (s29.trans s30)⟩
    rintro σ H28 ⟨y15, rfl, s28⟩
    have sfin := s1827.trans s28
    exact k _ c18 (k018.trans (kp_same sfin)) (hT18.same sfin)
end
end Fam

/-! Paths into a term. -/
namespace Fam
open PySem L2 S5 ItX OwnX
open C8 (pss_cut tCut)
def intsN (l : List Nat) : List Int := l.map fun (n : Nat) => (n : Int)
def lexN (a b : List Nat) : Prop := HT.lexLt (intsN a) (intsN b) = true
theorem lexN_cons (x y : Nat) (a b : List Nat) : lexN (x :: a) (y :: b) ↔ (x = y ∧ lexN a b) ∨ x < y := by
  unfold lexN intsN
  rw [List.map_cons, List.map_cons, HT.lexLt_cons]
  by_cases e : (x : Int) = y
  · rw [if_pos e]
    have e' : x = y := by omega
    constructor
    · intro h; exact .inl ⟨e', h⟩
    · rintro (h | h)
      · exact h.2
      · omega
  · rw [if_neg e, decide_eq_true_eq]
    constructor
    · intro h; exact .inr (by omega)
    · rintro (h | h)
      · omega
      · omega
theorem lexN_nil (x : Nat) (a : List Nat) : lexN [] (x :: a) := rfl
theorem not_lexN_nil (a : List Nat) : ¬ lexN a [] := by
  cases a <;> intro h <;> cases h
theorem lexN_asym : ∀ {a b : List Nat}, lexN a b → ¬ lexN b a
  | [], [], h => by cases h
  | [], y :: b, _ => not_lexN_nil _
  | x :: a, [], h => absurd h (not_lexN_nil _)
  | x :: a, y :: b, h => fun z => by
    rw [lexN_cons] at h z
    rcases h with ⟨e, h⟩ | h
    · rcases z with ⟨_, z⟩ | z
      · exact lexN_asym h z
      · omega
    · rcases z with ⟨e, _⟩ | z
      · omega
      · omega
theorem lexN_tri : ∀ (a b : List Nat), lexN a b ∨ a = b ∨ lexN b a
  | [], [] => .inr (.inl rfl)
  | [], y :: b => .inl rfl
  | x :: a, [] => .inr (.inr rfl)
  | x :: a, y :: b => by
    rw [lexN_cons, lexN_cons]
    rcases Nat.lt_trichotomy x y with h | h | h
    · exact .inl (.inr h)
    · subst h
      rcases lexN_tri a b with h | h | h
      · exact .inl (.inl ⟨rfl, h⟩)
      · exact .inr (.inl (by rw [h]))
      · exact .inr (.inr (.inl ⟨rfl, h⟩))
    · exact .inr (.inr (.inr h))
theorem lex_eq : ∀ {xs ys : List (List Nat)}, xs.Perm ys → xs.Pairwise (fun a b => ¬ lexN b a) → ys.Pairwise lexN → xs = ys
  | [], ys, p, _, _ => by rw [List.nil_perm.mp p]
  | x :: xs, [], p, _, _ => by cases p.length_eq
  | x :: xs, y :: ys, p, hx, hy => by
    obtain ⟨h1, h2⟩ := List.pairwise_cons.mp hx
    obtain ⟨h3, h4⟩ := List.pairwise_cons.mp hy
    have e : x = y := by
      rcases List.mem_cons.mp (p.mem_iff.mp (List.mem_cons_self ..)) with e | e
      · exact e
      · rcases List.mem_cons.mp (p.mem_iff.mpr (List.mem_cons_self ..)) with e' | e'
        · exact e'.symm
        · exact absurd (h3 x e) (h1 y e')
    subst e
    rw [lex_eq (List.Perm.cons_inv p) h2 h4]
/-- the paths into a term, in order -/
def rp : Tm → List (List Nat)
  | .join _ l r => [] :: ((rp l).map (0 :: ·) ++ (rp r).map (1 :: ·))
  | _ => [[]]
/-- .. in the walk's order -/
def rl : Tm → List (List Nat)
  | .join _ l r => [] :: ((rl r).map (1 :: ·) ++ (rl l).map (0 :: ·))
  | _ => [[]]
theorem rl_perm : ∀ t : Tm, (rl t).Perm (rp t)
  | .hole => .refl _
  | .leaf _ _ => .refl _
  | .join j l r => .cons _ (List.perm_append_comm.trans (((rl_perm l).map _).append ((rl_perm r).map _)))
theorem rl_len : ∀ t : Tm, (rl t).length = t.nodes
  | .hole => rfl
  | .leaf _ _ => rfl
  | .join j l r => by
    show ((rl r).map _ ++ (rl l).map _).length + 1 = l.nodes + r.nodes + 1
    rw [List.length_append, List.length_map, List.length_map, rl_len l, rl_len r]
    omega
theorem rp_asc : ∀ t : Tm, (rp t).Pairwise lexN
  | .hole => List.pairwise_singleton ..
  | .leaf _ _ => List.pairwise_singleton ..
  | .join j l r => by
    refine List.pairwise_cons.mpr ⟨fun a ha => ?_, List.pairwise_append.mpr ⟨List.pairwise_map.mpr ((rp_asc l).imp fun h => (lexN_cons ..).mpr (.inl ⟨rfl, h⟩)), List.pairwise_map.mpr ((rp_asc r).imp fun h => (lexN_cons ..).mpr (.inl ⟨rfl, h⟩)), fun a ha b hb => ?_⟩⟩
    · rcases List.mem_append.mp ha with h | h
      · obtain ⟨x, _, rfl⟩ := List.mem_map.mp h
        exact lexN_nil ..
      · obtain ⟨x, _, rfl⟩ := List.mem_map.mp h
        exact lexN_nil ..
    · obtain ⟨x, _, rfl⟩ := List.mem_map.mp ha
      obtain ⟨y, _, rfl⟩ := List.mem_map.mp hb
      exact (lexN_cons ..).mpr (.inr Nat.zero_lt_one)
theorem rp_len (t : Tm) : (rp t).length = t.nodes := by rw [← (rl_perm t).length_eq, rl_len]
theorem rp_depth : ∀ (t : Tm) (p : List Nat), p ∈ rp t → p.length < t.nodes
  | .hole, p, h => by rw [List.mem_singleton.mp h]; exact Nat.one_pos
  | .leaf _ _, p, h => by rw [List.mem_singleton.mp h]; exact Nat.one_pos
  | .join j l r, p, h => by
    have e : (Tm.join j l r).nodes = l.nodes + r.nodes + 1 := rfl
    rcases List.mem_cons.mp h with h | h
    · rw [h, e]
      exact Nat.succ_pos _
    · rcases List.mem_append.mp h with h | h
      · obtain ⟨x, hx, rfl⟩ := List.mem_map.mp h
        have := rp_depth l x hx
        rw [List.length_cons]
        omega
      · obtain ⟨x, hx, rfl⟩ := List.mem_map.mp h
        have := rp_depth r x hx
        rw [List.length_cons]
        omega
theorem rp_bits : ∀ (t : Tm) (p : List Nat), p ∈ rp t → GLabs 2 p
  | .hole, p, h => by rw [List.mem_singleton.mp h]; intro x hx; cases hx
  | .leaf _ _, p, h => by rw [List.mem_singleton.mp h]; intro x hx; cases hx
  | .join j l r, p, h => by
    rcases List.mem_cons.mp h with h | h
    · rw [h]; intro x hx; cases hx
    · rcases List.mem_append.mp h with h | h
      · obtain ⟨q, hq, rfl⟩ := List.mem_map.mp h
        intro x hx
        rcases List.mem_cons.mp hx with e | hx
        · rw [e]; exact Nat.zero_lt_two
        · exact rp_bits l q hq x hx
      · obtain ⟨q, hq, rfl⟩ := List.mem_map.mp h
        intro x hx
        rcases List.mem_cons.mp hx with e | hx
        · rw [e]; exact Nat.one_lt_two
        · exact rp_bits r q hq x hx
/-- sorted(xs), xs a list of tuples of numbers -/
theorem srt_rows {H : Hp} {xs : List V} {ls : List (List Nat)} (hA : Al (PlacesAt H) xs ls) : ∃ ta : List Addr, xs = ta.map V.ref ∧ (∀ t ∈ ta, H t = some (.tup ((kOf H t).map V.int))) ∧
    ∀ ts' : List Addr, ts'.Perm ta → ts'.Pairwise (fun p q => HT.lexLt (kOf H q) (kOf H p) = false) → ∃ ar, Al (PlacesAt H) (ts'.map V.ref) ar ∧ ar.Perm ls ∧ ar.Pairwise (fun a b => ¬ lexN b a) := by
  obtain ⟨ts, e1, e2, e3⟩ := hA.refs
  obtain ⟨ta, eta⟩ : ∃ ta : List Addr, ta = ts.map Prod.fst := ⟨_, rfl⟩
  have exs : xs = ta.map V.ref := by rw [e1, eta, List.map_map]; rfl
  rw [exs] at hA
  refine ⟨ta, exs, fun t ht => ?_, fun ts' hts hs => ?_⟩
  · rw [eta] at ht
    obtain ⟨z, hz, rfl⟩ := List.mem_map.mp ht
    rw [kOf_eq (e3 z hz)]
    exact e3 z hz
  obtain ⟨ar, par, hA3⟩ := Al.perm (hts.symm.map V.ref) hA
  have w1 : (ts'.map V.ref).Pairwise fun u v => ∀ a b, PlacesAt H u a → PlacesAt H v b → ¬ lexN b a := List.pairwise_map.mpr (hs.imp fun {u v} e a b ha hb z => by
    obtain ⟨u', e', hu⟩ := ha
    cases e'
    obtain ⟨v', e', hv⟩ := hb
    cases e'
    rw [vI] at hu hv
    rw [kOf_eq hu, kOf_eq hv] at e
    have : HT.lexLt (intsN b) (intsN a) = true := z
    rw [show HT.lexLt (intsN b) (intsN a) = false from e] at this
    cases this)
  exact ⟨ar, hA3, par.symm, Al.pairwise (R := PlacesAt H) (fun u v a b ha hb f => f a b ha hb) w1 hA3⟩
/-- the part at a path -/
def subT : Tm → List Nat → Tm
  | .join _ l r, s :: p => if s = 0 then subT l p else subT r p
  | t, _ => t
def TodoT (H : Hp) (v : V) (u : List Nat × Tm) : Prop := ∃ p a x, v = .ref p ∧ H p = some (.tup [x, a]) ∧ PlacesAt H a u.1 ∧ TmAt H x u.2
theorem TodoT.tups {H H' : Hp} (s : Tups H H') {v : V} {u : List Nat × Tm} (h : TodoT H v u) : TodoT H' v u := by
  obtain ⟨p, a, x, e, h1, h2, h3⟩ := h
  exact ⟨p, a, x, e, s _ _ h1, PlacesAt.tups s h2, h3.tups s⟩
def ndP (us : List (List Nat × Tm)) : Nat := (us.map fun u => u.2.nodes).sum
theorem ndP_snoc (us : List (List Nat × Tm)) (u : List Nat × Tm) : ndP (us ++ [u]) = ndP us + u.2.nodes := by
  unfold ndP
  rw [List.map_append, List.sum_append]
  simp
theorem ndP_len (us : List (List Nat × Tm)) : us.length ≤ ndP us := by
  induction us with
  | nil => exact Nat.zero_le _
  | cons u us ih =>
    have := nodes_pos u.2
    unfold ndP at ih ⊢
    rw [List.map_cons, List.sum_cons, List.length_cons]
    omega
def opP (us : List (List Nat × Tm)) : List (List Nat) := (us.reverse.map fun u => (rl u.2).map (u.1 ++ ·)).flatten
theorem opP_snoc (us : List (List Nat × Tm)) (u : List Nat × Tm) : opP (us ++ [u]) = (rl u.2).map (u.1 ++ ·) ++ opP us := by
  unfold opP
  rw [List.reverse_append]
  rfl
def spLPaths : Sp := fun vs H Q _ => ∃ (v : V) (t : Tm), vs = [v] ∧ TmAt H v t ∧ t.nodes ≤ 60 ∧ ∀ (H' : Hp) (p : Addr) (xs : List V), Same H H' → H p = none → H' p = some (.lst xs) → Al (PlacesAt H') xs (rp t) → Q (.ref p) H'
def spLPart : Sp := fun vs H Q _ => ∃ (v w : V) (t : Tm) (p : List Nat), vs = [v, w] ∧ TmAt H v t ∧ PlacesAt H w p ∧ p ∈ rp t ∧ ∀ y, TmAt H y (subT t p) → Q y H
section
variable {P : Program} {w : World} {K : PySem.W.Frag} {mg : Str → Option Value} {base : Heap}
abbrev nPT : List Str := ["_law_term_here", "_law_open_parts", "_law_paths_here", "_law_k", "_law_part_here", "_law_path"]
theorem scPT : FnScope nPT ["_law_term_here"] (defScope sLPaths) := ⟨rfl, rfl, rfl, by decide +kernel, rfl, by decide +kernel, by decide +kernel⟩
theorem ok_l_paths {f : Addr} {fd : FuncData} (F : Fun K "_law_paths" "_law_paths" sLPaths f fd) (T : Bare mg) : FnOk P w K mg base CX0 1 f fd ["_law_term_here"] spLPaths := by
  refine F.ok scPT (fun vs H Q E h => ?_) (fun cdv A outer s H vs Q E hr h => ?_)
  · obtain ⟨v, t, rfl, _⟩ := h
    rfl
  · obtain ⟨v, t, rfl, ht, hn, k⟩ := h
    refine ⟨_, (pss_cons (ps_set (i := 1) scPT.nd rfl (Or.inl rfl) (pe_lst (pa_cons (pe_tup (pa_cons (pv 0) (pa_cons (pe_tup pa_nil) pa_nil))) pa_nil)))
      (pss_cons (ps_set (i := 2) scPT.nd rfl (Or.inl rfl) (pe_lst pa_nil))
      (pss_cons (ps_for PassesOwn.never rfl (pi_range1 rfl T.range (pa_cons pe_int pa_nil)) (pg_name (i := 3) scPT.nd rfl (Or.inl rfl))
          (pss_one (ps_if (pt_cmpR op_gt (pe_callB call_len_seq (by rfl) T.len PySem.boot_len (pa_cons (pv 1) pa_nil)) pe_int (nomark _)) (pss_cons (ps_asg (pe_bm0 PySem.F.plainAttrs_list PySem.F.slot_list_pop PySem.F.type_list_pop mt_pop (pv 1)) (pg_tup rfl (pgs_cons (pg_name (i := 4) scPT.nd rfl (Or.inl rfl)) (pgs_cons (pg_name (i := 5) scPT.nd rfl (Or.inl rfl)) pgs_nil))))
              (pss_cons (ps_expr (pe_bm PySem.F.plainAttrs_list PySem.F.slot_list_append PySem.F.type_list_append mt_append (pv 2) (pa_cons (pv 5) pa_nil)))
              (pss_one (ps_if (PW.pt (pw_and (pt_cmpR op_notN (pv 4) pe_non (nomark _)) (pw_and1 (pt_cmpR op_eq (pe_callB call_len_seq (by rfl) T.len PySem.boot_len (pa_cons (pv 4) pa_nil)) pe_int (nomark _))))) (pss_cons (ps_expr (pe_bm PySem.F.plainAttrs_list PySem.F.slot_list_append PySem.F.type_list_append mt_append (pv 1) (pa_cons (pe_tup (pa_cons (pe_ix ix_tup (pv 4) pe_int (fun _ _ => rfl)) (pa_cons (pe_op op_catA (pv 5) (pe_tup (pa_cons pe_int pa_nil))) pa_nil))) pa_nil)))
                  (pss_one (ps_expr (pe_bm PySem.F.plainAttrs_list PySem.F.slot_list_append PySem.F.type_list_append mt_append (pv 1) (pa_cons (pe_tup (pa_cons (pe_ix ix_tup (pv 4) pe_int (fun _ _ => rfl)) (pa_cons (pe_op op_catA (pv 5) (pe_tup (pa_cons pe_int pa_nil))) pa_nil))) pa_nil))))) pss_nil)))) pss_nil)))
      (pss_one (ps_ret (pe_callB (cr_sortedTA hr.units) (by rfl) T.sorted (by decide +kernel) (pa_cons (pv 2) pa_nil))))))), ?_⟩
    refine ⟨_, rfl, small (m := 1) (Nat.zero_le _), fun q0 hq0 => ⟨small (m := 2) (Nat.le_refl _), fun q1 hq1 => ⟨small (m := 1) (Nat.le_refl _), fun D1 hD1 => ⟨small (m := 1) (Nat.zero_le _), fun D2 hD2 => ?_⟩⟩⟩⟩
    have e0 := same_new (o := .tup []) hq0
    have e1 := same_new (o := .tup [v, V.ref q0]) hq1
    have s1 := same_new (o := .lst [V.ref q1]) hD1
    have s2 := same_new (o := .lst []) hD2
    have fD1 : H D1 = none := (e0.trans e1).free hD1
    have n2 : H D2 = none := (e0.trans (e1.trans s1)).free hD2
    have n12 : D1 ≠ D2 := (ne_of_none upd_same hD2)
    have f0 := (e1.trans (s1.trans s2)) _ _ (upd_same (H := H) (a := q0) (o := .tup []))
    have f1 := (s1.trans s2) _ _ (upd_same (a := q1) (o := .tup [v, V.ref q0]))
    have f3 := s2 _ _ (upd_same (a := D1) (o := .lst [V.ref q1]))
    have s02 := e0.trans (e1.trans (s1.trans s2))
    have fD2 := upd_same (H := upd (upd (upd H q0 (.tup [])) q1 (.tup [v, V.ref q0])) D1 (.lst [V.ref q1])) (a := D2) (o := .lst [])
    obtain ⟨H0, eH0⟩ : ∃ H0, H0 = upd (upd (upd (upd H q0 (.tup [])) q1 (.tup [v, V.ref q0])) D1 (.lst [V.ref q1])) D2 (.lst []) := ⟨_, rfl⟩
    rw [← eH0] at f0 f1 f3 s02 fD2 ⊢
    clear eH0 e0 e1 s1 s2 hq0 hq1 hD1 hD2
    refine ⟨_, rfl, by decide, by decide, ?_⟩
    rw [show (60 : Int).toNat = 60 from rfl]
    refine for_range (lo := 0) (n := 60) (fun i σ H' => ∃ (y3 y4 y5 : Option V) (fs ts : List V) (ss : List (List Nat)) (us : List (List Nat × Tm)), σ = [some v, some (.ref D1), some (.ref D2), y3, y4, y5] ∧ Same H H' ∧ H' D1 = some (.lst ts) ∧ H' D2 = some (.lst fs) ∧ Al (PlacesAt H') fs ss ∧ Al (TodoT H') ts us ∧ rl t = ss ++ opP us ∧ ss.length + ndP us = t.nodes ∧ (us = [] ∨ ss.length = i) ∧ ∀ u ∈ us, u.1.length ≤ i)
      ⟨none, none, none, [], [V.ref q1], [], [([], t)], rfl, s02, f3, fD2, trivial, ⟨⟨q1, .ref q0, v, rfl, f1, ⟨q0, rfl, f0⟩, ht.same s02⟩, trivial⟩, by unfold opP; simp, by simp [ndP], .inr rfl, (fun u hu => by rw [List.mem_singleton.mp hu]; exact Nat.le_refl _)⟩ ?_ ?_
    · rintro i σ H1 hi ⟨y3, y4, y5, fs, ts, ss, us, rfl, sm, ht1, hf, hS, hT, hr', hle, hc, hpl⟩
      refine ⟨_, rfl, D1, ts, rfl, .inl (SqL.of ht1), _, _, rfl, rfl, _, rfl, ?_⟩
      rcases List.eq_nil_or_concat ts with rfl | ⟨ts', x, rfl⟩
      · have e : us = [] := by
          cases us with
          | nil => rfl
          | cons _ _ => exact hT.elim
        subst e
        exact iteF ⟨_, y4, y5, fs, [], ss, [], rfl, sm, ht1, hf, hS, trivial, hr', hle, .inl rfl, fun u hu => by cases hu⟩
      rw [List.concat_eq_append] at ht1 hT ⊢
      obtain ⟨us', u, rfl, hT', hu⟩ := hT.snoc
      have hci : ss.length = i := by
        rcases hc with h | h
        · cases us' <;> cases h
        · exact h
      refine ite2 (fun _ => ?_) (fun z => absurd (by rw [List.length_append]; simp) z)
      refine ⟨_, rfl, .inl ⟨rfl, _, SqL.of ht1⟩, D1, _, _, rfl, rfl, ht1, last_of _ _, ?_⟩
      rw [List.dropLast_concat]
      obtain ⟨H2, eH2⟩ : ∃ H2, H2 = upd H1 D1 (.lst ts') := ⟨_, rfl⟩
      rw [← eH2]
      have tu : Tups H1 H2 := by rw [eH2]; exact Tups.upd ht1
      have sm2 : Same H H2 := by rw [eH2]; exact same_upd sm fD1
      have hf2 : H2 D2 = some (.lst fs) := by rw [eH2, upd_ne n12.symm]; exact hf
      have ht2 : H2 D1 = some (.lst ts') := by rw [eH2]; exact upd_same
      rw [opP_snoc] at hr'
      rw [ndP_snoc] at hle
      have lenf : fs.length + ts'.length ≤ 60 := by
        have h1 := hS.len
        have h2 := hT'.len
        have h3 := ndP_len us'
        have h4 := nodes_pos u.2
        omega
      obtain ⟨pth, ut⟩ := u
      obtain ⟨qx, va, xv, rfl, hqx, hva, hxv⟩ := hu.tups tu
      refine ⟨qx, _, rfl, SqT.of hqx, rfl, _, _, rfl, _, _, rfl, rfl, ?_⟩
      refine ⟨_, rfl, .inl ⟨rfl, _, SqL.of hf2⟩, _, rfl, D2, _, _, rfl, rfl, hf2, below (m := 200000) (by omega), ?_⟩
      obtain ⟨H3, eH3⟩ : ∃ H3, H3 = upd H2 D2 (.lst (fs ++ [va])) := ⟨_, rfl⟩
      rw [← eH3]
      have t3 : Tups H2 H3 := by rw [eH3]; exact Tups.upd hf2
      have t13 := tu.trans t3
      have sm3 : Same H H3 := by rw [eH3]; exact same_upd sm2 n2
      have hf3 : H3 D2 = some (.lst (fs ++ [va])) := by rw [eH3]; exact upd_same
      have ht3 : H3 D1 = some (.lst ts') := by rw [eH3, upd_ne n12]; exact ht2
      have hx3 := hxv.tups t3
      have hva3 := PlacesAt.tups t3 hva
      have hS3 : Al (PlacesAt H3) (fs ++ [va]) (ss ++ [pth]) := (hS.imp fun _ _ h => PlacesAt.tups t13 h).append ⟨hva3, trivial⟩
      have hT3 := hT'.imp fun _ _ h => h.tups t13
      have hl3 : (ss ++ [pth]).length = i + 1 := by rw [List.length_append, hci]; rfl
      have hpp : pth.length ≤ i := hpl (pth, ut) (List.mem_append_right _ (List.mem_singleton.mpr rfl))
      have hpl' : ∀ u ∈ us', u.1.length ≤ i + 1 := fun u hu => Nat.le_succ_of_le (hpl u (List.mem_append_left _ hu))
      have one : rl ut = [[]] → ut.nodes = 1 → ∃ (y3 y4 y5 : Option V) (fs' ts : List V) (ss : List (List Nat)) (us : List (List Nat × Tm)), [some v, some (.ref D1), some (.ref D2), some (V.int (0 + (i : Int))), some xv, some va] = [some v, some (V.ref D1), some (.ref D2), y3, y4, y5] ∧ Same H H3 ∧ H3 D1 = some (.lst ts) ∧ H3 D2 = some (.lst fs') ∧ Al (PlacesAt H3) fs' ss ∧ Al (TodoT H3) ts us ∧ rl t = ss ++ opP us ∧ ss.length + ndP us = t.nodes ∧ (us = [] ∨ ss.length = i + 1) ∧ ∀ u ∈ us, u.1.length ≤ i + 1 := fun e1 e2 =>
        ⟨_, _, _, fs ++ [va], ts', ss ++ [pth], us', rfl, sm3, ht3, hf3, hS3, hT3, by rw [hr', e1, List.append_assoc]; simp, by rw [hl3]; simp at hle; omega, .inr hl3, hpl'⟩
      cases ut with
      | hole =>
        have e : xv = .non := hx3
        subst e
        exact ⟨_, rfl, rfl, _, rfl, iteF (iteF (one rfl rfl))⟩
      | leaf a bs =>
        obtain ⟨p, q, rfl, h1, h2⟩ := id hx3
        refine ⟨_, rfl, rfl, _, rfl, iteT ?_⟩
        exact ⟨_, rfl, p, _, rfl, .inr (SqT.of h1), rfl, _, rfl, iteF (one rfl rfl)⟩
      | join j l r =>
        obtain ⟨p, y, z, rfl, h1, h2, h3⟩ := id hx3
        obtain ⟨pa, rfl, hpa⟩ := id hva3
        refine ⟨_, rfl, rfl, _, rfl, iteT ?_⟩
        refine ⟨_, rfl, p, _, rfl, .inr (SqT.of h1), rfl, _, rfl, iteT ?_⟩
        refine ⟨_, rfl, .inl ⟨rfl, _, SqL.of ht3⟩, _, rfl, p, _, _, _, rfl, rfl, SqT.of h1, atI_nat (j := 1) rfl, _, rfl, small (m := 1) (Nat.le_refl _), fun z1 hz1 => ?_⟩
        have g1 := same_new (o := .tup [V.int 0]) hz1
        refine cat_one (pa := pth) (s := 0) (g1 _ _ hpa) upd_same (by omega) fun z2 G2 g2 hz2 => ⟨small (m := 2) (Nat.le_refl _), fun z3 hz3 => ?_⟩
        have g3 := same_new (o := .tup [y, z2]) hz3
        have g13 := g1.trans (g2.trans g3)
        have d1 : PlacesAt (upd G2 z3 (.tup [y, z2])) z2 (pth ++ [0]) := PlacesAt.tups (Tups.of g3) hz2
        have d2 := upd_same (H := G2) (a := z3) (o := .tup [y, z2])
        obtain ⟨G3, eG3⟩ : ∃ G3, G3 = upd G2 z3 (.tup [y, z2]) := ⟨_, rfl⟩
        rw [← eG3] at g13 d1 d2 ⊢
        clear eG3 g3 hz3
        have ht4 := g13 _ _ ht3
        refine ⟨D1, _, _, rfl, rfl, ht4, below (m := 200000) (by omega), ?_⟩
        obtain ⟨H4, eH4⟩ : ∃ H4, H4 = upd G3 D1 (.lst (ts' ++ [V.ref z3])) := ⟨_, rfl⟩
        rw [← eH4]
        have t4 : Tups G3 H4 := by rw [eH4]; exact Tups.upd ht4
        have sm4 : Same H H4 := by rw [eH4]; exact same_upd (sm3.trans g13) fD1
        have hf4 : H4 D2 = some (.lst (fs ++ [.ref pa])) := by rw [eH4, upd_ne n12.symm]; exact g13 _ _ hf3
        have ht5 : H4 D1 = some (.lst (ts' ++ [V.ref z3])) := by rw [eH4]; exact upd_same
        have t34 := (Tups.of g13).trans t4
        refine ⟨_, rfl, .inl ⟨rfl, _, SqL.of ht5⟩, _, rfl, p, _, _, _, rfl, rfl, SqT.of (t34 _ _ h1), atI_nat (j := 2) rfl, _, rfl, small (m := 1) (Nat.le_refl _), fun w1 hw1 => ?_⟩
        have k1 := same_new (o := .tup [V.int 1]) hw1
        refine cat_one (pa := pth) (s := 1) (k1 _ _ (t34 _ _ hpa)) upd_same (by omega) fun w2 G5 k2 hw2 => ⟨small (m := 2) (Nat.le_refl _), fun w3 hw3 => ?_⟩
        have k3 := same_new (o := .tup [z, w2]) hw3
        have k13 := k1.trans (k2.trans k3)
        have c1 : PlacesAt (upd G5 w3 (.tup [z, w2])) w2 (pth ++ [1]) := PlacesAt.tups (Tups.of k3) hw2
        have c2 := upd_same (H := G5) (a := w3) (o := .tup [z, w2])
        obtain ⟨G6, eG6⟩ : ∃ G6, G6 = upd G5 w3 (.tup [z, w2]) := ⟨_, rfl⟩
        rw [← eG6] at k13 c1 c2 ⊢
        clear eG6 k3 hw3
        have ht6 := k13 _ _ ht5
        refine ⟨D1, _, _, rfl, rfl, ht6, below (m := 200000) (by rw [List.length_append, List.length_singleton]; omega), ?_⟩
        have t6 : Tups G6 (upd G6 D1 (.lst (ts' ++ [V.ref z3] ++ [V.ref w3]))) := Tups.upd ht6
        have t46 := (Tups.of k13).trans t6
        have t36 := t34.trans t46
        refine ⟨_, _, _, fs ++ [.ref pa], ts' ++ [V.ref z3] ++ [V.ref w3], ss ++ [pth], us' ++ [(pth ++ [0], l)] ++ [(pth ++ [1], r)], rfl, same_upd (sm4.trans k13) fD1, upd_same, ?_, hS3.imp fun _ _ h => PlacesAt.tups t36 h, ?_, ?_, ?_, .inr hl3, fun u hu => ?_⟩
        · rw [upd_ne n12.symm]
          exact k13 _ _ hf4
        · refine Al.append (ys := [V.ref w3]) (bs := [(pth ++ [1], r)]) (Al.append (ys := [V.ref z3]) (bs := [(pth ++ [0], l)]) (hT3.imp fun _ _ h => h.tups t36) ⟨⟨z3, z2, y, rfl, (t4.trans t46) _ _ d2, PlacesAt.tups (t4.trans t46) d1, h2.tups t36⟩, trivial⟩) ⟨⟨w3, w2, z, rfl, t6 _ _ c2, PlacesAt.tups t6 c1, h3.tups t36⟩, trivial⟩
        · rw [hr', opP_snoc, opP_snoc]
          show ss ++ ((pth ++ []) :: ((rl r).map (1 :: ·) ++ (rl l).map (0 :: ·)).map (pth ++ ·) ++ opP us') = _
          rw [List.append_nil, List.map_append, List.map_map, List.map_map]
          have f1 : ((fun x => pth ++ x) ∘ fun x => 1 :: x) = fun x : List Nat => pth ++ [1] ++ x := by funext x; simp
          have f2 : ((fun x => pth ++ x) ∘ fun x => 0 :: x) = fun x : List Nat => pth ++ [0] ++ x := by funext x; simp
          rw [f1, f2]
          simp
        · rw [ndP_snoc, ndP_snoc, hl3]
          have : (Tm.join j l r).nodes = l.nodes + r.nodes + 1 := rfl
          simp at hle ⊢
          omega
        · rcases List.mem_append.mp hu with hu | hu
          · rcases List.mem_append.mp hu with hu | hu
            · exact hpl' u hu
            · rw [List.mem_singleton.mp hu]
              show (pth ++ [0]).length ≤ i + 1
              rw [List.length_append]
              show pth.length + 1 ≤ i + 1
              omega
          · rw [List.mem_singleton.mp hu]
            show (pth ++ [1]).length ≤ i + 1
            rw [List.length_append]
            show pth.length + 1 ≤ i + 1
            omega
    · rintro σ H1 ⟨y3, y4, y5, fs, ts, ss, us, rfl, sm, ht1, hf, hS, hT, hr', hle, hc, _⟩
      have eu : us = [] := by
        rcases hc with h | h
        · exact h
        · cases us with
          | nil => rfl
          | cons u us =>
            have h1 := nodes_pos u.2
            have h2 : ndP (u :: us) = u.2.nodes + ndP us := rfl
            omega
      subst eu
      have ess : rl t = ss := by rw [hr']; exact List.append_nil _
      refine ⟨_, rfl, ?_⟩
      obtain ⟨ta, exs, hkt, hso⟩ := srt_rows hS
      refine ⟨D2, ta, kOf H1, rfl, by rw [← exs]; exact SqL.of hf, hkt, fun ts' q hts hs hq => ?_⟩
      obtain ⟨ar, hA, par, asc⟩ := hso ts' hts hs
      have ear : ar = rp t := lex_eq (par.trans (by rw [← ess]; exact rl_perm t)) asc (rp_asc t)
      subst ear
      have e5 := same_new (o := .lst (ts'.map V.ref)) hq
      exact k _ q _ (sm.trans e5) (sm.free hq) upd_same (hA.imp fun _ _ h => PlacesAt.tups (Tups.of e5) h)
abbrev nPA0 : List Str := ["_law_term_here", "_law_path", "_law_part_here", "_law_side"]
theorem scPA0 : FnScope nPA0 ["_law_term_here", "_law_path"] (defScope sLPart) := ⟨rfl, rfl, rfl, by decide +kernel, rfl, by decide +kernel, by decide +kernel⟩
theorem ok_l_part {f : Addr} {fd : FuncData} (F : Fun K "_law_part" "_law_part" sLPart f fd) (T : Bare mg) : FnOk P w K mg base CX0 1 f fd ["_law_term_here", "_law_path"] spLPart := by
  refine F.ok scPA0 (fun vs H Q E h => ?_) (fun cdv A outer s H vs Q E hr h => ?_)
  · obtain ⟨v, w, t, p, rfl, _⟩ := h
    rfl
  · obtain ⟨v, w, t, p, rfl, ht, ⟨q, rfl, hq⟩, hp, k⟩ := h
    refine ⟨_, (pss_cons (ps_set (i := 2) scPA0.nd rfl (Or.inl rfl) (pv 0))
      (pss_cons (ps_for PassesOwn.never rfl (pi_tup (pv 1)) (pg_name (i := 3) scPA0.nd rfl (Or.inl rfl))
          (pss_one (ps_set (i := 2) scPA0.nd rfl (Or.inl rfl) (pe_ix ix_tup (pv 2) (pe_op op_add pe_int (pv 3)) (fun _ _ => rfl)))))
      (pss_one (ps_ret (pv 2))))), ?_⟩
    refine ⟨_, rfl, _, rfl, q, rfl, ⟨_, SqT.of hq⟩, ?_⟩
    refine for_tup (K := K) (a := q) (xs := p.map vInt) (fun i σ H' => ∃ (y : V) (y3 : Option V) (u : Tm), σ = [some v, some (.ref q), some y, y3] ∧ H' = H ∧ TmAt H y u ∧ p.drop i ∈ rp u ∧ subT u (p.drop i) = subT t p) ⟨v, none, t, rfl, rfl, ht, hp, rfl⟩ ?_ ?_ ?_
    · rintro i σ H' hi ⟨y, y3, u, rfl, rfl, _⟩
      exact SqT.of hq
    · rintro i x σ H' hx ⟨y, y3, u, rfl, rfl, hu, hpu, hsu⟩
      obtain ⟨hi, rfl⟩ := item hx
      rw [List.drop_eq_getElem_cons hi] at hpu hsu
      cases u with
      | hole => cases List.mem_singleton.mp hpu
      | leaf a bs => cases List.mem_singleton.mp hpu
      | join j l r =>
        obtain ⟨p0, y0, z0, rfl, h1, h2, h3⟩ := id hu
        have hc : (p[i] = 0 ∧ p.drop (i + 1) ∈ rp l) ∨ (p[i] = 1 ∧ p.drop (i + 1) ∈ rp r) := by
          rcases List.mem_cons.mp hpu with h | h
          · cases h
          · rcases List.mem_append.mp h with h | h
            · obtain ⟨x, hx, e⟩ := List.mem_map.mp h
              injection e with e1 e2
              rw [← e2]
              exact .inl ⟨e1.symm, hx⟩
            · obtain ⟨x, hx, e⟩ := List.mem_map.mp h
              injection e with e1 e2
              rw [← e2]
              exact .inr ⟨e1.symm, hx⟩
        rcases hc with ⟨e, hm⟩ | ⟨e, hm⟩
        · refine ⟨_, rfl, _, rfl, _, _, rfl, rfl, p0, _, _, y0, rfl, rfl, SqT.of h1, ?_, ?_⟩
          · show atI _ ((1 : Int) + (p[i] : Nat)) = _
            rw [e]
            exact atI_nat (j := 1) rfl
          refine ⟨_, _, l, rfl, rfl, h2, hm, ?_⟩
          rw [← hsu, e]
          rfl
        · refine ⟨_, rfl, _, rfl, _, _, rfl, rfl, p0, _, _, z0, rfl, rfl, SqT.of h1, ?_, ?_⟩
          · show atI _ ((1 : Int) + (p[i] : Nat)) = _
            rw [e]
            exact atI_nat (j := 2) rfl
          refine ⟨_, _, r, rfl, rfl, h3, hm, ?_⟩
          rw [← hsu, e]
          rfl
    rintro σ H' ⟨y, y3, u, rfl, rfl, hu, hpu, hsu⟩
    rw [List.length_map, List.drop_length] at hsu
    refine ⟨_, rfl, k y ?_⟩
    rw [← hsu]
    cases u <;> exact hu
end
end Fam

/-! A part replaced; a term refused. -/
namespace Fam
open PySem L2 S5 ItX OwnX
open C8 (pss_cut tCut)
def childT : Td → Nat → Td
  | .node _ l r, s => if s = 0 then l else r
  | t, _ => t
def subTd (T : Td) (p : List Nat) : Td := p.foldl childT T
def okT : Td → List Nat → Prop
  | _, [] => True
  | .node _ l r, s :: p => (s = 0 ∧ okT l p) ∨ (s = 1 ∧ okT r p)
  | .other _, _ :: _ => False
def replT : Td → List Nat → Td → Td
  | _, [], U => U
  | .node j l r, s :: p, U => if s = 0 then .node j (replT l p U) r else .node j l (replT r p U)
  | t, _ :: _, _ => t
theorem subTd_succ (T : Td) {p : List Nat} {i : Nat} (h : i < p.length) : subTd T (p.take (i + 1)) = childT (subTd T (p.take i)) p[i] := by
  unfold subTd
  rw [take_more h, List.foldl_append]
  rfl
theorem ok_at {T : Td} {p : List Nat} (h : okT T p) : ∀ i, i ≤ p.length → okT (subTd T (p.take i)) (p.drop i)
  | 0, _ => h
  | i + 1, hi => by
    have hlt : i < p.length := hi
    have ih := ok_at h i (by omega)
    rw [List.drop_eq_getElem_cons hlt] at ih
    rw [subTd_succ T hlt]
    cases e : subTd T (p.take i) with
    | other d => rw [e] at ih; exact ih.elim
    | node j l r =>
      rw [e] at ih
      rcases ih with ⟨e0, h0⟩ | ⟨e1, h1⟩
      · rw [e0]; exact h0
      · rw [e1]; exact h1
theorem node_at {T : Td} {p : List Nat} (h : okT T p) {i : Nat} (hi : i < p.length) : ∃ j l r, subTd T (p.take i) = .node j l r ∧ (p[i] = 0 ∨ p[i] = 1) := by
  have ih := ok_at h i (Nat.le_of_lt hi)
  rw [List.drop_eq_getElem_cons hi] at ih
  cases e : subTd T (p.take i) with
  | other d => rw [e] at ih; exact ih.elim
  | node j l r =>
    rw [e] at ih
    rcases ih with ⟨e0, h0⟩ | ⟨e1, h1⟩
    · exact ⟨j, l, r, rfl, .inl e0⟩
    · exact ⟨j, l, r, rfl, .inr e1⟩
theorem ok_rp : ∀ {t : Tm} {p : List Nat}, p ∈ rp t → okT (toTd t) p
  | .hole, p, h => by rw [List.mem_singleton.mp h]; trivial
  | .leaf _ _, p, h => by rw [List.mem_singleton.mp h]; trivial
  | .join j l r, p, h => by
    rcases List.mem_cons.mp h with h | h
    · rw [h]; trivial
    · rcases List.mem_append.mp h with h | h
      · obtain ⟨x, hx, rfl⟩ := List.mem_map.mp h
        exact .inl ⟨rfl, ok_rp hx⟩
      · obtain ⟨x, hx, rfl⟩ := List.mem_map.mp h
        exact .inr ⟨rfl, ok_rp hx⟩
/-- the heap without a -/
def rmv (a : Addr) (H : Hp) : Hp := fun b => if b = a then none else H b
theorem rmv_of {a z : Addr} {H : Hp} {o : HO} (h : rmv a H z = some o) : H z = some o := by
  unfold rmv at h
  by_cases e : z = a
  · rw [if_pos e] at h; cases h
  · rwa [if_neg e] at h
theorem rmv_at {a z : Addr} {H : Hp} {o : HO} (n : z ≠ a) (h : H z = some o) : rmv a H z = some o := by
  unfold rmv
  rw [if_neg n]
  exact h
theorem rmv_same {a : Addr} {H : Hp} : Same (rmv a H) H := fun b o h => rmv_of h
theorem rmv_kp {a : Addr} {H H' : Hp} (k : Kp a H H') : Same (rmv a H) (rmv a H') := fun b o h => by
  have n : b ≠ a := fun e => by
    unfold rmv at h
    rw [if_pos e] at h
    cases h
  exact rmv_at n (k b o n (rmv_of h))
theorem rmv_sm {a : Addr} {H H' : Hp} (s : Same H H') : Same (rmv a H) (rmv a H') := rmv_kp (kp_same s)
theorem rmv_tups {a : Addr} {H : Hp} {ys : List V} (h : H a = some (.lst ys)) : Tups H (rmv a H) := fun p xs hp => rmv_at (ne_of hp h (by intro z; cases z)) hp
def spLReplaced (K : PySem.W.Frag) : Sp := fun vs H Q _ => ∃ (v w x : V) (T U : Td) (p : List Nat) (a : Addr) (as : List V), vs = [v, w, x] ∧ H a = some (.lst as) ∧ TdAt K (rmv a H) v T ∧ PlacesAt H w p ∧ TdAt K (rmv a H) x U ∧ okT T p ∧ p.length ≤ 100 ∧ ∀ (H' : Hp) (y : V), Same H H' → TdAt K (rmv a H') y (replT T p U) → Q y H'
def spTermRefused (K : PySem.W.Frag) (C : Addr) : Sp := fun vs H Q _ => ∃ (x : Addr) (v : V) (b : Bn) (t : Td) (m : Nat) (hole : Bool) (p : List Nat), vs = [.ref x, v, vInt m, .bl hole] ∧ BAt C H x b ∧ TdAt K H v t ∧ t.nodes ≤ 1000 ∧ m ≤ 100 ∧ checkT b m hole t = some p ∧ ∀ (H' : Hp) (y : V), Same H H' → PlacesAt H' y p → Q y H'
section
variable {P : Program} {w : World} {K : PySem.W.Frag} {mg : Str → Option Value} {base : Heap} {C : Addr}
abbrev nRP : List Str := ["_law_term_here", "_law_path", "_law_bad", "_law_above", "_law_part_here", "_law_side", "_law_k", "_law_whole"]
theorem scRP : FnScope nRP ["_law_term_here", "_law_path", "_law_bad"] (defScope sLReplaced) := ⟨rfl, rfl, rfl, by decide +kernel, rfl, by decide +kernel, by decide +kernel⟩
theorem ok_l_replaced {f : Addr} {fd : FuncData} (F : Fun K "_law_replaced" "_law_replaced" sLReplaced f fd) (T : Bare mg) : FnOk P w K mg base CX0 1 f fd ["_law_term_here", "_law_path", "_law_bad"] (spLReplaced K) := by
  refine F.ok scRP (fun vs H Q E h => ?_) (fun cdv A outer s H vs Q E hr h => ?_)
  · obtain ⟨v, w, x, T, U, p, a, as, rfl, _⟩ := h
    rfl
  · obtain ⟨v, w, x, T0, U, p, a, as, rfl, ha, ht, ⟨q, rfl, hq⟩, hx, hok, hpl, k⟩ := h
    refine ⟨_, (pss_cons (ps_set (i := 3) scRP.nd rfl (Or.inl rfl) (pe_lst pa_nil))
      (pss_cons (ps_set (i := 4) scRP.nd rfl (Or.inl rfl) (pv 0))
      (pss_cons (ps_for PassesOwn.never rfl (pi_tup (pv 1)) (pg_name (i := 5) scRP.nd rfl (Or.inl rfl))
          (pss_cons (ps_expr (pe_bm PySem.F.plainAttrs_list PySem.F.slot_list_append PySem.F.type_list_append mt_append (pv 3) (pa_cons (pv 4) pa_nil)))
          (pss_one (ps_set (i := 4) scRP.nd rfl (Or.inl rfl) (pe_ix ix_tup (pv 4) (pe_op op_add pe_int (pv 5)) (fun _ _ => rfl))))))
      (pss_cons (ps_for PassesOwn.never rfl (pi_range1 rfl T.range (pa_cons (pe_callB call_len_seq (by rfl) T.len PySem.boot_len (pa_cons (pv 1) pa_nil)) pa_nil)) (pg_name (i := 6) scRP.nd rfl (Or.inl rfl))
          (pss_cons (ps_set (i := 7) scRP.nd rfl (Or.inl rfl) (pe_ix ix_list (pv 3) (pe_op op_sub (pe_op op_sub (pe_callB call_len_seq (by rfl) T.len PySem.boot_len (pa_cons (pv 1) pa_nil)) pe_int) (pv 6)) (fun _ _ => rfl)))
          (pss_one (ps_if (pt_cmpR op_eq (pe_ix ix_tup (pv 1) (pe_op op_sub (pe_op op_sub (pe_callB call_len_seq (by rfl) T.len PySem.boot_len (pa_cons (pv 1) pa_nil)) pe_int) (pv 6)) (fun _ _ => rfl)) pe_int (nomark _)) (pss_one (ps_set (i := 2) scRP.nd rfl (Or.inl rfl) (pe_tup (pa_cons (pe_ix ix_tup (pv 7) pe_int (fun _ _ => rfl)) (pa_cons (pv 2) (pa_cons (pe_ix ix_tup (pv 7) pe_int (fun _ _ => rfl)) pa_nil)))))) (pss_one (ps_set (i := 2) scRP.nd rfl (Or.inl rfl) (pe_tup (pa_cons (pe_ix ix_tup (pv 7) pe_int (fun _ _ => rfl)) (pa_cons (pe_ix ix_tup (pv 7) pe_int (fun _ _ => rfl)) (pa_cons (pv 2) pa_nil))))))))))
      (pss_one (ps_ret (pv 2))))))), ?_⟩
    refine ⟨small (m := 1) (Nat.zero_le _), fun A hA => ⟨_, rfl, _, rfl, q, rfl, ⟨_, SqT.of ((same_new hA) _ _ hq)⟩, ?_⟩⟩
    have s1 := same_new (o := .lst []) hA
    refine for_tup (K := K) (a := q) (xs := p.map vInt) (fun i σ H' => ∃ (y : V) (y5 : Option V) (ys : List V), σ = [some v, some (.ref q), some x, some (.ref A), some y, y5, none, none] ∧ Same H H' ∧ H' A = some (.lst ys) ∧ TdAt K (rmv a H) y (subTd T0 (p.take i)) ∧ Al (TdAt K (rmv a H)) ys ((List.range i).map fun k => subTd T0 (p.take k))) ⟨v, none, [], rfl, s1, upd_same, ht, trivial⟩ ?_ ?_ ?_
    · rintro i σ H' hi ⟨y, y5, ys, rfl, sm, _⟩
      exact SqT.of (sm _ _ hq)
    · rintro i z σ H1 hz ⟨y, y5, ys, rfl, sm, hy, hty, hA1⟩
      obtain ⟨hi, rfl⟩ := item hz
      have lys := hA1.len
      rw [List.length_map, List.length_range] at lys
      obtain ⟨j, l, r, e, hs⟩ := node_at hok hi
      have hty' := hty
      rw [e] at hty'
      obtain ⟨p0, a0, x0, y0, rfl, h1, h2, h3, h4⟩ := id hty'
      refine ⟨_, rfl, .inl ⟨rfl, _, SqL.of hy⟩, _, rfl, A, _, _, rfl, rfl, hy, below (m := 300) (by omega), ?_⟩
      have sm2 : Same H (upd H1 A (.lst (ys ++ [.ref p0]))) := same_upd sm hA
      have hA2 : Al (TdAt K (rmv a H)) (ys ++ [.ref p0]) ((List.range (i + 1)).map fun k => subTd T0 (p.take k)) := by
        rw [List.range_succ, List.map_append]
        exact hA1.append ⟨hty, trivial⟩
      rcases hs with es | es
      · refine ⟨_, rfl, _, rfl, _, _, rfl, rfl, p0, _, _, x0, rfl, rfl, SqT.of (sm2 _ _ (rmv_of h1)), ?_, ?_⟩
        · show atI _ ((1 : Int) + (p[i] : Nat)) = _
          rw [es]
          exact atI_nat (j := 1) rfl
        refine ⟨x0, _, _, rfl, sm2, upd_same, ?_, hA2⟩
        rw [subTd_succ T0 hi, e, es]
        exact h3
      · refine ⟨_, rfl, _, rfl, _, _, rfl, rfl, p0, _, _, y0, rfl, rfl, SqT.of (sm2 _ _ (rmv_of h1)), ?_, ?_⟩
        · show atI _ ((1 : Int) + (p[i] : Nat)) = _
          rw [es]
          exact atI_nat (j := 2) rfl
        refine ⟨y0, _, _, rfl, sm2, upd_same, ?_, hA2⟩
        rw [subTd_succ T0 hi, e, es]
        exact h4
    rintro σ H1 ⟨y, y5, ys, rfl, sm, hy, hty, hA1⟩
    rw [List.length_map] at hA1
    refine ⟨_, rfl, q, _, rfl, .inr (SqT.of (sm _ _ hq)), ?_⟩
    rw [List.length_map]
    refine ⟨_, rfl, by omega, by omega, ?_⟩
    rw [Int.toNat_natCast]
    refine for_range (lo := 0) (n := p.length) (fun k σ H' => ∃ (z : V) (y6 y7 : Option V), σ = [some v, some (.ref q), some z, some (.ref A), some y, y5, y6, y7] ∧ Same H1 H' ∧ TdAt K (rmv a H') z (replT (subTd T0 (p.take (p.length - k))) (p.drop (p.length - k)) U)) ⟨x, none, none, rfl, fun _ _ h => h, by
      rw [Nat.sub_zero, List.drop_length]
      have : ∀ t : Td, replT t [] U = U := fun t => by cases t <;> rfl
      rw [this]
      exact hx.same (rmv_sm sm)⟩ ?_ ?_
    · rintro k2 σ H2 hk ⟨z, y6, y7, rfl, s2, hz⟩
      obtain ⟨i, ei⟩ : ∃ i, i = p.length - 1 - k2 := ⟨_, rfl⟩
      have hi : i < p.length := by omega
      have ek : p.length - k2 = i + 1 := by omega
      have ek2 : p.length - (k2 + 1) = i := by omega
      have eix : ((p.length : Int) - 1 - (0 + ((k2 : Nat) : Int))) = ((i : Nat) : Int) := by omega
      rw [ek] at hz
      obtain ⟨j, l, r, e, hs⟩ := node_at hok hi
      obtain ⟨xw, hxw, htw⟩ := hA1.get2 (i := i) (a := subTd T0 (p.take i)) (by rw [List.getElem?_map, List.getElem?_range hi]; rfl)
      rw [e] at htw
      obtain ⟨p0, a0, x0, y0, rfl, h1, h2, h3, h4⟩ := htw
      have smt := sm.trans s2
      have hatp : atI (p.map vInt) ((i : Nat) : Int) = some (vInt p[i]) := atI_nat (j := i) (by rw [List.getElem?_map, List.getElem?_eq_getElem hi]; rfl)
      refine ⟨_, rfl, _, rfl, q, _, rfl, .inr (SqT.of (smt _ _ hq)), _, _, rfl, rfl, _, rfl, _, _, rfl, rfl, A, _, _, .ref p0, rfl, rfl, SqL.of (s2 _ _ hy), ?_, ?_⟩
      · rw [List.length_map]
        show atI ys ((p.length : Int) - 1 - (0 + ((k2 : Nat) : Int))) = _
        rw [eix]
        exact atI_nat hxw
      refine ⟨_, rfl, _, rfl, q, _, rfl, .inr (SqT.of (smt _ _ hq)), _, _, rfl, rfl, _, rfl, _, _, rfl, rfl, q, _, _, vInt p[i], rfl, rfl, SqT.of (smt _ _ hq), ?_, rfl, _, rfl, ?_⟩
      · rw [List.length_map]
        show atI _ ((p.length : Int) - 1 - (0 + ((k2 : Nat) : Int))) = _
        rw [eix]
        exact hatp
      have h1' := smt _ _ (rmv_of h1)
      rw [subTd_succ T0 hi, e] at hz
      have ed : p.drop i = p[i] :: p.drop (i + 1) := List.drop_eq_getElem_cons hi
      rcases hs with es | es
      · rw [es]
        refine iteT ⟨_, rfl, p0, _, _, a0, rfl, rfl, SqT.of h1', atI_nat (j := 0) rfl, _, rfl, _, rfl, p0, _, _, y0, rfl, rfl, SqT.of h1', atI_nat (j := 2) rfl, small (m := 3) (Nat.le_refl _), fun u hu => ?_⟩
        have e3 := same_new (o := .tup [a0, z, y0]) hu
        rw [es] at hz
        refine ⟨_, _, _, rfl, s2.trans e3, ?_⟩
        rw [ek2, e, ed, es]
        exact ⟨u, a0, z, y0, rfl, rmv_tups ((smt.trans e3) _ _ ha) _ _ upd_same, dp_same (rmv_sm (smt.trans e3)) h2, hz.same (rmv_sm e3), h4.same (rmv_sm (smt.trans e3))⟩
      · rw [es]
        refine iteF ⟨_, rfl, p0, _, _, a0, rfl, rfl, SqT.of h1', atI_nat (j := 0) rfl, _, rfl, p0, _, _, x0, rfl, rfl, SqT.of h1', atI_nat (j := 1) rfl, _, rfl, small (m := 3) (Nat.le_refl _), fun u hu => ?_⟩
        have e3 := same_new (o := .tup [a0, x0, z]) hu
        rw [es] at hz
        refine ⟨_, _, _, rfl, s2.trans e3, ?_⟩
        rw [ek2, e, ed, es]
        exact ⟨u, a0, x0, z, rfl, rmv_tups ((smt.trans e3) _ _ ha) _ _ upd_same, dp_same (rmv_sm (smt.trans e3)) h2, h3.same (rmv_sm (smt.trans e3)), hz.same (rmv_sm e3)⟩
    rintro σ H2 ⟨z, y6, y7, rfl, s2, hz⟩
    rw [Nat.sub_self, List.drop_zero] at hz
    exact ⟨_, rfl, k H2 z (sm.trans s2) hz⟩
abbrev nTR9 : List Str := ["_law_bench", "_law_term_here", "_law_many", "_law_open_end", "_law_told", "refused"]
theorem scTR9 : FnScope nTR9 ["_law_bench", "_law_term_here", "_law_many", "_law_open_end"] (defScope sLTermRefused) := ⟨rfl, rfl, rfl, by decide +kernel, rfl, by decide +kernel, by decide +kernel⟩
theorem ok_term_refused {B f : Addr} {fd : FuncData} (F : Fun K "_law_term_refused" "_law_term_refused" sLTermRefused f fd) (N : TermFacts K mg B) (GC : CalK P w K mg base 4 "check_term" ["bench", "term", "many", "hole"] 3 ["hole"] (spCheckTerm K C B)) : FnOk P w K mg base CX0 5 f fd ["_law_bench", "_law_term_here", "_law_many", "_law_open_end"] (spTermRefused K C) := by
  obtain ⟨_, _, ok_ct, kb_ct, k_ct, m_ct⟩ := GC.ex
  refine F.ok scTR9 (fun vs H Q E h => ?_) (fun cdv A outer s H vs Q E hr h => ?_)
  · obtain ⟨x, v, b, t, m, hole, p, rfl, _⟩ := h
    rfl
  · obtain ⟨x, v, b, t, m, hole, p, rfl, hB, ht, hn, hm, hc, k⟩ := h
    refine ⟨_, pss_cons (ps_set (i := 4) scTR9.nd rfl (Or.inl rfl) pe_str)
      (pss_cons (ps_try_first (i := 5) rfl rfl scTR9.nd rfl rfl ⟨rfl, by decide +kernel, .inl N.gB⟩
          (fun W pn xe tk _ => pss_one (ps_expr (pe_callNS ok_ct hr rfl m_ct k_ct kb_ct (fun σ => passAt tk σ) (pa_cons (pv 0) (pa_cons (pv 1) (pa_cons (pv 2) pa_nil))) (pk_cons (pv 3) pk_nil))))
          (fun a oe cls d pn hz hf => pss_one (ps_set (i := 4) scTR9.nd rfl (Or.inl rfl) (by exact pe_xf N.xf N.no hz hf (pv 5)))))
      (pss_one (ps_ret (pv 4)))), ?_⟩
    refine ⟨_, rfl, _, rfl, _, rfl, _, rfl, rfl, rfl, x, v, b, t, m, hole, rfl, hB, ht, hn, hm, (fun e => by rw [hc] at e; cases e), fun p' e dd H' w s hdd hd' hw => ⟨N.te, fun a ha => ?_⟩⟩
    rw [hc] at e
    cases e
    exact ⟨_, rfl, rfl, rfl, dd, _, _, rfl, hd', rfl, _, rfl, k H' w s hw⟩
end
end Fam

/-! Parts that are wrong. -/
namespace Fam
open PySem L2 S5 ItX OwnX
open C8 (pss_cut tCut)
def BadU (b : Bn) (m : Nat) : Td → Prop
  | .node j _ _ => joinD b j = false
  | .other d => leafD b m d = false ∧ isNone (.other d) = false
theorem bad_first {b : Bn} {m : Nat} {hole : Bool} {U : Td} {p : List Nat} (h : BadU b m U) : firstBad b m hole U p = some p := by
  cases U with
  | node j l r =>
    show (if joinD b j then _ else some p) = some p
    rw [show joinD b j = false from h]
    rfl
  | other d =>
    show (if hole && isNone (.other d) then none else if leafD b m d then none else some p) = some p
    rw [h.1, h.2, Bool.and_false]
    rfl
/-- (c,) + t[1:] -/
theorem rest_cat {K : PySem.W.Frag} {H : Hp} {q z : Addr} {c : V} {xs : List V} {Q : VK} (hq : H q = some (.tup xs)) (hz : H z = some (.tup [c])) (hl : xs.length ≤ 2000)
    (k : ∀ (p : Addr) (H' : Hp), Same H H' → H' p = some (.tup (c :: xs.drop 1)) → Q (.ref p) H') : rSlA K (.ref q) (some (1 : Int)) none H fun y H1 => rCatA K (.ref z) y H1 Q := by
  have go : ∀ (y : Addr) (H1 : Hp), Same H H1 → H1 y = some (.tup (xs.drop 1)) → rCatA K (.ref z) (.ref y) H1 Q := fun y H1 s hy => by
    refine ⟨z, y, [c], xs.drop 1, rfl, rfl, SqT.of (s _ _ hz), SqT.of hy, small (m := 3000) (by rw [List.length_drop]; show 1 + _ ≤ 3000; omega), fun e => (by cases e), fun _ e => ?_, fun _ _ p hp => ?_⟩
    · refine k z H1 s ?_
      rw [e]
      exact s _ _ hz
    · exact k p _ (s.trans (same_new hp)) upd_same
  refine ⟨q, xs, rfl, SqT.of hq, fun ⟨h1, _⟩ => ?_, fun h p hp => ?_⟩
  · have e : xs = [] := by
      have h2 : HT.sIx xs.length 0 (some ((1 : Nat) : Int)) = 0 := h1
      rw [HT.sIx_nat] at h2
      exact List.length_eq_zero_iff.mp (by omega)
    subst e
    exact go q H (Same.refl _) hq
  · have h3 : 1 ≤ xs.length := by
      rcases Nat.eq_zero_or_pos xs.length with e | e
      · have := List.length_eq_zero_iff.mp e
        subst this
        exact absurd ⟨rfl, rfl⟩ h
      · exact e
    have e : cutV xs (some (1 : Int)) none = xs.drop 1 := cut_end xs (a := 1) h3
    rw [e]
    exact go p _ (same_new hp) upd_same
theorem small_pair {x y : PyData} (h : ∀ bs, y = .tuple bs → bs.length ≤ 100) : smallD (.tuple [x, y]) := fun a bs e => by
  have e1 := PyData.tuple.inj e
  injection e1 with _ e1
  injection e1 with e1 _
  exact h bs e1
theorem small_len {ds : List PyData} (h : ds.length ≠ 2) : smallD (.tuple ds) := fun a bs e => by
  have := PyData.tuple.inj e
  rw [this] at h
  exact absurd rfl h
theorem leafD_pair {b : Bn} {m : Nat} {x y : PyData} (h : labD b x = false ∨ bitsD m y = false) : leafD b m (.tuple [x, y]) = false := by
  show (labD b x && bitsD m y) = false
  rcases h with h | h
  · rw [h]; rfl
  · rw [h]; exact Bool.and_false _
theorem bits_len {m : Nat} {bs : List PyData} (h : bs.length ≠ m) : bitsD m (.tuple bs) = false := by
  show (decide (bs.length = m) && _) = false
  rw [decide_eq_false h]
  rfl
theorem bits_head {m : Nat} {x : PyData} {bs : List PyData} (h : betD x 0 1 = false) : bitsD m (.tuple (x :: bs)) = false := by
  show (decide _ && (betD x 0 1 && _)) = false
  rw [h]
  exact Bool.and_false _
theorem sm_ns {l : List Nat} (h : l.length ≤ 100) : ∀ bs, dNs l = .tuple bs → bs.length ≤ 100 := fun bs e => by
  have := PyData.tuple.inj e
  rw [← this, List.length_map]
  exact h
def bads1 (s0 : Nat) (bs : List Nat) : List Td := [.other (.tuple []), .other (.str "ab"), .other (.tuple [.int 9, dNs bs]), .other (.tuple [.int (s0 : Int), dNs (bs ++ [0])]), .other (.tuple [.int (s0 : Int), dLs bs]), .other (.tuple [.int (s0 : Int), dNs (2 :: bs.drop 1)]), .other (.tuple [.bool false, dNs bs])]
def lfTd (s0 : Nat) (bs : List Nat) : PyData := .tuple [.int (s0 : Int), dNs bs]
def bads2 (b : Bn) (s0 : Nat) (bs : List Nat) : List Td := [.node (.int (b.joins.length : Int)) (.other (lfTd s0 bs)) (.other (lfTd s0 bs)), .node (.bool true) (.other (lfTd s0 bs)) (.other (lfTd s0 bs)), .node (.int (-1)) (.other (lfTd s0 bs)) (.other (lfTd s0 bs)), .other (.list [.int 0, lfTd s0 bs, lfTd s0 bs]), .other (.tuple [.int 0, lfTd s0 bs, lfTd s0 bs, lfTd s0 bs]), .other (.tuple [.int 0, lfTd s0 bs]), .other (.tuple [.int (s0 : Int), .tuple (.bool true :: (bs.drop 1).map fun (n : Nat) => PyData.int (n : Int))])]
theorem bads1_bad {b : Bn} {m s0 n : Nat} {bs : List Nat} {U : Td} (hb : BnOk b) (l : bs.length = m) (h : (bads1 s0 bs)[n]? = some U) : BadU b m U ∧ U.nodes ≤ 3 := by
  have l3 := hb.l3
  match n, h with
  | 0, h => cases h; exact ⟨⟨rfl, rfl⟩, by show 1 ≤ 3; decide⟩
  | 1, h => cases h; exact ⟨⟨rfl, rfl⟩, by show 1 ≤ 3; decide⟩
  | 2, h =>
    cases h
    refine ⟨⟨leafD_pair (.inl ?_), rfl⟩, by show 1 ≤ 3; decide⟩
    show (decide ((0 : Int) ≤ 9 ∧ (9 : Int) < b.labels) && _) = false
    rw [decide_eq_false (by omega)]
    rfl
  | 3, h =>
    cases h
    refine ⟨⟨leafD_pair (.inr (bits_len ?_)), rfl⟩, by show 1 ≤ 3; decide⟩
    rw [List.length_map, List.length_append]
    show bs.length + 1 ≠ m
    omega
  | 4, h => cases h; exact ⟨⟨leafD_pair (.inr rfl), rfl⟩, by show 1 ≤ 3; decide⟩
  | 5, h => cases h; exact ⟨⟨leafD_pair (.inr (bits_head (by decide))), rfl⟩, by show 1 ≤ 3; decide⟩
  | 6, h => cases h; exact ⟨⟨leafD_pair (.inl rfl), rfl⟩, by show 1 ≤ 3; decide⟩
  | n + 7, h => cases h
theorem bads2_bad {b : Bn} {m s0 n : Nat} {bs : List Nat} {U : Td} (hb : BnOk b) (l : bs.length = m) (h : (bads2 b s0 bs)[n]? = some U) : BadU b m U ∧ U.nodes ≤ 3 := by
  match n, h with
  | 0, h => cases h; exact ⟨decide_eq_false (by omega), by show 3 ≤ 3; decide⟩
  | 1, h => cases h; exact ⟨rfl, by show 3 ≤ 3; decide⟩
  | 2, h =>
    cases h
    refine ⟨?_, by show 3 ≤ 3; decide⟩
    show decide ((0 : Int) ≤ -1 ∧ (-1 : Int) ≤ (b.joins.length : Int) - 1) = false
    exact decide_eq_false (by omega)
  | 3, h => cases h; exact ⟨⟨rfl, rfl⟩, by show 1 ≤ 3; decide⟩
  | 4, h => cases h; exact ⟨⟨rfl, rfl⟩, by show 1 ≤ 3; decide⟩
  | 5, h =>
    cases h
    refine ⟨⟨leafD_pair (.inr ?_), rfl⟩, by show 1 ≤ 3; decide⟩
    show (decide _ && (betD (.int (s0 : Int)) 0 1 && (betD (dNs bs) 0 1 && true))) = false
    rw [show betD (dNs bs) 0 1 = false from rfl, Bool.false_and, Bool.and_false, Bool.and_false]
  | 6, h => cases h; exact ⟨⟨leafD_pair (.inr (bits_head rfl)), rfl⟩, by show 1 ≤ 3; decide⟩
  | n + 7, h => cases h
def spBadPart (K : PySem.W.Frag) : Sp := fun vs H Q _ => ∃ (v : V) (b : Bn) (n m : Nat) (a : Addr) (as : List V), vs = [vInt n, v, vInt m] ∧ H a = some (.lst as) ∧ PartsAt H v b ∧ BnOk b ∧ n < 14 ∧ m ≤ 50 ∧ ∀ (H' : Hp) (y : V) (U : Td), Same H H' → TdAt K (rmv a H') y U → BadU b m U → U.nodes ≤ 3 → Q y H'
section
variable {P : Program} {w : World} {K : PySem.W.Frag} {mg : Str → Option Value} {base : Heap}
abbrev nBP : List Str := ["_law_word", "_law_parts", "_law_many", "_law_start", "_law_bits_here", "_law_leaf_here", "_law_track_here"]
theorem scBP : FnScope nBP ["_law_word", "_law_parts", "_law_many"] (defScope sLBadPart) := ⟨rfl, rfl, rfl, by decide +kernel, rfl, by decide +kernel, by decide +kernel⟩
theorem ok_bad_part {f : Addr} {fd : FuncData} (F : Fun K "_law_bad_part" "_law_bad_part" sLBadPart f fd) (T : Bare mg) : FnOk P w K mg base CX0 1 f fd ["_law_word", "_law_parts", "_law_many"] (spBadPart K) := by
  refine F.ok scBP (fun vs H Q E h => ?_) (fun cdv A outer s H vs Q E hr h => ?_)
  · obtain ⟨v, b, n, m, a, as, rfl, _⟩ := h
    rfl
  · obtain ⟨v, b, n, m, a, as, rfl, ha, hP, hb, hn, hm, k⟩ := h
    obtain ⟨pp, vst, vjs, rfl, hpp, ⟨qs, rfl, hqs⟩, qj, js, rfl, hqj, hJ⟩ := hP
    refine ⟨_, (pss_cons (ps_set (i := 3) scBP.nd rfl (Or.inl rfl) (pe_ix ix_tup (pe_ix ix_list (pv 1) pe_int (fun _ _ => rfl)) pe_int (fun _ _ => rfl)))
      (pss_cons (ps_set (i := 4) scBP.nd rfl (Or.inl rfl) (pe_tupleOf (by rfl) T.tuple (pe_lc (own := [("_law_track_here", 6)]) (g := gName 6) (tt := tYes) rfl scBP.nd (pi_range1 rfl T.range (pa_cons (pv 2) pa_nil)) (blkOk_by (own := [("_law_track_here", 6)]) (N := nBP) (sc := defScope sLBadPart) (by decide +kernel)) (fun _ _ _ _ _ => pg_name (i := 6) scBP.nd rfl (Or.inl rfl)) (fun _ _ _ _ _ => pts_nil) (fun _ _ _ _ _ => pe_int))))
      (pss_cons (ps_set (i := 5) scBP.nd rfl (Or.inl rfl) (pe_tup (pa_cons (pv 3) (pa_cons (pv 4) pa_nil))))
      (pss_cons (ps_if (pt_cmpR op_lt (pv 0) pe_int (nomark _)) (pss_one (ps_ret (pe_ix ix_list (pe_lst (pa_cons (pe_tup pa_nil) (pa_cons pe_str (pa_cons (pe_tup (pa_cons pe_int (pa_cons (pv 4) pa_nil))) (pa_cons (pe_tup (pa_cons (pv 3) (pa_cons (pe_op op_catA (pv 4) (pe_tup (pa_cons pe_int pa_nil))) pa_nil))) (pa_cons (pe_tup (pa_cons (pv 3) (pa_cons (pe_callTy call_list_of (by rfl) T.list (by decide +kernel) (pa_cons (pv 4) pa_nil)) pa_nil))) (pa_cons (pe_tup (pa_cons (pv 3) (pa_cons (pe_op op_catA (pe_tup (pa_cons pe_int pa_nil)) (pe_slice sl_tupA (pv 4) (po_some pe_int) po_none)) pa_nil))) (pa_cons (pe_tup (pa_cons pe_bl (pa_cons (pv 4) pa_nil))) pa_nil)))))))) (pv 0) (fun _ _ => rfl)))) pss_nil)
      (pss_one (ps_ret (pe_ix ix_list (pe_lst (pa_cons (pe_tup (pa_cons (pe_callB call_len_seq (by rfl) T.len PySem.boot_len (pa_cons (pe_ix ix_list (pv 1) pe_int (fun _ _ => rfl)) pa_nil)) (pa_cons (pv 5) (pa_cons (pv 5) pa_nil)))) (pa_cons (pe_tup (pa_cons pe_bl (pa_cons (pv 5) (pa_cons (pv 5) pa_nil)))) (pa_cons (pe_tup (pa_cons (pe_un un_neg pe_int) (pa_cons (pv 5) (pa_cons (pv 5) pa_nil)))) (pa_cons (pe_lst (pa_cons pe_int (pa_cons (pv 5) (pa_cons (pv 5) pa_nil)))) (pa_cons (pe_tup (pa_cons pe_int (pa_cons (pv 5) (pa_cons (pv 5) (pa_cons (pv 5) pa_nil))))) (pa_cons (pe_tup (pa_cons pe_int (pa_cons (pv 5) pa_nil))) (pa_cons (pe_tup (pa_cons (pv 3) (pa_cons (pe_op op_catA (pe_tup (pa_cons pe_bl pa_nil)) (pe_slice sl_tupA (pv 4) (po_some pe_int) po_none)) pa_nil))) pa_nil)))))))) (pe_op op_sub (pv 0) pe_int) (fun _ _ => rfl)))))))), ?_⟩
    have hs0 : 0 < b.starts.length := hb.s1
    obtain ⟨s0, es0⟩ : ∃ s0, s0 = b.starts[0] := ⟨_, rfl⟩
    refine ⟨_, rfl, pp, _, _, .ref qs, rfl, rfl, SqL.of hpp, atI_nat (j := 1) rfl, qs, _, _, vInt s0, rfl, rfl, SqT.of hqs, atI_nat (j := 0) (by rw [List.getElem?_map, List.getElem?_eq_getElem hs0, es0]; rfl), ?_⟩
    refine ⟨_, rfl, _, rfl, by omega, by omega, ?_⟩
    rw [Int.toNat_natCast]
    intro D hD
    refine lc_range (lo := 0) (n := m) (fun i H' => Same H H' ∧ H' D = some (.lst ((List.replicate i 0).map vInt))) ⟨same_new hD, upd_same⟩ ?_ ?_
    · rintro i H1 hi ⟨sm, hd⟩
      refine ⟨rfl, _, hd, below (m := 300) (by rw [List.length_map, List.length_replicate]; omega), same_upd sm hD, ?_⟩
      rw [upd_same, List.replicate_succ', List.map_append]
      rfl
    rintro H1 ⟨s1, hd1⟩
    obtain ⟨bs, ebs⟩ : ∃ bs, bs = List.replicate m 0 := ⟨_, rfl⟩
    have lbs : bs.length = m := by rw [ebs, List.length_replicate]
    rw [← ebs] at hd1
    refine .inl ⟨D, _, rfl, SqL.of hd1, fun q hq => ?_⟩
    have e1 := same_new (o := .tup (bs.map vInt)) hq
    have hq1 := upd_same (H := H1) (a := q) (o := .tup (bs.map vInt))
    obtain ⟨H2, eH2⟩ : ∃ H2, H2 = upd H1 q (.tup (bs.map vInt)) := ⟨_, rfl⟩
    rw [← eH2] at e1 hq1 ⊢
    have s2 := s1.trans e1
    refine ⟨_, rfl, _, rfl, small (m := 2) (Nat.le_refl _), fun lf hlf => ?_⟩
    have e3 := same_new (o := .tup [vInt s0, V.ref q]) hlf
    have hlf3 := upd_same (H := H2) (a := lf) (o := .tup [vInt s0, V.ref q])
    have hq3 := e3 _ _ hq1
    obtain ⟨H3, eH3⟩ : ∃ H3, H3 = upd H2 lf (.tup [vInt s0, V.ref q]) := ⟨_, rfl⟩
    rw [← eH3] at e3 hlf3 hq3 ⊢
    have s3 := s2.trans e3
    have dbs : ∀ {G : Hp}, G q = some (.tup (bs.map vInt)) → Dp K G (.ref q) (dNs bs) := fun h => dp_ns ⟨q, rfl, h⟩
    have dlf : ∀ {G : Hp}, G q = some (.tup (bs.map vInt)) → G lf = some (.tup [vInt s0, V.ref q]) → Dp K G (.ref lf) (.tuple [.int (s0 : Int), dNs bs]) := fun h1 h2 => .tup (SqT.of h2) (.cons (.int _) (.cons (dbs h1) .nil))
    have tlf : ∀ {G : Hp}, G q = some (.tup (bs.map vInt)) → G lf = some (.tup [vInt s0, V.ref q]) → TdAt K G (.ref lf) (.other (.tuple [.int (s0 : Int), dNs bs])) := fun h1 h2 => ⟨dlf h1 h2, trivial, small_pair fun bs' e => by
      have := PyData.tuple.inj e
      rw [← this, List.length_map]
      omega⟩
    refine ⟨_, rfl, _, _, rfl, rfl, _, rfl, ite2 (fun z => ?_) (fun z => ?_)⟩
    · have hn7 : n < 7 := by
        have h1 := of_decide_eq_true z
        omega
      refine ⟨small (m := 1) (Nat.zero_le _), fun z0 hz0 => ?_⟩
      have g0 := same_new (o := .tup []) hz0
      refine ⟨_, rfl, small (m := 2) (Nat.le_refl _), fun z2 hz2 => ?_⟩
      have g2 := same_new (o := .tup [V.int 9, V.ref q]) hz2
      refine ⟨_, rfl, _, rfl, small (m := 1) (Nat.le_refl _), fun z3 hz3 => ?_⟩
      have g3 := same_new (o := .tup [V.int 0]) hz3
      refine cat_one (pa := bs) (s := 0) ((g0.trans (g2.trans g3)) _ _ hq3) upd_same (by omega) fun w4 G4 g4 hw4 => ⟨small (m := 2) (Nat.le_refl _), fun z5 hz5 => ?_⟩
      have g5 := same_new (o := .tup [vInt s0, w4]) hz5
      refine ⟨_, rfl, _, rfl, q, _, rfl, .inr (SqT.of ((g0.trans (g2.trans (g3.trans (g4.trans g5)))) _ _ hq3)), fun z6 hz6 => ⟨small (m := 2) (Nat.le_refl _), fun z7 hz7 => ?_⟩⟩
      have g6 := same_new (o := .lst (bs.map vInt)) hz6
      have g7 := same_new (o := .tup [vInt s0, V.ref z6]) hz7
      refine ⟨_, rfl, small (m := 1) (Nat.le_refl _), fun z8 hz8 => ⟨_, rfl, _, rfl, ?_⟩⟩
      have g8 := same_new (o := .tup [V.int 2]) hz8
      refine rest_cat (c := V.int 2) ((g0.trans (g2.trans (g3.trans (g4.trans (g5.trans (g6.trans (g7.trans g8))))))) _ _ hq3) upd_same (by rw [List.length_map]; omega) fun z9 G9 g9 hz9 => ⟨small (m := 2) (Nat.le_refl _), fun z10 hz10 => ?_⟩
      have g10 := same_new (o := .tup [vInt s0, V.ref z9]) hz10
      refine ⟨_, rfl, small (m := 2) (Nat.le_refl _), fun z11 hz11 => ⟨small (m := 7) (Nat.le_refl _), fun O hO => ?_⟩⟩
      have g11 := same_new (o := .tup [V.bl false, V.ref q]) hz11
      have gO := same_new (o := .lst [V.ref z0, V.str "ab", V.ref z2, V.ref z5, V.ref z7, V.ref z10, V.ref z11]) hO
      have all := (g0.trans (g2.trans (g3.trans (g4.trans (g5.trans (g6.trans (g7.trans (g8.trans (g9.trans (g10.trans (g11.trans gO)))))))))))
      have fO := upd_same (H := upd (upd G9 z10 (.tup [vInt s0, V.ref z9])) z11 (.tup [V.bl false, V.ref q])) (a := O) (o := .lst [V.ref z0, V.str "ab", V.ref z2, V.ref z5, V.ref z7, V.ref z10, V.ref z11])
      have fz0 := (g2.trans (g3.trans (g4.trans (g5.trans (g6.trans (g7.trans (g8.trans (g9.trans (g10.trans (g11.trans gO)))))))))) _ _ upd_same
      have fz2 := (g3.trans (g4.trans (g5.trans (g6.trans (g7.trans (g8.trans (g9.trans (g10.trans (g11.trans gO))))))))) _ _ upd_same
      have fz5 := (g6.trans (g7.trans (g8.trans (g9.trans (g10.trans (g11.trans gO)))))) _ _ upd_same
      have fz6 := (g7.trans (g8.trans (g9.trans (g10.trans (g11.trans gO))))) _ _ upd_same
      have fz7 := (g8.trans (g9.trans (g10.trans (g11.trans gO)))) _ _ upd_same
      have fz10 := (g11.trans gO) _ _ upd_same
      have fz11 := gO _ _ upd_same
      have fz9 := (g10.trans (g11.trans gO)) _ _ hz9
      have fw4 := PlacesAt.tups (Tups.of (g5.trans (g6.trans (g7.trans (g8.trans (g9.trans (g10.trans (g11.trans gO)))))))) hw4
      have fq := all _ _ hq3
      obtain ⟨HF, eHF⟩ : ∃ HF, HF = upd (upd (upd G9 z10 (.tup [vInt s0, V.ref z9])) z11 (.tup [V.bl false, V.ref q])) O (.lst [V.ref z0, V.str "ab", V.ref z2, V.ref z5, V.ref z7, V.ref z10, V.ref z11]) := ⟨_, rfl⟩
      rw [← eHF] at all fO fz0 fz2 fz5 fz6 fz7 fz10 fz11 fz9 fw4 fq ⊢
      have tr := rmv_tups ((s3.trans all) _ _ ha)
      have n6 : z6 ≠ a := fun e => by rw [e, (s3.trans (g0.trans (g2.trans (g3.trans (g4.trans g5))))) _ _ ha] at hz6; cases hz6
      replace fz0 := tr _ _ fz0
      replace fz2 := tr _ _ fz2
      replace fz5 := tr _ _ fz5
      replace fz7 := tr _ _ fz7
      replace fz10 := tr _ _ fz10
      replace fz11 := tr _ _ fz11
      replace fz9 := tr _ _ fz9
      replace fw4 := PlacesAt.tups tr fw4
      replace fq := tr _ _ fq
      replace fz6 := rmv_at n6 fz6
      have hAll : Al (TdAt K (rmv a HF)) [V.ref z0, V.str "ab", V.ref z2, V.ref z5, V.ref z7, V.ref z10, V.ref z11] (bads1 s0 bs) :=
        ⟨⟨.tup (SqT.of fz0) .nil, trivial, small_len (by decide)⟩, ⟨.str _, trivial, fun a bs e => (by cases e)⟩, ⟨.tup (SqT.of fz2) (.cons (.int _) (.cons (dbs fq) .nil)), trivial, small_pair (sm_ns (by omega))⟩,
         ⟨.tup (SqT.of fz5) (.cons (.int _) (.cons (dp_ns fw4) .nil)), trivial, small_pair (sm_ns (by rw [List.length_append]; show bs.length + 1 ≤ 100; omega))⟩, ⟨.tup (SqT.of fz7) (.cons (.int _) (.cons (dp_rowI fz6) .nil)), trivial, small_pair fun bs e => (by cases e)⟩,
         ⟨.tup (SqT.of fz10) (.cons (.int _) (.cons (dp_ns (l := 2 :: bs.drop 1) ⟨z9, rfl, by rw [fz9, List.map_cons, List.map_drop]; rfl⟩) .nil)), trivial, small_pair (sm_ns (by rw [List.length_cons, List.length_drop]; omega))⟩, ⟨.tup (SqT.of fz11) (.cons (.bl _) (.cons (dbs fq) .nil)), trivial, small_pair (sm_ns (by omega))⟩, trivial⟩
      obtain ⟨U, hU⟩ : ∃ U, (bads1 s0 bs)[n]? = some U := ⟨(bads1 s0 bs)[n]'(by show n < 7; exact hn7), List.getElem?_eq_getElem _⟩
      obtain ⟨xv, hxv, hT⟩ := hAll.get2 hU
      obtain ⟨hbad, hnd⟩ := bads1_bad hb lbs hU
      exact ⟨_, rfl, O, _, _, xv, rfl, rfl, SqL.of fO, atI_nat hxv, k HF xv U (s3.trans all) hT hbad hnd⟩
    · have hn7 : 7 ≤ n := by
        rcases Nat.lt_or_ge n 7 with h | h
        · exact absurd (decide_eq_true (by omega)) z
        · exact h
      refine ⟨_, rfl, pp, _, _, .ref qj, rfl, rfl, SqL.of (s3 _ _ hpp), atI_nat (j := 2) rfl, qj, _, rfl, .inr (SqT.of (s3 _ _ hqj)), _, rfl, _, rfl, small (m := 3) (Nat.le_refl _), fun z0 hz0 => ?_⟩
      have g0 := same_new (o := .tup [V.int (js.length : Nat), V.ref lf, V.ref lf]) hz0
      refine ⟨_, rfl, _, rfl, small (m := 3) (Nat.le_refl _), fun z1 hz1 => ?_⟩
      have g1 := same_new (o := .tup [V.bl true, V.ref lf, V.ref lf]) hz1
      refine ⟨_, rfl, _, rfl, _, rfl, small (m := 3) (Nat.le_refl _), fun z2 hz2 => ?_⟩
      have g2 := same_new (o := .tup [V.int (-1), V.ref lf, V.ref lf]) hz2
      refine ⟨_, rfl, _, rfl, small (m := 3) (Nat.le_refl _), fun z3 hz3 => ?_⟩
      have g3 := same_new (o := .lst [V.int 0, V.ref lf, V.ref lf]) hz3
      refine ⟨_, rfl, _, rfl, _, rfl, small (m := 4) (Nat.le_refl _), fun z4 hz4 => ?_⟩
      have g4 := same_new (o := .tup [V.int 0, V.ref lf, V.ref lf, V.ref lf]) hz4
      refine ⟨_, rfl, small (m := 2) (Nat.le_refl _), fun z5 hz5 => ?_⟩
      have g5 := same_new (o := .tup [V.int 0, V.ref lf]) hz5
      refine ⟨_, rfl, small (m := 1) (Nat.le_refl _), fun z6 hz6 => ⟨_, rfl, _, rfl, ?_⟩⟩
      have g6 := same_new (o := .tup [V.bl true]) hz6
      refine rest_cat (c := V.bl true) ((g0.trans (g1.trans (g2.trans (g3.trans (g4.trans (g5.trans g6)))))) _ _ hq3) upd_same (by rw [List.length_map]; omega) fun z7 G7 g7 hz7 => ⟨small (m := 2) (Nat.le_refl _), fun z8 hz8 => ⟨small (m := 7) (Nat.le_refl _), fun O hO => ?_⟩⟩
      have g8 := same_new (o := .tup [vInt s0, V.ref z7]) hz8
      have gO := same_new (o := .lst [V.ref z0, V.ref z1, V.ref z2, V.ref z3, V.ref z4, V.ref z5, V.ref z8]) hO
      have all := (g0.trans (g1.trans (g2.trans (g3.trans (g4.trans (g5.trans (g6.trans (g7.trans (g8.trans gO)))))))))
      have fO := upd_same (H := upd G7 z8 (.tup [vInt s0, V.ref z7])) (a := O) (o := .lst [V.ref z0, V.ref z1, V.ref z2, V.ref z3, V.ref z4, V.ref z5, V.ref z8])
      have fz0 := (g1.trans (g2.trans (g3.trans (g4.trans (g5.trans (g6.trans (g7.trans (g8.trans gO)))))))) _ _ upd_same
      have fz1 := (g2.trans (g3.trans (g4.trans (g5.trans (g6.trans (g7.trans (g8.trans gO))))))) _ _ upd_same
      have fz2 := (g3.trans (g4.trans (g5.trans (g6.trans (g7.trans (g8.trans gO)))))) _ _ upd_same
      have fz3 := (g4.trans (g5.trans (g6.trans (g7.trans (g8.trans gO))))) _ _ upd_same
      have fz4 := (g5.trans (g6.trans (g7.trans (g8.trans gO)))) _ _ upd_same
      have fz5 := (g6.trans (g7.trans (g8.trans gO))) _ _ upd_same
      have fz8 := gO _ _ upd_same
      have fz7 := (g8.trans gO) _ _ hz7
      have fq := all _ _ hq3
      have fl := all _ _ hlf3
      obtain ⟨HF, eHF⟩ : ∃ HF, HF = upd (upd G7 z8 (.tup [vInt s0, V.ref z7])) O (.lst [V.ref z0, V.ref z1, V.ref z2, V.ref z3, V.ref z4, V.ref z5, V.ref z8]) := ⟨_, rfl⟩
      rw [← eHF] at all fO fz0 fz1 fz2 fz3 fz4 fz5 fz7 fz8 fq fl ⊢
      have jl : js.length = b.joins.length := hJ.len
      rw [jl] at fz0
      have tr := rmv_tups ((s3.trans all) _ _ ha)
      have n3 : z3 ≠ a := fun e => by rw [e, (s3.trans (g0.trans (g1.trans g2))) _ _ ha] at hz3; cases hz3
      replace fz0 := tr _ _ fz0
      replace fz1 := tr _ _ fz1
      replace fz2 := tr _ _ fz2
      replace fz4 := tr _ _ fz4
      replace fz5 := tr _ _ fz5
      replace fz7 := tr _ _ fz7
      replace fz8 := tr _ _ fz8
      replace fq := tr _ _ fq
      replace fl := tr _ _ fl
      replace fz3 := rmv_at n3 fz3
      have D := dlf fq fl
      have hAll : Al (TdAt K (rmv a HF)) [V.ref z0, V.ref z1, V.ref z2, V.ref z3, V.ref z4, V.ref z5, V.ref z8] (bads2 b s0 bs) :=
        ⟨⟨z0, _, _, _, rfl, fz0, .int _, tlf fq fl, tlf fq fl⟩, ⟨z1, _, _, _, rfl, fz1, .bl _, tlf fq fl, tlf fq fl⟩, ⟨z2, _, _, _, rfl, fz2, .int _, tlf fq fl, tlf fq fl⟩,
         ⟨.lst (SqL.of fz3) (.cons (.int _) (.cons D (.cons D .nil))), trivial, fun a bs e => (by cases e)⟩, ⟨.tup (SqT.of fz4) (.cons (.int _) (.cons D (.cons D (.cons D .nil)))), trivial, small_len (by show (4 : Nat) ≠ 2; decide)⟩,
         ⟨.tup (SqT.of fz5) (.cons (.int _) (.cons D .nil)), trivial, small_pair fun bs' e => (by have := PyData.tuple.inj e; rw [← this]; show 2 ≤ 100; decide)⟩,
         ⟨.tup (SqT.of fz8) (.cons (.int _) (.cons (.tup (SqT.of fz7) (.cons (.bl _) (by rw [← List.map_drop]; exact dp_nums _))) .nil)), trivial, small_pair fun bs' e => (by have := PyData.tuple.inj e; rw [← this, List.length_cons, List.length_map, List.length_drop]; omega)⟩, trivial⟩
      obtain ⟨i, ei⟩ : ∃ i, i = n - 7 := ⟨_, rfl⟩
      have hi7 : i < 7 := by omega
      obtain ⟨U, hU⟩ : ∃ U, (bads2 b s0 bs)[i]? = some U := ⟨(bads2 b s0 bs)[i]'(by show i < 7; exact hi7), List.getElem?_eq_getElem _⟩
      obtain ⟨xv, hxv, hT⟩ := hAll.get2 hU
      obtain ⟨hbad, hnd⟩ := bads2_bad hb lbs hU
      refine ⟨_, rfl, _, _, rfl, rfl, O, _, _, xv, rfl, rfl, SqL.of fO, ?_, k HF xv U (s3.trans all) hT hbad hnd⟩
      show atI _ ((n : Int) - 7) = _
      rw [show ((n : Int) - 7) = ((i : Nat) : Int) by omega]
      exact atI_nat hxv
end
end Fam

/-! The first wrong part of a spoilt term. -/
namespace Fam
open PySem L2 S5
def goodTo (b : Bn) (m : Nat) (hole : Bool) : Td → List Nat → Prop
  | _, [] => True
  | .node j l r, s :: p => joinD b j = true ∧ ((s = 0 ∧ goodTo b m hole l p) ∨ (s = 1 ∧ (∀ q, firstBad b m hole l q = none) ∧ goodTo b m hole r p))
  | .other _, _ :: _ => False
theorem good_to {b : Bn} (hb : BnOk b) {m : Nat} {hole : Bool} : ∀ {t : Tm} {p : List Nat}, TmG b m t → (hole = true ∨ holesM t = 0) → p ∈ rp t → goodTo b m hole (toTd t) p
  | .hole, p, _, _, h => by rw [List.mem_singleton.mp h]; trivial
  | .leaf _ _, p, _, _, h => by rw [List.mem_singleton.mp h]; trivial
  | .join j l r, p, g, hh, h => by
    have hl : hole = true ∨ holesM l = 0 := by
      rcases hh with h | h
      · exact .inl h
      · have : holesM l + holesM r = 0 := h
        exact .inr (by omega)
    have hr : hole = true ∨ holesM r = 0 := by
      rcases hh with h | h
      · exact .inl h
      · have : holesM l + holesM r = 0 := h
        exact .inr (by omega)
    rcases List.mem_cons.mp h with h | h
    · rw [h]; trivial
    · rcases List.mem_append.mp h with h | h
      · obtain ⟨x, hx, rfl⟩ := List.mem_map.mp h
        exact ⟨join_good g.1, .inl ⟨rfl, good_to hb g.2.1 hl hx⟩⟩
      · obtain ⟨x, hx, rfl⟩ := List.mem_map.mp h
        exact ⟨join_good g.1, .inr ⟨rfl, fun q => good_first hb g.2.1 hl, good_to hb g.2.2 hr hx⟩⟩
theorem goodTo.ok {b : Bn} {m : Nat} {hole : Bool} : ∀ {T : Td} {p : List Nat}, goodTo b m hole T p → okT T p
  | T, [], _ => by cases T <;> trivial
  | .node j l r, s :: p, ⟨_, h⟩ => by
    rcases h with ⟨e, h⟩ | ⟨e, _, h⟩
    · exact .inl ⟨e, h.ok⟩
    · exact .inr ⟨e, h.ok⟩
  | .other _, _ :: _, h => h.elim
theorem repl_nil (T U : Td) : replT T [] U = U := by cases T <;> rfl
theorem first_at {b : Bn} {m : Nat} {hole : Bool} {U : Td} (hU : BadU b m U) : ∀ {T : Td} {p : List Nat} (q : List Nat), goodTo b m hole T p → firstBad b m hole (replT T p U) q = some (q ++ p)
  | T, [], q, _ => by rw [repl_nil, bad_first hU, List.append_nil]
  | .node j l r, s :: p, q, ⟨hj, h⟩ => by
    rcases h with ⟨e, h⟩ | ⟨e, hl, h⟩
    · subst e
      show (if joinD b j then (firstBad b m hole (replT l p U) (q ++ [0])).or _ else some q) = _
      rw [hj, first_at hU (q ++ [0]) h, List.append_assoc]
      rfl
    · subst e
      show (if joinD b j then (firstBad b m hole l (q ++ [0])).or (firstBad b m hole (replT r p U) (q ++ [1])) else some q) = _
      rw [hj, hl, first_at hU (q ++ [1]) h, List.append_assoc]
      rfl
  | .other _, _ :: _, _, h => h.elim
theorem good_repl {b : Bn} {m : Nat} {hole : Bool} {U : Td} : ∀ {T : Td} {p s : List Nat}, goodTo b m hole T p → okT T s → lexN p s → s.take p.length ≠ p → goodTo b m hole (replT T s U) p
  | T, [], s, _, _, _, h => absurd List.take_zero h
  | T, _ :: _, [], _, _, hl, _ => absurd hl (not_lexN_nil _)
  | .other _, _ :: _, _ :: _, h, _, _, _ => h.elim
  | .node j l r, a :: p, c :: s, ⟨hj, h⟩, ho, hl, hp => by
    rw [lexN_cons] at hl
    have ho' : (c = 0 ∧ okT l s) ∨ (c = 1 ∧ okT r s) := ho
    rcases h with ⟨e, h⟩ | ⟨e, hf, h⟩
    · subst e
      by_cases hc : c = 0
      · subst hc
        have hl' : lexN p s := by
          rcases hl with ⟨_, h⟩ | h
          · exact h
          · omega
        exact ⟨hj, .inl ⟨rfl, good_repl h (by rcases ho' with h | h; exact h.2; omega) hl' fun z => hp (by rw [List.length_cons, List.take_succ_cons, z])⟩⟩
      · show goodTo b m hole (if c = 0 then _ else Td.node j l (replT r s U)) (0 :: p)
        rw [if_neg hc]
        exact ⟨hj, .inl ⟨rfl, h⟩⟩
    · subst e
      by_cases hc : c = 0
      · exfalso
        rcases hl with ⟨h, _⟩ | h <;> omega
      · show goodTo b m hole (if c = 0 then _ else Td.node j l (replT r s U)) (1 :: p)
        rw [if_neg hc]
        by_cases c1 : c = 1
        · subst c1
          have hl' : lexN p s := by
            rcases hl with ⟨_, h⟩ | h
            · exact h
            · omega
          exact ⟨hj, .inr ⟨rfl, hf, good_repl h (by rcases ho' with h | h; omega; exact h.2) hl' fun z => hp (by rw [List.length_cons, List.take_succ_cons, z])⟩⟩
        · refine ⟨hj, .inr ⟨rfl, hf, ?_⟩⟩
          exfalso
          rcases ho' with h | h <;> omega
theorem repl_nodes (U : Td) : ∀ (T : Td) (p : List Nat), (replT T p U).nodes ≤ T.nodes + U.nodes
  | T, [] => by rw [repl_nil]; omega
  | .node j l r, s :: p => by
    have h1 := repl_nodes U l p
    have h2 := repl_nodes U r p
    show (if s = 0 then Td.node j (replT l p U) r else Td.node j l (replT r p U)).nodes ≤ l.nodes + r.nodes + 1 + U.nodes
    split
    · show (replT l p U).nodes + r.nodes + 1 ≤ _; omega
    · show l.nodes + (replT r p U).nodes + 1 ≤ _; omega
  | .other d, _ :: _ => by show (Td.other d).nodes ≤ _; omega
def isLf : Tm → Bool
  | .leaf _ _ => true
  | _ => false
def isHl : Tm → Bool
  | .hole => true
  | _ => false
def lm : Tm → List Nat
  | .join _ l _ => 0 :: lm l
  | _ => []
def gp : Tm → List Nat
  | .join _ l r => if holesM l = 0 then 1 :: gp r else 0 :: gp l
  | _ => []
theorem rp_filter (P : Tm → Bool) (j : Nat) (l r : Tm) (h : P (.join j l r) = false) : (rp (.join j l r)).filter (fun p => P (subT (.join j l r) p)) = ((rp l).filter fun p => P (subT l p)).map (0 :: ·) ++ ((rp r).filter fun p => P (subT r p)).map (1 :: ·) := by
  show ([] :: ((rp l).map (0 :: ·) ++ (rp r).map (1 :: ·))).filter _ = _
  rw [List.filter_cons]
  rw [show P (subT (.join j l r) []) = false from h]
  rw [if_neg Bool.false_ne_true, List.filter_append, List.filter_map, List.filter_map]
  rfl
theorem lf_first : ∀ t : Tm, holesM t = 0 → ∃ rest, (rp t).filter (fun p => isLf (subT t p)) = lm t :: rest
  | .hole, h => by cases h
  | .leaf _ _, _ => ⟨[], rfl⟩
  | .join j l r, h => by
    have h' : holesM l + holesM r = 0 := h
    obtain ⟨rest, e⟩ := lf_first l (by omega)
    rw [rp_filter isLf j l r rfl, e]
    exact ⟨_, rfl⟩
theorem hl_none : ∀ t : Tm, holesM t = 0 → (rp t).filter (fun p => isHl (subT t p)) = []
  | .hole, h => by cases h
  | .leaf _ _, _ => rfl
  | .join j l r, h => by
    have h' : holesM l + holesM r = 0 := h
    rw [rp_filter isHl j l r rfl, hl_none l (by omega), hl_none r (by omega)]
    rfl
theorem hl_first : ∀ t : Tm, 1 ≤ holesM t → ∃ rest, (rp t).filter (fun p => isHl (subT t p)) = gp t :: rest
  | .hole, _ => ⟨[], rfl⟩
  | .leaf _ _, h => by cases h
  | .join j l r, h => by
    have h' : 1 ≤ holesM l + holesM r := h
    rw [rp_filter isHl j l r rfl]
    show ∃ rest, _ = (if holesM l = 0 then 1 :: gp r else 0 :: gp l) :: rest
    by_cases z : holesM l = 0
    · obtain ⟨rest, e⟩ := hl_first r (by omega)
      rw [hl_none l z, e, if_pos z]
      exact ⟨_, rfl⟩
    · obtain ⟨rest, e⟩ := hl_first l (by omega)
      rw [e, if_neg z]
      exact ⟨_, rfl⟩
theorem first_more {b : Bn} {m : Nat} : ∀ {t : Tm} (q : List Nat), TmG b m t → holesM t = 0 → firstBad b (m + 1) false (toTd t) q = some (q ++ lm t)
  | .hole, q, _, h => by cases h
  | .leaf a bs, q, g, _ => by
    have hbad : leafD b (m + 1) (.tuple [.int (a : Int), dNs bs]) = false := leafD_pair (.inr (bits_len (by rw [List.length_map, g.2.1]; omega)))
    show (if leafD b (m + 1) (.tuple [.int (a : Int), dNs bs]) then none else some q) = some (q ++ [])
    rw [hbad, List.append_nil]
    rfl
  | .join j l r, q, g, h => by
    have h' : holesM l + holesM r = 0 := h
    show (if joinD b (.int (j : Int)) then (firstBad b (m + 1) false (toTd l) (q ++ [0])).or _ else some q) = some (q ++ 0 :: lm l)
    rw [join_good g.1, first_more (q ++ [0]) g.2.1 (by omega), List.append_assoc]
    rfl
theorem first_gap {b : Bn} (hb : BnOk b) {m : Nat} : ∀ {t : Tm} (q : List Nat), TmG b m t → 1 ≤ holesM t → firstBad b m false (toTd t) q = some (q ++ gp t)
  | .hole, q, _, _ => by
    show (if leafD b m .none then none else some q) = some (q ++ [])
    rw [List.append_nil]
    rfl
  | .leaf a bs, q, _, h => by cases h
  | .join j l r, q, g, h => by
    have h' : 1 ≤ holesM l + holesM r := h
    show (if joinD b (.int (j : Int)) then (firstBad b m false (toTd l) (q ++ [0])).or (firstBad b m false (toTd r) (q ++ [1])) else some q) = some (q ++ if holesM l = 0 then 1 :: gp r else 0 :: gp l)
    rw [join_good g.1]
    by_cases z : holesM l = 0
    · rw [good_first hb g.2.1 (.inr z), first_gap hb (q ++ [1]) g.2.2 (by omega), if_pos z, List.append_assoc]
      rfl
    · rw [first_gap hb (q ++ [0]) g.2.1 (by omega), if_neg z, List.append_assoc]
      rfl
theorem check_first {b : Bn} {m : Nat} {hole : Bool} {T : Td} {p : List Nat} (h : firstBad b m hole T [] = some p) : checkT b m hole T = some p := by
  unfold checkT
  rw [h]
  rfl
end Fam

/-! Spoilt terms are refused at their first wrong part. -/
namespace Fam
open PySem L2 S5 ItX OwnX
open C8 (pss_cut tCut)
def spSpoilsOk (C : Addr) : Sp := fun vs H Q _ => ∃ (x a : Addr) (c : Nat) (ts : List Int) (v vt : V) (b : Bn) (t : Tm) (m : Nat), vs = [.ref x, v, .ref a, vt, vInt m] ∧ TapeAt H a c ts ∧ v ≠ .ref a ∧ BAt C H x b ∧ PartsAt H v b ∧ TmAt H vt t ∧ TmG b m t ∧ holesM t = 0 ∧ (leavesT t).length ≤ 7 ∧ m ≤ 40 ∧
  ∀ (H' : Hp) (c' : Nat), Kp a H H' → TapeAt H' a c' ts → Q (.bl true) H'
theorem slice_beg {K : PySem.W.Frag} {H : Hp} {q : Addr} {l : List Nat} {n : Nat} {Q : VK} (hq : H q = some (.tup (l.map vInt))) (k : ∀ (y : V) (H' : Hp), Same H H' → PlacesAt H' y (l.take n) → Q y H') : rSlA K (.ref q) none (some (n : Int)) H Q := by
  refine ⟨q, _, rfl, SqT.of hq, fun ⟨_, h⟩ => ?_, fun _ p hp => ?_⟩
  · rw [HT.sIx_nat, List.length_map] at h
    refine k _ H (Same.refl _) ⟨q, rfl, ?_⟩
    rw [List.take_of_length_le (by omega)]
    exact hq
  · refine k _ _ (same_new hp) ⟨p, rfl, ?_⟩
    rw [upd_same, cut_beg, List.map_take]
theorem ns_ne {K : PySem.W.Frag} {H : Hp} {x y : V} {l r : List Nat} {Q : VK} (hx : PlacesAt H x l) (hy : PlacesAt H y r) (q : Q (.bl (!decide (l = r))) H) : rNeD K x y H Q := by
  refine ⟨dNs l, dNs r, dp_ns hx, dp_ns hy, dNs_sh l, dNs_sh r, ?_⟩
  rw [eqv_dec (p := l = r) (dNs_pl l) (dNs_pl r) ⟨dNs_inj, fun e => by rw [e]⟩]
  exact q
theorem ns_eq {K : PySem.W.Frag} {H : Hp} {x y : V} {l : List Nat} {Q : VK} (hx : PlacesAt H x l) (hy : PlacesAt H y l) (q : Q (.bl true) H) : rEqD K x y H Q := by
  refine ⟨dNs l, dNs l, dp_ns hx, dp_ns hy, dNs_sh l, dNs_sh l, ?_⟩
  rw [eqv_dec (p := True) (dNs_pl l) (dNs_pl l) ⟨fun _ => trivial, fun _ => rfl⟩]
  exact q
theorem two_bl {i : Nat} {x : V} (h : ([V.bl false, V.bl true] : List V)[i]? = some x) : ∃ oe : Bool, x = .bl oe := by
  match i, h with
  | 0, h => cases h; exact ⟨false, rfl⟩
  | 1, h => cases h; exact ⟨true, rfl⟩
  | n + 2, h => cases h
theorem open_many {b : Bn} (hb : BnOk b) {m : Nat} {t : Tm} (g : TmG b m t) (h : holesM t ≠ 1) : checkT b m true (toTd t) = some [] := by
  unfold checkT
  rw [good_first hb g (.inl rfl), td_holes, decide_eq_true h]
  rfl
theorem sub_whole : ∀ (t : Tm) (p : List Nat), holesM t = 0 → holesM (subT t p) = 0
  | .hole, p, h => by cases h
  | .leaf _ _, p, _ => by cases p <;> rfl
  | .join j l r, [], h => h
  | .join j l r, s :: p, h => by
    have h' : holesM l + holesM r = 0 := h
    show holesM (if s = 0 then subT l p else subT r p) = 0
    split
    · exact sub_whole l p (by omega)
    · exact sub_whole r p (by omega)
section
variable {P : Program} {w : World} {K : PySem.W.Frag} {mg : Str → Option Value} {base : Heap} {C : Addr}
abbrev nSO : List Str := ["_law_bench", "_law_parts", "_law_tape", "_law_term_here", "_law_many", "_law_context_here", "_law_open_end", "_law_good", "_law_paths_here", "_law_first", "_law_second", "_law_swap", "_law_bad", "_law_leaf_here", "_law_gap", "_law_two", "_law_path"]
theorem scSO : FnScope nSO ["_law_bench", "_law_parts", "_law_tape", "_law_term_here", "_law_many"] (defScope sLSpoilsOk) := ⟨rfl, rfl, rfl, by decide +kernel, rfl, by decide +kernel, by decide +kernel⟩
theorem ok_spoils {f : Addr} {fd : FuncData} (F : Fun K "_law_spoils_ok" "_law_spoils_ok" sLSpoilsOk f fd) (T : Bare mg) (GT : Cal P w K mg base 1 "_law_take" ["_law_tape", "_law_many"] spDraw) (GX : Cal P w K mg base 4 "_law_context" ["_law_tape", "_law_parts", "_law_size", "_law_many"] spLContext)
    (GP : Cal P w K mg base 1 "_law_paths" ["_law_term_here"] spLPaths) (GR : Cal P w K mg base 1 "_law_replaced" ["_law_term_here", "_law_path", "_law_bad"] (spLReplaced K)) (GB : Cal P w K mg base 1 "_law_bad_part" ["_law_word", "_law_parts", "_law_many"] (spBadPart K))
    (GTr : Cal P w K mg base 5 "_law_term_refused" ["_law_bench", "_law_term_here", "_law_many", "_law_open_end"] (spTermRefused K C)) (GPa : Cal P w K mg base 1 "_law_part" ["_law_term_here", "_law_path"] spLPart) : FnOk P w K mg base CX0 6 f fd ["_law_bench", "_law_parts", "_law_tape", "_law_term_here", "_law_many"] (spSpoilsOk C) := by
  obtain ⟨_, _, ok_tk, b_tk, k_tk, m_tk⟩ := GT.ex
  obtain ⟨_, _, ok_cx, b_cx, k_cx, m_cx⟩ := GX.ex
  obtain ⟨_, _, ok_pt, b_pt, k_pt, m_pt⟩ := GP.ex
  obtain ⟨_, _, ok_rp, b_rp, k_rp, m_rp⟩ := GR.ex
  obtain ⟨_, _, ok_bp, b_bp, k_bp, m_bp⟩ := GB.ex
  obtain ⟨_, _, ok_tr, b_tr, k_tr, m_tr⟩ := GTr.ex
  obtain ⟨_, _, ok_pa, b_pa, k_pa, m_pa⟩ := GPa.ex
  refine F.ok scSO (fun vs H Q E h => ?_) (fun cdv A outer s H vs Q E hr h => ?_)
  · obtain ⟨x, a, c, ts, v, vt, b, t, m, rfl, _⟩ := h
    rfl
  · obtain ⟨x, a, c, ts, v, vt, b, t, m, rfl, hT, hva, hB, hP, ht, hg, hwh, hl7, hm, k⟩ := h
    have hr_tr := hr
    have hr_cx := hr.mono (j := 4) (by decide)
    have hr_tk := hr.mono (j := 1) (by decide)
    have hr_pt := hr_tk
    have hr_rp := hr_tk
    have hr_bp := hr_tk
    have hr_pa := hr_tk
    refine ⟨_, (pss_cons (ps_set (i := 5) scSO.nd rfl (Or.inr rfl) (pe_call ok_cx hr_cx rfl m_cx k_cx b_cx .nil pass0 (pa_cons (pv 2) (pa_cons (pv 1) (pa_cons (pe_op op_add pe_int (pe_call ok_tk hr_tk rfl m_tk k_tk b_tk .nil pass0 (pa_cons (pv 2) (pa_cons pe_int pa_nil)))) (pa_cons (pv 4) pa_nil))))))
      (pss_cons (ps_for PassesOwn.never rfl (pi_list (pe_lst (pa_cons pe_bl (pa_cons pe_bl pa_nil)))) (pg_name (i := 6) scSO.nd rfl (Or.inl rfl))
          (pss_cut (ps_set (i := 7) scSO.nd rfl (Or.inl rfl) (pe_ifExp (pt_val (pv 6)) (pv 5) (pv 3)))
          (pss_cons (ps_set (i := 8) scSO.nd rfl (Or.inl rfl) (pe_call ok_pt hr_pt rfl m_pt k_pt b_pt .nil pass0 (pa_cons (pv 7) pa_nil)))
          (pss_cons (ps_set (i := 9) scSO.nd rfl (Or.inl rfl) (pe_ix ix_list (pv 8) (pe_call ok_tk hr_tk rfl m_tk k_tk b_tk .nil pass0 (pa_cons (pv 2) (pa_cons (pe_callB call_len_seq (by rfl) T.len PySem.boot_len (pa_cons (pv 8) pa_nil)) pa_nil))) (fun _ _ => rfl)))
          (pss_cons (ps_set (i := 10) scSO.nd rfl (Or.inl rfl) (pe_ix ix_list (pv 8) (pe_call ok_tk hr_tk rfl m_tk k_tk b_tk .nil pass0 (pa_cons (pv 2) (pa_cons (pe_callB call_len_seq (by rfl) T.len PySem.boot_len (pa_cons (pv 8) pa_nil)) pa_nil))) (fun _ _ => rfl)))
          (pss_cut (ps_if (pt_cmpR (op_ltT (Nat.lt_of_le_of_lt (Nat.le_add_right _ _) hr.units)) (pv 10) (pv 9) (nomark _)) (pss_cons (ps_set (i := 11) scSO.nd rfl (Or.inl rfl) (pv 9))
              (pss_cons (ps_set (i := 9) scSO.nd rfl (Or.inl rfl) (pv 10))
              (pss_one (ps_set (i := 10) scSO.nd rfl (Or.inl rfl) (pv 11))))) pss_nil)
          (pss_cons (ps_set (i := 12) scSO.nd rfl (Or.inl rfl) (pv 7))
          (pss_cut (ps_if (pt_cmpR (op_neD hr.units) (pe_slice sl_tupA (pv 10) po_none (po_some (pe_callB call_len_seq (by rfl) T.len PySem.boot_len (pa_cons (pv 9) pa_nil)))) (pv 9) (nomark _)) (pss_one (ps_set (i := 12) scSO.nd rfl (Or.inl rfl) (pe_call ok_rp hr_rp rfl m_rp k_rp b_rp .nil pass0 (pa_cons (pv 12) (pa_cons (pv 10) (pa_cons (pe_call ok_bp hr_bp rfl m_bp k_bp b_bp .nil pass0 (pa_cons (pe_call ok_tk hr_tk rfl m_tk k_tk b_tk .nil pass0 (pa_cons (pv 2) (pa_cons pe_int pa_nil))) (pa_cons (pv 1) (pa_cons (pv 4) pa_nil)))) pa_nil)))))) pss_nil)
          (pss_cons (ps_set (i := 12) scSO.nd rfl (Or.inl rfl) (pe_call ok_rp hr_rp rfl m_rp k_rp b_rp .nil pass0 (pa_cons (pv 12) (pa_cons (pv 9) (pa_cons (pe_call ok_bp hr_bp rfl m_bp k_bp b_bp .nil pass0 (pa_cons (pe_call ok_tk hr_tk rfl m_tk k_tk b_tk .nil pass0 (pa_cons (pv 2) (pa_cons pe_int pa_nil))) (pa_cons (pv 1) (pa_cons (pv 4) pa_nil)))) pa_nil)))))
          (pss_one (ps_if (pt_cmpR (op_neD hr.units) (pe_call ok_tr hr_tr rfl m_tr k_tr b_tr .nil pass0 (pa_cons (pv 0) (pa_cons (pv 12) (pa_cons (pv 4) (pa_cons (pv 6) pa_nil))))) (pv 9) (nomark _)) (pss_one (ps_ret pe_bl)) pss_nil)))))))))))
      (pss_cons (ps_if (PW.pt (pw_or (pt_cmpR (op_neD hr.units) (pe_call ok_tr hr_tr rfl m_tr k_tr b_tr .nil pass0 (pa_cons (pv 0) (pa_cons (pv 3) (pa_cons (pv 4) (pa_cons pe_bl pa_nil))))) (pe_tup pa_nil) (nomark _)) (pw_or1 (pt_cmpR (op_neD hr.units) (pe_call ok_tr hr_tr rfl m_tr k_tr b_tr .nil pass0 (pa_cons (pv 0) (pa_cons pe_non (pa_cons (pv 4) (pa_cons pe_bl pa_nil))))) (pe_tup pa_nil) (nomark _))))) (pss_one (ps_ret pe_bl)) pss_nil)
      (pss_cut (ps_set (i := 13) scSO.nd rfl (Or.inl rfl) (pe_ix ix_list (pe_lc (own := [("_law_path", 16)]) (g := gName 16) rfl scSO.nd (pi_list (pe_call ok_pt hr_pt rfl m_pt k_pt b_pt .nil pass0 (pa_cons (pv 3) pa_nil))) (blkOk_by (own := [("_law_path", 16)]) (N := nSO) (sc := defScope sLSpoilsOk) (by decide +kernel)) (fun _ _ _ _ _ => pg_name (i := 16) scSO.nd rfl (Or.inl rfl)) (fun _ _ _ _ _ => pts_one (pt_cmpR op_eq (pe_callB (call_len_seq : CallR _ (.builtin "len") (rLenS K)) (by rfl) T.len PySem.boot_len (pa_cons (pe_call ok_pa hr_pa rfl m_pa k_pa b_pa .nil pass0 (pa_cons (pv 3) (pa_cons (pv 16) pa_nil))) pa_nil)) pe_int (nomark _))) (fun _ _ _ _ _ => pv 16)) pe_int (fun _ _ => rfl)))
      (pss_cons (ps_if (pt_cmpR (op_neD hr.units) (pe_call ok_tr hr_tr rfl m_tr k_tr b_tr .nil pass0 (pa_cons (pv 0) (pa_cons (pv 3) (pa_cons (pe_op op_add (pv 4) pe_int) (pa_cons pe_bl pa_nil))))) (pv 13) (nomark _)) (pss_one (ps_ret pe_bl)) pss_nil)
      (pss_cut (ps_set (i := 14) scSO.nd rfl (Or.inl rfl) (pe_ix ix_list (pe_lc (own := [("_law_path", 16)]) (g := gName 16) rfl scSO.nd (pi_list (pe_call ok_pt hr_pt rfl m_pt k_pt b_pt .nil pass0 (pa_cons (pv 5) pa_nil))) (blkOk_by (own := [("_law_path", 16)]) (N := nSO) (sc := defScope sLSpoilsOk) (by decide +kernel)) (fun _ _ _ _ _ => pg_name (i := 16) scSO.nd rfl (Or.inl rfl)) (fun _ _ _ _ _ => pts_one (pt_cmpR op_isN (pe_call ok_pa hr_pa rfl m_pa k_pa b_pa .nil pass0 (pa_cons (pv 5) (pa_cons (pv 16) pa_nil))) pe_non (nomark _))) (fun _ _ _ _ _ => pv 16)) pe_int (fun _ _ => rfl)))
      (pss_cons (ps_set (i := 15) scSO.nd rfl (Or.inl rfl) (pe_tup (pa_cons pe_int (pa_cons (pv 5) (pa_cons pe_non pa_nil)))))
      (pss_one (ps_ret (pe_and (pe_cmpR (op_eqD hr.units) (pe_call ok_tr hr_tr rfl m_tr k_tr b_tr .nil pass0 (pa_cons (pv 0) (pa_cons (pv 5) (pa_cons (pv 4) (pa_cons pe_bl pa_nil))))) (pv 14) (nomark _)) (pe_one (pe_cmpR (op_eqD hr.units) (pe_call ok_tr hr_tr rfl m_tr k_tr b_tr .nil pass0 (pa_cons (pv 0) (pa_cons (pv 15) (pa_cons (pv 4) (pa_cons pe_bl pa_nil))))) (pe_tup pa_nil) (nomark _))))))))))))), ?_⟩
    have hb := hB.ok
    refine ⟨_, rfl, _, rfl, _, rfl, a, c, ts, 3, rfl, hT, by decide, fun H1 c1 n1 hn1' hH1 hT1 => ⟨_, _, rfl, rfl, _, rfl, ?_⟩⟩
    have k1 : Kp a H H1 := Kp.of hH1
    refine ⟨a, c1, ts, v, b, 1 + n1, m, (congrArg (fun z => [V.ref a, v, V.int z, vInt m]) (by omega)), hT1, PartsAt.keep hP hva hT k1, hva, hb, by omega, by omega, by omega, fun H2 c2 vo cu k2 hT2 hcu gcu hcu1 lcu => ?_⟩
    have k02 := k1.trans k2
    have n_t : t.nodes ≤ 60 := nodes60 (n := 28) (by omega) (by omega) (by decide)
    have n_cu : cu.nodes ≤ 60 := nodes60 (n := 28) (by omega) (by omega) (by decide)
    refine ⟨small (m := 2) (Nat.le_refl _), fun O hO => ?_⟩
    have e3 := same_new (o := .lst [V.bl false, V.bl true]) hO
    have nOa := tape_ne hT2 hO
    have hT3 := hT2.same e3
    have fO := upd_same (H := H2) (a := O) (o := .lst [V.bl false, V.bl true])
    obtain ⟨H3, eH3⟩ : ∃ H3, H3 = upd H2 O (.lst [V.bl false, V.bl true]) := ⟨_, rfl⟩
    rw [← eH3] at e3 hT3 fO ⊢
    have k03 := k02.trans (kp_same e3)
    have hcu3 := hcu.same e3
    have ht3 := ht.tups (Tups.kp hT k03)
    have hB3 := hB.keep hT k03
    have hP3 := PartsAt.keep hP hva hT k03
    refine ⟨O, rfl, ⟨_, SqL.of fO⟩, for_list (K := K) (a := O) (xs := [V.bl false, V.bl true]) (fun i σ H' => ∃ (y6 y7 y8 y9 y10 y11 y12 : Option V) (c : Nat), σ = [some (.ref x), some v, some (.ref a), some vt, some (vInt m), some vo, y6, y7, y8, y9, y10, y11, y12, none, none, none, none] ∧ Kp a H3 H' ∧ TapeAt H' a c ts) ⟨none, none, none, none, none, none, none, c2, rfl, Kp.refl a H3, hT3⟩ ?_ ?_ ?_⟩
    · rintro i σ H' hi ⟨y6, y7, y8, y9, y10, y11, y12, c', rfl, k', _⟩
      exact SqL.of (k' O _ nOa fO)
    · rintro i z σ H4 hz ⟨y6, y7, y8, y9, y10, y11, y12, c4, rfl, k4, hT4⟩
      obtain ⟨oe, rfl⟩ := two_bl hz
      have ht4 := ht3.tups (Tups.kp hT3 k4)
      have hcu4 := hcu3.tups (Tups.kp hT3 k4)
      refine ⟨fun σ' H' => ∃ (vg : V) (g : Tm), σ' = [some (.ref x), some v, some (.ref a), some vt, some (vInt m), some vo, some (.bl oe), some vg, y8, y9, y10, y11, y12, none, none, none, none] ∧ H4 = H' ∧ TmAt H4 vg g ∧ TmG b m g ∧ (oe = true ∨ holesM g = 0) ∧ g.nodes ≤ 60, ?_, ?_⟩
      · refine ⟨_, rfl, oe, rfl, ?_⟩
        cases oe with
        | false => exact iteF ⟨_, rfl, vt, t, rfl, rfl, ht4, hg, .inr hwh, n_t⟩
        | true => exact iteT ⟨_, rfl, vo, cu, rfl, rfl, hcu4, gcu, .inl rfl, n_cu⟩
      rintro σ' H' ⟨vg, g, rfl, rfl, hvg, gg, hoe, ng⟩
      refine ⟨_, rfl, vg, g, rfl, hvg, ng, fun H5 p8 xs8 s5 np8 hp8 hA8 => ?_⟩
      have l8 := hA8.len
      have hpos := nodes_pos g
      rw [rp_len] at l8
      have hT5 := hT4.same s5
      have n8a : p8 ≠ a := tape_ne hT4 np8
      refine ⟨_, rfl, _, rfl, _, rfl, p8, _, rfl, .inl (SqL.of hp8), a, c4, ts, xs8.length, rfl, hT5, by omega, fun H6 c6 i1 hi1 hH6 hT6 => ?_⟩
      have hp86 : H6 p8 = some (.lst xs8) := by rw [hH6 p8 n8a]; exact hp8
      obtain ⟨p1, hp1⟩ : ∃ p1, (rp g)[i1]? = some p1 := ⟨(rp g)[i1]'(by rw [rp_len, ← l8]; exact hi1), List.getElem?_eq_getElem _⟩
      obtain ⟨v1, hv1, hv1p⟩ := hA8.get2 hp1
      refine ⟨p8, _, _, v1, rfl, rfl, SqL.of hp86, atI_nat hv1, ?_⟩
      refine ⟨_, rfl, _, rfl, _, rfl, p8, _, rfl, .inl (SqL.of hp86), a, c6, ts, xs8.length, rfl, hT6, by omega, fun H7 c7 i2 hi2 hH7 hT7 => ?_⟩
      have hp87 : H7 p8 = some (.lst xs8) := by rw [hH7 p8 n8a]; exact hp86
      obtain ⟨p2, hp2⟩ : ∃ p2, (rp g)[i2]? = some p2 := ⟨(rp g)[i2]'(by rw [rp_len, ← l8]; exact hi2), List.getElem?_eq_getElem _⟩
      obtain ⟨v2, hv2, hv2p⟩ := hA8.get2 hp2
      refine ⟨p8, _, _, v2, rfl, rfl, SqL.of hp87, atI_nat hv2, ?_⟩
      have k57 : Kp a H5 H7 := (Kp.of hH6).trans (Kp.of hH7)
      have tu57 := Tups.kp hT5 k57
      have hm1 := List.mem_of_getElem? hp1
      have hm2 := List.mem_of_getElem? hp2
      obtain ⟨q1, rfl, hq1⟩ := PlacesAt.tups tu57 hv1p
      obtain ⟨q2, rfl, hq2⟩ := PlacesAt.tups tu57 hv2p
      refine ⟨fun σ' H' => ∃ (va vb : Addr) (pa pb : List Nat) (y11 : Option V), σ' = [some (.ref x), some v, some (.ref a), some vt, some (vInt m), some vo, some (.bl oe), some vg, some (.ref p8), some (.ref va), some (.ref vb), y11, y12, none, none, none, none] ∧ H7 = H' ∧ H7 va = some (.tup (pa.map vInt)) ∧ H7 vb = some (.tup (pb.map vInt)) ∧ pa ∈ rp g ∧ pb ∈ rp g ∧ ¬ lexN pb pa, ?_, ?_⟩
      · refine ⟨_, rfl, _, rfl, q2, q1, intsN p2, intsN p1, rfl, rfl, by rw [intsN, ← vI]; exact SqT.of hq2, by rw [intsN, ← vI]; exact SqT.of hq1, _, rfl, ite2 (fun z => ?_) (fun z => ?_)⟩
        · exact ⟨_, rfl, _, rfl, _, rfl, q2, q1, p2, p1, _, rfl, rfl, hq2, hq1, hm2, hm1, lexN_asym z⟩
        · exact ⟨q1, q2, p1, p2, _, rfl, rfl, hq1, hq2, hm1, hm2, z⟩
      rintro σ' H' ⟨va, vb, pa, pb, y11, rfl, rfl, hva', hvb', hma, hmb, hnl⟩
      have k47 : Kp a H4 H7 := (kp_same s5).trans k57
      have hvg7 := hvg.tups (Tups.kp hT4 k47)
      have gt := good_to hb gg hoe hma
      have la := rp_depth g pa hma
      have lb := rp_depth g pb hmb
      refine ⟨_, rfl, ?_⟩
      refine ⟨fun σ' H' => ∃ (vd : V) (T' : Td) (c8 : Nat), σ' = [some (.ref x), some v, some (.ref a), some vt, some (vInt m), some vo, some (.bl oe), some vg, some (.ref p8), some (.ref va), some (.ref vb), y11, some vd, none, none, none, none] ∧ Kp a H7 H' ∧ TapeAt H' a c8 ts ∧ TdAt K (rmv a H') vd T' ∧ goodTo b m oe T' pa ∧ T'.nodes ≤ 63, ?_, ?_⟩
      · refine ⟨_, rfl, _, rfl, va, _, rfl, .inr (SqT.of hva'), _, rfl, ?_⟩
        rw [List.length_map]
        refine slice_beg hvb' fun y8' H8 s8 hy8 => ⟨_, rfl, ns_ne hy8 ⟨va, rfl, s8 _ _ hva'⟩ ⟨_, rfl, ite2 (fun z => ?_) (fun z => ?_)⟩⟩
        · have hne : pb.take pa.length ≠ pa := fun e => by rw [decide_eq_true e] at z; cases z
          have hT8 := hT7.same s8
          refine ⟨_, rfl, _, rfl, _, rfl, a, c7, ts, 14, rfl, hT8, by decide, fun H9 c9 n9 hn9 hH9 hT9 => ⟨_, rfl, _, rfl, ?_⟩⟩
          have k79 : Kp a H7 H9 := (kp_same s8).trans (Kp.of hH9)
          have k39 := k4.trans (k47.trans k79)
          refine ⟨v, b, n9, m, a, _, rfl, hT9, PartsAt.keep hP3 hva hT3 k39, hb, hn9, by omega, fun H10 y10' U s10 hU hbU hnU => ?_⟩
          have k710 := k79.trans (kp_same s10)
          have tu := Tups.kp hT7 k710
          refine ⟨vg, .ref vb, y10', toTd g, U, pb, a, _, rfl, hT9.same s10, td_tm (by omega) gg ((hvg7.tups tu).tups (rmv_tups (hT9.same s10))), ⟨vb, rfl, tu _ _ hvb'⟩, hU, Fam.ok_rp hmb, by omega, fun H11 y11' s11 hy11 => ?_⟩
          refine ⟨y11', _, c9, rfl, k710.trans (kp_same s11), hT9.same (s10.trans s11), hy11, good_repl gt (Fam.ok_rp hmb) ?_ hne, ?_⟩
          · rcases lexN_tri pa pb with h | h | h
            · exact h
            · subst h
              exact absurd (List.take_length) hne
            · exact absurd h hnl
          · have := repl_nodes U (toTd g) pb
            rw [td_nodes] at this
            omega
        · exact ⟨vg, toTd g, c7, rfl, kp_same s8, hT7.same s8, td_tm (by omega) gg ((hvg7.same s8).tups (rmv_tups (hT7.same s8))), gt, by rw [td_nodes]; omega⟩
      rintro σ' H8 ⟨vd, T', c8, rfl, k78, hT8, hvd, gt', nT'⟩
      refine ⟨_, rfl, _, rfl, _, rfl, a, c8, ts, 14, rfl, hT8, by decide, fun H9 c9 n9 hn9 hH9 hT9 => ⟨_, rfl, _, rfl, ?_⟩⟩
      have k89 : Kp a H8 H9 := Kp.of hH9
      have k39 := k4.trans (k47.trans (k78.trans k89))
      refine ⟨v, b, n9, m, a, _, rfl, hT9, PartsAt.keep hP3 hva hT3 k39, hb, hn9, by omega, fun H10 y10' U s10 hU hbU hnU => ?_⟩
      have k810 := k89.trans (kp_same s10)
      have tu7 := Tups.kp hT7 (k78.trans k810)
      have hva10 := tu7 _ _ hva'
      refine ⟨vd, .ref va, y10', T', U, pa, a, _, rfl, hT9.same s10, hvd.same (rmv_kp k810), ⟨va, rfl, hva10⟩, hU, gt'.ok, by omega, fun H11 vb2 s11 hvb2 => ?_⟩
      have k311 := k39.trans (kp_same (s10.trans s11))
      have hT11 := hT9.same (s10.trans s11)
      have hck := check_first (first_at hbU [] gt')
      have hnn := repl_nodes U T' pa
      refine ⟨_, rfl, _, rfl, _, rfl, _, rfl, x, vb2, b, replT T' pa U, m, oe, pa, rfl, hB3.keep hT3 k311, hvb2.same rmv_same, by omega, by omega, hck, fun H12 yr s12 hyr => ?_⟩
      refine ⟨_, rfl, ns_same hyr ⟨va, rfl, (s11.trans s12) _ _ hva10⟩ ⟨_, rfl, iteF ?_⟩⟩
      exact ⟨_, _, _, _, _, _, _, c9, rfl, k311.trans (kp_same s12), hT11.same s12⟩
    rintro σ H4 ⟨y6, y7, y8, y9, y10, y11, y12, c4, rfl, k4, hT4⟩
    have ht4 := ht3.tups (Tups.kp hT3 k4)
    have hcu4 := hcu3.tups (Tups.kp hT3 k4)
    have hB4 := hB3.keep hT3 k4
    have k04 := k03.trans k4
    -- no hole at all; nothing
    refine ⟨_, rfl, _, rfl, _, rfl, x, vt, b, toTd t, m, true, [], rfl, hB4, td_tm (by omega) hg ht4, by rw [td_nodes]; omega, by omega, open_many hb hg (by omega), fun H5 y5 s5 hy5 => ?_⟩
    refine ⟨small (m := 1) (Nat.zero_le _), fun q5 hq5 => ?_⟩
    have e5 := same_new (o := .tup []) hq5
    refine ns_same (l := []) (PlacesAt.tups (Tups.of e5) hy5) ⟨q5, rfl, upd_same⟩ ⟨_, rfl, iteF ?_⟩
    have s45 := s5.trans e5
    refine ⟨_, rfl, _, rfl, x, .non, b, toTd .hole, m, false, [], rfl, hB4.same s45, ⟨.non, trivial, fun a bs e => (by cases e)⟩, by decide, by omega, check_first (first_gap hb (m := m) (t := .hole) [] trivial (Nat.le_refl _)), fun H6 y6' s6 hy6 => ?_⟩
    refine ⟨small (m := 1) (Nat.zero_le _), fun q6 hq6 => ?_⟩
    have e6 := same_new (o := .tup []) hq6
    refine ns_same (l := []) (PlacesAt.tups (Tups.of e6) hy6) ⟨q6, rfl, upd_same⟩ ⟨_, rfl, iteF ?_⟩
    have sB := s45.trans (s6.trans e6)
    obtain ⟨H7, eH7⟩ : ∃ H7, H7 = upd H6 q6 (.tup []) := ⟨_, rfl⟩
    rw [← eH7] at sB ⊢
    clear eH7
    -- the first leaf
    refine ⟨fun σ' H' => ∃ (vl : V), σ' = [some (.ref x), some v, some (.ref a), some vt, some (vInt m), some vo, y6, y7, y8, y9, y10, y11, y12, some vl, none, none, none] ∧ Same H4 H' ∧ PlacesAt H' vl (lm t), ?_, ?_⟩
    · skip
      refine ⟨_, rfl, vt, t, rfl, ht4.same sB, n_t, fun H8 p8 xs8 s8 np8 hp8 hA8 => ⟨p8, rfl, ⟨_, SqL.of hp8⟩, fun D hD => ?_⟩⟩
      have sB8 := sB.trans s8
      have l8 := hA8.len
      rw [rp_len] at l8
      refine lc_list (K := K) (a := p8) (xs := xs8) (fun i H' => Same H8 H' ∧ ∃ ys, H' D = some (.lst ys) ∧ Al (PlacesAt H8) ys (((rp t).take i).filter fun p => isLf (subT t p)) ∧ ys.length ≤ i) ⟨same_new hD, [], upd_same, trivial, Nat.le_refl _⟩ (fun i H' _ h => SqL.of (h.1 _ _ hp8)) ?_ ?_
      · rintro i z H9 hz ⟨s9, ys, hd9, hA9, hl9⟩
        obtain ⟨pth, hpth, hzp⟩ := hA8.get hz
        have hil : i < (rp t).length := (List.getElem?_eq_some_iff.mp hpth).1
        have hie : (rp t)[i] = pth := (List.getElem?_eq_some_iff.mp hpth).2
        have hmem := List.mem_of_getElem? hpth
        have hln := rp_len t
        have fst : ((rp t).take (i + 1)).filter (fun p => isLf (subT t p)) = ((rp t).take i).filter (fun p => isLf (subT t p)) ++ (if isLf (subT t pth) = true then [pth] else []) := by
          rw [take_more hil, List.filter_append, hie, List.filter_cons]
          rfl
        rw [fst]
        have yes : isLf (subT t pth) = true → ∃ acc, H9 D = some (.lst acc) ∧ acc.length < sizeLine ∧ (Same H8 (upd H9 D (.lst (acc ++ [z]))) ∧ ∃ ys', (upd H9 D (.lst (acc ++ [z]))) D = some (.lst ys') ∧ Al (PlacesAt H8) ys' (((rp t).take i).filter (fun p => isLf (subT t p)) ++ (if isLf (subT t pth) = true then [pth] else [])) ∧ ys'.length ≤ i + 1) := fun h => by
          refine ⟨ys, hd9, below (m := 300) (by omega), same_upd s9 hD, ys ++ [z], upd_same, ?_, by rw [List.length_append]; show ys.length + 1 ≤ _; omega⟩
          rw [if_pos h]
          exact hA9.append ⟨hzp, trivial⟩
        have no : ¬ isLf (subT t pth) = true → (Same H8 H9 ∧ ∃ ys', H9 D = some (.lst ys') ∧ Al (PlacesAt H8) ys' (((rp t).take i).filter (fun p => isLf (subT t p)) ++ (if isLf (subT t pth) = true then [pth] else [])) ∧ ys'.length ≤ i + 1) := fun h => ⟨s9, ys, hd9, by rw [if_neg h, List.append_nil]; exact hA9, by omega⟩
        refine ⟨wipe_one, _, rfl, _, rfl, vt, z, t, pth, rfl, ht4.same (sB8.trans s9), PlacesAt.tups (Tups.of s9) hzp, hmem, fun y hy => ?_⟩
        have hsw := sub_whole t pth hwh
        cases e : subT t pth with
        | hole => rw [e] at hsw; cases hsw
        | leaf a0 b0 =>
          rw [e] at hy
          obtain ⟨q, q', rfl, h1, h2⟩ := hy
          rw [e] at yes no
          refine ⟨q, _, rfl, .inr (SqT.of h1), rfl, _, rfl, iteT ⟨_, rfl, yes rfl⟩⟩
        | join j0 l0 r0 =>
          rw [e] at hy
          obtain ⟨q, y1, z1, rfl, h1, h2, h3⟩ := hy
          rw [e] at yes no
          refine ⟨q, _, rfl, .inr (SqT.of h1), rfl, _, rfl, iteF (no Bool.false_ne_true)⟩
      rintro H9 ⟨s9, ys, hd9, hA9, _⟩
      rw [l8, ← rp_len, List.take_length] at hA9
      obtain ⟨rest, er⟩ := lf_first t hwh
      rw [er] at hA9
      obtain ⟨y0, hy0, hyp⟩ := hA9.get2 (i := 0) rfl
      refine ⟨D, _, _, y0, rfl, rfl, SqL.of hd9, atI_nat (j := 0) hy0, y0, ?_⟩
      exact ⟨rfl, sB8.trans s9, PlacesAt.tups (Tups.of s9) hyp⟩
    rintro σ' H8 ⟨vl, rfl, sB, hvl⟩
    refine ⟨_, rfl, _, rfl, _, rfl, _, _, rfl, rfl, x, vt, b, toTd t, m + 1, false, lm t, (congrArg (fun z => [V.ref x, vt, V.int z, V.bl false]) (by omega)), hB4.same sB, td_tm (by omega) hg (ht4.same sB), by rw [td_nodes]; omega, by omega, check_first (first_more [] hg hwh), fun H9 y9' s9 hy9 => ?_⟩
    refine ⟨_, rfl, ns_same hy9 (PlacesAt.tups (Tups.of s9) hvl) ⟨_, rfl, iteF ?_⟩⟩
    replace sB := sB.trans s9
    clear hvl hy9 s9
    -- the gap
    refine ⟨fun σ' H' => ∃ (vg : V), σ' = [some (.ref x), some v, some (.ref a), some vt, some (vInt m), some vo, y6, y7, y8, y9, y10, y11, y12, some vl, some vg, none, none] ∧ Same H4 H' ∧ PlacesAt H' vg (gp cu), ?_, ?_⟩
    · skip
      refine ⟨_, rfl, vo, cu, rfl, hcu4.same sB, n_cu, fun H8 p8 xs8 s8 np8 hp8 hA8 => ⟨p8, rfl, ⟨_, SqL.of hp8⟩, fun D hD => ?_⟩⟩
      have sB8 := sB.trans s8
      have l8 := hA8.len
      rw [rp_len] at l8
      refine lc_list (K := K) (a := p8) (xs := xs8) (fun i H' => Same H8 H' ∧ ∃ ys, H' D = some (.lst ys) ∧ Al (PlacesAt H8) ys (((rp cu).take i).filter fun p => isHl (subT cu p)) ∧ ys.length ≤ i) ⟨same_new hD, [], upd_same, trivial, Nat.le_refl _⟩ (fun i H' _ h => SqL.of (h.1 _ _ hp8)) ?_ ?_
      · rintro i z H9 hz ⟨s9, ys, hd9, hA9, hl9⟩
        obtain ⟨pth, hpth, hzp⟩ := hA8.get hz
        have hil : i < (rp cu).length := (List.getElem?_eq_some_iff.mp hpth).1
        have hie : (rp cu)[i] = pth := (List.getElem?_eq_some_iff.mp hpth).2
        have hmem := List.mem_of_getElem? hpth
        have hln := rp_len cu
        have fst : ((rp cu).take (i + 1)).filter (fun p => isHl (subT cu p)) = ((rp cu).take i).filter (fun p => isHl (subT cu p)) ++ (if isHl (subT cu pth) = true then [pth] else []) := by
          rw [take_more hil, List.filter_append, hie, List.filter_cons]
          rfl
        rw [fst]
        have yes : isHl (subT cu pth) = true → ∃ acc, H9 D = some (.lst acc) ∧ acc.length < sizeLine ∧ (Same H8 (upd H9 D (.lst (acc ++ [z]))) ∧ ∃ ys', (upd H9 D (.lst (acc ++ [z]))) D = some (.lst ys') ∧ Al (PlacesAt H8) ys' (((rp cu).take i).filter (fun p => isHl (subT cu p)) ++ (if isHl (subT cu pth) = true then [pth] else [])) ∧ ys'.length ≤ i + 1) := fun h => by
          refine ⟨ys, hd9, below (m := 300) (by omega), same_upd s9 hD, ys ++ [z], upd_same, ?_, by rw [List.length_append]; show ys.length + 1 ≤ _; omega⟩
          rw [if_pos h]
          exact hA9.append ⟨hzp, trivial⟩
        have no : ¬ isHl (subT cu pth) = true → (Same H8 H9 ∧ ∃ ys', H9 D = some (.lst ys') ∧ Al (PlacesAt H8) ys' (((rp cu).take i).filter (fun p => isHl (subT cu p)) ++ (if isHl (subT cu pth) = true then [pth] else [])) ∧ ys'.length ≤ i + 1) := fun h => ⟨s9, ys, hd9, by rw [if_neg h, List.append_nil]; exact hA9, by omega⟩
        refine ⟨wipe_one, _, rfl, _, rfl, vo, z, cu, pth, rfl, hcu4.same (sB8.trans s9), PlacesAt.tups (Tups.of s9) hzp, hmem, fun y hy => ?_⟩
        cases e : subT cu pth with
        | hole =>
          rw [e] at hy
          have ey : y = .non := hy
          subst ey
          rw [e] at yes no
          exact ⟨rfl, _, rfl, iteT ⟨_, rfl, yes rfl⟩⟩
        | leaf a0 b0 =>
          rw [e] at hy
          obtain ⟨q, q', rfl, h1, h2⟩ := hy
          rw [e] at yes no
          exact ⟨rfl, _, rfl, iteF (no Bool.false_ne_true)⟩
        | join j0 l0 r0 =>
          rw [e] at hy
          obtain ⟨q, y1, z1, rfl, h1, h2, h3⟩ := hy
          rw [e] at yes no
          exact ⟨rfl, _, rfl, iteF (no Bool.false_ne_true)⟩
      rintro H9 ⟨s9, ys, hd9, hA9, _⟩
      rw [l8, ← rp_len, List.take_length] at hA9
      obtain ⟨rest, er⟩ := hl_first cu (by omega)
      rw [er] at hA9
      obtain ⟨y0, hy0, hyp⟩ := hA9.get2 (i := 0) rfl
      refine ⟨D, _, _, y0, rfl, rfl, SqL.of hd9, atI_nat (j := 0) hy0, y0, ?_⟩
      exact ⟨rfl, sB8.trans s9, PlacesAt.tups (Tups.of s9) hyp⟩
    rintro σ' H10 ⟨vg, rfl, sC, hvg⟩
    refine ⟨_, rfl, small (m := 3) (Nat.le_refl _), fun q11 hq11 => ?_⟩
    have e11 := same_new (o := .tup [V.int 0, vo, V.non]) hq11
    have f11 := upd_same (H := H10) (a := q11) (o := .tup [V.int 0, vo, V.non])
    have hvg11 := PlacesAt.tups (Tups.of e11) hvg
    replace sC := sC.trans e11
    obtain ⟨H11, eH11⟩ : ∃ H11, H11 = upd H10 q11 (.tup [V.int 0, vo, V.non]) := ⟨_, rfl⟩
    rw [← eH11] at f11 hvg11 sC ⊢
    clear eH11
    refine ⟨_, rfl, _, rfl, _, rfl, x, vo, b, toTd cu, m, false, gp cu, rfl, hB4.same sC, td_tm (by omega) gcu (hcu4.same sC), by rw [td_nodes]; omega, by omega, check_first (first_gap hb [] gcu (by omega)), fun H12 y12' s12 hy12 => ?_⟩
    refine ⟨_, rfl, ns_eq hy12 (PlacesAt.tups (Tups.of s12) hvg11) ⟨_, rfl, iteT ?_⟩⟩
    have sD := sC.trans s12
    have g2 : TmG b m (.join 0 cu .hole) := ⟨hb.j1, gcu, trivial⟩
    have h2 : holesM (.join 0 cu .hole) ≠ 1 := by show holesM cu + 1 ≠ 1; omega
    refine ⟨_, rfl, _, rfl, _, rfl, x, .ref q11, b, toTd (.join 0 cu .hole), m, true, [], rfl, hB4.same sD, td_tm (t := .join 0 cu .hole) (by omega) g2 ⟨q11, vo, .non, rfl, s12 _ _ f11, hcu4.same sD, rfl⟩, by rw [td_nodes]; show cu.nodes + 1 + 1 ≤ 1000; omega, by omega, open_many hb g2 h2, fun H13 y13 s13 hy13 => ?_⟩
    refine ⟨small (m := 1) (Nat.zero_le _), fun q13 hq13 => ?_⟩
    have e13 := same_new (o := .tup []) hq13
    refine ns_eq (l := []) (PlacesAt.tups (Tups.of e13) hy13) ⟨q13, rfl, upd_same⟩ ?_
    have sE := sD.trans (s13.trans e13)
    exact k _ c4 (k04.trans (kp_same sE)) (hT4.same sE)
end
end Fam

/-! The law. -/
namespace Fam
open PySem L2 S5 ItX OwnX
open C8 (pss_cut tCut)
def lawScope : List Stmt → Scope
  | .If _ (.Assign _ (.ListComp _ _ sc _) _ :: _) _ _ :: _ => sc
  | _ :: r => lawScope r
  | [] => default
abbrev scLAWin : Scope := relabel (lawScope (defBody sLaw)) (PyProof.Rows.envOfC "law" (defScope sLaw) 0 0 .none)
def spLaw (K : PySem.W.Frag) : Sp := fun vs H Q _ => ∃ (a : Addr) (ns : List Int), vs = [.ref a] ∧ SqL K H a (ns.map V.int) ∧ ns.length ≤ 63 ∧ ∀ H', Q (.bl true) H'
section
variable {P : Program} {w : World} {K : PySem.W.Frag} {mg : Str → Option Value} {base : Heap} {C CW B BL : Addr}
abbrev nLAW : List Str := ["_law_script", "_law_tape", "_law_parts", "_law_turns", "_law_pairs_here", "_law_bench", "_law_many", "_law_term_here", "_law_other", "_law_k", "_law_a"]
theorem scLAW : FnScope nLAW ["_law_script"] (defScope sLaw) := ⟨rfl, rfl, rfl, by decide +kernel, rfl, by decide +kernel, by decide +kernel⟩
theorem ok_law {f gi : Addr} {fd gid : FuncData} (F : Fun K "law" "law" sLaw f fd) (T : Bare mg) (m_Bench : mg "Bench" = some (.ref C)) (MK_Bench : Mk K C gi) (ok_Bench : FnOk P w K mg base CX0 7 gi gid ["self", "labels", "starts", "joins"] (spBenchInit C)) (b_Bench : Binds K gid ["self", "labels", "starts", "joins"] [])
    (GDr : Cal P w K mg base 1 "_law_draws" ["_law_script"] (spDraws K)) (GT : Cal P w K mg base 1 "_law_take" ["_law_tape", "_law_many"] spDraw) (GA : Cal P w K mg base 4 "_law_any_bench" ["_law_tape"] spDrawnBench) (GP : Cal P w K mg base 2 "_law_pairs" ["_law_tape", "_law_labels"] spLPairs)
    (GTe : Cal P w K mg base 4 "_law_term" ["_law_tape", "_law_parts", "_law_size", "_law_many"] spLTerm) (GW : Cal P w K mg base 8 "_law_web_ok" ["_law_bench", "_law_parts", "_law_term_here", "_law_many"] (spLWebOk C CW)) (GPu : Cal P w K mg base 8 "_law_put_ok" ["_law_bench", "_law_parts", "_law_tape", "_law_term_here", "_law_many"] (spLPutOk C))
    (GC : Cal P w K mg base 7 "_law_colour_ok" ["_law_tape", "_law_term_here", "_law_many"] spColourOk) (GH : Cal P w K mg base 6 "_law_hung_ok" ["_law_term_here", "_law_other", "_law_often"] spHungOk) (GS : Cal P w K mg base 6 "_law_spoils_ok" ["_law_bench", "_law_parts", "_law_tape", "_law_term_here", "_law_many"] (spSpoilsOk C)) :
    FnOk P w K mg base CX0 9 f fd ["_law_script"] (spLaw K) := by
  obtain ⟨_, _, ok_dr, b_dr, k_dr, m_dr⟩ := GDr.ex
  obtain ⟨_, _, ok_tk, b_tk, k_tk, m_tk⟩ := GT.ex
  obtain ⟨_, _, ok_ab, b_ab, k_ab, m_ab⟩ := GA.ex
  obtain ⟨_, _, ok_pr, b_pr, k_pr, m_pr⟩ := GP.ex
  obtain ⟨_, _, ok_te, b_te, k_te, m_te⟩ := GTe.ex
  obtain ⟨_, _, ok_wo, b_wo, k_wo, m_wo⟩ := GW.ex
  obtain ⟨_, _, ok_po, b_po, k_po, m_po⟩ := GPu.ex
  obtain ⟨_, _, ok_co, b_co, k_co, m_co⟩ := GC.ex
  obtain ⟨_, _, ok_ho, b_ho, k_ho, m_ho⟩ := GH.ex
  obtain ⟨_, _, ok_so, b_so, k_so, m_so⟩ := GS.ex
  refine F.ok scLAW (fun vs H Q E h => ?_) (fun cdv A outer s H vs Q E hr h => ?_)
  · obtain ⟨a, ns, rfl, _⟩ := h
    rfl
  · obtain ⟨sa, ns, rfl, hS, hl, k⟩ := h
    have hr_wo := hr
    have hr_po := hr
    have hr_Bench := hr
    have hr_co := hr.mono (j := 7) (by decide)
    have hr_ho := hr.mono (j := 6) (by decide)
    have hr_so := hr_ho
    have hr_ab := hr.mono (j := 4) (by decide)
    have hr_te := hr_ab
    have hr_pr := hr.mono (j := 2) (by decide)
    have hr_tk := hr.mono (j := 1) (by decide)
    have hr_dr := hr_tk
    refine ⟨_, (pss_cons (ps_set (i := 1) scLAW.nd rfl (Or.inr rfl) (pe_call ok_dr hr_dr rfl m_dr k_dr b_dr .nil pass0 (pa_cons (pv 0) pa_nil)))
      (pss_cons (ps_set (i := 2) scLAW.nd rfl (Or.inl rfl) (pe_call ok_ab hr_ab rfl m_ab k_ab b_ab .nil pass0 (pa_cons (pv 1) pa_nil)))
      (pss_cut (ps_if (pt_cmpR op_eq (pe_call ok_tk hr_tk rfl m_tk k_tk b_tk .nil pass0 (pa_cons (pv 1) (pa_cons pe_int pa_nil))) pe_int (nomark _)) (pss_cons (ps_set (i := 3) scLAW.nd rfl (Or.inr rfl) (pe_lc (own := [("_law_k", 9)]) (g := gName 9) (tt := tYes) (te := tThen (tLc (iRng1 (tCons (tC (.int 3)) tNil)) (gName 10) tYes (tCall spDraw [] E0 (tCons (tVar 1) (tCons (tC (.int 3)) tNil))) [10]) (kTup K)) rfl scLAW.nd (pi_range1 rfl T.range (pa_cons pe_int pa_nil)) (blkOk_by (own := [("_law_k", 9)]) (N := nLAW) (sc := defScope sLaw) (by decide +kernel)) (fun _ _ _ _ _ => pg_name (i := 9) scLAW.nd rfl (Or.inl rfl)) (fun _ _ _ _ _ => pts_nil) (fun _ _ _ _ _ => pe_tupleOf (by rfl) T.tuple (pe_lc (own := [("_law_a", 10)]) (g := gName 10) (tt := tYes) rfl scLAW.nd (pi_range1 rfl T.range (pa_cons pe_int pa_nil)) (blkOk_by (own := [("_law_a", 10)]) (N := nLAW) (sc := scLAWin) (by decide +kernel)) (fun _ _ _ _ _ => pg_name (i := 10) scLAW.nd rfl (Or.inl rfl)) (fun _ _ _ _ _ => pts_nil) (fun _ _ _ _ _ => pe_call ok_tk hr_tk rfl m_tk k_tk b_tk .nil pass0 (pa_cons (pv 1) (pa_cons pe_int pa_nil)))))))
          (pss_cons (ps_set (i := 4) scLAW.nd rfl (Or.inr rfl) (pe_lc (own := [("_law_k", 9)]) (g := gName 9) (tt := tYes) rfl scLAW.nd (pi_range1 rfl T.range (pa_cons pe_int pa_nil)) (blkOk_by (own := [("_law_k", 9)]) (N := nLAW) (sc := defScope sLaw) (by decide +kernel)) (fun _ _ _ _ _ => pg_name (i := 9) scLAW.nd rfl (Or.inl rfl)) (fun _ _ _ _ _ => pts_nil) (fun _ _ _ _ _ => pe_call ok_pr hr_pr rfl m_pr k_pr b_pr .nil pass0 (pa_cons (pv 1) (pa_cons pe_int pa_nil)))))
          (pss_one (ps_set (i := 2) scLAW.nd rfl (Or.inl rfl) (pe_lst (pa_cons pe_int (pa_cons (pe_tup (pa_cons pe_int (pa_cons pe_int pa_nil))) (pa_cons (pe_tupleOf (by rfl) T.tuple (pe_lc (own := [("_law_k", 9)]) (g := gName 9) (tt := tYes) rfl scLAW.nd (pi_range1 rfl T.range (pa_cons pe_int pa_nil)) (blkOk_by (own := [("_law_k", 9)]) (N := nLAW) (sc := defScope sLaw) (by decide +kernel)) (fun _ _ _ _ _ => pg_name (i := 9) scLAW.nd rfl (Or.inl rfl)) (fun _ _ _ _ _ => pts_nil) (fun _ _ _ _ _ => pe_tup (pa_cons (pe_ix (ix_list : IxR _ (rIxL K)) (pv 4) (pv 9) (fun _ _ => rfl)) (pa_cons (pe_ix (ix_list : IxR _ (rIxL K)) (pv 4) (pe_op op_add (pv 9) pe_int) (fun _ _ => rfl)) (pa_cons (pe_ix (ix_list : IxR _ (rIxL K)) (pv 3) (pv 9) (fun _ _ => rfl)) (pa_cons (pe_ix (ix_list : IxR _ (rIxL K)) (pv 3) (pe_op op_add (pv 9) pe_int) (fun _ _ => rfl)) pa_nil))))))) pa_nil)))))))) pss_nil)
      (pss_cons (ps_set (i := 5) scLAW.nd rfl (Or.inl rfl) (pe_make MK_Bench ok_Bench hr_Bench rfl m_Bench b_Bench .nil pass0 (pa_cons (pe_ix ix_list (pv 2) pe_int (fun _ _ => rfl)) (pa_cons (pe_ix ix_list (pv 2) pe_int (fun _ _ => rfl)) (pa_cons (pe_ix ix_list (pv 2) pe_int (fun _ _ => rfl)) pa_nil)))))
      (pss_cons (ps_set (i := 6) scLAW.nd rfl (Or.inl rfl) (pe_call ok_tk hr_tk rfl m_tk k_tk b_tk .nil pass0 (pa_cons (pv 1) (pa_cons pe_int pa_nil))))
      (pss_cons (ps_set (i := 7) scLAW.nd rfl (Or.inl rfl) (pe_call ok_te hr_te rfl m_te k_te b_te .nil pass0 (pa_cons (pv 1) (pa_cons (pv 2) (pa_cons (pe_op op_add pe_int (pe_call ok_tk hr_tk rfl m_tk k_tk b_tk .nil pass0 (pa_cons (pv 1) (pa_cons pe_int pa_nil)))) (pa_cons (pv 6) pa_nil))))))
      (pss_cons (ps_if (pt_not (pt_val (pe_call ok_wo hr_wo rfl m_wo k_wo b_wo .nil pass0 (pa_cons (pv 5) (pa_cons (pv 2) (pa_cons (pv 7) (pa_cons (pv 6) pa_nil))))))) (pss_one (ps_ret pe_bl)) pss_nil)
      (pss_cons (ps_if (PW.pt (pw_or (pt_not (pt_val (pe_call ok_po hr_po rfl m_po k_po b_po .nil pass0 (pa_cons (pv 5) (pa_cons (pv 2) (pa_cons (pv 1) (pa_cons (pv 7) (pa_cons (pv 6) pa_nil)))))))) (pw_or1 (pt_not (pt_val (pe_call ok_co hr_co rfl m_co k_co b_co .nil pass0 (pa_cons (pv 1) (pa_cons (pv 7) (pa_cons (pv 6) pa_nil))))))))) (pss_one (ps_ret pe_bl)) pss_nil)
      (pss_cons (ps_set (i := 8) scLAW.nd rfl (Or.inl rfl) (pe_call ok_te hr_te rfl m_te k_te b_te .nil pass0 (pa_cons (pv 1) (pa_cons (pv 2) (pa_cons (pe_op op_add pe_int (pe_call ok_tk hr_tk rfl m_tk k_tk b_tk .nil pass0 (pa_cons (pv 1) (pa_cons pe_int pa_nil)))) (pa_cons (pv 6) pa_nil))))))
      (pss_one (ps_ret (pe_and (pe_call ok_ho hr_ho rfl m_ho k_ho b_ho .nil pass0 (pa_cons (pv 7) (pa_cons (pv 8) (pa_cons (pe_call ok_tk hr_tk rfl m_tk k_tk b_tk .nil pass0 (pa_cons (pv 1) (pa_cons pe_int pa_nil))) pa_nil)))) (pe_one (pe_call ok_so hr_so rfl m_so k_so b_so .nil pass0 (pa_cons (pv 5) (pa_cons (pv 2) (pa_cons (pv 1) (pa_cons (pv 7) (pa_cons (pv 6) pa_nil))))))))))))))))))), ?_⟩
    refine ⟨_, rfl, sa, ns, rfl, hS, hl, fun H1 ta ts s1 hta hT1 => ?_⟩
    refine ⟨_, rfl, ta, 0, ts, rfl, hT1, fun H2 c2 p b0 k2 hT2 np hP hok => ?_⟩
    refine ⟨fun σ' H' => ∃ (y3 y4 : Option V) (p : Addr) (b : Bn) (c : Nat), σ' = [some (.ref sa), some (.ref ta), some (.ref p), y3, y4, none, none, none, none, none, none] ∧ TapeAt H' ta c ts ∧ p ≠ ta ∧ PartsAt H' (.ref p) b ∧ BnOk b, ?_, ?_⟩
    · refine ⟨_, rfl, ta, c2, ts, 6, rfl, hT2, by decide, fun H3 c3 n hn hH3 hT3 => ⟨rfl, _, rfl, ite2 (fun _ => ?_) (fun _ => ?_)⟩⟩
      · -- a bench of its own
        refine ⟨_, rfl, by decide, by decide, ?_⟩
        rw [show (6 : Int).toNat = 6 from rfl]
        intro D hD
        have nD := tape_ne hT3 hD
        refine lc_range (lo := 0) (n := 6) (fun i H' => Kp ta H3 H' ∧ ∃ (c : Nat) (rv : List V) (rows : List (List Nat)), TapeAt H' ta c ts ∧ H' D = some (.lst rv) ∧ Al (PlacesAt H') rv rows ∧ rows.length = i ∧ ∀ r ∈ rows, r.length = 3 ∧ GLabs 3 r) ⟨(Kp.refl ta H3).upd hD, c3, [], [], hT3.upd nD, upd_same, trivial, rfl, (fun r h => by cases h)⟩ ?_ ?_
        · rintro i H4 hi ⟨k4, c4, rv, rows, hT4, hD4, hR4, hl4, hr4⟩
          have lrv := hR4.len
          refine ⟨rfl, _, rfl, by decide, by decide, ?_⟩
          rw [show (3 : Int).toNat = 3 from rfl]
          intro D7 hD7
          refine draws_ask (i := 10) (m := 3) (n := 3) hD7 hT4 (by decide) (by decide) (fun σ' H' c' Q' e hT' kk => ?_) ?_ fun H7 c7 row nD7 k7 hT7 hL7 hl7 hg7 => ?_
          · obtain ⟨v, rfl⟩ := e
            exact ⟨_, rfl, ta, c', ts, 3, rfl, hT', by decide, fun H2 c2 x hx h1 h2 => kk H2 c2 x hx h1 h2⟩
          · exact fun v => rfl
          have hD47 := k7 D _ nD hD4
          refine .inl ⟨D7, _, rfl, SqL.of hL7, fun q hq => ?_⟩
          have e8 := same_new (o := .tup (row.map vInt)) hq
          have tu := (Tups.kp hT4 k7).trans ((Tups.of e8).trans (Tups.upd (o := .lst (rv ++ [.ref q])) (e8 _ _ hD47)))
          refine ⟨rv, e8 _ _ hD47, below (m := 300) (by omega), (k4.trans (k7.trans (kp_same e8))).upd hD, c7, rv ++ [.ref q], rows ++ [row], (hT7.same e8).upd nD, upd_same, ?_, by rw [List.length_append, hl4]; rfl, fun r hr => ?_⟩
          · exact (hR4.imp fun _ _ h => PlacesAt.tups tu h).append ⟨⟨q, rfl, Tups.upd (e8 _ _ hD47) _ _ upd_same⟩, trivial⟩
          · rcases List.mem_append.mp hr with h | h
            · exact hr4 r h
            · rw [List.mem_singleton.mp h]
              exact ⟨hl7, hg7⟩
        rintro H4 ⟨k4, c4, rv, rows, hT4, hD4, hR4, hl4, hr4⟩
        refine ⟨_, rfl, by decide, by decide, ?_⟩
        rw [show (6 : Int).toNat = 6 from rfl]
        intro D5 hD5
        have nD5 := tape_ne hT4 hD5
        refine lc_range (lo := 0) (n := 6) (fun i H' => Kp ta H4 H' ∧ ∃ (c : Nat) (pv : List V) (prs : List (List Arr)), TapeAt H' ta c ts ∧ H' D5 = some (.lst pv) ∧ Al (PrsAt H') pv prs ∧ prs.length = i ∧ ∀ r ∈ prs, PrsOk 3 r) ⟨(Kp.refl ta H4).upd hD5, c4, [], [], hT4.upd nD5, upd_same, trivial, rfl, (fun r h => by cases h)⟩ ?_ ?_
        · rintro i H5 hi ⟨k5, c5, pv, prs, hT5, hD55, hR5, hl5, hr5⟩
          have lpv := hR5.len
          refine ⟨rfl, _, rfl, ta, c5, ts, 3, rfl, hT5, by decide, fun H6 c6 v as k6 hT6 hv hvo => ?_⟩
          have hD56 := k6 D5 _ nD5 hD55
          have tu := (Tups.kp hT5 k6).trans (Tups.upd (o := .lst (pv ++ [v])) hD56)
          refine ⟨pv, hD56, below (m := 300) (by omega), (k5.trans k6).upd hD5, c6, pv ++ [v], prs ++ [as], hT6.upd nD5, upd_same, ?_, by rw [List.length_append, hl5]; rfl, fun r hr => ?_⟩
          · exact (hR5.imp fun _ _ h => h.tups tu).append ⟨hv.tups (Tups.upd hD56), trivial⟩
          · rcases List.mem_append.mp hr with h | h
            · exact hr5 r h
            · rw [List.mem_singleton.mp h]
              exact hvo
        rintro H5 ⟨k5, c5, pv, prs, hT5, hD55, hR5, hl5, hr5⟩
        have hD45 := k5 D _ nD hD4
        have hR45 := hR4.imp fun _ _ h => PlacesAt.tups (Tups.kp hT4 k5) h
        refine ⟨small (m := 2) (Nat.le_refl _), fun q2 hq2 => ?_⟩
        have e6 := same_new (o := .tup [V.int 0, V.int 2]) hq2
        refine ⟨_, rfl, by decide, by decide, ?_⟩
        rw [show (3 : Int).toNat = 3 from rfl]
        intro D6 hD6
        obtain ⟨jn, ejn⟩ : ∃ jn : Nat → Jn, jn = fun i => ⟨prs.getD i [], prs.getD (i + 3) [], rows.getD i [], rows.getD (i + 3) []⟩ := ⟨_, rfl⟩
        refine lc_range (lo := 0) (n := 3) (fun i H' => Same (upd H5 q2 (.tup [V.int 0, V.int 2])) H' ∧ ∃ (jv : List V), H' D6 = some (.lst jv) ∧ Al (JnAt H') jv ((List.range i).map jn)) ⟨same_new hD6, [], upd_same, trivial⟩ ?_ ?_
        · rintro i H7 hi ⟨s7, jv, hd7, hA7⟩
          have ei : (0 : Int) + i = ((i : Nat) : Int) := by omega
          have ei3 : ((i : Nat) : Int) + 3 = ((i + 3 : Nat) : Int) := by omega
          rw [ei]
          have ljv := hA7.len
          rw [List.length_map, List.length_range] at ljv
          have gp1 : prs[i]? = some (prs.getD i []) := by rw [List.getD_eq_getElem?_getD, List.getElem?_eq_getElem (by omega)]; rfl
          have gp2 : prs[i + 3]? = some (prs.getD (i + 3) []) := by rw [List.getD_eq_getElem?_getD, List.getElem?_eq_getElem (by omega)]; rfl
          have gr1 : rows[i]? = some (rows.getD i []) := by rw [List.getD_eq_getElem?_getD, List.getElem?_eq_getElem (by omega)]; rfl
          have gr2 : rows[i + 3]? = some (rows.getD (i + 3) []) := by rw [List.getD_eq_getElem?_getD, List.getElem?_eq_getElem (by omega)]; rfl
          obtain ⟨w1, hw1, hw1'⟩ := hR5.get2 gp1
          obtain ⟨w2, hw2, hw2'⟩ := hR5.get2 gp2
          obtain ⟨w3, hw3, hw3'⟩ := hR45.get2 gr1
          obtain ⟨w4, hw4, hw4'⟩ := hR45.get2 gr2
          have s57 := e6.trans s7
          have ix3 : ∀ (xs : List V) (w : V), xs[i + 3]? = some w → atI xs (((i : Nat) : Int) + 3) = some w := fun xs w h => by rw [ei3]; exact atI_nat h
          refine ⟨rfl, _, rfl, _, rfl, D5, _, _, w1, rfl, rfl, SqL.of (s57 _ _ hD55), atI_nat hw1, _, rfl, _, rfl, _, _, rfl, rfl, D5, _, _, w2, rfl, rfl, SqL.of (s57 _ _ hD55), ix3 _ _ hw2, _, rfl, _, rfl, D, _, _, w3, rfl, rfl, SqL.of (s57 _ _ hD45), atI_nat hw3, _, rfl, _, rfl, _, _, rfl, rfl, D, _, _, w4, rfl, rfl, SqL.of (s57 _ _ hD45), ix3 _ _ hw4, small (m := 4) (Nat.le_refl _), fun u hu => ?_⟩
          have e8 := same_new (o := .tup [w1, w2, w3, w4]) hu
          have tu := (Tups.of e8).trans (Tups.upd (o := .lst (jv ++ [.ref u])) (e8 _ _ hd7))
          have tu5 := (Tups.of s57).trans tu
          refine ⟨jv, e8 _ _ hd7, below (m := 300) (by omega), same_upd (s7.trans e8) hD6, jv ++ [.ref u], upd_same, ?_⟩
          rw [List.range_succ, List.map_append]
          refine (hA7.imp fun _ _ h => h.tups tu).append (show Al (JnAt _) [V.ref u] [jn i] from ⟨⟨u, w1, w2, w3, w4, rfl, Tups.upd (e8 _ _ hd7) _ _ upd_same, ?_, ?_, ?_, ?_⟩, trivial⟩)
          · rw [ejn]; exact hw1'.tups tu5
          · rw [ejn]; exact hw2'.tups tu5
          · rw [ejn]; exact PlacesAt.tups tu5 hw3'
          · rw [ejn]; exact PlacesAt.tups tu5 hw4'
        rintro H7 ⟨s7, jv, hd7, hA7⟩
        refine .inl ⟨D6, _, rfl, SqL.of hd7, fun q8 hq8 => ?_⟩
        have e8 := same_new (o := .tup jv) hq8
        refine ⟨small (m := 3) (Nat.le_refl _), fun R hR => ?_⟩
        have e9 := same_new (o := .lst [V.int 3, V.ref q2, V.ref q8]) hR
        have all := e6.trans (s7.trans (e8.trans e9))
        have hjl : ((List.range 3).map jn).length = 3 := by rw [List.length_map, List.length_range]
        refine ⟨_, _, R, ⟨3, [0, 2], (List.range 3).map jn⟩, c5, rfl, hT5.same all, tape_ne ((hT5.same (e6.trans (s7.trans e8)))) hR, ⟨R, .ref q2, .ref q8, rfl, upd_same, ⟨q2, rfl, (s7.trans (e8.trans e9)) _ _ upd_same⟩, ⟨q8, jv, rfl, e9 _ _ upd_same, hA7.imp fun _ _ h => h.tups (Tups.of (e8.trans e9))⟩⟩,
          ⟨by show 1 ≤ 3; decide, Nat.le_refl _, ⟨by show ∀ x ∈ [0, 2], x < 3; decide, by show 2 ≤ 100; decide⟩, by show 1 ≤ 2; decide, by show List.Pairwise (· < ·) [0, 2]; decide, by show 1 ≤ ((List.range 3).map jn).length; omega, by show ((List.range 3).map jn).length ≤ 3; omega, fun j hj => ?_⟩⟩
        obtain ⟨i, hi, rfl⟩ := List.mem_map.mp hj
        have hi3 := List.mem_range.mp hi
        have pok : ∀ z, z < 6 → PrsOk 3 (prs.getD z []) := fun z hz => by
          rw [List.getD_eq_getElem?_getD, List.getElem?_eq_getElem (by omega)]
          exact hr5 _ (List.getElem_mem (by omega))
        have rok : ∀ z, z < 6 → (rows.getD z []).length = 3 ∧ GLabs 3 (rows.getD z []) := fun z hz => by
          rw [List.getD_eq_getElem?_getD, List.getElem?_eq_getElem (by omega)]
          exact hr4 _ (List.getElem_mem (by omega))
        rw [ejn]
        exact ⟨pok i (by omega), pok (i + 3) (by omega), ⟨(rok i (by omega)).2, by show (rows.getD i []).length ≤ 100; rw [(rok i (by omega)).1]; decide⟩, ⟨(rok (i + 3) (by omega)).2, by show (rows.getD (i + 3) []).length ≤ 100; rw [(rok (i + 3) (by omega)).1]; decide⟩, (rok i (by omega)).1, (rok (i + 3) (by omega)).1⟩
      · have k3 : Kp ta H2 H3 := Kp.of hH3
        exact ⟨_, _, p, b0, c3, rfl, hT3, np, PartsAt.keep hP (fun e => np (V.ref.inj e)) hT2 k3, hok⟩
    rintro σ' H3 ⟨y3, y4, p, b, c3, rfl, hT3, np, hP, hok⟩
    have npv : V.ref p ≠ .ref ta := fun e => np (V.ref.inj e)
    obtain ⟨p', vs, vj, e1, hp, hvs, hvj⟩ := id hP
    cases e1
    refine ⟨_, rfl, p, _, _, vInt b.labels, rfl, rfl, SqL.of hp, atI_nat (j := 0) rfl, _, rfl, p, _, _, vs, rfl, rfl, SqL.of hp, atI_nat (j := 1) rfl, _, rfl, p, _, _, vj, rfl, rfl, SqL.of hp, atI_nat (j := 2) rfl, fun x dx hx hdx hne => ?_⟩
    have sm0 : Same H3 (upd (upd H3 dx (.own x)) x (.ins C dx [])) := made_new hx hdx
    refine ⟨x, dx, b, vs, vj, rfl, upd_same, by rw [upd_ne hne]; exact upd_same, PlacesAt.tups (Tups.of sm0) hvs, hvj.tups (Tups.of sm0), hok, fun H4 k4 hB4 => ⟨rfl, ?_⟩⟩
    have s34 : Same H3 H4 := fun y o e => k4 y o (ne_of_none e hx) (ne_of_none e hdx) (sm0 _ _ e)
    have hT4 := hT3.same s34
    have hP4 := hP.same s34
    refine ⟨_, rfl, ta, c3, ts, 3, rfl, hT4, by decide, fun H5 c5 m hm hH5 hT5 => ?_⟩
    have k5 : Kp ta H4 H5 := Kp.of hH5
    refine ⟨_, rfl, _, rfl, _, rfl, ta, c5, ts, 7, rfl, hT5, by decide, fun H6 c6 n1 hn1 hH6 hT6 => ⟨_, _, rfl, rfl, _, rfl, ?_⟩⟩
    have k6 := k5.trans (Kp.of hH6)
    refine ⟨ta, c6, ts, .ref p, b, 1 + n1, m, (congrArg (fun z => [V.ref ta, V.ref p, V.int z, vInt m]) (by omega)), hT6, PartsAt.keep hP4 npv hT4 k6, npv, hok, by omega, by omega, by omega, fun H7 c7 vt t k7 hT7 ht hg hwh hlt => ?_⟩
    have k47 := k6.trans k7
    have hB7 := hB4.keep hT4 k47
    have hP7 := PartsAt.keep hP4 npv hT4 k47
    refine ⟨_, rfl, _, rfl, _, rfl, _, rfl, x, .ref p, vt, b, t, m, rfl, hB7, hP7, ht, hg, hwh, by omega, by omega, fun H8 s8 => ⟨_, rfl, iteF ?_⟩⟩
    have hT8 := hT7.same s8
    refine ⟨_, rfl, _, rfl, _, rfl, _, rfl, _, rfl, x, ta, c7, ts, .ref p, vt, b, t, m, rfl, hT8, npv, hB7.same s8, hP7.same s8, ht.same s8, hg, hwh, by omega, by omega, fun H9 c9 k9 hT9 => ⟨_, rfl, iteF ?_⟩⟩
    have ht9 := (ht.same s8).tups (Tups.kp hT8 k9)
    have hB9 := (hB7.same s8).keep hT8 k9
    have hP9 := PartsAt.keep (hP7.same s8) npv hT8 k9
    refine ⟨_, rfl, _, rfl, _, rfl, ta, c9, ts, vt, b, t, m, rfl, hT9, ht9, hg, hwh, by omega, by omega, fun H10 c10 k10 hT10 => ⟨_, rfl, iteF ?_⟩⟩
    have ht10 := ht9.tups (Tups.kp hT9 k10)
    have hB10 := hB9.keep hT9 k10
    have hP10 := PartsAt.keep hP9 npv hT9 k10
    refine ⟨_, rfl, _, rfl, _, rfl, ta, c10, ts, 2, rfl, hT10, by decide, fun H11 c11 n2 hn2 hH11 hT11 => ⟨_, _, rfl, rfl, _, rfl, ?_⟩⟩
    have k11 : Kp ta H10 H11 := Kp.of hH11
    refine ⟨ta, c11, ts, .ref p, b, 1 + n2, m, (congrArg (fun z => [V.ref ta, V.ref p, V.int z, vInt m]) (by omega)), hT11, PartsAt.keep hP10 npv hT10 k11, npv, hok, by omega, by omega, by omega, fun H12 c12 vu t2 k12 hT12 hu hg2 hwh2 hlt2 => ?_⟩
    have k1012 := k11.trans k12
    refine ⟨_, rfl, _, rfl, _, rfl, ta, c12, ts, 4, rfl, hT12, by decide, fun H13 c13 n3 hn3 hH13 hT13 => ?_⟩
    have k13 : Kp ta H12 H13 := Kp.of hH13
    have k1013 := k1012.trans k13
    have ht13 := ht10.tups (Tups.kp hT10 k1013)
    refine ⟨vt, vu, t, t2, n3, rfl, ht13, hu.tups (Tups.kp hT12 k13), by omega, by omega, by omega, hwh, hwh2, by omega, fun H14 s14 => ⟨_, rfl, iteT ?_⟩⟩
    have hT14 := hT13.same s14
    refine ⟨_, rfl, _, rfl, _, rfl, _, rfl, _, rfl, x, ta, c13, ts, .ref p, vt, b, t, m, rfl, hT14, npv, (hB10.keep hT10 k1013).same s14, (PartsAt.keep hP10 npv hT10 k1013).same s14, ht13.same s14, hg, hwh, by omega, by omega, fun H15 c15 k15 hT15 => ?_⟩
    exact k H15
end
end Fam

/-! From the top's facts to the law. -/
namespace Fam
open PySem L2 OwnX S5
def MetAt (K : PySem.W.Frag) (C : Addr) (x qual : Str) (st : Stmt) (f : Addr) : Prop :=
  ∃ (od an : Option Addr) (sl : Array (Option Value)) (oc kV dc pm cd ct : Value), PySem.W.findIn K (.ref C) x = some (some (.ref f)) ∧ PySem.W.isFn K (.ref f) = true ∧
    K.lookup f = some ⟨oc, od, .func (PySem.W.fnOf x qual (defArgs st) (defBody st) (defScope st) .none kV dc pm an cd ct), sl⟩ ∧ PySem.W.codeIn K cd qual = true ∧ PySem.W.keepIn K (.ref f) = true
theorem met_at {K : PySem.W.Frag} {C : Addr} {x qual : Str} {st : Stmt} {f : Addr} {od an : Option Addr} {sl : Array (Option Value)} {oc kV dc pm cd ct : Value} (a : PySem.W.findIn K (.ref C) x = some (some (.ref f))) (b : PySem.W.isFn K (.ref f) = true)
    (l : K.lookup f = some ⟨oc, od, .func (PySem.W.fnOf x qual (defArgs st) (defBody st) (defScope st) .none kV dc pm an cd ct), sl⟩) (c : PySem.W.codeIn K cd qual = true) (k : PySem.W.keepIn K (.ref f) = true) : ∃ f, MetAt K C x qual st f := ⟨f, od, an, sl, oc, kV, dc, pm, cd, ct, a, b, l, c, k⟩
theorem met_of {K : PySem.W.Frag} {C : Addr} {x qual : Str} {st : Stmt} {f : Addr} {ps : List Str} (M : MetAt K C x qual st f)
    (hb : ∀ (kV doc pm : Value) (an : Option Addr) (cdv ct : Value) (us : List Value), us.length = ps.length → bindArgs (PySem.W.fnOf x qual (defArgs st) (defBody st) (defScope st) .none kV doc pm an cdv ct) ⟨us, []⟩ = pure (ps.zip us)) :
    ∃ fd : FuncData, Fun K x qual st f fd ∧ Meth K C x f ∧ Binds K fd ps [] := by
  obtain ⟨od, an, sl, oc, kV, dc, pm, cd, ct, a, b, l, c, k⟩ := M
  have F := fun_mk (st := st) l c k
  exact ⟨_, F, ⟨a, b, k⟩, F.binds hb⟩
/-- a def of the program that may raise -/
theorem calE {P : Program} {w : World} {K : PySem.W.Frag} {mg : Str → Option Value} {base : Heap} {h : Heap} {k : Nat} {x : Str} {st : Stmt} {ps : List Str} {sp : Sp} (X : K.In h) (G : h.Ns mainGlobals mg) (D : ∃ f, DefAt K x st f)
    (hb : ∀ (kV doc pm : Value) (an : Option Addr) (cdv ct : Value) (us : List Value), us.length = ps.length → bindArgs (PySem.W.fnOf x x (defArgs st) (defBody st) (defScope st) .none kV doc pm an cdv ct) ⟨us, []⟩ = pure (ps.zip us))
    (ok : ∀ f fd, Fun K x x st f fd → FnOk P w K mg base (L2.CX P w) k f fd ps sp) : CalE P w K mg base k x ps sp := by
  obtain ⟨f, od, an, sl, oc, kV, dc, pm, cd, ct, a, l, c, kk⟩ := D
  have F := fun_mk (st := st) l c kk
  exact ⟨f, _, ok f _ F, F.binds hb, kk, PySem.W.mg_of X G a⟩
/-- a def with one keyword-only default -/
def DefK (K : PySem.W.Frag) (x : Str) (st : Stmt) (kw : Str) (v : V) (f : Addr) : Prop :=
  ∃ (od an : Option Addr) (sl : Array (Option Value)) (oc : Value) (D : Addr) (dc pm cd ct u : Value), PySem.W.nsIn K mainGlobals x = some (some (.ref f)) ∧
    K.lookup f = some ⟨oc, od, .func (PySem.W.fnOf x x (defArgs st) (defBody st) (defScope st) .none (.ref D) dc pm an cd ct), sl⟩ ∧ PySem.W.codeIn K cd x = true ∧ PySem.W.keepIn K (.ref f) = true ∧ PySem.W.nsIn K D kw = some (some u) ∧ RelV v u
theorem defk_at {K : PySem.W.Frag} {x : Str} {st : Stmt} {kw : Str} {v : V} {f : Addr} {od an : Option Addr} {sl : Array (Option Value)} {oc : Value} {D : Addr} {dc pm cd ct u : Value} (a : PySem.W.nsIn K mainGlobals x = some (some (.ref f)))
    (l : K.lookup f = some ⟨oc, od, .func (PySem.W.fnOf x x (defArgs st) (defBody st) (defScope st) .none (.ref D) dc pm an cd ct), sl⟩) (c : PySem.W.codeIn K cd x = true) (k : PySem.W.keepIn K (.ref f) = true) (n : PySem.W.nsIn K D kw = some (some u)) (r : RelV v u) : ∃ f, DefK K x st kw v f :=
  ⟨f, od, an, sl, oc, D, dc, pm, cd, ct, u, a, l, c, k, n, r⟩
theorem defk_of {K : PySem.W.Frag} {h : Heap} {mg : Str → Option Value} {x : Str} {st : Stmt} {kw : Str} {v : V} (X : K.In h) (G : h.Ns mainGlobals mg) (D : ∃ f, DefK K x st kw v f) : ∃ (f : Addr) (fd : FuncData), FunD K x x (defArgs st) (defBody st) (defScope st) [] [(kw, v)] f fd ∧ mg x = some (.ref f) ∧ PySem.W.keepIn K (.ref f) = true := by
  obtain ⟨f, od, an, sl, oc, D, dc, pm, cd, ct, u, a, l, c, k, n, r⟩ := D
  exact ⟨f, _, ⟨⟨oc, od, _, _, dc, pm, an, cd, ct, sl, rfl, l, c, .inl ⟨rfl, rfl⟩, .inr ⟨D, rfl, fun q hq => by rw [List.mem_singleton.mp hq]; exact ⟨u, n, r⟩⟩⟩, k⟩, PySem.W.mg_of X G a, k⟩
theorem loterr_mk {K : PySem.W.Frag} {h : Heap} {mg : Str → Option Value} {BL : Addr} {bm : List Value} (X : K.In h) (G : h.Ns mainGlobals mg) (a : PySem.W.nsIn K mainGlobals "BadLot" = some (some (.ref BL))) (fP : ExcBaseFacts "ValueError" "ValueError.__new__" "ValueError.__init__" bm) (x : PySem.W.excIn K BL bm "ValueError.__new__" = true) (k : PySem.W.keepIn K (.ref BL) = true)
    (b : PySem.W.subIn K (.ref BL) (.type "BaseException") = some true) (t : PySem.W.typeIn K (.ref BL) = some (.type "type")) : LotErr K mg BL := ⟨PySem.W.mg_of X G a, ⟨bm, x, fP⟩, k, b, t⟩
theorem web_c {K : PySem.W.Frag} {C : Addr} (pg : PySem.W.plainGet K C Str.empty = true) (hd : PySem.W.hasDictIn K C = true) (po : PySem.W.plainOver K C = true) (sa : PySem.W.findIn K (.ref C) "__setattr__" = some (some (.builtin "object.__setattr__")))
    (n1 : PySem.W.findIn K (.ref C) "size" = some none) (n2 : PySem.W.findIn K (.ref C) "arrows" = some none) (n3 : PySem.W.findIn K (.ref C) "_goals" = some none) : WebC K C := ⟨⟨pg, hd, po, sa⟩, n1, n2, n3⟩
theorem ben_c {K : PySem.W.Frag} {C : Addr} (pg : PySem.W.plainGet K C Str.empty = true) (hd : PySem.W.hasDictIn K C = true) (po : PySem.W.plainOver K C = true) (sa : PySem.W.findIn K (.ref C) "__setattr__" = some (some (.builtin "object.__setattr__")))
    (n1 : PySem.W.findIn K (.ref C) "labels" = some none) (n2 : PySem.W.findIn K (.ref C) "starts" = some none) (n3 : PySem.W.findIn K (.ref C) "joins" = some none) : BenC K C := ⟨⟨pg, hd, po, sa⟩, n1, n2, n3⟩
theorem funK_of {K : PySem.W.Frag} {x qual : Str} {st : Stmt} {f : Addr} {fd : FuncData} {kws : List (Str × V)} (F : FunD K x qual (defArgs st) (defBody st) (defScope st) [] kws f fd) : Fun K x qual st f fd := by
  obtain ⟨oc, od, dV, kV, doc, pm, an, cdv, ct, osl, e, l, c, hd, _⟩ := F.ex
  rcases hd with ⟨_, e2⟩ | ⟨e2, _⟩
  · subst e2
    exact ⟨⟨oc, od, kV, doc, pm, an, cdv, ct, osl, e, l, c⟩, F.kp⟩
  · exact absurd rfl e2
theorem lotf_mk {K : PySem.W.Frag} {h : Heap} {mg : Str → Option Value} {BL BT : Addr} (X : K.In h) (G : h.Ns mainGlobals mg) (a : PySem.W.nsIn K mainGlobals "BadLot" = some (some (.ref BL))) (gT : mg "BadTerm" = some (.ref BT)) (v : PySem.W.nsIn K mainGlobals "ValueError" = some none)
    (b : PySem.W.subIn K (.ref BL) (.type "BaseException") = some true) (d : PySem.W.hasDictIn K BL = true) (t : PySem.W.typeIn K (.ref BL) = some (.type "type")) (o : PySem.W.subIn K (.ref BL) (.ref BL) = some true)
    (hg : PySem.W.findIn K (.ref BL) "__getattribute__" = some (some (.builtin "BaseException.__getattribute__"))) (hk : PySem.W.findIn K (.ref BL) "__getattr__" = some none)
    (ha : PySem.W.findIn K (.ref BL) "__class__" = some (some (.builtin "object.__class__"))) (hn : PySem.W.specialIn K (.builtin "object.__class__") "__get__" = some (some (.builtin "getset_descriptor.__get__"))) (ht : PySem.W.takesIn K (.builtin "object.__class__") = some true) (hm : PySem.W.mroIn K BL (.type "object") = some true)
    (kv : PySem.W.kitOne K (.ref BL) (.type "ValueError") = some true) (kt : PySem.W.kitOne K (.ref BL) (.ref BT) = some false) : LotFacts K mg BL BT :=
  ⟨PySem.W.mg_of X G a, gT, PySem.W.mg_none_of X G v, PySem.W.exm_ref b d t o, ⟨hg, hk, b, d, ha, hn, ht, hm⟩, kv, kt⟩
theorem kit_ref {K : PySem.W.Frag} {C : Addr} {cls : Value} {b : Bool} (i : PySem.W.isClsIn K C = true) (t : PySem.W.typeIn K (.ref C) = some (.type "type")) (e : (cls == Value.ref C) = false) (r : PySem.W.subIn K cls (.ref C) = some b) : PySem.W.kitOne K cls (.ref C) = some b := by
  have i2 : (PySem.W.clsIn K C).isSome = true := i
  unfold PySem.W.kitOne PySem.W.kitCls
  rw [e]
  simp only [i2, t]
  exact r
structure ProgTops (K : PySem.W.Frag) : Prop where
  d_is_int : ∃ f, DefAt K "is_int" sIsInt f
  d_is_between : ∃ f, DefAt K "is_between" sIsBetween f
  d_check_number : ∃ f, DefAt K "check_number" sCheckNumber f
  d_postfix : ∃ f, DefAt K "postfix" sPostfix f
  d_rebuilt : ∃ f, DefAt K "rebuilt" sRebuilt f
  d_leaves_of : ∃ f, DefAt K "leaves_of" sLeavesOf f
  d_with_leaves : ∃ f, DefAt K "with_leaves" sWithLeaves f
  d_are_arrows : ∃ f, DefAt K "are_arrows" sAreArrows f
  d_lot_of : ∃ f, DefAt K "lot_of" sLotOf f
  d_lots_of_row : ∃ f, DefAt K "lots_of_row" sLotsOfRow f
  d_is_leaf : ∃ f, DefAt K "is_leaf" sIsLeaf f
  d_is_joined : ∃ f, DefAt K "is_joined" sIsJoined f
  d_size_of : ∃ f, DefAt K "size_of" sSizeOf f
  d_many_of : ∃ f, DefAt K "many_of" sManyOf f
  d_is_narrow : ∃ f, DefAt K "is_narrow" sIsNarrow f
  d_web_of : ∃ f, DefAt K "web_of" sWebOf f
  d_labels_of : ∃ f, DefAt K "labels_of" sLabelsOf f
  d_built : ∃ f, DefAt K "built" sBuilt f
  d_arrows_between : ∃ f, DefAt K "arrows_between" sArrowsBetween f
  d_tracks_of : ∃ f, DefAt K "tracks_of" sTracksOf f
  d_colour : ∃ f, DefAt K "colour" sColour f
  d_bare : ∃ f, DefAt K "bare" sBare f
  d_put : ∃ f, DefAt K "put" sPut f
  d_leaf_at : ∃ f, DefAt K "leaf_at" sLeafAt f
  d_changed : ∃ f, DefAt K "changed" sChanged f
  d_is_ascending : ∃ f, DefAt K "is_ascending" sIsAscending f
  d_are_labels : ∃ f, DefAt K "are_labels" sAreLabels f
  d_are_starts : ∃ f, DefAt K "are_starts" sAreStarts f
  d_are_pairs : ∃ f, DefAt K "are_pairs" sArePairs f
  d_is_join : ∃ f, DefAt K "is_join" sIsJoin f
  d_are_joins : ∃ f, DefAt K "are_joins" sAreJoins f
structure Tops (K : PySem.W.Frag) : Prop where
  d_l_draws : ∃ f, DefAt K "_law_draws" sDraws f
  d_l_take : ∃ f, DefAt K "_law_take" sTake f
  d_l_int : ∃ f, DefAt K "_law_int" sLawInt f
  d_l_named : ∃ f, DefAt K "_law_named" sLNamed f
  d_l_pairs : ∃ f, DefAt K "_law_pairs" sLPairs f
  d_l_drawn_bench : ∃ f, DefAt K "_law_drawn_bench" sLDrawnBench f
  d_l_any_bench : ∃ f, DefAt K "_law_any_bench" sLAnyBench f
  d_l_bits : ∃ f, DefAt K "_law_bits" sLBits f
  d_l_leaf : ∃ f, DefAt K "_law_leaf" sLLeaf f
  d_l_term : ∃ f, DefAt K "_law_term" sLTerm f
  d_l_context : ∃ f, DefAt K "_law_context" sLContext f
  d_l_walk : ∃ f, DefAt K "_law_walk" sLWalk f
  d_l_put : ∃ f, DefAt K "_law_put" sLPut f
  d_l_coloured : ∃ f, DefAt K "_law_coloured" sLColoured f
  d_l_join_webs : ∃ f, DefAt K "_law_join_webs" sLJoinWebs f
  d_l_built : ∃ f, DefAt K "_law_built" sLBuilt f
  d_l_track : ∃ f, DefAt K "_law_track" sLTrack f
  d_l_leaves : ∃ f, DefAt K "_law_leaves" sLLeaves f
  d_l_web_ok : ∃ f, DefAt K "_law_web_ok" sLWebOk f
  d_l_put_ok : ∃ f, DefAt K "_law_put_ok" sLPutOk f
  d_l_lot_refused : ∃ f, DefAt K "_law_lot_refused" sLLotRefused f
  d_l_number_refused : ∃ f, DefAt K "_law_number_refused" sLNumberRefused f
  d_l_colour_ok : ∃ f, DefAt K "_law_colour_ok" sLColourOk f
  d_l_hung_ok : ∃ f, DefAt K "_law_hung_ok" sLHungOk f
  d_l_paths : ∃ f, DefAt K "_law_paths" sLPaths f
  d_l_replaced : ∃ f, DefAt K "_law_replaced" sLReplaced f
  d_l_bad_part : ∃ f, DefAt K "_law_bad_part" sLBadPart f
  d_l_term_refused : ∃ f, DefAt K "_law_term_refused" sLTermRefused f
  d_l_spoils_ok : ∃ f, DefAt K "_law_spoils_ok" sLSpoilsOk f
  d_l_part : ∃ f, DefAt K "_law_part" sLPart f
  d_law : ∃ f, DefAt K "law" sLaw f
structure WebMet (K : PySem.W.Frag) (C : Addr) : Prop where
  d_init : ∃ f, MetAt K C "__init__" "Web.__init__" sWeb_init f
  d_iter : ∃ f, MetAt K C "__iter__" "Web.__iter__" sWeb_iter f
  d_len : ∃ f, MetAt K C "__len__" "Web.__len__" sWeb_len f
  d_eq : ∃ f, MetAt K C "__eq__" "Web.__eq__" sWeb_eq f
  d_arrow : ∃ f, MetAt K C "arrow" "Web.arrow" sWeb_arrow f
  d_sent : ∃ f, MetAt K C "sent" "Web.sent" sWeb_sent f
  d_of_lot : ∃ f, MetAt K C "of_lot" "Web.of_lot" sWeb_of_lot f
structure BenMet (K : PySem.W.Frag) (C : Addr) : Prop where
  d_init : ∃ f, MetAt K C "__init__" "Bench.__init__" sBench_init f
  d_len : ∃ f, MetAt K C "__len__" "Bench.__len__" sBench_len f
structure Bares2 (K : PySem.W.Frag) : Prop where
  set : PySem.W.nsIn K mainGlobals "set" = some none
  iter : PySem.W.nsIn K mainGlobals "iter" = some none
  max : PySem.W.nsIn K mainGlobals "max" = some none
  sum : PySem.W.nsIn K mainGlobals "sum" = some none
  any : PySem.W.nsIn K mainGlobals "any" = some none
  all : PySem.W.nsIn K mainGlobals "all" = some none
  enumerate : PySem.W.nsIn K mainGlobals "enumerate" = some none
  str : PySem.W.nsIn K mainGlobals "str" = some none
theorem Bares2.bare {K : PySem.W.Frag} {h : Heap} {mg : Str → Option Value} (X : K.In h) (G : h.Ns mainGlobals mg) (b : Bares2 K) : Bare2 mg :=
  ⟨PySem.W.mg_none_of X G b.set, PySem.W.mg_none_of X G b.iter, PySem.W.mg_none_of X G b.max, PySem.W.mg_none_of X G b.sum, PySem.W.mg_none_of X G b.any, PySem.W.mg_none_of X G b.all, PySem.W.mg_none_of X G b.enumerate, PySem.W.mg_none_of X G b.str⟩
theorem all_mk {P : Program} {w : World} {K : PySem.W.Frag} {h : Heap} {mg : Str → Option Value} {fa C CW BN BT BL : Addr} (X : K.In h) (G : h.Ns mainGlobals mg) (hfa : mg "law" = some (.ref fa))
    (aC : PySem.W.nsIn K mainGlobals "Bench" = some (some (.ref C))) (aW : PySem.W.nsIn K mainGlobals "Web" = some (some (.ref CW))) (hP : ∃ tm, PySem.W.nsIn K mainGlobals "MOST_PLACES" = some (some (.int 200 tm))) (hT : ∃ tm, PySem.W.nsIn K mainGlobals "MOST_TIMES" = some (some (.int 200 tm)))
    (hJ : ∃ tm, PySem.W.nsIn K mainGlobals "MOST_JOINS" = some (some (.int 3 tm))) (hL : ∃ tm, PySem.W.nsIn K mainGlobals "MOST_LABELS" = some (some (.int 3 tm))) (hz : PySem.W.nsIn K mainGlobals "zip" = some none)
    (p : ProgTops K) (t : Tops K) (dct : ∃ f, DefK K "check_term" sCheckTerm "hole" (.bl false) f) (dhu : ∃ f, DefK K "hung" sHung "times" (.int 1) f) (bs : Bares K) (bs2 : Bares2 K) (NF : BadFacts K mg BN) (NR : ∀ base, BadRaiseN P w K mg base BN) (TF : TermFacts K mg BT) (TR : ∀ base, BadRaiseT P w K mg base BT) (LE : LotErr K mg BL) (LF : LotFacts K mg BL BT)
    (WC : WebC K CW) (WI : ClsIs K CW) (BC : BenC K C) (mW : PySem.W.makesIn K CW = true) (kW : PySem.W.keepIn K (.ref CW) = true) (mB : PySem.W.makesIn K C = true) (kB : PySem.W.keepIn K (.ref C) = true) (wm : WebMet K CW) (bm : BenMet K C) :
    ∃ fd : FuncData, (∀ (s : Shared) (v : Value), BindsTo s fd ⟨[v], []⟩ [("_law_script", v)]) ∧ ∀ base : Heap, K.In base → base.Ns mainGlobals mg → FnOk P w K mg base CX0 9 fa fd ["_law_script"] (spLaw K) := by
  obtain ⟨f, od, an, sl, oc, kV, dc, pm, cd, ct, a, l1, c, kk⟩ := t.d_law
  have e := hfa.symm.trans (PySem.W.mg_of X G a)
  cases e
  refine ⟨PySem.W.fnOf "law" "law" (defArgs sLaw) (defBody sLaw) (defScope sLaw) .none kV dc pm an cd ct, fun s v => .of_eq rfl, fun base b1 b2 => ?_⟩
  obtain ⟨tP, aP⟩ := hP
  obtain ⟨tT, aT⟩ := hT
  obtain ⟨tJ, aJ⟩ := hJ
  obtain ⟨tL, aL⟩ := hL
  have T := bs.bare X G
  have T2 := bs2.bare X G
  have gC := PySem.W.mg_of X G aC
  have gW := PySem.W.mg_of X G aW
  have NB := NR base
  have TB := TR base
  have cInt : Cal P w K mg base 1 "is_int" ["value"] (spIsInt K) := cal X G p.d_is_int (fun _ _ _ _ _ _ us hl => match us, hl with | [_], _ => rfl) fun f fd F => ok_is_int F T
  have cIntD : Cal P w K mg base 1 "is_int" ["value"] (spIsIntD K) := by
    obtain ⟨g, gd, ok, b, kp, mf⟩ := cInt.ex
    exact ⟨g, gd, is_int_d ok, b, kp, mf⟩
  have cBet : Cal P w K mg base 2 "is_between" ["value", "low", "high"] (spBetweenD K) := cal X G p.d_is_between (fun _ _ _ _ _ _ us hl => match us, hl with | [_, _, _], _ => rfl) fun f fd F => ok_betweenD F cIntD
  have cNum : CalE P w K mg base 3 "check_number" ["value", "which", "low", "high"] (spCheckNum K BN) := calE X G p.d_check_number (fun _ _ _ _ _ _ us hl => match us, hl with | [_, _, _, _], _ => rfl) fun f fd F => ok_check_num F cIntD NB
  have cPf : Cal P w K mg base 1 "postfix" ["term"] spPostfix := cal X G p.d_postfix (fun _ _ _ _ _ _ us hl => match us, hl with | [_], _ => rfl) fun f fd F => ok_postfix F T
  have cRb : Cal P w K mg base 2 "rebuilt" ["steps"] (spRebuilt K) := cal X G p.d_rebuilt (fun _ _ _ _ _ _ us hl => match us, hl with | [_], _ => rfl) fun f fd F => ok_rebuilt F cInt
  have cLv : Cal P w K mg base 2 "leaves_of" ["term"] spLeavesOf := cal X G p.d_leaves_of (fun _ _ _ _ _ _ us hl => match us, hl with | [_], _ => rfl) fun f fd F => ok_leaves_of F T cPf
  have cSz : Cal P w K mg base 3 "size_of" ["term"] spSizeOf := cal X G p.d_size_of (fun _ _ _ _ _ _ us hl => match us, hl with | [_], _ => rfl) fun f fd F => ok_size_of F T cLv
  have cMo : Cal P w K mg base 3 "many_of" ["term"] spManyOf := cal X G p.d_many_of (fun _ _ _ _ _ _ us hl => match us, hl with | [_], _ => rfl) fun f fd F => ok_many_of F T cLv
  have cNa : Cal P w K mg base 1 "is_narrow" ["term"] spIsNarrow := cal X G p.d_is_narrow (fun _ _ _ _ _ _ us hl => match us, hl with | [_], _ => rfl) fun f fd F => ok_is_narrow F T
  have cPu : Cal P w K mg base 3 "put" ["context", "term"] spPut := cal X G p.d_put (fun _ _ _ _ _ _ us hl => match us, hl with | [_, _], _ => rfl) fun f fd F => ok_put F cPf cRb
  have cWl : Cal P w K mg base 3 "with_leaves" ["term", "leaves"] (spWithLeaves K) := cal X G p.d_with_leaves (fun _ _ _ _ _ _ us hl => match us, hl with | [_, _], _ => rfl) fun f fd F => ok_with_leaves F T T2 cPf cRb
  have cLa : CalE P w K mg base 4 "leaf_at" ["term", "place"] (spLeafAtD K BN) := calE X G p.d_leaf_at (fun _ _ _ _ _ _ us hl => match us, hl with | [_, _], _ => rfl) fun f fd F => ok_leaf_at F T cLv cNum
  have cCh : CalE P w K mg base 4 "changed" ["term", "place", "bits"] (spChangedD K BN) := calE X G p.d_changed (fun _ _ _ _ _ _ us hl => match us, hl with | [_, _, _], _ => rfl) fun f fd F => ok_changed F T cLv cWl cNum
  obtain ⟨fh, fdh, Fh, mh, kh⟩ := defk_of X G dhu
  have okh : FnOk P w K mg base (L2.CX P w) 4 fh fdh ["t", "u", "times"] (spHung K BN) := ok_hung (funK_of Fh) T cNum ⟨tT, PySem.W.mg_of X G aT⟩
  obtain ⟨dsh, vh, bh⟩ := Fh.binds0 (ps := ["t", "u", "times"]) 2 (by decide) rfl (fun D doc pm an cdv ct us ks h1 h2 => match us, ks, h1, h2 with | [_, _], [_], _, _ => ⟨_, _, _, _, _, _, rfl, rfl, rfl⟩)
  obtain ⟨_, kbh⟩ := Fh.kbinds0 (ps := ["t", "u", "times"]) 2 ["times"] [] (fun us _ ws => us ++ ws) (by decide) (fun q hq => by cases hq) (fun r1 _ r3 => r1.append r3) (fun D doc pm an cdv ct us mv ws h1 h2 h3 => match us, ws, h1, h3 with | [_, _], [_], _, _ => rfl)
  have cHuD : CalD P w K mg base 4 "hung" ["t", "u", "times"] [.int 1] (spHung K BN) := ⟨fh, fdh, dsh, okh, bh, vh, kh, mh⟩
  have cHuK : CalK P w K mg base 4 "hung" ["t", "u", "times"] 2 ["times"] (spHung K BN) := ⟨fh, fdh, okh, kbh, kh, mh⟩
  have cLo : CalE P w K mg base 3 "lot_of" ["value", "size"] (spLotOfD K BL) := calE X G p.d_lot_of (fun _ _ _ _ _ _ us hl => match us, hl with | [_, _], _ => rfl) fun f fd F => ok_lot_ofD F T T2 LE cBet
  have cLr : CalE P w K mg base 4 "lots_of_row" ["tracks", "size"] (spLotsOfRow K BL) := calE X G p.d_lots_of_row (fun _ _ _ _ _ _ us hl => match us, hl with | [_, _], _ => rfl) fun f fd F => ok_lots_of_row F T LE cLo
  have cCo : CalE P w K mg base 5 "colour" ["term", "tracks"] (spColour K BL) := calE X G p.d_colour (fun _ _ _ _ _ _ us hl => match us, hl with | [_, _], _ => rfl) fun f fd F => ok_colour F T T2 (PySem.W.mg_none_of X G hz) cLv cLr cWl
  have cBa : Cal P w K mg base 6 "bare" ["term"] spBare := cal X G p.d_bare (fun _ _ _ _ _ _ us hl => match us, hl with | [_], _ => rfl) fun f fd F => ok_bare F cCo
  have cTo : Cal P w K mg base 4 "tracks_of" ["term"] spTracksOf := cal X G p.d_tracks_of (fun _ _ _ _ _ _ us hl => match us, hl with | [_], _ => rfl) fun f fd F => ok_tracks_of F T T2 cLv cMo
  have cAa : Cal P w K mg base 3 "are_arrows" ["value", "size"] (spAreArrows K) := cal X G p.d_are_arrows (fun _ _ _ _ _ _ us hl => match us, hl with | [_, _], _ => rfl) fun f fd F => ok_are_arrows F T T2 cBet
  obtain ⟨fWI, mWI⟩ := wm.d_init
  obtain ⟨dWI, FWI, eWI, bWI⟩ := met_of (ps := ["self", "size", "arrows"]) mWI (fun _ _ _ _ _ _ us hl => match us, hl with | [_, _, _], _ => rfl)
  obtain ⟨fWT, mWT⟩ := wm.d_iter
  obtain ⟨dWT, FWT, eWT, bWT⟩ := met_of (ps := ["self"]) mWT (fun _ _ _ _ _ _ us hl => match us, hl with | [_], _ => rfl)
  obtain ⟨fWL, mWL⟩ := wm.d_len
  obtain ⟨dWL, FWL, eWL, bWL⟩ := met_of (ps := ["self"]) mWL (fun _ _ _ _ _ _ us hl => match us, hl with | [_], _ => rfl)
  obtain ⟨fWE, mWE⟩ := wm.d_eq
  obtain ⟨dWE, FWE, eWE, bWE⟩ := met_of (ps := ["self", "other"]) mWE (fun _ _ _ _ _ _ us hl => match us, hl with | [_, _], _ => rfl)
  obtain ⟨fWA, mWA⟩ := wm.d_arrow
  obtain ⟨dWA, FWA, eWA, bWA⟩ := met_of (ps := ["self", "x", "y"]) mWA (fun _ _ _ _ _ _ us hl => match us, hl with | [_, _, _], _ => rfl)
  obtain ⟨fWS, mWS⟩ := wm.d_sent
  obtain ⟨dWS, FWS, eWS, bWS⟩ := met_of (ps := ["self", "x"]) mWS (fun _ _ _ _ _ _ us hl => match us, hl with | [_, _], _ => rfl)
  obtain ⟨fWO, mWO⟩ := wm.d_of_lot
  obtain ⟨dWO, FWO, eWO, bWO⟩ := met_of (ps := ["self", "lot"]) mWO (fun _ _ _ _ _ _ us hl => match us, hl with | [_, _], _ => rfl)
  obtain ⟨fBI, mBI⟩ := bm.d_init
  obtain ⟨dBI, FBI, eBI, bBI⟩ := met_of (ps := ["self", "labels", "starts", "joins"]) mBI (fun _ _ _ _ _ _ us hl => match us, hl with | [_, _, _, _], _ => rfl)
  obtain ⟨fBL0, mBL0⟩ := bm.d_len
  obtain ⟨dBL0, FBL0, eBL0, bBL0⟩ := met_of (ps := ["self"]) mBL0 (fun _ _ _ _ _ _ us hl => match us, hl with | [_], _ => rfl)
  have okWI := ok_web_init (P := P) (w := w) (mg := mg) (base := base) FWI T WC ⟨tP, PySem.W.mg_of X G aP⟩ cBet cAa
  have MW : Mk K CW fWI := ⟨mW, eWI.at_, eWI.fn, kW⟩
  have OW : OwnIt P w K mg base CW fWT "arrows" := web_iter FWT T2.iter WC.cl WC.arrows eWT.at_ eWT.fn
  have okWL : FnOk P w K mg base CX0 1 fWL dWL ["self"] (spWebLen CW) := ok_web_len FWL T WC
  have okWE : FnOk P w K mg base CX0 1 fWE dWE ["self", "other"] (spWebEq CW) := ok_web_eq FWE T WC WI gW
  have okWA : FnOk P w K mg base CX0 4 fWA dWA ["self", "x", "y"] (spWebArrow CW) := ok_web_arrow FWA WC cNum
  have okWS : FnOk P w K mg base CX0 4 fWS dWS ["self", "x"] (spWebSent CW) := ok_web_sent FWS WC cNum
  have okWO : FnOk P w K mg base CX0 6 fWO dWO ["self", "lot"] (spOfLot K CW) := ok_web_of_lot FWO T T2 WC gW MW okWI bWI cLo
  have okBL : FnOk P w K mg base CX0 1 fBL0 dBL0 ["self"] (spBenLen C) := ok_bench_len FBL0 T BC
  have cAs : Cal P w K mg base 1 "is_ascending" ["row"] spAsc := cal X G p.d_is_ascending (fun _ _ _ _ _ _ us hl => match us, hl with | [_], _ => rfl) fun f fd F => ok_is_ascending F T
  have cAl : Cal P w K mg base 3 "are_labels" ["row", "labels"] spLabs := cal X G p.d_are_labels (fun _ _ _ _ _ _ us hl => match us, hl with | [_, _], _ => rfl) fun f fd F => ok_are_labels F T T2 cBet
  have cAst : Cal P w K mg base 4 "are_starts" ["starts", "labels"] spStarts := cal X G p.d_are_starts (fun _ _ _ _ _ _ us hl => match us, hl with | [_, _], _ => rfl) fun f fd F => ok_are_starts F T cAl cAs
  have cAp : Cal P w K mg base 4 "are_pairs" ["pairs", "labels"] spPrs := cal X G p.d_are_pairs (fun _ _ _ _ _ _ us hl => match us, hl with | [_, _], _ => rfl) fun f fd F => ok_are_pairs F T cAl cAs
  have cIj : Cal P w K mg base 5 "is_join" ["join", "labels"] spIsJoin := cal X G p.d_is_join (fun _ _ _ _ _ _ us hl => match us, hl with | [_, _], _ => rfl) fun f fd F => ok_is_join F T cAl cAp
  have cAj : Cal P w K mg base 6 "are_joins" ["joins", "labels"] spJoins := cal X G p.d_are_joins (fun _ _ _ _ _ _ us hl => match us, hl with | [_, _], _ => rfl) fun f fd F => ok_are_joins F T T2 ⟨tJ, PySem.W.mg_of X G aJ⟩ cIj
  have okBI := ok_bench_init (P := P) (w := w) (mg := mg) (base := base) FBI BC ⟨tL, PySem.W.mg_of X G aL⟩ cBet cAst cAj
  have MB : Mk K C fBI := ⟨mB, eBI.at_, eBI.fn, kB⟩
  have cIl : Cal P w K mg base 3 "is_leaf" ["bench", "part", "many"] (spIsLeaf K C) := cal X G p.d_is_leaf (fun _ _ _ _ _ _ us hl => match us, hl with | [_, _, _], _ => rfl) fun f fd F => ok_is_leaf F T T2 BC cBet
  have cJd : Cal P w K mg base 3 "is_joined" ["bench", "part"] (spIsJoined K C) := cal X G p.d_is_joined (fun _ _ _ _ _ _ us hl => match us, hl with | [_, _], _ => rfl) fun f fd F => ok_is_joined F T ⟨eBL0.at_, eBL0.fn⟩ okBL bBL0 cBet
  obtain ⟨fc, fdc, Fc, mc, kc⟩ := defk_of X G dct
  have okc : FnOk P w K mg base (L2.CX P w) 4 fc fdc ["bench", "term", "many", "hole"] (spCheckTerm K C BT) := ok_check_term Fc TB cJd cIl
  obtain ⟨dsc, vc, bc⟩ := Fc.binds0 (ps := ["bench", "term", "many", "hole"]) 3 (by decide) rfl (fun D doc pm an cdv ct us ks h1 h2 => match us, ks, h1, h2 with | [_, _, _], [_], _, _ => ⟨_, _, _, _, _, _, rfl, rfl, rfl⟩)
  obtain ⟨_, kbc⟩ := Fc.kbinds0 (ps := ["bench", "term", "many", "hole"]) 3 ["hole"] [] (fun us _ ws => us ++ ws) (by decide) (fun q hq => by cases hq) (fun r1 _ r3 => r1.append r3) (fun D doc pm an cdv ct us mv ws h1 h2 h3 => match us, ws, h1, h3 with | [_, _, _], [_], _, _ => rfl)
  have cCtD : CalD P w K mg base 4 "check_term" ["bench", "term", "many", "hole"] [.bl false] (spCheckTerm K C BT) := ⟨fc, fdc, dsc, okc, bc, vc, kc, mc⟩
  have cCtK : CalK P w K mg base 4 "check_term" ["bench", "term", "many", "hole"] 3 ["hole"] (spCheckTerm K C BT) := ⟨fc, fdc, okc, kbc, kc, mc⟩
  have cAb : Cal P w K mg base 1 "arrows_between" ["labels", "starts", "fore", "back"] (spBetween2 K) := cal X G p.d_arrows_between (fun _ _ _ _ _ _ us hl => match us, hl with | [_, _, _, _], _ => rfl) fun f fd F => ok_arrows_between F T
  have cBu : Cal P w K mg base 6 "built" ["bench", "term"] (spBuilt C CW) := cal X G p.d_built (fun _ _ _ _ _ _ us hl => match us, hl with | [_, _], _ => rfl) fun f fd F => ok_built F T BC gW MW okWI bWI cPf cAb
  have cWb : Cal P w K mg base 7 "web_of" ["bench", "term"] (spWebOf C CW) := cal X G p.d_web_of (fun _ _ _ _ _ _ us hl => match us, hl with | [_, _], _ => rfl) fun f fd F => ok_web_of F cBu
  have cLb : Cal P w K mg base 7 "labels_of" ["bench", "term"] (spLabelsOf C CW) := cal X G p.d_labels_of (fun _ _ _ _ _ _ us hl => match us, hl with | [_, _], _ => rfl) fun f fd F => ok_labels_of F cBu
  have lDr : Cal P w K mg base 1 "_law_draws" ["_law_script"] (spDraws K) := cal X G t.d_l_draws (fun _ _ _ _ _ _ us hl => match us, hl with | [_], _ => rfl) fun f fd F => ok_draws F T
  have lTk : Cal P w K mg base 1 "_law_take" ["_law_tape", "_law_many"] spDraw := cal X G t.d_l_take (fun _ _ _ _ _ _ us hl => match us, hl with | [_, _], _ => rfl) fun f fd F => ok_draw (ok_take F T)
  have lIn : Cal P w K mg base 1 "_law_int" ["_law_value"] spLawInt := cal X G t.d_l_int (fun _ _ _ _ _ _ us hl => match us, hl with | [_], _ => rfl) fun f fd F => ok_law_int F T
  have lNm : Cal P w K mg base 1 "_law_named" ["_law_word"] spNamed := cal X G t.d_l_named (fun _ _ _ _ _ _ us hl => match us, hl with | [_], _ => rfl) fun f fd F => ok_named F
  have lPr : Cal P w K mg base 2 "_law_pairs" ["_law_tape", "_law_labels"] spLPairs := cal X G t.d_l_pairs (fun _ _ _ _ _ _ us hl => match us, hl with | [_, _], _ => rfl) fun f fd F => ok_l_pairs F T lTk
  have lDb : Cal P w K mg base 3 "_law_drawn_bench" ["_law_tape"] spDrawnBench := cal X G t.d_l_drawn_bench (fun _ _ _ _ _ _ us hl => match us, hl with | [_], _ => rfl) fun f fd F => ok_drawn_bench F T lTk lPr
  have lAb : Cal P w K mg base 4 "_law_any_bench" ["_law_tape"] spDrawnBench := cal X G t.d_l_any_bench (fun _ _ _ _ _ _ us hl => match us, hl with | [_], _ => rfl) fun f fd F => ok_any_bench F T lTk lDb lNm
  have lBi : Cal P w K mg base 2 "_law_bits" ["_law_tape", "_law_many"] spLBits := cal X G t.d_l_bits (fun _ _ _ _ _ _ us hl => match us, hl with | [_, _], _ => rfl) fun f fd F => ok_l_bits F T lTk
  have lLe : Cal P w K mg base 3 "_law_leaf" ["_law_tape", "_law_parts", "_law_many"] spLLeaf := cal X G t.d_l_leaf (fun _ _ _ _ _ _ us hl => match us, hl with | [_, _, _], _ => rfl) fun f fd F => ok_l_leaf F T lTk lBi
  have lTe : Cal P w K mg base 4 "_law_term" ["_law_tape", "_law_parts", "_law_size", "_law_many"] spLTerm := cal X G t.d_l_term (fun _ _ _ _ _ _ us hl => match us, hl with | [_, _, _, _], _ => rfl) fun f fd F => ok_l_term F T lTk lLe
  have lCx : Cal P w K mg base 4 "_law_context" ["_law_tape", "_law_parts", "_law_size", "_law_many"] spLContext := cal X G t.d_l_context (fun _ _ _ _ _ _ us hl => match us, hl with | [_, _, _, _], _ => rfl) fun f fd F => ok_l_context F T lTk lLe
  have lWk : Cal P w K mg base 1 "_law_walk" ["_law_term_here"] spLWalk := cal X G t.d_l_walk (fun _ _ _ _ _ _ us hl => match us, hl with | [_], _ => rfl) fun f fd F => ok_l_walk F T
  have lPu : Cal P w K mg base 2 "_law_put" ["_law_context_here", "_law_term_here"] spLPut := cal X G t.d_l_put (fun _ _ _ _ _ _ us hl => match us, hl with | [_, _], _ => rfl) fun f fd F => ok_l_put F T lWk
  have lCd : Cal P w K mg base 2 "_law_coloured" ["_law_term_here", "_law_rows"] spLColoured := cal X G t.d_l_coloured (fun _ _ _ _ _ _ us hl => match us, hl with | [_, _], _ => rfl) fun f fd F => ok_l_coloured F T lWk
  have lLv : Cal P w K mg base 2 "_law_leaves" ["_law_term_here"] spLLeaves := cal X G t.d_l_leaves (fun _ _ _ _ _ _ us hl => match us, hl with | [_], _ => rfl) fun f fd F => ok_l_leaves F T lWk
  have lJw : Cal P w K mg base 1 "_law_join_webs" ["_law_join", "_law_left", "_law_right"] spLJoin := cal X G t.d_l_join_webs (fun _ _ _ _ _ _ us hl => match us, hl with | [_, _, _], _ => rfl) fun f fd F => ok_l_join F T
  have lBu : Cal P w K mg base 2 "_law_built" ["_law_parts", "_law_term_here"] spLBuilt := cal X G t.d_l_built (fun _ _ _ _ _ _ us hl => match us, hl with | [_, _], _ => rfl) fun f fd F => ok_l_built F T lWk lJw
  have lTr : Cal P w K mg base 1 "_law_track" ["_law_built_here", "_law_track_here"] spLTrack := cal X G t.d_l_track (fun _ _ _ _ _ _ us hl => match us, hl with | [_, _], _ => rfl) fun f fd F => ok_l_track F T
  have lWo : Cal P w K mg base 8 "_law_web_ok" ["_law_bench", "_law_parts", "_law_term_here", "_law_many"] (spLWebOk C CW) := cal X G t.d_l_web_ok (fun _ _ _ _ _ _ us hl => match us, hl with | [_, _, _, _], _ => rfl) fun f fd F => ok_l_web F T WC OW ⟨eWL.at_, eWL.fn⟩ okWL bWL eWS okWS bWS eWA okWA bWA lWk lBu cWb cLb lIn lTr cTo cNa cSz cMo cCtD
  have lPo : Cal P w K mg base 8 "_law_put_ok" ["_law_bench", "_law_parts", "_law_tape", "_law_term_here", "_law_many"] (spLPutOk C) := cal X G t.d_l_put_ok (fun _ _ _ _ _ _ us hl => match us, hl with | [_, _, _, _, _], _ => rfl) fun f fd F => ok_l_put_ok F T WC WI ⟨eWE.at_, eWE.fn⟩ okWE bWE eWO okWO bWO lTk lCx cPu lPu lWk lLv lBu cWb cCtK
  have lLr : Cal P w K mg base 6 "_law_lot_refused" ["_law_term_here", "_law_tracks"] (spLotRefused K) := cal X G t.d_l_lot_refused (fun _ _ _ _ _ _ us hl => match us, hl with | [_, _], _ => rfl) fun f fd F => ok_lot_refused F T LF cCo
  have lNr : Cal P w K mg base 5 "_law_number_refused" ["_law_word", "_law_term_here", "_law_value"] (spNumRefused K) := cal X G t.d_l_number_refused (fun _ _ _ _ _ _ us hl => match us, hl with | [_, _, _], _ => rfl) fun f fd F => ok_num_refused F T NF lLv cLa cCh cHuK
  have lCo : Cal P w K mg base 7 "_law_colour_ok" ["_law_tape", "_law_term_here", "_law_many"] spColourOk := cal X G t.d_l_colour_ok (fun _ _ _ _ _ _ us hl => match us, hl with | [_, _, _], _ => rfl) fun f fd F => ok_l_colour F T lTk lBi lLv lCd cCo cBa cTo cLa cCh lLr lNr
  have lHo : Cal P w K mg base 6 "_law_hung_ok" ["_law_term_here", "_law_other", "_law_often"] spHungOk := cal X G t.d_l_hung_ok (fun _ _ _ _ _ _ us hl => match us, hl with | [_, _, _], _ => rfl) fun f fd F => ok_hung_ok F T lNr cHuK cHuD
  have lPt : Cal P w K mg base 1 "_law_paths" ["_law_term_here"] spLPaths := cal X G t.d_l_paths (fun _ _ _ _ _ _ us hl => match us, hl with | [_], _ => rfl) fun f fd F => ok_l_paths F T
  have lPa : Cal P w K mg base 1 "_law_part" ["_law_term_here", "_law_path"] spLPart := cal X G t.d_l_part (fun _ _ _ _ _ _ us hl => match us, hl with | [_, _], _ => rfl) fun f fd F => ok_l_part F T
  have lRp : Cal P w K mg base 1 "_law_replaced" ["_law_term_here", "_law_path", "_law_bad"] (spLReplaced K) := cal X G t.d_l_replaced (fun _ _ _ _ _ _ us hl => match us, hl with | [_, _, _], _ => rfl) fun f fd F => ok_l_replaced F T
  have lBp : Cal P w K mg base 1 "_law_bad_part" ["_law_word", "_law_parts", "_law_many"] (spBadPart K) := cal X G t.d_l_bad_part (fun _ _ _ _ _ _ us hl => match us, hl with | [_, _, _], _ => rfl) fun f fd F => ok_bad_part F T
  have lTf : Cal P w K mg base 5 "_law_term_refused" ["_law_bench", "_law_term_here", "_law_many", "_law_open_end"] (spTermRefused K C) := cal X G t.d_l_term_refused (fun _ _ _ _ _ _ us hl => match us, hl with | [_, _, _, _], _ => rfl) fun f fd F => ok_term_refused F TF cCtK
  have lSo : Cal P w K mg base 6 "_law_spoils_ok" ["_law_bench", "_law_parts", "_law_tape", "_law_term_here", "_law_many"] (spSpoilsOk C) := cal X G t.d_l_spoils_ok (fun _ _ _ _ _ _ us hl => match us, hl with | [_, _, _, _, _], _ => rfl) fun f fd F => ok_spoils F T lTk lCx lPt lRp lBp lTf lPa
  exact ok_law (fun_mk l1 c kk) T gC MB okBI bBI lDr lTk lAb lPr lTe lWo lPo lCo lHo lSo
theorem walk9 {l : PySem.W.OpenLaw} {q : Program} {loose : List Str} {XP : (Str → Option Value) → Heap → Prop} {YP : World → Heap → Prop} {d : DefRec} {K : Params → PySem.W.Frag} (hn : l.most = some 63) (hdf : d.params.defaults = [])
    (hY : ∀ (w : World) (h : Heap), YP w h → (K w.params).In h)
    (F : ∀ (w : World) (mg : Str → Option Value) (fa : Addr) (h : Heap), (K w.params).In h → h.Ns mainGlobals mg → mg d.name = some (.ref fa) →
      ∃ fd : FuncData, (∀ (s : Shared) (u : Value), BindsTo s fd ⟨[u], []⟩ [("_law_script", u)]) ∧ ∀ base : Heap, (K w.params).In base → base.Ns mainGlobals mg → FnOk l.prog w (K w.params) mg base CX0 9 fa fd ["_law_script"] (spLaw (K w.params))) :
    PySem.W.WalkO q loose XP YP l.row.toRowW d [] (fun f vs => PySem.call f vs) :=
  L2.walk_of (n := 63) (k := 9) (x := "_law_script") (CX := fun _ => CX0) (sp := fun w => spLaw (K w.params)) hn (by decide) hdf ⟨rfl, by decide, by decide⟩ hY F (fun _ _ a ns hl _ hS => ⟨a, ns, rfl, hS, hl, fun _ => rfl⟩) fun _ _ _ _ _ z => z
end Fam

open PySem PySem.W PyProof.Rows
set_option maxHeartbeats 0 in
set_option maxRecDepth 100000 in
theorem PySem.Challenge.cw_lotsayings_k00_terms_and_webs_holds : PySem.Challenge.rw_lotsayings_k00_terms_and_webs.Holds := by
  w_on; o_law; k_head; (case hw => w_witness2)
  k_fill
  refine Fam.walk9 (l := PySem.Challenge.rw_lotsayings_k00_terms_and_webs) rfl rfl (fun w h Y => PySem.W.kIn_of Y) ?F
  case F =>
    intro w mg fa h KX G hmg
    refine' Fam.all_mk (C := ?C) (CW := ?CW) (BN := ?BN) (BT := ?BT) (BL := ?BL) KX G hmg ?h1 ?h2 ?h3 ?h4 ?h5 ?h6 ?h7 ⟨?h8, ?h9, ?h10, ?h11, ?h12, ?h13, ?h14, ?h15, ?h16, ?h17, ?h18, ?h19, ?h20, ?h21, ?h22, ?h23, ?h24, ?h25, ?h26, ?h27, ?h28, ?h29, ?h30, ?h31, ?h32, ?h33, ?h34, ?h35, ?h36, ?h37, ?h38⟩ ⟨?h39, ?h40, ?h41, ?h42, ?h43, ?h44, ?h45, ?h46, ?h47, ?h48, ?h49, ?h50, ?h51, ?h52, ?h53, ?h54, ?h55, ?h56, ?h57, ?h58, ?h59, ?h60, ?h61, ?h62, ?h63, ?h64, ?h65, ?h66, ?h67, ?h68, ?h69⟩ ?h70 ?h71 ⟨?h72, ?h73, ?h74, ?h75, ?h76, ?h77, ?h78, ?h79, ?h80, ?h81⟩ ⟨?h82, ?h83, ?h84, ?h85, ?h86, ?h87, ?h88, ?h89⟩
      (Fam.bad_mk KX G ?h90 ?h91 ?h92 ?h93 ?h94 ?h95 ?h96 ?h97 ?h98)
      (fun base => Fam.bad_raise_mkN KX G ?h99 ?h100 ?h101 ?h102 ?h103 ?h104 ?h105 ?h106 ?h107 ?h108 ?h109 ?h110 ?h111)
      (Fam.term_mk KX G ?h112 ?h113 ?h114 ?h115 ?h116 ?h117 ?h118 ?h119 ?h120)
      (fun base => Fam.bad_raise_mkT KX G ?h121 ?h122 ?h123 ?h124 ?h125 ?h126 ?h127 ?h128 ?h129 ?h130 ?h131 ?h132 ?h133)
      (Fam.loterr_mk KX G ?h134 PySem.F.excBase_ValueError ?h135 ?h136 ?h137 ?h138)
      (Fam.lotf_mk KX G ?h139 (PySem.W.mg_of KX G ?h140) ?h141 ?h142 ?h143 ?h144 ?h145 ?h146 ?h147 ?h148 ?h149 ?h150 ?h151 ?h152 (Fam.kit_ref ?h153 ?h154 ?h155 ?h156))
      (Fam.web_c ?h157 ?h158 ?h159 ?h160 ?h161 ?h162 ?h163) ⟨?h164, ?h165, ?h166, ?h167⟩ (Fam.ben_c ?h168 ?h169 ?h170 ?h171 ?h172 ?h173 ?h174) ?h175 ?h176 ?h177 ?h178 ⟨?h179, ?h180, ?h181, ?h182, ?h183, ?h184, ?h185⟩ ⟨?h186, ?h187⟩
    case h1 => k_is
    case h2 => k_is
    case h3 => exact ⟨_, rfl⟩
    case h4 => exact ⟨_, rfl⟩
    case h5 => exact ⟨_, rfl⟩
    case h6 => exact ⟨_, rfl⟩
    case h7 => k_is
    case h8 => (refine' Fam.def_at ?a ?l ?c ?k; (case a => k_is); (case l => k_is); (case c => k_is); (case k => k_is))
    case h9 => (refine' Fam.def_at ?a ?l ?c ?k; (case a => k_is); (case l => k_is); (case c => k_is); (case k => k_is))
    case h10 => (refine' Fam.def_at ?a ?l ?c ?k; (case a => k_is); (case l => k_is); (case c => k_is); (case k => k_is))
    case h11 => (refine' Fam.def_at ?a ?l ?c ?k; (case a => k_is); (case l => k_is); (case c => k_is); (case k => k_is))
    case h12 => (refine' Fam.def_at ?a ?l ?c ?k; (case a => k_is); (case l => k_is); (case c => k_is); (case k => k_is))
    case h13 => (refine' Fam.def_at ?a ?l ?c ?k; (case a => k_is); (case l => k_is); (case c => k_is); (case k => k_is))
    case h14 => (refine' Fam.def_at ?a ?l ?c ?k; (case a => k_is); (case l => k_is); (case c => k_is); (case k => k_is))
    case h15 => (refine' Fam.def_at ?a ?l ?c ?k; (case a => k_is); (case l => k_is); (case c => k_is); (case k => k_is))
    case h16 => (refine' Fam.def_at ?a ?l ?c ?k; (case a => k_is); (case l => k_is); (case c => k_is); (case k => k_is))
    case h17 => (refine' Fam.def_at ?a ?l ?c ?k; (case a => k_is); (case l => k_is); (case c => k_is); (case k => k_is))
    case h18 => (refine' Fam.def_at ?a ?l ?c ?k; (case a => k_is); (case l => k_is); (case c => k_is); (case k => k_is))
    case h19 => (refine' Fam.def_at ?a ?l ?c ?k; (case a => k_is); (case l => k_is); (case c => k_is); (case k => k_is))
    case h20 => (refine' Fam.def_at ?a ?l ?c ?k; (case a => k_is); (case l => k_is); (case c => k_is); (case k => k_is))
    case h21 => (refine' Fam.def_at ?a ?l ?c ?k; (case a => k_is); (case l => k_is); (case c => k_is); (case k => k_is))
    case h22 => (refine' Fam.def_at ?a ?l ?c ?k; (case a => k_is); (case l => k_is); (case c => k_is); (case k => k_is))
    case h23 => (refine' Fam.def_at ?a ?l ?c ?k; (case a => k_is); (case l => k_is); (case c => k_is); (case k => k_is))
    case h24 => (refine' Fam.def_at ?a ?l ?c ?k; (case a => k_is); (case l => k_is); (case c => k_is); (case k => k_is))
    case h25 => (refine' Fam.def_at ?a ?l ?c ?k; (case a => k_is); (case l => k_is); (case c => k_is); (case k => k_is))
    case h26 => (refine' Fam.def_at ?a ?l ?c ?k; (case a => k_is); (case l => k_is); (case c => k_is); (case k => k_is))
    case h27 => (refine' Fam.def_at ?a ?l ?c ?k; (case a => k_is); (case l => k_is); (case c => k_is); (case k => k_is))
    case h28 => (refine' Fam.def_at ?a ?l ?c ?k; (case a => k_is); (case l => k_is); (case c => k_is); (case k => k_is))
    case h29 => (refine' Fam.def_at ?a ?l ?c ?k; (case a => k_is); (case l => k_is); (case c => k_is); (case k => k_is))
    case h30 => (refine' Fam.def_at ?a ?l ?c ?k; (case a => k_is); (case l => k_is); (case c => k_is); (case k => k_is))
    case h31 => (refine' Fam.def_at ?a ?l ?c ?k; (case a => k_is); (case l => k_is); (case c => k_is); (case k => k_is))
    case h32 => (refine' Fam.def_at ?a ?l ?c ?k; (case a => k_is); (case l => k_is); (case c => k_is); (case k => k_is))
    case h33 => (refine' Fam.def_at ?a ?l ?c ?k; (case a => k_is); (case l => k_is); (case c => k_is); (case k => k_is))
    case h34 => (refine' Fam.def_at ?a ?l ?c ?k; (case a => k_is); (case l => k_is); (case c => k_is); (case k => k_is))
    case h35 => (refine' Fam.def_at ?a ?l ?c ?k; (case a => k_is); (case l => k_is); (case c => k_is); (case k => k_is))
    case h36 => (refine' Fam.def_at ?a ?l ?c ?k; (case a => k_is); (case l => k_is); (case c => k_is); (case k => k_is))
    case h37 => (refine' Fam.def_at ?a ?l ?c ?k; (case a => k_is); (case l => k_is); (case c => k_is); (case k => k_is))
    case h38 => (refine' Fam.def_at ?a ?l ?c ?k; (case a => k_is); (case l => k_is); (case c => k_is); (case k => k_is))
    case h39 => (refine' Fam.def_at ?a ?l ?c ?k; (case a => k_is); (case l => k_is); (case c => k_is); (case k => k_is))
    case h40 => (refine' Fam.def_at ?a ?l ?c ?k; (case a => k_is); (case l => k_is); (case c => k_is); (case k => k_is))
    case h41 => (refine' Fam.def_at ?a ?l ?c ?k; (case a => k_is); (case l => k_is); (case c => k_is); (case k => k_is))
    case h42 => (refine' Fam.def_at ?a ?l ?c ?k; (case a => k_is); (case l => k_is); (case c => k_is); (case k => k_is))
    case h43 => (refine' Fam.def_at ?a ?l ?c ?k; (case a => k_is); (case l => k_is); (case c => k_is); (case k => k_is))
    case h44 => (refine' Fam.def_at ?a ?l ?c ?k; (case a => k_is); (case l => k_is); (case c => k_is); (case k => k_is))
    case h45 => (refine' Fam.def_at ?a ?l ?c ?k; (case a => k_is); (case l => k_is); (case c => k_is); (case k => k_is))
    case h46 => (refine' Fam.def_at ?a ?l ?c ?k; (case a => k_is); (case l => k_is); (case c => k_is); (case k => k_is))
    case h47 => (refine' Fam.def_at ?a ?l ?c ?k; (case a => k_is); (case l => k_is); (case c => k_is); (case k => k_is))
    case h48 => (refine' Fam.def_at ?a ?l ?c ?k; (case a => k_is); (case l => k_is); (case c => k_is); (case k => k_is))
    case h49 => (refine' Fam.def_at ?a ?l ?c ?k; (case a => k_is); (case l => k_is); (case c => k_is); (case k => k_is))
    case h50 => (refine' Fam.def_at ?a ?l ?c ?k; (case a => k_is); (case l => k_is); (case c => k_is); (case k => k_is))
    case h51 => (refine' Fam.def_at ?a ?l ?c ?k; (case a => k_is); (case l => k_is); (case c => k_is); (case k => k_is))
    case h52 => (refine' Fam.def_at ?a ?l ?c ?k; (case a => k_is); (case l => k_is); (case c => k_is); (case k => k_is))
    case h53 => (refine' Fam.def_at ?a ?l ?c ?k; (case a => k_is); (case l => k_is); (case c => k_is); (case k => k_is))
    case h54 => (refine' Fam.def_at ?a ?l ?c ?k; (case a => k_is); (case l => k_is); (case c => k_is); (case k => k_is))
    case h55 => (refine' Fam.def_at ?a ?l ?c ?k; (case a => k_is); (case l => k_is); (case c => k_is); (case k => k_is))
    case h56 => (refine' Fam.def_at ?a ?l ?c ?k; (case a => k_is); (case l => k_is); (case c => k_is); (case k => k_is))
    case h57 => (refine' Fam.def_at ?a ?l ?c ?k; (case a => k_is); (case l => k_is); (case c => k_is); (case k => k_is))
    case h58 => (refine' Fam.def_at ?a ?l ?c ?k; (case a => k_is); (case l => k_is); (case c => k_is); (case k => k_is))
    case h59 => (refine' Fam.def_at ?a ?l ?c ?k; (case a => k_is); (case l => k_is); (case c => k_is); (case k => k_is))
    case h60 => (refine' Fam.def_at ?a ?l ?c ?k; (case a => k_is); (case l => k_is); (case c => k_is); (case k => k_is))
    case h61 => (refine' Fam.def_at ?a ?l ?c ?k; (case a => k_is); (case l => k_is); (case c => k_is); (case k => k_is))
    case h62 => (refine' Fam.def_at ?a ?l ?c ?k; (case a => k_is); (case l => k_is); (case c => k_is); (case k => k_is))
    case h63 => (refine' Fam.def_at ?a ?l ?c ?k; (case a => k_is); (case l => k_is); (case c => k_is); (case k => k_is))
    case h64 => (refine' Fam.def_at ?a ?l ?c ?k; (case a => k_is); (case l => k_is); (case c => k_is); (case k => k_is))
    case h65 => (refine' Fam.def_at ?a ?l ?c ?k; (case a => k_is); (case l => k_is); (case c => k_is); (case k => k_is))
    case h66 => (refine' Fam.def_at ?a ?l ?c ?k; (case a => k_is); (case l => k_is); (case c => k_is); (case k => k_is))
    case h67 => (refine' Fam.def_at ?a ?l ?c ?k; (case a => k_is); (case l => k_is); (case c => k_is); (case k => k_is))
    case h68 => (refine' Fam.def_at ?a ?l ?c ?k; (case a => k_is); (case l => k_is); (case c => k_is); (case k => k_is))
    case h69 => (refine' Fam.def_at ?a ?l ?c ?k; (case a => k_is); (case l => k_is); (case c => k_is); (case k => k_is))
    case h70 => (refine' Fam.defk_at ?a ?l ?c ?k ?n ?r; (case a => k_is); (case l => k_is); (case c => k_is); (case k => k_is); (case n => k_is); (case r => exact rfl))
    case h71 => (refine' Fam.defk_at ?a ?l ?c ?k ?n ?r; (case a => k_is); (case l => k_is); (case c => k_is); (case k => k_is); (case n => k_is); (case r => exact ⟨_, rfl⟩))
    case h72 => k_is
    case h73 => k_is
    case h74 => k_is
    case h75 => k_is
    case h76 => k_is
    case h77 => k_is
    case h78 => k_is
    case h79 => k_is
    case h80 => k_is
    case h81 => k_is
    case h82 => k_is
    case h83 => k_is
    case h84 => k_is
    case h85 => k_is
    case h86 => k_is
    case h87 => k_is
    case h88 => k_is
    case h89 => k_is
    case h90 => k_is
    case h91 => k_is
    case h92 => k_is
    case h93 => k_is
    case h94 => k_is
    case h95 => k_is
    case h96 => k_is
    case h97 => k_is
    case h98 => k_is
    case h99 => k_is
    case h100 => k_is
    case h101 => decide +kernel
    case h102 => k_is
    case h103 => k_is
    case h104 => k_is
    case h105 => k_is
    case h106 => k_is
    case h107 => k_is
    case h108 => k_is
    case h109 => k_is
    case h110 => k_is
    case h111 => k_is
    case h112 => k_is
    case h113 => k_is
    case h114 => k_is
    case h115 => k_is
    case h116 => k_is
    case h117 => k_is
    case h118 => k_is
    case h119 => k_is
    case h120 => k_is
    case h121 => k_is
    case h122 => k_is
    case h123 => decide +kernel
    case h124 => k_is
    case h125 => k_is
    case h126 => k_is
    case h127 => k_is
    case h128 => k_is
    case h129 => k_is
    case h130 => k_is
    case h131 => k_is
    case h132 => k_is
    case h133 => k_is
    case h134 => k_is
    case h135 => k_exc
    case h136 => k_is
    case h137 => k_is
    case h138 => k_is
    case h139 => k_is
    case h140 => k_is
    case h141 => k_is
    case h142 => k_is
    case h143 => k_is
    case h144 => k_is
    case h145 => k_is
    case h146 => k_is
    case h147 => k_is
    case h148 => k_is
    case h149 => k_is
    case h150 => k_is
    case h151 => k_is
    case h152 => first | k_is | rfl | decide +kernel
    case h153 => k_is
    case h154 => k_is
    case h155 => first | rfl | decide +kernel | k_is
    case h156 => k_is
    case h157 => k_is
    case h158 => k_is
    case h159 => k_is
    case h160 => k_is
    case h161 => k_is
    case h162 => k_is
    case h163 => k_is
    case h164 => k_is
    case h165 => k_is
    case h166 => k_is
    case h167 => k_is
    case h168 => k_is
    case h169 => k_is
    case h170 => k_is
    case h171 => k_is
    case h172 => k_is
    case h173 => k_is
    case h174 => k_is
    case h175 => k_is
    case h176 => k_is
    case h177 => k_is
    case h178 => k_is
    case h179 => (refine' Fam.met_at ?a ?b ?l ?c ?k; (case a => k_is); (case b => k_is); (case l => k_is); (case c => k_is); (case k => k_is))
    case h180 => (refine' Fam.met_at ?a ?b ?l ?c ?k; (case a => k_is); (case b => k_is); (case l => k_is); (case c => k_is); (case k => k_is))
    case h181 => (refine' Fam.met_at ?a ?b ?l ?c ?k; (case a => k_is); (case b => k_is); (case l => k_is); (case c => k_is); (case k => k_is))
    case h182 => (refine' Fam.met_at ?a ?b ?l ?c ?k; (case a => k_is); (case b => k_is); (case l => k_is); (case c => k_is); (case k => k_is))
    case h183 => (refine' Fam.met_at ?a ?b ?l ?c ?k; (case a => k_is); (case b => k_is); (case l => k_is); (case c => k_is); (case k => k_is))
    case h184 => (refine' Fam.met_at ?a ?b ?l ?c ?k; (case a => k_is); (case b => k_is); (case l => k_is); (case c => k_is); (case k => k_is))
    case h185 => (refine' Fam.met_at ?a ?b ?l ?c ?k; (case a => k_is); (case b => k_is); (case l => k_is); (case c => k_is); (case k => k_is))
    case h186 => (refine' Fam.met_at ?a ?b ?l ?c ?k; (case a => k_is); (case b => k_is); (case l => k_is); (case c => k_is); (case k => k_is))
    case h187 => (refine' Fam.met_at ?a ?b ?l ?c ?k; (case a => k_is); (case b => k_is); (case l => k_is); (case c => k_is); (case k => k_is))
