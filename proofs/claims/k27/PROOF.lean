import PyProof.Rows.All
import Wide.All
import OpenK.AllK
import Wide.FinOn
import HandS.Text
import HandS.ForMost
import HandS.IsInst
import HandS.StrMore
import HandS.Style
import HandS.RaiseMore
import HandS.Wide
import HandS.TupLe
import HandS.Walk
import KE.GoesMore
import HandS.Replace
import HandS.ReplaceLit
import HandS.Lambda
import HandS.TryMany
import HandS.ExcInit
import HandS.ExcField
import HandS.CallSlots
import HandS.CallLocal
import HandS.WordsExc
import HandS.FStrTup
import HandS.WideBits
import HandS.Deep
import HandS.ClsMeth
import KE.KDflt
import KE.KTypeName
import PyProof.ReprDict
import PyProof.IsiTupleAll
import PyProof.FactsAll.dict_1
import PyProof.FactsAll.subtypes_3
import PyProof.FactsAll.subtypes_4
import PyProof.ExcBaseAll.OverflowError
import PyProof.ExcBaseAll.LookupError
import PyProof.ExcBaseAll.IndexError
import PyProof.ExcBaseAll.ArithmeticError
import KE.SortCalls
import HandS.SortRule
import KE.KDictZip
import KE.KDictItemsList
import HandS.ListItems
import KE.DataMinMax
import HandS.MakeKw
import HandS.Defaults
import HandS.Property
import HandS.OwnEq
import HandS.DictComp
import HandS.SetFor
import HandS.More
import HandS.DictTup
import HandS.EndTab
import PySem.Challenge.RW_bailiwick_k27_whole_normal_forms
set_option Elab.async false
set_option linter.all false
set_option maxRecDepth 100000
set_option maxHeartbeats 4000000
namespace Bw
open PySem L2 TL PyProof.Rows

/-! ### signs -/
def Sgn (l : List Nat) : Prop := ∀ c ∈ l, 32 ≤ c ∧ c ≤ 126
theorem Sgn.lt {l : List Nat} (h : Sgn l) : ∀ c ∈ l, c < 128 := fun c hc => by have := h c hc; omega
theorem Sgn.app {l m : List Nat} (h : Sgn l) (k : Sgn m) : Sgn (l ++ m) := fun c hc => by
  rcases List.mem_append.mp hc with q | q
  · exact h c q
  · exact k c q
theorem Sgn.nil : Sgn [] := fun c hc => absurd hc (by simp)
theorem Sgn.cons {c : Nat} {l : List Nat} (h : Sgn (c :: l)) : (32 ≤ c ∧ c ≤ 126) ∧ Sgn l := ⟨h c (List.mem_cons_self ..), fun d hd => h d (List.mem_cons_of_mem _ hd)⟩
theorem Sgn.mk {c : Nat} {l : List Nat} (h1 : 32 ≤ c ∧ c ≤ 126) (h : Sgn l) : Sgn (c :: l) := fun d hd => by
  rcases List.mem_cons.mp hd with rfl | q
  · exact h1
  · exact h d q
theorem Sgn.rep {n c : Nat} (h : 32 ≤ c ∧ c ≤ 126) : Sgn (List.replicate n c) := fun d hd => by
  rw [List.eq_of_mem_replicate hd]
  exact h
theorem space_sgn : ∀ c, c < 128 → 32 ≤ c → Unicode.isSpace c = decide (c = 32) := by decide +kernel
theorem print_sgn : ∀ c, c < 128 → Unicode.isPrintable c = decide (32 ≤ c ∧ c ≤ 126) := by decide +kernel
theorem digit_sgn : ∀ c, c < 128 → Unicode.isDigit c = decide (48 ≤ c ∧ c ≤ 57) := by decide +kernel
theorem Sgn.sp {l : List Nat} (h : Sgn l) {c : Nat} (hc : c ∈ l) : Unicode.isSpace c = decide (c = 32) := space_sgn c (h.lt c hc) (h c hc).1
theorem signs_iff (x : Str) : (Txt.isascii x && Txt.isprintable x) = true ↔ Sgn (tl x) := by
  unfold Txt.isascii Txt.isprintable
  rw [Bool.and_eq_true, ← Array.all_toList, ← Array.all_toList, List.all_eq_true, List.all_eq_true]
  constructor
  · rintro ⟨h1, h2⟩ c hc
    have a : c < 128 := of_decide_eq_true (h1 c hc)
    have b := h2 c hc
    rw [print_sgn c a] at b
    exact of_decide_eq_true b
  · intro h
    refine ⟨fun c hc => decide_eq_true (h.lt c hc), fun c hc => ?_⟩
    rw [print_sgn c (h.lt c hc)]
    exact decide_eq_true (h c hc)
theorem lo1_sgn {c : Nat} (h : 32 ≤ c ∧ c ≤ 126) : 32 ≤ lo1 c ∧ lo1 c ≤ 126 := by
  unfold lo1
  split <;> omega
theorem up1_sgn {c : Nat} (h : 32 ≤ c ∧ c ≤ 126) : 32 ≤ up1 c ∧ up1 c ≤ 126 := by
  unfold up1
  split <;> omega
theorem lo1_32 {c : Nat} (h : 32 ≤ c ∧ c ≤ 126) : lo1 c = 32 ↔ c = 32 := by
  unfold lo1
  split <;> omega
theorem lo1_lo1 (c : Nat) : lo1 (lo1 c) = lo1 c := by
  unfold lo1
  split <;> (try split) <;> omega
theorem lo1_up1 (c : Nat) : lo1 (up1 c) = lo1 c := by
  unfold lo1 up1
  split <;> split <;> (try split) <;> omega
theorem Sgn.low {l : List Nat} (h : Sgn l) : Sgn (l.map lo1) := fun c hc => by
  obtain ⟨d, hd, rfl⟩ := List.mem_map.mp hc
  exact lo1_sgn (h d hd)
theorem tl_lower {x : Str} (h : Sgn (tl x)) : tl (Txt.lower x) = (tl x).map lo1 := by
  rw [lower_ascii h.lt]
  show (x.cps.map lo1).toList = _
  rw [Array.toList_map]
theorem tl_upper {x : Str} (h : Sgn (tl x)) : tl (Txt.upper x) = (tl x).map up1 := by
  rw [upper_ascii h.lt]
  show (x.cps.map up1).toList = _
  rw [Array.toList_map]

/-! ### words -/
def wordsL (l : List Nat) : List (List Nat) := wfin (l.foldl wstep ([], []))
def normL (l : List Nat) : List Nat := joinL [32] (wordsL (l.map lo1))
theorem wstep_sp {st : List (List Nat) × List Nat} : wstep st 32 = if st.2 = [] then st else (st.1 ++ [st.2], []) := by
  unfold wstep
  rw [if_pos (show Unicode.isSpace 32 = true by decide +kernel)]
theorem wstep_ne {st : List (List Nat) × List Nat} {c : Nat} (h : 32 ≤ c ∧ c ≤ 126) (hc : c ≠ 32) : wstep st c = (st.1, st.2 ++ [c]) := by
  unfold wstep
  rw [space_sgn c (by omega) h.1, decide_eq_false hc]
  exact if_neg (by simp)
/-- the parts between blanks, the empty ones left out -/
theorem filter_spl : ∀ (l acc : List Nat) (ws : List (List Nat)), Sgn l → ws ++ (spl [32] 0 acc l).filter (fun p => !p.isEmpty) = wfin (l.foldl wstep (ws, acc))
  | [], acc, ws, _ => by
    rw [spl_nil]
    show _ = if acc = [] then ws else ws ++ [acc]
    cases acc with
    | nil => simp
    | cons a r => simp
  | c :: r, acc, ws, h => by
    obtain ⟨hc, hr⟩ := h.cons
    rw [List.foldl_cons]
    by_cases e : c = 32
    · subst e
      rw [spl_hit (S := [32]) (acc := acc) (r := r) (c := 32) (by unfold pre; simp), wstep_sp]
      show ws ++ List.filter _ (acc :: spl [32] 0 [] r) = _
      cases acc with
      | nil =>
        rw [if_pos rfl, List.filter_cons_of_neg (by simp)]
        exact filter_spl r [] ws hr
      | cons a q =>
        rw [if_neg (by simp), List.filter_cons_of_pos (by simp)]
        have := filter_spl r [] (ws ++ [a :: q]) hr
        rw [← this, List.append_assoc]
        rfl
    · rw [spl_miss (pre_of_head [] r e), wstep_ne hc e]
      exact filter_spl r (acc ++ [c]) ws hr
theorem low_wstep {st : List (List Nat) × List Nat} {c : Nat} (h : 32 ≤ c ∧ c ≤ 126) :
    wstep (st.1.map (·.map lo1), st.2.map lo1) (lo1 c) = ((wstep st c).1.map (·.map lo1), (wstep st c).2.map lo1) := by
  by_cases e : c = 32
  · subst e
    rw [show lo1 32 = 32 from rfl, wstep_sp, wstep_sp]
    obtain ⟨ws, u⟩ := st
    cases u with
    | nil => simp
    | cons a r => simp
  · rw [wstep_ne h e, wstep_ne (lo1_sgn h) (fun q => e ((lo1_32 h).mp q))]
    simp
theorem low_fold : ∀ (l : List Nat) (st : List (List Nat) × List Nat), Sgn l →
    (l.map lo1).foldl wstep (st.1.map (·.map lo1), st.2.map lo1) = ((l.foldl wstep st).1.map (·.map lo1), (l.foldl wstep st).2.map lo1)
  | [], _, _ => rfl
  | c :: r, st, h => by
    rw [List.map_cons, List.foldl_cons, List.foldl_cons, low_wstep h.cons.1, low_fold r _ h.cons.2]
theorem low_wfin (st : List (List Nat) × List Nat) : wfin (st.1.map (·.map lo1), st.2.map lo1) = (wfin st).map (·.map lo1) := by
  obtain ⟨ws, u⟩ := st
  unfold wfin
  cases u <;> simp
theorem wordsL_low {l : List Nat} (h : Sgn l) : wordsL (l.map lo1) = (wordsL l).map (·.map lo1) := by
  unfold wordsL
  have e := low_fold l ([], []) h
  have e2 : (l.map lo1).foldl wstep ([], []) = _ := e
  rw [e2, low_wfin]
theorem joinL_map : ∀ ps : List (List Nat), joinL [32] (ps.map (·.map lo1)) = (joinL [32] ps).map lo1
  | [] => rfl
  | [p] => rfl
  | p :: q :: r => by
    show p.map lo1 ++ ([32] ++ joinL [32] ((q :: r).map (·.map lo1))) = (p ++ ([32] ++ joinL [32] (q :: r))).map lo1
    rw [joinL_map (q :: r), List.map_append, List.map_append]
    rfl
theorem normL_eq {l : List Nat} (h : Sgn l) : normL l = (joinL [32] (wordsL l)).map lo1 := by
  unfold normL
  rw [wordsL_low h, joinL_map]
/-! words are no blanks, and made of the signs -/
def Wd (P : Nat → Prop) (ws : List (List Nat)) : Prop := ∀ p ∈ ws, p ≠ [] ∧ ∀ c ∈ p, c ≠ 32 ∧ P c
theorem wfold_wd {P : Nat → Prop} : ∀ (l : List Nat) (st : List (List Nat) × List Nat), Sgn l → (∀ c ∈ l, P c) → Wd P st.1 → (∀ c ∈ st.2, c ≠ 32 ∧ P c) →
    Wd P (l.foldl wstep st).1 ∧ ∀ c ∈ (l.foldl wstep st).2, c ≠ 32 ∧ P c
  | [], _, _, _, h1, h2 => ⟨h1, h2⟩
  | c :: r, st, h, hp, h1, h2 => by
    rw [List.foldl_cons]
    have hr : ∀ d ∈ r, P d := fun d hd => hp d (List.mem_cons_of_mem _ hd)
    by_cases e : c = 32
    · subst e
      rw [wstep_sp]
      by_cases e2 : st.2 = []
      · rw [if_pos e2]
        exact wfold_wd r st h.cons.2 hr h1 h2
      · rw [if_neg e2]
        refine wfold_wd r _ h.cons.2 hr (fun p hq => ?_) (fun d hd => absurd hd (by simp))
        rcases List.mem_append.mp hq with q | q
        · exact h1 p q
        · rw [List.mem_singleton.mp q]
          exact ⟨e2, h2⟩
    · rw [wstep_ne h.cons.1 e]
      refine wfold_wd r _ h.cons.2 hr h1 (fun d hd => ?_)
      rcases List.mem_append.mp hd with q | q
      · exact h2 d q
      · rw [List.mem_singleton.mp q]
        exact ⟨e, hp c (List.mem_cons_self ..)⟩
theorem wordsL_wd {P : Nat → Prop} {l : List Nat} (h : Sgn l) (hp : ∀ c ∈ l, P c) : Wd P (wordsL l) := by
  obtain ⟨h1, h2⟩ := wfold_wd (P := P) l ([], []) h hp (fun p hq => absurd hq (by simp)) (fun d hd => absurd hd (by simp))
  unfold wordsL wfin
  split
  · exact h1
  · rename_i e2
    intro p hq
    rcases List.mem_append.mp hq with q | q
    · exact h1 p q
    · rw [List.mem_singleton.mp q]
      exact ⟨e2, h2⟩
theorem mem_joinL {P : Nat → Prop} (h32 : P 32) : ∀ {ps : List (List Nat)}, (∀ p ∈ ps, ∀ c ∈ p, P c) → ∀ c ∈ joinL [32] ps, P c
  | [], _, c, hc => absurd hc (by simp [joinL])
  | [p], h, c, hc => h p (List.mem_singleton.mpr rfl) c hc
  | p :: q :: r, h, c, hc => by
    have hc' : c ∈ p ++ ([32] ++ joinL [32] (q :: r)) := hc
    rcases List.mem_append.mp hc' with a | a
    · exact h p (List.mem_cons_self ..) c a
    · rcases List.mem_append.mp a with b | b
      · rw [List.mem_singleton.mp b]
        exact h32
      · exact mem_joinL h32 (fun p' hp' => h p' (List.mem_cons_of_mem _ hp')) c b
theorem joined_sgn {l : List Nat} (h : Sgn l) : Sgn (joinL [32] (wordsL l)) := fun c hc =>
  mem_joinL (P := fun c => 32 ≤ c ∧ c ≤ 126) (by omega) (fun p hp d hd => ((wordsL_wd (P := fun c => 32 ≤ c ∧ c ≤ 126) h h) p hp).2 d hd |>.2) c hc
theorem normL_sgn {l : List Nat} (h : Sgn l) : Sgn (normL l) := by
  unfold normL
  exact joined_sgn h.low
theorem wordsL_join {ps : List (List Nat)} (h : Wd (fun c => 32 ≤ c ∧ c ≤ 126) ps) : wordsL (joinL [32] ps) = ps := by
  cases ps with
  | nil => rfl
  | cons p r =>
    unfold wordsL
    rw [wfold_join (p :: r) [] (by simp) fun q hq => ⟨(h q hq).1, fun c hc => by
      obtain ⟨h1, h2⟩ := (h q hq).2 c hc
      rw [space_sgn c (by omega) h2.1]
      exact decide_eq_false h1⟩]
    rfl
theorem map_lo_id : ∀ {l : List Nat}, (∀ c ∈ l, lo1 c = c) → l.map lo1 = l
  | [], _ => rfl
  | c :: r, h => by
    rw [List.map_cons, h c (List.mem_cons_self ..), map_lo_id fun d hd => h d (List.mem_cons_of_mem _ hd)]
theorem normL_norm {l : List Nat} (h : Sgn l) : normL (normL l) = normL l := by
  have hw := wordsL_wd (P := fun c => (32 ≤ c ∧ c ≤ 126) ∧ lo1 c = c) h.low (fun c hc => ⟨h.low c hc, by
    obtain ⟨d, _, rfl⟩ := List.mem_map.mp hc
    exact lo1_lo1 d⟩)
  have e : (normL l).map lo1 = normL l := map_lo_id (mem_joinL (P := fun c => lo1 c = c) rfl fun p hp c hc => ((hw p hp).2 c hc).2.2)
  show joinL [32] (wordsL ((normL l).map lo1)) = normL l
  rw [e]
  unfold normL
  rw [wordsL_join fun p hp => ⟨(hw p hp).1, fun c hc => ⟨((hw p hp).2 c hc).1, ((hw p hp).2 c hc).2.1⟩⟩]
/-! lengths -/
def wsum (ws : List (List Nat)) : Nat := (ws.map fun p => p.length + 1).sum
theorem wsum_app (ws : List (List Nat)) (p : List Nat) : wsum (ws ++ [p]) = wsum ws + (p.length + 1) := by
  unfold wsum
  rw [List.map_append, List.sum_append]
  simp
theorem wfold_len : ∀ (l : List Nat) (st : List (List Nat) × List Nat), wsum (l.foldl wstep st).1 + (l.foldl wstep st).2.length ≤ wsum st.1 + st.2.length + l.length
  | [], _ => Nat.le_refl _
  | c :: r, st => by
    rw [List.foldl_cons]
    refine Nat.le_trans (wfold_len r (wstep st c)) ?_
    have : wsum (wstep st c).1 + (wstep st c).2.length ≤ wsum st.1 + st.2.length + 1 := by
      unfold wstep
      split
      · split
        · omega
        · show wsum (st.1 ++ [st.2]) + 0 ≤ _
          rw [wsum_app]
          omega
      · show wsum st.1 + (st.2 ++ [c]).length ≤ _
        rw [List.length_append, List.length_singleton]
        omega
    rw [List.length_cons]
    omega
theorem joinL_len : ∀ ps : List (List Nat), (joinL [32] ps).length ≤ wsum ps - 1
  | [] => Nat.le_refl _
  | [p] => by
    show p.length ≤ (p.length + 1 + 0) - 1
    omega
  | p :: q :: r => by
    show (p ++ ([32] ++ joinL [32] (q :: r))).length ≤ _
    have h := joinL_len (q :: r)
    have e : wsum (p :: q :: r) = (p.length + 1) + wsum (q :: r) := by unfold wsum; simp
    have e2 : 1 ≤ wsum (q :: r) := by unfold wsum; simp; omega
    rw [e, List.length_append, List.length_append, List.length_singleton]
    omega
theorem words_len (l : List Nat) : (joinL [32] (wordsL l)).length ≤ l.length := by
  have h := wfold_len l ([], [])
  have h0 : wsum ([] : List (List Nat)) = 0 := rfl
  have hj := joinL_len (wordsL l)
  unfold wordsL wfin at hj ⊢
  simp only [h0, List.length_nil] at h
  split
  · rename_i e
    rw [if_pos e] at hj
    omega
  · rename_i e
    rw [if_neg e, wsum_app] at hj
    have : 0 < (l.foldl wstep ([], [])).2.length := List.length_pos_iff.mpr e
    omega
theorem normL_len (l : List Nat) : (normL l).length ≤ l.length := by
  unfold normL
  refine Nat.le_trans (words_len _) ?_
  rw [List.length_map]
  exact Nat.le_refl _
theorem wordsL_count (l : List Nat) : (wordsL l).length ≤ l.length + 1 := by
  have h := wfold_len l ([], [])
  have h0 : wsum ([] : List (List Nat)) = 0 := rfl
  have hl : ∀ ws : List (List Nat), ws.length ≤ wsum ws := fun ws => by
    induction ws with
    | nil => exact Nat.zero_le _
    | cons p r ih =>
      have e : wsum (p :: r) = (p.length + 1) + wsum r := by unfold wsum; simp
      rw [e, List.length_cons]
      omega
  have h1 := hl (l.foldl wstep ([], [])).1
  simp only [h0, List.length_nil] at h
  unfold wordsL wfin
  split
  · omega
  · rw [List.length_append, List.length_singleton]
    omega
/-! the blown text -/
theorem fold_sp : ∀ (n : Nat) (ws : List (List Nat)), (List.replicate n 32).foldl wstep (ws, []) = (ws, [])
  | 0, _ => rfl
  | n + 1, ws => by
    rw [List.replicate_succ, List.foldl_cons, wstep_sp, if_pos rfl]
    exact fold_sp n ws
theorem fold_sp2 (n : Nat) (st : List (List Nat) × List Nat) : (List.replicate n 32).foldl wstep (wstep st 32) = wstep st 32 := by
  rw [wstep_sp]
  split
  · rename_i e
    obtain ⟨ws, u⟩ := st
    simp only at e
    subst e
    exact fold_sp n ws
  · exact fold_sp n _
theorem wfin_sp (n : Nat) (st : List (List Nat) × List Nat) : wfin ((List.replicate n 32).foldl wstep st) = wfin st := by
  cases n with
  | zero => rfl
  | succ n =>
    rw [List.replicate_succ, List.foldl_cons, fold_sp2, wstep_sp]
    obtain ⟨ws, u⟩ := st
    cases u with
    | nil => rfl
    | cons a r => simp [wfin]
theorem map_rep_sp (n : Nat) : (List.replicate n 32).map lo1 = List.replicate n 32 := by
  rw [List.map_replicate]
  rfl
end Bw

namespace Bw
open PySem L2 TL PyProof.Rows
open NumText (AllDigits digitsVal)

/-! ### numbers -/
def Dg (l : List Nat) : Prop := l ≠ [] ∧ AllDigits l
instance (l : List Nat) : Decidable (AllDigits l) := by unfold NumText.AllDigits; infer_instance
/-- digits without needless zeros -/
def plainD (l : List Nat) : Bool := decide (l ≠ []) && decide (AllDigits l) && (decide (l = [48]) || decide (l.head? ≠ some 48))
theorem plainD_iff {l : List Nat} : plainD l = true ↔ l ≠ [] ∧ AllDigits l ∧ (l = [48] ∨ l.head? ≠ some 48) := by
  unfold plainD
  simp only [Bool.and_eq_true, Bool.or_eq_true, decide_eq_true_eq, and_assoc]
theorem ofNat_toNat {c : Nat} (h : 48 ≤ c ∧ c ≤ 57) : (Char.ofNat c).toNat = c := by
  have : ∀ d, d ≤ 57 → 48 ≤ d → (Char.ofNat d).toNat = d := by decide
  exact this c h.2 h.1
theorem map_back : ∀ {l : List Nat}, AllDigits l → (l.map Char.ofNat).map Char.toNat = l
  | [], _ => rfl
  | c :: r, h => by
    rw [List.map_cons, List.map_cons, ofNat_toNat h.head, map_back h.tail]
theorem numL_all {l : List Nat} (h : AllDigits l) : numL (digitsVal l) = (match l.dropWhile (· == 48) with
    | [] => [48]
    | c :: r => c :: r) := by
  unfold numL
  rw [NumText.toDigits_all l h]
  have hd : AllDigits (l.dropWhile (· == 48)) := fun c hc => h c ((List.dropWhile_sublist _).subset hc)
  generalize l.dropWhile (· == 48) = m at hd ⊢
  cases m with
  | nil => rfl
  | cons c r => exact map_back hd
theorem numL_plain {l : List Nat} (h : AllDigits l) (hne : l ≠ []) : numL (digitsVal l) = l ↔ (l = [48] ∨ l.head? ≠ some 48) := by
  rw [numL_all h]
  cases l with
  | nil => exact absurd rfl hne
  | cons c r =>
    by_cases e : c = 48
    · subst e
      rw [List.dropWhile_cons_of_pos (by decide)]
      constructor
      · intro q
        left
        cases e2 : r.dropWhile (· == 48) with
        | nil =>
          rw [e2] at q
          exact q.symm
        | cons d m =>
          rw [e2] at q
          have q : d :: m = 48 :: r := q
          have hd : (fun x => x == 48) d = false := by
            have := List.head?_dropWhile_not (fun x : Nat => x == 48) r
            rw [e2] at this
            simpa using this
          have : d = 48 := by injection q
          rw [this] at hd
          exact absurd hd (by decide)
      · intro q
        rcases q with q | q
        · have : r = [] := by injection q
          rw [this]
          rfl
        · exact absurd rfl q
    · rw [List.dropWhile_cons_of_neg (by rw [beq_iff_eq]; exact e)]
      refine ⟨fun _ => .inr fun q => e (Option.some.inj q), fun _ => rfl⟩
theorem digitsVal_lt {l : List Nat} (h : AllDigits l) : digitsVal l < 10 ^ l.length := by
  have : ∀ (l : List Nat) (a : Nat), AllDigits l → l.foldl (fun acc c => acc * 10 + (c - 48)) a < (a + 1) * 10 ^ l.length := by
    intro l
    induction l with
    | nil => intro a _; simp
    | cons c r ih =>
      intro a h
      rw [List.foldl_cons, List.length_cons]
      refine Nat.lt_of_lt_of_le (ih _ h.tail) ?_
      have hc := h.head
      rw [Nat.pow_succ]
      have e : (a * 10 + (c - 48) + 1) ≤ (a + 1) * 10 := by omega
      calc _ ≤ ((a + 1) * 10) * 10 ^ r.length := Nat.mul_le_mul_right _ e
        _ = _ := by rw [Nat.mul_assoc, Nat.mul_comm 10]
  have h2 := this l 0 h
  simpa [digitsVal] using h2
theorem log2_small {n : Nat} (h : n < 10 ^ 100) : n.log2 < 1920 := by
  by_cases h0 : n = 0
  · subst h0
    decide
  · rw [Nat.log2_lt h0]
    exact Nat.lt_trans h (by decide)
theorem log2_digits {l : List Nat} (h : AllDigits l) (hl : l.length ≤ 100) : (digitsVal l).log2 < 1920 :=
  log2_small (Nat.lt_of_lt_of_le (digitsVal_lt h) (Nat.pow_le_pow_right (by decide) hl))
/-- str of a negative number -/
theorem tl_neg (n : Nat) (h : 0 < n) : tl (Str.ofString (toString (-(n : Int)))) = 45 :: numL n := by
  cases n with
  | zero => exact absurd h (by decide)
  | succ m =>
    have e : (toString (-((m + 1 : Nat) : Int))) = "-" ++ toString (m + 1) := rfl
    have e2 : tl (Str.ofString (toString (m + 1))) = numL (m + 1) := tl_num (m + 1)
    rw [e, tl_ofString]
    rw [tl_ofString] at e2
    rw [String.toList_append, List.map_append, e2]
    rfl

/-! ### the program's own judge of numbers -/
def numPart (l : List Nat) : List Nat := if l.head? = some 45 then l.tail else l
def fitNum (l : List Nat) : Bool := plainD (numPart l) && decide (l ≠ [45, 48]) && decide ((digitsVal (numPart l) : Int) ≤ 10 ^ 15)
def fitLink (l : List Nat) : Bool := plainD l && decide (1 ≤ (digitsVal l : Int) ∧ (digitsVal l : Int) ≤ 10 ^ 12)
/-- the value of the text of a number -/
def numVal (l : List Nat) : Int := if l.head? = some 45 then -(digitsVal l.tail : Int) else digitsVal l
theorem int_of {x : Str} (h1 : numPart (tl x) ≠ []) (h2 : AllDigits (numPart (tl x))) (hl : x.length ≤ 100) : intText? x = some (numVal (tl x)) := by
  unfold numPart at h1 h2
  unfold numVal
  split
  · rename_i e
    rw [if_pos e] at h1 h2
    cases e2 : tl x with
    | nil => rw [e2] at h1; exact absurd rfl h1
    | cons c r =>
      rw [e2] at e h1 h2
      have : c = 45 := Option.some.inj e
      subst this
      exact intText_neg e2 h2 h1 (by omega)
  · rename_i e
    rw [if_neg e] at h1 h2
    exact intText_digits h2 h1 (by omega)
/-- what the law's own reader of whole numbers gives -/
def wholeV (l : List Nat) : Option Int := if plainD (numPart l) && decide (l ≠ [45, 48]) then some (numVal l) else none
theorem back_iff {x : Str} (h1 : numPart (tl x) ≠ []) (h2 : AllDigits (numPart (tl x))) :
    Str.ofString (toString (numVal (tl x))) = x ↔ (plainD (numPart (tl x)) && decide (tl x ≠ [45, 48])) = true := by
  rw [Bool.and_eq_true, decide_eq_true_eq, plainD_iff]
  have ex : Str.ofString (toString (numVal (tl x))) = x ↔ tl (Str.ofString (toString (numVal (tl x)))) = tl x := ⟨fun h => by rw [h], fun h => ext_tl h⟩
  rw [ex]
  unfold numPart at h1 h2 ⊢
  unfold numVal
  by_cases e : (tl x).head? = some 45
  · rw [if_pos e] at h1 h2 ⊢
    rw [if_pos e]
    cases e2 : tl x with
    | nil => rw [e2] at e; cases e
    | cons c r =>
      rw [e2] at e h1 h2
      have : c = 45 := Option.some.inj e
      subst this
      have h1 : r ≠ [] := h1
      have h2 : AllDigits r := h2
      show tl (Str.ofString (toString (-(digitsVal r : Int)))) = 45 :: r ↔ (r ≠ [] ∧ AllDigits r ∧ (r = [48] ∨ r.head? ≠ some 48)) ∧ 45 :: r ≠ [45, 48]
      by_cases z : digitsVal r = 0
      · rw [z]
        have e3 : tl (Str.ofString (toString (-((0 : Nat) : Int)))) = [48] := tl_num 0
        rw [e3]
        constructor
        · intro q
          injection q with q1 q2
          exact absurd q1 (by decide)
        · rintro ⟨⟨_, _, q⟩, q2⟩
          rcases q with q | q
          · rw [q] at q2
            exact absurd rfl q2
          · have := (numL_plain h2 h1).mpr (.inr q)
            rw [z] at this
            have z2 : numL 0 = [48] := rfl
            rw [z2] at this
            rw [← this] at q
            exact absurd rfl q
      · rw [tl_neg _ (by omega)]
        have np := numL_plain h2 h1
        constructor
        · intro q
          injection q with _ q2
          refine ⟨⟨h1, h2, np.mp q2⟩, fun q3 => ?_⟩
          have : r = [48] := by injection q3
          rw [this] at z
          exact z rfl
        · rintro ⟨⟨_, _, q⟩, _⟩
          rw [np.mpr q]
  · rw [if_neg e] at h1 h2 ⊢
    rw [if_neg e, tl_num, numL_plain h2 h1]
    refine ⟨fun q => ⟨⟨h1, h2, q⟩, fun q2 => ?_⟩, fun q => q.1.2.2⟩
    rw [q2] at e
    exact e rfl
/-- the law's bounds are the program's -/
theorem link_iff (l : List Nat) (h : Sgn l) : fitLink l = true ↔ ∃ n, wholeV l = some n ∧ 1 ≤ n ∧ n ≤ 10 ^ 12 := by
  unfold fitLink wholeV numPart numVal
  by_cases e : l.head? = some 45
  · rw [if_pos e, if_pos e]
    constructor
    · intro q
      rw [Bool.and_eq_true, plainD_iff] at q
      obtain ⟨⟨q1, q2, _⟩, _⟩ := q
      cases l with
      | nil => exact absurd rfl q1
      | cons c r =>
        have : c = 45 := Option.some.inj e
        subst this
        have := q2.head
        omega
    · rintro ⟨n, q, h1, _⟩
      split at q
      · have : -(digitsVal l.tail : Int) = n := Option.some.inj q
        omega
      · cases q
  · rw [if_neg e, if_neg e]
    constructor
    · intro q
      rw [Bool.and_eq_true, decide_eq_true_eq] at q
      have hz : l ≠ [45, 48] := fun z => by rw [z] at e; exact e rfl
      exact ⟨_, by rw [q.1, decide_eq_true hz]; rfl, q.2⟩
    · rintro ⟨n, q, h1, h2⟩
      split at q
      · rename_i q2
        rw [Bool.and_eq_true] at q2
        have : (digitsVal l : Int) = n := Option.some.inj q
        subst this
        rw [q2.1, decide_eq_true ⟨h1, h2⟩]
        rfl
      · cases q
theorem num_iff (l : List Nat) : fitNum l = true ↔ ∃ n, wholeV l = some n ∧ ((if n < 0 then -n else n) ≤ 10 ^ 15) := by
  unfold fitNum wholeV numVal numPart
  by_cases e : l.head? = some 45
  · rw [if_pos e, if_pos e]
    constructor
    · intro q
      rw [Bool.and_eq_true, decide_eq_true_eq] at q
      refine ⟨_, by rw [q.1]; rfl, ?_⟩
      split <;> omega
    · rintro ⟨n, q, h1⟩
      split at q
      · rename_i q2
        have : -(digitsVal l.tail : Int) = n := Option.some.inj q
        subst this
        rw [q2]
        refine decide_eq_true ?_
        split at h1 <;> omega
      · cases q
  · rw [if_neg e, if_neg e]
    constructor
    · intro q
      rw [Bool.and_eq_true, decide_eq_true_eq] at q
      refine ⟨_, by rw [q.1]; rfl, ?_⟩
      split <;> omega
    · rintro ⟨n, q, h1⟩
      split at q
      · rename_i q2
        have : (digitsVal l : Int) = n := Option.some.inj q
        subst this
        rw [q2]
        refine decide_eq_true ?_
        split at h1 <;> omega
      · cases q

/-! ### kinds -/
inductive Kd where | exact | flag | link | number | text
  deriving DecidableEq
def Kd.str : Kd → Str
  | .exact => "exact" | .flag => "flag" | .link => "link" | .number => "number" | .text => "text"
def kds : List Kd := [.exact, .flag, .link, .number, .text]
theorem kd_inj {a b : Kd} : a.str = b.str ↔ a = b := by
  refine ⟨fun h => ?_, fun h => by rw [h]⟩
  have : ∀ a b : Kd, decide (a.str = b.str) = decide (a = b) := by
    intro a b
    cases a <;> cases b <;> decide +kernel
  have e := this a b
  rw [decide_eq_true h] at e
  exact of_decide_eq_true e.symm
def normS (x : Str) : Str := Txt.join " " (Txt.words (Txt.lower x))
theorem tl_blank : tl (" " : Str) = [32] := by decide +kernel
theorem tl_normS {x : Str} (h : Sgn (tl x)) : tl (normS x) = normL (tl x) := by
  unfold normS normL wordsL
  rw [join_eq, tl_join, tl_blank, words_tl, tl_lower h]
def kform (k : Kd) (x : Str) : Option Str :=
  match k with
  | .exact => some x
  | .flag => if x = "yes" ∨ x = "no" then some x else none
  | .link => if fitLink (tl x) then some x else none
  | .number => if fitNum (tl x) then some x else none
  | .text => if normS x = "" then none else some (normS x)
def ov : Option Str → V
  | none => .non
  | some s => .str s
theorem ov_inj {a b : Option Str} : ov a = ov b ↔ a = b := by
  refine ⟨fun h => ?_, fun h => by rw [h]⟩
  cases a <;> cases b <;> simp [ov] at h ⊢
  exact h
/-- a text of the document -/
def IsTx (x : Str) : Prop := Sgn (tl x) ∧ x.length ≤ 100
theorem normS_tx {x : Str} (h : IsTx x) : IsTx (normS x) := by
  refine ⟨by rw [tl_normS h.1]; exact normL_sgn h.1, ?_⟩
  rw [len_tl, tl_normS h.1]
  have := normL_len (tl x)
  have e := len_tl x
  have := h.2
  omega
theorem normS_norm {x : Str} (h : IsTx x) : normS (normS x) = normS x := by
  refine ext_tl ?_
  rw [tl_normS (normS_tx h).1, tl_normS h.1, normL_norm h.1]
theorem kform_tx {k : Kd} {x d : Str} (h : IsTx x) (hx : x ≠ "") (e : kform k x = some d) : IsTx d ∧ d ≠ "" ∧ kform k d = some d := by
  cases k with
  | exact =>
    cases e
    exact ⟨h, hx, rfl⟩
  | flag =>
    have e' : (if x = "yes" ∨ x = "no" then some x else none) = some d := e
    split at e'
    · rename_i q
      cases e'
      exact ⟨h, hx, if_pos q⟩
    · cases e'
  | link =>
    have e' : (if fitLink (tl x) then some x else none) = some d := e
    split at e'
    · rename_i q
      cases e'
      exact ⟨h, hx, if_pos q⟩
    · cases e'
  | number =>
    have e' : (if fitNum (tl x) then some x else none) = some d := e
    split at e'
    · rename_i q
      cases e'
      exact ⟨h, hx, if_pos q⟩
    · cases e'
  | text =>
    have e' : (if normS x = "" then none else some (normS x)) = some d := e
    split at e'
    · cases e'
    · rename_i q
      cases e'
      refine ⟨normS_tx h, q, ?_⟩
      show (if normS (normS x) = "" then none else some (normS (normS x))) = _
      rw [normS_norm h, if_neg q]
end Bw

namespace Bw
open PySem PySem.Spec L2 TL PyProof.Rows

/-! ### rules that the layer lacks -/
def repS (x : Str) (n : Int) : Str := ⟨((List.replicate n.toNat (tl x)).flatten).toArray⟩
theorem tl_repS (x : Str) (n : Int) : tl (repS x n) = (List.replicate n.toNat (tl x)).flatten := rfl
theorem foldl_app (l : List (Array Nat)) : ∀ (a : Array Nat), (l.foldl (· ++ ·) a).toList = a.toList ++ (l.map Array.toList).flatten := by
  induction l with
  | nil => intro a; simp
  | cons b r ih =>
    intro a
    rw [List.foldl_cons, ih, Array.toList_append, List.map_cons, List.flatten_cons, List.append_assoc]
theorem repS_fold (x : Str) (n : Int) : (⟨(List.replicate n.toNat x.cps).foldl (· ++ ·) #[]⟩ : Str) = repS x n := by
  refine ext_tl ?_
  show ((List.replicate n.toNat x.cps).foldl (· ++ ·) #[]).toList = _
  rw [foldl_app, List.map_replicate, tl_repS]
  rfl
section
variable {X : Cx}
theorem call_repr_bl : CallR X (.builtin "repr") (fun xs H Q => ∃ b, xs = [.bl b] ∧ Q (.str (if b then "True" else "False")) H) := by
  intro pins s σ H xs us Q I r h
  obtain ⟨b, rfl, q⟩ := h
  obtain ⟨u, rfl, r1⟩ := vals1 r
  cases r1
  exact PySem.P.repr_of_bool ⟨.str _, H, I.tok _, ⟨_, rfl⟩, q⟩
/-- s * n -/
def rMulS : R2 := fun x y H Q => ∃ z n, x = .str z ∧ y = .int n ∧ 0 ≤ n ∧ n ≤ 1000 ∧ z.length ≤ 1000 ∧ Q (.str (repS z n)) H
theorem op_mulS : OpR X (binaryOp .Mult) rMulS := by
  intro pins s σ H x y v u Q I rx ry h
  obtain ⟨z, n, rfl, rfl, h0, h1, hz, q⟩ := h
  obtain ⟨t, rfl⟩ := rx
  obtain ⟨t', rfl⟩ := ry
  have hle : z.length * n.toNat ≤ 1000000 := by
    have := Nat.mul_le_mul hz (show n.toNat ≤ 1000 by omega)
    omega
  refine PySem.P.mul_str ?_ ?_ ?_ ?_
  · rw [decide_eq_false (by omega), decide_eq_false (by omega)]
    rfl
  · intro h2 _
    have h3 : (1 : Int) ≤ n := by omega
    have h4 : ((2 : Int) ^ 63 - 1) / 1000 ≤ (2 ^ 63 - 1) / n := by
      refine Int.le_ediv_of_mul_le (by omega) ?_
      have : ((2 : Int) ^ 63 - 1) / 1000 * n ≤ ((2 : Int) ^ 63 - 1) / 1000 * 1000 := Int.mul_le_mul_of_nonneg_left (by omega) (by decide)
      exact Int.le_trans this (by decide)
    have h5 : (1000 : Int) ≤ ((2 : Int) ^ 63 - 1) / 1000 := by decide
    omega
  · intro _ _
    unfold Builtin.Str.tooLong
    refine decide_eq_false ?_
    have : (sizeLine : Nat) = 16777216 := sizeLine_eq
    omega
  · by_cases h2 : n < 1
    · rw [if_pos h2]
      have e : n = 0 := by omega
      subst e
      exact ⟨by decide, ⟨.str _, H, I.tok _, ⟨_, rfl⟩, q⟩⟩
    · rw [if_neg h2]
      split
      · rename_i h3
        have e : repS z n = z := by
          refine ext_tl ?_
          rw [tl_repS]
          rw [Bool.or_eq_true, beq_iff_eq, beq_iff_eq] at h3
          rcases h3 with h3 | h3
          · subst h3
            show (List.replicate 1 (tl z)).flatten = _
            simp
          · have : tl z = [] := (len0_tl z).mp h3
            rw [this]
            simp
        rw [e] at q
        exact ⟨.str z, H, I, ⟨t, rfl⟩, q⟩
      · rw [repS_fold]
        exact ⟨by
          show (repS z n).length ≤ sizeLine
          rw [len_tl, tl_repS, List.length_flatten, List.map_replicate, List.sum_replicate_nat]
          have e := len_tl z
          have : (sizeLine : Nat) = 16777216 := sizeLine_eq
          have h9 : n.toNat * (tl z).length ≤ 1000000 := by rw [← e, Nat.mul_comm]; exact hle
          omega, ⟨.str _, H, I.tok _, ⟨_, rfl⟩, q⟩⟩
def CPowW (i j : Int) : Prop := 0 ≤ j ∧ (Builtin.Int.intBits i : Int) * j ≤ 2 ^ 27
theorem op_powW : OpR X (binaryOp .Pow) (rI CPowW fun i j => .int (i ^ j.toNat)) := opI fun _ _ _ _ _ _ _ hc q => pow_int hc.1 hc.2 q
end
end Bw

namespace Bw
open PySem PySem.Spec L2 TL PyProof.Rows

/-! ### for i, c in enumerate(s), s a text -/
/-- each sign in a new pair with its place -/
def Itn (x : Str) : It := ⟨fun i _ => i < x.cps.size, fun i H v H' => ∃ (T : Addr) (c : Nat), x.cps[i]? = some c ∧ v = .ref T ∧ H T = none ∧ H' = upd H T (.tup [.int (i : Nat), .str ⟨#[c]⟩]), fun i _ => i = x.cps.size⟩
theorem turn_enumS {P : Program} {w : World} {K : PySem.W.Frag} {elts : List Expr} {kk : Nat} {tpos : Pos} (en si : Addr) (x : Str) (t : Tok) :
    Turn P w K (.Tuple elts kk tpos) (Itn x) [en, si] en (fun i h => (∃ old, IsEnum h en si ((i : Nat) : Int) old) ∧ h.IsStrIter si (strIterType x) x t i ∧ en ≠ si) where
  mem := by simp
  obj := fun i h st b hb => by
    obtain ⟨⟨old, ho⟩, ⟨o, e1, e2, e3⟩, _⟩ := st
    rcases (by simpa using hb : b = en ∨ b = si) with rfl | rfl
    · exact ⟨_, ho, fun v z => nomatch z⟩
    · exact ⟨o, e1, fun v z => by rw [e3] at z; cases z⟩
  keep := fun i h h' st k => by
    obtain ⟨⟨old, ho⟩, ⟨o, e1, e2⟩, ne⟩ := st
    exact ⟨⟨old, k en (by simp) _ ho⟩, ⟨o, k si (by simp) _ e1, e2⟩, ne⟩
  item := by
    intro X e1 e2 e3 calm i pins s σ H E I hf st hgo
    subst e1 e2 e3
    obtain ⟨⟨old, ho⟩, hs, ne⟩ := st
    have le : en < s.heap.objs.size := Heap.lt_size ho
    have ls : si < s.heap.objs.size := by
      obtain ⟨_, q, _⟩ := hs
      exact Heap.lt_size q
    have D : Draws X.prog X.w X.A.in1 si [si] x.cps.size _ _ := Draws.text (show X.A.in1.handled = none from I.ok.hd calm) si x t
    refine wpAny_pyNext_enum_itemD D ho hs hgo ne (by simpa using ne) fun u h1 tk hu ho1 hs1 hT hz hk => ?_
    obtain ⟨c, t2, hc, rfl⟩ := hu
    refine ⟨_, rfl, wpAny_letOwnedTupleGo_enum (s := { s with heap := h1, toks := tk + 1 }) ho1 fun h2 ho2 sb => ?_⟩
    have hT2 : h2.get? s.heap.objs.size = some { cls := .type "tuple", data := .seq #[.int i tk, .str ⟨#[c]⟩ t2] } := (sb.2 _ (Nat.ne_of_gt le)).trans hT
    have okT : ObjOk X.prog X.w (upd H s.heap.objs.size (.tup [.int (i : Nat), .str ⟨#[c]⟩])) h2 s.heap.objs.size (.tup [.int (i : Nat), .str ⟨#[c]⟩]) :=
      ⟨by show 2 ≤ sizeLine; decide, [.int i tk, .str ⟨#[c]⟩ t2], .cons ⟨_, rfl⟩ (.cons ⟨_, rfl⟩ .nil), ⟨_, hT2, rfl, _, rfl⟩⟩
    have I2 := I.turnedNew (t' := tk + 1) (ch := [en, si]) (fun b ob hb q => (sb.2 b (fun z => hb (by simp [z]))).trans (hk b ob (fun z => hb (by simp [z])) (fun z => hb (by simp [z])) q)) hf (Nat.le_refl _) okT
    refine ⟨.ref s.heap.objs.size, _, I2, rfl, ⟨_, c, hc, rfl, I.hok.fresh (Nat.le_refl _), rfl⟩, ⟨⟨.str ⟨#[c]⟩ t2, ?_⟩, ?_, ne⟩, fun b hb => ?_⟩
    · rw [show ((i + 1 : Nat) : Int) = (i : Int) + 1 by omega]
      exact ho2
    · obtain ⟨o, q1, q2⟩ := hs1
      exact ⟨o, (sb.2 si (Ne.symm ne)).trans q1, q2⟩
    · have lb : b < s.heap.objs.size := by
        rcases (by simpa using hb : b = en ∨ b = si) with rfl | rfl
        · exact le
        · exact ls
      rw [upd_ne (Nat.ne_of_lt lb)]
      exact (hf b hb).1
  done := by
    intro X e1 e2 e3 calm i pins s σ H E I hf st hstop
    subst e1 e2 e3
    obtain ⟨⟨old, ho⟩, hs, ne⟩ := st
    obtain ⟨f0, f1, f2, f3, f4, f5⟩ := hf si (by simp)
    have hi : i = x.cps.size := hstop
    subst hi
    have D : Draws X.prog X.w X.A.in1 si [si] x.cps.size _ _ := Draws.text (show X.A.in1.handled = none from I.ok.hd calm) si x t
    exact wpAny_pyNext_enum_endD D ho hs fun h' eb => ⟨rfl, I.turned (t' := s.toks) (fun b o hb q => eb b o hb q) f0 f1 f3 f4 f5⟩
  self := fun A i s Q E st h => by
    obtain ⟨⟨_, ho⟩, _⟩ := st
    exact wpAny_pyIter_enum ho h
def iEnumS (ta : TA) : TI := fun σ H R => ta σ H fun vs H1 => ∃ x : Str, vs = [.str x] ∧ R (Itn x) H1
theorem pi_enumS {X : Cx} {e : Expr} {ta : TA} {p pos tpos : Pos} {elts : List Expr} {kk : Nat} (hg : Gl X "enumerate") (hm : X.mg "enumerate" = none) (ha : PA X [e] ta) (hs : starEach [e] X.env = [(false, eval e X.env)] := by rfl) :
    PI X (.Tuple elts kk tpos) (.Call (.Name "enumerate" p) [e] [] pos) (iEnumS ta) := by
  refine ⟨fun pins s σ H R I q => ?_⟩
  refine Call_ (ld_blt I hg hm boot_enumerate (PyProof.Rows.callWith_type1 (thn (ha.run pos pins s σ H _ I q) fun us s1 ⟨vs, H1, I1, r1, q1⟩ => ?_) hs rfl))
  obtain ⟨x, rfl, q1⟩ := q1
  obtain ⟨u, rfl, t, rfl⟩ := vals1 r1
  refine call_enumerate_str fun h' ho hsi hz hk => wpAny_pyIter_enum ho ?_
  have I2 : Inv X pins σ H1 { s1 with heap := h' } := I1.kept (t' := s1.toks) hk
  refine ⟨s1.heap.objs.size + 1, [s1.heap.objs.size + 1, s1.heap.objs.size], _, _, H1, rfl, I2, turn_enumS (s1.heap.objs.size + 1) s1.heap.objs.size x t, ⟨⟨.none, ho⟩, hsi, Nat.succ_ne_self _⟩, fun b hb => ?_, q1⟩
  have lb : s1.heap.objs.size ≤ b := by
    rcases (by simpa using hb : b = s1.heap.objs.size + 1 ∨ b = s1.heap.objs.size) with rfl | rfl
    · exact Nat.le_add_right _ _
    · exact Nat.le_refl _
  exact I1.fpOk lb (I1.hok.fresh lb)
theorem walk_enumS {x : Str} : Walk (Itn x) x.cps.size (fun _ => True) (fun i H v H' => ∃ (T : Addr) (c : Nat), x.cps[i]? = some c ∧ v = .ref T ∧ H T = none ∧ H' = upd H T (.tup [.int (i : Nat), .str ⟨#[c]⟩])) :=
  ⟨fun _ _ hi _ => hi, fun _ _ => rfl, fun _ _ _ _ _ _ y => y⟩
end Bw

namespace Bw
open PySem PySem.Spec L2 TL PyProof.Rows

/-! ### a while whose test gives a token out -/
def PTT (X : Cx) (c : Expr) (t : TT) : Prop :=
  ∀ (pins : List (Addr × Obj)) (s : Shared) (σ : L2.St) (H : Hp) (Q : Bool → Hp → Prop), L2.Inv X pins σ H s → t σ H Q → wpAny (model X.prog X.w) X.A (isTrue c X.env (eval c X.env)) (fun b s' => 1 ≤ s'.toks ∧ TP X pins σ Q b s') X.xe s
section
variable {X : Cx}
theorem ptt_strCmp {op : CmpOp} {r : R2} {x : Str} {j : Nat} {p pos : Pos} {b : Expr} {tb : TE} (ho : OpR X (compareOp op) r) (hb : PE X b tb) (hm : behindInMarks op b = false) : PTT X (.Compare (.Constant (.str x) j p) [op] [b] pos) (tTest (tOp r (tC (.str x)) tb)) := by
  intro pins s σ H Q I h
  refine wpAny_isTrue_Compare1 (Calls.Constant_str ?_) hm
  have I1 : L2.Inv X pins σ H { s with toks := s.toks + 1 } := I.tok _
  refine wpAny_mono (PySem.wpAny_toks (hb.run pins _ σ H _ I1 h)) (fun u s2 q => ?_) fun _ _ z => z.2
  obtain ⟨hk, y, H2, I2, r2, q2⟩ := q
  have hk2 : 1 ≤ s2.toks := by
    have : s.toks + 1 ≤ s2.toks := hk
    omega
  refine wpAny_mono (PySem.wpAny_toks (ho pins s2 σ H2 (.str x) y _ u _ I2 ⟨_, rfl⟩ r2 q2)) (fun c s3 q => ?_) fun _ _ z => z.2
  obtain ⟨hk3, z, H3, I3, r3, k, e, q3⟩ := q
  subst e
  cases r3
  exact wpAny_truthy_bool ⟨Nat.le_trans hk2 hk3, H3, I3, q3⟩
theorem ps_whileT {cond : Expr} {inside : List Stmt} {pos : Pos} {tc : TT} {ti : TS} (own : PassesOwn (model X.prog X.w) X.A X.env X.xe) (hcond : PTT X cond tc) (hin : PSsT X inside ti) : PS X (.While cond inside [] pos) (tWhile tc ti) := by
  refine ⟨fun ps sh τ G Z inv goal => ?_⟩
  obtain ⟨Wh, ⟨k0, start⟩, round⟩ := goal
  refine wpAny_While (codeAny_whileLoop (fun k sh' => ∃ τ' G', L2.Inv X ps τ' G' sh' ∧ Wh k τ' G') ?_ k0 ⟨τ, G, inv, start⟩)
  rintro k sa ⟨τa, Ga, inva, wa⟩
  refine wpAny_passesOwn own (thn (hcond ps sa τa Ga _ inva (round k τa Ga wa)) fun yes sb ⟨tokb, Gb, invb, qb⟩ => ?_)
  have back : ∀ {Nn : L2.St → Hp → Prop} {τc : L2.St} {Gc : Hp} {sc : Shared}, (∀ a b, Nn a b → ∃ k', k' < k ∧ Wh k' a b) → L2.Inv X ps τc Gc sc → Nn τc Gc → ∃ k', k' < k ∧ ∃ a b, L2.Inv X ps a b sc ∧ Wh k' a b := fun less invc nc => by
    obtain ⟨k', lt, wc⟩ := less _ _ nc
    exact ⟨k', lt, _, _, invc, wc⟩
  cases yes with
  | false => rw [if_neg (fun z => nomatch z)]; exact wpAny_execs_nil ⟨τa, Gb, invb, qb⟩
  | true =>
    obtain ⟨Nn, less, qc⟩ := qb
    rw [if_pos rfl]
    refine wpAny_passesOwn own (thn (hin ps sb τa Gb _ tokb invb qc) fun flow sc qd => ?_)
    cases flow with
    | brk => exact qd
    | ret _ => exact qd
    | next => obtain ⟨_, _, i1, i2⟩ := qd; exact back less i1 i2
    | cont => obtain ⟨_, _, i1, i2⟩ := qd; exact back less i1 i2
theorem pst_set {i : Nat} {x : Str} {e : Expr} {te : TE} {pos pos' : Pos} (hN : X.N.Nodup) (hi : X.N[i]? = some x) (hx : Loc X.env.scope x) (he : PET X e te) (hs : swapsWith e (some (.Name x pos')) pos.line X.env = pure false := by rfl) (hf : X.fn x = true ∨ X.env.scope.names.lookup x = some .local := by first | exact .inl rfl | exact .inr rfl | assumption) :
    PST X (.Assign [.Name x pos'] e pos) (tAsg te (gName i)) := by
  intro ps sh τ G Z tok inv goal
  exact wpAny_Assign_Name (thn (he ps sh τ G _ tok inv goal) fun val sa ⟨y, Ga, inva, ra, qa⟩ => store_ok inva hN hi hx ra (fun sb invb => ⟨_, Ga, invb, qa⟩) hf) hs
end
end Bw

namespace Bw
open PySem PySem.Spec L2 TL PyProof.Rows

/-! ### whatever guards stand around -/
/-- the same surroundings, with these guards -/
def gd (A : Around) (g : List Code) : Around := { A with guards := some g }
theorem codeAny_gd {M : Model} {A : Around} {c : Code} {R : Result → Shared → Prop} {s : Shared} (h : ∀ g, codeAny M (gd A g) c R s) : codeAny M A c R s := fun Γ p hc hb =>
  h (guardsOf Γ.below) Γ p hc ⟨hb.1, hb.2.1, hb.2.2.1, fun _ e => Option.some.inj e, hb.2.2.2.2⟩
section
variable {P : Program} {w : World} {K : PySem.W.Frag} {mg : Str → Option Value} {base : Heap}
/-- a def whose body knows the guards around it, and its own code object -/
structure FunC (K : PySem.W.Frag) (x qual : Str) (st : Stmt) (f : Addr) (fd : FuncData) (c : Addr) : Prop where
  ex : ∃ (oc : Value) (od : Option Addr) (kV doc pm : Value) (an : Option Addr) (ct : Value) (osl : Array (Option Value)),
    fd = PySem.W.fnOf x qual (defArgs st) (defBody st) (defScope st) .none kV doc pm an (.ref c) ct ∧ K.lookup f = some ⟨oc, od, .func fd, osl⟩ ∧ PySem.W.codeIn K (.ref c) qual = true
  kp : PySem.W.keepIn K (.ref f) = true
theorem FunC.plain {x qual : Str} {st : Stmt} {f : Addr} {fd : FuncData} {c : Addr} (F : FunC K x qual st f fd c) : Fun K x qual st f fd := by
  obtain ⟨oc, od, kV, doc, pm, an, ct, osl, e, lk, hcd⟩ := F.ex
  exact ⟨⟨oc, od, kV, doc, pm, an, .ref c, ct, osl, e, lk, hcd⟩, F.kp⟩
theorem okG {x qual : Str} {st : Stmt} {f c : Addr} {fd : FuncData} {N ps : List Str} {k : Nat} {sp : Sp} (F : FunC K x qual st f fd c) (S : FnScope N ps (defScope st)) (len : ∀ vs H Q E, sp vs H Q E → vs.length = ps.length)
    (hbody : ∀ (A : Around) (g : List Code) (outer : List Env) (s : Shared) (H : Hp) (vs : List V) (Q : VK) (E : XK), A.guards = some g → Room k (A.deeper (envOfC qual (defScope st) s.heap.objs.size f (.ref c))) → sp vs H Q E →
      ∃ t, PSs (cxOf CX0 P w K mg base N qual (defScope st) f (.ref c) A outer s H E).nox (defBody st) t ∧ t { nx := fun _ H' => Q .non H', rt := Q } (start N vs) H) : FnOk P w K mg base CX0 (k + 1) f fd ps sp := by
  obtain ⟨oc, od, kV, doc, pm, an, ct, osl, rfl, lk, hcd⟩ := F.ex
  refine ⟨len, fun A outer s H args us vs Q E hr e0 hb r hsp => codeAny_gd fun g => ?_⟩
  have e1 : Env0 P w K mg base (gd A g) outer s H := ⟨e0.frames, e0.mod, e0.bs, e0.bsz, e0.funs, e0.frf, e0.hok, e0.bare⟩
  refine LamX.run_ofS (A := gd A g) lk hcd S ⟨hr.hd, hr.dp, hr.un⟩ e1 hb r (len _ _ _ _ hsp) fun hr' => ?_
  obtain ⟨t, h, q⟩ := hbody (gd A g) g outer s H vs Q E rfl hr' hsp
  exact ⟨t, h.nox, q⟩
end

/-! ### repr of what stands in the heap -/
section
variable {prog : Program} {w : World} {A : Around} {E : Value → Shared → Prop} {s : Shared}
open Builtin
theorem slotG_calls {self : Value} {T : String} {id : String} {Q : Option Value → Shared → Prop} (hT : s.TypeIs self T) (h : SlotG T (Str.ofString "__repr__") id)
    (hc : wpAny (model prog w) A (call (.builtin id) [self]) (fun v => Q (some v)) E s) : wpAny (model prog w) A (callSpecialIfBound? self (Str.ofString "__repr__") []) Q E s := wpAny_callSpecialIfBound?_slotG (args := []) hT h hc
/-- repr(x), x of the type T that has its own repr -/
theorem repr_by {T id : String} {a : Addr} {Q : Value → Shared → Prop} (hT : s.TypeIs (.ref a) T) (slot : SlotG T (Str.ofString "__repr__") id) (hu : A.units + 2 < cLine)
    (h : wpAny (model prog w) A.in1 (call (.builtin id) [.ref a]) (fun v s' => ∃ x t, v = .str x t ∧ Q v s') E s) : wpAny (model prog w) A (call (.builtin "repr") [.ref a]) Q E s := by
  refine Calls.call_function_entry PySem.F.kind_repr PySem.F.plain_repr PySem.F.entry_repr (PySem.F.args_repr1 _) ?_
  unfold Builtin.«repr»
  refine wpAny_bind (m := oneArg "repr" _) (wpAny_pure ?_)
  refine wpAny_bind (wpAny_cRoomFor (by show A.units + 1 < cLine; omega) ?_)
  refine wpAny_bind (wpAny_specialOf (name := Str.ofString "__repr__") hT slot.lookup ?_)
  refine wpAny_bind (slotG_calls hT slot (wpAny_mono h (fun v s' q => ?_) fun _ _ z => z))
  obtain ⟨x, t, rfl, q⟩ := q
  refine wpAny_bind (wpAny_isInstance (T := "str") (b := true) rfl isSubtype_str_str ?_)
  exact wpAny_pure ⟨_, rfl, q⟩
/-- whether the tuple's repr is under way -/
def tupHit (g : List Code) (a : Addr) : Bool := g.any fun c => tupGuardF (.ref a) (c, default)
def tupR (g : List Code) (a : Addr) (ts : List Str) : Str := if tupHit g a then "(...)" else tupleText ts
theorem tup_repr {a : Addr} {o : Obj} {items : Array Value} {n : Nat} {ts : List Str} {g : List Code} {Q : Value → Shared → Prop} (hTy : s.TypeIs (.ref a) "tuple") (hg : A.guards = some g)
    (ha : s.heap.get? a = some o) (hd : o.data = .seq items n) (hT : ReprAll prog w items.toList ts) (hsz : (tupleText ts).length ≤ sizeLine)
    (hQ : ∀ u tk, Q (.str (tupR g a ts) u) { s with toks := tk }) : wpAny (model prog w) A (call (.builtin "tuple.__repr__") [.ref a]) Q E s := by
  refine wpAny_call (codeAny_call_builtin_own (Code.quiet_builtin _ (by decide +kernel)) PySem.F.entry_tuple_repr (PySem.F.slot_tuple_repr.check _ _ _ _ _ _ _ _ hTy (PySem.F.args_tuple_repr_1 _) ?_))
  show wpOwn _ _ _ (Builtin.tupleReprAt 0 ⟨[.ref a], []⟩) _ _ s
  rw [tuple_repr_tree, tupleReprUnderWay_eq]
  refine wpOwn_bind (wpOwn_stackTailAny hg (tupGuardF_off _) (tupGuardF_pos _) ?_)
  unfold tupR at hQ
  show wpOwn _ _ _ (if tupHit g a = true then _ else _) _ _ s
  cases e : tupHit g a with
  | true =>
    rw [e] at hQ
    rw [if_pos rfl]
    refine wpOwn_of_wpAny (wpAny_bind (wpAny_rule (wpAny_bind (wpAny_mkStr (wpAny_pure ?_) (by decide +kernel)))))
    exact hQ _ _
  | false =>
    rw [e] at hQ
    rw [if_neg (by decide)]
    exact wpOwn_of_wpAny (wpAny_tupleReprRest ha hd hT hQ (by omega))
/-- whether the list's repr is under way -/
def lstF (a : Addr) : Code × Pos → Bool := fun
  | (.builtin "list.__repr__.loop" ⟨v :: _, _⟩, _) => Builtin.List.listSameRef v (.ref a)
  | _ => false
def lstHit (g : List Code) (a : Addr) : Bool := g.any fun c => lstF a (c, default)
def lstR (g : List Code) (a : Addr) (ts : List Str) : Str := if lstHit g a then "[...]" else listText ts
theorem lstF_cons (a : Addr) (id : String) (v : Value) (rest : List Value) (kw : List (Str × Value)) (p : Pos) : lstF a (.builtin id ⟨v :: rest, kw⟩, p) = (decide (id = "list.__repr__.loop") && Builtin.List.listSameRef v (.ref a)) := by
  by_cases h : id = "list.__repr__.loop"
  · subst h
    simp [lstF]
  · simp [lstF, h]
theorem lstF_pos (a : Addr) (c : Code) (p : Pos) : lstF a (c, p) = lstF a (c, default) := by
  cases c with
  | builtin id args =>
    obtain ⟨xs, kw⟩ := args
    cases xs with
    | nil => simp [lstF]
    | cons v rest => rw [lstF_cons, lstF_cons]
  | _ => rfl
theorem lstF_off (a : Addr) (c : Code) (p : Pos) (hc : c.isGuard = false) : lstF a (c, p) = false := by
  cases c with
  | builtin id args =>
    obtain ⟨xs, kw⟩ := args
    cases xs with
    | nil => simp [lstF]
    | cons v rest =>
      rw [lstF_cons]
      have h : ¬ id = "list.__repr__.loop" := fun z => by
        rw [z] at hc
        simp [Code.isGuard, guardIds] at hc
      simp [h]
  | _ => rfl
theorem lst_repr {a : Addr} {o : Obj} {x : Value} {l : List Value} {n : Nat} {ts : List Str} {g : List Code} {Q : Value → Shared → Prop} (hTy : s.TypeIs (.ref a) "list") (hg : A.guards = some g)
    (ha : s.heap.get? a = some o) (hd : o.data = .seq (x :: l).toArray n) (hlen : ts.length = (x :: l).toArray.size) (hT : ∀ (i : Nat) (y : Value), (x :: l).toArray[i]? = some y → ∃ t, ts[i]? = some t ∧ ReprIs prog w y t) (hsz : (listText ts).length ≤ sizeLine)
    (hQ : ∀ h' u tk, (∀ b o, s.heap.get? b = some o → h'.get? b = some o) → Q (.str (lstR g a ts) u) { s with heap := h', toks := tk }) : wpAny (model prog w) A (call (.builtin "list.__repr__") [.ref a]) Q E s := by
  unfold lstR at hQ
  cases e : lstHit g a with
  | false =>
    rw [e] at hQ
    refine call_list_repr hTy hg (fun v rest kw hm => ?_) ha hd hlen hT hQ hsz
    have := List.any_eq_false.mp e _ hm
    rw [lstF_cons] at this
    simpa using this
  | true =>
    rw [e] at hQ
    refine wpAny_call (codeAny_call_builtin_own (Code.quiet_builtin _ (by decide +kernel)) PySem.F.entry_list_repr (PySem.F.slot_list_repr.check _ _ _ _ _ _ _ _ hTy (PySem.F.args_list_repr_1 _) ?_))
    show wpOwn _ _ _ (Builtin.listReprAt 0 ⟨[.ref a], []⟩) _ _ s
    intro Γ p hcd hΓ
    unfold Builtin.listReprAt
    simp [slotArgs, Builtin.List.listItems, seqItems?, Sem.wp_load_of (h := ha), hd, stack]
    show Sem.wp _ Γ (if (Γ.below.any (lstF a)) = true then _ else _) _ _ p s
    have e2 : Γ.below.any (lstF a) = true := by
      rw [any_eq_guards (lstF_off a) (lstF_pos a), hΓ.2.2.2.1 g hg]
      exact e
    rw [if_pos e2]
    have hΓ2 : Γ.In (A.under (.builtin "list.__repr__" ⟨[.ref a], []⟩)) := hcd ▸ hΓ.in
    exact (show wpAny (model prog w) (A.under (.builtin "list.__repr__" ⟨[.ref a], []⟩)) (do rule "list.__repr__.in-itself"; retStr "[...]") _ _ s from wpAny_bind (wpAny_rule (wpAny_bind (wpAny_mkStr (wpAny_pure (hQ _ _ _ fun _ _ z => z)) (by decide +kernel))))) Γ p hΓ2
def dctHit (g : List Code) (a : Addr) : Bool := g.any fun c => dictGuardF (.ref a) (c, default)
def dctR (g : List Code) (a : Addr) : Str := if dctHit g a then "{...}" else dictText []
theorem dct_repr {a : Addr} {o : Obj} {n : Nat} {g : List Code} {Q : Value → Shared → Prop} (hg : A.guards = some g)
    (ha : s.heap.get? a = some o) (hc : o.cls = .type "dict") (hd : o.data = .dict #[] n) (hsys : (a == sysModules) = false)
    (hQ : ∀ u tk, Q (.str (dctR g a) u) { s with toks := tk }) : wpAny (model prog w) A (call (.builtin "dict.__repr__") [.ref a]) Q E s := by
  have hTy : s.TypeIs (.ref a) "dict" := ⟨o, ha, hc⟩
  refine wpAny_call (codeAny_call_builtin_own (Code.quiet_builtin _ (by decide +kernel)) PySem.F.entry_dict_repr (PySem.F.slot_dict_repr.check _ _ _ _ _ _ _ _ hTy (PySem.F.args_dict_repr_1 _) ?_))
  show wpOwn _ _ _ (Builtin.dictReprAt 0 ⟨[.ref a], []⟩) _ _ s
  unfold Builtin.dictReprAt
  refine wpOwn_bind (wpOwn_of_wpAny ?_)
  unfold Builtin.Dict.dictSlotNone
  refine wpAny_bind (wpAny_notOrdered_dict hTy ?_)
  show wpAny _ _ (pure (Value.ref a)) _ _ s
  refine wpAny_pure ?_
  rw [dictReprRunning_eq]
  refine wpOwn_bind (wpOwn_stackTailAny hg (dictGuardF_off _) (dictGuardF_pos _) ?_)
  unfold dctR at hQ
  show wpOwn _ _ _ (if dctHit g a = true then _ else _) _ _ s
  cases e : dctHit g a with
  | true =>
    rw [e] at hQ
    rw [if_pos rfl]
    refine wpOwn_of_wpAny (wpAny_bind (wpAny_rule (wpAny_bind (wpAny_mkStr (wpAny_pure ?_) (by decide +kernel)))))
    exact hQ _ _
  | false =>
    rw [e] at hQ
    rw [if_neg (by decide)]
    refine wpOwn_of_wpAny ?_
    show wpAny _ _ (Builtin.Dict.addrOf (.ref a) >>= _) _ _ s
    refine wpAny_bind (wpAny_pure ?_)
    show wpAny _ _ (Builtin.Dict.showsAll a >>= _) _ _ s
    unfold Builtin.Dict.showsAll
    rw [if_neg (by rw [hsys]; exact Bool.false_ne_true)]
    refine wpAny_bind (wpAny_pure ?_)
    refine wpAny_bind (wpAny_dictEpoch ha hd ?_)
    refine wpAny_bind (wpAny_dictEntries ha hd ?_)
    refine wpAny_bind ?_
    rw [Std.Legacy.Range.forIn_eq_forIn_range']
    simp only [Std.Legacy.Range.size, Nat.sub_zero, Nat.add_sub_cancel, Nat.div_one]
    show wpAny _ _ (pure _) _ _ s
    refine wpAny_pure (wpAny_bind (wpAny_mkStr (wpAny_pure ?_) (by decide +kernel)))
    exact hQ _ _
end
end Bw

namespace Bw
open PySem PySem.Spec L2 TL PyProof.Rows

/-- the text that repr gives, while the guards g stand around -/
inductive RpV (g : List Code) (H : Hp) : V → Str → Prop where
  | non : RpV g H .non "None"
  | bl (b : Bool) : RpV g H (.bl b) (if b then "True" else "False")
  | int (i : Int) (h : i.natAbs.log2 < 1920) (hz : (Str.ofString (toString i)).length ≤ 100000) : RpV g H (.int i) (toString i)
  | str (x : Str) (h : (reprText x).length ≤ 100000) : RpV g H (.str x) (reprText x)
  | tup {a : Addr} {xs : List Str} (e : H a = some (.tup (xs.map V.str))) (h : ∀ y ∈ xs, (reprText y).length ≤ 100000) (hz : (tupleText (xs.map reprText)).length ≤ 100000) : RpV g H (.ref a) (tupR g a (xs.map reprText))
  | lst {a : Addr} {x : Str} {xs : List Str} (e : H a = some (.lst ((x :: xs).map V.str))) (h : ∀ y ∈ x :: xs, (reprText y).length ≤ 100000) (hz : (listText ((x :: xs).map reprText)).length ≤ 100000) : RpV g H (.ref a) (lstR g a ((x :: xs).map reprText))
  | dct {a : Addr} (e : H a = some (.dK [])) : RpV g H (.ref a) (dctR g a)
theorem sz100 {n : Nat} (h : n ≤ 100000) : n ≤ sizeLine := Nat.le_trans h (by decide)
theorem RpV.up {g : List Code} {H H' : Hp} {v : V} {r : Str} (h : RpV g H v r) (e : Same H H') : RpV g H' v r := by
  cases h with
  | non => exact .non
  | bl b => exact .bl b
  | int i h hz => exact .int i h hz
  | str x h => exact .str x h
  | tup q h hz => exact .tup (e _ _ q) h hz
  | lst q h hz => exact .lst (e _ _ q) h hz
  | dct q => exact .dct (e _ _ q)
theorem tup_len : ∀ g a ts, (tupleText ts).length ≤ 100000 → (tupR g a ts).length ≤ 100000 := fun g a ts h => by
  unfold tupR
  split
  · decide +kernel
  · exact h
theorem RpV.len {g : List Code} {H : Hp} {v : V} {r : Str} (h : RpV g H v r) : r.length ≤ 100000 := by
  cases h with
  | non => decide +kernel
  | bl b => cases b <;> decide +kernel
  | int i h hz => exact hz
  | str x h => exact h
  | tup q h hz => exact tup_len _ _ _ hz
  | lst q h hz =>
    unfold lstR
    split
    · decide +kernel
    · exact hz
  | dct q =>
    unfold dctR
    split <;> decide +kernel
theorem vals_strs : ∀ {L : List Str} {its : List Value} {i : Nat} {z : Value}, Vals (L.map V.str) its → its[i]? = some z → ∃ x t, L[i]? = some x ∧ z = .str x t
  | [], _, i, z, r, e => by
    cases r
    simp at e
  | x :: L, _, 0, z, r, e => by
    cases r with
    | cons a b =>
      obtain ⟨t, rfl⟩ := a
      simp at e
      exact ⟨x, t, rfl, e.symm⟩
  | x :: L, _, i + 1, z, r, e => by
    cases r with
    | cons a b =>
      obtain ⟨y, t, h1, h2⟩ := vals_strs (L := L) (i := i) b (by simpa using e)
      exact ⟨y, t, by simpa using h1, h2⟩
def rRp (g : List Code) : List V → Hp → VK → Prop := fun xs H Q => ∃ v r, xs = [v] ∧ RpV g H v r ∧ Q (.str r) H
theorem call_rp {X : Cx} {g : List Code} (hg : X.A.guards = some g) (hu : X.A.units + 2 < cLine) : CallR X (.builtin "repr") (rRp g) := by
  intro pins s σ H xs us Q I r h
  obtain ⟨v, t, rfl, rp, q⟩ := h
  obtain ⟨u, rfl, r1⟩ := vals1 r
  cases rp with
  | non =>
    obtain rfl : u = Value.none := r1
    exact PySem.P.repr_of_none ⟨.str _, H, I.tok _, ⟨_, rfl⟩, q⟩
  | bl b =>
    obtain rfl : u = Value.bool b := r1
    exact PySem.P.repr_of_bool ⟨.str _, H, I.tok _, ⟨_, rfl⟩, q⟩
  | int i h hz =>
    obtain ⟨t, rfl⟩ := (show ∃ t, u = Value.int i t from r1)
    exact PySem.P.repr_of_int h ⟨.str _, H, I.tok _, ⟨_, rfl⟩, q⟩
  | str x h =>
    obtain ⟨t, rfl⟩ := (show ∃ t, u = Value.str x t from r1)
    exact PySem.P.repr_of_str ⟨.str _, H, I.tok _, ⟨_, rfl⟩, q⟩ (sz100 h)
  | @tup a xs e h hz =>
    obtain rfl : u = Value.ref a := r1
    obtain ⟨_, its, rv, o, h1, h2, n, h3⟩ := (show ObjOk X.prog X.w H s.heap a (.tup (xs.map V.str)) from I.hok a _ e)
    refine repr_by ⟨o, h1, h2⟩ PySem.F.slot_tuple_repr hu ?_
    refine tup_repr (ts := xs.map reprText) ⟨o, h1, h2⟩ hg h1 h3 (repr_all rv fun y hy => sz100 (h y hy)) (sz100 hz) fun u tk => ?_
    exact ⟨_, _, rfl, .str _, H, I.tok _, ⟨_, rfl⟩, q⟩
  | @lst a x xs e h hz =>
    obtain rfl : u = Value.ref a := r1
    obtain ⟨_, its, n, rv, h1⟩ := (show ObjOk X.prog X.w H s.heap a (.lst ((x :: xs).map V.str)) from I.hok a _ e)
    have hT : s.TypeIs (.ref a) "list" := ⟨_, h1, rfl⟩
    obtain ⟨y, l, rfl⟩ : ∃ y l, its = y :: l := by
      cases rv with
      | cons r t => exact ⟨_, _, rfl⟩
    have hlen := rv.length
    refine repr_by hT PySem.F.slot_list_repr.toG hu ?_
    refine lst_repr (ts := (x :: xs).map reprText) hT hg h1 rfl (by simpa using hlen) (fun i z hz => ?_) (sz100 hz) fun h' u tk hk => ?_
    · obtain ⟨y', t, h5, rfl⟩ := vals_strs rv (by simpa using hz)
      refine ⟨reprText y', by rw [List.getElem?_map, h5]; rfl, ReprIs.str y' t (sz100 (h y' (List.mem_of_getElem? h5)))⟩
    · exact ⟨_, _, rfl, .str _, H, I.kept hk, ⟨_, rfl⟩, q⟩
  | @dct a e =>
    obtain rfl : u = Value.ref a := r1
    obtain ⟨_, hs, vs, kv, o, es, ep, h1, h2, h3⟩ := (show ObjOk X.prog X.w H s.heap a (.dK []) from I.hok a _ e)
    cases kv
    obtain ⟨e1, e2, e3, _⟩ := h3
    have e0 : es = #[] := by
      have := e3
      cases q : es.toList with
      | nil => simpa using q
      | cons a b =>
        rw [q] at this
        cases this
    rw [e0] at e1
    refine repr_by ⟨o, h1, h2.1⟩ PySem.F.slot_dict_repr hu ?_
    exact dct_repr (n := ep) hg h1 h2.1 e1 hs fun u tk => ⟨_, _, rfl, .str _, H, I.tok _, ⟨_, rfl⟩, q⟩
end Bw

namespace Bw
open PySem PySem.Spec L2 LamX TL PyProof.Rows

/-! ### a lambda whose one parameter has a default -/
/-- p is the parameter; all other names are captured or global -/
structure LamP (sc scope : Scope) (p : Str) : Prop where
  fn : scope.kind = .function
  noco : scope.isCoroutine = false
  nogen : scope.isGenerator = false
  one : scope.names.lookup p = some .local
  nocell : ∀ y ∈ scope.names, y.2 ≠ .cell
  loc1 : ∀ y, scope.names.lookup y = some .local → y = p
  caught : ∀ y ∈ scope.names, y.2 = .free → sc.names.lookup y.1 = some .cell ∨ sc.names.lookup y.1 = some .free
def lamPB (sc scope : Scope) (p : Str) : Bool :=
  decide (scope.kind = .function) && (!scope.isCoroutine && (!scope.isGenerator && (decide (scope.names.lookup p = some .local) && scope.names.all fun y => !decide (y.2 = .cell) && ((!decide (y.2 = .local) || decide (y.1 = p)) && (!decide (y.2 = .free) || (decide (sc.names.lookup y.1 = some .cell) || decide (sc.names.lookup y.1 = some .free)))))))
theorem lamP_by {sc scope : Scope} {p : Str} (h : lamPB sc scope p = true) : LamP sc scope p := by
  unfold lamPB at h
  simp only [Bool.and_eq_true, Bool.or_eq_true, Bool.not_eq_true', decide_eq_true_eq, decide_eq_false_iff_not, List.all_eq_true] at h
  obtain ⟨h1, h2, h3, h4, h5⟩ := h
  refine ⟨h1, h2, h3, h4, fun y hy => (h5 y hy).1, fun y hy => ?_, fun y hy e => ?_⟩
  · rcases (h5 (y, .local) (PySem.mem_of_lookup hy)).2.1 with z | z
    · exact absurd rfl z
    · exact z
  · rcases (h5 y hy).2.2 with z | z
    · exact absurd e z
    · exact z
theorem LamP.cells {X : Cx} {scope : Scope} {p : Str} (L : LamP X.env.scope scope p) (ok : X.Ok) : ∀ y ∈ scope.names, y.2 = .free → ∃ c, X.env.cells.lookup y.1 = some c := fun y hy e =>
  (L.caught y hy e).elim (fun k => ok.has _ (.inl k)) fun k => ok.has _ (.inr k)
/-- the function object -/
abbrev lamO (X : Cx) (params : Arguments) (body : Expr) (scope : Scope) (t : Addr) (doc pm : Value) (c' : Addr) (ctv : Value) : Obj :=
  PySem.W.kdv_obj "<lambda>" (X.env.qual ++ "<lambda>") params (.expr body) scope (cloFrom X.env.cells scope.names []) (.ref t) doc pm c' ctv
section
variable {X : Cx} {pins : List (Addr × Obj)} {σ : L2.St} {H : Hp} {s : Shared}
theorem off_stack (I : Inv X pins σ H s) {f : Addr} (hf : s.heap.objs.size ≤ f) : f ∉ frs X.stack := fun z => (List.mem_cons.mp (I.stkSub _ z)).elim
  (fun e => Nat.lt_irrefl f (Nat.lt_of_lt_of_le (e ▸ I.lt) hf)) (I.nofs hf)
theorem lamp_make {T : List (Addr × Str)} {c P : Addr} {params : Arguments} {body : Expr} {scope : Scope} {pos dp : Pos} {n : Int} {j : Nat} {E : Value → Shared → Prop} {Q : Value → Shared → Prop} (I : Inv X pins σ H s) (TB : TabB X.base X.mg c P) (hcode : X.env.code = .ref c)
    (mem : (P, X.env.qual ++ "<lambda>") ∈ T) (only : ∀ p ∈ T, p.1 = P → p.2 = X.env.qual ++ "<lambda>") (tabs : Tabs T H) (hd : params.defaults = [.Constant (.int n) j dp]) (hk : params.kw_defaults = []) (caught : ∀ y ∈ scope.names, y.2 = .free → ∃ c, X.env.cells.lookup y.1 = some c)
    (h : ∀ (f t c' : Addr) (v doc pm ctv : Value) (H1 : Hp) (s' : Shared), Inv X pins σ H1 s' → ExtN H H1 → Tabs T H1 → s'.heap.get? f = some (lamO X params body scope t doc pm c' ctv) → H1 f = none → f ∉ frs X.stack →
      s'.heap.get? t = some (PySem.W.kdv_tup [v]) → H1 t = none → t ∉ frs X.stack → H1 c' = some (CodeO c' (X.env.qual ++ "<lambda>")) → Q (.ref f) s') :
    wpAny (model X.prog X.w) X.A (eval (.Lambda params body scope pos) X.env) Q E s := by
  obtain ⟨ps, tabP, tri, among⟩ := tabs _ mem
  refine PySem.W.kdv_lam (by rw [hd]; rfl) hk ?_
  rw [hd]
  refine PySem.W.kdv_all1 (wpAny_Constant_int (PySem.W.kdv_all0 ?_))
  rw [makeFunction_eq]
  simp only [List.zip_nil_right, List.filterMap_nil, List.isEmpty_nil, List.isEmpty_cons, if_true, pure_bind, Bool.false_eq_true, if_false]
  refine wpAny_bind (wpAny_newTextTuple ?_)
  have I0 : Inv X pins σ H { s with heap := s.heap.push (PySem.W.kdv_tup [.int n s.toks]), toks := s.toks + 1 } := I.kept fun b o e => Heap.get?_push_of_some _ e
  have nt : H s.heap.objs.size = none := I.hok.fresh (Nat.le_refl _)
  have ft : s.heap.objs.size ∉ frs X.stack := off_stack I (Nat.le_refl _)
  have at_t : (s.heap.push (PySem.W.kdv_tup [.int n s.toks])).get? s.heap.objs.size = some (PySem.W.kdv_tup [.int n s.toks]) := Heap.get?_push_size _ rfl
  generalize es : ({ s with heap := s.heap.push (PySem.W.kdv_tup [.int n s.toks]), toks := s.toks + 1 } : Shared) = s2 at I0
  have e2 : s2.heap = s.heap.push (PySem.W.kdv_tup [.int n s.toks]) := by rw [← es]
  rw [← e2] at at_t
  have tabM : s2.heap.get? P = some { cls := .none, data := .fields ps } := I0.hok P _ tabP
  have blt : s2.heap.BuiltinsAt X.mg P := TB.bm.keeps I0.bk
  have codeH := TB.code.keeps I0.bk
  have globs : s2.heap.Ns mainGlobals X.mg := I0.mod.glob.keeps I0.bk
  have tlt : s.heap.objs.size < s2.heap.objs.size := Heap.lt_size at_t
  have tP : s.heap.objs.size ≠ P := fun z => by
    rw [← z, nt] at tabP
    cases tabP
  cases hc : codeAmong pos ps.toList with
  | some cv =>
    obtain ⟨c', rfl, known⟩ := among pos cv hc
    refine PySem.W.kdv_makeTailHit (s := s2) (mg := X.mg) (c := c) (P := P) (ps := ps) (closure_ok caught) I.ok.glob globs hcode codeH tabM tri hc blt fun ctv doc h' tk keep le => ?_
    refine h _ s.heap.objs.size c' (.int n s.toks) doc _ ctv H _ (I0.kept (t' := tk) fun b o e => Heap.get?_push_of_some _ (keep b o e)) (ExtN.refl H) tabs (Heap.get?_push_size _ rfl) (I0.hok.fresh le) (off_stack I0 le) (Heap.get?_push_of_some _ (keep _ _ at_t)) nt ft known
  | none =>
    refine PySem.W.kdv_makeTail (s := s2) (mg := X.mg) (c := c) (P := P) (ps := ps) (closure_ok caught) I.ok.glob globs hcode codeH tabM tri hc TB.gP blt fun c' ctv doc h' tk keep le lt rec_ tab' => ?_
    obtain ⟨c3, oc, vs, u, e3, recC, recD, recV⟩ := rec_
    cases e3
    have newC : H c' = none := I0.hok.fresh le
    have le' : s2.heap.objs.size ≤ h'.objs.size := Nat.le_trans le (Nat.le_of_lt lt)
    have I1 := inv_table (t' := tk) (more := #[rawInt pos.line, rawInt pos.col, .ref c']) (h' := h'.push (lamO X params body scope s.heap.objs.size doc ((X.mg "__name__").getD .none) c' ctv)) I0 tabP
      (fun b o ne e => Heap.get?_push_of_some _ (keep b o ne e)) (Heap.get?_push_of_some _ tab') le ⟨oc, vs, u, Heap.get?_push_of_some _ recC, recD, recV⟩
    have more : ExtN H (upd (upd H P (.tbl (ps ++ #[rawInt pos.line, rawInt pos.col, .ref c']))) c' (CodeO c' (X.env.qual ++ "<lambda>"))) := fun b o e ne => by
      have hb : b ≠ P := fun z => by
        rw [z, tabP] at e
        exact ne ps (Option.some.inj e).symm
      rw [upd_ne (ne_of_none e newC), upd_ne hb]
      exact e
    have lay : (ps ++ #[rawInt pos.line, rawInt pos.col, .ref c']).toList = ps.toList ++ [rawInt pos.line, rawInt pos.col, .ref c'] := by simp
    have off : ∀ b, H b = none → b ≠ P → b ≠ c' → upd (upd H P (.tbl (ps ++ #[rawInt pos.line, rawInt pos.col, .ref c']))) c' (CodeO c' (X.env.qual ++ "<lambda>")) b = none := fun b e n1 n2 => by
      rw [upd_ne n2, upd_ne n1]
      exact e
    have ntc : s.heap.objs.size ≠ c' := Nat.ne_of_lt (Nat.lt_of_lt_of_le tlt le)
    refine h h'.objs.size s.heap.objs.size c' (.int n s.toks) doc _ ctv _ _ I1 more (fun p hp => ?_) (Heap.get?_push_size _ rfl) (off _ (I0.hok.fresh le') (fun z => ?_) (Nat.ne_of_gt lt)) (off_stack I0 le') (Heap.get?_push_of_some _ (keep _ _ tP at_t)) (off _ nt tP ntc) ft upd_same
    · by_cases eP : p.1 = P
      · rw [only p hp eP, eP]
        refine ⟨_, (upd_ne (ne_of_none tabP newC)).trans upd_same, by rw [lay]; exact PySem.TriplesOk_snoc _ _ _ _ tri, fun p' cv q => ?_⟩
        rw [lay] at q
        rcases among_app _ tri q with z | rfl
        · obtain ⟨c0, z1, z2⟩ := among p' cv z
          exact ⟨c0, z1, more _ _ z2 codeO_ne⟩
        · exact ⟨c', rfl, upd_same⟩
      · obtain ⟨qs, z1, z2, z3⟩ := tabs p hp
        refine ⟨qs, (upd_ne (ne_of_none z1 newC)).trans ((upd_ne eP).trans z1), z2, fun p' cv q => ?_⟩
        obtain ⟨c0, y1, y2⟩ := z3 p' cv q
        exact ⟨c0, y1, more _ _ y2 codeO_ne⟩
    · rw [z] at le'
      exact Nat.lt_irrefl _ (Nat.lt_of_lt_of_le (Heap.lt_size tabM) le')
end
section
variable {X : Cx} {pins : List (Addr × Obj)} {σ : L2.St} {H HZ : Hp} {s s1 : Shared}
/-- the body of the lambda is entered: its names are the maker's, as they stood -/
theorem lamp_start {A : Around} {outer : List Env} {E : XK} {scope : Scope} {f c' : Addr} {h₁ : Heap} {tk : Nat} {p : Str} {m : Str → Option Value} (I : Inv X pins σ H s) (L : LamP X.env.scope scope p) (nop : p ∉ X.N) (e0 : Env0 X.prog X.w X.K X.mg X.base A outer s1 HZ) (quiet : A.handled = none)
    (un : Un (frs X.stack) [] H HZ s.heap s1.heap) (names : h₁.Ns s1.heap.objs.size m) (kp : ∀ b o, s1.heap.get? b = some o → h₁.get? b = some o) : Inv (lamCx X A outer s1 HZ E scope f c') [] σ HZ { s1 with heap := h₁, toks := tk } := by
  have caught := L.cells I.ok
  have back : ∀ {y c}, (cloFrom X.env.cells scope.names []).lookup y = some c → X.env.cells.lookup y = some c := fun {y c} e => by
    rcases cloFrom_mem (PySem.mem_of_lookup e) with hm | ⟨h1, h2⟩
    · cases hm
    · obtain ⟨c1, hc⟩ := caught _ h1 rfl
      have hc2 : X.env.cells.lookup y = some c1 := hc
      rw [hc2]
      rw [hc2] at h2
      exact congrArg some h2.symm
  have there : ∀ {y}, scope.names.lookup y = some .free → ∃ c, (cloFrom X.env.cells scope.names []).lookup y = some c := fun {y} hl => mem_lookup (cloFrom_has (cells := X.env.cells) (acc := []) (PySem.mem_of_lookup hl))
  have stays : ∀ {c : Addr} {v : Option Value}, H c = none → s.heap.IsCell c v → h₁.IsCell c v := fun {c v} n ⟨o, ho, hd⟩ =>
    (un.any ho n List.not_mem_nil).elim fun _ q => ⟨_, kp _ _ q, hd⟩
  have none_ : ∀ b : Addr, b ∉ (lamCx X A outer s1 HZ E scope f c').ex := fun b => List.not_mem_nil (a := b)
  have ok : (lamCx X A outer s1 HZ E scope f c').Ok := {
    mod := e0.mod
    kind := L.fn
    glob := rfl
    blt := rfl
    above := Nat.le_refl _
    inj := fun y z c e1 e2 => I.ok.inj y z c (back e1) (back e2)
    has := fun y hy => (show scope.names.lookup y = some .cell ∨ scope.names.lookup y = some .free from hy).elim (fun k => absurd rfl (L.nocell _ (PySem.mem_of_lookup k))) fun k => there k
    cab := fun y c z _ => Bool.noConfusion (show false = true from z)
    hd := fun _ => quiet
    frames := Around.frames_deeper e0.frames
    stk := .inr ⟨rfl, rfl⟩
    exf := fun b z => absurd z (none_ b)
    bs := e0.bs
    bsz := e0.bsz
    noex := fun b _ _ => none_ b
    exfs := fun b z => absurd z (none_ b)
    funs := e0.funs
    frf := e0.frf }
  refine ⟨ok, rfl, e0.bare, Un.kept kp, ⟨_, names, fun i y v e1 e2 e3 => ?_⟩, fun y c e => ?_, e0.hok.fresh (Nat.le_refl _), fun y c e => ?_, fun q hq => absurd (show q ∈ ([] : List (Addr × Obj)) ++ [] from hq) List.not_mem_nil, e0.hok.kept kp, I.len⟩
  · have vis : Vis scope y := e3
    rcases vis with k | k | k
    · exact absurd (L.loc1 y k ▸ List.mem_of_getElem? e1) nop
    · exact absurd rfl (L.nocell _ (PySem.mem_of_lookup k))
    · obtain ⟨mm, hn, hl⟩ := I.loc
      have from_ := L.caught _ (PySem.mem_of_lookup k) rfl
      obtain ⟨w', r, q⟩ := hl i y v e1 e2 (from_.elim (fun z => .inr (.inl z)) fun z => .inr (.inr z))
      obtain ⟨c2, h2⟩ := there k
      refine ⟨w', r, .inr ⟨.inr k, c2, h2, ?_⟩⟩
      rcases q with ⟨k', _⟩ | ⟨_, c3, e', z⟩
      · have k2 : X.env.scope.names.lookup y = some .local := k'
        rcases from_ with z | z <;> rw [show X.env.scope.names.lookup y = _ from z] at k2 <;> cases k2
      · rw [back h2] at e'
        cases e'
        exact stays (I.freeC y _ (back h2)) z
  · obtain ⟨w', z⟩ := I.cell y c (back e)
    exact ⟨w', stays (I.freeC y c (back e)) z⟩
  · obtain ⟨v, o, ho, hd⟩ := I.cell y c (back e)
    exact un.free c o ho (I.freeC y c (back e)) List.not_mem_nil
end
end Bw

namespace Bw
open PySem PySem.Spec L2 LamX TL PyProof.Rows

/-- what a call of the lambda without arguments binds: its parameter, to the default -/
def BindP (params : Arguments) (body : Expr) (scope : Scope) (p : Str) : Prop :=
  ∀ (q : Str) (cl : List (Str × Addr)) (t : Addr) (doc pm cv ctv v : Value) (sh : Shared), sh.heap.get? t = some (PySem.W.kdv_tup [v]) → BindsTo sh (PySem.W.kdv_fn "<lambda>" q params (.expr body) scope cl (.ref t) doc pm cv ctv) ⟨[], []⟩ [(p, v)]
section
variable {X : Cx} {pins : List (Addr × Obj)} {σ : L2.St} {H : Hp} {s : Shared}
/-- a(), in the def that got the lambda -/
theorem lamp_act {CXg : CXT} {Eg : XK} {Ng : List Str} {qg : Str} {sg : Scope} {g f t c' : Addr} {cdg doc pm ctv v : Value} {params : Arguments} {body : Expr} {scope : Scope} {k i : Nat} {a p : Str} {pn : List (Addr × Obj)} {xe : Value → Shared → Prop} {W : WX} {E : XK} {tb : TE} {p1 p2 : Pos}
    (I : Inv X pins σ H s) (L : LamP X.env.scope scope p) (nop : p ∉ X.N) (hb : BindP params body scope p) (hf : s.heap.get? f = some (lamO X params body scope t doc pm c' ctv)) (hfn : H f = none) (hfr : f ∉ frs X.stack)
    (ht : s.heap.get? t = some (PySem.W.kdv_tup [v])) (htn : H t = none) (htr : t ∉ frs X.stack)
    (tk : Takes ((cxOf CXg X.prog X.w X.K X.mg X.base Ng qg sg g cdg X.A X.stack s H Eg).tr pn xe) W) (hW : ∀ cls d σ' H', E cls d H' → W cls d σ' H') (hr : Room (k + 1) (X.A.deeper (envOfC qg sg s.heap.objs.size g cdg)))
    (inner : ∀ (A : Around) (outer : List Env) (s : Shared) (H : Hp), Room k (A.deeper (lamEnv X scope s.heap.objs.size f c')) → PE (lamCx X A outer s H E scope f c') body tb)
    (hN : Ng[i]? = some a) (hv : Vis sg a) (hd : (a == ("__debug__" : Str)) = false := by decide) (hcd : (a == ("__classdict__" : Str)) = false := by decide) :
    PE ((cxOf CXg X.prog X.w X.K X.mg X.base Ng qg sg g cdg X.A X.stack s H Eg).tr pn xe) (.Call (.Name a p1) [] [] p2)
      (fun σZ HZ Q => σZ[i]? = some (some (.ref f)) ∧ HZ c' = some (CodeO c' (X.env.qual ++ "<lambda>")) ∧ tb σ HZ Q) := by
  refine ⟨fun pinsZ sZ σZ HZ Q IZ h => ?_⟩
  obtain ⟨slot, code, body_⟩ := h
  refine wpAny_Call_Name_kw (thn ((pe_var (pos := p1) (i := i) hN hv hd hcd).run pinsZ sZ σZ HZ (fun v H1 => v = .ref f ∧ H1 = HZ) IZ ⟨.ref f, slot, rfl, rfl⟩) fun u s1 ⟨v1, H1, I1, r1, q1⟩ => ?_)
  obtain ⟨rfl, rfl⟩ := q1
  obtain rfl : u = Value.ref f := r1
  have keeps : ∀ b o, s.heap.get? b = some o → H b = none → b ∉ frs X.stack → s1.heap.get? b = some o := fun b o e n out => I1.base.keep b o e n out fun z => nomatch (show b ∈ ([] : List Addr) from z)
  have atF := keeps f _ hf hfn hfr
  have atT := keeps t _ ht htn htr
  refine PySem.W.callWith_F0 ⟨_, _, _, _, atF⟩ ?_
  have un : Un (frs X.stack) [] H H1 s.heap s1.heap := I1.base
  obtain ⟨⟨oc, vs, tt, hoc, hdc, hvc⟩, _, _⟩ := I1.hok c' _ code
  have run : codeAny (model X.prog X.w) (X.A.deeper (envOfC qg sg s.heap.objs.size g cdg)) (.call (.ref f) ⟨[], []⟩) (CR (L2.CX X.prog X.w) (envOfC qg sg s.heap.objs.size g cdg :: X.stack) X.prog X.w H1 s1 Q E) s1 := by
    refine PySem.W.kla_callFunE hr.depth atF rfl L.noco L.nogen rfl ⟨c', oc, vs, tt, rfl, hoc, hdc, hvc⟩ (hb _ _ _ _ _ _ _ _ _ atT _ _ _ _ ?_)
    refine wpAny_newFunctionEnv L.nocell (fun y hy => ?_) (fun h₁ hns hsb => ⟨I1.nolimit.fresh _ hsb, ?_⟩) L.fn
    · rw [List.mem_singleton.mp hy]
      exact L.one
    · show codeAny _ _ (.expr body (lamEnv X scope s1.heap.objs.size f c')) _ _
      have kp : ∀ b o, s1.heap.get? b = some o → h₁.get? b = some o := fun b o e => hsb.extBut b o (Nat.ne_of_lt (Heap.lt_size e)) (Heap.get?_push_of_some _ e)
      have J := lamp_start (E := E) (f := f) (c' := c') (tk := s1.toks + ([(p, v)] : List (Str × Value)).length) I L nop I1.env0 hr.hd un hns kp
      refine PySem.W.kla_codeExpr (wpAny_mono ((inner _ _ s1 H1 (hr.deeper _)).run [] _ _ H1 Q J body_) (fun v2 s' hq => ?_) fun e s' hq => hq)
      obtain ⟨w', H', J', rv, q⟩ := hq
      exact ⟨w', H', J'.os, J'.bare, J'.base, J'.hok, rv, q⟩
  refine wpAny_call (codeAny_mono run fun r s' hq => ?_)
  match r, hq with
  | .error e, hq => exact passes_call tk hW pinsZ σZ H1 s1 e s' I1 hq
  | .ok (.ret u), hq => exact I1.after hq
/-- x(lambda p=n: body) -/
theorem pe_lampcall {T : List (Addr × Str)} {TT : (XK → Hp → VK → Prop) → Hp → VK → Prop} {x a p : Str} {g c P : Addr} {k : Nat} {pg : Arguments} {bg : List Stmt} {sg : Scope} {dV kV doc pm cdv ct oc : Value} {an od : Option Addr} {osl : Array (Option Value)} {Ng : List Str}
    {params : Arguments} {body : Expr} {scope : Scope} {t : XK → TE} {n : Int} {j : Nat} {dp px lpos pos : Pos} (hg : Gl X x) (hm : X.mg x = some (.ref g)) (hk : PySem.W.keepIn X.K (.ref g) = true)
    (lk : X.K.lookup g = some ⟨oc, od, .func (PySem.W.fnOf x x pg bg sg dV kV doc pm an cdv ct), osl⟩) (hcg : PySem.W.codeIn X.K cdv x = true) (hb : L2.Binds X.K (PySem.W.fnOf x x pg bg sg dV kV doc pm an cdv ct) [a] []) (Sg : FnScope Ng [a] sg) (hNg : Ng[0]? = some a) (hva : Vis sg a)
    (gives : GivesTo X Ng x sg g cdv bg a (X.env.qual ++ "<lambda>") TT)
    (TB : TabB X.base X.mg c P) (hcode : X.env.code = .ref c) (mem : (P, X.env.qual ++ "<lambda>") ∈ T) (only : ∀ p ∈ T, p.1 = P → p.2 = X.env.qual ++ "<lambda>") (hr : Room (k + 2) X.A) (L : LamP X.env.scope scope p) (nop : p ∉ X.N)
    (hdf : params.defaults = [.Constant (.int n) j dp]) (hkd : params.kw_defaults = []) (hbp : BindP params body scope p)
    (inner : ∀ (A : Around) (outer : List Env) (s : Shared) (H : Hp) (E : XK) (f c' : Addr), Room k (A.deeper (lamEnv X scope s.heap.objs.size f c')) → PE (lamCx X A outer s H E scope f c') body (t E))
    (hdb : (x == ("__debug__" : Str)) = false := by decide) (hd : (a == ("__debug__" : Str)) = false := by decide) (hcd : (a == ("__classdict__" : Str)) = false := by decide) :
    PE X (.Call (.Name x px) [.Lambda params body scope lpos] [] pos) (tLam T TT t) := by
  refine ⟨fun pins s σ H Q I h => ?_⟩
  obtain ⟨tabs, h⟩ := h
  refine wpAny_Call_Name_kw (ld_glob I hg hm ?_ hdb)
  refine PySem.W.callWith_K (h₀ := X.base) I.ok.mod.kin hk ?_ (by rfl) (by rfl)
  show wpAny _ _ (spliced ((false, eval (.Lambda params body scope lpos) X.env) :: backTo pos (starEach [] X.env))) _ _ s
  refine Calls.spliced_cons (lamp_make I TB hcode mem only tabs hdf hkd (L.cells I.ok) fun f tt c' v doc' pm' ctv H1 s' I1 more tabs1 hf hfn hfr ht htn htr known => ?_)
  refine Calls.spliced_nil ⟨I1.kIn, ?_⟩
  have run : codeAny (model X.prog X.w) X.A (.call (.ref g) ⟨[.ref f], []⟩) (CR C8.CX0 X.stack X.prog X.w H1 s' Q C8.E0) s' :=
    run_ofS (N := Ng) (ps := [a]) (us := [.ref f]) (vs := [.ref f]) lk hcg Sg hr I1.env0 (hb s' [.ref f] I1.kIn rfl) (.cons rfl .nil) rfl fun hr' =>
      (gives f c' s' H1 Q (fun E H' Q' => t E σ H' Q') (fun W pn xe E p1 p2 tk hW => lamp_act (i := 0) I1 L nop hbp hf hfn hfr ht htn htr tk hW hr' (fun A outer s H room => inner A outer s H E f c' room) hNg hva hd hcd) known (h H1 more tabs1)).elim fun t' q => ⟨t', q.1.nox, q.2⟩
  refine wpAny_call (codeAny_mono run fun r s2 hq => ?_)
  match r, hq with
  | .error e, hq => exact (show False from hq).elim
  | .ok (.ret u), hq => exact I1.after hq
end
end Bw

namespace Bw
open PySem PySem.Spec L2 LamX TL PyProof.Rows

/-! ### several except clauses, with and without a name -/
/-- behind the suite of a clause with a name, the name is gone -/
def unEnd (i : Nat) (D : Ends) : Ends := { nx := fun σ H => D.nx (σ.set i none) H, rt := D.rt, bk := fun σ H => D.bk (σ.set i none) H, ct := fun σ H => D.ct (σ.set i none) H }
abbrev Cl := Value × Option Nat × (Addr → Value → Option Addr → TS)
/-- what a clause does with the exception at a -/
def clGo (D : Ends) (σ : L2.St) (H : Hp) (a : Addr) (cls : Value) (d : Option Addr) : Cl → Prop
  | (_, none, ts) => ts a cls d D σ H
  | (_, some i, ts) => ts a cls d (unEnd i D) (σ.set i (some (.ref a))) H
def wMix (K : PySem.W.Frag) (n : Nat) (Wout : WX) (D : Ends) : List Cl → WX
  | [] => Wout
  | c :: r => fun cls d σ H => ∃ b, PySem.W.exmOne K cls c.1 = some b ∧ if b = true then ∀ a, H a = none → σ.length = n → clGo D σ H a cls d c else wMix K n Wout D r cls d σ H
inductive HdsM (X : Cx) : List ExceptHandler → List Cl → Prop
  | nil : HdsM X [] []
  | bare {x : Str} {c : Value} {ts : Addr → Value → Option Addr → TS} {b₀ : Stmt} {suite : List Stmt} {np pos' : Pos} {hds : List ExceptHandler} {l : List Cl} (hc : Names X x c)
      (hsu : ∀ (a : Addr) (oe : Obj) (cls : Value) (d : Option Addr) (pn : List (Addr × Obj)), Zc cls d oe → (∃ vs, oe.data = .fields vs) → PSs (X.suite a ((a, oe) :: pn)) (b₀ :: suite) (ts a cls d)) (r : HdsM X hds l) :
      HdsM X (.ExceptHandler (some (.Name x np)) none (b₀ :: suite) pos' :: hds) ((c, none, ts) :: l)
  | named {x n : Str} {c : Value} {i : Nat} {ts : Addr → Value → Option Addr → TS} {b₀ : Stmt} {suite : List Stmt} {np pos' : Pos} {hds : List ExceptHandler} {l : List Cl} (hc : Names X x c) (hN : X.N.Nodup) (hi : X.N[i]? = some n) (hln : X.env.kindOf n = some .local)
      (hsu : ∀ (a : Addr) (oe : Obj) (cls : Value) (d : Option Addr) (pn : List (Addr × Obj)), Zc cls d oe → (∃ vs, oe.data = .fields vs) → PSs (X.suite a ((a, oe) :: pn)) (b₀ :: suite) (ts a cls d)) (r : HdsM X hds l) :
      HdsM X (.ExceptHandler (some (.Name x np)) (some n) (b₀ :: suite) pos' :: hds) ((c, some i, ts) :: l)
section
variable {X : Cx} {pins : List (Addr × Obj)} {σ : L2.St} {H : Hp}
/-- the suite's end, taken out of the suite -/
theorem sp_out {D : Ends} {a : Addr} {q : Addr × Obj} (ok : X.Ok) : ∀ (f : Flow) (s : Shared), SP (X.suite a (q :: (X.pn ++ pins))) [] D f s → SP X pins D f s
  | .next, _, ⟨_, _, S, z⟩ => ⟨_, _, S.unsuite ok, z⟩
  | .brk, _, ⟨_, _, S, z⟩ => ⟨_, _, S.unsuite ok, z⟩
  | .cont, _, ⟨_, _, S, z⟩ => ⟨_, _, S.unsuite ok, z⟩
  | .ret _, _, ⟨_, _, _, S, r, z⟩ => ⟨_, _, _, S.unsuite ok, r, z⟩
theorem sp_try {D : Ends} {xe : Value → Shared → Prop} (ok : X.Ok) : ∀ (f : Flow) (s : Shared), SP (X.tr (X.pn ++ pins) xe) [] D f s → SP X pins D f s
  | .next, _, ⟨_, _, S, z⟩ => ⟨_, _, S.ofTry ok, z⟩
  | .brk, _, ⟨_, _, S, z⟩ => ⟨_, _, S.ofTry ok, z⟩
  | .cont, _, ⟨_, _, S, z⟩ => ⟨_, _, S.ofTry ok, z⟩
  | .ret _, _, ⟨_, _, _, S, r, z⟩ => ⟨_, _, _, S.ofTry ok, r, z⟩
variable {body : List Stmt} {h₀ : ExceptHandler} {hds : List ExceptHandler} {l : List Cl} {pos : Pos} {tb : WX → TS} {Wout : WX}
theorem ps_try_mix (hs : X.stack = X.env :: X.outer) (hf : X.env.frame = some X.env.locals) (tk : Takes X Wout)
    (hb : ∀ (W : WX) (pn : List (Addr × Obj)) (xe : Value → Shared → Prop), Takes (X.tr pn xe) W → PassesOwn (model X.prog X.w) X.A X.env xe → PSs (X.tr pn xe) body (tb W))
    (hh : HdsM X (h₀ :: hds) l) : PS X (.Try body (h₀ :: hds) [] [] pos) (fun D σ H => tb (wMix X.K X.N.length Wout D l) D σ H) := by
  refine ⟨fun pins s σ H D I h => ?_⟩
  have ok := I.ok
  have frames : X.A.frames = some (X.env :: X.outer) := ok.frames.trans (congrArg some hs)
  refine wpAny_Try_except ?_
  refine wpAny_mono ((hb (wMix X.K X.N.length Wout D l) (X.pn ++ pins) (fun e s₁ => wpAny (model X.prog X.w) X.A (noteFrame e X.env) (fun _ s₂ => wpAny (model X.prog X.w) X.A (setFlight e none) (fun _ s₃ =>
    wpAny (model X.prog X.w) X.A (handleBy e X.env (h₀ :: hds)) (SP X pins D) X.xe s₃) X.xe s₂) X.xe s₁) (fun u s' air => ?_) PassesOwn.looking).run [] s σ H D (I.toTry _) h) (fun f s1 q => ?_) fun _ _ z => z
  · obtain ⟨a, B, sI, pins', σ', H', cls, d, rfl, J0, ground, up, sky, free, os, bare, wish⟩ := air
    have J : Inv X pins σ' H' sI := J0.ofTry ok
    rw [show (X.tr (X.pn ++ pins) (fun e s₁ => wpAny (model X.prog X.w) X.A (noteFrame e X.env) (fun _ s₂ => wpAny (model X.prog X.w) X.A (setFlight e none) (fun _ s₃ =>
      wpAny (model X.prog X.w) X.A (handleBy e X.env (h₀ :: hds)) (SP X pins D) X.xe s₃) X.xe s₂) X.xe s₁)).stack = X.env :: X.outer from hs] at sky
    show wpAny (model X.prog X.w) X.A (noteFrame (.ref a) X.env) _ _ _
    refine Sky.land Zc.steady frames hf sky fun h3 fly up3 => ?_
    have J3 : Inv X pins σ' H' { s' with heap := h3 } := J.landed ground fly.1 (up.trans up3) os bare
    obtain ⟨oe, vs, atE, zE, fE⟩ := fly.there
    have apart : ∀ {h : Heap} {o : Obj} {vs : Array Value}, h.FunFrames B (X.env :: X.outer) → h.get? a = some o → o.data = .fields vs → a ≠ X.env.locals ∧ a ∉ X.fs := fun {h o vs} ff e dd => by
      have no : a ∉ frs (X.env :: X.outer) := fun hm => by
        obtain ⟨_, o', e', nf⟩ := ff.mem hm
        rw [e] at e'
        cases e'
        exact nf _ dd
      refine ⟨fun z => no (List.mem_filterMap.mpr ⟨X.env, List.mem_cons_self, by rw [hf, z]⟩), fun hm => ?_⟩
      obtain ⟨e1, m1, q1⟩ := List.mem_filterMap.mp hm
      exact no (List.mem_filterMap.mpr ⟨e1, List.mem_cons_of_mem _ m1, q1⟩)
    obtain ⟨nL, nF⟩ := apart fly.2.2.1 atE fE
    have S3 := J3.suite atE fE free nL nF
    have type_ : PySem.W.Looks (model X.prog X.w) h3 (typeOf (.ref a)) cls := fun A Q E s k q => wpAny_typeOf_ref (k _ _ atE) (zE.1.symm ▸ q)
    have test : ∀ {x : Str} {c : Value} {np : Pos} {Q : Value → Shared → Prop} {E : Value → Shared → Prop}, Names X x c → Q c { s' with heap := h3 } → wpAny (model X.prog X.w) (X.A.mark (some (.ref a))) (eval (.Name x np) X.env) Q E { s' with heap := h3 } := fun hc q =>
      hc.2.2.elim (fun hm => ld_glob (X := X.suite a ((a, oe) :: (X.pn ++ pins))) S3 hc.1 hm q hc.2.1) fun hm => ld_blt (X := X.suite a ((a, oe) :: (X.pn ++ pins))) S3 hc.1 hm.1 hm.2.1 q hm.2.2 hc.2.1
    have matches_ : ∀ {c : Value} {b : Bool}, PySem.W.exmOne X.K cls c = some b → PySem.W.Looks (model X.prog X.w) h3 (excMatches (.ref a) c) b := fun e => PySem.W.exm_one (M := model X.prog X.w) J3.kIn type_ e
    have go : ∀ {hds' : List ExceptHandler} {l' : List Cl}, HdsM X hds' l' → wMix X.K X.N.length Wout D l' cls d σ' H' → wpAny (model X.prog X.w) X.A (handleBy (.ref a) X.env hds') (SP X pins D) X.xe { s' with heap := h3 } := by
      intro hds' l' hk
      induction hk with
      | nil =>
        intro out
        refine wpAny_handleBy_nil ?_
        obtain ⟨_, _, _, o4, v4, T4, _, _, g1, _, g3, g4, _⟩ := id fly
        unfold PySem.passOn
        refine wpAny_bind (wpAny_field g1 g3 g4 ?_)
        rw [if_neg (show ¬ ((Value.ref T4 == Value.none) = true) from by simp)]
        have on_ : wpAny (model X.prog X.w) X.A (setFlight (.ref a) X.env.frame) (fun _ s4 => wpAny (model X.prog X.w) X.A (throw (.ref a) : Sem Flow) (SP X pins D) X.xe s4) X.xe { s' with heap := h3 } := by
          rw [hf]
          exact HandSPX.setFlight_upZ fly fun h4 held up4 => wpAny_throw (tk _ _ ⟨a, B, sI, pins, σ', H', cls, d, rfl, J, ground, (up.trans up3).trans up4, .inr (.inr (hs.symm ▸ held)), free, os, bare, out⟩)
        first
          | exact wpAny_bind (wpAny_pure (wpAny_bind on_))
          | exact wpAny_bind on_
      | @bare x c ts b₀ suite np pos' hds2 l2 hc hsu _ ih =>
        rintro ⟨b, hb1, w⟩
        refine wpAny_handleBy_cons (codeAny_handlers_test (test hc ((matches_ hb1).here ?_))) (by intro q; cases q)
        cases b with
        | false => exact ih w
        | true =>
          refine codeAny_handlers_suite (HandSPX.lands_againZ fly fun h4 fly4 up4 => ?_)
          have J4 : Inv X pins σ' H' { s' with heap := h4 } := J.landed ground fly4.1 ((up.trans up3).trans up4) os bare
          obtain ⟨o4, _, at4, z4, f4⟩ := fly4.there
          exact wpAny_mono ((hsu a o4 cls d (X.pn ++ pins) z4 ⟨_, f4⟩).run [] _ _ H' _ (J4.suite at4 f4 free nL nF) (w a free J.len)) (fun f s6 q => sp_out ok f s6 q) fun _ _ z => z.elim
      | @named x n c i ts b₀ suite np pos' hds2 l2 hc hN hi hln hsu _ ih =>
        rintro ⟨b, hb1, w⟩
        refine wpAny_handleBy_cons (codeAny_handlers_test (test hc ((matches_ hb1).here ?_))) (by intro q; cases q)
        cases b with
        | false => exact ih w
        | true =>
          refine codeAny_handlers_suite_as (HandSPX.lands_againZ fly fun h4 fly4 up4 => ?_)
          have J4 : Inv X pins σ' H' { s' with heap := h4 } := J.landed ground fly4.1 ((up.trans up3).trans up4) os bare
          obtain ⟨o4, _, at4, z4, f4⟩ := fly4.there
          refine store_ok (X := X.suite a ((a, o4) :: (X.pn ++ pins))) (v := .ref a) (J4.suite at4 f4 free nL nF) hN hi (.inl hln) rfl (fun s5 S5 => ?_) (.inr hln)
          refine wpAny_mono ((hsu a o4 cls d (X.pn ++ pins) z4 ⟨_, f4⟩).run [] s5 _ H' _ S5 (w a free J.len)) (fun f s6 q => ?_) fun _ _ z => z.elim
          have end_ : ∀ {σ6 : L2.St} {H6 : Hp} {Q : Shared → Prop}, Inv (X.suite a ((a, o4) :: (X.pn ++ pins))) [] σ6 H6 s6 → (∀ s7, Inv X pins (σ6.set i none) H6 s7 → Q s7) → wpAny (model X.prog X.w) X.A (do bindName X.env n .none; unbindBehindTheSuite X.env n pos') (fun _ s7 => Q s7) X.xe s6 :=
            fun {_ _ Q6} S6 k => gone_ok (Q := fun _ s7 => Q6 s7) (S6.unsuite ok) hN hi hln k
          match f, q with
          | .next, ⟨_, _, S6, q6⟩ => exact end_ S6 fun s7 J7 => ⟨_, _, J7, q6⟩
          | .brk, ⟨_, _, S6, q6⟩ => exact end_ S6 fun s7 J7 => ⟨_, _, J7, q6⟩
          | .cont, ⟨_, _, S6, q6⟩ => exact end_ S6 fun s7 J7 => ⟨_, _, J7, q6⟩
          | .ret _, ⟨_, _, _, S6, r6, q6⟩ => exact end_ S6 fun s7 J7 => ⟨_, _, _, J7, r6, q6⟩
    exact go hh wish
  · match f, q with
    | .next, ⟨_, _, S, z⟩ => exact wpAny_execs_nil ⟨_, _, S.ofTry ok, z⟩
    | .brk, z => exact sp_try (xe := fun e s₁ => wpAny (model X.prog X.w) X.A (noteFrame e X.env) (fun _ s₂ => wpAny (model X.prog X.w) X.A (setFlight e none) (fun _ s₃ => wpAny (model X.prog X.w) X.A (handleBy e X.env (h₀ :: hds)) (SP X pins D) X.xe s₃) X.xe s₂) X.xe s₁) ok .brk _ z
    | .cont, z => exact sp_try (xe := fun e s₁ => wpAny (model X.prog X.w) X.A (noteFrame e X.env) (fun _ s₂ => wpAny (model X.prog X.w) X.A (setFlight e none) (fun _ s₃ => wpAny (model X.prog X.w) X.A (handleBy e X.env (h₀ :: hds)) (SP X pins D) X.xe s₃) X.xe s₂) X.xe s₁) ok .cont _ z
    | .ret u, z => exact sp_try (xe := fun e s₁ => wpAny (model X.prog X.w) X.A (noteFrame e X.env) (fun _ s₂ => wpAny (model X.prog X.w) X.A (setFlight e none) (fun _ s₃ => wpAny (model X.prog X.w) X.A (handleBy e X.env (h₀ :: hds)) (SP X pins D) X.xe s₃) X.xe s₂) X.xe s₁) ok (.ret u) _ z
end
end Bw

namespace Bw
open PySem PySem.Spec L2 LamX TL PyProof.Rows

/-! ### C.__init__(self, ..), C an own class -/
def tCInit (sp : Sp) (ta : TA) : TE := fun σ H Q => ta σ H fun vs H1 => sp vs H1 Q fun _ _ _ => False
section
variable {X : Cx} {e : Expr} {es : List Expr} {ta : TA} {p p1 p2 pos : Pos} {x : Str} {C fI : Addr} {k : Nat} {fd : FuncData} {ps : List Str} {sp : Sp}
theorem pe_cinit {mc : Value} {m : Str} {pl : Sem Bool} (R : ClX.CRead X.K C mc) (at_ : PySem.W.findCls X.K (.ref C) mc m = some (.val (.ref fI))) (F : FnOk X.prog X.w X.K X.mg X.base CX0 k fI fd ps sp) (hr : Room k X.A) (hg : Gl X x) (hm : X.mg x = some (.ref C))
    (hk : PySem.W.keepIn X.K (.ref fI) = true) (hb : Binds X.K fd ps []) (ha : PA X (e :: es) ta)
    (hc : eval (.Call (.Attribute (.Name x p1) m p2) (e :: es) [] pos) X.env = (do
      let ov ← eval (.Name x p1) X.env
      standAt p2.atName
      let (f, first) ← holding [ov] (getMethod ov m pl)
      callWith pos f first (backTo pos (starEach (e :: es) X.env)) (backToKw pos (keywordEach [] X.env))) := by rfl)
    (hdb : (x == ("__debug__" : Str)) = false := by decide) (he : starEach (e :: es) X.env = (false, eval e X.env) :: starEach es X.env := by rfl) (hpl : (backTo pos (starEach es X.env)).any (·.1) = false := by rfl) :
    PE X (.Call (.Attribute (.Name x p1) m p2) (e :: es) [] pos) (tCInit sp ta) := by
  refine ⟨fun pins s σ H Q I h => ?_⟩
  refine PySem.W.methodCall_KW (ld_glob I hg hm ?_ hdb) hc
  refine PySem.W.method_cls I.kIn R.ga (PySem.W.cls_value I.kIn R.rd at_ (handed_of (v := .ref fI) rfl) ?_)
  show wpAny _ _ (callWith pos (Value.ref fI) [] (backTo pos (starEach (e :: es) X.env)) []) _ _ _
  refine PySem.W.callWith_K (h₀ := X.base) I.ok.mod.kin hk (thn (ha.run pos pins _ σ H _ (I.tok _) h) fun us s1 ⟨vs, H1, I1, r, q⟩ => ⟨I1.kIn, ?_⟩) he hpl
  exact run_fn (dvs := []) F hr hb .nil pass0 I1 r (by rw [List.append_nil]; exact q)
end

/-! ### C(e, ..), C an own exception class whose __init__ keeps nothing -/
def tMkN (C : Addr) (sp : Sp) (dvs : List V) (ta : TA) : L2.St → Hp → XK → Prop := fun σ H Q => ta σ H fun vs H1 => vs.length ≤ 1000 ∧ ∀ a, H1 a = none → sp (.ref a :: (vs ++ dvs)) (upd H1 a (exo a C none))
  (fun v H2 => v = .non ∧ H2 a = some (exo a C none) ∧ Q (.ref C) none (del H2 a)) (fun _ _ _ => False)
section
variable {X : Cx} {e : Expr} {es : List Expr} {ta : TA} {p pos : Pos}
theorem mkN_end {pins : List (Addr × Obj)} {σ : L2.St} {H1 H2 : Hp} {hp hp2 h2 : Heap} {g1 g2 : Array GenState} {d1 d2 : Drawn} {t1 t2 : Nat} {os1 os2 : OsState} {a C : Addr} (I1 : Inv X pins σ H1 ⟨hp, g1, d1, t1, os1⟩)
    (new : hp.objs.size ≤ a) (k : ∀ b o, hp.get? b = some o → hp2.get? b = some o) (un : Un (frs X.stack) [] (upd H1 a (exo a C none)) H2 hp2 h2) (hok : HOk X.prog X.w H2 h2) (ho : os2 = os1) (hb : AllBare g2) (ea : H2 a = some (exo a C none)) :
    ∃ (t0 : Addr) (G : Heap), Inv X pins σ (del H2 a) ⟨G, g2, d2, t2, os2⟩ ∧ (∀ b o, G.get? b = some o → h2.get? b = some o) ∧ G.get? a = none ∧ h2.get? a = some ({ cls := .ref C, dict := none, data := .fields #[.ref t0, .none, .none, .none, .bool false, .none] } : Obj) := by
  obtain ⟨t0, hoe⟩ := exo_at hok ea
  have n1 : H1 a = none := I1.hok.fresh new
  obtain ⟨G, r1, r2⟩ := restrict h2 fun b => decide (b ≠ a)
  have same : ∀ b, b ≠ a → G.get? b = h2.get? b := fun b ne => r1 b (decide_eq_true ne)
  have gone : G.get? a = none := r2 a (by simp)
  have off : ∀ {b : Addr} {o : Obj}, hp.get? b = some o → b ≠ a := fun z => Nat.ne_of_lt (Nat.lt_of_lt_of_le (Heap.lt_size z) new)
  have before : ∀ {b : Addr}, b ≠ a → H1 b = none → upd H1 a (exo a C none) b = none := fun ne n => (upd_ne ne).trans n
  have keepU : ∀ {b : Addr} {u : HO}, H1 b = some u → upd H1 a (exo a C none) b = some u := fun {b u} q => (upd_ne (ne_of_none q n1)).trans q
  have back : ∀ {b : Addr} {u : HO}, H1 b = some u → H2 b = some u → del H2 a b = some u := fun {b u} q z => (del_ne (ne_of_none q n1)).trans z
  have U : Un (frs X.stack) [] H1 (del H2 a) hp G := {
    keep := fun b o z n hf hx => (same b (off z)).trans (un.keep b o (k b o z) (before (off z) n) hf hx)
    slot := fun b o z n hf hx => (un.slot b o (k b o z) (before (off z) n) hf hx).elim fun sl q => ⟨sl, (same b (off z)).trans q⟩
    free := fun b o z n hx => (del_ne (off z)).trans (un.free b o (k b o z) (before (off z) n) hx)
    there := fun b o z hx => (un.there b o (k b o z) hx).elim fun o' q => ⟨o', (same b (off z)).trans q⟩
    tups := fun b xs z => back z (un.tups b xs (keepU z))
    frzs := fun b o v z => back z (un.frzs b o v (keepU z))
    tbls := fun b ps z => (un.tbls b ps (keepU z)).elim fun more q => ⟨more, (del_ne (ne_of_none z n1)).trans q⟩ }
  have ok3 : HOk X.prog X.w (del H2 a) G := fun b o z => by
    have ne : b ≠ a := fun e => by
      rw [e, del_same] at z
      cases z
    rw [del_ne ne] at z
    have own_ : ∀ {c : Addr}, H2 c = some (.own b) → c ≠ a := fun hc => at_ne ea hc exo_own
    refine (hok b o z).stay (fun c v hc y => (same c ?_).trans y) (fun c hc => (del_ne (own_ hc)).trans hc) fun c xs hc => (del_ne (at_ne ea hc exo_tup)).trans hc
    rcases hc with hc | hc
    · exact hc ▸ ne
    · exact own_ hc
  have J : Inv X pins σ (del H2 a) ⟨G, g2, d2, t2, os2⟩ := I1.call' (ch := []) ho U ok3 hb fun b z => absurd z List.not_mem_nil
  refine ⟨t0, G, J, fun b o z => ?_, gone, hoe⟩
  by_cases ne : b = a
  · rw [ne, gone] at z
    cases z
  · exact (same b ne).symm.trans z
theorem pmk_none {CX : CXT} {x : Str} {C fI : Addr} {k : Nat} {fd : FuncData} {ps : List Str} {sp : Sp} {ds : List Value} {dvs : List V} (T : OexC X.K C) (iC : PySem.W.findIn X.K (.ref C) "__init__" = some (some (.ref fI))) (tI : PySem.W.typeIn X.K (.ref fI) = some (.type "function"))
    (F1 : FnOk X.prog X.w X.K X.mg X.base CX k fI fd ps sp) (hr : Room (k + 1) X.A) (hb : Binds X.K fd ps ds) (hd : Vals dvs ds) (hx : Passes CX X (fun _ _ _ => False)) (hg : Gl X x) (hm : X.mg x = some (.ref C)) (ha : PA X (e :: es) ta)
    (hdb : (x == ("__debug__" : Str)) = false := by decide) (he : starEach (e :: es) X.env = (false, eval e X.env) :: starEach es X.env := by rfl) (hpl : (backTo pos (starEach es X.env)).any (·.1) = false := by rfl) :
    PMk X (.Call (.Name x p) (e :: es) [] pos) (tMkN C sp dvs ta) := by
  intro pins s σ H Q I h
  obtain ⟨nm, q, N, bs, bm, sn, sub, ab, col, dd, k0, k1, k2, k3, k5, hC, hbm⟩ := T.cls
  refine wpAny_Call_Name_kw (ld_glob I hg hm ?_ hdb)
  refine PySem.W.callWith_K (h₀ := X.base) I.ok.mod.kin T.kC (thn (ha.run pos pins s σ H _ I h) fun us s1 ⟨vs, H1, I1, r1, hz, q1⟩ => ⟨I1.kIn, ?_⟩) he hpl
  show wpAny _ _ (call (.ref C) us) _ _ _
  obtain ⟨hp, g, dr, tk, os⟩ := s1
  have next : hp.objs.size ≤ hp.objs.size + 1 := Nat.le_succ _
  have hq := q1 (hp.objs.size + 1) (I1.hok.fresh next)
  have kk : ∀ b o, hp.get? b = some o → ((hp.push (PySem.W.kdv_tup us)).push (PySem.HandSPX.excO C hp.objs.size)).get? b = some o := fun b o z => Heap.get?_push_of_some _ (Heap.get?_push_of_some _ z)
  have atA : ((hp.push (PySem.W.kdv_tup us)).push (PySem.HandSPX.excO C hp.objs.size)).get? (hp.objs.size + 1) = some (PySem.HandSPX.excO C hp.objs.size) := by heap_get
  have I2 := I1.laid (t' := tk) (a := hp.objs.size + 1) (o := exo (hp.objs.size + 1) C none) (h' := (hp.push (PySem.W.kdv_tup us)).push (PySem.HandSPX.excO C hp.objs.size)) kk next (exo_ok atA)
  have r2 : Vals (V.ref (hp.objs.size + 1) :: (vs ++ dvs)) (Value.ref (hp.objs.size + 1) :: (us ++ ds)) := .cons rfl (r1.append hd)
  have len : (Value.ref (hp.objs.size + 1) :: us ++ ds).length = ps.length := r2.length.symm.trans (F1.len _ _ _ _ hq)
  have hus : us.length ≤ sizeLine := by
    have := r1.length
    rw [sizeLine_eq]
    omega
  refine wpAny_call (PySem.HandSPX.call_own PySem.F.excBase_ValueError (fun Y => PySem.HandSPX.refsVE_contains Y bm hbm) (I1.kIn _ _ hC) (PySem.W.looks_findIn I1.kIn iC) (fun self => PySem.W.bind_fn I1.kIn self tI) hus
    (codeAny_mono (F1.run _ X.stack _ _ ⟨Value.ref (hp.objs.size + 1) :: us, []⟩ (Value.ref (hp.objs.size + 1) :: (us ++ ds)) _ _ (fun _ _ _ => False) (hr.make C us []) (I2.env0.make C us []) (hb _ (Value.ref (hp.objs.size + 1) :: us) I2.kIn len) r2 hq) fun r s' hq' => ?_))
  match r, hq' with
  | .error er, hq' => exact hx pins σ _ _ er s' I2 hq'
  | .ok (.ret u), hq' =>
    obtain ⟨v, H2, os2, bare2, un2, hok2, rv, rfl, ea, q2⟩ := hq'
    obtain ⟨h2, g2, d2, t2, os'⟩ := s'
    refine ⟨rv, ?_⟩
    obtain ⟨t0, G, J, kG, ge, hoe⟩ := mkN_end (d2 := d2) (t2 := t2) I1 next kk un2 hok2 os2 bare2 ea
    exact ⟨_, _, _, ⟨G, g2, d2, t2, os'⟩, _, .ref C, none, rfl, J, kG, ge, hoe, ⟨rfl, rfl⟩, rfl, rfl, del_same, rfl, bare2, raises_own T.exC T.tyC, q2⟩
end
end Bw

namespace Bw
open PySem PySem.Spec L2 LamX TL PyProof.Rows

/-! ### x.__class__.__name__ -/
/-- the built-in class of x -/
inductive ClsB (H : Hp) : V → String → Prop where
  | non : ClsB H .non "NoneType"
  | str (x : Str) : ClsB H (.str x) "str"
  | lst {a : Addr} {xs : List V} (e : H a = some (.lst xs)) : ClsB H (.ref a) "list"
  | tup {a : Addr} {xs : List V} (e : H a = some (.tup xs)) : ClsB H (.ref a) "tuple"
  | dct {a : Addr} {xs : List (Key × V)} (e : H a = some (.dK xs)) : ClsB H (.ref a) "dict"
section
variable {prog : Program} {w : World} {A : Around} {E : Value → Shared → Prop} {h : Heap} {g : Array GenState} {d : Drawn} {t : Nat} {os : OsState} {a : Addr} {o : Obj}
theorem cls_none {Q : Value → Shared → Prop} (hq : Q (.type "NoneType") ⟨h, g, d, t + 1, os⟩) : wpAny (model prog w) A (getAttr .none "__class__" true) Q E ⟨h, g, d, t, os⟩ := by
  have hT : (⟨h, g, d, t + 1, os⟩ : Shared).TypeIs .none "NoneType" := typeIs_none _
  have f2 := PySem.F.slot_NoneType_getattribute.lookup
  have f3 := PySem.F.slot_NoneType_getattribute.bind .none
  unfold getAttr
  repeat (any_goals (first | assumption | wp_step))
  refine class_call_none ?_
  repeat (any_goals (first | assumption | wp_step))
theorem cls_str {y : Str} {u : Tok} {Q : Value → Shared → Prop} (hq : Q (.type "str") ⟨h, g, d, t + 1, os⟩) : wpAny (model prog w) A (getAttr (.str y u) "__class__" true) Q E ⟨h, g, d, t, os⟩ := by
  have hT : (⟨h, g, d, t + 1, os⟩ : Shared).TypeIs (.str y u) "str" := typeIs_str _ _ _
  have f2 := PySem.F.slot_str_getattribute.lookup
  have f3 := PySem.F.slot_str_getattribute.bind (.str y u)
  unfold getAttr
  repeat (any_goals (first | assumption | wp_step))
  refine class_call_str ?_
  repeat (any_goals (first | assumption | wp_step))
theorem cls_list (hx : h.get? a = some o) (hc : o.cls = .type "list") {Q : Value → Shared → Prop} (hq : Q (.type "list") ⟨h, g, d, t + 1, os⟩) : wpAny (model prog w) A (getAttr (.ref a) "__class__" true) Q E ⟨h, g, d, t, os⟩ := by
  have hT : (⟨h, g, d, t + 1, os⟩ : Shared).TypeIs (.ref a) "list" := ⟨_, hx, hc⟩
  have f2 := PySem.F.slot_list_getattribute.lookup
  have f3 := PySem.F.slot_list_getattribute.bind (.ref a)
  unfold getAttr
  repeat (any_goals (first | assumption | wp_step))
  refine class_call_list hx hc ?_
  repeat (any_goals (first | assumption | wp_step))
theorem cls_tuple (hx : h.get? a = some o) (hc : o.cls = .type "tuple") {Q : Value → Shared → Prop} (hq : Q (.type "tuple") ⟨h, g, d, t + 1, os⟩) : wpAny (model prog w) A (getAttr (.ref a) "__class__" true) Q E ⟨h, g, d, t, os⟩ := by
  have hT : (⟨h, g, d, t + 1, os⟩ : Shared).TypeIs (.ref a) "tuple" := ⟨_, hx, hc⟩
  have f2 := PySem.F.slot_tuple_getattribute.lookup
  have f3 := PySem.F.slot_tuple_getattribute.bind (.ref a)
  unfold getAttr
  repeat (any_goals (first | assumption | wp_step))
  refine class_call_tuple hx hc ?_
  repeat (any_goals (first | assumption | wp_step))
theorem cls_dict (hx : h.get? a = some o) (hc : o.cls = .type "dict") {Q : Value → Shared → Prop} (hq : Q (.type "dict") ⟨h, g, d, t + 1, os⟩) : wpAny (model prog w) A (getAttr (.ref a) "__class__" true) Q E ⟨h, g, d, t, os⟩ := by
  have hT : (⟨h, g, d, t + 1, os⟩ : Shared).TypeIs (.ref a) "dict" := ⟨_, hx, hc⟩
  have f2 := PySem.F.slot_dict_getattribute.lookup
  have f3 := PySem.F.slot_dict_getattribute.bind (.ref a)
  unfold getAttr
  repeat (any_goals (first | assumption | wp_step))
  refine class_call_dict hx hc ?_
  repeat (any_goals (first | assumption | wp_step))
end
def tClass (te : TE) : TE := fun σ H Q => te σ H fun x H1 => ∃ T, ClsB H1 x T ∧ Q (.ty T) H1
theorem pe_class {X : Cx} {e : Expr} {te : TE} {pos : Pos} (he : PE X e te) (hb : attributeBase e "__class__" X.env (eval e X.env) = eval e X.env := by rfl) : PE X (.Attribute e "__class__" pos) (tClass te) := by
  refine ⟨fun pins s σ H Q I h => ?_⟩
  refine attr_of hb (thn (he.run pins s σ H _ I h) fun u s1 hh => ?_)
  obtain ⟨x, H1, I1, rx, T, kind, q⟩ := hh
  have done : EP X pins σ Q (.type T) { s1 with toks := s1.toks + 1 } := ⟨.ty T, H1, I1.tok _, rfl, q⟩
  obtain ⟨hp, g, d, t, os⟩ := s1
  cases kind with
  | non =>
    obtain rfl : u = Value.none := rx
    exact cls_none done
  | str y =>
    obtain ⟨tk, rfl⟩ := (show ∃ t, u = Value.str y t from rx)
    exact cls_str done
  | @lst a xs e =>
    obtain rfl : u = Value.ref a := rx
    obtain ⟨_, its, n, _, h1⟩ := (show ObjOk X.prog X.w H1 hp a (.lst xs) from I1.hok a _ e)
    exact cls_list h1 rfl done
  | @tup a xs e =>
    obtain rfl : u = Value.ref a := rx
    obtain ⟨_, its, _, o, h1, h2, _⟩ := (show ObjOk X.prog X.w H1 hp a (.tup xs) from I1.hok a _ e)
    exact cls_tuple h1 h2 done
  | @dct a xs e =>
    obtain rfl : u = Value.ref a := rx
    obtain ⟨_, _, vs, _, o, es, ep, h1, h2, _⟩ := (show ObjOk X.prog X.w H1 hp a (.dK xs) from I1.hok a _ e)
    exact cls_dict h1 h2.1 done
def tTyName (te : TE) : TE := fun σ H Q => te σ H fun x H1 => ∃ T, x = .ty T ∧ T ∈ ["NoneType", "str", "list", "tuple", "dict"] ∧ ∀ y : Str, y.length ≤ 20 → Q (.str y) H1
theorem pe_tyname {X : Cx} {e : Expr} {te : TE} {pos : Pos} (he : PE X e te) (hb : attributeBase e "__name__" X.env (eval e X.env) = eval e X.env := by rfl) : PE X (.Attribute e "__name__" pos) (tTyName te) := by
  refine ⟨fun pins s σ H Q I h => ?_⟩
  refine attr_of hb (thn (he.run pins s σ H _ I h) fun u s1 hh => ?_)
  obtain ⟨x, H1, I1, rx, T, rfl, mem, q⟩ := hh
  obtain rfl : u = Value.type T := rx
  obtain ⟨m, fr⟩ := I1.fr
  have fin : ∀ y : Str, y.length ≤ 20 → ∀ (tk : Tok) (u : Nat), EP X pins σ Q (.str y tk) { s1 with toks := u } := fun y hy tk u => ⟨.str y, H1, I1.tok _, ⟨tk, rfl⟩, q y hy⟩
  simp only [List.mem_cons, List.not_mem_nil, or_false] at mem
  rcases mem with rfl | rfl | rfl | rfl | rfl
  · exact PySem.W.ktyn_attr (q := "NoneType") fr I1.ok.mod.kin (by decide +kernel) (by decide +kernel) (by first | rfl | kernel_rfl) (by decide +kernel) (by decide +kernel) (fin _ (by decide +kernel))
  · exact PySem.W.ktyn_attr (q := "str") fr I1.ok.mod.kin (by decide +kernel) (by decide +kernel) (by first | rfl | kernel_rfl) (by decide +kernel) (by decide +kernel) (fin _ (by decide +kernel))
  · exact PySem.W.ktyn_attr (q := "list") fr I1.ok.mod.kin (by decide +kernel) (by decide +kernel) (by first | rfl | kernel_rfl) (by decide +kernel) (by decide +kernel) (fin _ (by decide +kernel))
  · exact PySem.W.ktyn_attr (q := "tuple") fr I1.ok.mod.kin (by decide +kernel) (by decide +kernel) (by first | rfl | kernel_rfl) (by decide +kernel) (by decide +kernel) (fin _ (by decide +kernel))
  · exact PySem.W.ktyn_attr (q := "dict") fr I1.ok.mod.kin (by decide +kernel) (by decide +kernel) (by first | rfl | kernel_rfl) (by decide +kernel) (by decide +kernel) (fin _ (by decide +kernel))
/-! ### bit_length and str of a whole number or of a truth value -/
theorem slot_bool_bits : Slot "bool" "bit_length" "int.bit_length" :=
  .of (owner := "int") (n := "bit_length") (by rw [typeLookup_type, builtinLookup_eq_fast]; kernel_rfl) (by decide +kernel) (by decide +kernel) (by decide +kernel) (.inr (by decide +kernel)) (by rw [isSubtype_type]; kernel_rfl)
def tBitsB (to : TE) : TE := fun σ H Q => to σ H fun x H1 => (∃ i, x = .int i ∧ Q (.int (Builtin.Int.intBits i : Nat)) H1) ∨ ∃ b, x = .bl b ∧ Q (.int (b2i b)) H1
theorem pe_bitsB {X : Cx} {o : Expr} {to : TE} {apos pos : Pos} (ho : PE X o to) (hbase : attributeBase o "bit_length" X.env (eval o X.env) = eval o X.env := by rfl) (hline : (apos.endLine == pos.line) = true := by rfl) : PE X (.Call (.Attribute o "bit_length" apos) [] [] pos) (tBitsB to) := by
  refine ⟨fun pins s σ H Q I h => ?_⟩
  refine PySem.Call_method0 hbase hline (thn (ho.run pins s σ H _ I h) fun v s1 ⟨x, H1, I1, r1, q1⟩ => ?_)
  rcases q1 with ⟨i, rfl, q1⟩ | ⟨b, rfl, q1⟩
  · obtain ⟨t, rfl⟩ := (show ∃ t, v = Value.int i t from r1)
    exact ⟨"int", _, PySem.F.plainAttrs_int, PyProof.Rows.slot_int_bit_length, PyProof.Rows.type_int_bit_length, typeIs_int _ _ _, (fun _ e => nomatch e), Calls.callWith_builtin rfl (PySem.evalArgs_none (call_int_bit_length ⟨.int _, H1, I1.tok _, ⟨_, rfl⟩, q1⟩))⟩
  · obtain rfl : v = Value.bool b := r1
    refine ⟨"bool", _, PySem.F.plainAttrs_bool, slot_bool_bits, PyProof.Rows.type_int_bit_length, PySem.typeIs_bool _ _, (fun _ e => nomatch e), Calls.callWith_builtin rfl (PySem.evalArgs_none ?_)⟩
    refine wpAny_call_entry slot_bool_bits (PySem.typeIs_bool _ _) PyProof.Rows.entry_int_bit_length ?_ (PyProof.Rows.args_int_bit_length _)
    have e1 : ((Builtin.Int.intBits (b2i b) : Nat) : Int) = b2i b := by cases b <;> decide
    refine (show wpAny _ _ (do ret (← mkInt (Builtin.Int.intBits (b2i b)))) _ _ s1 from wpAny_ret_mkInt ?_)
    rw [e1]
    exact ⟨.int _, H1, I1.tok _, ⟨_, rfl⟩, q1⟩
def rStrB : List V → Hp → VK → Prop := fun xs H Q => (∃ i, xs = [.int i] ∧ i.natAbs.log2 < 1920 ∧ Q (.str (toString i)) H) ∨ ∃ b, xs = [.bl b] ∧ Q (.str (if b then "True" else "False")) H
theorem call_str_ib {X : Cx} : CallR X (.type "str") rStrB := by
  intro pins s σ H xs us Q I r h
  rcases h with ⟨i, rfl, hz, q⟩ | ⟨b, rfl, q⟩
  · obtain ⟨u, rfl, t, rfl⟩ := vals1 r
    exact PySem.P.str_of_int hz ⟨.str _, H, I.tok _, ⟨_, rfl⟩, q⟩
  · obtain ⟨u, rfl, r1⟩ := vals1 r
    obtain rfl : u = Value.bool b := r1
    exact PySem.P.str_of_bool ⟨.str _, H, I.tok _, ⟨_, rfl⟩, q⟩
end Bw

namespace Bw
open PySem PySem.Spec L2 LamX TL PyProof.Rows
open PySem.SeqAt (EqAt RcAt)

/-! ### what is no text, among texts -/
section
variable {A : Around} {s : Shared}
theorem dict_declines (l : Addr) (es : Array DictEntry) (n : Nat) (dd : Option Addr) (sl : Array (Option Value)) (b : Str) (u : Tok) :
    Meets (Builtin.«dict.__eq__» ⟨[.ref l, .str b u], []⟩) (fun _ R s => s.heap.get? l = some { cls := .type "dict", dict := dd, data := .dict es n, slots := sl } ∧ R (.ok (.ret .notImplemented)) s) :=
  .of_wp fun prog w A R s h => by
    obtain ⟨hp, g, d, tk, os⟩ := s
    obtain ⟨hl, h⟩ := h
    have f1 := PySem.F.sub_str_dict
    have hT : (⟨hp, g, d, tk, os⟩ : Shared).TypeIs (.ref l) "dict" := ⟨_, hl, rfl⟩
    unfold Builtin.«dict.__eq__»
    refine wpAny_bind ?_
    unfold Builtin.Dict.dictSlotArgs
    refine wpAny_bind (wpAny_notOrdered_dict hT ?_)
    wp_walk using AutoSeq1.wpAny_loadPart' hl
    exact ⟨_, rfl, h⟩
theorem str_declines (b : Str) (u : Tok) (l : Addr) (es : Array DictEntry) (n : Nat) (dd : Option Addr) (sl : Array (Option Value)) :
    Meets (Builtin.«str.__eq__» ⟨[.str b u, .ref l], []⟩) (fun _ R s => s.heap.get? l = some { cls := .type "dict", dict := dd, data := .dict es n, slots := sl } ∧ R (.ok (.ret .notImplemented)) s) :=
  .of_wp fun prog w A R s h => by
    obtain ⟨hp, g, d, tk, os⟩ := s
    obtain ⟨hl, h⟩ := h
    wp_walk using AutoSeq1.wpAny_loadPart' hl, wpAny_load hl
    exact ⟨_, rfl, h⟩
theorem rc_str_dict {l : Addr} {o : Obj} {es : Array DictEntry} {n : Nat} (b : Str) (u : Tok) (ho : s.heap.get? l = some o) (hc : o.cls = .type "dict") (hd : o.data = .dict es n) (hu : A.units < cLine) : RcAt A s (.str b u) (.ref l) false := fun prog w E Q h => by
  obtain ⟨cls, dd, data, sl⟩ := o
  simp only at hc hd
  subst hc hd
  exact SeqAt.rc_eq_decline_or (k := false) (typeIs_str s b u) ⟨_, ho, rfl⟩ (by decide) PySem.F.sub_dict_str PySem.F.slot_str_eq PySem.F.slot_dict_eq_refl
    (fun _ hq => call_meets PySem.F.slot_str_eq (typeIs_str s b u) PySem.F.entry_str_eq (PySem.F.args_str_eq_2 _ _) (str_declines b u l es n dd sl) ⟨ho, hq⟩)
    (fun _ hq => call_meets PySem.F.slot_dict_eq_refl ⟨_, ho, rfl⟩ PySem.F.entry_dict_eq (PySem.F.args_dict_eq_2 _ _) (dict_declines l es n dd sl b u) ⟨ho, hq⟩)
    (fun _ hq => wpAny_of_eq (rfl : isSame (.str b u) (.ref l) = pure false) hq) (.inr hu) h
theorem eq_str_dict {l : Addr} {o : Obj} {es : Array DictEntry} {n : Nat} (b : Str) (u : Tok) (ho : s.heap.get? l = some o) (hc : o.cls = .type "dict") (hd : o.data = .dict es n) (hu : A.units < cLine) : EqAt A s (.str b u) (.ref l) false := fun prog w E Q h => by
  unfold eqBool
  refine wpAny_holding (wpAny_ite_split (fun hab => absurd (eq_of_beq hab) nofun) fun _ => ?_)
  exact wpAny_bind (rc_str_dict b u ho hc hd hu prog w E _ (wpAny_truthy_bool h))
end
/-- x is no text -/
inductive NoTx (H : Hp) : V → Prop where
  | non : NoTx H .non
  | bl (b : Bool) : NoTx H (.bl b)
  | int (i : Int) : NoTx H (.int i)
  | lst {a : Addr} {xs : List V} (e : H a = some (.lst xs)) : NoTx H (.ref a)
  | tup {a : Addr} {xs : List V} (e : H a = some (.tup xs)) : NoTx H (.ref a)
  | dct {a : Addr} {kvs : List (Key × V)} (e : H a = some (.dK kvs)) : NoTx H (.ref a)
theorem NoTx.up {H H' : Hp} {v : V} (h : NoTx H v) (e : Same H H') : NoTx H' v := by
  cases h with
  | non => exact .non
  | bl b => exact .bl b
  | int i => exact .int i
  | lst q => exact .lst (e _ _ q)
  | tup q => exact .tup (e _ _ q)
  | dct q => exact .dct (e _ _ q)
section
variable {X : Cx} {pins : List (Addr × Obj)} {σ : L2.St} {H : Hp} {s : Shared}
theorem str_ne {x : V} {v : Value} {b : Str} {u : Tok} (I : Inv X pins σ H s) (k : NoTx H x) (r : RelV x v) (A : Around) (hu : A.units < cLine) : EqAt A s (.str b u) v false := by
  cases k with
  | non =>
    obtain rfl : v = Value.none := r
    exact SeqAt.EqAt.str_none _ _
  | bl y =>
    obtain rfl : v = Value.bool y := r
    exact SeqAt.EqAt.str_bool _ _ _
  | int i =>
    obtain ⟨t, rfl⟩ := (show ∃ t, v = Value.int i t from r)
    exact SeqAt.EqAt.str_int _ _ _ _
  | @lst a xs e =>
    obtain rfl : v = Value.ref a := r
    obtain ⟨_, its, n, _, h1⟩ := (show ObjOk X.prog X.w H s.heap a (.lst xs) from I.hok a _ e)
    exact SeqAt.EqAt.str_list _ _ ⟨_, h1, rfl, n, rfl⟩ hu
  | @tup a xs e =>
    obtain rfl : v = Value.ref a := r
    obtain ⟨_, its, _, o, h1, h2, n, h3⟩ := (show ObjOk X.prog X.w H s.heap a (.tup xs) from I.hok a _ e)
    exact SeqAt.EqAt.str_tuple _ _ ⟨o, h1, h2, n, h3⟩ hu
  | @dct a kvs e =>
    obtain rfl : v = Value.ref a := r
    obtain ⟨_, _, vs, _, o, es, ep, h1, h2, h3, _⟩ := (show ObjOk X.prog X.w H s.heap a (.dK kvs) from I.hok a _ e)
    exact eq_str_dict _ _ h1 h2.1 h3 hu
/-- x not in T, T a tuple of texts -/
def rNoTx (K : PySem.W.Frag) : R2 := fun x y H Q => ∃ (a : Addr) (l : List Str), y = .ref a ∧ SqT K H a (l.map V.str) ∧ ((NoTx H x ∧ Q (.bl true) H) ∨ ∃ z, x = .str z ∧ Q (.bl (!decide (z ∈ l))) H)
theorem vals_mem : ∀ {L : List Str} {its : List Value}, Vals (L.map V.str) its → ∀ w ∈ its, ∃ z t, w = .str z t
  | [], _, r, w, hw => by
    cases r
    cases hw
  | z :: L, _, r, w, hw => by
    cases r with
    | cons a b =>
      obtain ⟨t, rfl⟩ := a
      rcases List.mem_cons.mp hw with e | e
      · exact ⟨z, t, e⟩
      · exact vals_mem b w e
def eqTx (z : Str) : Value → Bool
  | .str y _ => y == z
  | _ => false
theorem any_tx (z : Str) : ∀ {L : List Str} {its : List Value}, Vals (L.map V.str) its → its.any (eqTx z) = decide (z ∈ L)
  | [], _, r => by
    cases r
    simp
  | y :: L, _, r => by
    cases r with
    | cons a b =>
      obtain ⟨t, rfl⟩ := a
      rw [List.any_cons, any_tx z b]
      show (y == z || _) = _
      rw [Bool.eq_iff_iff, Bool.or_eq_true, beq_iff_eq, decide_eq_true_eq, decide_eq_true_eq, List.mem_cons]
      exact ⟨fun q => q.elim (fun e => .inl e.symm) .inr, fun q => q.elim (fun e => .inl e.symm) .inr⟩
theorem op_noTx (hu : X.A.units + 1 < cLine) : OpR X (compareOp .NotIn) (rNoTx X.K) := by
  intro pins s σ H x y v u Q I rx ry h
  obtain ⟨a, l, rfl, ht, h⟩ := h
  obtain rfl : u = Value.ref a := ry
  obtain ⟨its, rv, pl, hz⟩ := I.tuple ht
  rcases h with ⟨no, q⟩ | ⟨z, rfl, q⟩
  · refine SeqAt.notIn_tupleAt (fun _ => false) pl (fun w hw => ?_) ⟨.bl _, H, I, rfl, ?_⟩
    · obtain ⟨z, t, rfl⟩ := vals_mem rv w (by simpa using hw)
      exact str_ne I no rx _ hu
    · have e : its.toArray.any (fun _ => false) = false := by simp
      rw [e]
      exact q
  · obtain ⟨t, rfl⟩ := rx
    refine SeqAt.notIn_tupleAt (eqTx z) pl (fun w hw => ?_) ⟨.bl _, H, I, rfl, ?_⟩
    · obtain ⟨y, t', rfl⟩ := vals_mem rv w (by simpa using hw)
      exact SeqAt.EqAt.str_str _ _ _ _
    · rw [show its.toArray.any (eqTx z) = its.any (eqTx z) by simp, any_tx z rv]
      exact q
end
end Bw

namespace Bw
open PySem PySem.Spec L2 TL PyProof.Rows

/-! ### own exception classes right over any built-in one -/
structure Over (B nw ini : String) (tail : List Value) : Prop where
  fb : ExcBaseFacts B nw ini tail
  free : ∀ self, refuseLoop self "__setattr__" tail = pure ()
  obj : tail.contains (.type "object") = true
theorem over_overflow : Over "OverflowError" "OverflowError.__new__" "OverflowError.__init__" [.type "OverflowError", .type "ArithmeticError", .type "Exception", .type "BaseException", .type "object"] :=
  ⟨PySem.F.excBase_OverflowError, fun self => by kernel_rfl, by decide +kernel⟩
theorem over_lookup : Over "LookupError" "LookupError.__new__" "LookupError.__init__" [.type "LookupError", .type "Exception", .type "BaseException", .type "object"] :=
  ⟨PySem.F.excBase_LookupError, fun self => by kernel_rfl, by decide +kernel⟩
theorem over_index : Over "IndexError" "IndexError.__new__" "IndexError.__init__" [.type "IndexError", .type "LookupError", .type "Exception", .type "BaseException", .type "object"] :=
  ⟨PySem.F.excBase_IndexError, fun self => by kernel_rfl, by decide +kernel⟩
theorem over_arith : Over "ArithmeticError" "ArithmeticError.__new__" "ArithmeticError.__init__" [.type "ArithmeticError", .type "Exception", .type "BaseException", .type "object"] :=
  ⟨PySem.F.excBase_ArithmeticError, fun self => by kernel_rfl, by decide +kernel⟩
/-- what is known of such a class -/
structure OwnX (B nw ini : String) (tail : List Value) (K : PySem.W.Frag) (C : Addr) : Prop where
  ov : Over B nw ini tail
  cls : ∃ nm q N bs sn sub ab col dd k0 k1 k2 k3 k5, K.lookup C = some (excClassObj nm q C N bs tail true sn sub ab col dd k0 k1 k2 k3 k5 nw)
  sa : PySem.W.findIn K (.ref C) "__setattr__" = some (some (.builtin "object.__setattr__"))
  exC : PySem.W.subIn K (.ref C) (.type "BaseException") = some true
  tyC : PySem.W.typeIn K (.ref C) = some (.type "type")
  kC : PySem.W.keepIn K (.ref C) = true
section
open Builtin Builtin.ObjectAttr
variable {B nw ini : String} {tail : List Value} {prog : Program} {w : World} {A : Around} {R : Result → Shared → Prop} {hp : Heap} {gs : Array GenState} {dr : Drawn} {tn : Nat} {os : OsState}
theorem put_first {K : PySem.W.Frag} {C x : Addr} {f : Str} {tf : Tok} {u : Value} {slots : Array Value} {cd : ClassData} (O : Over B nw ini tail) (KI : K.In hp) (at_ : hp.get? x = some { cls := .ref C, data := .fields slots })
    (hc : PySem.W.clsIn K C = some cd) (hm : cd.mro = .ref C :: tail) (hd : cd.hasDict = true) (none_ : PySem.W.findIn K (.ref C) f = some none)
    (fin : ∀ h2 tk dx, (∀ b o, b ≠ x → hp.get? b = some o → h2.get? b = some o) → hp.objs.size ≤ dx → dx ≠ x → h2.get? x = some { cls := .ref C, dict := some dx, data := .fields slots } → h2.Ns1 dx (fun y => if y = f then some u else none) →
      R (.ok (.ret .none)) ⟨h2, gs, dr, tk, os⟩) :
    codeAny (model prog w) A (.call (.builtin "object.__setattr__") ⟨[.ref x, .str f tf, u], []⟩) R ⟨hp, gs, dr, tn, os⟩ := by
  have inst : PySem.W.InstAt hp x { cls := .ref C, data := .fields slots } C none := ⟨at_, rfl, rfl, trivial⟩
  have isO : (Value.ref C :: tail).contains (.type "object") = true := by rw [List.contains_cons, O.obj, Bool.or_true]
  have up : PySem.W.mroIn K C (.type "object") = some true := by
    unfold PySem.W.mroIn
    rw [hc, Option.bind_some, hm, isO]
    rfl
  have off : x ≠ hp.objs.size := Nat.ne_of_lt (Heap.lt_size at_)
  have SF := PySem.F.store_object
  have isx : PySem.W.Looks (model prog w) hp (isInstance (.ref x) (.type "object")) true := inst.type.andThen (PySem.W.looks_mroIn KI up)
  refine codeAny_call_builtin SF.slot.plain SF.entry ?_
  refine @PySem.W.check_slot (model prog w) _ _ ⟨hp, gs, dr, tn, os⟩ "object.__setattr__" "object" "__setattr__"
    (.ref x) [.str f tf, u] [] _ SF.kind SF.split isx (SF.args (.ref x) (.str f tf) u) ?_
  have lm : PySem.W.Looks (model prog w) hp (mroOf (.ref C)) cd.mro := (PySem.W.looks_clsIn KI hc).andThen .now
  have lc : PySem.W.Looks (model prog w) hp (classData C) cd := PySem.W.looks_clsIn KI hc
  have l3 : PySem.W.Looks (model prog w) hp (storeTaker? none) none := .now
  have pass_ : refuseLoop (.ref x) "__setattr__" cd.mro = pure () := by rw [hm, refuseLoop_ref, O.free]
  rw [PySem.W.osa_eq, refuse_eq]
  refine wpAny_bind (wpAny_bind (inst.type.at (wpAny_bind (lm.at ?_))))
  rw [pass_]
  refine wpAny_pure (wpAny_bind (inst.type.at (wpAny_bind ((PySem.W.looks_findIn KI none_).at (wpAny_bind (l3.at ?_))))))
  change wpAny _ _ (storeInOwnDict (.ref x) (.ref C) (.str f tf) f u false) _ _ _
  cases cd with
  | mk cn cb cm cns cq chd csn csb cab ccol cdel =>
    have e : chd = true := hd
    subst e
    unfold storeInOwnDict ownDictForStores
    repeat (first | with_reducible refine PySem.HandSPX.store_in_new ?_ ?_ | with_reducible refine wpAny_loadPart_at at_ ?_ | with_reducible refine lc.at ?_ | wp_step)
    · exact ⟨_, #[], _, Eq.trans (Heap.get?_update_ne _ _ _ _ off.symm) (Heap.get?_push_at rfl rfl), rfl, fun e he => absurd he (by simp), fun _ => rfl⟩
    · intro h2 tk2 n1 sb
      have at2 := Heap.get?_push_of_some { cls := .type "dict", data := .dict #[] } at_
      refine fin h2 tk2 hp.objs.size (fun b o nb z => ?_) (Nat.le_refl _) off.symm ?_ n1
      · have far : b ≠ hp.objs.size := Nat.ne_of_lt (Heap.lt_size z)
        exact (sb.2 b far).trans ((Heap.get?_update_ne _ _ _ _ nb).trans (Heap.get?_push_of_some _ z))
      · exact (sb.2 x off).trans (Heap.get?_update_self _ at2 rfl)
end
end Bw

namespace Bw
open PySem PySem.Spec L2 LamX TL PyProof.Rows

section
variable {B nw ini : String} {tail : List Value} {X : Cx} {pins : List (Addr × Obj)} {σ : L2.St} {H : Hp} {s : Shared} {a C : Addr} {f : Str} {y : V} {u : Value}
/-- self.f = y, while the exception keeps nothing -/
theorem keep_first {A : Around} {Q : Unit → Shared → Prop} {E : Value → Shared → Prop} (T : OwnX B nw ini tail X.K C) (I : Inv X pins σ H s) (ea : H a = some (exo a C none)) (no : PySem.W.findIn X.K (.ref C) f = some none) (ry : RelV y u)
    (fin : ∀ dx s2, H dx = none → dx ≠ a → Inv X pins σ (upd (upd H dx (exd dx [(f, y)])) a (exo a C (some dx))) s2 → Q () s2) : wpAny (model X.prog X.w) A (setAttr (.ref a) f u) Q E s := by
  obtain ⟨nm, q, N, bs, sn, sub, ab, col, dd, k0, k1, k2, k3, k5, hC⟩ := T.cls
  have hcl : PySem.W.clsIn X.K C = some { name := nm, bases := bs, mro := .ref C :: tail, ns := N, qualname := q, hasDict := true, slotNames := sn, subclasses := sub, abstract := ab, collection := col, hasDel := false } := by
    unfold PySem.W.clsIn
    rw [hC] <;> rfl
  obtain ⟨t0, at0⟩ := exo_at I.hok ea
  obtain ⟨hp, gs, dr, tn, os⟩ := s
  refine PySem.W.set_plain I.kIn (ox := { cls := .ref C, dict := none, data := .fields #[.ref t0, .none, .none, .none, .bool false, .none] }) (od := none) ⟨at0, rfl, rfl, trivial⟩ T.sa ?_
  refine put_first T.ov I.kIn at0 hcl rfl rfl no fun h2 tk dx kp new ne at2 ns => ?_
  have dn : H dx = none := I.hok.fresh new
  have other : ∀ {b : Addr} {o : Obj}, hp.get? b = some o → b ≠ dx := fun z => Nat.ne_of_lt (Nat.lt_of_lt_of_le (Heap.lt_size z) new)
  have offA : ∀ {b : Addr}, H b = none → b ≠ a := fun n z => by
    rw [z, ea] at n
    cases n
  have still : ∀ {b : Addr} {o : HO}, b ≠ a → H b = some o → upd (upd H dx (exd dx [(f, y)])) a (exo a C (some dx)) b = some o := fun n z => (upd_ne n).trans ((upd_ne (ne_of_none z dn)).trans z)
  have U : Un X.fs [] H (upd (upd H dx (exd dx [(f, y)])) a (exo a C (some dx))) hp h2 :=
    { keep := fun b o z n _ _ => kp b o (offA n) z, slot := fun b o z n _ _ => ⟨o.slots, kp b o (offA n) z⟩,
      free := fun b o z n _ => (upd_ne (offA n)).trans ((upd_ne (other z)).trans n),
      there := fun b o z _ => by
        by_cases e : b = a
        · exact ⟨_, e ▸ at2⟩
        · exact ⟨o, kp b o e z⟩
      tups := fun b xs z => still (at_ne ea z exo_tup) z, frzs := fun b o v z => still (at_ne ea z exo_frz) z,
      tbls := fun b ps z => ⟨#[], by rw [Array.append_empty]; exact still (at_ne ea z exo_tbl) z⟩ }
  refine fin dx _ dn ne (I.un (t' := tk) U fun b o z => ?_)
  by_cases e1 : b = a
  · rw [e1, upd_same] at z
    rw [← Option.some.inj z, e1]
    exact exo_ok at2
  · rw [upd_ne e1] at z
    by_cases e2 : b = dx
    · rw [e2, upd_same] at z
      rw [← Option.some.inj z, e2]
      exact exd_ok ns (relO_put (fs := []) ry fun _ => True.intro)
    · rw [upd_ne e2] at z
      refine (I.hok b o z).stay (fun c v hc k => kp c v ?_ k) (fun c hc => still (at_ne ea hc exo_own) hc) fun c xs hc => still (at_ne ea hc exo_tup) hc
      exact hc.elim (fun e => e ▸ e1) fun hc => at_ne ea hc exo_own
/-- the built-in class's __init__ -/
theorem base_init {A : Around} {us : List Value} {Q : Value → Shared → Prop} {E : Value → Shared → Prop} (T : OwnX B nw ini tail X.K C) (I : Inv X pins σ H s) (ea : H a = some (exo a C none)) (hl : us.length ≤ sizeLine) (fin : ∀ s2, Inv X pins σ H s2 → Q .none s2) :
    wpAny (model X.prog X.w) A (call (.builtin ini) (.ref a :: us)) Q E s := by
  obtain ⟨nm, q, N, bs, sn, sub, ab, col, dd, k0, k1, k2, k3, k5, hC⟩ := T.cls
  obtain ⟨t0, at0⟩ := exo_at I.hok ea
  obtain ⟨hp, gs, dr, tn, os⟩ := s
  refine wpAny_call (PySem.HandSPX.init_base T.ov.fb (fun _ => rfl) (I.kIn _ _ hC) at0 hl fun h2 t2 kp at2 => ?_)
  have J := I.write (t' := tn) (x := a) (e := a) (o := exo a C none) (by rw [ea]; trivial) (.inl rfl) kp ⟨_, at2⟩ (exo_ok at2)
  have back : upd H a (exo a C none) = H := funext fun b => by
    by_cases e : b = a
    · rw [e, upd_same, ea]
    · exact upd_ne e
  exact fin _ (back ▸ J)
end
/-! ### readings -/
def tBI (B nw ini : String) (tail : List Value) (K : PySem.W.Frag) (ta : TA) : TE := fun σ H Q => ta σ H fun vs H1 => ∃ (a C : Addr) (ws : List V), vs = .ref a :: ws ∧ ws.length ≤ 1000 ∧ OwnX B nw ini tail K C ∧ H1 a = some (exo a C none) ∧ Q .non H1
def tKeep (B nw ini : String) (tail : List Value) (K : PySem.W.Frag) (f : Str) (to te : TE) : TS := fun D σ H => te σ H fun y H1 => to σ H1 fun x H2 => ∃ a C : Addr, x = .ref a ∧ OwnX B nw ini tail K C ∧ PySem.W.findIn K (.ref C) f = some none ∧ H2 a = some (exo a C none) ∧
  ∀ dx, H2 dx = none → dx ≠ a → D.nx σ (upd (upd H2 dx (exd dx [(f, y)])) a (exo a C (some dx)))
section
variable {B nw ini : String} {tail : List Value} {X : Cx} {o e : Expr} {es : List Expr} {to te : TE} {ta : TA} {f x : Str} {p p' p1 p2 pos : Pos}
theorem ps_keep (ho : PE X o to) (he : PE X e te) (hs : swapsWith e (some (.Attribute o f p')) pos.line X.env = pure false := by rfl) : PS X (.Assign [.Attribute o f p'] e pos) (tKeep B nw ini tail X.K f to te) := by
  refine ⟨fun pins s σ H D I h => ?_⟩
  refine plainObj_wpAny_Assign_Attribute (thn (he.run pins s σ H _ I h) fun v s1 ⟨y, H1, I1, r1, h1⟩ => ?_) hs
  refine thn (ho.run pins s1 σ H1 _ I1 h1) fun z s2 ⟨x, H2, I2, r2, a, C, ex, T, no, ea, fin⟩ => ?_
  subst ex
  obtain rfl : z = Value.ref a := r2
  exact keep_first T I2 ea no r1 fun dx s3 n ne J => ⟨σ, _, J, fin dx n ne⟩
/-- the built-in class's __init__ is read off the class -/
structure BltX (B ini : String) (x : Str) : Prop where
  boot : bootBuiltins x = some (.type B)
  ty : typeOf (.type B) = pure (.type "type")
  stub : Manifest.isStub B = false
  hands : PySem.W.handedIn (.builtin ini) = true
  nn : x ≠ "__name__"
  nd : (x == ("__debug__" : Str)) = false
  rd : ∀ K : PySem.W.Frag, PySem.W.findCls K (.type B) (.type "type") "__init__" = some (.val (.builtin ini))
theorem pe_binit {pl : Sem Bool} (BX : BltX B ini x) (hg : Gl X x) (hm : X.mg x = none) (ha : PA X (e :: es) ta)
    (hc : eval (.Call (.Attribute (.Name x p1) "__init__" p2) (e :: es) [] pos) X.env = (do
      let ov ← eval (.Name x p1) X.env
      standAt p2.atName
      let (f, first) ← holding [ov] (getMethod ov "__init__" pl)
      callWith pos f first (backTo pos (starEach (e :: es) X.env)) (backToKw pos (keywordEach [] X.env))) := by rfl)
    (he : starEach (e :: es) X.env = (false, eval e X.env) :: starEach es X.env := by rfl) (hpl : (backTo pos (starEach es X.env)).any (·.1) = false := by rfl) :
    PE X (.Call (.Attribute (.Name x p1) "__init__" p2) (e :: es) [] pos) (tBI B nw ini tail X.K ta) := by
  refine ⟨fun pins s σ H Q I h => PySem.W.methodCall_KW (ld_blt I hg hm BX.boot ?_ BX.nn BX.nd) hc⟩
  obtain ⟨m, fr⟩ := I.fr
  refine PySem.W.method_type fr I.ok.mod.kin BX.ty BX.stub (BX.rd _) BX.hands ?_
  change wpAny _ _ (callWith pos (Value.builtin ini) [] (backTo pos (starEach (e :: es) X.env)) []) _ _ _
  refine PyProof.Rows.callWith_method1 (thn (ha.run pos pins _ σ H _ (I.tok _) h) ?_) he hpl
  rintro us s1 ⟨vs, H1, I1, r1, a, C, ws, rfl, hl, T, ea, q⟩
  match us, r1 with
  | u0 :: ur, .cons ra rw' =>
    obtain rfl : u0 = Value.ref a := ra
    have small : ur.length ≤ sizeLine := by
      have := Paired.length rw'
      rw [sizeLine_eq]
      omega
    exact base_init T I1 ea small fun s2 J => ⟨.non, H1, J, rfl, q⟩
theorem pmk_keep {CX : CXT} {C fI : Addr} {k : Nat} {fd : FuncData} {ps : List Str} {sp : Sp} {ds : List Value} {dvs : List V} (T : OwnX B nw ini tail X.K C) (iC : PySem.W.findIn X.K (.ref C) "__init__" = some (some (.ref fI))) (tI : PySem.W.typeIn X.K (.ref fI) = some (.type "function"))
    (F1 : FnOk X.prog X.w X.K X.mg X.base CX k fI fd ps sp) (hr : Room (k + 1) X.A) (hb : Binds X.K fd ps ds) (hd : Vals dvs ds) (hx : Passes CX X (fun _ _ _ => False)) (hg : Gl X x) (hm : X.mg x = some (.ref C)) (ha : PA X (e :: es) ta)
    (hdb : (x == ("__debug__" : Str)) = false := by decide) (he : starEach (e :: es) X.env = (false, eval e X.env) :: starEach es X.env := by rfl) (hpl : (backTo pos (starEach es X.env)).any (·.1) = false := by rfl) :
    PMk X (.Call (.Name x p) (e :: es) [] pos) (tMkO C sp dvs ta) := by
  intro pins s σ H Q I h
  obtain ⟨nm, q, N, bs, sn, sub, ab, col, dd, k0, k1, k2, k3, k5, hC⟩ := T.cls
  refine wpAny_Call_Name_kw (ld_glob I hg hm ?_ hdb)
  refine PySem.W.callWith_K (h₀ := X.base) I.ok.mod.kin T.kC (thn (ha.run pos pins s σ H _ I h) fun us s1 ⟨vs, H1, I1, r1, hz, q1⟩ => ⟨I1.kIn, ?_⟩) he hpl
  change wpAny _ _ (call (.ref C) us) _ _ _
  obtain ⟨hp, gs, dr, tk, os⟩ := s1
  have next : hp.objs.size ≤ hp.objs.size + 1 := Nat.le_succ _
  have hq := q1 (hp.objs.size + 1) (I1.hok.fresh next)
  have kk : ∀ b o, hp.get? b = some o → ((hp.push (PySem.W.kdv_tup us)).push (PySem.HandSPX.excO C hp.objs.size)).get? b = some o := fun b o z => Heap.get?_push_of_some _ (Heap.get?_push_of_some _ z)
  have atA : ((hp.push (PySem.W.kdv_tup us)).push (PySem.HandSPX.excO C hp.objs.size)).get? (hp.objs.size + 1) = some (PySem.HandSPX.excO C hp.objs.size) := by heap_get
  have I2 := I1.laid (t' := tk) (a := hp.objs.size + 1) (o := exo (hp.objs.size + 1) C none) (h' := (hp.push (PySem.W.kdv_tup us)).push (PySem.HandSPX.excO C hp.objs.size)) kk next (exo_ok atA)
  have r2 : Vals (V.ref (hp.objs.size + 1) :: (vs ++ dvs)) (Value.ref (hp.objs.size + 1) :: (us ++ ds)) := .cons rfl (r1.append hd)
  have len : (Value.ref (hp.objs.size + 1) :: us ++ ds).length = ps.length := r2.length.symm.trans (F1.len _ _ _ _ hq)
  have small : us.length ≤ sizeLine := by
    have := r1.length
    rw [sizeLine_eq]
    omega
  refine wpAny_call (PySem.HandSPX.call_own T.ov.fb (fun _ => rfl) (I1.kIn _ _ hC) (PySem.W.looks_findIn I1.kIn iC) (fun self => PySem.W.bind_fn I1.kIn self tI) small
    (codeAny_mono (F1.run _ X.stack _ _ ⟨Value.ref (hp.objs.size + 1) :: us, []⟩ (Value.ref (hp.objs.size + 1) :: (us ++ ds)) _ _ (fun _ _ _ => False) (hr.make C us []) (I2.env0.make C us []) (hb _ (Value.ref (hp.objs.size + 1) :: us) I2.kIn len) r2 hq) fun r s' hq' => ?_))
  match r, hq' with
  | .error er, hq' => exact hx pins σ _ _ er s' I2 hq'
  | .ok (.ret u), hq' =>
    obtain ⟨v, H2, os2, bare2, un2, hok2, rv, rfl, d, fs, ea, ed, hd1, q2⟩ := hq'
    obtain ⟨h2, g2, d2, t2, os'⟩ := s'
    exact ⟨rv, mk_end (raises_own T.exC T.tyC) I1 next kk un2 hok2 os2 bare2 ea ed hd1 q2⟩
theorem blt_overflow : BltX "OverflowError" "OverflowError.__init__" "OverflowError" := ⟨by kernel_rfl, by kernel_rfl, by decide +kernel, by decide +kernel, by decide, by decide, fun K => by first | rfl | kernel_rfl⟩
theorem blt_lookup : BltX "LookupError" "LookupError.__init__" "LookupError" := ⟨by kernel_rfl, by kernel_rfl, by decide +kernel, by decide +kernel, by decide, by decide, fun K => by first | rfl | kernel_rfl⟩
theorem blt_index : BltX "IndexError" "IndexError.__init__" "IndexError" := ⟨by kernel_rfl, by kernel_rfl, by decide +kernel, by decide +kernel, by decide, by decide, fun K => by first | rfl | kernel_rfl⟩
theorem blt_arith : BltX "ArithmeticError" "ArithmeticError.__init__" "ArithmeticError" := ⟨by kernel_rfl, by kernel_rfl, by decide +kernel, by decide +kernel, by decide, by decide, fun K => by first | rfl | kernel_rfl⟩
end
end Bw

namespace Bw
open PySem PySem.Spec PySem.W PySem.Calls PyProof.Rows PySem.SeqAt
open AutoSeq1 (wpAny_loadPart')
open MeetsSeq MeetsSeq2 MeetsSeq3 SeqRoads2

/-! ### < of tuples: the first place that differs decides, and nothing is asked of those behind it -/
inductive Fst (A : Around) (s : Shared) : List Value → List Value → Bool → Prop
  | end1 (ws : List Value) : Fst A s [] ws (decide (0 < ws.length))
  | end2 (v : Value) (vs : List Value) : Fst A s (v :: vs) [] false
  | same {v w : Value} {vs ws : List Value} {k : Bool} (e : EqAt A s v w true) (t : Fst A s vs ws k) : Fst A s (v :: vs) (w :: ws) k
  | diff {v w : Value} {k : Bool} (vs ws : List Value) (e : EqAt A s v w false) (r : RcLt A s v w k) : Fst A s (v :: vs) (w :: ws) k
theorem tup_first (p q : Addr) (us ys : Array Value) (c1 c2 : Nat) (e1 e2 : Option Addr) (z1 z2 : Array (Option Value)) (k : Bool) :
    Meets (Builtin.«tuple.__lt__» ⟨[.ref p, .ref q], []⟩) (fun A R s =>
      s.heap.get? p = some { cls := .type "tuple", dict := e1, data := .seq us c1, slots := z1 } ∧
      s.heap.get? q = some { cls := .type "tuple", dict := e2, data := .seq ys c2, slots := z2 } ∧ Fst A.in1 s us.toList ys.toList k ∧ R (.ok (.ret (.bool k))) s) :=
  .of_wp fun prog w A R s ⟨hp1, hq1, first, fin⟩ => by
    obtain ⟨hp, gs, dr, tk, os⟩ := s
    have sub_ := AutoSeq1.sub_tuple_tuple
    wp_walk using wpAny_loadPart' hp1, wpAny_loadPart' hq1, wpAny_forIn_list _ (fun rest b s2 => b.1 = none ∧ s2 = ⟨hp, gs, dr, tk, os⟩ ∧ ∃ vs ws, rest = vs.zip ws ∧ vs.length + ys.size = ws.length + us.size ∧ Fst A.in1 ⟨hp, gs, dr, tk, os⟩ vs ws k) _
    case turn =>
      rintro ⟨y, x⟩ rest b s2 ⟨nb, rfl, vs, ws, hz, len, F⟩
      match vs, ws, hz, len, F with
      | v :: vs, w :: ws, hz, len, F =>
        rw [List.zip_cons_cons] at hz
        obtain ⟨e3, e4⟩ := List.cons.inj hz
        cases e3
        cases F with
        | same e t =>
          refine wpAny_bind (e prog _ _ _ ?_)
          wp_walk
          exact ⟨rfl, rfl, vs, ws, e4, by simp only [List.length_cons] at len; omega, t⟩
        | diff _ _ e r =>
          refine wpAny_bind (e prog _ _ _ ?_)
          refine wpAny_bind (wpAny_rule ?_)
          refine wpAny_bind (r prog _ _ _ ?_)
          wp_walk
          exact ⟨_, rfl, fin⟩
    case fin =>
      rintro ⟨b1, b2⟩ s2 ⟨nb, rfl, vs, ws, hz, len, F⟩
      simp only at nb
      subst nb
      have kk : k = decide (us.size < ys.size) := by
        cases F with
        | end1 _ =>
          refine decide_eq_decide.mpr ?_
          simp only [List.length_nil] at len
          omega
        | end2 v vs =>
          symm
          rw [decide_eq_false_iff_not]
          simp only [List.length_cons, List.length_nil] at len
          omega
        | same e t => exact nomatch hz
        | diff _ _ e r => exact nomatch hz
      wp_walk
      refine ⟨_, rfl, ?_⟩
      rw [kk] at fin
      simpa [Builtin.Tuple.tupleCompareSizes] using fin
    case h =>
      exact ⟨rfl, rfl, us.toList, ys.toList, rfl, by simp; omega, first⟩
theorem rcLt_first {A : Around} {s : Shared} {p q : Addr} {us ys : Array Value} {k : Bool} (hp : s.heap.IsTuple p us) (hq : s.heap.IsTuple q ys) (hu : A.units < cLine) (F : Fst A.in1 s us.toList ys.toList k) : RcLt A s (.ref p) (.ref q) k := fun prog w E Q fin => by
  obtain ⟨⟨c1, d1, t1, z1⟩, h1, hc1, n1, hd1⟩ := id hp
  obtain ⟨⟨c2, d2, t2, z2⟩, h2, hc2, n2, hd2⟩ := id hq
  simp only at hc1 hd1 hc2 hd2
  subst hc1 hd1 hc2 hd2
  refine richCompare_meets_room (op := .Lt) ⟨_, h1, rfl⟩ ⟨_, h2, rfl⟩ PySem.F.slot_tuple_lt PySem.F.entry_tuple_lt (PySem.F.args_tuple_lt_2 _ _) (tup_first p q us ys n1 n2 d1 d2 z1 z2 k) ?_ hu
  have both : Value.bool k ≠ Value.notImplemented ∧ Q (.bool k) s := ⟨(fun x => nomatch x), fin⟩
  exact ⟨h1, h2, F, both⟩
end Bw

namespace Bw
open PySem PySem.Spec PySem.W PySem.Calls PyProof.Rows PySem.SeqAt

/-! ### the order of data whose first difference can be compared -/
mutual
def cmpb : PyData → PyData → Bool
  | .int _, .int _ => true
  | .str _, .str _ => true
  | .tuple xs, .tuple ys => cmpAll xs ys
  | _, _ => false
def cmpAll : List PyData → List PyData → Bool
  | x :: xs, y :: ys => if PyData.eqv x y = true then cmpAll xs ys else cmpb x y
  | [], _ => true
  | _ :: _, [] => true
end
mutual
def plt : PyData → PyData → Bool
  | .int a, .int b => decide (a < b)
  | .str a, .str b => decide (a.cps.toList < b.cps.toList)
  | .tuple xs, .tuple ys => pltAll xs ys
  | _, _ => false
def pltAll : List PyData → List PyData → Bool
  | x :: xs, y :: ys => if PyData.eqv x y = true then pltAll xs ys else plt x y
  | [], ys => decide (0 < ys.length)
  | _ :: _, [] => false
end
mutual
theorem rcLt_cmp : ∀ (da db : PyData) (A : Around) (s : Shared) (a b : Value) (as bs : List Addr), Reads s.heap a da as → Reads s.heap b db bs → da.canLay0 = true → db.canLay0 = true → cmpb da db = true → A.units + min da.depth db.depth < cLine → RcLt A s a b (plt da db)
  | .int x, .int y, A, s, a, b, as, bs, ra, rb, _, _, _, _ => by
    cases ra
    cases rb
    intro prog w E Q fin
    simp only [plt] at fin
    exact P.lt_int fin
  | .str x, .str y, A, s, a, b, as, bs, ra, rb, _, _, _, _ => by
    cases ra
    cases rb
    intro prog w E Q fin
    simp only [plt] at fin
    exact P.lt_str fin
  | .tuple xs, .tuple ys, A, s, a, b, as, bs, ra, rb, la, lb, c, hu => by
    cases ra with
    | @tuple l o vs n _ as1 h1 h2 h3 h4 =>
      cases rb with
      | @tuple l2 o2 ws n2 _ bs1 k1 k2 k3 k4 =>
        simp only [cmpb] at c
        have F := fst_cmp xs ys A.in1 s vs.toList ws.toList _ _ h4 k4 (by simpa [PyData.canLay0] using la) (by simpa [PyData.canLay0] using lb) c (room_in hu)
        simp only [plt]
        exact rcLt_first ⟨_, h1, h2, _, h3⟩ ⟨_, k1, k2, _, k3⟩ (room_here hu) F
  | .none, db, _, _, _, _, _, _, _, _, _, _, c, _ => absurd c (by cases db <;> simp [cmpb])
  | .bool _, db, _, _, _, _, _, _, _, _, _, _, c, _ => absurd c (by cases db <;> simp [cmpb])
  | .list _, db, _, _, _, _, _, _, _, _, _, _, c, _ => absurd c (by cases db <;> simp [cmpb])
  | .dict _, db, _, _, _, _, _, _, _, _, _, _, c, _ => absurd c (by cases db <;> simp [cmpb])
  | .int _, .none, _, _, _, _, _, _, _, _, _, _, c, _ => absurd c (by simp [cmpb])
  | .int _, .bool _, _, _, _, _, _, _, _, _, _, _, c, _ => absurd c (by simp [cmpb])
  | .int _, .str _, _, _, _, _, _, _, _, _, _, _, c, _ => absurd c (by simp [cmpb])
  | .int _, .list _, _, _, _, _, _, _, _, _, _, _, c, _ => absurd c (by simp [cmpb])
  | .int _, .tuple _, _, _, _, _, _, _, _, _, _, _, c, _ => absurd c (by simp [cmpb])
  | .int _, .dict _, _, _, _, _, _, _, _, _, _, _, c, _ => absurd c (by simp [cmpb])
  | .str _, .none, _, _, _, _, _, _, _, _, _, _, c, _ => absurd c (by simp [cmpb])
  | .str _, .bool _, _, _, _, _, _, _, _, _, _, _, c, _ => absurd c (by simp [cmpb])
  | .str _, .int _, _, _, _, _, _, _, _, _, _, _, c, _ => absurd c (by simp [cmpb])
  | .str _, .list _, _, _, _, _, _, _, _, _, _, _, c, _ => absurd c (by simp [cmpb])
  | .str _, .tuple _, _, _, _, _, _, _, _, _, _, _, c, _ => absurd c (by simp [cmpb])
  | .str _, .dict _, _, _, _, _, _, _, _, _, _, _, c, _ => absurd c (by simp [cmpb])
  | .tuple _, .none, _, _, _, _, _, _, _, _, _, _, c, _ => absurd c (by simp [cmpb])
  | .tuple _, .bool _, _, _, _, _, _, _, _, _, _, _, c, _ => absurd c (by simp [cmpb])
  | .tuple _, .int _, _, _, _, _, _, _, _, _, _, _, c, _ => absurd c (by simp [cmpb])
  | .tuple _, .str _, _, _, _, _, _, _, _, _, _, _, c, _ => absurd c (by simp [cmpb])
  | .tuple _, .list _, _, _, _, _, _, _, _, _, _, _, c, _ => absurd c (by simp [cmpb])
  | .tuple _, .dict _, _, _, _, _, _, _, _, _, _, _, c, _ => absurd c (by simp [cmpb])
theorem fst_cmp : ∀ (xs ys : List PyData) (A : Around) (s : Shared) (vs ws : List Value) (as bs : List Addr), ReadsAll s.heap vs xs as → ReadsAll s.heap ws ys bs → PyData.canLayAll0 xs = true → PyData.canLayAll0 ys = true → cmpAll xs ys = true →
    A.units + min (PyData.depthAll xs) (PyData.depthAll ys) < cLine → Fst A s vs ws (pltAll xs ys)
  | [], ys, A, s, vs, ws, as, bs, ra, rb, _, _, _, _ => by
    cases ra
    have e : ws.length = ys.length := ReadsAll.length _ _ _ rb
    simp only [pltAll]
    rw [← e]
    exact .end1 ws
  | x :: xs, [], A, s, vs, ws, as, bs, ra, rb, _, _, _, _ => by
    cases ra
    cases rb
    simp only [pltAll]
    exact .end2 _ _
  | x :: xs, y :: ys, A, s, vs, ws, as, bs, ra, rb, la, lb, c, hu => by
    cases ra with
    | cons r rs =>
      cases rb with
      | cons r2 rs2 =>
        have la2 : x.canLay0 = true ∧ PyData.canLayAll0 xs = true := by simpa [PyData.canLayAll0] using la
        have lb2 : y.canLay0 = true ∧ PyData.canLayAll0 ys = true := by simpa [PyData.canLayAll0] using lb
        have eq_ := eqAt_reads x y A s _ _ _ _ r r2 la2.1 lb2.1 (room_head hu)
        simp only [cmpAll] at c
        simp only [pltAll]
        cases hx : PyData.eqv x y with
        | true =>
          rw [hx] at eq_ c
          rw [if_pos rfl] at c ⊢
          exact .same eq_ (fst_cmp xs ys A s _ _ _ _ rs rs2 la2.2 lb2.2 c (room_tail hu))
        | false =>
          rw [hx] at eq_ c
          rw [if_neg Bool.false_ne_true] at c ⊢
          exact .diff _ _ eq_ (rcLt_cmp x y A s _ _ _ _ r r2 la2.1 lb2.1 c (room_head hu))
end
end Bw

namespace Bw
open PySem PySem.Spec PySem.W PySem.Calls PyProof.Rows PySem.SeqAt SrtO

/-! ### sorted, where two items are compared by their first difference, and all begin with a text -/
section
variable {prog : Program} {w : World} {A : Around} {E : Value → Shared → Prop} {s : Shared} {b fin : Bool} {Q : Bool → Shared → Prop}
theorem kat_tail : ∀ (xs ys : List PyData) (i : Nat) (vs ws : List Value) (as bs : List Addr), ReadsAll s.heap vs xs as → ReadsAll s.heap ws ys bs → PyData.canLayAll0 xs = true → PyData.canLayAll0 ys = true → cmpAll xs ys = true →
    A.units + min (PyData.depthAll xs) (PyData.depthAll ys) < cLine → 1 ≤ i → fin = decide (xs.length < ys.length) → Q (pltAll xs ys) s → KatLex prog w A b fin Q (vs.zip ws) i s
  | [], ys, i, vs, ws, as, bs, ra, rb, _, _, _, _, _, hf, q => by
    cases ra
    rw [List.zip_nil_left]
    refine kat_nil ?_
    rw [hf]
    simpa [pltAll] using q
  | x :: xs, [], i, vs, ws, as, bs, ra, rb, _, _, _, _, _, hf, q => by
    cases rb
    rw [List.zip_nil_right]
    refine kat_nil ?_
    rw [hf]
    simpa [pltAll] using q
  | x :: xs, y :: ys, i, vs, ws, as, bs, ra, rb, la, lb, c, hu, hi, hf, q => by
    have la2 : x.canLay0 = true ∧ PyData.canLayAll0 xs = true := by simpa [PyData.canLayAll0] using la
    have lb2 : y.canLay0 = true ∧ PyData.canLayAll0 ys = true := by simpa [PyData.canLayAll0] using lb
    simp only [cmpAll] at c
    simp only [pltAll] at q
    have hf2 : fin = decide (xs.length < ys.length) := by
      rw [hf]
      simp only [List.length_cons, Nat.add_lt_add_iff_right]
    cases ra with
    | cons r rs =>
      cases rb with
      | cons r2 rs2 =>
        rw [List.zip_cons_cons]
        refine kat_cons (eqAt_reads x y A s _ _ _ _ r r2 la2.1 lb2.1 (room_head hu) prog w _ _ ?_)
        cases hx : PyData.eqv x y with
        | true =>
          rw [hx, if_pos rfl] at c q
          exact kat_yes (kat_tail xs ys (i + 1) _ _ _ _ rs rs2 la2.2 lb2.2 c (room_tail hu) (by omega) hf2 q)
        | false =>
          rw [hx, if_neg Bool.false_ne_true] at c q
          refine kat_no ?_
          have off : (b && i == 0) = false := by
            have : (i == 0) = false := by
              rw [beq_eq_false_iff_ne]
              omega
            rw [this, Bool.and_false]
          rw [off, oneLt'_eq]
          simp only [Bool.false_eq_true, if_false]
          exact wpAny_bind (rcLt_cmp x y A s _ _ _ _ r r2 la2.1 lb2.1 c (room_head hu) prog w _ _ (wpAny_truthy_bool q))
theorem kat_word {x y : Str} {xs ys : List PyData} {vs ws : List Value} {as bs : List Addr} (ra : ReadsAll s.heap vs (.str x :: xs) as) (rb : ReadsAll s.heap ws (.str y :: ys) bs) (la : PyData.canLayAll0 (.str x :: xs) = true) (lb : PyData.canLayAll0 (.str y :: ys) = true) (c : cmpAll (.str x :: xs) (.str y :: ys) = true)
    (hu : A.units + min (PyData.depthAll (.str x :: xs)) (PyData.depthAll (.str y :: ys)) < cLine) (hf : fin = decide ((PyData.str x :: xs).length < (PyData.str y :: ys).length)) (q : Q (pltAll (.str x :: xs) (.str y :: ys)) s) : KatLex prog w A true fin Q (vs.zip ws) 0 s := by
  have la2 : (PyData.str x).canLay0 = true ∧ PyData.canLayAll0 xs = true := by simpa [PyData.canLayAll0] using la
  have lb2 : (PyData.str y).canLay0 = true ∧ PyData.canLayAll0 ys = true := by simpa [PyData.canLayAll0] using lb
  simp only [cmpAll] at c
  simp only [pltAll] at q
  have hf2 : fin = decide (xs.length < ys.length) := by
    rw [hf]
    simp only [List.length_cons, Nat.add_lt_add_iff_right]
  cases ra with
  | cons r rs =>
    cases rb with
    | cons r2 rs2 =>
      rw [List.zip_cons_cons]
      refine kat_cons (eqAt_reads (.str x) (.str y) A s _ _ _ _ r r2 la2.1 lb2.1 (room_head hu) prog w _ _ ?_)
      cases hx : PyData.eqv (.str x) (.str y) with
      | true =>
        rw [hx, if_pos rfl] at c q
        exact kat_yes (kat_tail xs ys 1 _ _ _ _ rs rs2 la2.2 lb2.2 c (room_tail hu) (Nat.le_refl _) hf2 q)
      | false =>
        rw [hx, if_neg Bool.false_ne_true] at c q
        simp only [plt] at q
        cases r
        cases r2
        exact kat_no (oneLt_str q)
end
section
variable {prog : Program} {w : World} {A : Around} {E : Value → Shared → Prop} {s : Shared}
/-- what is asked of each item -/
def Wrd (h : Heap) (u : Nat) (v : Value) (d : PyData) : Prop := ∃ x r as, d = .tuple (.str x :: r) ∧ Reads h v d as ∧ d.canLay0 = true ∧ u + d.depth < cLine
theorem Wrd.first {h : Heap} {u : Nat} {v : Value} {d : PyData} (q : Wrd h u v d) : ∃ (a : Addr) (o : Obj) (xs : Array Value) (n : Nat) (x : Str) (t : Tok), v = .ref a ∧ h.get? a = some o ∧ o.cls = .type "tuple" ∧ o.data = .seq xs n ∧ xs[0]? = some (.str x t) := by
  obtain ⟨x, r, as, rfl, rd, _, _⟩ := q
  cases rd with
  | @tuple a o xs n _ _ h1 h2 h3 h4 =>
    cases e : xs.toList with
    | nil =>
      rw [e] at h4
      cases h4
    | cons f fr =>
      rw [e] at h4
      cases h4 with
      | cons r1 r2 =>
        cases r1
        exact ⟨a, o, xs, n, x, _, rfl, h1, h2, h3, by rw [← Array.getElem?_toList, e]; rfl⟩
theorem firsts_wrd {h : Heap} {u : Nat} : ∀ {vs : List Value} {kd : Value → PyData}, (∀ v ∈ vs, Wrd h u v (kd v)) → ∃ fs, KatTups h vs fs ∧ fs.length = vs.length ∧ ∀ f ∈ fs, ∃ x t, f = Value.str x t
  | [], _, _ => ⟨[], KatTups.nil, rfl, fun f hf => absurd hf (by simp)⟩
  | v :: vs, kd, hp => by
    obtain ⟨fs, h1, h2, h3⟩ := firsts_wrd (vs := vs) (kd := kd) fun y hy => hp y (.tail _ hy)
    obtain ⟨a, o, xs, n, x, t, rfl, g1, g2, g3, g4⟩ := (hp v (List.mem_cons_self ..)).first
    refine ⟨.str x t :: fs, KatTups.cons g1 g2 g3 g4 h1, by rw [List.length_cons, List.length_cons, h2], fun f hf => ?_⟩
    rcases List.mem_cons.mp hf with rfl | hf
    · exact ⟨_, _, rfl⟩
    · exact h3 f hf
theorem cmp_wrd {vs : List Value} {kd : Value → PyData} {ltv : Value → Value → Bool} (hp : ∀ v ∈ vs, Wrd s.heap A.units v (kd v)) (hc : ∀ u ∈ vs, ∀ v ∈ vs, cmpb (kd u) (kd v) = true ∧ plt (kd u) (kd v) = ltv u v) : Cmp prog w A s (tuples' true) (fun p => p.1 ∈ vs) (lt2 ltv) := by
  intro p q hm hm2
  obtain ⟨c, e⟩ := hc _ hm _ hm2
  have h1 := hp _ hm
  have h2 := hp _ hm2
  show wpAny (model prog w) A (keyLt' (tuples' true) p.1 q.1) (fun r s2 => s2 = s ∧ r = ltv p.1 q.1) (fun _ _ => False) s
  rw [← e]
  generalize kd p.1 = d1 at h1 c
  generalize kd q.1 = d2 at h2 c
  obtain ⟨x, xs, as, rfl, r1, l1, u1⟩ := h1
  obtain ⟨y, ys, bs, rfl, r2, l2, u2⟩ := h2
  generalize p.1 = v1 at r1
  generalize q.1 = v2 at r2
  cases r1 with
  | @tuple a o us n _ _ g1 g2 g3 g4 =>
    cases r2 with
    | @tuple a2 o2 us2 n2 _ _ k1 k2 k3 k4 =>
      have z1 : us.size = (PyData.str x :: xs).length := by simpa using SeqAt.ReadsAll.length _ _ _ g4
      have z2 : us2.size = (PyData.str y :: ys).length := by simpa using SeqAt.ReadsAll.length _ _ _ k4
      refine kat_lt g1 g3 k1 k3 (kat_word g4 k4 (by simpa [PyData.canLay0] using l1) (by simpa [PyData.canLay0] using l2) (by simpa [cmpb] using c) ?_ (by rw [z1, z2]) ⟨rfl, by simp only [plt]⟩)
      simp only [PyData.depth] at u1
      omega
theorem sorted_wrd {l : Addr} {vs : List Value} {kd : Value → PyData} {ltv : Value → Value → Bool} {Q : Value → Shared → Prop} (O : Swo ltv) (hl : s.heap.IsList l vs.toArray) (hz : vs.length ≤ sizeLine) (hp : ∀ v ∈ vs, Wrd s.heap (A.units + 2) v (kd v))
    (hc : ∀ u ∈ vs, ∀ v ∈ vs, cmpb (kd u) (kd v) = true ∧ plt (kd u) (kd v) = ltv u v) (q : ∀ out : List Value, Srtd ltv out → Stb ltv out vs → Q (.ref (s.heap.objs.size + 1)) { s with heap := sortedAll s.heap vs out.toArray }) :
    wpAny (model prog w) A (call (.builtin "sorted") [.ref l]) Q E s := by
  refine sorted_ord O hl hz (fun two h1 a ha kp h2 kp2 => ?_) q
  have all : ∀ v ∈ vs, Wrd h2 (A.units + 2) v (kd v) := fun v hv => by
    obtain ⟨x, r, as, e, rd, la, u⟩ := hp v hv
    exact ⟨x, r, as, e, PyProof.Rows.Reads.keeps (fun b o z => kp2 b o (kp b o z).1 (kp b o z).2) rd, la, u⟩
  obtain ⟨fs, f1, f2, f3⟩ := firsts_wrd all
  refine ⟨tuples' true, fun Q E hq => ?_, cmp_wrd (A := A.in1.in1) all hc⟩
  refine kat_kind (T := .type "str") f1 (by omega) (fun f hf => ?_) rfl ?_
  · obtain ⟨x, t, rfl⟩ := f3 f hf
    exact Looks.now
  · have : (Value.type "str" != Value.type "tuple") = true := by decide +kernel
    rw [this]
    exact hq
end
end Bw

namespace Bw
open PySem PySem.Spec L2 LamX TL PyProof.Rows SrtO

/-- sorted(list): tuples of data that begin with a text; lt is their order -/
def rSortedW (K : PySem.W.Frag) : List V → Hp → VK → Prop := fun vs H Q => ∃ (a : Addr) (xs : List V) (kd : V → PyData) (lt : V → V → Bool), vs = [.ref a] ∧ SqL K H a xs ∧ Swo lt ∧
  (∀ x ∈ xs, ∃ y r, kd x = .tuple (.str y :: r) ∧ Dp K H x (kd x) ∧ (kd x).canLay0 = true ∧ (kd x).depth ≤ 64) ∧ (∀ x ∈ xs, ∀ y ∈ xs, cmpb (kd x) (kd y) = true ∧ plt (kd x) (kd y) = lt x y) ∧
  ∀ ys p, Srtd lt ys → Stb lt ys xs → H p = none → Q (.ref p) (upd H p (.lst ys))
section
variable {X : Cx}
theorem cr_sortedW (hu : X.A.units + 2 + 64 < cLine) : CallR X (.builtin "sorted") (rSortedW X.K) := by
  intro pins s σ H vs us Q I r h
  obtain ⟨a, xs, kd, lt, rfl, hs, O, hx, hc, q⟩ := h
  obtain ⟨its, rv, hl, hz⟩ := I.list hs
  obtain ⟨u, rfl, ru⟩ := vals1 r
  obtain rfl : u = Value.ref a := ru
  have refs : ∀ x ∈ xs, ∃ t, x = V.ref t := fun x m => by
    obtain ⟨y, r, e, d, _, _⟩ := hx x m
    rw [e] at d
    cases d with
    | tup _ _ => exact ⟨_, rfl⟩
  obtain ⟨e1, e2⟩ := refs_back rv refs
  have O2 : Swo fun u v : Value => lt (backV u) (backV v) := ⟨fun x y => O.asym _ _, fun x y z => O.tr _ _ _⟩
  have inxs : ∀ v ∈ its, backV v ∈ xs := fun v hv => by
    rw [e1]
    exact List.mem_map.mpr ⟨v, hv, rfl⟩
  have rel : ∀ v ∈ its, RelV (backV v) v := fun v hv => by
    obtain ⟨t, rfl⟩ := e2 v hv
    exact rfl
  refine sorted_wrd (kd := fun v => kd (backV v)) O2 hl.isList (by rw [← rv.length]; exact hz) (fun v hv => ?_) (fun u hu2 v hv => hc _ (inxs u hu2) _ (inxs v hv)) fun out h1 h2 => ?_
  · obtain ⟨y, r, e, d, la, dp⟩ := hx _ (inxs v hv)
    obtain ⟨as, rd⟩ := Dp.reads I _ _ v d (rel v hv)
    exact ⟨y, r, as, e, rd, la, by omega⟩
  · have h3 : ∀ u ∈ out, ∃ a, u = Value.ref a := fun u hu3 => e2 u (h2.perm.mem_iff.mp hu3)
    obtain ⟨n, hn⟩ := PyProof.Rows.sortedAll_at s.heap its out.toArray
    have hb : Stb lt (out.map backV) xs := by
      rw [e1]
      exact Stb.map O backV h2
    refine ⟨.ref _, upd H (s.heap.objs.size + 1) (.lst (out.map backV)), I.laid (t' := s.toks) (fun _ _ => PyProof.Rows.sortedAll_old) (Nat.le_succ _) ⟨?_, out, n, vals_back h3, by simpa using hn⟩, rfl, q _ _ (srtd_map h1) hb (I.hok.fresh (Nat.le_succ _))⟩
    rw [hb.len]
    exact hz
end
end Bw

namespace Bw
open PySem PySem.Spec PySem.W PySem.Calls PyProof.Rows PySem.SeqAt SrtO

/-! ### data of ints, texts and tuples alone -/
mutual
def tame : PyData → Bool
  | .int _ => true
  | .str _ => true
  | .tuple xs => tameAll xs
  | _ => false
def tameAll : List PyData → Bool
  | [] => true
  | x :: xs => tame x && tameAll xs
end
mutual
theorem eqv_tame : ∀ x y : PyData, tame x = true → tame y = true → PyData.eqv x y = true → x = y
  | .int a, y, _, h, e => by
    cases y with
    | int b => rw [show a = b by simpa [PyData.eqv] using e]
    | _ => simp [tame, PyData.eqv] at h e
  | .str a, y, _, h, e => by
    cases y with
    | str b => rw [show a = b by simpa [PyData.eqv] using e]
    | _ => simp [tame, PyData.eqv] at h e
  | .tuple xs, y, h0, h, e => by
    cases y with
    | tuple ys => rw [eqvAll_tame xs ys (by simpa [tame] using h0) (by simpa [tame] using h) (by simpa [PyData.eqv] using e)]
    | _ => simp [tame, PyData.eqv] at h e
  | .none, _, h, _, _ => absurd h (by simp [tame])
  | .bool _, _, h, _, _ => absurd h (by simp [tame])
  | .list _, _, h, _, _ => absurd h (by simp [tame])
  | .dict _, _, h, _, _ => absurd h (by simp [tame])
theorem eqvAll_tame : ∀ xs ys : List PyData, tameAll xs = true → tameAll ys = true → PyData.eqvAll xs ys = true → xs = ys
  | [], [], _, _, _ => rfl
  | [], _ :: _, _, _, e => absurd e (by simp [PyData.eqvAll])
  | _ :: _, [], _, _, e => absurd e (by simp [PyData.eqvAll])
  | x :: xs, y :: ys, h0, h, e => by
    have a : tame x = true ∧ tameAll xs = true := by simpa [tameAll] using h0
    have b : tame y = true ∧ tameAll ys = true := by simpa [tameAll] using h
    have c : PyData.eqv x y = true ∧ PyData.eqvAll xs ys = true := by simpa [PyData.eqvAll] using e
    rw [eqv_tame x y a.1 b.1 c.1, eqvAll_tame xs ys a.2 b.2 c.2]
end
mutual
theorem plt_toks : ∀ x y : PyData, tame x = true → tame y = true → cmpb x y = true → PyData.eqv x y = false → ∀ l m, lexLt itemOrd (keyToks x ++ l) (keyToks y ++ m) = plt x y
  | .int a, y, _, _, c, e, l, m => by
    cases y with
    | int b =>
      rw [(toks_eqv (.int a) (.int b) rfl).2 e l m]
      simp only [plt]
      exact dataLt_int a b
    | _ => exact absurd c (by simp [cmpb])
  | .str a, y, _, _, c, e, l, m => by
    cases y with
    | str b =>
      rw [(toks_eqv (.str a) (.str b) rfl).2 e l m]
      simp only [plt]
      exact dataLt_str a b
    | _ => exact absurd c (by simp [cmpb])
  | .tuple xs, y, h0, h, c, e, l, m => by
    cases y with
    | tuple ys =>
      simp only [keyToks, plt]
      exact pltAll_toks xs ys (by simpa [tame] using h0) (by simpa [tame] using h) (by simpa [cmpb] using c) (by simpa [PyData.eqv] using e) l m
    | _ => exact absurd c (by simp [cmpb])
  | .none, _, h, _, _, _, _, _ => absurd h (by simp [tame])
  | .bool _, _, h, _, _, _, _, _ => absurd h (by simp [tame])
  | .list _, _, h, _, _, _, _, _ => absurd h (by simp [tame])
  | .dict _, _, h, _, _, _, _, _ => absurd h (by simp [tame])
theorem pltAll_toks : ∀ xs ys : List PyData, tameAll xs = true → tameAll ys = true → cmpAll xs ys = true → PyData.eqvAll xs ys = false → ∀ l m, lexLt itemOrd (keyToksAll xs ++ l) (keyToksAll ys ++ m) = pltAll xs ys
  | [], [], _, _, _, e, _, _ => absurd e (by simp [PyData.eqvAll])
  | [], y :: ys, _, _, _, _, l, m => by
    simp only [keyToksAll, List.cons_append, List.nil_append, pltAll]
    rw [lex_diff (O := itemOrd) (by simp)]
    simp [itemLt]
  | x :: xs, [], _, _, _, _, l, m => by
    simp only [keyToksAll, List.cons_append, List.nil_append, pltAll]
    rw [lex_diff (O := itemOrd) (by simp)]
    simp [itemLt]
  | x :: xs, y :: ys, h0, h, c, e, l, m => by
    have a : tame x = true ∧ tameAll xs = true := by simpa [tameAll] using h0
    have b : tame y = true ∧ tameAll ys = true := by simpa [tameAll] using h
    rw [toks_all_cons, toks_all_cons]
    simp only [List.cons_append, List.append_assoc]
    rw [eqv_all_cons] at e
    simp only [cmpAll] at c
    simp only [pltAll]
    rw [lex_self (O := itemOrd)]
    cases hx : PyData.eqv x y with
    | true =>
      rw [hx, Bool.true_and] at e
      rw [hx, if_pos rfl] at c
      rw [if_pos rfl, eqv_tame x y a.1 b.1 hx, lex_pre]
      exact pltAll_toks xs ys a.2 b.2 c e l m
    | false =>
      rw [hx, if_neg Bool.false_ne_true] at c
      rw [if_neg Bool.false_ne_true]
      exact plt_toks x y a.1 b.1 c hx _ _
end
mutual
theorem plt_irr : ∀ x : PyData, plt x x = false
  | .int a => by simp [plt]
  | .str a => by simp [plt]
  | .tuple xs => by simp only [plt]; exact pltAll_irr xs
  | .none => by simp [plt]
  | .bool _ => by simp [plt]
  | .list _ => by simp [plt]
  | .dict _ => by simp [plt]
theorem pltAll_irr : ∀ xs : List PyData, pltAll xs xs = false
  | [] => by simp [pltAll]
  | x :: xs => by
    simp only [pltAll]
    rw [plt_irr x, pltAll_irr xs]
    split <;> rfl
end
theorem plt_lex {x y : PyData} (h0 : tame x = true) (h : tame y = true) (c : cmpb x y = true) : plt x y = dataLt x y := by
  cases e : PyData.eqv x y with
  | true =>
    rw [eqv_tame x y h0 h e, plt_irr]
    exact (lex_irrefl (O := itemOrd) _).symm
  | false =>
    have t := plt_toks x y h0 h c e [] []
    rw [List.append_nil, List.append_nil] at t
    exact t.symm
/-- the order of tokens is a strict weak one -/
theorem swo_data {α : Type} (enc : α → PyData) : Swo fun a b => dataLt (enc a) (enc b) := by
  refine ⟨fun x y h => ?_, fun x y z h1 h2 => ?_⟩
  · show dataLt (enc y) (enc x) = false
    cases e : dataLt (enc y) (enc x) with
    | false => rfl
    | true =>
      have t := lex_trans (O := itemOrd) _ _ _ h e
      rw [lex_irrefl] at t
      exact absurd t Bool.false_ne_true
  · show dataLt (enc z) (enc x) = false
    cases e : dataLt (enc z) (enc x) with
    | false => rfl
    | true =>
      rcases lex_negTrans (O := itemOrd) _ (keyToks (enc y)) _ e with q | q
      · have q2 : dataLt (enc z) (enc y) = true := q
        rw [q2] at h2
        exact absurd h2 (by simp)
      · have q2 : dataLt (enc y) (enc x) = true := q
        rw [q2] at h1
        exact absurd h1 (by simp)
mutual
theorem eqv_refl_tame : ∀ x : PyData, tame x = true → PyData.eqv x x = true
  | .int a, _ => by simp [PyData.eqv]
  | .str a, _ => by simp [PyData.eqv]
  | .tuple xs, h => by
    simp only [PyData.eqv]
    exact eqvAll_refl_tame xs (by simpa [tame] using h)
  | .none, h => absurd h (by simp [tame])
  | .bool _, h => absurd h (by simp [tame])
  | .list _, h => absurd h (by simp [tame])
  | .dict _, h => absurd h (by simp [tame])
theorem eqvAll_refl_tame : ∀ xs : List PyData, tameAll xs = true → PyData.eqvAll xs xs = true
  | [], _ => by simp [PyData.eqvAll]
  | x :: xs, h => by
    have a : tame x = true ∧ tameAll xs = true := by simpa [tameAll] using h
    rw [eqv_all_cons, eqv_refl_tame x a.1, eqvAll_refl_tame xs a.2]
    rfl
end
theorem eqv_sym {x y : PyData} (h0 : tame x = true) (h : tame y = true) (e : PyData.eqv x y = false) : PyData.eqv y x = false := by
  cases q : PyData.eqv y x with
  | false => rfl
  | true =>
    rw [eqv_tame y x h h0 q, eqv_refl_tame x h0] at e
    exact absurd e (by simp)
mutual
/-- of two that differ one is less -/
theorem plt_tot : ∀ x y : PyData, tame x = true → tame y = true → cmpb x y = true → cmpb y x = true → PyData.eqv x y = false → (plt x y || plt y x) = true
  | .int a, y, _, _, c, _, e => by
    cases y with
    | int b =>
      simp only [plt, Bool.or_eq_true, decide_eq_true_eq]
      have : a ≠ b := by simpa [PyData.eqv] using e
      omega
    | _ => exact absurd c (by simp [cmpb])
  | .str a, y, h0, h, c, c2, e => by
    cases y with
    | str b =>
      rw [plt_lex h0 h c, plt_lex h h0 c2]
      cases q1 : dataLt (.str a) (.str b) with
      | true => rfl
      | false =>
        cases q2 : dataLt (.str b) (.str a) with
        | true => rfl
        | false =>
          have k : keyToks (.str a) = keyToks (.str b) := lex_total (O := itemOrd) _ _ q1 q2
          simp only [keyToks, List.cons.injEq, Sum.inr.injEq, and_true] at k
          rw [str_of_cps k] at e
          exact absurd e (by simp [PyData.eqv])
    | _ => exact absurd c (by simp [cmpb])
  | .tuple xs, y, h0, h, c, c2, e => by
    cases y with
    | tuple ys =>
      simp only [plt]
      exact pltAll_tot xs ys (by simpa [tame] using h0) (by simpa [tame] using h) (by simpa [cmpb] using c) (by simpa [cmpb] using c2) (by simpa [PyData.eqv] using e)
    | _ => exact absurd c (by simp [cmpb])
  | .none, _, h, _, _, _, _ => absurd h (by simp [tame])
  | .bool _, _, h, _, _, _, _ => absurd h (by simp [tame])
  | .list _, _, h, _, _, _, _ => absurd h (by simp [tame])
  | .dict _, _, h, _, _, _, _ => absurd h (by simp [tame])
theorem pltAll_tot : ∀ xs ys : List PyData, tameAll xs = true → tameAll ys = true → cmpAll xs ys = true → cmpAll ys xs = true → PyData.eqvAll xs ys = false → (pltAll xs ys || pltAll ys xs) = true
  | [], [], _, _, _, _, e => absurd e (by simp [PyData.eqvAll])
  | [], y :: ys, _, _, _, _, _ => by simp [pltAll]
  | x :: xs, [], _, _, _, _, _ => by simp [pltAll]
  | x :: xs, y :: ys, h0, h, c, c2, e => by
    have a : tame x = true ∧ tameAll xs = true := by simpa [tameAll] using h0
    have b : tame y = true ∧ tameAll ys = true := by simpa [tameAll] using h
    rw [eqv_all_cons] at e
    simp only [cmpAll] at c c2
    simp only [pltAll]
    cases hx : PyData.eqv x y with
    | true =>
      have ex := eqv_tame x y a.1 b.1 hx
      subst ex
      rw [hx, Bool.true_and] at e
      rw [hx, if_pos rfl] at c c2
      rw [hx, if_pos rfl, if_pos rfl]
      exact pltAll_tot xs ys a.2 b.2 c c2 e
    | false =>
      have hy := eqv_sym a.1 b.1 hx
      rw [hx, if_neg Bool.false_ne_true] at c
      rw [hy, if_neg Bool.false_ne_true] at c2
      rw [hy, if_neg Bool.false_ne_true, if_neg Bool.false_ne_true]
      exact plt_tot x y a.1 b.1 c c2 hx
end
end Bw

namespace Bw.Ask

/-! ### askings, by themselves -/
inductive F (α : Type) where
  | it (a : α)
  | no (f : F α)
  | of (w : Bool) (l : List (F α))
variable {α : Type}
section
variable [DecidableEq α]
mutual
def decF : (a b : F α) → Decidable (a = b)
  | .it a, .it b => if h : a = b then .isTrue (by rw [h]) else .isFalse fun z => h (F.it.inj z)
  | .no a, .no b => match decF a b with
    | .isTrue h => .isTrue (by rw [h])
    | .isFalse h => .isFalse fun z => h (F.no.inj z)
  | .of w l, .of v m => if h : w = v then (match decL l m with
      | .isTrue e => .isTrue (by rw [h, e])
      | .isFalse e => .isFalse fun z => e (F.of.inj z).2) else .isFalse fun z => h (F.of.inj z).1
  | .it _, .no _ => .isFalse nofun
  | .it _, .of .. => .isFalse nofun
  | .no _, .it _ => .isFalse nofun
  | .no _, .of .. => .isFalse nofun
  | .of .., .it _ => .isFalse nofun
  | .of .., .no _ => .isFalse nofun
def decL : (a b : List (F α)) → Decidable (a = b)
  | [], [] => .isTrue rfl
  | [], _ :: _ => .isFalse nofun
  | _ :: _, [] => .isFalse nofun
  | a :: l, b :: m => match decF a b, decL l m with
    | .isTrue h, .isTrue e => .isTrue (by rw [h, e])
    | .isFalse h, _ => .isFalse fun z => h (List.cons.inj z).1
    | _, .isFalse e => .isFalse fun z => e (List.cons.inj z).2
end
instance : DecidableEq (F α) := decF
end
/-- negations driven to the items -/
def pushed : F α → Bool → F α
  | .it a, t => if t then .no (.it a) else .it a
  | .no f, t => pushed f (!t)
  | .of w l, t => .of (w != t) (l.map fun f => pushed f t)
def rowsOf (w : Bool) : F α → List (F α)
  | .of v l => if v = w then l else [.of v l]
  | f => [f]
def root (w : Bool) : F α → Prop
  | .of v _ => v = w
  | _ => False
theorem rowsOf_not {w : Bool} {f : F α} (h : ¬ root w f) : rowsOf w f = [f] := by
  cases f with
  | it a => rfl
  | no f => rfl
  | of v l => exact if_neg h
theorem rowsOf_of {w : Bool} {l : List (F α)} : rowsOf w (.of w l) = l := if_pos rfl
inductive Psh : F α → Prop
  | it (a : α) : Psh (.it a)
  | no (a : α) : Psh (.no (.it a))
  | of (w : Bool) {l : List (F α)} (h : ∀ f ∈ l, Psh f) : Psh (.of w l)
theorem psh_pushed (f : F α) (t : Bool) : Psh (pushed f t) := by
  induction f, t using pushed.induct with
  | case1 a => rw [pushed, if_pos rfl]; exact .no a
  | case2 a t h => rw [pushed, if_neg h]; exact .it a
  | case3 f t ih => rw [pushed]; exact ih
  | case4 w l t ih =>
    rw [pushed]
    refine .of _ fun f hf => ?_
    obtain ⟨g, hg, rfl⟩ := List.mem_map.mp hf
    exact ih g hg
theorem pushed_psh {f : F α} (h : Psh f) : pushed f false = f := by
  induction h with
  | it a => rw [pushed, if_neg Bool.false_ne_true]
  | no a =>
    rw [pushed]
    show pushed (.it a) true = _
    rw [pushed, if_pos rfl]
  | of w h ih =>
    rw [pushed]
    congr 1
    · cases w <;> rfl
    · rw [List.map_congr_left (g := id) fun f hf => ih f hf, List.map_id]
section
variable [DecidableEq α]
def uniq : List (F α) → List (F α) → List (F α)
  | acc, [] => acc
  | acc, r :: l => uniq (if r ∈ acc then acc else acc ++ [r]) l
def opened (w : Bool) (ms : List (F α)) : List (F α) := uniq [] (ms.flatMap (rowsOf w))
def needless (i : Bool) (m : F α) (ms : List (F α)) : Bool := match m with
  | .of v rows => v == i && ms.any fun o => decide (o ≠ m) && (rowsOf i o).all fun r => decide (r ∈ rows)
  | _ => false
def ended (le : F α → F α → Bool) (w : Bool) (ms : List (F α)) : F α :=
  if .of (!w) [] ∈ ms then .of (!w) [] else
    match ms.filter fun m => !needless (!w) m ms with
    | [k] => k
    | l => .of w (l.mergeSort le)
def put (le : F α → F α → Bool) : F α → F α
  | .of w l => ended le w (opened w (l.map fun f => put le f))
  | f => f
/-- another way of the same -/
def gather (z : F α) : List (F α) → List (F α) → Option (List (F α))
  | acc, [] => some acc
  | acc, r :: l => if r = z then none else gather z (if r ∈ acc then acc else acc ++ [r]) l
def says (i : Bool) (m : F α) (os : List (F α)) : Bool := match m with
  | .of v rows => v == i && os.any fun o => decide (o ∈ rows) || (match o with | .of u rs => u == i && (rs.filter fun r => decide (r ∉ rows)).isEmpty | _ => false)
  | _ => false
def ended2 (le : F α → F α → Bool) (w : Bool) (ms : List (F α)) : F α :=
  match ms.filter fun m => !says (!w) m (ms.filter fun o => decide (o ≠ m)) with
  | [k] => k
  | l => .of w (l.mergeSort le)
def put2 (le : F α → F α → Bool) : F α → F α
  | .of w l => match gather (.of (!w) []) [] ((l.map fun f => put2 le f).flatMap (rowsOf w)) with
    | none => .of (!w) []
    | some ms => ended2 le w ms
  | f => f
theorem mem_uniq {r : F α} : ∀ {l acc : List (F α)}, r ∈ uniq acc l ↔ r ∈ acc ∨ r ∈ l
  | [], acc => by simp [uniq]
  | x :: l, acc => by
    rw [uniq, mem_uniq]
    split
    · rename_i h
      constructor
      · rintro (h1 | h1)
        · exact .inl h1
        · exact .inr (.tail _ h1)
      · rintro (h1 | h1)
        · exact .inl h1
        · rcases List.mem_cons.mp h1 with rfl | h1
          · exact .inl h
          · exact .inr h1
    · simp only [List.mem_append, List.mem_cons, List.not_mem_nil, or_false, or_assoc]
theorem nodup_uniq : ∀ {l acc : List (F α)}, acc.Nodup → (uniq acc l).Nodup
  | [], acc, h => h
  | x :: l, acc, h => by
    rw [uniq]
    refine nodup_uniq ?_
    split
    · exact h
    · rename_i n
      rw [List.nodup_append]
      refine ⟨h, by simp, fun a ha b hb => ?_⟩
      rw [List.mem_singleton.mp hb]
      exact fun e => n (e ▸ ha)
theorem uniq_self : ∀ {l acc : List (F α)}, (acc ++ l).Nodup → uniq acc l = acc ++ l
  | [], acc, _ => by simp [uniq]
  | x :: l, acc, h => by
    have n : x ∉ acc := by
      have := (List.nodup_append.mp h).2.2
      exact fun hx => this x hx x (List.mem_cons_self ..) rfl
    rw [uniq, if_neg n, uniq_self (by simpa using h)]
    simp
theorem mem_opened {w : Bool} {ms : List (F α)} {r : F α} : r ∈ opened w ms ↔ ∃ m ∈ ms, r ∈ rowsOf w m := by
  unfold opened
  rw [mem_uniq]
  simp
theorem gather_none {z : F α} : ∀ {l acc : List (F α)}, z ∈ l → gather z acc l = none
  | [], _, h => nomatch h
  | x :: l, acc, h => by
    rw [gather]
    split
    · rfl
    · rename_i n
      rcases List.mem_cons.mp h with e | h
      · exact absurd e.symm n
      · exact gather_none h
theorem gather_some {z : F α} : ∀ {l acc : List (F α)}, z ∉ l → gather z acc l = some (uniq acc l)
  | [], _, h => rfl
  | x :: l, acc, h => by
    have n : x ≠ z := fun e => h (e ▸ List.mem_cons_self ..)
    rw [gather, if_neg n, gather_some fun e => h (.tail _ e), uniq]
/-- in normal form -/
inductive Nrm (le : F α → F α → Bool) : F α → Prop
  | it (a : α) : Nrm le (.it a)
  | no (a : α) : Nrm le (.no (.it a))
  | of (w : Bool) {l : List (F α)} (each : ∀ r ∈ l, Nrm le r) (rt : ∀ r ∈ l, ¬ root w r) (sorted : l.Pairwise fun a b => le a b = true) (nd : l.Nodup) (zero : .of (!w) [] ∉ l) (need : ∀ m ∈ l, needless (!w) m l = false) (len : l.length ≠ 1) : Nrm le (.of w l)
/-- the order is one -/
structure Ord (le : F α → F α → Bool) : Prop where
  trans : ∀ a b c, le a b = true → le b c = true → le a c = true
  total : ∀ a b, (le a b || le b a) = true
  anti : ∀ a b, le a b = true → le b a = true → a = b
variable {le : F α → F α → Bool}
theorem needless_mono {i : Bool} {m : F α} {l l' : List (F α)} (h : ∀ r ∈ l, r ∈ l') (n : needless i m l' = false) : needless i m l = false := by
  cases m with
  | it a => rfl
  | no f => rfl
  | of v rows =>
    rw [Bool.eq_false_iff] at n ⊢
    intro z
    refine n ?_
    unfold needless at z ⊢
    rw [Bool.and_eq_true, List.any_eq_true] at z ⊢
    exact ⟨z.1, z.2.imp fun o q => ⟨h o q.1, q.2⟩⟩
theorem opened_ok {w : Bool} {ms : List (F α)} (h : ∀ m ∈ ms, Nrm le m) : (∀ r ∈ opened w ms, Nrm le r ∧ ¬ root w r) ∧ (opened w ms).Nodup := by
  refine ⟨fun r hr => ?_, nodup_uniq List.nodup_nil⟩
  obtain ⟨m, hm, hr⟩ := mem_opened.mp hr
  cases h m hm with
  | it a =>
    cases List.mem_singleton.mp hr
    exact ⟨.it a, id⟩
  | no a =>
    cases List.mem_singleton.mp hr
    exact ⟨.no a, id⟩
  | of v each rt sorted nd zero need len =>
    by_cases e : v = w
    · subst e
      rw [rowsOf_of] at hr
      exact ⟨each r hr, rt r hr⟩
    · rw [rowsOf_not (f := .of v _) e] at hr
      cases List.mem_singleton.mp hr
      exact ⟨.of v each rt sorted nd zero need len, e⟩
theorem ended_nrm (O : Ord le) {w : Bool} {ms : List (F α)} (h : ∀ r ∈ ms, Nrm le r ∧ ¬ root w r) (nd : ms.Nodup) : Nrm le (ended le w ms) := by
  unfold ended
  split
  · exact .of _ (fun _ z => nomatch z) (fun _ z => nomatch z) .nil List.nodup_nil (fun z => nomatch z) (fun _ z => nomatch z) (by simp)
  · rename_i nz
    split
    · rename_i k e
      have : k ∈ ms.filter fun m => !needless (!w) m ms := by rw [e]; exact List.mem_cons_self ..
      exact (h k (List.mem_filter.mp this).1).1
    · rename_i l hl
      have sub : ∀ r ∈ (ms.filter fun m => !needless (!w) m ms).mergeSort le, r ∈ ms ∧ needless (!w) r ms = false := fun r hr => by
        have := List.mem_filter.mp ((List.mergeSort_perm _ le).mem_iff.mp hr)
        exact ⟨this.1, by simpa using this.2⟩
      refine .of w (fun r hr => (h r (sub r hr).1).1) (fun r hr => (h r (sub r hr).1).2) (List.pairwise_mergeSort O.trans O.total _) ((List.mergeSort_perm _ le).symm.nodup (nd.sublist List.filter_sublist)) (fun z => nz (sub _ z).1) (fun m hm => needless_mono (fun r hr => (sub r hr).1) (sub m hm).2) ?_
      rw [(List.mergeSort_perm _ le).length_eq]
      intro e
      obtain ⟨k, hk⟩ := List.length_eq_one_iff.mp e
      exact hl k hk
theorem put_nrm (O : Ord le) {f : F α} (h : Psh f) : Nrm le (put le f) := by
  induction h with
  | it a => rw [put]; exact .it a
            nofun
  | no a => rw [put]; exact .no a
            nofun
  | of w h ih =>
    rw [put]
    have ok := opened_ok (le := le) (w := w) (ms := List.map (fun f => put le f) _) fun m hm => by
      obtain ⟨g, hg, rfl⟩ := List.mem_map.mp hm
      exact ih g hg
    exact ended_nrm O ok.1 ok.2
/-- what is in normal form stays -/
theorem put_self {f : F α} (h : Nrm le f) : put le f = f := by
  induction h with
  | it a =>
    rw [put]
    nofun
  | no a =>
    rw [put]
    nofun
  | @of w l each rt sorted nd zero need len ih =>
    have e1 : (l.map fun f => put le f) = l := by rw [List.map_congr_left (g := id) fun f hf => ih f hf, List.map_id]
    have e2 : l.flatMap (rowsOf w) = l := by
      have : ∀ l' : List (F α), (∀ r ∈ l', ¬ root w r) → l'.flatMap (rowsOf w) = l' := fun l' => by
        induction l' with
        | nil => exact fun _ => rfl
        | cons x r ih2 =>
          intro hh
          rw [List.flatMap_cons, rowsOf_not (hh x (List.mem_cons_self ..)), ih2 fun y hy => hh y (.tail _ hy)]
          rfl
      exact this l rt
    have e3 : opened w l = l := by
      unfold opened
      rw [e2, uniq_self (by simpa using nd)]
      rfl
    rw [put, e1, e3]
    unfold ended
    rw [if_neg zero]
    have e4 : (l.filter fun m => !needless (!w) m l) = l := List.filter_eq_self.mpr fun m hm => by rw [need m hm]; rfl
    rw [e4]
    split
    · exact absurd rfl len
    · rw [List.mergeSort_of_pairwise sorted]
theorem needless_of {i : Bool} {rows ms : List (F α)} : needless i (.of i rows) ms = true ↔ ∃ o ∈ ms, o ≠ .of i rows ∧ ∀ r ∈ rowsOf i o, r ∈ rows := by
  unfold needless
  simp
theorem says_eq {w : Bool} {ms : List (F α)} (h : ∀ r ∈ ms, Nrm le r ∧ ¬ root w r) {m : F α} (hm : m ∈ ms) : says (!w) m (ms.filter fun o => decide (o ≠ m)) = needless (!w) m ms := by
  cases m with
  | it a => rfl
  | no f => rfl
  | of v rows =>
    by_cases e : v = !w
    · subst e
      have rt : ∀ r ∈ rows, ¬ root (!w) r := by
        cases (h _ hm).1 with
        | of _ each rt sorted nd zero need len => exact rt
      rw [Bool.eq_iff_iff, needless_of]
      unfold says
      simp only [beq_self_eq_true, Bool.true_and, List.any_eq_true, List.mem_filter, decide_eq_true_eq, Bool.or_eq_true]
      constructor
      · rintro ⟨o, ⟨ho, ne⟩, q⟩
        refine ⟨o, ho, ne, fun r hr => ?_⟩
        by_cases ro : root (!w) o
        · rcases q with q | q
          · exact absurd ro (rt o q)
          · cases o with
            | it a => exact ro.elim
            | no f => exact ro.elim
            | of u rs =>
              have ru : u = !w := ro
              subst ru
              rw [rowsOf_of] at hr
              simp only [beq_self_eq_true, Bool.true_and, List.isEmpty_iff, List.filter_eq_nil_iff, decide_eq_true_eq, Classical.not_not] at q
              exact q r hr
        · rw [rowsOf_not ro] at hr
          rw [List.mem_singleton.mp hr]
          rcases q with q | q
          · exact q
          · cases o with
            | it a => exact nomatch q
            | no f => exact nomatch q
            | of u rs =>
              have ru : ¬ u = !w := ro
              simp [ru] at q
      · rintro ⟨o, ho, ne, q⟩
        refine ⟨o, ⟨ho, ne⟩, ?_⟩
        by_cases ro : root (!w) o
        · cases o with
          | it a => exact ro.elim
          | no f => exact ro.elim
          | of u rs =>
            have ru : u = !w := ro
            subst ru
            rw [rowsOf_of] at q
            refine .inr ?_
            simp only [beq_self_eq_true, Bool.true_and, List.isEmpty_iff, List.filter_eq_nil_iff, decide_eq_true_eq, Classical.not_not]
            exact q
        · rw [rowsOf_not ro] at q
          exact .inl (q o (List.mem_cons_self ..))
    · unfold says needless
      have : (v == !w) = false := by
        rw [beq_eq_false_iff_ne]
        exact e
      dsimp only
      rw [this]
      rfl
/-- both ways of putting right are one -/
theorem put2_eq (O : Ord le) {f : F α} (h : Psh f) : put2 le f = put le f := by
  induction h with
  | it a => rw [put, put2] <;> nofun
  | no a => rw [put, put2] <;> nofun
  | @of w l h ih =>
    rw [put, put2]
    rw [List.map_congr_left fun f hf => ih f hf]
    have ok := opened_ok (le := le) (w := w) (ms := List.map (fun f => put le f) l) fun m hm => by
      obtain ⟨g, hg, rfl⟩ := List.mem_map.mp hm
      exact put_nrm O (h g hg)
    by_cases hz : F.of (!w) [] ∈ (l.map fun f => put le f).flatMap (rowsOf w)
    · rw [gather_none hz]
      unfold ended
      rw [if_pos]
      unfold opened
      exact mem_uniq.mpr (.inr hz)
    · rw [gather_some hz]
      show ended2 le w (opened w _) = _
      unfold ended ended2
      rw [if_neg]
      · have : ((opened w (l.map fun f => put le f)).filter fun m => !says (!w) m ((opened w (l.map fun f => put le f)).filter fun o => decide (o ≠ m))) = (opened w (l.map fun f => put le f)).filter fun m => !needless (!w) m (opened w (l.map fun f => put le f)) :=
          List.filter_congr fun m hm => by rw [says_eq (le := le) ok.1 hm]
        rw [this]
      · unfold opened
        intro z
        rcases mem_uniq.mp z with z | z
        · exact nomatch z
        · exact hz z
end
/-! ### three values -/
inductive V3 where
  | fls | unk | tru
deriving DecidableEq
def V3.neg : V3 → V3
  | .fls => .tru
  | .unk => .unk
  | .tru => .fls
def strong (w : Bool) : V3 := if w then .fls else .tru
/-- how far a value stands from the strong one -/
def rk (w : Bool) : V3 → Nat
  | .unk => 1
  | .fls => if w then 0 else 2
  | .tru => if w then 2 else 0
def jn (w : Bool) (l : List V3) : V3 := if strong w ∈ l then strong w else if V3.unk ∈ l then .unk else (strong w).neg
theorem rk_le (w : Bool) (v : V3) : rk w v ≤ 2 := by cases w <;> cases v <;> decide
theorem rk_inj {w : Bool} {v u : V3} (h : rk w v = rk w u) : v = u := by
  cases w <;> cases v <;> cases u <;> first | rfl | exact absurd h (by decide)
theorem rk_not (w : Bool) (v : V3) : rk (!w) v = 2 - rk w v := by cases w <;> cases v <;> rfl
theorem rk_neg (w : Bool) (v : V3) : rk w v.neg = 2 - rk w v := by cases w <;> cases v <;> rfl
theorem rk_zero {w : Bool} {v : V3} : rk w v = 0 ↔ v = strong w := by cases w <;> cases v <;> decide
theorem rk_one {w : Bool} {v : V3} : rk w v = 1 ↔ v = .unk := by cases w <;> cases v <;> decide
theorem jn_ge {w : Bool} {l : List V3} {k : Nat} (hk : k ≤ 2) : k ≤ rk w (jn w l) ↔ ∀ v ∈ l, k ≤ rk w v := by
  unfold jn
  by_cases h1 : strong w ∈ l
  · rw [if_pos h1, rk_zero.mpr rfl]
    constructor
    · intro z
      rw [Nat.le_zero.mp z]
      exact fun _ _ => Nat.zero_le _
    · intro z
      have := z _ h1
      rwa [rk_zero.mpr rfl] at this
  · rw [if_neg h1]
    have pos : ∀ v ∈ l, 1 ≤ rk w v := fun v hv => Nat.pos_of_ne_zero fun e => h1 (rk_zero.mp e ▸ hv)
    by_cases h2 : V3.unk ∈ l
    · rw [if_pos h2, rk_one.mpr rfl]
      constructor
      · exact fun z v hv => Nat.le_trans z (pos v hv)
      · intro z
        have := z _ h2
        rwa [rk_one.mpr rfl] at this
    · rw [if_neg h2]
      have e : rk w (strong w).neg = 2 := by rw [rk_neg, rk_zero.mpr rfl]
      rw [e]
      refine ⟨fun z v hv => ?_, fun _ => hk⟩
      have h3 : rk w v ≠ 1 := fun e => h2 (rk_one.mp e ▸ hv)
      have h4 := pos v hv
      have h5 := rk_le w v
      omega
theorem same_rk {w : Bool} {u v : V3} (h : ∀ k, k ≤ 2 → (k ≤ rk w u ↔ k ≤ rk w v)) : u = v :=
  rk_inj (Nat.le_antisymm ((h _ (rk_le w u)).mp (Nat.le_refl _)) ((h _ (rk_le w v)).mpr (Nat.le_refl _)))
def ev (ρ : α → V3) : F α → V3
  | .it a => ρ a
  | .no f => (ev ρ f).neg
  | .of w l => jn w (l.map fun f => ev ρ f)
theorem neg_neg (v : V3) : v.neg.neg = v := by cases v <;> rfl
theorem jn_neg (w : Bool) (l : List V3) : jn (!w) (l.map V3.neg) = (jn w l).neg := by
  have e : ∀ (w : Bool), strong (!w) = (strong w).neg := by decide
  have m : ∀ v : V3, v.neg ∈ l.map V3.neg ↔ v ∈ l := fun v => by
    rw [List.mem_map]
    constructor
    · rintro ⟨u, hu, q⟩
      have : u = v := by rw [← neg_neg u, q, neg_neg]
      exact this ▸ hu
    · exact fun h => ⟨v, h, rfl⟩
  have m1 : (strong (!w) ∈ l.map V3.neg) = (strong w ∈ l) := by rw [e]; exact propext (m _)
  have m2 : (V3.unk ∈ l.map V3.neg) = (V3.unk ∈ l) := propext (m .unk)
  unfold jn
  simp only [m1, m2]
  split
  · exact e w
  · split
    · rfl
    · rw [e]
theorem ev_pushed (ρ : α → V3) (f : F α) (t : Bool) : ev ρ (pushed f t) = if t then (ev ρ f).neg else ev ρ f := by
  induction f, t using pushed.induct with
  | case1 a =>
    rw [pushed, if_pos rfl, if_pos rfl]
    simp only [ev]
  | case2 a t h => rw [pushed, if_neg h, if_neg h]
  | case3 f t ih =>
    rw [pushed, ih, ev]
    cases t
    · rfl
    · exact (neg_neg _).symm
  | case4 w l t ih =>
    rw [pushed, ev, ev, List.map_map]
    show jn _ (l.map fun f => ev ρ (pushed f t)) = _
    rw [List.map_congr_left (g := fun f => if t then (ev ρ f).neg else ev ρ f) fun f hf => ih f hf]
    cases t
    · show jn (w != false) _ = _
      have : (w != false) = w := by cases w <;> rfl
      rw [this]
      rfl
    · show jn (w != true) (l.map fun f => (ev ρ f).neg) = (jn w (l.map fun f => ev ρ f)).neg
      have : (w != true) = !w := by cases w <;> rfl
      rw [this, ← jn_neg, List.map_map]
      rfl
section
variable [DecidableEq α] {le : F α → F α → Bool}
theorem rk_rows {ρ : α → V3} {w : Bool} {f : F α} {k : Nat} (hk : k ≤ 2) : k ≤ rk w (ev ρ f) ↔ ∀ r ∈ rowsOf w f, k ≤ rk w (ev ρ r) := by
  by_cases h : root w f
  · cases f with
    | it a => exact h.elim
    | no f => exact h.elim
    | of v l =>
      have e : v = w := h
      subst e
      rw [rowsOf_of, ev, jn_ge hk]
      simp
  · rw [rowsOf_not h]
    simp
theorem strict_rows {a b : List (F α)} (O : Ord le) (ha : a.Pairwise fun x y => le x y = true) (na : a.Nodup) (hb : b.Pairwise fun x y => le x y = true) (nb : b.Nodup) (sub : ∀ r ∈ a, r ∈ b) (ne : a ≠ b) : a.length < b.length := by
  have h1 : a.length ≤ b.length := na.length_le_of_subset sub
  refine Nat.lt_of_le_of_ne h1 fun e => ne ?_
  have p : a.Perm b := by
    refine (List.perm_ext_iff_of_nodup na nb).mpr fun r => ⟨sub r, fun hr => ?_⟩
    refine Classical.byContradiction fun n => ?_
    have : (r :: a).length ≤ b.length := List.Nodup.length_le_of_subset (List.nodup_cons.mpr ⟨n, na⟩) fun x hx => by
      rcases List.mem_cons.mp hx with rfl | hx
      · exact hr
      · exact sub x hx
    simp at this
    omega
  exact p.eq_of_pairwise (fun x y _ _ h1 h2 => O.anti x y h1 h2) ha hb
/-- of what is left out, something lesser is kept -/
theorem kept_below (O : Ord le) {i : Bool} {ms : List (F α)} (h : ∀ r ∈ ms, Nrm le r) : ∀ (n : Nat) (rows : List (F α)), rows.length ≤ n → F.of i rows ∈ ms → ∃ o ∈ ms, needless i o ms = false ∧ ∀ r ∈ rowsOf i o, r ∈ rows
  | n, rows, hn, hm => by
    by_cases nd : needless i (.of i rows) ms = true
    · obtain ⟨o, ho, ne, sub⟩ := needless_of.mp nd
      by_cases ro : root i o
      · cases o with
        | it a => exact ro.elim
        | no f => exact ro.elim
        | of u rs =>
          have ru : u = i := ro
          subst ru
          rw [rowsOf_of] at sub
          have lt : rs.length < rows.length := by
            cases h _ ho with
            | of _ _ _ s1 n1 _ _ _ =>
              cases h _ hm with
              | of _ _ _ s2 n2 _ _ _ => exact strict_rows O s1 n1 s2 n2 sub fun e => ne (by rw [e])
          match n, hn with
          | 0, hn => omega
          | n + 1, hn =>
            obtain ⟨p, hp, k1, k2⟩ := kept_below O h n rs (by omega) ho
            exact ⟨p, hp, k1, fun r hr => sub r (k2 r hr)⟩
      · refine ⟨o, ho, ?_, sub⟩
        cases o with
        | it a => rfl
        | no f => rfl
        | of u rs =>
          unfold needless
          have : (u == i) = false := by
            rw [beq_eq_false_iff_ne]
            exact ro
          dsimp only
          rw [this]
          rfl
    · exact ⟨_, hm, by simpa using nd, fun r hr => by rwa [rowsOf_of] at hr⟩
theorem ev_ended (O : Ord le) {ρ : α → V3} {w : Bool} {ms : List (F α)} (h : ∀ r ∈ ms, Nrm le r) : ev ρ (ended le w ms) = jn w (ms.map fun f => ev ρ f) := by
  refine same_rk (w := w) fun k hk => ?_
  rw [jn_ge hk]
  have am : (∀ v ∈ ms.map (fun f => ev ρ f), k ≤ rk w v) ↔ ∀ r ∈ ms, k ≤ rk w (ev ρ r) := by simp
  rw [am]
  unfold ended
  split
  · rename_i hz
    have e0 : ev ρ (F.of (!w) []) = strong w := by
      rw [ev]
      cases w <;> rfl
    rw [e0, rk_zero.mpr rfl]
    constructor
    · intro z r _
      rw [Nat.le_zero.mp z]
      exact Nat.zero_le _
    · intro z
      have := z _ hz
      rwa [e0, rk_zero.mpr rfl] at this
  · have low : (∀ r ∈ ms, k ≤ rk w (ev ρ r)) ↔ ∀ r ∈ ms.filter (fun m => !needless (!w) m ms), k ≤ rk w (ev ρ r) := by
      refine ⟨fun z r hr => z r (List.mem_filter.mp hr).1, fun z r hr => ?_⟩
      by_cases nd : needless (!w) r ms = true
      · cases r with
        | it a => exact nomatch nd
        | no f => exact nomatch nd
        | of v rows =>
          have hv : v = !w := by
            unfold needless at nd
            rw [Bool.and_eq_true] at nd
            exact eq_of_beq nd.1
          subst hv
          obtain ⟨o, ho, k1, k2⟩ := kept_below O h rows.length rows (Nat.le_refl _) hr
          refine Nat.le_trans (z o (List.mem_filter.mpr ⟨ho, by rw [k1]; rfl⟩)) ?_
          have up : rk (!w) (ev ρ (.of (!w) rows)) ≤ rk (!w) (ev ρ o) := by
            refine (rk_rows (rk_le _ _)).mpr fun r hr2 => ?_
            have q := (rk_rows (ρ := ρ) (w := !w) (f := .of (!w) rows) (k := rk (!w) (ev ρ (.of (!w) rows))) (rk_le _ _)).mp (Nat.le_refl _)
            rw [rowsOf_of] at q
            exact q r (k2 r hr2)
          rw [rk_not, rk_not] at up
          have := rk_le w (ev ρ o)
          have := rk_le w (ev ρ (.of (!w) rows))
          omega
      · exact z r (List.mem_filter.mpr ⟨hr, by simpa using nd⟩)
    rw [low]
    split
    · rename_i x e
      rw [e]
      simp
    · rename_i x l
      rw [ev, jn_ge hk]
      constructor
      · intro z r hr
        exact z _ (List.mem_map.mpr ⟨r, (List.mergeSort_perm _ le).mem_iff.mpr hr, rfl⟩)
      · intro z v hv
        obtain ⟨r, hr, rfl⟩ := List.mem_map.mp hv
        exact z r ((List.mergeSort_perm _ le).mem_iff.mp hr)
theorem ev_put (O : Ord le) {ρ : α → V3} {f : F α} (h : Psh f) : ev ρ (put le f) = ev ρ f := by
  induction h with
  | it a => rw [put] <;> nofun
  | no a => rw [put] <;> nofun
  | @of w l h ih =>
    rw [put]
    have ok := opened_ok (le := le) (w := w) (ms := List.map (fun f => put le f) l) fun m hm => by
      obtain ⟨g, hg, rfl⟩ := List.mem_map.mp hm
      exact put_nrm O (h g hg)
    rw [ev_ended O fun r hr => (ok.1 r hr).1, ev]
    refine same_rk (w := w) fun k hk => ?_
    rw [jn_ge hk, jn_ge hk]
    constructor
    · intro z v hv
      obtain ⟨f, hf, rfl⟩ := List.mem_map.mp hv
      rw [← ih f hf]
      refine (rk_rows hk).mpr fun r hr => z _ (List.mem_map.mpr ⟨r, mem_opened.mpr ⟨_, List.mem_map.mpr ⟨f, hf, rfl⟩, hr⟩, rfl⟩)
    · intro z v hv
      obtain ⟨r, hr, rfl⟩ := List.mem_map.mp hv
      obtain ⟨m, hm, hr⟩ := mem_opened.mp hr
      obtain ⟨f, hf, rfl⟩ := List.mem_map.mp hm
      have := z _ (List.mem_map.mpr ⟨f, hf, rfl⟩)
      rw [← ih f hf] at this
      exact (rk_rows hk).mp this r hr
end
end Bw.Ask

namespace Bw.Ask
open PySem PySem.Spec PySem.W PySem.Calls PyProof.Rows PySem.SeqAt SrtO

/-! ### askings as data -/
inductive Itm where
  | has (x : Str)
  | is (x y : Str)
  | cls (x : Str)
  | within (n : Int)
deriving DecidableEq
def encI : Itm → PyData
  | .has x => .tuple [.str "has", .str x]
  | .is x y => .tuple [.str "is", .str x, .str y]
  | .cls x => .tuple [.str "class", .str x]
  | .within n => .tuple [.str "within", .int n]
def wrd (w : Bool) : Str := if w then "and" else "or"
def enc : F Itm → PyData
  | .it a => encI a
  | .no f => .tuple [.str "not", enc f]
  | .of w l => .tuple [.str (wrd w), .tuple (l.map fun f => enc f)]
def first : F Itm → Str
  | .it (.has _) => "has"
  | .it (.is ..) => "is"
  | .it (.cls _) => "class"
  | .it (.within _) => "within"
  | .no _ => "not"
  | .of w _ => wrd w
theorem enc_first (f : F Itm) : ∃ r, enc f = .tuple (.str (first f) :: r) := by
  match f with
  | .it (.has x) => exact ⟨_, by rw [enc, encI]; rfl⟩
  | .it (.is x y) => exact ⟨_, by rw [enc, encI]; rfl⟩
  | .it (.cls x) => exact ⟨_, by rw [enc, encI]; rfl⟩
  | .it (.within n) => exact ⟨_, by rw [enc, encI]; rfl⟩
  | .no f => exact ⟨_, by rw [enc]; rfl⟩
  | .of w l => exact ⟨_, by rw [enc]; rfl⟩
theorem tameAll_of {l : List PyData} (h : ∀ x ∈ l, tame x = true) : tameAll l = true := by
  induction l with
  | nil => rfl
  | cons x r ih =>
    simp only [tameAll, Bool.and_eq_true]
    exact ⟨h x (List.mem_cons_self ..), ih fun y hy => h y (.tail _ hy)⟩
theorem tame_enc (f : F Itm) : tame (enc f) = true := by
  induction f using enc.induct with
  | case1 a => rw [enc]; cases a <;> simp [encI, tame, tameAll]
  | case2 f ih => rw [enc]; simp [tame, tameAll, ih]
  | case3 w l ih =>
    rw [enc]
    simp only [tame, tameAll, Bool.true_and, Bool.and_true]
    refine tameAll_of fun x hx => ?_
    obtain ⟨f, hf, rfl⟩ := List.mem_map.mp hx
    exact ih f hf
theorem map_inj {l m : List (F Itm)} (ih : ∀ f ∈ l, ∀ g, enc f = enc g → f = g) (h : (l.map fun f => enc f) = m.map fun f => enc f) : l = m := by
  induction l generalizing m with
  | nil =>
    cases m with
    | nil => rfl
    | cons y m => exact nomatch h
  | cons x l ih2 =>
    cases m with
    | nil => exact nomatch h
    | cons y m =>
      rw [List.map_cons, List.map_cons] at h
      obtain ⟨e1, e2⟩ := List.cons.inj h
      rw [ih x (List.mem_cons_self ..) y e1, ih2 (fun f hf => ih f (.tail _ hf)) e2]
theorem wrd_inj {w v : Bool} (h : wrd w = wrd v) : w = v := by
  cases w <;> cases v <;> first | rfl | exact absurd h (by decide +kernel)
theorem wrd_ne (w : Bool) : wrd w ≠ "has" ∧ wrd w ≠ "is" ∧ wrd w ≠ "class" ∧ wrd w ≠ "within" ∧ wrd w ≠ "not" := by
  cases w <;> decide +kernel
theorem first_of {f g : F Itm} (h : enc f = enc g) : first f = first g := by
  obtain ⟨r, e1⟩ := enc_first f
  obtain ⟨q, e2⟩ := enc_first g
  rw [e1, e2] at h
  exact PyData.str.inj (List.cons.inj (PyData.tuple.inj h)).1
theorem enc_inj (f : F Itm) : ∀ g, enc f = enc g → f = g := by
  induction f using enc.induct with
  | case1 a =>
    intro g h
    have fw := first_of h
    cases g with
    | it b =>
      rw [enc, enc] at h
      cases a <;> cases b <;> first | (simp only [first] at fw; exact absurd fw (by decide +kernel)) | (simp only [encI, PyData.tuple.injEq, List.cons.injEq, PyData.str.injEq, PyData.int.injEq, and_true, true_and] at h; simp [h])
    | no g => cases a <;> (simp only [first] at fw; exact absurd fw (by decide +kernel))
    | of w l =>
      have n := wrd_ne w
      cases a
      · exact absurd fw.symm n.1
      · exact absurd fw.symm n.2.1
      · exact absurd fw.symm n.2.2.1
      · exact absurd fw.symm n.2.2.2.1
  | case2 f ih =>
    intro g h
    have fw := first_of h
    cases g with
    | it b => cases b <;> (simp only [first] at fw; exact absurd fw (by decide +kernel))
    | no g =>
      rw [enc, enc] at h
      simp only [PyData.tuple.injEq, List.cons.injEq, and_true, true_and] at h
      rw [ih g h]
    | of w l => exact absurd fw.symm (wrd_ne w).2.2.2.2
  | case3 w l ih =>
    intro g h
    have fw := first_of h
    have n := wrd_ne w
    cases g with
    | it b =>
      cases b
      · exact absurd fw n.1
      · exact absurd fw n.2.1
      · exact absurd fw n.2.2.1
      · exact absurd fw n.2.2.2.1
    | no g => exact absurd fw n.2.2.2.2
    | of v m =>
      rw [enc, enc] at h
      simp only [PyData.tuple.injEq, List.cons.injEq, PyData.str.injEq, and_true] at h
      rw [wrd_inj h.1, map_inj ih h.2]
theorem eqv_enc (f g : F Itm) : PyData.eqv (enc f) (enc g) = decide (f = g) := by
  by_cases e : f = g
  · rw [e, decide_eq_true rfl]
    exact eqv_refl_tame _ (tame_enc g)
  · rw [decide_eq_false e]
    cases q : PyData.eqv (enc f) (enc g) with
    | false => rfl
    | true => exact absurd (enc_inj f g (eqv_tame _ _ (tame_enc f) (tame_enc g) q)) e
theorem cmpAll_map {l : List (F Itm)} (ih : ∀ f ∈ l, ∀ g, cmpb (enc f) (enc g) = true) : ∀ m : List (F Itm), cmpAll (l.map fun f => enc f) (m.map fun f => enc f) = true := by
  induction l with
  | nil =>
    intro m
    cases m <;> simp [cmpAll]
  | cons x l ih2 =>
    intro m
    cases m with
    | nil => simp [cmpAll]
    | cons y m =>
      simp only [List.map_cons, cmpAll]
      split
      · exact ih2 (fun f hf => ih f (.tail _ hf)) m
      · exact ih x (List.mem_cons_self ..) y
theorem str_eqv (x y : Str) : PyData.eqv (.str x) (.str y) = decide (x = y) := by
  by_cases e : x = y
  · rw [e]
    simp [PyData.eqv]
  · rw [decide_eq_false e]
    simpa [PyData.eqv] using e
theorem cmp_words {x y : Str} {r q : List PyData} (h : x = y → cmpAll r q = true) : cmpb (.tuple (.str x :: r)) (.tuple (.str y :: q)) = true := by
  simp only [cmpb, cmpAll, str_eqv]
  by_cases e : x = y
  · rw [if_pos (by rw [e]; simp)]
    exact h e
  · rw [if_neg (by simpa using e)]
theorem cmp_enc (f : F Itm) : ∀ g, cmpb (enc f) (enc g) = true := by
  induction f using enc.induct with
  | case1 a =>
    intro g
    cases g with
    | it b =>
      rw [enc, enc]
      cases a <;> cases b <;> (simp only [encI]; refine cmp_words fun e => ?_) <;> first | exact absurd e (by decide +kernel) | (simp only [cmpAll, cmpb]; repeat (first | rfl | split))
    | no g =>
      rw [enc, enc]
      cases a <;> exact cmp_words fun e => absurd e (by decide +kernel)
    | of w l =>
      have n := wrd_ne w
      rw [enc, enc]
      cases a
      · exact cmp_words fun e => absurd e.symm n.1
      · exact cmp_words fun e => absurd e.symm n.2.1
      · exact cmp_words fun e => absurd e.symm n.2.2.1
      · exact cmp_words fun e => absurd e.symm n.2.2.2.1
  | case2 f ih =>
    intro g
    cases g with
    | it b =>
      rw [enc, enc]
      cases b <;> exact cmp_words fun e => absurd e (by decide +kernel)
    | no g =>
      rw [enc, enc]
      refine cmp_words fun _ => ?_
      simp only [cmpAll]
      split
      · rfl
      · exact ih g
    | of w l =>
      rw [enc, enc]
      exact cmp_words fun e => absurd e.symm (wrd_ne w).2.2.2.2
  | case3 w l ih =>
    intro g
    have n := wrd_ne w
    cases g with
    | it b =>
      rw [enc, enc]
      cases b
      · exact cmp_words fun e => absurd e n.1
      · exact cmp_words fun e => absurd e n.2.1
      · exact cmp_words fun e => absurd e n.2.2.1
      · exact cmp_words fun e => absurd e n.2.2.2.1
    | no g =>
      rw [enc, enc]
      exact cmp_words fun e => absurd e n.2.2.2.2
    | of v m =>
      rw [enc, enc]
      refine cmp_words fun _ => ?_
      simp only [cmpAll]
      split
      · rfl
      · simp only [cmpb]
        exact cmpAll_map ih m
/-- the order of askings -/
def leF (f g : F Itm) : Bool := !dataLt (enc g) (enc f)
theorem ord_leF : Ord leF := by
  have O := swo_data enc
  refine ⟨fun a b c h1 h2 => ?_, fun a b => ?_, fun a b h1 h2 => ?_⟩
  · unfold leF at *
    rw [Bool.not_eq_true'] at *
    exact O.tr a b c h1 h2
  · unfold leF
    cases e : dataLt (enc b) (enc a) with
    | false => rfl
    | true =>
      rw [O.asym b a e]
      rfl
  · unfold leF at *
    rw [Bool.not_eq_true'] at *
    refine enc_inj a b ?_
    cases q : PyData.eqv (enc a) (enc b) with
    | true => exact eqv_tame _ _ (tame_enc a) (tame_enc b) q
    | false =>
      have k : keyToks (enc a) = keyToks (enc b) := lex_total (O := itemOrd) _ _ h2 h1
      have t := plt_toks _ _ (tame_enc a) (tame_enc b) (cmp_enc a b) q [] []
      have t2 := plt_tot _ _ (tame_enc a) (tame_enc b) (cmp_enc a b) (cmp_enc b a) q
      rw [plt_lex (tame_enc a) (tame_enc b) (cmp_enc a b), plt_lex (tame_enc b) (tame_enc a) (cmp_enc b a), h1, h2] at t2
      exact absurd t2 (by simp)
end Bw.Ask

namespace Bw.Ask
open PySem PySem.Spec L2 LamX TL PyProof.Rows SrtO

/-! ### askings in the heap -/
mutual
theorem dp_up {K : PySem.W.Frag} {H H2 : Hp} (s : ∀ b o, H b = some o → H2 b = some o) : ∀ (d : PyData) (v : V), Dp K H v d → Dp K H2 v d
  | .none, _, h => by cases h; exact .non
  | .bool _, _, h => by cases h; exact .bl _
  | .int _, _, h => by cases h; exact .int _
  | .str _, _, h => by cases h; exact .str _
  | .list ds, _, h => by
    cases h with
    | lst q r =>
      refine .lst ?_ (dpAll_up s ds _ r)
      rcases q with (q | ⟨o, q⟩) | q
      · exact .inl (.inl (s _ _ q))
      · exact .inl (.inr ⟨o, s _ _ q⟩)
      · exact .inr q
  | .tuple ds, _, h => by
    cases h with
    | tup q r =>
      refine .tup ?_ (dpAll_up s ds _ r)
      rcases q with (q | ⟨o, q⟩) | q
      · exact .inl (.inl (s _ _ q))
      · exact .inl (.inr ⟨o, s _ _ q⟩)
      · exact .inr q
  | .dict _, _, h => nomatch h
theorem dpAll_up {K : PySem.W.Frag} {H H2 : Hp} (s : ∀ b o, H b = some o → H2 b = some o) : ∀ (ds : List PyData) (vs : List V), DpAll K H vs ds → DpAll K H2 vs ds
  | [], _, h => by cases h; exact .nil
  | d :: ds, _, h => by
    cases h with
    | cons a r => exact .cons (dp_up s d _ a) (dpAll_up s ds _ r)
end
def AtF (K : PySem.W.Frag) (H : Hp) (v : V) (f : F Itm) : Prop := Dp K H v (enc f)
def AtL (K : PySem.W.Frag) (H : Hp) (vs : List V) (l : List (F Itm)) : Prop := DpAll K H vs (l.map fun f => enc f)
theorem AtF.up {K : PySem.W.Frag} {H H2 : Hp} {v : V} {f : F Itm} (h : AtF K H v f) (s : ∀ b o, H b = some o → H2 b = some o) : AtF K H2 v f := dp_up s _ _ h
theorem AtL.up {K : PySem.W.Frag} {H H2 : Hp} {vs : List V} {l : List (F Itm)} (h : AtL K H vs l) (s : ∀ b o, H b = some o → H2 b = some o) : AtL K H2 vs l := dpAll_up s _ _ h
theorem AtL.at_ {K : PySem.W.Frag} {H : Hp} : ∀ {vs : List V} {l : List (F Itm)}, AtL K H vs l → ∀ (i : Nat) (v : V), vs[i]? = some v → ∃ f, l[i]? = some f ∧ AtF K H v f
  | [], _, _, i, v, e => by simp at e
  | x :: vs, [], h, _, _, _ => nomatch h
  | x :: vs, f :: l, h, 0, v, e => by
    cases h with
    | cons a r =>
      cases Option.some.inj (show some x = some v from e)
      exact ⟨f, rfl, a⟩
  | x :: vs, f :: l, h, i + 1, v, e => by
    cases h with
    | cons a r => exact AtL.at_ (vs := vs) (l := l) r i v (by simpa using e)
theorem AtL.snoc {K : PySem.W.Frag} {H : Hp} : ∀ {vs : List V} {l : List (F Itm)} {v : V} {f : F Itm}, AtL K H vs l → AtF K H v f → AtL K H (vs ++ [v]) (l ++ [f])
  | [], [], _, _, _, a => .cons a .nil
  | [], _ :: _, _, _, h, _ => nomatch h
  | _ :: _, [], _, _, h, _ => nomatch h
  | x :: vs, g :: l, v, f, h, a => by
    cases h with
    | cons b r => exact .cons b (AtL.snoc (vs := vs) (l := l) r a)
theorem AtL.len {K : PySem.W.Frag} {H : Hp} : ∀ {vs : List V} {l : List (F Itm)}, AtL K H vs l → vs.length = l.length
  | [], [], _ => rfl
  | [], _ :: _, h => nomatch h
  | _ :: _, [], h => nomatch h
  | x :: vs, f :: l, h => by
    cases h with
    | cons a r => simp only [List.length_cons, AtL.len (vs := vs) (l := l) r]
/-- the three shapes -/
theorem AtF.no {K : PySem.W.Frag} {H : Hp} {v : V} {f : F Itm} (h : AtF K H v (.no f)) : ∃ a u, v = .ref a ∧ SqT K H a [.str "not", u] ∧ AtF K H u f := by
  unfold AtF at h
  rw [enc] at h
  cases h with
  | tup q r =>
    cases r with
    | cons a r =>
      cases a
      cases r with
      | cons b r =>
        cases r
        exact ⟨_, _, rfl, q, b⟩
theorem AtF.of {K : PySem.W.Frag} {H : Hp} {v : V} {w : Bool} {l : List (F Itm)} (h : AtF K H v (.of w l)) : ∃ a b us, v = .ref a ∧ SqT K H a [.str (wrd w), .ref b] ∧ SqT K H b us ∧ AtL K H us l := by
  unfold AtF at h
  rw [enc] at h
  cases h with
  | tup q r =>
    cases r with
    | cons a r =>
      cases a
      cases r with
      | cons b r =>
        cases r
        cases b with
        | tup q2 r2 => exact ⟨_, _, _, rfl, q, q2, r2⟩
theorem AtF.mk_no {K : PySem.W.Frag} {H : Hp} {a : Addr} {u : V} {f : F Itm} (h : SqT K H a [.str "not", u]) (k : AtF K H u f) : AtF K H (.ref a) (.no f) := by
  unfold AtF
  rw [enc]
  exact .tup h (.cons (.str _) (.cons k .nil))
theorem AtF.mk_of {K : PySem.W.Frag} {H : Hp} {a b : Addr} {us : List V} {w : Bool} {l : List (F Itm)} (h : SqT K H a [.str (wrd w), .ref b]) (h2 : SqT K H b us) (k : AtL K H us l) : AtF K H (.ref a) (.of w l) := by
  unfold AtF
  rw [enc]
  exact .tup h (.cons (.str _) (.cons (.tup h2 k) .nil))
/-- the first word -/
theorem AtF.word {K : PySem.W.Frag} {H : Hp} {v : V} {f : F Itm} (h : AtF K H v f) : ∃ a xs, v = .ref a ∧ SqT K H a (.str (first f) :: xs) := by
  unfold AtF at h
  obtain ⟨r, e⟩ := enc_first f
  rw [e] at h
  cases h with
  | tup q r =>
    cases r with
    | cons b r =>
      cases b
      exact ⟨_, _, rfl, q⟩
/-! ### bounds -/
inductive Hg : Nat → F Itm → Prop
  | it (n : Nat) (a : Itm) : Hg n (.it a)
  | no {n : Nat} {f : F Itm} (h : Hg n f) : Hg (n + 1) (.no f)
  | of {n : Nat} (w : Bool) {l : List (F Itm)} (h : ∀ f ∈ l, Hg n f) : Hg (n + 1) (.of w l)
theorem depthAll_le {n : Nat} : ∀ {l : List PyData}, (∀ d ∈ l, d.depth ≤ n) → PyData.depthAll l ≤ n
  | [], _ => Nat.zero_le _
  | d :: l, h => by
    rw [PyData.depthAll]
    exact Nat.max_le.mpr ⟨h d (List.mem_cons_self ..), depthAll_le fun e he => h e (.tail _ he)⟩
theorem depth_enc {n : Nat} {f : F Itm} (h : Hg n f) : (enc f).depth ≤ 2 * n + 1 := by
  induction h with
  | it n a => rw [enc]; cases a <;> simp [encI, PyData.depth, PyData.depthAll]
  | no h ih =>
    rw [enc]
    simp only [PyData.depth, PyData.depthAll]
    omega
  | @of n w l h ih =>
    rw [enc]
    have := depthAll_le (l := l.map fun f => enc f) (n := 2 * n + 1) fun d hd => by
      obtain ⟨f, hf, rfl⟩ := List.mem_map.mp hd
      exact ih f hf
    simp only [PyData.depth, PyData.depthAll]
    omega
/-- the texts of the items are laid out rightly -/
def okI : Itm → Bool
  | .has x => PyData.strOk x
  | .is x y => PyData.strOk x && PyData.strOk y
  | .cls x => PyData.strOk x
  | .within _ => true
inductive Ok : F Itm → Prop
  | it {a : Itm} (h : okI a = true) : Ok (.it a)
  | no {f : F Itm} (h : Ok f) : Ok (.no f)
  | of (w : Bool) {l : List (F Itm)} (h : ∀ f ∈ l, Ok f) : Ok (.of w l)
theorem layAll_of : ∀ {l : List PyData}, (∀ d ∈ l, d.canLay0 = true) → PyData.canLayAll0 l = true
  | [], _ => rfl
  | d :: l, h => by
    rw [PyData.canLayAll0, h d (List.mem_cons_self ..), layAll_of fun e he => h e (.tail _ he)]
    rfl
theorem lay_enc {f : F Itm} (h : Ok f) : (enc f).canLay0 = true := by
  have w1 : PyData.strOk "has" = true := by decide +kernel
  have w2 : PyData.strOk "is" = true := by decide +kernel
  have w3 : PyData.strOk "class" = true := by decide +kernel
  have w4 : PyData.strOk "within" = true := by decide +kernel
  have w5 : PyData.strOk "not" = true := by decide +kernel
  have w6 : ∀ w, PyData.strOk (wrd w) = true := by intro w; cases w <;> decide +kernel
  induction h with
  | @it a h =>
    rw [enc]
    cases a with
    | has x => simp only [okI] at h; simp [encI, PyData.canLay0, PyData.canLayAll0, w1, h]
    | is x y => simp only [okI, Bool.and_eq_true] at h; simp [encI, PyData.canLay0, PyData.canLayAll0, w2, h]
    | cls x => simp only [okI] at h; simp [encI, PyData.canLay0, PyData.canLayAll0, w3, h]
    | within n => simp [encI, PyData.canLay0, PyData.canLayAll0, w4]
  | no h ih => rw [enc]; simp [PyData.canLay0, PyData.canLayAll0, w5, ih]
  | @of w l h ih =>
    rw [enc]
    have := layAll_of (l := l.map fun f => enc f) fun d hd => by
      obtain ⟨f, hf, rfl⟩ := List.mem_map.mp hd
      exact ih f hf
    simp [PyData.canLay0, PyData.canLayAll0, w6, this]
theorem shd_enc {n : Nat} {f : F Itm} (h : Ok f) (k : Hg n f) (hn : n ≤ 30) : SeqAt.shaped (enc f) = true := by
  unfold SeqAt.shaped
  rw [Bool.and_eq_true, decide_eq_true_eq]
  have := depth_enc k
  exact ⟨lay_enc h, by omega⟩
theorem shd_list {n : Nat} {l : List (F Itm)} (h : ∀ f ∈ l, Ok f) (k : ∀ f ∈ l, Hg n f) (hn : n ≤ 30) : SeqAt.shaped (.list (l.map fun f => enc f)) = true := by
  unfold SeqAt.shaped
  rw [Bool.and_eq_true, decide_eq_true_eq]
  have d := depthAll_le (l := l.map fun f => enc f) (n := 2 * n + 1) fun d hd => by
    obtain ⟨f, hf, rfl⟩ := List.mem_map.mp hd
    exact depth_enc (k f hf)
  have la := layAll_of (l := l.map fun f => enc f) fun d hd => by
    obtain ⟨f, hf, rfl⟩ := List.mem_map.mp hd
    exact lay_enc (h f hf)
  refine ⟨by simp only [PyData.canLay0]; exact la, ?_⟩
  simp only [PyData.depth]
  omega
theorem any_enc {l : List (F Itm)} {f : F Itm} : ((l.map fun g => enc g).any fun z => PyData.eqv z (enc f)) = decide (f ∈ l) := by
  induction l with
  | nil => rfl
  | cons x l ih =>
    rw [List.map_cons, List.any_cons, ih, eqv_enc]
    by_cases e : f = x
    · rw [e]
      simp
    · have e2 : x ≠ f := fun z => e z.symm
      rw [decide_eq_false e2, Bool.false_or]
      simp [e]
end Bw.Ask

namespace Bw.Ask
open PySem PySem.Spec L2 LamX TL PyProof.Rows SrtO

/-! ### what a value reads as is one thing -/
mutual
theorem reads_one {h : Heap} : ∀ (d e : PyData) (v : Value) (as bs : List Addr), tame d = true → tame e = true → Reads h v d as → Reads h v e bs → d = e
  | .int a, e, v, as, bs, _, t, r1, r2 => by
    cases r1
    cases r2
    rfl
  | .str a, e, v, as, bs, _, t, r1, r2 => by
    cases r1
    cases r2
    rfl
  | .tuple xs, e, v, as, bs, t0, t, r1, r2 => by
    cases r1 with
    | @tuple a o us n _ _ h1 h2 h3 h4 =>
      cases e with
      | tuple ys =>
        cases r2 with
        | @tuple a2 o2 us2 n2 _ _ k1 k2 k3 k4 =>
          rw [h1] at k1
          cases k1
          rw [h3] at k3
          cases k3
          rw [readsAll_one xs ys us.toList _ _ (by simpa [tame] using t0) (by simpa [tame] using t) h4 k4]
      | int b => cases r2
      | str b => cases r2
      | none => cases r2
      | bool b => cases r2
      | list ys => simp [tame] at t
      | dict ys => simp [tame] at t
  | .none, _, _, _, _, t, _, _, _ => absurd t (by simp [tame])
  | .bool _, _, _, _, _, t, _, _, _ => absurd t (by simp [tame])
  | .list _, _, _, _, _, t, _, _, _ => absurd t (by simp [tame])
  | .dict _, _, _, _, _, t, _, _, _ => absurd t (by simp [tame])
theorem readsAll_one {h : Heap} : ∀ (ds es : List PyData) (vs : List Value) (as bs : List Addr), tameAll ds = true → tameAll es = true → ReadsAll h vs ds as → ReadsAll h vs es bs → ds = es
  | [], es, vs, as, bs, _, _, r1, r2 => by
    cases r1
    cases r2
    rfl
  | d :: ds, es, vs, as, bs, t0, t, r1, r2 => by
    cases r1 with
    | cons a ra =>
      cases es with
      | nil => cases r2
      | cons e es =>
       cases r2 with
       | cons b rb =>
        have p : tame d = true ∧ tameAll ds = true := by simpa [tameAll] using t0
        have q : tame e = true ∧ tameAll es = true := by simpa [tameAll] using t
        rw [reads_one d e _ _ _ p.1 q.1 a b, readsAll_one ds es _ _ _ p.2 q.2 ra rb]
end
/-- sorted(list of askings) -/
def rSortedF (K : PySem.W.Frag) : List V → Hp → VK → Prop := fun vs H Q => ∃ (a : Addr) (us : List V) (l : List (F Itm)) (n : Nat), vs = [.ref a] ∧ SqL K H a us ∧ AtL K H us l ∧ (∀ f ∈ l, Ok f) ∧ (∀ f ∈ l, Hg n f) ∧ n ≤ 30 ∧
  ∀ ys p, AtL K H ys (l.mergeSort leF) → H p = none → Q (.ref p) (upd H p (.lst ys))
section
variable {X : Cx}
open Classical in
theorem cr_sortedF (hu : X.A.units + 2 + 64 < cLine) : CallR X (.builtin "sorted") (rSortedF X.K) := by
  intro pins s σ H vs us0 Q I r h
  obtain ⟨a, us, l, n, rfl, hs, al, ok, hg, hn, q⟩ := h
  obtain ⟨its, rv, hl, hz⟩ := I.list hs
  obtain ⟨u, rfl, ru⟩ := vals1 r
  obtain rfl : u = Value.ref a := ru
  have refs : ∀ x ∈ us, ∃ t, x = V.ref t := fun x m => by
    obtain ⟨i, hi⟩ := List.mem_iff_getElem?.mp m
    obtain ⟨f, _, af⟩ := al.at_ i x hi
    obtain ⟨t, _, e, _⟩ := af.word
    exact ⟨t, e⟩
  obtain ⟨e1, e2⟩ := refs_back rv refs
  have rel : ∀ v ∈ its, RelV (backV v) v := fun v hv => by
    obtain ⟨t, rfl⟩ := e2 v hv
    exact rfl
  -- each value reads as the asking at its place
  have place : ∀ (i : Nat) (v : Value), its[i]? = some v → ∃ f, l[i]? = some f ∧ AtF X.K H (backV v) f ∧ ∃ as, Reads s.heap v (enc f) as := fun i v e => by
    have hi : us[i]? = some (backV v) := by rw [e1, List.getElem?_map, e]; rfl
    obtain ⟨f, hf, af⟩ := al.at_ i _ hi
    exact ⟨f, hf, af, Dp.reads I _ _ v af (rel v (List.mem_of_getElem? e))⟩
  let fv : Value → F Itm := fun v => if q : ∃ f, ∃ as, Reads s.heap v (enc f) as then q.choose else .of true []
  have fv_is : ∀ {v : Value} {f : F Itm} {as : List Addr}, Reads s.heap v (enc f) as → fv v = f := fun {v f as} rd => by
    have ex : ∃ f, ∃ as, Reads s.heap v (enc f) as := ⟨f, as, rd⟩
    show (if q : ∃ f, ∃ as, Reads s.heap v (enc f) as then q.choose else .of true []) = f
    rw [dif_pos ex]
    obtain ⟨as2, rd2⟩ := ex.choose_spec
    exact enc_inj _ _ (reads_one _ _ v _ _ (tame_enc _) (tame_enc _) rd2 rd)
  have len : its.length = l.length := by rw [← rv.length]; exact al.len
  have mapl : its.map fv = l := by
    refine List.ext_getElem? fun i => ?_
    rw [List.getElem?_map]
    cases e : its[i]? with
    | none =>
      have : its.length ≤ i := List.getElem?_eq_none_iff.mp e
      rw [List.getElem?_eq_none (by omega)]
      rfl
    | some v =>
      obtain ⟨f, hf, _, as, rd⟩ := place i v e
      rw [hf, Option.map_some, fv_is rd]
  have good : ∀ v ∈ its, fv v ∈ l ∧ AtF X.K H (backV v) (fv v) ∧ ∃ as, Reads s.heap v (enc (fv v)) as := fun v hv => by
    obtain ⟨i, hi⟩ := List.mem_iff_getElem?.mp hv
    obtain ⟨f, hf, af, as, rd⟩ := place i v hi
    rw [fv_is rd]
    exact ⟨List.mem_of_getElem? hf, af, as, rd⟩
  refine sorted_wrd (kd := fun v => enc (fv v)) (swo_data fun v => enc (fv v)) hl.isList (by rw [← rv.length]; exact hz) (fun v hv => ?_)
    (fun u hu2 v hv => ⟨cmp_enc _ _, plt_lex (tame_enc _) (tame_enc _) (cmp_enc _ _)⟩) fun out h1 h2 => ?_
  · obtain ⟨m, _, as, rd⟩ := good v hv
    obtain ⟨r, e⟩ := enc_first (fv v)
    have dp := depth_enc (hg _ m)
    exact ⟨_, r, as, e, rd, lay_enc (ok _ m), by omega⟩
  · have inits : ∀ v ∈ out, v ∈ its := fun v hv => h2.perm.mem_iff.mp hv
    have h3 : ∀ u ∈ out, ∃ a, u = Value.ref a := fun u hu3 => e2 u (inits u hu3)
    obtain ⟨n2, hn2⟩ := PyProof.Rows.sortedAll_at s.heap its out.toArray
    have same : out.map fv = l.mergeSort leF := by
      refine List.Perm.eq_of_pairwise (le := fun f g => leF f g = true) (fun x y _ _ p1 p2 => ord_leF.anti x y p1 p2) ?_ (List.pairwise_mergeSort ord_leF.trans ord_leF.total l) ?_
      · refine List.pairwise_map.mpr (h1.imp fun {x y} hxy => ?_)
        unfold leF
        rw [Bool.not_eq_true']
        exact hxy
      · exact (mapl ▸ h2.perm.map fv).trans (List.mergeSort_perm l leF).symm
    have all : AtL X.K H (out.map backV) (out.map fv) := by
      have go : ∀ o : List Value, (∀ v ∈ o, v ∈ its) → AtL X.K H (o.map backV) (o.map fv) := fun o => by
        induction o with
        | nil => exact fun _ => .nil
        | cons v o ih => exact fun hh => .cons (good v (hh v (List.mem_cons_self ..))).2.1 (ih fun x hx => hh x (.tail _ hx))
      exact go out inits
    refine ⟨.ref _, upd H (s.heap.objs.size + 1) (.lst (out.map backV)), I.laid (t' := s.toks) (fun _ _ => PyProof.Rows.sortedAll_old) (Nat.le_succ _) ⟨?_, out, n2, vals_back h3, by simpa using hn2⟩, rfl, q _ _ (same ▸ all) (I.hok.fresh (Nat.le_succ _))⟩
    rw [List.length_map, h2.perm.length_eq, ← rv.length]
    exact hz
end
end Bw.Ask

namespace Bz
open PySem PySem.Calls PyProof.Rows PyProof.V PySem.Spec PySem.W

/-! ### list(zip(xs, ys)) of two lists -/
def ZSt (h : Heap) (z TI TO i1 i2 l1 l2 S : Addr) (xs ys : Array Value) (i : Nat) : Prop :=
  IsPair h TI (.ref i1) (.ref i2) ∧ h.IsListIter i1 l1 i ∧ h.IsListIter i2 l2 i ∧ h.IsList l1 xs ∧ h.IsList l2 ys ∧
    ((IsZip h z TI TO .none ∧ ∃ a b, IsPair h TO a b) ∨ ∃ T f oT, IsZipHeld h z TI TO T f ∧ h.get? T = some oT ∧ S < T)
structure ZG (xs ys : Array Value) (lo : Addr) (h : Heap) (as : List Addr) : Prop where
  rise : as.Pairwise (· < ·)
  above : ∀ a ∈ as, lo < a
  pairs : ∀ (j : Nat) (a : Addr), as[j]? = some a → ∃ x y, xs[j]? = some x ∧ ys[j]? = some y ∧ h.get? a = some { cls := .type "tuple", data := .seq #[x, y] }
theorem ZG.there {xs ys : Array Value} {lo : Addr} {h : Heap} {as : List Addr} (g : ZG xs ys lo h as) {a : Addr} (ha : a ∈ as) : a < h.objs.size := by
  obtain ⟨j, hj⟩ := List.mem_iff_getElem?.mp ha
  obtain ⟨_, _, _, _, e⟩ := g.pairs j a hj
  exact Heap.lt_size e
structure Low (z TI TO i1 i2 l1 l2 S : Addr) : Prop where
  z : z < S
  TI : TI < S
  TO : TO < S
  i1 : i1 < S
  i2 : i2 < S
  l1 : l1 < S
  l2 : l2 < S
theorem ZSt.keep {h h' : Heap} {z TI TO i1 i2 l1 l2 S : Addr} {xs ys : Array Value} {i : Nat} (L : Low z TI TO i1 i2 l1 l2 S) (st : ZSt h z TI TO i1 i2 l1 l2 S xs ys i) (k : ∀ b o, b ≠ S → h.get? b = some o → h'.get? b = some o) : ZSt h' z TI TO i1 i2 l1 l2 S xs ys i := by
  obtain ⟨hTI, h1, h2, hl1, hl2, hz⟩ := st
  refine ⟨k _ _ (Nat.ne_of_lt L.TI) hTI, h1.at fun o e => k _ o (Nat.ne_of_lt L.i1) e, h2.at fun o e => k _ o (Nat.ne_of_lt L.i2) e, hl1.at fun o e => k _ o (Nat.ne_of_lt L.l1) e, hl2.at fun o e => k _ o (Nat.ne_of_lt L.l2) e, ?_⟩
  rcases hz with ⟨hz, a, b, hTO⟩ | ⟨T, f, oT, hz, hT, hS⟩
  · exact .inl ⟨k _ _ (Nat.ne_of_lt L.z) hz, a, b, k _ _ (Nat.ne_of_lt L.TO) hTO⟩
  · exact .inr ⟨T, f, oT, k _ _ (Nat.ne_of_lt L.z) hz, k _ _ (Nat.ne_of_gt hS) hT, hS⟩
section
variable {prog : Program} {w : World} {A : Around} {E : Value → Shared → Prop} {s : Shared}
theorem zp_item {z TI TO i1 i2 l1 l2 S : Addr} {xs ys : Array Value} {i : Nat} {x y : Value} {Q : Option Value → Shared → Prop} (D : ZipApart z TI TO i1 i2 l1 l2) (L : Low z TI TO i1 i2 l1 l2 S) (st : ZSt s.heap z TI TO i1 i2 l1 l2 S xs ys i) (hS : S < s.heap.objs.size)
    (ex : xs[i]? = some x) (ey : ys[i]? = some y)
    (hQ : ∀ h', ZSt h' z TI TO i1 i2 l1 l2 S xs ys (i + 1) → h'.get? s.heap.objs.size = some { cls := .type "tuple", data := .seq #[x, y] } → h'.objs.size = s.heap.objs.size + 1 →
      (∀ b o, b ∉ [z, TO, i1, i2] → s.heap.get? b = some o → h'.get? b = some o) → Q (some (.ref s.heap.objs.size)) { s with heap := h' }) :
    wpAny (model prog w) A (pyNext (.ref z)) Q E s := by
  obtain ⟨hTI, h1, h2, hl1, hl2, hz⟩ := st
  rcases hz with ⟨hz, a, b, hTO⟩ | ⟨T, f, oT, hz, hT, hST⟩
  · refine wpAny_pyNext_zip_item D hz hTI hTO h1 h2 hl1 hl2 ex ey fun h' a1 a2 a3 a4 a5 a6 hk => ?_
    refine hQ h' ⟨hk _ _ D.TIz D.TITO D.TIi1 D.TIi2 hTI, a3, a4, hl1.at fun o e => hk _ o D.l1z D.l1TO D.l1i1 D.l1i2 e, hl2.at fun o e => hk _ o D.l2z D.l2TO D.l2i1 D.l2i2 e, .inr ⟨s.heap.objs.size, false, _, a1, a5, hS⟩⟩ a5 a6
      fun c o hc e => hk c o (fun q => hc (by simp [q])) (fun q => hc (by simp [q])) (fun q => hc (by simp [q])) (fun q => hc (by simp [q])) e
  · have r1 : T ≠ z := Nat.ne_of_gt (Nat.lt_trans L.z hST)
    have r2 : T ≠ i1 := Nat.ne_of_gt (Nat.lt_trans L.i1 hST)
    have r3 : T ≠ i2 := Nat.ne_of_gt (Nat.lt_trans L.i2 hST)
    refine wpAny_pyNext_zip_item_held D hz hT hTI h1 h2 hl1 hl2 ex ey fun h' a1 a3 a4 a5 a6 hk => ?_
    refine hQ h' ⟨hk _ _ D.TIz D.TIi1 D.TIi2 hTI, a3, a4, hl1.at fun o e => hk _ o D.l1z D.l1i1 D.l1i2 e, hl2.at fun o e => hk _ o D.l2z D.l2i1 D.l2i2 e, .inr ⟨T, true, oT, a1, hk _ _ r1 r2 r3 hT, hST⟩⟩ a5 a6
      fun c o hc e => hk c o (fun q => hc (by simp [q])) (fun q => hc (by simp [q])) (fun q => hc (by simp [q])) e
theorem zp_done {z TI TO i1 i2 l1 l2 S : Addr} {xs ys : Array Value} {i : Nat} {Q : Option Value → Shared → Prop} (hh : A.handled = none) (D : ZipApart z TI TO i1 i2 l1 l2) (st : ZSt s.heap z TI TO i1 i2 l1 l2 S xs ys i) (hend : xs[i]? = none ∨ ys[i]? = none)
    (hQ : ∀ h', (∀ b o, b ∉ [z, TO, i1, i2] → s.heap.get? b = some o → h'.get? b = some o) → Q none { s with heap := h' }) : wpAny (model prog w) A (pyNext (.ref z)) Q E s := by
  obtain ⟨hTI, h1, h2, hl1, hl2, hz⟩ := st
  rcases hz with ⟨hz, a, b, hTO⟩ | ⟨T, f, oT, hz, hT, hST⟩
  · exact wpAny_pyNext_zip_end hh D hz hTI hTO h1 h2 hl1 hl2 hend fun h' hk => hQ h' fun c o hc e => hk c o (fun q => hc (by simp [q])) (fun q => hc (by simp [q])) (fun q => hc (by simp [q])) (fun q => hc (by simp [q])) e
  · exact wpAny_pyNext_zip_end_held hh D hz hT hTI h1 h2 hl1 hl2 hend fun h' hk => hQ h' fun c o hc e => hk c o (fun q => hc (by simp [q])) (fun q => hc (by simp [q])) (fun q => hc (by simp [q])) e
end
section
variable {prog : Program} {w : World} {A : Around} {s : Shared} {R : Result → Shared → Prop} {z TI TO i1 i2 l1 l2 S : Addr} {xs ys : Array Value} {n : Nat}
theorem zp_loop (hh : A.handled = none) (D : ZipApart z TI TO i1 i2 l1 l2) (L : Low z TI TO i1 i2 l1 l2 S) (hn : n = min xs.size ys.size) (hz : n ≤ sizeLine) (res : Value) {h₁ : Heap}
    (hR : ∀ h' tk acc c as, (∀ b o, b ≠ S → b ∉ [z, TO, i1, i2] → h₁.get? b = some o → h'.get? b = some o) → h'.get? S = some { cls := .type "list", dict := none, data := .seq acc c, slots := #[] } → as.length = n → ZG xs ys S h' as →
      acc.toList = as.map Value.ref → R (.ok (.ret res)) { s with heap := h', toks := tk }) :
    ∀ (k i : Nat) (h : Heap) (tk c : Nat) (acc : Array Value) (as : List Addr), n - i = k → i ≤ n → ZSt h z TI TO i1 i2 l1 l2 S xs ys i → (∀ b o, b ≠ S → b ∉ [z, TO, i1, i2] → h₁.get? b = some o → h.get? b = some o) →
      h.get? S = some { cls := .type "list", dict := none, data := .seq acc c, slots := #[] } → acc.toList = as.map Value.ref → as.length = i → ZG xs ys S h as →
      codeAny (model prog w) A (.builtin "list.extend.loop" ⟨[.ref S, .ref z, res], []⟩) R { s with heap := h, toks := tk } := by
  have offw : ∀ b, S ≤ b → b ∉ [z, TO, i1, i2] := fun b hb hm => by
    have hm' : b = z ∨ b = TO ∨ b = i1 ∨ b = i2 := by simpa using hm
    rcases hm' with q | q | q | q
    · exact Nat.lt_irrefl _ (Nat.lt_of_lt_of_le (q ▸ L.z) hb)
    · exact Nat.lt_irrefl _ (Nat.lt_of_lt_of_le (q ▸ L.TO) hb)
    · exact Nat.lt_irrefl _ (Nat.lt_of_lt_of_le (q ▸ L.i1) hb)
    · exact Nat.lt_irrefl _ (Nat.lt_of_lt_of_le (q ▸ L.i2) hb)
  intro k
  induction k with
  | zero =>
    intro i h tk c acc as hk hi hst hkeep hS hacc hal hG
    have hin : i = n := by omega
    refine codeAny_builtin PySem.F.entry_extend_loop ?_
    rw [Around.under_plainId PySem.F.plain_extend_loop _]
    show wpAny _ A.in1 (pyNext (.ref z) >>= _) _ _ _
    have hend : xs[i]? = none ∨ ys[i]? = none := by
      rcases Nat.le_total xs.size ys.size with q | q
      · exact .inl (Array.getElem?_eq_none (by rw [Nat.min_eq_left q] at hn; omega))
      · exact .inr (Array.getElem?_eq_none (by rw [Nat.min_eq_right q] at hn; omega))
    refine wpAny_bind (zp_done (s := { s with heap := h, toks := tk }) (A := A.in1) hh D hst hend fun h' he => ?_)
    refine wpAny_pure (hR h' tk acc c as (fun b o h1 h2 e => he b o h2 (hkeep b o h1 h2 e)) (he S _ (offw S (Nat.le_refl _)) hS) (by omega) ⟨hG.rise, hG.above, fun j a hj => ?_⟩ hacc)
    obtain ⟨x, y, e1, e2, e3⟩ := hG.pairs j a hj
    exact ⟨x, y, e1, e2, he a _ (offw a (Nat.le_of_lt (hG.above a (List.mem_of_getElem? hj)))) e3⟩
  | succ k ih =>
    intro i h tk c acc as hk hi hst hkeep hS hacc hal hG
    have hlx : i < xs.size := by have := Nat.min_le_left xs.size ys.size; omega
    have hly : i < ys.size := by have := Nat.min_le_right xs.size ys.size; omega
    have ex := Array.getElem?_eq_getElem hlx
    have ey := Array.getElem?_eq_getElem hly
    have hsz : acc.size = i := by rw [← Array.length_toList, hacc, List.length_map, hal]
    refine codeAny_builtin PySem.F.entry_extend_loop ?_
    rw [Around.under_plainId PySem.F.plain_extend_loop _]
    show wpAny _ A.in1 (pyNext (.ref z) >>= _) _ _ _
    refine wpAny_bind (zp_item (s := { s with heap := h, toks := tk }) D L hst (Heap.lt_size hS) ex ey fun h' hst' ht hz' hkp => ?_)
    dsimp only at ht hz' hkp ⊢
    have hS' := hkp S _ (offw S (Nat.le_refl _)) hS
    have up : ∀ b o, b ≠ S → h'.get? b = some o → (h'.update S (Obj.mapSeq (·.push (Value.ref h.objs.size)))).get? b = some o := fun b o hb e => (Heap.get?_update_other _ _ (Ne.symm hb)).trans e
    have hSl : S < h.objs.size := Heap.lt_size hS
    show wpAny _ A.in1 (updateSeq S (·.push (Value.ref h.objs.size)) >>= _) _ _ _
    refine wpAny_bind ?_
    refine wpAny_updateSeq hS' rfl (wpAny_pure ⟨plainId_quiet PySem.F.plain_extend_loop _, ih (i + 1) _ tk _ (acc.push (Value.ref h.objs.size)) (as ++ [h.objs.size]) (by omega) (by omega) (hst'.keep L up)
      (fun b o h1 h2 e => up b o h1 (hkp b o h2 (hkeep b o h1 h2 e))) (Heap.get?_update_self _ hS' rfl) (by rw [Array.toList_push, hacc, List.map_append]; rfl) (by rw [List.length_append, hal]; rfl) ⟨?_, ?_, ?_⟩⟩) (by rw [hsz]; omega) (by show (acc.push (Value.ref h.objs.size)).size ≤ sizeLine + 1; rw [Array.size_push, hsz]; omega)
    · refine List.pairwise_append.mpr ⟨hG.rise, List.pairwise_singleton _ _, fun a ha b hb => ?_⟩
      rw [List.mem_singleton.mp hb]
      exact hG.there ha
    · intro a ha
      rcases List.mem_append.mp ha with ha | ha
      · exact hG.above a ha
      · rw [List.mem_singleton.mp ha]; exact hSl
    · intro j b hj
      rcases Nat.lt_trichotomy j as.length with h1 | h1 | h1
      · rw [List.getElem?_append_left h1] at hj
        obtain ⟨x, y, e1, e2, e3⟩ := hG.pairs j b hj
        have hb := hG.above b (List.mem_of_getElem? hj)
        exact ⟨x, y, e1, e2, up b _ (Nat.ne_of_gt hb) (hkp b _ (offw b (Nat.le_of_lt hb)) e3)⟩
      · subst h1
        have hb : h.objs.size = b := by simpa using hj
        subst hb
        subst hal
        exact ⟨_, _, ex, ey, up _ _ (Nat.ne_of_gt hSl) ht⟩
      · have hnone : (as ++ [h.objs.size])[j]? = none := List.getElem?_eq_none (by rw [List.length_append, List.length_singleton]; omega)
        rw [hnone] at hj; cases hj
end
theorem zip_no_len : typeLookup (.type "zip") "__len__" = pure none := by rw [typeLookup_type, builtinLookup_eq_fast]; kernel_rfl
theorem zip_no_hint : typeLookup (.type "zip") "__length_hint__" = pure none := by rw [typeLookup_type, builtinLookup_eq_fast]; kernel_rfl
section
variable {prog : Program} {w : World} {A : Around} {E : Value → Shared → Prop} {s : Shared} {z TI TO i1 i2 l1 l2 : Addr} {xs ys : Array Value} {n : Nat}
theorem zp_call {Q : Value → Shared → Prop} (hh : A.handled = none) (D : ZipApart z TI TO i1 i2 l1 l2) (L : Low z TI TO i1 i2 l1 l2 s.heap.objs.size) (hn : n = min xs.size ys.size) (hz : n ≤ sizeLine)
    (hzp : IsZip s.heap z TI TO .none) (hTI : IsPair s.heap TI (.ref i1) (.ref i2)) (hTO : ∃ a b, IsPair s.heap TO a b) (h1 : s.heap.IsListIter i1 l1 0) (h2 : s.heap.IsListIter i2 l2 0) (hl1 : s.heap.IsList l1 xs) (hl2 : s.heap.IsList l2 ys)
    (hQ : ∀ h' tk acc c as, (∀ b o, b ∉ [z, TO, i1, i2] → s.heap.get? b = some o → h'.get? b = some o) → h'.get? s.heap.objs.size = some { cls := .type "list", dict := none, data := .seq acc c, slots := #[] } → as.length = n → ZG xs ys s.heap.objs.size h' as →
      acc.toList = as.map Value.ref → Q (.ref s.heap.objs.size) { s with heap := h', toks := tk }) :
    wpAny (model prog w) A (call (.type "list") [.ref z]) Q E s := by
  refine callType_codes (Q₁ := fun obj s₁ => obj = .ref s.heap.objs.size ∧ s₁ = { s with heap := s.heap.push { cls := .type "list", data := .seq #[] } }) PySem.F.called_list (PySem.F.typeCall_list_1 _) PySem.F.entry_list_init
    (code_list_new _ ⟨rfl, rfl⟩) fun obj s₁ h₁ => ?_
  obtain ⟨rfl, rfl⟩ := h₁
  have hS : (s.heap.push { cls := .type "list", data := .seq #[] }).get? s.heap.objs.size = some { cls := .type "list", data := .seq #[] } := Heap.get?_push_size _ rfl
  generalize hSe : s.heap.objs.size = S at *
  refine ⟨⟨_, hS, rfl⟩, PySem.F.args_list_init_2 _ _, ?_⟩
  show wpAny _ _ (do let old ← Builtin.List.listItems (.ref S); Builtin.List.listUpdate (.ref S) (fun _ => #[]); letGo old.toList.reverse; Builtin.List.listExtendWith (.ref S) (.ref z) .none) _ _ _
  refine wpAny_bind ?_
  unfold Builtin.List.listItems
  refine wpAny_bind (wpAny_seqItems hS rfl (wpAny_pure ?_))
  show wpAny _ _ (updateSeq S (fun _ => #[]) >>= fun _ => letGo (#[] : Array Value).toList.reverse >>= fun _ => Builtin.List.listExtendWith (.ref S) (.ref z) .none) _ _ _
  refine wpAny_bind (wpAny_updateSeq hS rfl ?_)
  have hS₂ := Heap.get?_update_self (Obj.mapSeq (fun _ => (#[] : Array Value))) hS rfl
  have k2 : ∀ b o, b ≠ S → s.heap.get? b = some o → ((s.heap.push { cls := .type "list", data := .seq #[] }).update S (Obj.mapSeq (fun _ => (#[] : Array Value)))).get? b = some o :=
    fun b o hb e => (Heap.get?_update_other _ _ (Ne.symm hb)).trans (Heap.get?_push_of_some _ e)
  refine wpAny_bind (wpAny_letGo ?_)
  have zT : ∀ h' : Heap, (∀ b o, b ≠ S → s.heap.get? b = some o → h'.get? b = some o) → ∀ g d t os, (⟨h', g, d, t, os⟩ : Shared).TypeIs (.ref z) "zip" := fun h' k g d t os => ⟨_, k z _ (Nat.ne_of_lt L.z) hzp, rfl⟩
  unfold Builtin.List.listExtendWith
  refine wpAny_bind (wpAny_typeOf (T := "zip") (zT _ k2 ..) ?_)
  have e1 : Builtin.List.listSameRef (.ref S) (.ref z) = false := by
    have ne : S ≠ z := Nat.ne_of_gt L.z
    simp [Builtin.List.listSameRef, ne]
  have e2 : (Value.type "zip" == Value.type "list") = false := by decide
  have e3 : (Value.type "zip" == Value.type "tuple") = false := by decide
  simp only [e1, e2, e3, Bool.or_false, Bool.false_eq_true, if_false]
  refine wpAny_bind (wpAny_pyIter_zip (k2 _ _ (Nat.ne_of_lt L.z) hzp) ?_)
  refine wpAny_bind (wpAny_holding ?_)
  unfold Builtin.List.listLengthHint
  refine wpAny_bind (wpAny_specialOf (zT _ k2 ..) zip_no_len ?_)
  show wpAny _ A.in1.in1 (specialOf (Value.ref z) (Str.ofString "__length_hint__") >>= _) _ _ _
  refine wpAny_bind (wpAny_specialOf (zT _ k2 ..) zip_no_hint ?_)
  refine wpAny_pure ?_
  show wpAny _ A.in1.in1 (rule "list.extend.makes-room" >>= fun _ => Builtin.List.listTouch (.ref S) >>= fun _ =>
    again (.builtin "list.extend.loop" ⟨[.ref S, .ref z, .none], []⟩)) _ _ _
  refine wpAny_bind (wpAny_rule ?_)
  refine wpAny_bind ?_
  show wpAny _ A.in1.in1 (updateSeq S (·.push .none) >>= fun _ => updateSeq S (·.pop)) _ _ _
  refine wpAny_bind (wpAny_updateSeq hS₂ rfl ?_)
  have hS₃ := Heap.get?_update_self (Obj.mapSeq (·.push Value.none)) hS₂ rfl
  refine wpAny_updateSeq (hz := by seq_fits) hS₃ rfl ?_
  have hS₄ := Heap.get?_update_self (Obj.mapSeq (·.pop)) hS₃ rfl
  refine wpAny_pure ⟨plainId_quiet PySem.F.plain_extend_loop _, ?_⟩
  refine zp_loop (prog := prog) (w := w) (A := A.in1) (s := s) (R := wants (fun r s₂ => r = Value.none ∧ Q (Value.ref S) s₂) E) (h₁ := s.heap) (S := S) (n := n) (xs := xs) (ys := ys) hh D L hn hz .none (fun h' tk acc c as hk hS' hl hG hacc => ⟨rfl, hQ h' tk acc c as (fun b o hb e => ?_) hS' hl hG hacc⟩) (n - 0) 0 _ _ _ #[] [] rfl (Nat.zero_le _) ?_ ?_ hS₄ rfl rfl ⟨List.Pairwise.nil, (fun _ ha => nomatch ha), (fun j a hj => by simp at hj)⟩
  · refine hk b o (fun q => ?_) hb e
    have := Heap.lt_size e
    rw [hSe, q] at this
    exact Nat.lt_irrefl _ this
  · obtain ⟨a, b, hTO⟩ := hTO
    refine ZSt.keep L (h := s.heap) ⟨hTI, h1, h2, hl1, hl2, .inl ⟨hzp, a, b, hTO⟩⟩ fun b o hb e => ?_
    exact (Heap.get?_update_other _ _ (Ne.symm hb)).trans ((Heap.get?_update_other _ _ (Ne.symm hb)).trans (k2 b o hb e))
  · intro b o hb _ e
    exact (Heap.get?_update_other _ _ (Ne.symm hb)).trans ((Heap.get?_update_other _ _ (Ne.symm hb)).trans (k2 b o hb e))
end
end Bz

namespace Bw
open PySem PySem.Spec L2 TL PyProof.Rows

/-! ### list(zip(xs, ys)) -/
def putP : Hp → List Addr → List (V × V) → Hp
  | H, a :: as, p :: kvs => putP (upd H a (.tup [p.1, p.2])) as kvs
  | H, _, _ => H
theorem putP_off {b : Addr} : ∀ (as : List Addr) (kvs : List (V × V)) (H : Hp), b ∉ as → putP H as kvs b = H b
  | [], _, _, _ => rfl
  | _ :: _, [], _, _ => rfl
  | a :: as, p :: kvs, H, h => by
    show putP (upd H a (.tup [p.1, p.2])) as kvs b = H b
    rw [putP_off as kvs _ (fun z => h (List.mem_cons_of_mem _ z)), upd_ne (fun z => h (by rw [z]; exact List.mem_cons_self))]
theorem putP_at : ∀ (as : List Addr) (kvs : List (V × V)) (H : Hp), as.length = kvs.length → as.Nodup → Paired (fun (t : Addr) (p : V × V) => putP H as kvs t = some (.tup [p.1, p.2])) as kvs
  | [], [], _, _, _ => .nil
  | [], _ :: _, _, h, _ => by cases h
  | _ :: _, [], _, h, _ => by cases h
  | a :: as, p :: kvs, H, h, hn => by
    have hn' := List.nodup_cons.mp hn
    have ih := putP_at as kvs (upd H a (.tup [p.1, p.2])) (Nat.succ.inj h) hn'.2
    refine .cons ?_ ih
    show putP (upd H a (.tup [p.1, p.2])) as kvs a = some (.tup [p.1, p.2])
    rw [putP_off as kvs _ hn'.1, upd_same]
theorem zip_laid {X : Cx} {pins : List (Addr × Obj)} {σ : L2.St} {H : Hp} {s : Shared} {h' : Heap} {tk S : Nat} {xs ys : List V} {us ws : List Value} {acc : Array Value} {c : Nat} {as : List Addr} (I : Inv X pins σ H s) (hz : xs.length ≤ sizeLine) (rx : Vals xs us) (ry : Vals ys ws) (hlen : xs.length = ys.length)
    (hk : ∀ b o, s.heap.get? b = some o → h'.get? b = some o) (hS0 : s.heap.objs.size ≤ S) (hS : h'.get? S = some { cls := .type "list", dict := none, data := .seq acc c, slots := #[] }) (hl : as.length = xs.length) (hG : Bz.ZG us.toArray ws.toArray S h' as) (hacc : acc.toList = as.map Value.ref) :
    ∃ H' : Hp, Same H H' ∧ H S = none ∧ (∀ t ∈ as, H t = none) ∧ S ∉ as ∧ H' S = some (.lst (as.map V.ref)) ∧ Paired (fun (t : Addr) (q : V × V) => H' t = some (.tup [q.1, q.2])) as (xs.zip ys) ∧ Inv X pins σ H' { s with heap := h', toks := tk } := by
  have hSn : S ∉ as := fun z => Nat.lt_irrefl _ (hG.above _ z)
  have nd : as.Nodup := List.Pairwise.imp (fun {a b} (h : a < b) => Nat.ne_of_lt h) hG.rise
  have new : ∀ t ∈ as, H t = none := fun t ht => I.hok.fresh (Nat.le_trans hS0 (Nat.le_of_lt (hG.above t ht)))
  have newS : H S = none := I.hok.fresh hS0
  have lz : (xs.zip ys).length = xs.length := by rw [List.length_zip, ← hlen, Nat.min_self]
  have atP := putP_at as (xs.zip ys) (upd H S (.lst (as.map V.ref))) (by omega) nd
  have off : ∀ b, b ∉ as → b ≠ S → putP (upd H S (.lst (as.map V.ref))) as (xs.zip ys) b = H b := fun b h1 h2 => by rw [putP_off as _ _ h1, upd_ne h2]
  have low : ∀ b o, s.heap.get? b = some o → b ∉ as ∧ b ≠ S := fun b o e => ⟨fun z => absurd (Nat.lt_of_lt_of_le (Heap.lt_size e) hS0) (Nat.not_lt.mpr (Nat.le_of_lt (hG.above b z))), Nat.ne_of_lt (Nat.lt_of_lt_of_le (Heap.lt_size e) hS0)⟩
  have kp : ∀ b u, H b = some u → (putP (upd H S (.lst (as.map V.ref))) as (xs.zip ys)) b = some u := fun b u e => by
    rw [off b (fun z => by rw [new b z] at e; cases e) (fun z => by rw [z, newS] at e; cases e)]
    exact e
  have eS : putP (upd H S (.lst (as.map V.ref))) as (xs.zip ys) S = some (.lst (as.map V.ref)) := by rw [putP_off as _ _ hSn, upd_same]
  refine ⟨putP (upd H S (.lst (as.map V.ref))) as (xs.zip ys), kp, newS, new, hSn, eS, atP, ?_⟩
  refine I.call' (ch := []) rfl ⟨fun b o q _ _ _ => hk b o q, fun b o q _ _ _ => ⟨o.slots, hk b o q⟩, fun b o q n _ => ?_, fun b o q _ => ⟨o, hk b o q⟩, fun b xs q => kp b _ q, fun b o u q => kp b _ q, fun b ps q => ⟨#[], by rw [kp b _ q]; simp⟩⟩ (fun b u q => ?_) I.bare fun b z => by simp at z
  · obtain ⟨z1, z2⟩ := low b o q
    rw [off b z1 z2]
    exact n
  · by_cases hb : b ∈ as
    · obtain ⟨j, pk, e1, e2, e3⟩ := LiI.paired_ix atP hb
      rw [e3] at q
      cases q
      obtain ⟨x, y, f1, f2, f3⟩ := hG.pairs j b e1
      rw [List.getElem?_zip_eq_some] at e2
      obtain ⟨g1, g2⟩ := e2
      obtain ⟨u, hu, ru⟩ := rx.get g1
      obtain ⟨v, hv, rv⟩ := ry.get g2
      have f1' : us[j]? = some x := by simpa using f1
      have f2' : ws[j]? = some y := by simpa using f2
      rw [f1'] at hu
      rw [f2'] at hv
      cases hu
      cases hv
      exact ⟨by show 2 ≤ sizeLine; decide, [x, y], .cons ru (.cons rv .nil), ⟨_, f3, rfl, _, rfl⟩⟩
    · by_cases hb2 : b = S
      · rw [hb2] at q ⊢
        rw [eS] at q
        cases q
        refine ⟨by rw [List.length_map]; omega, acc.toList, c, by rw [hacc]; exact LiI.vals_refs as, ?_⟩
        rw [Array.toArray_toList]
        exact hS
      · rw [off b hb hb2] at q
        exact (I.hok b u q).stay (fun d v _ y => hk d v y) (fun d y => kp d _ y) fun d xs y => kp d _ y
def tListZip (K : PySem.W.Frag) (ta : TA) : TE := fun σ H Q => ta σ H fun vs H1 => ∃ (a b : Addr) (xs ys : List V), vs = [.ref a, .ref b] ∧ SqL K H1 a xs ∧ SqL K H1 b ys ∧ xs.length = ys.length ∧
  ∀ (H' : Hp) (p : Addr) (ts : List Addr), Same H1 H' → H1 p = none → (∀ t ∈ ts, H1 t = none) → p ∉ ts → H' p = some (.lst (ts.map V.ref)) → Paired (fun (t : Addr) (q : V × V) => H' t = some (.tup [q.1, q.2])) ts (xs.zip ys) → Q (.ref p) H'
section
variable {X : Cx}
theorem pe_listZip {e e2 : Expr} {ta : TA} {p p2 q pos : Pos} (hc : X.calm = true) (ha : PA X [e, e2] ta) (hg : Gl X "list") (hm : X.mg "list" = none) (hgz : Gl X "zip") (hmz : X.mg "zip" = none)
    (hs : starEach [.Call (.Name "zip" p2) [e, e2] [] q] X.env = (false, eval (.Call (.Name "zip" p2) [e, e2] [] q) X.env) :: starEach [] X.env := by rfl)
    (hs2 : starEach [e, e2] X.env = (false, eval e X.env) :: starEach [e2] X.env := by rfl) (hpl : (backTo q (starEach [e2] X.env)).any (·.1) = false := by rfl) :
    PE X (.Call (.Name "list" p) [.Call (.Name "zip" p2) [e, e2] [] q] [] pos) (tListZip X.K ta) := by
  refine ⟨fun pins s σ H Q I hq => ?_⟩
  refine wpAny_Call_Name_kw (ld_blt I hg hm (show bootBuiltins "list" = some (.type "list") by decide +kernel) ?_)
  refine PyProof.Rows.callWith_type1 ?_ hs rfl
  rw [hs]
  show wpAny _ _ (spliced ((false, eval (.Call (.Name "zip" p2) [e, e2] [] q) X.env) :: backTo pos (starEach [] X.env))) _ _ s
  refine Calls.spliced_cons ?_
  refine Call_ (ld_blt I hgz hmz PyProof.Rows.boot_zip (PyProof.Rows.callWith_type1 (thn (ha.run q pins s σ H _ I hq) fun us s1 ⟨vs, H1, I1, r1, q1⟩ => ?_) hs2 hpl))
  obtain ⟨a, b, xs, ys, ex, hqx, hqy, hlen, q1⟩ := q1
  subst ex
  cases r1 with
  | cons r rr =>
    cases rr with
    | cons r' rr =>
      cases rr
      cases r
      cases r'
      obtain ⟨its, rv, p1, hz⟩ := I1.list hqx
      obtain ⟨its2, rv2, p2, _⟩ := I1.list hqy
      have la : a < s1.heap.objs.size := p1.lt
      have lb : b < s1.heap.objs.size := p2.lt
      refine call_zip_2 p1.isList p2.isList fun h' hzp hTI hTO h1 h2 hsz hk => ?_
      have l1 : its.length = xs.length := rv.length.symm
      have l2 : its2.length = ys.length := rv2.length.symm
      have hlow : Bz.Low (s1.heap.objs.size + 4) (s1.heap.objs.size + 2) (s1.heap.objs.size + 3) s1.heap.objs.size (s1.heap.objs.size + 1) a b h'.objs.size := by
        have ad : ∀ k, k < 5 → s1.heap.objs.size + k < h'.objs.size := fun k hk5 => by rw [hsz]; exact Nat.add_lt_add_left hk5 _
        exact ⟨ad 4 (by decide), ad 2 (by decide), ad 3 (by decide), ad 0 (by decide), ad 1 (by decide), Nat.lt_trans la (ad 0 (by decide)), Nat.lt_trans lb (ad 0 (by decide))⟩
      refine Calls.spliced_nil ?_
      refine Bz.zp_call (s := { s1 with heap := h' }) (n := xs.length) (I1.ok.hd hc) (PySem.W.ktu_apart s1.heap.objs.size a b la lb) hlow (by rw [List.size_toArray, List.size_toArray, l1, l2, ← hlen, Nat.min_self]) hz hzp hTI ⟨_, _, hTO⟩ h1 h2 (p1.isList.at fun o e => hk _ o e) (p2.isList.at fun o e => hk _ o e) fun h2' tk acc c as hk' hS hl hG hacc => ?_
      have hkk : ∀ b o, s1.heap.get? b = some o → h2'.get? b = some o := fun b o e => hk' b o (fun hm => by
        have lt := Heap.lt_size e
        have hm' : b = s1.heap.objs.size + 4 ∨ b = s1.heap.objs.size + 3 ∨ b = s1.heap.objs.size ∨ b = s1.heap.objs.size + 1 := by simpa using hm
        rcases hm' with z | z | z | z
        · rw [z] at lt; exact Nat.not_lt.mpr (Nat.le_add_right _ 4) lt
        · rw [z] at lt; exact Nat.not_lt.mpr (Nat.le_add_right _ 3) lt
        · rw [z] at lt; exact Nat.lt_irrefl _ lt
        · rw [z] at lt; exact Nat.not_lt.mpr (Nat.le_add_right _ 1) lt) (hk b o e)
      obtain ⟨H', k1, k2, k3, k4, k5, k6, J⟩ := zip_laid (tk := tk) I1 hz rv rv2 hlen hkk (by rw [hsz]; exact Nat.le_add_right _ _) hS hl hG hacc
      exact ⟨.ref _, H', J, rfl, q1 H' _ as k1 k2 k3 k4 k5 k6⟩

/-! ### xs.count(x) of a list of texts -/
def eqkS (k : Str) (v : Value) : Bool := match v with
  | .str n _ => n == k
  | _ => false
theorem eqkS_at {A : Around} {s : Shared} {k : Str} {t : Tok} : ∀ {us : List Value} {ns : List Str}, Vals (ns.map V.str) us → ∀ y ∈ us, SeqAt.EqAt A s y (.str k t) (eqkS k y)
  | us, [], r => fun y hy => by cases r; cases hy
  | us, n :: ns, r => fun y hy => by
    cases r with
    | cons h r =>
      rcases List.mem_cons.mp hy with e | e
      · subst e
        obtain ⟨t', rfl⟩ := h
        exact eqAt_V (y := .str n) (x := .str k) ⟨_, rfl⟩ ⟨_, rfl⟩ rfl rfl
      · exact eqkS_at r y e
theorem eqkS_count {k : Str} : ∀ {us : List Value} {ns : List Str}, Vals (ns.map V.str) us → us.countP (eqkS k) = ns.count k
  | us, [], r => by cases r; rfl
  | us, n :: ns, r => by
    cases r with
    | cons h r =>
      obtain ⟨t', rfl⟩ := h
      have ih := eqkS_count (k := k) r
      rw [List.countP_cons, List.count_cons, ih] <;> rfl
def rCntS (K : PySem.W.Frag) : V → List V → Hp → VK → Prop := fun x xs H Q => ∃ (p : Addr) (ns : List Str) (k : Str), x = .ref p ∧ xs = [.str k] ∧ SqL K H p (ns.map V.str) ∧ Q (.int (ns.count k : Nat)) H
theorem mt_lcountS : MtR X "list.count" (rCntS X.K) := by
  intro pins s σ H x xs v us Q I rx rxs h
  obtain ⟨p, ns, k, rfl, rfl, hs, q⟩ := h
  cases rx
  obtain ⟨u, rfl, ru⟩ := rxs.one
  obtain ⟨t, rfl⟩ := ru
  obtain ⟨its, rv, ⟨⟨cls, dd, data, sl⟩, n, ho, hc, hdn, hd⟩, hlen⟩ := I.list hs
  simp only at hc hd
  subst hc hd
  refine call_meets PySem.F.slot_list_count ⟨_, ho, rfl⟩ PySem.F.entry_list_count (PySem.F.args_list_count_2 _ _)
    (SeqAt.list_countAt p its.toArray n dd sl (.str k t) (eqkS k)) ⟨ho, fun y hy => eqkS_at rv y (by simpa using hy), ?_⟩
  have ec : its.toArray.toList.countP (eqkS k) = ns.count k := eqkS_count rv
  refine ⟨.int (ns.count k : Nat), H, I.tok _, ⟨s.toks, ?_⟩, q⟩
  show Value.int ((its.toArray.toList.countP (eqkS k) : Nat) : Int) s.toks = Value.int ((ns.count k : Nat) : Int) s.toks
  rw [ec]

/-! ### min(xs) of a list of texts -/
def minF (a : Str) (l : List Str) : Str := l.foldl (fun a y => if PySem.W.dataLt (.str y) (.str a) then y else a) a
def minS : List Str → Str
  | [] => ""
  | a :: r => minF a r
theorem minD_strs : ∀ (l : List Str) (a : Str), PySem.W.minD (.str a) (l.map PyData.str) = .str (minF a l)
  | [], a => rfl
  | y :: r, a => by
    have ih := minD_strs r (if PySem.W.dataLt (.str y) (.str a) then y else a)
    unfold PySem.W.minD minF at ih ⊢
    rw [List.map_cons, List.foldl_cons, List.foldl_cons, ← ih]
    split <;> rfl
end
end Bw

namespace Bw
open PySem PySem.Spec L2 TL PyProof.Rows

theorem reads_strs {h : Heap} : ∀ {us : List Value} {ns : List Str}, Vals (ns.map V.str) us → ReadsAll h us (ns.map PyData.str) []
  | us, [], r => by cases r; exact .nil
  | us, n :: ns, r => by
    cases r with
    | cons h r =>
      obtain ⟨t', rfl⟩ := h
      exact ReadsAll.cons (as := []) (bs := []) (.str n t') (reads_strs r)
theorem depth_strs : ∀ ns : List Str, PyData.depthAll (ns.map PyData.str) = 0
  | [] => rfl
  | n :: ns => by
    show max (PyData.depth (.str n)) (PyData.depthAll (ns.map PyData.str)) = 0
    rw [depth_strs ns]
    rfl
def rMinS (K : PySem.W.Frag) : List V → Hp → VK → Prop := fun vs H Q => ∃ (a : Addr) (ns : List Str), vs = [V.ref a] ∧ SqL K H a (ns.map V.str) ∧ ns ≠ [] ∧ Q (.str (minS ns)) H
section
variable {X : Cx} {m : Nat}
theorem cr_minS (hc : X.calm = true) (hr : Room m X.A) : CallR X (.builtin "min") (rMinS X.K) := by
  intro pins s σ H vs us Q I r h
  obtain ⟨a, ns, rfl, hs, hne, q⟩ := h
  obtain ⟨its, rv, hl, hz⟩ := I.list hs
  rw [Vals.ref1 r]
  cases ns with
  | nil => exact absurd rfl hne
  | cons n ns =>
    have hu := hr.units
    refine PySem.W.min_list_data (x := .str n) (xs := ns.map PyData.str) (as := []) (I.ok.hd hc) hl.isList (by simpa using reads_strs rv) ⟨fun x hx y hy => ?_, fun x hx => ?_⟩ ?_ fun i v h' tk bs hv rd hk => ?_
    · have e1 : ∃ z, x = .str z := by
        rcases List.mem_cons.mp hx with e | e
        · exact ⟨_, e⟩
        · obtain ⟨z, _, e⟩ := List.mem_map.mp e
          exact ⟨z, e.symm⟩
      have e2 : ∃ z, y = .str z := by
        rcases List.mem_cons.mp hy with e | e
        · exact ⟨_, e⟩
        · obtain ⟨z, _, e⟩ := List.mem_map.mp e
          exact ⟨z, e.symm⟩
      obtain ⟨z1, rfl⟩ := e1
      obtain ⟨z2, rfl⟩ := e2
      rfl
    · rcases List.mem_cons.mp hx with e | e
      · rw [e]
        exact fun z => nomatch z
      · obtain ⟨z, _, e⟩ := List.mem_map.mp e
        rw [← e]
        exact fun z => nomatch z
    · have e : PyData.depthAll (PyData.str n :: ns.map PyData.str) = 0 := depth_strs (n :: ns)
      rw [e]
      omega
    · rw [minD_strs] at rd
      cases rd
      exact ⟨.str (minF n ns), H, I.kept hk, ⟨_, rfl⟩, q⟩

/-! ### == and != by the class's own __eq__ -/
/-- what stands right of an instance of the class at C: of the class itself, or of a built-in class -/
def RightOf (K : PySem.W.Frag) (C : Addr) (H : Hp) (y : V) : Prop := (∃ b dx fs, y = .ref b ∧ H b = some (.ins C dx fs)) ∨ (∃ z, y = .str z) ∨ ∃ b xs, y = .ref b ∧ SqT K H b xs
def rEqOwn (K : PySem.W.Frag) (C : Addr) (sp : Sp) (E : XK) : R2 := fun x y H Q => ∃ a dx fs, x = .ref a ∧ H a = some (.ins C dx fs) ∧ RightOf K C H y ∧ sp [x, y] H (fun v H' => ∃ b, v = .bl b ∧ Q (.bl b) H') E
def rNeOwn (K : PySem.W.Frag) (C : Addr) (sp : Sp) (E : XK) : R2 := fun x y H Q => ∃ a dx fs, x = .ref a ∧ H a = some (.ins C dx fs) ∧ RightOf K C H y ∧ sp [x, y] H (fun v H' => ∃ b, v = .bl b ∧ Q (.bl (!b)) H') E
/-- what the top tells of the class's == -/
structure OwnEq (K : PySem.W.Frag) (C f : Addr) : Prop where
  eq : PySem.W.findIn K (.ref C) "__eq__" = some (some (.ref f))
  ne : PySem.W.findIn K (.ref C) "__ne__" = some (some (.builtin "object.__ne__"))
  obj : PySem.W.mroIn K C (.type "object") = some true
  fn : PySem.W.isFn K (.ref f) = true
  st : PySem.W.subIn K (.type "str") (.ref C) = some false
  tu : PySem.W.subIn K (.type "tuple") (.ref C) = some false
end
end Bw

namespace Bw
open PySem PySem.Spec L2 TL PyProof.Rows
section
variable {X : Cx} {m : Nat}
theorem right_type {pins : List (Addr × Obj)} {σ : L2.St} {H : Hp} {s : Shared} {C f : Addr} {y : V} {u : Value} (I : Inv X pins σ H s) (O : OwnEq X.K C f) (r : RightOf X.K C H y) (ry : RelV y u) :
    ∃ tb, PySem.W.Looks (model X.prog X.w) s.heap (typeOf u) tb ∧ PySem.W.notFirst X.K C tb = true := by
  rcases r with ⟨b, dx, fs, rfl, hb⟩ | ⟨z, rfl⟩ | ⟨b, xs, rfl, hb⟩
  · cases ry
    obtain ⟨_, J, _⟩ := ins_get I.hok hb
    obtain ⟨od, J, _⟩ := J.look
    exact ⟨_, J.type, by simp [PySem.W.notFirst]⟩
  · obtain ⟨t, rfl⟩ := ry
    refine ⟨.type "str", PySem.W.Looks.of_pure rfl, ?_⟩
    unfold PySem.W.notFirst
    rw [O.st]
    simp
  · cases ry
    obtain ⟨its, rv, ⟨o, ho, hc, _⟩, _⟩ := I.tuple hb
    refine ⟨.type "tuple", fun A Q E s' kp q => wpAny_typeOf_ref (kp _ _ ho) (by rw [hc]; exact q), ?_⟩
    unfold PySem.W.notFirst
    rw [O.tu]
    simp
theorem run_own {CX : CXT} {f : Addr} {fd : FuncData} {ps : List Str} {sp : Sp} {E : XK} {R : Bool → Hp → Prop} {A : Around} {pins : List (Addr × Obj)} {σ : L2.St} {H : Hp} {s : Shared} {a : Addr} {y : V} {u : Value} (F : FnOk X.prog X.w X.K X.mg X.base CX m f fd ps sp) (hb : Binds X.K fd ps []) (hx : Passes CX X E)
    (sb : Sub X m A) (I : Inv X pins σ H s) (ry : RelV y u) (h : sp [.ref a, y] H (fun v H' => ∃ b, v = .bl b ∧ R b H') E) :
    wpAny (model X.prog X.w) A (call (.ref f) [.ref a, u]) (fun v s' => ∃ b H', v = .bool b ∧ Inv X pins σ H' s' ∧ R b H') X.xe s := by
  have e0 : Env0 X.prog X.w X.K X.mg X.base A X.stack s H := by
    have e := I.env0
    exact ⟨by rw [sb.fr]; exact e.frames, e.mod, e.bs, e.bsz, e.funs, e.frf, e.hok, e.bare⟩
  have hl := F.len _ _ _ _ h
  have r2 : Vals [V.ref a, y] [Value.ref a, u] := .cons rfl (.cons ry .nil)
  refine wpAny_call (codeAny_mono (F.run A X.stack s H ⟨[.ref a, u], []⟩ [.ref a, u] [.ref a, y] _ E sb.room e0 (by
    have := hb s [.ref a, u] I.kIn (by simpa using hl)
    simpa using this) r2 h) fun r s' hq => ?_)
  cases r with
  | error e => exact hx pins σ H s e s' I hq
  | ok fl =>
    cases fl with
    | ret w =>
      obtain ⟨z, H', I', rz, b, ez, rb⟩ := I.after hq
      subst ez
      cases rz
      exact ⟨b, H', rfl, I', rb⟩
    | next => exact False.elim hq
    | brk => exact False.elim hq
    | cont => exact False.elim hq
theorem op_eqOwn {CX : CXT} {C f : Addr} {fd : FuncData} {ps : List Str} {sp : Sp} {E : XK} (O : OwnEq X.K C f) (F : FnOk X.prog X.w X.K X.mg X.base CX m f fd ps sp) (hb : Binds X.K fd ps []) (hr : Room m X.A) (hx : Passes CX X E) :
    OpR X (compareOp .Eq) (rEqOwn X.K C sp E) := by
  intro pins s σ H x y v u Q I rx ry h
  obtain ⟨a, dx, fs, rfl, ha, hri, hs⟩ := h
  cases rx
  obtain ⟨tb, hty, hnf⟩ := right_type I O hri ry
  obtain ⟨_, J, _⟩ := ins_get I.hok ha
  obtain ⟨od, J, _⟩ := J.look
  obtain ⟨mF, hF⟩ := I.fr
  show wpAny (model X.prog X.w) X.A (richCompare .Eq (.ref a) u) (EP X pins σ Q) X.xe s
  refine PySem.W.cmp_K (op := .Eq) hr.units0 hF I.ok.mod.kin J hty hnf O.eq O.fn ?_
  refine wpAny_mono (run_own F hb hx ⟨hr, rfl⟩ I ry hs) (fun v s' z => ?_) fun _ _ e => e
  obtain ⟨b, H', rfl, I', q⟩ := z
  exact ⟨.bl b, H', I', rfl, q⟩
theorem ifBound_objNe {M : Model} {A : Around} {E : Value → Shared → Prop} {s : Shared} {K : PySem.W.Frag} {x C : Addr} {ox : Obj} {od : Option Obj} {args : List Value} {Q : Option Value → Shared → Prop} (X : K.In s.heap) (I : PySem.W.InstAt s.heap x ox C od) (hs : PySem.W.findIn K (.ref C) "__ne__" = some (some (.builtin "object.__ne__")))
    (h : wpAny M A (call (.builtin "object.__ne__") (.ref x :: args)) (fun v => Q (some v)) E s) : wpAny M A (callSpecialIfBound? (.ref x) "__ne__" args) Q E s := by
  simp only [callSpecialIfBound?, bindSpecialIfBound?]
  refine wpAny_holding (wpAny_bind (wpAny_bind (wpAny_bind (I.type.here ((PySem.W.looks_findIn X hs).here ?_)))))
  refine wpAny_bind (wpAny_askSetting (wpAny_ite ?_))
  have fin : wpAny M A (call (.builtin "object.__ne__") ([.ref x] ++ args) >>= fun v => pure (some v)) Q E s := wpAny_bind (wpAny_mono h (fun v s' h' => wpAny_pure h') fun _ _ h' => h')
  split
  · exact wpAny_bind (wpAny_of_eq (PySem.F.cmp_object.ne.bind _) (wpAny_pure (by exact fin)))
  · exact wpAny_tryCatch (wpAny_bind (wpAny_of_eq (PySem.F.cmp_object.ne.bind _) (wpAny_pure (by exact fin))))
theorem op_neOwn {CX : CXT} {C f : Addr} {fd : FuncData} {ps : List Str} {sp : Sp} {E : XK} (O : OwnEq X.K C f) (F : FnOk X.prog X.w X.K X.mg X.base CX m f fd ps sp) (hb : Binds X.K fd ps []) (hr : Room (m + 1) X.A) (hx : Passes CX X E) :
    OpR X (compareOp .NotEq) (rNeOwn X.K C sp E) := by
  intro pins s σ H x y v u Q I rx ry h
  obtain ⟨a, dx, fs, rfl, ha, hri, hs⟩ := h
  cases rx
  obtain ⟨tb, hty, hnf⟩ := right_type I O hri ry
  obtain ⟨_, J, _⟩ := ins_get I.hok ha
  obtain ⟨od, J, _⟩ := J.look
  have XK := I.kIn
  have one : wpAny (model X.prog X.w) X.A (tryCompare (.ref a) "__ne__" u) (fun r s' => ∃ v, r = some v ∧ EP X pins σ Q v s') X.xe s := by
    unfold tryCompare
    refine wpAny_bind (ifBound_objNe XK J O.ne ?_)
    refine wpAny_call (codeAny_call_builtin PySem.F.cmp_object.ne.plain PySem.F.cmpEntry_ne (PySem.W.check_slot PySem.F.cmpKind_ne PySem.F.cmpSplit_ne (J.type.andThen (PySem.W.looks_mroIn XK O.obj)) (PySem.F.cmpArgs_ne _ _) ?_))
    show wpAny _ X.A.in1 (Builtin.«object.__ne__» ⟨[.ref a, u], []⟩) _ _ s
    unfold Builtin.«object.__ne__»
    refine wpAny_bind (wpAny_pure ?_)
    refine wpAny_bind (wpAny_cRoomFor hr.in1.units0 ?_)
    refine wpAny_bind (PySem.W.ifBound_K XK J O.eq O.fn ?_)
    refine wpAny_mono (run_own F hb hx ⟨hr.in1, rfl⟩ I ry hs) (fun v s' z => ?_) fun _ _ e => e
    obtain ⟨b, H', rfl, I', q⟩ := z
    show wpAny _ _ (truthy (.bool b) >>= fun z => ret (.bool (!z))) _ _ s'
    refine wpAny_bind (wpAny_truthy_bool ?_)
    exact wpAny_pure (wpAny_pure ⟨_, rfl, .bl (!b), H', I', rfl, q⟩)
  show wpAny (model X.prog X.w) X.A (richCompare .NotEq (.ref a) u) (EP X pins σ Q) X.xe s
  unfold richCompare
  simp only [oneThing_ref]
  refine wpAny_holding (wpAny_bind (wpAny_cRoomFor hr.units0 ?_))
  refine wpAny_bind (J.type.here (wpAny_bind (hty.here ?_)))
  split
  · rename_i q
    have e : PySem.W.subIn X.K tb (.ref C) = some false := by
      rcases Bool.or_eq_true_iff.mp hnf with e | e
      · rw [beq_iff_eq.mp e] at q; simp at q
      · exact beq_iff_eq.mp e
    refine wpAny_bind ((PySem.W.looks_subIn XK e).here ?_)
    simp only [Bool.false_eq_true, if_false]
    refine wpAny_bind (wpAny_mono one (fun r s' z => ?_) fun _ _ e => e)
    obtain ⟨v, rfl, hq⟩ := z
    exact wpAny_pure hq
  · refine wpAny_bind (wpAny_pure ?_)
    simp only [Bool.false_eq_true, if_false]
    refine wpAny_bind (wpAny_mono one (fun r s' z => ?_) fun _ _ e => e)
    obtain ⟨v, rfl, hq⟩ := z
    exact wpAny_pure hq
end
end Bw

namespace Bw
open PySem PySem.Spec L2 TL PyProof.Rows

/-! ### xs[lo::st] of a list -/
def stepG {α : Type} (xs : List α) (lo : Option Int) (st : Int) : List α :=
  (sliceRange (sliceBounds lo none (some st) xs.length).1 (sliceBounds lo none (some st) xs.length).2.1 (sliceBounds lo none (some st) xs.length).2.2).filterMap (xs[·]?)
theorem stepG_map {α β : Type} (f : α → β) (xs : List α) (lo : Option Int) (st : Int) : stepG (xs.map f) lo st = (stepG xs lo st).map f := by
  unfold stepG
  rw [List.length_map]
  generalize (sliceRange (sliceBounds lo none (some st) xs.length).1 (sliceBounds lo none (some st) xs.length).2.1 (sliceBounds lo none (some st) xs.length).2.2) = r
  induction r with
  | nil => rfl
  | cons i r ih =>
    rw [List.filterMap_cons, List.filterMap_cons, List.getElem?_map]
    cases xs[i]? with
    | none => exact ih
    | some y =>
      show f y :: List.filterMap _ r = f y :: _
      rw [ih]
theorem vals_pick {xs : List V} {us : List Value} (r : Vals xs us) : ∀ ix : List Nat, Vals (ix.filterMap (xs[·]?)) (ix.filterMap (us[·]?))
  | [] => .nil
  | i :: ix => by
    rw [List.filterMap_cons, List.filterMap_cons]
    cases e : xs[i]? with
    | none =>
      have e2 : us[i]? = none := by
        rw [List.getElem?_eq_none_iff] at e ⊢
        rw [← r.length]
        exact e
      rw [e2]
      exact vals_pick r ix
    | some x =>
      obtain ⟨u, hu, ru⟩ := r.get e
      rw [hu]
      exact .cons ru (vals_pick r ix)
def tStep (K : PySem.W.Frag) (st : Int) (te : TE) (tl : TO) : TE := fun σ H Q => te σ H fun x H1 => tl σ H1 fun lo H2 => ∃ a xs, x = .ref a ∧ SqL K H2 a xs ∧ ∀ p, H2 p = none → Q (.ref p) (upd H2 p (.lst (stepG xs lo st)))
theorem pe_step {X : Cx} {e : Expr} {te : TE} {tl : TO} {lo : Option Expr} {st : Int} {k : Nat} {p1 p3 pos : Pos} (he : PE X e te) (hlo : PO X lo tl) (h0 : st ≠ 0) : PE X (.Subscript e (.Slice lo none (some (.Constant (.int st) k p1)) p3) pos) (tStep X.K st te tl) := by
  refine ⟨fun pins s σ H Q I h => ?_⟩
  refine Subscript_ (thn (he.run pins s σ H _ I h) fun v s1 ⟨x, H1, I1, r1, q1⟩ => ?_)
  have hst : PO X (some (.Constant (.int st) k p1)) (tPart (tC (.int st))) := po_some pe_int
  refine wpAny_Slice (thn (hlo.run pins s1 σ H1 _ I1 q1) fun vl s2 ⟨l, H2, I2, pl, q2⟩ => ?_)
  refine thn (po_none.run pins s2 σ H2 (fun o H3 => o = none ∧ H3 = H2) I2 ⟨rfl, rfl⟩) fun vu s3 ⟨u, H3, I3, pu, eu, e3⟩ => ?_
  subst eu e3
  refine thn (hst.run pins s3 σ H3 (fun o H4 => o = some st ∧ H4 = H3) I3 ⟨st, rfl, rfl, rfl⟩) fun vs s4 ⟨o, H4, I4, ps, eo, e4⟩ => ?_
  subst eo e4
  obtain ⟨a, xs, ex, hx, q⟩ := q2
  subst ex
  cases r1
  have I5 : Inv X pins σ H4 { s4 with heap := s4.heap.push { cls := .type "slice", data := .fields #[vl, vu, vs] } } := I4.kept (t' := s4.toks) fun b ob q => Heap.get?_push_of_some _ q
  obtain ⟨its, r, ht, hz⟩ := I5.list hx
  have hlen := r.length
  show wpAny (model X.prog X.w) X.A (subscriptTail e (.Slice lo none (some (.Constant (.int st) k p1)) p3) (.ref a) (.ref s4.heap.objs.size)) (EP X pins σ Q) X.xe { s4 with heap := s4.heap.push { cls := .type "slice", data := .fields #[vl, vu, vs] } }
  refine tail_any (ops := [.ref a, .ref s4.heap.objs.size]) ht.isList.typeIs (PySem.slot_list_getitem.lookup) ?_ (by with_unfolding_all rfl)
  refine wpAny_getItem_list_slice ht.isList (Heap.IsSliceOf.new _ vl vu vs) pl pu ps (by intro z; exact h0 (Option.some.inj z)) ?_ (by rw [List.size_toArray]; omega)
  have hpick : (slicePick its.toArray l none (some st)).toList = stepG its l st := by
    unfold slicePick stepG
    simp
  have hv : Vals (stepG xs l st) (slicePick its.toArray l none (some st)).toList := by
    rw [hpick]
    unfold stepG
    rw [hlen]
    exact vals_pick r _
  refine ⟨.ref _, _, I5.laid (t' := s4.toks) (o := .lst (stepG xs l st)) (fun b ob q => Heap.get?_push_of_some _ q) (Nat.le_refl _) ?_, rfl, q _ (I5.hok.fresh (Nat.le_refl _))⟩
  have hsz := slicePick_size_le its.toArray l none (some st)
  have e9 : its.toArray.size = its.length := by simp
  refine ⟨by rw [hv.length, Array.length_toList]; omega, _, 0, hv, ?_⟩
  rw [Array.toArray_toList]
  exact Heap.get?_push_size _ rfl

/-! ### for k in d, d a written dict -/
def ItkW (ks : List Str) : It := ⟨fun i _ => i < ks.length, fun i H x H' => H' = H ∧ ∃ k, ks[i]? = some k ∧ x = .str k, fun i _ => ks.length ≤ i⟩
/-- a written dict with the text keys ks -/
structure KKeys (K : PySem.W.Frag) (d : Addr) (ks : List Str) : Prop where
  ex : ∃ (es : Array DictEntry) (n : Nat), K.lookup d = some ⟨.type "dict", none, .dict es n, #[]⟩ ∧ es.size = ks.length ∧ ∀ (i : Nat) (k : Str), ks[i]? = some k → ∃ (en : DictEntry) (t : Tok), es[i]? = some en ∧ en.key = .str k t
  low : (d == sysModules) = false
theorem turn_keysW {P : Program} {w : World} {K : PySem.W.Frag} {tg : Expr} {ks : List Str} {d : Addr} {es : Array DictEntry} {n : Nat} (it : Addr) (hl : K.lookup d = some ⟨.type "dict", none, .dict es n, #[]⟩) (hsz : es.size = ks.length)
    (hk : ∀ (i : Nat) (k : Str), ks[i]? = some k → ∃ (en : DictEntry) (t : Tok), es[i]? = some en ∧ en.key = .str k t) : Turn P w K tg (ItkW ks) [it] it (fun i h => h.IsKeyIter it d i ks.length n) where
  mem := by simp
  obj := fun i h st b hb => by
    have e : b = it := by simpa using hb
    subst e
    obtain ⟨oi, e, c, dd⟩ := st
    exact ⟨oi, e, fun v z => by rw [dd] at z; cases z⟩
  keep := fun i h h' st k => st.at fun oi e => k it (by simp) oi e
  item := by
    intro X hP hw hK hc i pins s σ H E I hf st hg
    subst hP hw hK
    obtain ⟨f0, f1, f2, f3, f4, f5⟩ := hf it (by simp)
    have hi : i < ks.length := hg
    obtain ⟨en, t, hen, hkey⟩ := hk i ks[i] (List.getElem?_eq_getElem hi)
    refine next_key_item st (I.kIn d _ hl) rfl hsz hen fun h' st' sb => ?_
    have I1 : Inv X pins σ H { s with heap := h' } := I.turned (t' := s.toks) (fun b ob hb e => (sb.2 b hb).trans e) f0 f1 f3 f4 f5
    obtain ⟨oi, e, c, dd⟩ := id st'
    rw [hkey]
    exact ⟨_, rfl, go_of (s := { s with heap := h' }) e c dd (by decide) ⟨.str ks[i], H, I1, ⟨t, rfl⟩, ⟨rfl, _, List.getElem?_eq_getElem hi, rfl⟩, st', fun b hb => (hf b hb).1⟩⟩
  done := by
    intro X hP hw hK hc i pins s σ H E I hf st hg
    subst hP hw hK
    obtain ⟨f0, f1, f2, f3, f4, f5⟩ := hf it (by simp)
    exact next_key_end (I.ok.hd hc) st (I.kIn d _ hl) rfl hsz hg fun h' eb => ⟨rfl, I.turned (t' := s.toks) (fun b ob hb e => eb b ob hb e) f0 f1 f3 f4 f5⟩
  self := fun A i s Q E st h => wpAny_pyIter_keyiter st h
def iKeysW (K : PySem.W.Frag) (td : TE) : TI := fun σ H R => td σ H fun x H1 => ∃ d ks, x = .ref d ∧ KKeys K d ks ∧ R (ItkW ks) H1
theorem pi_keysW {X : Cx} {tg e : Expr} {td : TE} (he : PE X e td) : PI X tg e (iKeysW X.K td) := by
  refine ⟨fun pins s σ H R I h => ?_⟩
  refine thn (he.run pins s σ H _ I h) fun u s1 ⟨x, H1, I1, rx, d, ks, ex, kk, q⟩ => ?_
  subst ex
  obtain rfl : u = Value.ref d := rx
  obtain ⟨es, n, hl, hsz, hk⟩ := kk.ex
  refine iter_keys kk.low (I1.kIn d _ hl) ⟨rfl, rfl, rfl⟩ rfl (pi_one (tk := s1.toks) I1 _ (turn_keysW _ hl hsz hk) ⟨_, Heap.get?_push_size _ rfl, rfl, ?_⟩ q)
  rw [hsz] <;> rfl
theorem walk_keysW {ks : List Str} : Walk (ItkW ks) ks.length (fun _ => True) (fun i H x H' => H' = H ∧ ∃ k, ks[i]? = some k ∧ x = .str k) :=
  ⟨fun _ _ hi _ => hi, fun _ _ => Nat.le_refl _, fun _ _ _ _ _ _ y => y⟩
end Bw

namespace Bw
open PySem PySem.Spec L2 TL PyProof.Rows
/-! ### rules with their readings by name, for comprehensions -/
def rLenQ (K : PySem.W.Frag) : List V → Hp → VK → Prop := fun xs H Q => ∃ p ys, xs = [.ref p] ∧ (SqL K H p ys ∨ SqT K H p ys) ∧ Q (.int ys.length) H
def rLenR : List V → Hp → VK → Prop := fun xs H Q => ∃ a kvs, xs = [V.ref a] ∧ Rd H a (.dK kvs) ∧ Q (.int kvs.length) H
section
variable {X : Cx}
theorem call_lenQ : CallR X (.builtin "len") (rLenQ X.K) := call_len_seq
/-- len(d), d locked or not -/
theorem call_lenR : CallR X (.builtin "len") rLenR := by
  intro pins s σ H xs us Q I r h
  obtain ⟨a, kvs, rfl, ha, q⟩ := h
  obtain ⟨u, rfl, ru⟩ := vals1 r
  cases ru
  exact d_len I ha fun t s' I' => ⟨.int kvs.length, H, I', ⟨t, rfl⟩, q⟩
theorem pe_count {K : PySem.W.Frag} {o e : Expr} {apos cpos : Pos} {to te : TE} (hK : X.K = K) (ho : PE X o to) (he : PE X e te)
    (hbase : attributeBase o "count" X.env (eval o X.env) = eval o X.env := by rfl)
    (hfew : ((backTo cpos (starEach [e] X.env)).all (fun x => !x.1) && (backToKw cpos (keywordEach [] X.env)).all (fun x => x.1.isSome)
      && decide (([e] : List Expr).length + ([] : List Keyword).length + (if ([] : List Keyword).isEmpty then 0 else 1) < 30)) = true := by rfl)
    (hline : (apos.endLine == cpos.line) = true := by rfl) (hse : starEach [e] X.env = (false, eval e X.env) :: starEach [] X.env := by rfl) : PE X (.Call (.Attribute o "count" apos) [e] [] cpos) (tBM K "list" (rCntS K) to (tCons te tNil)) := by
  subst hK
  exact pe_bm PySem.F.plainAttrs_list PySem.F.slot_list_count PySem.F.type_list_count mt_lcountS ho (pa_cons he pa_nil hse) hbase hfew hline hse
end
end Bw
namespace Bw
open PySem PySem.Spec L2 TL PyProof.Rows
/-! ### a call of a local name that holds one of several defs -/
def tCallH (P : Program) (w : World) (K : PySem.W.Frag) (mg : Str → Option Value) (base : Heap) (k i : Nat) (t : TA) : TE := fun σ H Q => ∃ f sp, σ[i]? = some (some (.ref f)) ∧ Held P w K mg base k f sp ∧ t σ H fun vs H1 => sp vs H1 Q (fun _ _ _ => False)
theorem pe_callH {X : Cx} {k m i : Nat} {x : Str} {p pos : Pos} {e : Expr} {es : List Expr} {t : TA} (hr : Room m X.A) (hm : k ≤ m) (hN : X.N[i]? = some x) (hv : Vis X.env.scope x) (ha : PA X (e :: es) t)
    (hdb : (x == ("__debug__" : Str)) = false := by decide) (hcd : (x == ("__classdict__" : Str)) = false := by decide)
    (he : starEach (e :: es) X.env = (false, eval e X.env) :: starEach es X.env := by rfl) (hpl : (backTo pos (starEach es X.env)).any (·.1) = false := by rfl) : PE X (.Call (.Name x p) (e :: es) [] pos) (tCallH X.prog X.w X.K X.mg X.base k i t) := by
  refine ⟨fun pins s σ H Q I h => ?_⟩
  obtain ⟨f, sp, hs, A, ht⟩ := h
  obtain ⟨fd, ps, F, hk, hb⟩ := A.ex
  refine (pe_callL (i := i) (f := f) (sp := sp) (dvs := []) (E := fun _ _ _ => False) F (hr.mono hm) hN hv hk hb .nil (fun _ _ _ _ _ _ _ z => z.elim) ha hdb hcd he hpl).run pins s σ H Q I ⟨hs, ?_⟩
  have e0 : (fun (vs : List V) (H1 : Hp) => sp (vs ++ []) H1 Q (fun _ _ _ => False)) = fun vs H1 => sp vs H1 Q (fun _ _ _ => False) := by
    funext vs H1
    rw [List.append_nil]
  show t σ H (fun vs H1 => sp (vs ++ []) H1 Q (fun _ _ _ => False))
  rw [e0]
  exact ht
end Bw

namespace Bw
open PySem PySem.Spec L2 TL PyProof.Rows PySem.SeqAt
/-! ### xs == [], xs != [], whatever the items are -/
def rEqNil (K : PySem.W.Frag) : R2 := fun x y H Q => ∃ a b xs, x = .ref a ∧ y = .ref b ∧ SqL K H a xs ∧ SqL K H b [] ∧ Q (.bl xs.isEmpty) H
def rNeNil (K : PySem.W.Frag) : R2 := fun x y H Q => ∃ a b xs, x = .ref a ∧ y = .ref b ∧ SqL K H a xs ∧ SqL K H b [] ∧ Q (.bl (!xs.isEmpty)) H
theorem hsz2 {r : List V} {x : V} : ∀ its : List Value, (x :: r).length = its.length → (its.toArray.size != (([] : List Value).toArray).size) = true
  | [], h => by cases h
  | u :: us, _ => by simp
section
variable {X : Cx}
theorem op_eqNil (hu : X.A.units < cLine) : OpR X (compareOp .Eq) (rEqNil X.K) := by
  intro pins s σ H x y v u Q I rx ry h
  obtain ⟨a, b, xs, rfl, rfl, hx, hy, q⟩ := h
  cases rx
  cases ry
  obtain ⟨its, rv, ⟨⟨cls, dd, data, sl⟩, n, ho, hc, hdn, hd⟩, hlen⟩ := I.list hx
  obtain ⟨its2, rv2, ⟨⟨cls2, dd2, data2, sl2⟩, n2, ho2, hc2, hdn2, hd2⟩, hlen2⟩ := I.list hy
  simp only at hc hd hc2 hd2
  subst hc hd hc2 hd2
  cases rv2
  show wpAny (model X.prog X.w) X.A (richCompare .Eq (.ref a) (.ref b)) (EP X pins σ Q) X.xe s
  have hl := rv.length
  cases xs with
  | nil =>
    cases rv
    exact richCompare_meets_room (op := .Eq) ⟨_, ho, rfl⟩ ⟨_, ho2, rfl⟩ PySem.F.slot_list_eq PySem.F.entry_list_eq (PySem.F.args_list_eq_2 _ _) (list_eqAt a b _ _ n n2 dd dd2 sl sl2 rfl fun _ => true) ⟨ho, ho2, fun j h1 h2 => absurd h1 (by simp), (fun x => nomatch x), .bl true, H, I, rfl, q⟩ hu
  | cons x r =>
    exact richCompare_meets_room (op := .Eq) ⟨_, ho, rfl⟩ ⟨_, ho2, rfl⟩ PySem.F.slot_list_eq PySem.F.entry_list_eq (PySem.F.args_list_eq_2 _ _) (list_eq_lengthsAt a b _ _ n n2 dd dd2 sl sl2 (hsz2 _ hl)) ⟨ho, ho2, (fun x => nomatch x), .bl false, H, I, rfl, q⟩ hu
theorem op_neNil (hu : X.A.units < cLine) : OpR X (compareOp .NotEq) (rNeNil X.K) := by
  intro pins s σ H x y v u Q I rx ry h
  obtain ⟨a, b, xs, rfl, rfl, hx, hy, q⟩ := h
  cases rx
  cases ry
  obtain ⟨its, rv, ⟨⟨cls, dd, data, sl⟩, n, ho, hc, hdn, hd⟩, hlen⟩ := I.list hx
  obtain ⟨its2, rv2, ⟨⟨cls2, dd2, data2, sl2⟩, n2, ho2, hc2, hdn2, hd2⟩, hlen2⟩ := I.list hy
  simp only at hc hd hc2 hd2
  subst hc hd hc2 hd2
  cases rv2
  show wpAny (model X.prog X.w) X.A (richCompare .NotEq (.ref a) (.ref b)) (EP X pins σ Q) X.xe s
  have hl := rv.length
  cases xs with
  | nil =>
    cases rv
    exact richCompare_meets_room (op := .NotEq) ⟨_, ho, rfl⟩ ⟨_, ho2, rfl⟩ PySem.F.slot_list_ne PySem.F.entry_list_ne (PySem.F.args_list_ne_2 _ _) (list_neAt a b _ _ n n2 dd dd2 sl sl2 rfl fun _ => true) ⟨ho, ho2, fun j h1 h2 => absurd h1 (by simp), (fun x => nomatch x), .bl false, H, I, rfl, q⟩ hu
  | cons x r =>
    exact richCompare_meets_room (op := .NotEq) ⟨_, ho, rfl⟩ ⟨_, ho2, rfl⟩ PySem.F.slot_list_ne PySem.F.entry_list_ne (PySem.F.args_list_ne_2 _ _) (list_ne_lengthsAt a b _ _ n n2 dd dd2 sl sl2 (hsz2 _ hl)) ⟨ho, ho2, (fun x => nomatch x), .bl true, H, I, rfl, q⟩ hu
end
end Bw

namespace Bw
open PySem PySem.Spec L2 TL PyProof.Rows
/-! ### list comprehensions as a whole: what is made of the items that are kept -/
/-- of what stands at D, a list, the fact does not speak -/
def KeepR {α : Type} (R : Hp → α → V → Prop) : Prop := ∀ H H' D x v, (∃ l, H D = some (.lst l)) → (∀ b o, b ≠ D → H b = some o → H' b = some o) → R H x v → R H' x v
theorem keepR_val {α : Type} (g : α → V) : KeepR (fun _ x v => v = g x) := fun _ _ _ _ _ _ _ h => h
theorem paired_snoc {α β : Type} {G : α → β → Prop} : ∀ {l : List α} {m : List β} {a : α} {b : β}, Paired G l m → G a b → Paired G (l ++ [a]) (m ++ [b])
  | _, _, _, _, .nil, h => .cons h .nil
  | _, _, _, _, .cons r t, h => .cons r (paired_snoc t h)
theorem paired_val {α : Type} {g : α → V} : ∀ {l : List α} {m : List V}, Paired (fun x v => v = g x) l m → m = l.map g
  | _, _, .nil => rfl
  | _, _, .cons r t => by rw [r, paired_val t]; rfl
theorem filt_yes {α : Type} {l : List α} {i : Nat} {r : α} {q : α → Bool} (h : l[i]? = some r) (hq : q r = true) : (l.take (i + 1)).filter q = (l.take i).filter q ++ [r] := by
  rw [List.take_add_one, h, List.filter_append]
  show _ ++ List.filter q [r] = _
  rw [List.filter_cons_of_pos hq]
  rfl
theorem filt_no {α : Type} {l : List α} {i : Nat} {r : α} {q : α → Bool} (h : l[i]? = some r) (hq : q r = false) : (l.take (i + 1)).filter q = (l.take i).filter q := by
  rw [List.take_add_one, h, List.filter_append]
  show _ ++ List.filter q [r] = _
  rw [List.filter_cons_of_neg (by rw [hq]; exact Bool.false_ne_true), List.filter_nil, List.append_nil]
theorem lc_gen {α : Type} {J : It} {G : Hp → Prop} {xs : List α} {val : α → V} (w : Walk J (xs.map val).length G (YAt (xs.map val))) {tg : TG} {tt : TT} {te : TE} {vs : List Nat} {σ : L2.St} {H : Hp} {D : Addr} {Qd : Hp → Prop}
    (g : α → Bool) (R : Hp → α → V → Prop) (hR : KeepR R) (hD : H D = none) (hl : xs.length ≤ 1000) (hG : ∀ H', Same H H' → G H')
    (turn : ∀ x H2 (N : Hp → Prop) (Y : V → Hp → Prop), x ∈ xs → Same H H2 → (∃ l, H2 D = some (.lst l)) → (g x = false → ∀ H3, Same H2 H3 → N H3) → (g x = true → ∀ H3 v, Same H2 H3 → R H3 x v → Y v H3) →
      tg (val x) (wipe σ vs) H2 fun σ2 H3 => wipe σ2 vs = wipe σ vs ∧ tt σ2 H3 fun b H4 => if b = true then te σ2 H4 Y else N H4)
    (hd : ∀ H' ys, Same H H' → H' D = some (.lst ys) → Paired (R H') (xs.filter g) ys → Qd H') :
    ∃ W : Nat → Nat → Hp → Prop, (∃ m, W 0 m (upd H D (.lst []))) ∧ ∀ i m H, W i m H →
      (J.stop i H ∧ Qd H) ∨ (J.go i H ∧ ∃ Nx : Hp → Prop, (∀ H', Nx H' → ∃ m', m' < m ∧ W (i + 1) m' H') ∧ ∀ x H', J.yld i H x H' → tg x (wipe σ vs) H' fun σ2 H2 => wipe σ2 vs = wipe σ vs ∧ tt σ2 H2 fun b H3 =>
        if b = true then te σ2 H3 fun y H4 => ∃ acc, H4 D = some (.lst acc) ∧ acc.length < sizeLine ∧ Nx (upd H4 D (.lst (acc ++ [y]))) else Nx H3) := by
  refine lc_it w (fun i H' => Same H H' ∧ ∃ ys, H' D = some (.lst ys) ∧ Paired (R H') ((xs.take i).filter g) ys) ⟨fun b o e => by rw [upd_ne (ne_of_none e hD)]; exact e, [], upd_same, .nil⟩ (fun i H' _ h => hG H' h.1) ?_ ?_
  · rintro i v H1 H2 hi ⟨sm, ys, hy, hp⟩ ⟨rfl, hv⟩
    rw [List.getElem?_map] at hv
    cases e : xs[i]? with
    | none => rw [e] at hv; cases hv
    | some x =>
      rw [e] at hv
      have hv' : val x = v := Option.some.inj hv
      subst hv'
      have hil := (List.getElem?_eq_some_iff.mp e).1
      refine turn x _ _ _ (List.mem_of_getElem? e) sm ⟨_, hy⟩ (fun hg H3 sm3 => ?_) (fun hg H3 v sm3 hv => ?_)
      · refine ⟨fun b o z => sm3 b o (sm b o z), ys, sm3 _ _ hy, ?_⟩
        rw [filt_no e hg]
        exact Paired.mapP hp fun a b z => hR _ _ D a b ⟨_, hy⟩ (fun b o _ z => sm3 b o z) z
      · have hy3 := sm3 _ _ hy
        have keep : ∀ b o, b ≠ D → H3 b = some o → (upd H3 D (.lst (ys ++ [v]))) b = some o := fun b o n z => by rw [upd_ne n]; exact z
        refine ⟨ys, hy3, ?_, fun b o z => ?_, ys ++ [v], upd_same, ?_⟩
        · have := hp.length
          rw [← this]
          refine Nat.lt_of_le_of_lt (List.length_filter_le _ _) ?_
          rw [List.length_take]
          exact small1000 (by omega)
        · rw [upd_ne (ne_of_none z hD)]
          exact sm3 b o (sm b o z)
        · rw [filt_yes e hg]
          exact paired_snoc (Paired.mapP hp fun a b z => hR _ _ D a b ⟨_, hy3⟩ keep (hR _ _ D a b ⟨_, hy⟩ (fun b o _ z => sm3 b o z) z)) (hR _ _ D x v ⟨_, hy3⟩ keep hv)
  · rintro H1 ⟨sm, ys, hy, hp⟩
    rw [List.length_map, List.take_length] at hp
    exact hd H1 ys sm hy hp
end Bw

namespace Bw
open PySem PySem.Spec L2 TL PyProof.Rows
def top (i : Nat) : Stmt := PySem.Challenge.pw_bailiwick_k27_whole_normal_forms.main.body.getD i (.Pass ⟨0, 0, 0, 0⟩)
abbrev s_shown : Stmt := top 1
abbrev n_shown : List Str := ["value"]
theorem sc_shown : FnScope n_shown ["value"] (defScope s_shown) := ⟨rfl, rfl, rfl, by decide +kernel, rfl, by decide +kernel, by decide +kernel⟩
abbrev s_TooMany___init__ : Stmt := inClass (top 4) 0
abbrev n_TooMany___init__ : List Str := ["self", "most"]
theorem sc_TooMany___init__ : FnScope n_TooMany___init__ ["self", "most"] (defScope s_TooMany___init__) := ⟨rfl, rfl, rfl, by decide +kernel, rfl, by decide +kernel, by decide +kernel⟩
abbrev s_is_whole : Stmt := top 9
abbrev n_is_whole : List Str := ["value"]
theorem sc_is_whole : FnScope n_is_whole ["value"] (defScope s_is_whole) := ⟨rfl, rfl, rfl, by decide +kernel, rfl, by decide +kernel, by decide +kernel⟩
abbrev s_is_number : Stmt := top 10
abbrev n_is_number : List Str := ["value"]
theorem sc_is_number : FnScope n_is_number ["value"] (defScope s_is_number) := ⟨rfl, rfl, rfl, by decide +kernel, rfl, by decide +kernel, by decide +kernel⟩
abbrev s_are_signs : Stmt := top 11
abbrev n_are_signs : List Str := ["value", "most"]
theorem sc_are_signs : FnScope n_are_signs ["value", "most"] (defScope s_are_signs) := ⟨rfl, rfl, rfl, by decide +kernel, rfl, by decide +kernel, by decide +kernel⟩
abbrev s_is_text : Stmt := top 12
abbrev n_is_text : List Str := ["value"]
theorem sc_is_text : FnScope n_is_text ["value"] (defScope s_is_text) := ⟨rfl, rfl, rfl, by decide +kernel, rfl, by decide +kernel, by decide +kernel⟩
abbrev s_is_word : Stmt := top 13
abbrev n_is_word : List Str := ["value"]
theorem sc_is_word : FnScope n_is_word ["value"] (defScope s_is_word) := ⟨rfl, rfl, rfl, by decide +kernel, rfl, by decide +kernel, by decide +kernel⟩
abbrev s_first_word : Stmt := top 14
abbrev n_first_word : List Str := ["value"]
theorem sc_first_word : FnScope n_first_word ["value"] (defScope s_first_word) := ⟨rfl, rfl, rfl, by decide +kernel, rfl, by decide +kernel, by decide +kernel⟩
abbrev s_is_piece : Stmt := top 17
abbrev n_is_piece : List Str := ["value"]
theorem sc_is_piece : FnScope n_is_piece ["value"] (defScope s_is_piece) := ⟨rfl, rfl, rfl, by decide +kernel, rfl, by decide +kernel, by decide +kernel⟩
abbrev s_is_pattern : Stmt := top 18
abbrev n_is_pattern : List Str := ["value", "first", "middles", "last", "piece"]
theorem sc_is_pattern : FnScope n_is_pattern ["value"] (defScope s_is_pattern) := ⟨rfl, rfl, rfl, by decide +kernel, rfl, by decide +kernel, by decide +kernel⟩
abbrev s_has_word : Stmt := top 23
abbrev n_has_word : List Str := ["value"]
theorem sc_has_word : FnScope n_has_word ["value"] (defScope s_has_word) := ⟨rfl, rfl, rfl, by decide +kernel, rfl, by decide +kernel, by decide +kernel⟩
abbrev s_has_text : Stmt := top 24
abbrev n_has_text : List Str := ["value"]
theorem sc_has_text : FnScope n_has_text ["value"] (defScope s_has_text) := ⟨rfl, rfl, rfl, by decide +kernel, rfl, by decide +kernel, by decide +kernel⟩
abbrev s_has_pattern : Stmt := top 25
abbrev n_has_pattern : List Str := ["value"]
theorem sc_has_pattern : FnScope n_has_pattern ["value"] (defScope s_has_pattern) := ⟨rfl, rfl, rfl, by decide +kernel, rfl, by decide +kernel, by decide +kernel⟩
abbrev s_has_number : Stmt := top 26
abbrev n_has_number : List Str := ["value"]
theorem sc_has_number : FnScope n_has_number ["value"] (defScope s_has_number) := ⟨rfl, rfl, rfl, by decide +kernel, rfl, by decide +kernel, by decide +kernel⟩
abbrev s_is_item : Stmt := top 28
abbrev n_is_item : List Str := ["value", "word", "action"]
theorem sc_is_item : FnScope n_is_item ["value"] (defScope s_is_item) := ⟨rfl, rfl, rfl, by decide +kernel, rfl, by decide +kernel, by decide +kernel⟩
abbrev s_parts_of : Stmt := top 29
abbrev n_parts_of : List Str := ["value", "word"]
theorem sc_parts_of : FnScope n_parts_of ["value"] (defScope s_parts_of) := ⟨rfl, rfl, rfl, by decide +kernel, rfl, by decide +kernel, by decide +kernel⟩
abbrev s_is_filter : Stmt := top 30
abbrev n_is_filter : List Str := ["value", "ahead", "many", "part", "deep", "parts", "each"]
theorem sc_is_filter : FnScope n_is_filter ["value"] (defScope s_is_filter) := ⟨rfl, rfl, rfl, by decide +kernel, rfl, by decide +kernel, by decide +kernel⟩
abbrev s_need_filter : Stmt := top 31
abbrev n_need_filter : List Str := ["asked"]
theorem sc_need_filter : FnScope n_need_filter ["asked"] (defScope s_need_filter) := ⟨rfl, rfl, rfl, by decide +kernel, rfl, by decide +kernel, by decide +kernel⟩
abbrev s_pushed : Stmt := top 34
abbrev n_pushed : List Str := ["asked", "is_turned", "word", "each"]
theorem sc_pushed : FnScope n_pushed ["asked", "is_turned"] (defScope s_pushed) := ⟨rfl, rfl, rfl, by decide +kernel, rfl, by decide +kernel, by decide +kernel⟩
abbrev s_opened : Stmt := top 35
abbrev n_opened : List Str := ["word", "members", "found", "member", "rows", "row"]
theorem sc_opened : FnScope n_opened ["word", "members"] (defScope s_opened) := ⟨rfl, rfl, rfl, by decide +kernel, rfl, by decide +kernel, by decide +kernel⟩
abbrev s_is_needless : Stmt := top 36
abbrev n_is_needless : List Str := ["member", "members", "inner", "other", "rows", "row"]
theorem sc_is_needless : FnScope n_is_needless ["member", "members", "inner"] (defScope s_is_needless) := ⟨rfl, rfl, rfl, by decide +kernel, rfl, by decide +kernel, by decide +kernel⟩
abbrev s_put_right : Stmt := top 37
abbrev n_put_right : List Str := ["asked", "word", "inner", "members", "kept", "member", "each"]
theorem sc_put_right : FnScope n_put_right ["asked"] (defScope s_put_right) := ⟨rfl, rfl, rfl, by decide +kernel, rfl, by decide +kernel, by decide +kernel⟩
abbrev s_many_parts : Stmt := top 38
abbrev n_many_parts : List Str := ["asked", "each"]
theorem sc_many_parts : FnScope n_many_parts ["asked"] (defScope s_many_parts) := ⟨rfl, rfl, rfl, by decide +kernel, rfl, by decide +kernel, by decide +kernel⟩
abbrev s_bounded : Stmt := top 39
abbrev n_bounded : List Str := ["form"]
theorem sc_bounded : FnScope n_bounded ["form"] (defScope s_bounded) := ⟨rfl, rfl, rfl, by decide +kernel, rfl, by decide +kernel, by decide +kernel⟩
abbrev s_normal : Stmt := top 40
abbrev n_normal : List Str := ["asked"]
theorem sc_normal : FnScope n_normal ["asked"] (defScope s_normal) := ⟨rfl, rfl, rfl, by decide +kernel, rfl, by decide +kernel, by decide +kernel⟩
abbrev s_opposite : Stmt := top 41
abbrev n_opposite : List Str := ["asked"]
theorem sc_opposite : FnScope n_opposite ["asked"] (defScope s_opposite) := ⟨rfl, rfl, rfl, by decide +kernel, rfl, by decide +kernel, by decide +kernel⟩
abbrev s_is_normal : Stmt := top 42
abbrev n_is_normal : List Str := ["value"]
theorem sc_is_normal : FnScope n_is_normal ["value"] (defScope s_is_normal) := ⟨rfl, rfl, rfl, by decide +kernel, rfl, by decide +kernel, by decide +kernel⟩
abbrev s_law_dice : Stmt := top 44
abbrev n_law_dice : List Str := ["_law_script", "_law_at", "_law_cell", "_law_great", "_law_left", "_law_mixed"]
theorem sc_law_dice : FnScope n_law_dice ["_law_script", "_law_at"] (defScope s_law_dice) := ⟨rfl, rfl, rfl, by decide +kernel, rfl, by decide +kernel, by decide +kernel⟩
abbrev s_law_roll : Stmt := top 45
abbrev n_law_roll : List Str := ["_law_dice_here", "_law_total", "_law_size", "_law_drawn", "_law_one", "_law_two"]
theorem sc_law_roll : FnScope n_law_roll ["_law_dice_here", "_law_total"] (defScope s_law_roll) := ⟨rfl, rfl, rfl, by decide +kernel, rfl, by decide +kernel, by decide +kernel⟩
abbrev s_law_one_of : Stmt := top 46
abbrev n_law_one_of : List Str := ["_law_dice_here", "_law_items_here"]
theorem sc_law_one_of : FnScope n_law_one_of ["_law_dice_here", "_law_items_here"] (defScope s_law_one_of) := ⟨rfl, rfl, rfl, by decide +kernel, rfl, by decide +kernel, by decide +kernel⟩
abbrev s_law_wish : Stmt := top 47
abbrev n_law_wish : List Str := ["_law_dice_here", "_law_deep", "_law_lot", "_law_some", "_law_many", "_law_turn"]
theorem sc_law_wish : FnScope n_law_wish ["_law_dice_here", "_law_deep"] (defScope s_law_wish) := ⟨rfl, rfl, rfl, by decide +kernel, rfl, by decide +kernel, by decide +kernel⟩
abbrev s_law_value : Stmt := top 48
abbrev n_law_value : List Str := ["_law_wish_here", "_law_values", "_law_told_here", "_law_strong", "_law_weak", "_law_one"]
theorem sc_law_value : FnScope n_law_value ["_law_wish_here", "_law_values"] (defScope s_law_value) := ⟨rfl, rfl, rfl, by decide +kernel, rfl, by decide +kernel, by decide +kernel⟩
abbrev s_law_items : Stmt := top 49
abbrev n_law_items : List Str := ["_law_wish_here", "_law_found", "_law_one", "_law_item"]
theorem sc_law_items : FnScope n_law_items ["_law_wish_here"] (defScope s_law_items) := ⟨rfl, rfl, rfl, by decide +kernel, rfl, by decide +kernel, by decide +kernel⟩
abbrev s_law_all_values : Stmt := top 50
abbrev n_law_all_values : List Str := ["_law_items_here", "_law_found", "_law_item", "_law_more", "_law_values", "_law_one"]
theorem sc_law_all_values : FnScope n_law_all_values ["_law_items_here"] (defScope s_law_all_values) := ⟨rfl, rfl, rfl, by decide +kernel, rfl, by decide +kernel, by decide +kernel⟩
abbrev s_law_pushed : Stmt := top 51
abbrev n_law_pushed : List Str := ["_law_wish_here", "_law_is_turned", "_law_word", "_law_one"]
theorem sc_law_pushed : FnScope n_law_pushed ["_law_wish_here", "_law_is_turned"] (defScope s_law_pushed) := ⟨rfl, rfl, rfl, by decide +kernel, rfl, by decide +kernel, by decide +kernel⟩
abbrev s_law_says_nothing : Stmt := top 52
abbrev n_law_says_nothing : List Str := ["_law_word", "_law_one", "_law_others", "_law_other", "_law_part"]
theorem sc_law_says_nothing : FnScope n_law_says_nothing ["_law_word", "_law_one", "_law_others"] (defScope s_law_says_nothing) := ⟨rfl, rfl, rfl, by decide +kernel, rfl, by decide +kernel, by decide +kernel⟩
abbrev s_law_put_right : Stmt := top 53
abbrev n_law_put_right : List Str := ["_law_wish_here", "_law_word", "_law_turned", "_law_members", "_law_part", "_law_one", "_law_left", "_law_other"]
theorem sc_law_put_right : FnScope n_law_put_right ["_law_wish_here"] (defScope s_law_put_right) := ⟨rfl, rfl, rfl, by decide +kernel, rfl, by decide +kernel, by decide +kernel⟩
abbrev s_law_parts : Stmt := top 54
abbrev n_law_parts : List Str := ["_law_wish_here", "_law_one"]
theorem sc_law_parts : FnScope n_law_parts ["_law_wish_here"] (defScope s_law_parts) := ⟨rfl, rfl, rfl, by decide +kernel, rfl, by decide +kernel, by decide +kernel⟩
abbrev s_law_told : Stmt := top 55
abbrev n_law_told : List Str := ["_law_call", "e"]
theorem sc_law_told : FnScope n_law_told ["_law_call"] (defScope s_law_told) := ⟨rfl, rfl, rfl, by decide +kernel, rfl, by decide +kernel, by decide +kernel⟩
abbrev s_law_right : Stmt := top 56
abbrev n_law_right : List Str := ["_law_wish_here", "_law_due", "_law_turned", "_law_exchanged", "_law_values", "_law_value_here"]
theorem sc_law_right : FnScope n_law_right ["_law_wish_here"] (defScope s_law_right) := ⟨rfl, rfl, rfl, by decide +kernel, rfl, by decide +kernel, by decide +kernel⟩
abbrev s_law : Stmt := top 57
abbrev n_law : List Str := ["_law_script", "_law_at", "_law_dice_here", "_law_turn", "_law_told_here", "_law_due", "_law_odd", "_law_items_here", "_law_value_here", "_law_item"]
theorem sc_law : FnScope n_law ["_law_script"] (defScope s_law) := ⟨rfl, rfl, rfl, by decide +kernel, rfl, by decide +kernel, by decide +kernel⟩
/-! ### a def of the program, known by its name -/
structure Dfn (P : Program) (w : World) (K : PySem.W.Frag) (mg : Str → Option Value) (base : Heap) (x : Str) (k : Nat) (ps : List Str) (sp : Sp) : Prop where
  ex : ∃ (f : Addr) (fd : FuncData), FnOk P w K mg base CX0 k f fd ps sp ∧ mg x = some (.ref f) ∧ PySem.W.keepIn K (.ref f) = true ∧ Binds K fd ps []
/-- a def that raises -/
structure DfnX (P : Program) (w : World) (K : PySem.W.Frag) (mg : Str → Option Value) (base : Heap) (x : Str) (k : Nat) (ps : List Str) (sp : Sp) : Prop where
  ex : ∃ (f : Addr) (fd : FuncData), FnOk P w K mg base (L2.CX P w) k f fd ps sp ∧ mg x = some (.ref f) ∧ PySem.W.keepIn K (.ref f) = true ∧ Binds K fd ps []
section
variable {X : Cx} {x : Str} {k m : Nat} {ps : List Str} {sp : Sp} {e : Expr} {es : List Expr} {t : TA} {p pos : Pos}
theorem pe_d (D : Dfn X.prog X.w X.K X.mg X.base x k ps sp) (hr : Room m X.A) (hm : k ≤ m) (ha : PA X (e :: es) t) (hg : Gl X x := by rfl)
    (hdb : (x == ("__debug__" : Str)) = false := by decide)
    (he : starEach (e :: es) X.env = (false, eval e X.env) :: starEach es X.env := by rfl) (hpl : (backTo pos (starEach es X.env)).any (·.1) = false := by rfl) :
    PE X (.Call (.Name x p) (e :: es) [] pos) (tCall sp [] E0 t) := by
  obtain ⟨f, fd, F, mf, kp, b⟩ := D.ex
  exact pe_call F (hr.mono hm) hg mf kp b .nil pass0 ha hdb he hpl
theorem pe_dX {W : WX} (D : DfnX X.prog X.w X.K X.mg X.base x k ps sp) (tk : Takes X W) (hr : Room m X.A) (hm : k ≤ m) (ha : PA X (e :: es) t) (hg : Gl X x := by rfl)
    (hdb : (x == ("__debug__" : Str)) = false := by decide)
    (he : starEach (e :: es) X.env = (false, eval e X.env) :: starEach es X.env := by rfl) (hpl : (backTo pos (starEach es X.env)).any (·.1) = false := by rfl) :
    PE X (.Call (.Name x p) (e :: es) [] pos) (tCallS sp (WE W) t) := by
  obtain ⟨f, fd, F, mf, kp, b⟩ := D.ex
  exact pe_callS F (hr.mono hm) hg mf kp b (fun σ => passAt tk σ) ha hdb he hpl
end
/-- what the top has left, apart from the defs -/
structure Txt (w : World) (K : PySem.W.Frag) (mg : Str → Option Value) (aO : Addr) : Prop where
  b_len : mg "len" = none
  b_int : mg "int" = none
  b_abs : mg "abs" = none
  b_max : mg "max" = none
  b_min : mg "min" = none
  b_range : mg "range" = none
  b_isinstance : mg "isinstance" = none
  b_tuple : mg "tuple" = none
  b_all : mg "all" = none
  b_str : mg "str" = none
  b_repr : mg "repr" = none
  b_list : mg "list" = none
  b_sum : mg "sum" = none
  b_sorted : mg "sorted" = none
  b_dict : mg "dict" = none
  b_bool : mg "bool" = none
  b_OverflowError : mg "OverflowError" = none
  g_OTHER : mg "OTHER" = some (.ref aO)
  oth : ∃ es n, KDict K w aO es n
  o_and : ∃ t, PySem.W.nsIn K aO "and" = some (some (.str "or" t))
  o_or : ∃ t, PySem.W.nsIn K aO "or" = some (some (.str "and" t))
  o_no : ∀ x ∈ (["has", "is", "class", "within", "not"] : List Str), PySem.W.nsIn K aO x = some none
  g_number : ∃ t, mg "MOST_NUMBER" = some (.int 1000000000000 t)
  g_text : ∃ t, mg "MOST_TEXT" = some (.int 100 t)
  g_word : ∃ t, mg "MOST_WORD" = some (.int 12 t)
  g_deep : ∃ t, mg "MAX_DEEP" = some (.int 6 t)
  g_parts : ∃ t, mg "MAX_PARTS" = some (.int 32 t)
/-- the words ahead of askings -/
structure TxB (w : World) (K : PySem.W.Frag) (mg : Str → Option Value) (aB : Addr) : Prop where
  g : mg "BEGINNINGS" = some (.ref aB)
  d : ∃ es n, KDict K w aB es n
  yes : ∀ x ∈ (["and", "or", "not"] : List Str), ∃ v, PySem.W.nsIn K aB x = some (some v)
  no : ∀ x ∈ (["", "has", "is", "class", "within"] : List Str), PySem.W.nsIn K aB x = some none
/-- the items' judges -/
structure TxI (w : World) (K : PySem.W.Frag) (mg : Str → Option Value) (aI fW fT fN : Addr) : Prop where
  g : mg "ITEMS" = some (.ref aI)
  d : ∃ es n, KDict K w aI es n
  has : PySem.W.nsIn K aI "has" = some (some (.ref fW))
  is : PySem.W.nsIn K aI "is" = some (some (.ref fT))
  cls : PySem.W.nsIn K aI "class" = some (some (.ref fW))
  within : PySem.W.nsIn K aI "within" = some (some (.ref fN))
  no : PySem.W.nsIn K aI "" = some none
end Bw

namespace Bw
open PySem PySem.Spec L2 TL PyProof.Rows Ask

theorem same_new {H : Hp} {p : Addr} {o : HO} (h : H p = none) : Same H (upd H p o) := fun b u e => (upd_ne (ne_of_none e h)).trans e
theorem sqT_set {K : PySem.W.Frag} {H : Hp} {a p : Addr} {us : List V} {o : List V} {o2 : HO} (q : SqT K H a us) (hp : H p = some (.lst o)) : SqT K (upd H p o2) a us := by
  rcases q with (q | ⟨z, q⟩) | q
  · exact .inl (.inl ((upd_ne fun e => by rw [e, hp] at q; exact nomatch q).trans q))
  · exact .inl (.inr ⟨z, (upd_ne fun e => by rw [e, hp] at q; exact nomatch q).trans q⟩)
  · exact .inr q
mutual
theorem dp_set {K : PySem.W.Frag} {H : Hp} {p : Addr} {o : List V} {o2 : HO} (hp : H p = some (.lst o)) : ∀ (d : PyData) (v : V), tame d = true → Dp K H v d → Dp K (upd H p o2) v d
  | .int _, _, _, h => by cases h; exact .int _
  | .str _, _, _, h => by cases h; exact .str _
  | .tuple ds, _, t, h => by
    cases h with
    | tup q r => exact .tup (sqT_set q hp) (dpAll_set hp ds _ (by simpa [tame] using t) r)
  | .none, _, t, _ => absurd t (by simp [tame])
  | .bool _, _, t, _ => absurd t (by simp [tame])
  | .list _, _, t, _ => absurd t (by simp [tame])
  | .dict _, _, t, _ => absurd t (by simp [tame])
theorem dpAll_set {K : PySem.W.Frag} {H : Hp} {p : Addr} {o : List V} {o2 : HO} (hp : H p = some (.lst o)) : ∀ (ds : List PyData) (vs : List V), tameAll ds = true → DpAll K H vs ds → DpAll K (upd H p o2) vs ds
  | [], _, _, h => by cases h; exact .nil
  | d :: ds, _, t, h => by
    have t2 : tame d = true ∧ tameAll ds = true := by simpa [tameAll] using t
    cases h with
    | cons a r => exact .cons (dp_set hp d _ t2.1 a) (dpAll_set hp ds _ t2.2 r)
end
theorem Ask.AtF.set {K : PySem.W.Frag} {H : Hp} {p : Addr} {o : List V} {o2 : HO} {v : V} {f : F Itm} (h : AtF K H v f) (hp : H p = some (.lst o)) : AtF K (upd H p o2) v f := dp_set hp _ _ (tame_enc f) h
theorem tame_map (l : List (F Itm)) : tameAll (l.map fun f => enc f) = true := tameAll_of fun x hx => by
  obtain ⟨f, _, rfl⟩ := List.mem_map.mp hx
  exact tame_enc f
theorem Ask.AtL.set {K : PySem.W.Frag} {H : Hp} {p : Addr} {o : List V} {o2 : HO} {vs : List V} {l : List (F Itm)} (h : AtL K H vs l) (hp : H p = some (.lst o)) : AtL K (upd H p o2) vs l := dpAll_set hp _ _ (tame_map l) h
theorem root_of {w : Bool} {f : F Itm} (h : first f = wrd w) : ∃ l, f = .of w l := by
  have n := wrd_ne w
  match f, h with
  | .it (.has _), h => exact absurd h.symm n.1
  | .it (.is ..), h => exact absurd h.symm n.2.1
  | .it (.cls _), h => exact absurd h.symm n.2.2.1
  | .it (.within _), h => exact absurd h.symm n.2.2.2.1
  | .no _, h => exact absurd h.symm n.2.2.2.2
  | .of v l, h => exact ⟨l, by rw [wrd_inj h]⟩
/-- the members, opened -/
def spOpened (K : PySem.W.Frag) : Sp := fun vs H Q _ => ∃ (w : Bool) (a : Addr) (us : List V) (l : List (F Itm)) (n : Nat), vs = [.str (wrd w), .ref a] ∧ H a = some (.lst us) ∧ AtL K H us l ∧ (∀ f ∈ l, Ok f) ∧ (∀ f ∈ l, Hg n f) ∧ n ≤ 29 ∧ (l.flatMap (rowsOf w)).length ≤ 1000 ∧
  ∀ p ys H', Same H H' → H p = none → H' p = some (.lst ys) → AtL K H' ys (opened w l) → Q (.ref p) H'
theorem Ask.Hg.up {n m : Nat} {f : F Itm} (h : Hg n f) (k : n ≤ m) : Hg m f := by
  induction h generalizing m with
  | it n a => exact .it m a
  | no h ih =>
    match m, k with
    | m + 1, k => exact .no (ih (by omega))
  | of w h ih =>
    match m, k with
    | m + 1, k => exact .of w fun f hf => ih f hf (by omega)
theorem Ask.Ok.rows {w : Bool} {f : F Itm} (h : Ok f) : ∀ r ∈ rowsOf w f, Ok r := by
  by_cases e : root w f
  · cases f with
    | it a => exact e.elim
    | no f => exact e.elim
    | of v l =>
      have : v = w := e
      subst this
      rw [rowsOf_of]
      cases h with
      | of _ h => exact h
  · rw [rowsOf_not e]
    intro r hr
    rw [List.mem_singleton.mp hr]
    exact h
theorem Ask.Hg.rows {n : Nat} {w : Bool} {f : F Itm} (h : Hg n f) : ∀ r ∈ rowsOf w f, Hg n r := by
  by_cases e : root w f
  · cases f with
    | it a => exact e.elim
    | no f => exact e.elim
    | of v l =>
      have : v = w := e
      subst this
      rw [rowsOf_of]
      cases h with
      | of _ h => exact fun r hr => (h r hr).up (by omega)
  · rw [rowsOf_not e]
    intro r hr
    rw [List.mem_singleton.mp hr]
    exact h
theorem uniq_snoc {l acc : List (F Itm)} {r : F Itm} : uniq acc (l ++ [r]) = if r ∈ uniq acc l then uniq acc l else uniq acc l ++ [r] := by
  induction l generalizing acc with
  | nil => rfl
  | cons x l ih =>
    rw [List.cons_append, uniq, ih]
    rfl
theorem uniq_len : ∀ {l acc : List (F Itm)}, (uniq acc l).length ≤ acc.length + l.length
  | [], acc => by simp [uniq]
  | x :: l, acc => by
    rw [uniq]
    refine Nat.le_trans (uniq_len (l := l)) ?_
    split
    · simp only [List.length_cons]
      omega
    · simp only [List.length_append, List.length_cons, List.length_nil]
      omega
theorem rows_len {l : List (F Itm)} {i : Nat} {g : F Itm} {φ : F Itm → List (F Itm)} (h : l[i]? = some g) : ((l.take i).flatMap φ).length + (φ g).length ≤ (l.flatMap φ).length := by
  obtain ⟨hi, e⟩ := List.getElem?_eq_some_iff.mp h
  have s : l.flatMap φ = (l.take i).flatMap φ ++ (φ g ++ (l.drop (i + 1)).flatMap φ) := by
    conv => lhs; rw [← List.take_append_drop i l]
    rw [List.flatMap_append, List.drop_eq_getElem_cons hi, e, List.flatMap_cons]
  rw [s, List.length_append, List.length_append]
  omega
section
variable {P : Program} {w : World} {K : PySem.W.Frag} {mg : Str → Option Value} {base : Heap} {f : Addr} {fd : FuncData} {aO : Addr}
theorem ok_opened (Fo : Fun K "_opened" "_opened" s_opened f fd) (T : Txt w K mg aO) : FnOk P w K mg base CX0 1 f fd ["word", "members"] (spOpened K) := by
  refine Fo.ok sc_opened (fun vs H Q E h => ?_) (fun cdv A outer s H vs Q E hr h => ?_)
  · obtain ⟨w, a, us, l, n, rfl, _⟩ := h
    rfl
  · obtain ⟨w, a, us, l, n, rfl, ha, al, ok, hg, hn, hz, q⟩ := h
    have hu5 : (A.deeper (envOfC "_opened" (defScope s_opened) s.heap.objs.size f cdv)).units + 65 < cLine := by
      have := hr.un
      omega
    refine ⟨_, (pss_cons (ps_set (i := 2) sc_opened.nd rfl (Or.inl rfl) (pe_lst pa_nil)) (pss_cons (ps_for PassesOwn.never rfl (pi_list (pv 1)) (pg_name (i := 3) sc_opened.nd rfl (Or.inl rfl)) (pss_cons (ps_set (i := 4) sc_opened.nd rfl (Or.inl rfl) (pe_ifExp (pt_cmpR op_eq (pe_ix (r := rIxT K) ix_tup (pv 3) pe_int (fun _ _ => rfl)) (pv 0) (nomark _)) (pe_ix (r := rIxT K) ix_tup (pv 3) pe_int (fun _ _ => rfl)) (pe_tup (pa_cons (pv 3) pa_nil)))) (pss_one (ps_for PassesOwn.never rfl (pi_tup (pv 4)) (pg_name (i := 5) sc_opened.nd rfl (Or.inl rfl)) (pss_one (ps_if (pt_cmpR (r := rNotInD K) (op_notInD hu5) (pv 5) (pv 2) rfl) (pss_one (ps_expr (pe_bm PySem.F.plainAttrs_list PySem.F.slot_list_append PySem.F.type_list_append mt_append (pv 2) (pa_cons (pv 5) pa_nil)))) pss_nil)))))) (pss_one (ps_ret (pv 2))))), ?_⟩
    refine ⟨(by show 0 ≤ sizeLine; decide), fun p hp => ?_⟩
    refine ⟨_, rfl, a, rfl, ⟨_, SqL.of ((same_new hp) _ _ ha)⟩, for_list (K := K) (a := a) (xs := us) (fun i σ H2 => ∃ (ys : List V) (o3 o4 o5 : Option V), σ = [some (.str (wrd w)), some (.ref a), some (.ref p), o3, o4, o5] ∧ Same H H2 ∧ H2 p = some (.lst ys) ∧ AtL K H2 ys (uniq [] ((l.take i).flatMap (rowsOf w))))
      ⟨[], _, _, _, rfl, same_new hp, upd_same, .nil⟩ (fun i σ H2 _ h => by
        obtain ⟨_, _, _, _, _, sm, _⟩ := h
        exact SqL.of (sm _ _ ha)) ?_ ?_⟩
    · rintro i v σ H2 hi ⟨ys, o3, o4, o5, rfl, sm, hy, ay⟩
      obtain ⟨g, hg2, ag⟩ := (al.up sm).at_ i v hi
      obtain ⟨b, xs, rfl, sq⟩ := ag.word
      refine ⟨_, rfl, b, _, _, _, rfl, rfl, sq, atI_nat (j := 0) rfl, _, rfl, ?_⟩
      -- the rows of the member
      have bnd : l[i]? = some g := hg2
      have hgm : g ∈ l := List.mem_of_getElem? hg2
      have step : l.take (i + 1) = l.take i ++ [g] := by
        rw [List.take_add_one, hg2]
        rfl
      have fin : ∀ (H3 : Hp) (t : Addr) (rs : List V), Same H H3 → H3 p = some (.lst ys) → SqT K H3 t rs → AtL K H3 rs (rowsOf w g) → AtL K H3 ys (uniq [] ((l.take i).flatMap (rowsOf w))) → ∀ D : Ends, (∀ (σ : L2.St) (H2 : Hp), (∃ (ys : List V) (o3 o4 o5 : Option V), σ = [some (.str (wrd w)), some (.ref a), some (.ref p), o3, o4, o5] ∧ Same H H2 ∧ H2 p = some (.lst ys) ∧ AtL K H2 ys (uniq [] ((l.take (i + 1)).flatMap (rowsOf w)))) → D.nx σ H2) →
          tFor (iTup K (tVar 4)) (gName 5) (tIfS (tTest (tOp (rNotInD K) (tVar 5) (tVar 2))) (tDrop (tBM K "list" rAppend (tVar 2) (tCons (tVar 5) tNil))) tNext) D [some (.str (wrd w)), some (.ref a), some (.ref p), some (.ref b), some (.ref t), o5] H3 := by
        intro H3 t rs sm3 hy3 st ar ay3 D done
        have okr : ∀ r ∈ rowsOf w g, Ok r := (ok g hgm).rows
        have hgr : ∀ r ∈ rowsOf w g, Hg n r := (hg g hgm).rows
        have len1 := rows_len (φ := rowsOf w) hg2
        refine ⟨_, rfl, t, rfl, ⟨_, st⟩, for_tup (K := K) (a := t) (xs := rs) (fun j σ H4 => ∃ (zs : List V) (o5 : Option V), σ = [some (.str (wrd w)), some (.ref a), some (.ref p), some (.ref b), some (.ref t), o5] ∧ Same H H4 ∧ H4 p = some (.lst zs) ∧ SqT K H4 t rs ∧ AtL K H4 rs (rowsOf w g) ∧
            AtL K H4 zs (uniq [] ((l.take i).flatMap (rowsOf w) ++ (rowsOf w g).take j)))
          ⟨ys, _, rfl, sm3, hy3, st, ar, by rw [List.take_zero, List.append_nil]; exact ay3⟩ (fun j σ H4 _ h => ?_) ?_ ?_⟩
        · obtain ⟨_, _, _, _, _, st, _⟩ := h
          exact st
        · rintro j x σ H4 hj ⟨zs, o5, rfl, sm4, hz4, st4, ar4, az⟩
          obtain ⟨r, hr, axr⟩ := ar4.at_ j x hj
          have hrm : r ∈ rowsOf w g := List.mem_of_getElem? hr
          have mem : ∀ f ∈ uniq [] ((l.take i).flatMap (rowsOf w) ++ (rowsOf w g).take j), Ok f ∧ Hg n f := fun f hf => by
            rcases mem_uniq.mp hf with hf | hf
            · exact nomatch hf
            · rcases List.mem_append.mp hf with hf | hf
              · obtain ⟨m, hm, hf⟩ := List.mem_flatMap.mp hf
                have hm2 := List.mem_of_mem_take hm
                exact ⟨(ok m hm2).rows f hf, (hg m hm2).rows f hf⟩
              · have := List.mem_of_mem_take hf
                exact ⟨okr f this, hgr f this⟩
          have step2 : (rowsOf w g).take (j + 1) = (rowsOf w g).take j ++ [r] := by
            rw [List.take_add_one, hr]
            rfl
          have next : uniq [] ((l.take i).flatMap (rowsOf w) ++ (rowsOf w g).take (j + 1)) = if r ∈ uniq [] ((l.take i).flatMap (rowsOf w) ++ (rowsOf w g).take j) then uniq [] ((l.take i).flatMap (rowsOf w) ++ (rowsOf w g).take j) else uniq [] ((l.take i).flatMap (rowsOf w) ++ (rowsOf w g).take j) ++ [r] := by
            rw [step2, ← List.append_assoc, uniq_snoc]
          refine ⟨_, rfl, _, rfl, enc r, _, axr, .lst (SqL.of hz4) az, shd_enc (okr r hrm) (hgr r hrm) (by omega), shd_list (fun f hf => (mem f hf).1) (fun f hf => (mem f hf).2) (by omega), ?_⟩
          rw [any_enc]
          refine ⟨_, rfl, ?_⟩
          by_cases hin : r ∈ uniq [] ((l.take i).flatMap (rowsOf w) ++ (rowsOf w g).take j)
          · rw [decide_eq_true hin]
            refine iteF ⟨zs, _, rfl, sm4, hz4, st4, ar4, ?_⟩
            rw [next, if_pos hin]
            exact az
          · rw [decide_eq_false hin]
            have size : zs.length < sizeLine := by
              have a1 := az.len
              have a2 : (uniq [] ((l.take i).flatMap (rowsOf w) ++ (rowsOf w g).take j)).length ≤ 0 + ((l.take i).flatMap (rowsOf w) ++ (rowsOf w g).take j).length := uniq_len
              rw [List.length_append, List.length_take] at a2
              have a3 : (1000 : Nat) < sizeLine := by decide
              omega
            refine iteT ⟨_, rfl, .inl ⟨rfl, _, SqL.of hz4⟩, _, rfl, p, _, _, rfl, rfl, hz4, size, ?_⟩
            refine ⟨zs ++ [x], _, rfl, fun b o z => (upd_ne (ne_of_none z hp)).trans (sm4 b o z), upd_same, sqT_set st4 hz4, ar4.set hz4, ?_⟩
            rw [next, if_neg hin]
            exact (az.set hz4).snoc (axr.set hz4)
        · rintro σ H4 ⟨zs, o5, rfl, sm4, hz4, st4, ar4, az⟩
          refine done _ _ ⟨zs, _, _, _, rfl, sm4, hz4, ?_⟩
          rw [List.take_of_length_le (Nat.le_of_eq ar4.len.symm)] at az
          rw [step, List.flatMap_append, List.flatMap_cons, List.flatMap_nil, List.append_nil]
          exact az
      by_cases e : first g = wrd w
      · obtain ⟨rows, rfl⟩ := root_of e
        obtain ⟨b2, t, rs, e3, sq2, st, ar⟩ := ag.of
        cases e3
        refine ⟨rfl, _, rfl, ?_⟩
        rw [show decide (V.str (first (.of w rows)) = V.str (wrd w)) = true from decide_eq_true (by rw [e])]
        refine iteT ⟨_, rfl, b, _, _, _, rfl, rfl, sq2, atI_nat (j := 1) rfl, ?_⟩
        exact fin H2 t rs sm hy st (by rw [rowsOf_of]; exact ar) ay _ fun σ H2 h => h
      · refine ⟨rfl, _, rfl, ?_⟩
        rw [show decide (V.str (first g) = V.str (wrd w)) = false from decide_eq_false fun z => e (V.str.inj z)]
        refine iteF ⟨_, rfl, (by show 1 ≤ sizeLine; decide), fun t ht => ?_⟩
        have nr : ¬ root w g := fun z => by
          cases g with
          | it a => exact z.elim
          | no f => exact z.elim
          | of v m =>
            have : v = w := z
            exact e (by rw [this]; rfl)
        exact fin _ t [.ref b] (sm.trans (same_new ht)) ((same_new ht) _ _ hy) (SqT.of upd_same) (by rw [rowsOf_not nr]; exact .cons (ag.up (same_new ht)) .nil) (ay.up (same_new ht)) _ fun σ H2 h => h
    · rintro σ H2 ⟨ys, o3, o4, o5, rfl, sm, hy, ay⟩
      rw [List.take_of_length_le (Nat.le_of_eq al.len.symm)] at ay
      exact ⟨_, rfl, q p ys H2 sm hp hy ay⟩
end
end Bw

namespace Bw
open PySem PySem.Spec L2 TL PyProof.Rows Ask

/-! ### in, of tuples of data -/
def rInT (K : PySem.W.Frag) : R2 := fun x y H Q => ∃ d ds, Dp K H x d ∧ Dp K H y (.tuple ds) ∧ SeqAt.shaped d = true ∧ SeqAt.shaped (.tuple ds) = true ∧ Q (.bl (ds.any fun z => PyData.eqv z d)) H
section
variable {X : Cx}
theorem op_inT (hu : X.A.units + 65 < cLine) : OpR X (compareOp .In) (rInT X.K) := by
  rintro pins s σ H x y v u Q I rx ry ⟨d, ds, hd, he, sd, se, q⟩
  obtain ⟨as, r1⟩ := Dp.reads I d x v hd rx
  obtain ⟨bs, r2⟩ := Dp.reads I (.tuple ds) y u he ry
  exact SeqAt.in_tuple_reads r2 r1 (SeqAt.canLay_of_shaped se) (SeqAt.canLay_of_shaped sd) (room_in_shaped sd hu) ⟨.bl _, H, I, rfl, q⟩
end
theorem shd_tup {n : Nat} {l : List (F Itm)} (h : ∀ f ∈ l, Ok f) (k : ∀ f ∈ l, Hg n f) (hn : n ≤ 30) : SeqAt.shaped (.tuple (l.map fun f => enc f)) = true := by
  have := shd_list h k hn
  unfold SeqAt.shaped at *
  simpa [PyData.canLay0, PyData.depth] using this
theorem Ask.AtL.zip {K : PySem.W.Frag} {H : Hp} : ∀ {vs : List V} {l : List (F Itm)}, AtL K H vs l → ∃ zs : List (V × F Itm), vs = zs.map Prod.fst ∧ l = zs.map Prod.snd ∧ ∀ z ∈ zs, AtF K H z.1 z.2
  | [], [], _ => ⟨[], rfl, rfl, fun _ z => nomatch z⟩
  | [], _ :: _, h => nomatch h
  | _ :: _, [], h => nomatch h
  | v :: vs, f :: l, h => by
    cases h with
    | cons a r =>
      obtain ⟨zs, e1, e2, e3⟩ := AtL.zip (vs := vs) (l := l) r
      refine ⟨(v, f) :: zs, by rw [e1]; rfl, by rw [e2]; rfl, fun z hz => ?_⟩
      rcases List.mem_cons.mp hz with rfl | hz
      · exact a
      · exact e3 z hz
theorem paired_map {α : Type} {φ : α → V} : ∀ {xs : List α} {ys : List V}, Paired (fun x v => v = φ x) xs ys → ys = xs.map φ
  | _, _, .nil => rfl
  | _, _, .cons e t => by rw [e, paired_map t]; rfl
theorem filter_all {α : Type} (l : List α) : l.filter (fun _ => true) = l := List.filter_eq_self.mpr fun _ _ => rfl
def spNeedless (K : PySem.W.Frag) : Sp := fun vs H Q _ => ∃ (i : Bool) (m : F Itm) (v : V) (a : Addr) (us : List V) (l : List (F Itm)) (n : Nat), vs = [v, .ref a, .str (wrd i)] ∧ AtF K H v m ∧ H a = some (.lst us) ∧ AtL K H us l ∧ Ok m ∧ Hg n m ∧ (∀ f ∈ l, Ok f) ∧ (∀ f ∈ l, Hg n f) ∧ n ≤ 29 ∧ (∀ f ∈ l, (rowsOf i f).length ≤ 1000) ∧
  ∀ H', Same H H' → Q (.bl (needless i m l)) H'
section
variable {P : Program} {w : World} {K : PySem.W.Frag} {mg : Str → Option Value} {base : Heap} {f : Addr} {fd : FuncData} {aO : Addr}
theorem ok_is_needless (Fo : Fun K "_is_needless" "_is_needless" s_is_needless f fd) (T : Txt w K mg aO) : FnOk P w K mg base CX0 1 f fd ["member", "members", "inner"] (spNeedless K) := by
  refine Fo.ok sc_is_needless (fun vs H Q E h => ?_) (fun cdv A outer s H vs Q E hr h => ?_)
  · obtain ⟨i, m, v, a, us, l, n, rfl, _⟩ := h
    rfl
  · obtain ⟨i, m, v, a, us, l, n, rfl, am, ha, al, okm, hgm, ok, hg, hn, hz, q⟩ := h
    have hu5 : (A.deeper (envOfC "_is_needless" (defScope s_is_needless) s.heap.objs.size f cdv)).units + 65 < cLine := by
      have := hr.un
      omega
    refine ⟨_, (pss_cons (ps_if (pt_cmpR op_ne (pe_ix (r := rIxT K) ix_tup (pv 0) pe_int (fun _ _ => rfl)) (pv 2) (nomark _)) (pss_one (ps_ret pe_bl)) pss_nil) (pss_cons (ps_for PassesOwn.never rfl (pi_list (pv 1)) (pg_name (i := 3) sc_is_needless.nd rfl (Or.inl rfl)) (pss_cons (ps_set (i := 4) sc_is_needless.nd rfl (Or.inl rfl) (pe_ifExp (pt_cmpR op_eq (pe_ix (r := rIxT K) ix_tup (pv 3) pe_int (fun _ _ => rfl)) (pv 2) (nomark _)) (pe_ix (r := rIxT K) ix_tup (pv 3) pe_int (fun _ _ => rfl)) (pe_tup (pa_cons (pv 3) pa_nil)))) (pss_one (ps_if (PW.pt (pw_and (pt_cmpR (r := rNeD K) (op_neD hr.units) (pv 3) (pv 0) (nomark _)) (pw_and1 (pt_truth (pe_callB (r := rAll K) (cr_all rfl) (by rfl) T.b_all (by decide +kernel) (pa_cons (pe_lc (own := [("row", 5)]) (g := gName 5) (by rfl) sc_is_needless.nd (pi_tup (pv 4)) (blkOk_by (own := [("row", 5)]) (N := n_is_needless) (sc := defScope s_is_needless) (by decide +kernel)) (fun _ _ _ _ _ => pg_name (i := 5) sc_is_needless.nd rfl (Or.inl rfl)) (fun _ _ _ _ _ => pts_nil) (fun _ _ _ _ _ => (pe_cmpR (r := rInT K) (op_inT hu5) (pv 5) (pe_ix (r := rIxT K) ix_tup (pv 0) pe_int (fun _ _ => rfl)) rfl))) pa_nil)) (by intro _; rfl))))) (pss_one (ps_ret pe_bl)) pss_nil)))) (pss_one (ps_ret pe_bl)))), ?_⟩
    obtain ⟨b, xs, rfl, sq⟩ := am.word
    refine ⟨_, rfl, b, _, _, _, rfl, rfl, sq, atI_nat (j := 0) rfl, _, rfl, rfl, _, rfl, ?_⟩
    by_cases e : first m = wrd i
    · rw [show decide (V.str (first m) = V.str (wrd i)) = true from decide_eq_true (by rw [e])]
      obtain ⟨rm, rfl⟩ := root_of e
      obtain ⟨b2, t, rs, e3, sq2, st, ar⟩ := am.of
      cases e3
      refine iteF ⟨_, rfl, a, rfl, ⟨_, SqL.of ha⟩, for_list (K := K) (a := a) (xs := us) (fun j σ H2 => ∃ (o3 o4 o5 : Option V), σ = [some (.ref b), some (.ref a), some (.str (wrd i)), o3, o4, o5] ∧ Same H H2 ∧ ∀ o ∈ l.take j, ¬ (o ≠ F.of i rm ∧ ∀ r ∈ rowsOf i o, r ∈ rm))
        ⟨_, _, _, rfl, Same.refl H, fun _ z => nomatch z⟩ (fun j σ H2 _ h => by
          obtain ⟨_, _, _, _, sm, _⟩ := h
          exact SqL.of (sm _ _ ha)) ?_ ?_⟩
      · rintro j x σ H2 hj ⟨o3, o4, o5, rfl, sm, before⟩
        obtain ⟨o, hoj, ao⟩ := (al.up sm).at_ j x hj
        have om : o ∈ l := List.mem_of_getElem? hoj
        have step : l.take (j + 1) = l.take j ++ [o] := by
          rw [List.take_add_one, hoj]
          rfl
        obtain ⟨bo, xo, rfl, sqo⟩ := ao.word
        have fin : ∀ (H3 : Hp) (t2 : Addr) (ro : List V), Same H2 H3 → SqT K H3 t2 ro → AtL K H3 ro (rowsOf i o) → ∀ D : Ends, (∀ (σ : L2.St) (H4 : Hp), (∃ (o3 o4 o5 : Option V), σ = [some (.ref b), some (.ref a), some (.str (wrd i)), o3, o4, o5] ∧ Same H H4 ∧ ∀ o ∈ l.take (j + 1), ¬ (o ≠ F.of i rm ∧ ∀ r ∈ rowsOf i o, r ∈ rm)) → D.nx σ H4) → (∀ H4, Same H H4 → needless i (.of i rm) l = true → D.rt (.bl true) H4) →
            tIfS (tAnd (tTest (tOp (rNeD K) (tVar 3) (tVar 0))) fun σ H_1 Q => tCB (rAll K) (tCons (tLc (iTup K (tVar 4)) (gName 5) tYes (tOp (rInT K) (tVar 5) (tOp (rIxT K) (tVar 0) (tC (.int 1)))) (List.map (fun x => x.snd) [(("row" : Str), 5)])) tNil) σ H_1 fun x H' => ∃ k, TruV K x H' k ∧ Q k H') (tRet (tC (.bl true))) tNext D
              [some (.ref b), some (.ref a), some (.str (wrd i)), some (.ref bo), some (.ref t2), o5] H3 := by
          intro H3 t2 ro sm3 st2 aro D done ret
          have smH := sm.trans sm3
          have okr : ∀ r ∈ rowsOf i o, Ok r := (ok o om).rows
          have hgr : ∀ r ∈ rowsOf i o, Hg n r := (hg o om).rows
          have okm2 : ∀ r ∈ rm, Ok r := by
            have := okm.rows (w := i)
            rwa [rowsOf_of] at this
          have hgm2 : ∀ r ∈ rm, Hg n r := by
            have := hgm.rows (w := i)
            rwa [rowsOf_of] at this
          refine ⟨_, rfl, _, rfl, enc o, enc (.of i rm), ao.up sm3, am.up smH, shd_enc (ok o om) (hg o om) (by omega), shd_enc okm hgm (by omega), ?_⟩
          rw [eqv_enc]
          refine ⟨_, rfl, ?_⟩
          have next : ¬ (o ≠ F.of i rm ∧ ∀ r ∈ rowsOf i o, r ∈ rm) → ∀ x ∈ l.take (j + 1), ¬ (x ≠ F.of i rm ∧ ∀ r ∈ rowsOf i x, r ∈ rm) := fun no x hx => by
            rw [step] at hx
            rcases List.mem_append.mp hx with hx | hx
            · exact before x hx
            · rw [List.mem_singleton.mp hx]
              exact no
          by_cases same : o = F.of i rm
          · rw [decide_eq_true same]
            refine iteF ?_
            exact done _ _ ⟨_, _, _, rfl, smH, next fun z => z.1 same⟩
          · rw [decide_eq_false same]
            obtain ⟨zs, z1, z2, z3⟩ := aro.zip
            subst z1
            have zl : zs.length ≤ 1000 := by
              have := hz o om
              rw [z2, List.length_map] at this
              exact this
            refine iteT ⟨_, rfl, t2, rfl, ⟨_, st2⟩, fun D0 hD0 => lc_gen (xs := zs) (val := Prod.fst) (walk_tup (K := K) (a := t2) (xs := zs.map Prod.fst)) (fun _ => true) _ (keepR_val fun z : V × F Itm => V.bl (decide (z.2 ∈ rm))) hD0 zl (fun H5 s5 => ?_) ?_ ?_⟩
            · rcases st2 with (z | ⟨u, z⟩) | z
              · exact .inl (.inl (s5 _ _ z))
              · exact .inl (.inr ⟨u, s5 _ _ z⟩)
              · exact .inr z
            · intro z H5 N Y hzm s5 _ _ yes
              have azr := (z3 z hzm).up s5
              have zr : z.2 ∈ rowsOf i o := by
                rw [z2]
                exact List.mem_map.mpr ⟨z, hzm, rfl⟩
              have am5 := (am.up smH).up s5
              obtain ⟨b3, t3, rs3, e4, sq4, st4, ar4⟩ := am5.of
              cases e4
              refine ⟨rfl, ?_⟩
              unfold tYes
              refine iteT ⟨_, rfl, _, rfl, b, _, _, _, rfl, rfl, sq4, atI_nat (j := 1) rfl, ?_⟩
              refine ⟨enc z.2, _, azr, .tup st4 ar4, shd_enc (okr _ zr) (hgr _ zr) (by omega), shd_tup okm2 hgm2 (by omega), ?_⟩
              rw [any_enc]
              exact yes rfl H5 _ (Same.refl H5) rfl
            · intro H5 ys s5 hys hpr
              rw [filter_all] at hpr
              have ey := paired_map hpr
              have em : ys = (zs.map fun z => decide (z.2 ∈ rm)).map V.bl := by
                rw [ey, List.map_map]
                rfl
              refine ⟨D0, zs.map fun z => decide (z.2 ∈ rm), rfl, em ▸ SqL.of hys, ?_⟩
              have all_ : ((zs.map fun z => decide (z.2 ∈ rm)).all id = true) ↔ ∀ r ∈ rowsOf i o, r ∈ rm := by
                rw [z2]
                simp only [List.all_map, List.all_eq_true, List.mem_map, Function.comp, id, decide_eq_true_eq]
                exact ⟨fun h r ⟨z, hz2, e3⟩ => e3 ▸ h z hz2, fun h z hz2 => h _ ⟨z, hz2, rfl⟩⟩
              refine ⟨_, rfl, ?_⟩
              by_cases yes : ∀ r ∈ rowsOf i o, r ∈ rm
              · rw [all_.mpr yes]
                exact iteT (ret H5 (smH.trans s5) (needless_of.mpr ⟨o, om, same, yes⟩))
              · rw [Bool.eq_false_iff.mpr fun z => yes (all_.mp z)]
                exact iteF (done _ _ ⟨_, _, _, rfl, smH.trans s5, next fun z => yes z.2⟩)
        refine ⟨_, rfl, bo, _, _, _, rfl, rfl, sqo, atI_nat (j := 0) rfl, _, rfl, rfl, _, rfl, ?_⟩
        by_cases e2 : first o = wrd i
        · obtain ⟨rows, rfl⟩ := root_of e2
          obtain ⟨bb, t2, ro, e3, sq3, st3, ar3⟩ := ao.of
          cases e3
          rw [show decide (V.str (first (.of i rows)) = V.str (wrd i)) = true from decide_eq_true (by rw [e2])]
          refine iteT ⟨_, rfl, bo, _, _, _, rfl, rfl, sq3, atI_nat (j := 1) rfl, ?_⟩
          exact fin H2 t2 ro (Same.refl _) st3 (by rw [rowsOf_of]; exact ar3) _ (fun σ H4 h => h) fun H4 s4 z => by
            have := q H4 s4
            rwa [z] at this
        · rw [show decide (V.str (first o) = V.str (wrd i)) = false from decide_eq_false fun z => e2 (V.str.inj z)]
          refine iteF ⟨_, rfl, (by show 1 ≤ sizeLine; decide), fun t2 ht => ?_⟩
          have nr : ¬ root i o := fun z => by
            cases o with
            | it a => exact z.elim
            | no f => exact z.elim
            | of v m =>
              have : v = i := z
              exact e2 (by rw [this]; rfl)
          exact fin _ t2 [.ref bo] (same_new ht) (SqT.of upd_same) (by rw [rowsOf_not nr]; exact .cons (ao.up (same_new ht)) .nil) _ (fun σ H4 h => h) fun H4 s4 z => by
            have := q H4 s4
            rwa [z] at this
      · rintro σ H2 ⟨o3, o4, o5, rfl, sm, before⟩
        rw [List.take_of_length_le (Nat.le_of_eq al.len.symm)] at before
        have no : needless i (.of i rm) l = false := by
          rw [Bool.eq_false_iff]
          intro z
          obtain ⟨o, ho, h1, h2⟩ := needless_of.mp z
          exact before o ho ⟨h1, h2⟩
        have := q H2 sm
        rw [no] at this
        exact this
    · rw [show decide (V.str (first m) = V.str (wrd i)) = false from decide_eq_false fun z => e (V.str.inj z)]
      refine iteT ?_
      have no : needless i m l = false := by
        cases m with
        | it a => rfl
        | no f => rfl
        | of v rows =>
          unfold needless
          have : (v == i) = false := by
            rw [beq_eq_false_iff_ne]
            exact fun z => e (by rw [z]; rfl)
          dsimp only
          rw [this]
          rfl
      have := q H (Same.refl H)
      rw [no] at this
      exact this
end
end Bw

namespace Bw
open PySem PySem.Spec L2 TL PyProof.Rows Ask

def rOth (K : PySem.W.Frag) (aO : Addr) : R2 := fun x y H Q => ∃ (z : Str) (r : Option Value), x = .str z ∧ y = .ref aO ∧ PySem.W.nsIn K aO z = some r ∧ Q (.bl r.isSome) H
theorem op_oth {X : Cx} {aO : Addr} (D : ∃ es n, KDict X.K X.w aO es n) : OpR X (compareOp .In) (rOth X.K aO) := by
  obtain ⟨es, n, D⟩ := D
  exact op_in_kd D
/-- no row is long -/
inductive Few : F Itm → Prop
  | it (a : Itm) : Few (.it a)
  | no {f : F Itm} (h : Few f) : Few (.no f)
  | of (w : Bool) {l : List (F Itm)} (h : ∀ f ∈ l, Few f) (k : l.length ≤ 1000) : Few (.of w l)
theorem sqT_off {K : PySem.W.Frag} {H H2 : Hp} {a p : Addr} {us : List V} {o : List V} (q : SqT K H a us) (hp : H p = some (.lst o)) (k : ∀ b u, b ≠ p → H b = some u → H2 b = some u) : SqT K H2 a us := by
  rcases q with (q | ⟨z, q⟩) | q
  · exact .inl (.inl (k _ _ (fun e => by rw [e, hp] at q; exact nomatch q) q))
  · exact .inl (.inr ⟨z, k _ _ (fun e => by rw [e, hp] at q; exact nomatch q) q⟩)
  · exact .inr q
mutual
theorem dp_off {K : PySem.W.Frag} {H H2 : Hp} {p : Addr} {o : List V} (hp : H p = some (.lst o)) (k : ∀ b u, b ≠ p → H b = some u → H2 b = some u) : ∀ (d : PyData) (v : V), tame d = true → Dp K H v d → Dp K H2 v d
  | .int _, _, _, h => by cases h; exact .int _
  | .str _, _, _, h => by cases h; exact .str _
  | .tuple ds, _, t, h => by
    cases h with
    | tup q r => exact .tup (sqT_off q hp k) (dpAll_off hp k ds _ (by simpa [tame] using t) r)
  | .none, _, t, _ => absurd t (by simp [tame])
  | .bool _, _, t, _ => absurd t (by simp [tame])
  | .list _, _, t, _ => absurd t (by simp [tame])
  | .dict _, _, t, _ => absurd t (by simp [tame])
theorem dpAll_off {K : PySem.W.Frag} {H H2 : Hp} {p : Addr} {o : List V} (hp : H p = some (.lst o)) (k : ∀ b u, b ≠ p → H b = some u → H2 b = some u) : ∀ (ds : List PyData) (vs : List V), tameAll ds = true → DpAll K H vs ds → DpAll K H2 vs ds
  | [], _, _, h => by cases h; exact .nil
  | d :: ds, _, t, h => by
    have t2 : tame d = true ∧ tameAll ds = true := by simpa [tameAll] using t
    cases h with
    | cons a r => exact .cons (dp_off hp k d _ t2.1 a) (dpAll_off hp k ds _ t2.2 r)
end
theorem keepR_F {K : PySem.W.Frag} {α : Type} (φ : α → F Itm) : KeepR (fun H (x : α) v => AtF K H v (φ x)) := fun H H2 D x v ⟨l, hl⟩ k h => dp_off hl k _ _ (tame_enc _) h
theorem atL_paired {K : PySem.W.Frag} {H : Hp} {α : Type} {φ : α → F Itm} : ∀ {xs : List α} {ys : List V}, Paired (fun x v => AtF K H v (φ x)) xs ys → AtL K H ys (xs.map φ)
  | _, _, .nil => .nil
  | _, _, .cons e t => .cons e (atL_paired t)
theorem ite_t {c : Bool} {A B : Prop} (h : c = true) (a : A) : if c = true then A else B := (if_pos h).symm ▸ a
theorem ite_f {c : Bool} {A B : Prop} (h : ¬ c = true) (a : B) : if c = true then A else B := (if_neg h).symm ▸ a
def spPushed (K : PySem.W.Frag) (n : Nat) : Sp := fun vs H Q _ => ∃ (f : F Itm) (v : V) (t : Bool), vs = [v, .bl t] ∧ AtF K H v f ∧ Hg n f ∧ Few f ∧ ∀ H' u, Same H H' → AtF K H' u (pushed f t) → Q u H'
theorem not_in_oth {w : World} {K : PySem.W.Frag} {mg : Str → Option Value} {aO : Addr} (T : Txt w K mg aO) {f : F Itm} (h : ∀ v, ¬ root v f) : PySem.W.nsIn K aO (first f) = some none := by
  match f, h with
  | .it (.has _), _ => exact T.o_no _ (by simp [first])
  | .it (.is ..), _ => exact T.o_no _ (by simp [first])
  | .it (.cls _), _ => exact T.o_no _ (by simp [first])
  | .it (.within _), _ => exact T.o_no _ (by simp [first])
  | .no _, _ => exact T.o_no _ (by simp [first])
  | .of v l, h => exact absurd rfl (h v)
theorem in_oth {w : World} {K : PySem.W.Frag} {mg : Str → Option Value} {aO : Addr} (T : Txt w K mg aO) (v : Bool) : ∃ t, PySem.W.nsIn K aO (wrd v) = some (some (.str (wrd (!v)) t)) := by
  cases v
  · exact T.o_or
  · exact T.o_and
section
variable {P : Program} {w : World} {K : PySem.W.Frag} {mg : Str → Option Value} {base : Heap} {f : Addr} {fd : FuncData} {aO : Addr}
theorem ok_pushed_step (Fo : Fun K "_pushed" "_pushed" s_pushed f fd) (T : Txt w K mg aO) {k n : Nat} {sp : Sp} (D_pushed : Dfn P w K mg base "_pushed" k ["asked", "is_turned"] sp) (hsp : ∀ m, n = m + 1 → sp = spPushed K m) : FnOk P w K mg base CX0 (k + 1) f fd ["asked", "is_turned"] (spPushed K n) := by
  refine Fo.ok sc_pushed (fun vs H Q E h => ?_) (fun cdv A outer s H vs Q E hr h => ?_)
  · obtain ⟨g, v, t, rfl, _⟩ := h
    rfl
  · obtain ⟨g, v, t, rfl, ag, hg, few, q⟩ := h
    refine ⟨_, (pss_cons (ps_set (i := 2) sc_pushed.nd rfl (Or.inl rfl) (pe_ix (r := rIxT K) ix_tup (pv 0) pe_int (fun _ _ => rfl))) (pss_cons (ps_if (pt_cmpR op_eq (pv 2) pe_str (nomark _)) (pss_one (ps_ret (pe_d D_pushed hr (Nat.le_refl _) (pa_cons (pe_ix (r := rIxT K) ix_tup (pv 0) pe_int (fun _ _ => rfl)) (pa_cons (pe_not (pv 1)) pa_nil))))) pss_nil) (pss_cons (ps_if (pt_cmpR (r := rOth K aO) (op_oth T.oth) (pv 2) (pe_glob (v := .ref aO) rfl T.g_OTHER rfl) rfl) (pss_one (ps_ret (pe_tup (pa_cons (pe_ifExp (pt_val (pv 1)) (pe_ix ix_kdict (pe_glob (v := .ref aO) rfl T.g_OTHER rfl) (pv 2) (fun _ _ => rfl)) (pv 2)) (pa_cons (pe_callTy call_tuple_of (by rfl) T.b_tuple (by decide +kernel) (pa_cons (pe_lc (own := [("each", 3)]) (g := gName 3) (by rfl) sc_pushed.nd (pi_tup (pe_ix (r := rIxT K) ix_tup (pv 0) pe_int (fun _ _ => rfl))) (blkOk_by (own := [("each", 3)]) (N := n_pushed) (sc := defScope s_pushed) (by decide +kernel)) (fun _ _ _ _ _ => pg_name (i := 3) sc_pushed.nd rfl (Or.inl rfl)) (fun _ _ _ _ _ => pts_nil) (fun _ _ _ _ _ => (pe_d D_pushed hr (Nat.le_refl _) (pa_cons (pv 3) (pa_cons (pv 1) pa_nil))))) pa_nil)) pa_nil))))) pss_nil) (pss_one (ps_ret (pe_ifExp (pt_val (pv 1)) (pe_tup (pa_cons pe_str (pa_cons (pv 0) pa_nil))) (pv 0))))))), ?_⟩
    obtain ⟨b, xs, rfl, sq⟩ := ag.word
    refine ⟨_, rfl, b, _, _, _, rfl, rfl, sq, atI_nat (j := 0) rfl, _, rfl, rfl, _, rfl, ?_⟩
    by_cases en : first g = "not"
    · obtain ⟨g2, rfl⟩ : ∃ g2, g = .no g2 := by
        match g, en with
        | .it (.has _), en => (simp only [first] at en; exact absurd en (by decide +kernel))
        | .it (.is ..), en => (simp only [first] at en; exact absurd en (by decide +kernel))
        | .it (.cls _), en => (simp only [first] at en; exact absurd en (by decide +kernel))
        | .it (.within _), en => (simp only [first] at en; exact absurd en (by decide +kernel))
        | .no g2, _ => exact ⟨g2, rfl⟩
        | .of v l, en => exact absurd en (wrd_ne v).2.2.2.2
      rw [show decide (V.str (first (.no g2)) = V.str "not") = true from decide_eq_true (by rw [en])]
      obtain ⟨b2, u, e3, sq2, ag2⟩ := ag.no
      cases e3
      match n, hg, hsp with
      | m + 1, .no hg2, hsp =>
        obtain rfl := hsp m rfl
        cases few with
        | no few2 =>
          refine iteT ⟨_, rfl, b, _, _, _, rfl, rfl, sq2, atI_nat (j := 1) rfl, _, rfl, _, rfl, g2, u, !t, rfl, ag2, hg2, few2, fun H2 u2 sm au => q H2 u2 sm ?_⟩
          rw [pushed]
          exact au
    · rw [show decide (V.str (first g) = V.str "not") = false from decide_eq_false fun z => en (V.str.inj z)]
      refine iteF ?_
      by_cases ro : ∃ v, root v g
      · obtain ⟨v, rv⟩ := ro
        obtain ⟨l, rfl⟩ : ∃ l, g = .of v l := by
          cases g with
          | it a => exact rv.elim
          | no f => exact rv.elim
          | of u l =>
            have : u = v := rv
            exact ⟨l, by rw [this]⟩
        obtain ⟨tk, io⟩ := in_oth T v
        obtain ⟨b2, c2, us, e3, sq2, sqc, al⟩ := ag.of
        cases e3
        refine ⟨_, rfl, wrd v, _, rfl, rfl, io, _, rfl, iteT ?_⟩
        match n, hg, hsp with
        | m + 1, .of _ hg2, hsp =>
          obtain rfl := hsp m rfl
          cases few with
          | of _ few2 many =>
            obtain ⟨zs, z1, z2, z3⟩ := al.zip
            subst z1
            have zl : zs.length ≤ 1000 := by
              rw [z2, List.length_map] at many
              exact many
            have inl : ∀ z ∈ zs, z.2 ∈ l := fun z hz => by
              rw [z2]
              exact List.mem_map.mpr ⟨z, hz, rfl⟩
            obtain ⟨es, ne, KD⟩ := T.oth
            refine ⟨_, rfl, t, rfl, ?_⟩
            by_cases ht : t = true
            all_goals first
              | refine ite_t ht ⟨_, rfl, aO, wrd v, .str (wrd (!v)), rfl, rfl, ⟨es, ne, _, KD.at_, KD.lit, io, ⟨tk, rfl⟩⟩, ?_⟩
              | refine ite_f ht ⟨_, rfl, ?_⟩
            all_goals (
              refine ⟨_, rfl, b, _, _, _, rfl, rfl, sq2, atI_nat (j := 1) rfl, c2, rfl, ⟨_, sqc⟩, fun D0 hD0 => lc_gen (xs := zs) (val := Prod.fst) (walk_tup (K := K) (a := c2) (xs := zs.map Prod.fst)) (fun _ => true) _ (keepR_F (K := K) fun z : V × F Itm => pushed z.2 t) hD0 zl (fun H5 s5 => ?_) ?_ ?_⟩
              · rcases sqc with (z | ⟨u, z⟩) | z
                · exact .inl (.inl (s5 _ _ z))
                · exact .inl (.inr ⟨u, s5 _ _ z⟩)
                · exact .inr z
              · intro z H5 N Y hzm s5 _ _ yes
                refine ⟨rfl, ?_⟩
                unfold tYes
                exact iteT ⟨_, rfl, _, rfl, z.2, z.1, t, rfl, (z3 z hzm).up s5, hg2 _ (inl z hzm), few2 _ (inl z hzm), fun H6 u6 sm au => yes rfl H6 u6 sm au⟩
              · intro H5 ys s5 hys hpr
                rw [filter_all] at hpr
                have aly := atL_paired hpr
                refine ⟨D0, ys, rfl, .inl ⟨SqL.of hys, fun l2 hl2 => ⟨(by show 2 ≤ sizeLine; decide), fun p hp => q _ _ ((s5.trans (same_new hl2)).trans (same_new hp)) ?_⟩⟩⟩
                rw [pushed]
                have ew : (v != t) = (if t = true then !v else v) := by cases v <;> cases t <;> rfl
                rw [ew]
                first | rw [if_pos ht] | rw [if_neg ht]
                refine AtF.mk_of (SqT.of upd_same) (SqT.of ((same_new hp) _ _ upd_same)) ?_
                rw [z2, List.map_map]
                exact (aly.up (same_new hl2)).up (same_new hp))
      · refine ⟨_, rfl, first g, none, rfl, rfl, not_in_oth T fun v rv => ro ⟨v, rv⟩, _, rfl, iteF ?_⟩
        obtain ⟨a, rfl⟩ : ∃ a, g = .it a := by
          cases g with
          | it a => exact ⟨a, rfl⟩
          | no f => exact absurd rfl en
          | of u l => exact absurd ⟨u, rfl⟩ ro
        refine ⟨_, rfl, t, rfl, ?_⟩
        cases t with
        | true =>
          refine iteT ⟨_, rfl, (by show 2 ≤ sizeLine; decide), fun p hp => q _ _ (same_new hp) ?_⟩
          rw [pushed, if_pos rfl]
          exact AtF.mk_no (SqT.of upd_same) (ag.up (same_new hp))
        | false =>
          refine iteF ⟨_, rfl, q _ _ (Same.refl H) ?_⟩
          rw [pushed, if_neg Bool.false_ne_true]
          exact ag
end
end Bw

namespace Bw.Ask
open PySem PySem.Spec L2 TL PyProof.Rows SrtO

/-! ### sizes -/
def sz : F Itm → Nat
  | .it _ => 1
  | .no f => sz f + 1
  | .of _ l => (l.map fun f => sz f).sum + 1
def szs (l : List (F Itm)) : Nat := (l.map fun f => sz f).sum
theorem sz_of (w : Bool) (l : List (F Itm)) : sz (.of w l) = szs l + 1 := by rw [sz]; rfl
theorem szs_cons (f : F Itm) (l : List (F Itm)) : szs (f :: l) = sz f + szs l := by simp [szs]
theorem szs_app (l m : List (F Itm)) : szs (l ++ m) = szs l + szs m := by simp [szs]
theorem szs_nil : szs [] = 0 := rfl
theorem sz_pos (f : F Itm) : 1 ≤ sz f := by
  cases f with
  | it a => rw [sz]; exact Nat.le_refl 1
  | no f => rw [sz]; omega
  | of w l => rw [sz_of]; omega
theorem len_szs : ∀ l : List (F Itm), l.length ≤ szs l
  | [] => Nat.le_refl _
  | f :: l => by
    have := len_szs l
    have := sz_pos f
    rw [szs_cons, List.length_cons]
    omega
theorem szs_rows (w : Bool) (f : F Itm) : szs (rowsOf w f) ≤ sz f := by
  by_cases h : root w f
  · cases f with
    | it a => exact h.elim
    | no f => exact h.elim
    | of v l =>
      have e : v = w := h
      subst e
      rw [rowsOf_of, sz_of]
      omega
  · rw [rowsOf_not h, szs_cons, szs_nil]
    omega
theorem szs_flat (w : Bool) : ∀ l : List (F Itm), szs (l.flatMap (rowsOf w)) ≤ szs l
  | [] => Nat.le_refl _
  | f :: l => by
    rw [List.flatMap_cons, szs_app, szs_cons]
    have := szs_rows w f
    have := szs_flat w l
    omega
theorem szs_uniq : ∀ (l acc : List (F Itm)), szs (uniq acc l) ≤ szs acc + szs l
  | [], acc => by rw [uniq, szs_nil]; omega
  | x :: l, acc => by
    rw [uniq, szs_cons]
    have := szs_uniq l (if x ∈ acc then acc else acc ++ [x])
    have e : szs (if x ∈ acc then acc else acc ++ [x]) ≤ szs acc + sz x := by
      split
      · omega
      · rw [szs_app, szs_cons, szs_nil]
        omega
    omega
theorem szs_mem {f : F Itm} : ∀ {l : List (F Itm)}, f ∈ l → sz f ≤ szs l
  | [], h => nomatch h
  | g :: l, h => by
    rw [szs_cons]
    rcases List.mem_cons.mp h with rfl | h
    · omega
    · have := szs_mem h
      omega
theorem szs_sub : ∀ {l m : List (F Itm)}, l.Sublist m → szs l ≤ szs m
  | _, _, .slnil => Nat.le_refl _
  | _, _, .cons a h => by rw [szs_cons]; have := szs_sub h; omega
  | _, _, .cons₂ a h => by rw [szs_cons, szs_cons]; have := szs_sub h; omega
theorem szs_perm {l m : List (F Itm)} (h : l.Perm m) : szs l = szs m := by
  unfold szs
  exact (h.map _).sum_nat
theorem szs_ended (le : F Itm → F Itm → Bool) (w : Bool) (ms : List (F Itm)) : sz (ended le w ms) ≤ szs ms + 1 := by
  unfold ended
  split
  · rw [sz_of, szs_nil]
    omega
  · split
    · rename_i k e
      have : k ∈ ms.filter fun m => !needless (!w) m ms := by rw [e]; exact List.mem_cons_self ..
      have := szs_mem (List.mem_filter.mp this).1
      omega
    · rw [sz_of, szs_perm (List.mergeSort_perm _ le)]
      have : szs (ms.filter fun m => !needless (!w) m ms) ≤ szs ms := szs_sub List.filter_sublist
      omega
theorem szs_map_le {φ : F Itm → F Itm} {l : List (F Itm)} (h : ∀ f ∈ l, sz (φ f) ≤ sz f) : szs (l.map φ) ≤ szs l := by
  induction l with
  | nil => exact Nat.le_refl _
  | cons f l ih =>
    rw [List.map_cons, szs_cons, szs_cons]
    have := ih fun g hg => h g (.tail _ hg)
    have := h f (List.mem_cons_self ..)
    omega
theorem szs_opened (w : Bool) (l : List (F Itm)) : szs (opened w l) ≤ szs l := by
  unfold opened
  have := szs_uniq (l.flatMap (rowsOf w)) []
  rw [szs_nil] at this
  have := szs_flat w l
  omega
theorem sz_put (le : F Itm → F Itm → Bool) (f : F Itm) : sz (put le f) ≤ sz f := by
  induction f using enc.induct with
  | case1 a => rw [put]; exact Nat.le_refl _
               nofun
  | case2 f ih => rw [put]; exact Nat.le_refl _
                  nofun
  | case3 w l ih =>
    rw [put, sz_of]
    have h1 := szs_ended le w (opened w (l.map fun f => put le f))
    have h2 := szs_opened w (l.map fun f => put le f)
    have h3 := szs_map_le (φ := fun f => put le f) ih
    omega
theorem sz_pushed (f : F Itm) (t : Bool) : sz (pushed f t) ≤ 2 * sz f := by
  induction f, t using pushed.induct with
  | case1 a =>
    rw [pushed, if_pos rfl]
    simp only [sz]
    omega
  | case2 a t h =>
    rw [pushed, if_neg h]
    simp only [sz]
    omega
  | case3 f t ih =>
    rw [pushed]
    simp only [sz]
    omega
  | case4 w l t ih =>
    rw [pushed, sz_of, sz_of]
    have : ∀ m : List (F Itm), (∀ f ∈ m, sz (pushed f t) ≤ 2 * sz f) → szs (m.map fun f => pushed f t) ≤ 2 * szs m := fun m => by
      induction m with
      | nil => exact fun _ => Nat.le_refl _
      | cons f m ih2 =>
        intro hh
        rw [List.map_cons, szs_cons, szs_cons]
        have := ih2 fun g hg => hh g (.tail _ hg)
        have := hh f (List.mem_cons_self ..)
        omega
    have := this l ih
    omega
/-! ### heights and layouts are kept -/
theorem hg_opened {n : Nat} {w : Bool} {l : List (F Itm)} (h : ∀ f ∈ l, Hg n f) : ∀ r ∈ opened w l, Hg n r := fun r hr => by
  obtain ⟨m, hm, hr⟩ := mem_opened.mp hr
  exact (h m hm).rows r hr
theorem ok_opened_ {w : Bool} {l : List (F Itm)} (h : ∀ f ∈ l, Ok f) : ∀ r ∈ opened w l, Ok r := fun r hr => by
  obtain ⟨m, hm, hr⟩ := mem_opened.mp hr
  exact (h m hm).rows r hr
theorem hg_ended {n : Nat} (le : F Itm → F Itm → Bool) (w : Bool) {ms : List (F Itm)} (h : ∀ f ∈ ms, Hg n f) : Hg (n + 1) (ended le w ms) := by
  unfold ended
  split
  · exact .of _ fun _ z => nomatch z
  · split
    · rename_i k e
      have : k ∈ ms.filter fun m => !needless (!w) m ms := by rw [e]; exact List.mem_cons_self ..
      exact (h k (List.mem_filter.mp this).1).up (Nat.le_succ n)
    · exact .of _ fun f hf => h f (List.mem_filter.mp ((List.mergeSort_perm _ le).mem_iff.mp hf)).1
theorem ok_ended (le : F Itm → F Itm → Bool) (w : Bool) {ms : List (F Itm)} (h : ∀ f ∈ ms, Ok f) : Ok (ended le w ms) := by
  unfold ended
  split
  · exact .of _ fun _ z => nomatch z
  · split
    · rename_i k e
      have : k ∈ ms.filter fun m => !needless (!w) m ms := by rw [e]; exact List.mem_cons_self ..
      exact h k (List.mem_filter.mp this).1
    · exact .of _ fun f hf => h f (List.mem_filter.mp ((List.mergeSort_perm _ le).mem_iff.mp hf)).1
theorem hg_put (le : F Itm → F Itm → Bool) {n : Nat} {f : F Itm} (h : Hg n f) : Hg n (put le f) := by
  induction h with
  | it n a => rw [put]; exact .it n a
              nofun
  | no h ih => rw [put]; exact .no h
               nofun
  | of w h ih =>
    rw [put]
    exact hg_ended le w (hg_opened fun f hf => by
      obtain ⟨g, hg, rfl⟩ := List.mem_map.mp hf
      exact ih g hg)
theorem ok_put (le : F Itm → F Itm → Bool) {f : F Itm} (h : Ok f) : Ok (put le f) := by
  induction h with
  | it h => rw [put]; exact .it h
            nofun
  | no h ih => rw [put]; exact .no h
               nofun
  | of w h ih =>
    rw [put]
    exact ok_ended le w (ok_opened_ fun f hf => by
      obtain ⟨g, hg, rfl⟩ := List.mem_map.mp hf
      exact ih g hg)
theorem hg_pushed {n : Nat} {f : F Itm} (h : Hg n f) : ∀ t, Hg (n + 1) (pushed f t) := by
  induction h with
  | it n a =>
    intro t
    rw [pushed]
    split
    · exact .no (.it n a)
    · exact .it _ a
  | no h ih =>
    intro t
    rw [pushed]
    exact (ih _).up (by omega)
  | of w h ih =>
    intro t
    rw [pushed]
    exact .of _ fun f hf => by
      obtain ⟨g, hg, rfl⟩ := List.mem_map.mp hf
      exact ih g hg t
theorem ok_pushed_ {f : F Itm} (h : Ok f) : ∀ t, Ok (pushed f t) := by
  induction h with
  | it h =>
    intro t
    rw [pushed]
    split
    · exact .no (.it h)
    · exact .it h
  | no h ih =>
    intro t
    rw [pushed]
    exact ih _
  | of w h ih =>
    intro t
    rw [pushed]
    exact .of _ fun f hf => by
      obtain ⟨g, hg, rfl⟩ := List.mem_map.mp hf
      exact ih g hg t
theorem few_sz {f : F Itm} : sz f ≤ 1000 → Few f := by
  induction f using enc.induct with
  | case1 a => exact fun _ => .it a
  | case2 f ih => exact fun h => .no (ih (by rw [sz] at h; omega))
  | case3 w l ih =>
    intro h
    rw [sz_of] at h
    refine .of w (fun f hf => ih f hf ?_) ?_
    · have := szs_mem hf
      omega
    · have := len_szs l
      omega
theorem rows_sz (w : Bool) (f : F Itm) : (rowsOf w f).length ≤ sz f := Nat.le_trans (len_szs _) (szs_rows w f)
end Bw.Ask

namespace Bw
open PySem PySem.Spec L2 TL PyProof.Rows Ask

def rNoth (K : PySem.W.Frag) (aO : Addr) : R2 := fun x y H Q => ∃ (z : Str) (r : Option Value), x = .str z ∧ y = .ref aO ∧ PySem.W.nsIn K aO z = some r ∧ Q (.bl (!r.isSome)) H
theorem op_noth {X : Cx} {aO : Addr} (D : ∃ es n, KDict X.K X.w aO es n) : OpR X (compareOp .NotIn) (rNoth X.K aO) := by
  obtain ⟨es, n, D⟩ := D
  exact op_notIn_kd D
def spPut (K : PySem.W.Frag) (n : Nat) : Sp := fun vs H Q _ => ∃ (f : F Itm) (v : V), vs = [v] ∧ AtF K H v f ∧ Ok f ∧ Hg n f ∧ n ≤ 29 ∧ sz f ≤ 1000 ∧ ∀ H' u, Same H H' → AtF K H' u (put leF f) → Q u H'
section
variable {P : Program} {w : World} {K : PySem.W.Frag} {mg : Str → Option Value} {base : Heap} {f : Addr} {fd : FuncData} {aO : Addr}
theorem ok_put_right_step (Fo : Fun K "_put_right" "_put_right" s_put_right f fd) (T : Txt w K mg aO) {k n : Nat} {sp : Sp} (hk : 1 ≤ k) (D_opened : Dfn P w K mg base "_opened" 1 ["word", "members"] (spOpened K)) (D_is_needless : Dfn P w K mg base "_is_needless" 1 ["member", "members", "inner"] (spNeedless K))
    (D_put_right : Dfn P w K mg base "_put_right" k ["asked"] sp) (hsp : ∀ m, n = m + 1 → sp = spPut K m) : FnOk P w K mg base CX0 (k + 1) f fd ["asked"] (spPut K n) := by
  refine Fo.ok sc_put_right (fun vs H Q E h => ?_) (fun cdv A outer s H vs Q E hr h => ?_)
  · obtain ⟨g, v, rfl, _⟩ := h
    rfl
  · obtain ⟨g, v, rfl, ag, okg, hg, hn, hz, q⟩ := h
    have hu5 : (A.deeper (envOfC "_put_right" (defScope s_put_right) s.heap.objs.size f cdv)).units + 65 < cLine := by
      have := hr.un
      omega
    have hu6 : (A.deeper (envOfC "_put_right" (defScope s_put_right) s.heap.objs.size f cdv)).units + 2 + 64 < cLine := by
      have := hr.un
      omega
    refine ⟨_, (pss_cons (ps_set (i := 1) sc_put_right.nd rfl (Or.inl rfl) (pe_ix (r := rIxT K) ix_tup (pv 0) pe_int (fun _ _ => rfl))) (pss_cons (ps_if (pt_cmpR (r := rNoth K aO) (op_noth T.oth) (pv 1) (pe_glob (v := .ref aO) rfl T.g_OTHER rfl) rfl) (pss_one (ps_ret (pv 0))) pss_nil) (pss_cons (ps_set (i := 2) sc_put_right.nd rfl (Or.inr rfl) (pe_ix ix_kdict (pe_glob (v := .ref aO) rfl T.g_OTHER rfl) (pv 1) (fun _ _ => rfl))) (pss_cons (ps_set (i := 3) sc_put_right.nd rfl (Or.inr rfl) (pe_d D_opened hr hk (pa_cons (pv 1) (pa_cons (pe_lc (own := [("each", 6)]) (g := gName 6) (by rfl) sc_put_right.nd (pi_tup (pe_ix (r := rIxT K) ix_tup (pv 0) pe_int (fun _ _ => rfl))) (blkOk_by (own := [("each", 6)]) (N := n_put_right) (sc := defScope s_put_right) (by decide +kernel)) (fun _ _ _ _ _ => pg_name (i := 6) sc_put_right.nd rfl (Or.inl rfl)) (fun _ _ _ _ _ => pts_nil) (fun _ _ _ _ _ => (pe_d D_put_right hr (Nat.le_refl _) (pa_cons (pv 6) pa_nil)))) pa_nil)))) (pss_cons (ps_if (pt_cmpR (r := rInD K) (op_inD hu5) (pe_tup (pa_cons (pv 2) (pa_cons (pe_tup pa_nil) pa_nil))) (pv 3) rfl) (pss_one (ps_ret (pe_tup (pa_cons (pv 2) (pa_cons (pe_tup pa_nil) pa_nil))))) pss_nil) (pss_cons (ps_setLc (i := 4) (own := [("member", 5)]) (g := gName 5) (by rfl) sc_put_right.nd rfl rfl (sw_true rfl rfl rfl (by decide +kernel)) (pi_list (pv 3)) (blkOk_by (own := [("member", 5)]) (N := n_put_right) (sc := defScope s_put_right) (by decide +kernel)) (fun _ _ _ _ _ => pg_name (i := 5) sc_put_right.nd rfl (Or.inl rfl)) (fun _ _ _ _ _ => (pts_one (pt_not (pt_val (pe_d D_is_needless hr hk (pa_cons (pv 5) (pa_cons (pv 3) (pa_cons (pv 2) pa_nil)))))))) (fun _ _ _ _ _ => (pv 5))) (pss_one (ps_ret (pe_ifExp (pt_cmpR op_eq (pe_callB (r := rLenQ K) call_lenQ (by rfl) T.b_len (by decide +kernel) (pa_cons (pv 4) pa_nil)) pe_int (nomark _)) (pe_ix (r := rIxL K) ix_list (pv 4) pe_int (fun _ _ => rfl)) (pe_tup (pa_cons (pv 1) (pa_cons (pe_callTy call_tuple_of (by rfl) T.b_tuple (by decide +kernel) (pa_cons (pe_callB (cr_sortedF hu6) (by rfl) T.b_sorted (by decide +kernel) (pa_cons (pv 4) pa_nil)) pa_nil)) pa_nil)))))))))))), ?_⟩
    obtain ⟨b, xs, rfl, sq⟩ := ag.word
    refine ⟨_, rfl, b, _, _, _, rfl, rfl, sq, atI_nat (j := 0) rfl, ?_⟩
    by_cases ro : ∃ v, root v g
    · obtain ⟨v, rv⟩ := ro
      obtain ⟨l, rfl⟩ : ∃ l, g = .of v l := by
        cases g with
        | it a => exact rv.elim
        | no f => exact rv.elim
        | of u l =>
          have : u = v := rv
          exact ⟨l, by rw [this]⟩
      obtain ⟨tk, io⟩ := in_oth T v
      obtain ⟨b2, c2, us, e3, sq2, sqc, al⟩ := ag.of
      cases e3
      refine ⟨_, rfl, wrd v, _, rfl, rfl, io, _, rfl, iteF ?_⟩
      match n, hg, hsp with
      | m + 1, .of _ hg2, hsp =>
        obtain rfl := hsp m rfl
        cases okg with
        | of _ ok2 =>
          obtain ⟨zs, z1, z2, z3⟩ := al.zip
          subst z1
          have inl : ∀ z ∈ zs, z.2 ∈ l := fun z hz => by
            rw [z2]
            exact List.mem_map.mpr ⟨z, hz, rfl⟩
          have hz1 : szs l ≤ 999 := by
            rw [sz_of] at hz
            omega
          have zl : zs.length ≤ 1000 := by
            have := len_szs l
            rw [z2, List.length_map] at this
            rw [z2] at hz1
            omega
          obtain ⟨es, ne, KD⟩ := T.oth
          have qe : put leF (.of v l) = ended leF v (opened v (zs.map fun z => put leF z.2)) := by
            rw [put, z2, List.map_map]
            rfl
          have okz : ∀ f ∈ zs.map fun z => put leF z.2, Ok f := fun f hf => by
            obtain ⟨z, hz, rfl⟩ := List.mem_map.mp hf
            exact ok_put leF (ok2 _ (inl z hz))
          have hgz : ∀ f ∈ zs.map fun z => put leF z.2, Hg m f := fun f hf => by
            obtain ⟨z, hz, rfl⟩ := List.mem_map.mp hf
            exact hg_put leF (hg2 _ (inl z hz))
          have szz : szs (zs.map fun z => put leF z.2) ≤ 999 := by
            have := szs_map_le (φ := fun f => put leF f) (l := l) fun f _ => sz_put leF f
            rw [z2, List.map_map] at this
            rw [z2] at hz1
            exact Nat.le_trans this hz1
          refine ⟨_, rfl, aO, wrd v, .str (wrd (!v)), rfl, rfl, ⟨es, ne, _, KD.at_, KD.lit, io, ⟨tk, rfl⟩⟩, ?_⟩
          refine ⟨_, rfl, _, rfl, b, _, _, _, rfl, rfl, sq2, atI_nat (j := 1) rfl, c2, rfl, ⟨_, sqc⟩, fun D0 hD0 => lc_gen (xs := zs) (val := Prod.fst) (walk_tup (K := K) (a := c2) (xs := zs.map Prod.fst)) (fun _ => true) _ (keepR_F (K := K) fun z : V × F Itm => put leF z.2) hD0 zl (fun H5 s5 => ?_) ?_ ?_⟩
          · rcases sqc with (z | ⟨u, z⟩) | z
            · exact .inl (.inl (s5 _ _ z))
            · exact .inl (.inr ⟨u, s5 _ _ z⟩)
            · exact .inr z
          · intro z H5 N Y hzm s5 _ _ yes
            refine ⟨rfl, ?_⟩
            unfold tYes
            refine iteT ⟨_, rfl, z.2, z.1, rfl, (z3 z hzm).up s5, ok2 _ (inl z hzm), hg2 _ (inl z hzm), by omega, ?_, fun H6 u6 sm au => yes rfl H6 u6 sm au⟩
            have := szs_mem (inl z hzm)
            omega
          · intro H5 ys s5 hys hpr
            rw [filter_all] at hpr
            have aly := atL_paired hpr
            refine ⟨v, D0, ys, zs.map fun z => put leF z.2, m, rfl, hys, aly, okz, hgz, by omega, ?_, fun p ms H6 s6 hp6 hms al6 => ?_⟩
            · have h1 := szs_flat v (zs.map fun z => put leF z.2)
              have h2 := len_szs ((zs.map fun z => put leF z.2).flatMap (rowsOf v))
              omega
            · have okO : ∀ f ∈ opened v (zs.map fun z => put leF z.2), Ok f := ok_opened_ okz
              have hgO : ∀ f ∈ opened v (zs.map fun z => put leF z.2), Hg m f := hg_opened hgz
              have szO : szs (opened v (zs.map fun z => put leF z.2)) ≤ 999 := Nat.le_trans (szs_opened v _) szz
              rw [qe] at q
              generalize opened v (zs.map fun z => put leF z.2) = os at al6 okO hgO szO q
              have sm6 := s5.trans s6
              refine ⟨_, rfl, (by show 0 ≤ sizeLine; decide), fun t1 ht1 => ⟨(by show 2 ≤ sizeLine; decide), fun t2 ht2 => ?_⟩⟩
              have n1 := same_new (o := .tup []) ht1
              have n2 := same_new (o := .tup [.str (wrd !v), .ref t1]) ht2
              refine ⟨_, rfl, enc (.of (!v) []), _, AtF.mk_of (SqT.of upd_same) (SqT.of (n2 _ _ upd_same)) .nil, .lst (SqL.of (n2 _ _ (n1 _ _ hms))) ((al6.up n1).up n2), shd_enc (n := 1) (.of _ fun _ z => nomatch z) (.of _ fun _ z => nomatch z) (by omega), shd_list okO hgO (by omega), ?_⟩
              rw [any_enc]
              refine ⟨_, rfl, ?_⟩
              by_cases hin : F.of (!v) [] ∈ os
              · rw [decide_eq_true hin]
                refine iteT ⟨_, rfl, (by show 0 ≤ sizeLine; decide), fun t3 ht3 => ⟨(by show 2 ≤ sizeLine; decide), fun t4 ht4 => q _ _ ((((sm6.trans n1).trans n2).trans (same_new ht3)).trans (same_new ht4)) ?_⟩⟩
                unfold ended
                rw [if_pos hin]
                exact AtF.mk_of (SqT.of upd_same) (SqT.of ((same_new ht4) _ _ upd_same)) .nil
              · rw [decide_eq_false hin]
                refine iteF ?_
                have al7 := (al6.up n1).up n2
                have hm7 := n2 _ _ (n1 _ _ hms)
                have sm7 := (sm6.trans n1).trans n2
                generalize upd (upd H6 t1 (.tup [])) t2 (.tup [.str (wrd !v), .ref t1]) = H7 at *
                obtain ⟨ws, w1, w2, w3⟩ := al7.zip
                have wl : ws.length ≤ 1000 := by
                  have := len_szs os
                  rw [w2, List.length_map] at this
                  rw [w2] at szO
                  omega
                have inw : ∀ z ∈ ws, z.2 ∈ os := fun z hz => by
                  rw [w2]
                  exact List.mem_map.mpr ⟨z, hz, rfl⟩
                have hm7' : H7 p = some (.lst (ws.map Prod.fst)) := w1 ▸ hm7
                refine ⟨_, rfl, p, rfl, ⟨_, SqL.of hm7'⟩, fun D1 hD1 => lc_gen (xs := ws) (val := Prod.fst) (walk_list (K := K) (a := p) (xs := ws.map Prod.fst)) (fun z => !needless (!v) z.2 os) _ (keepR_F (K := K) fun z : V × F Itm => z.2) hD1 wl (fun H8 s8 => SqL.of (s8 _ _ hm7')) ?_ ?_⟩
                · intro z H8 N Y hzm s8 _ no yes
                  refine ⟨rfl, _, rfl, _, rfl, _, rfl, !v, z.2, z.1, p, ms, os, m, rfl, (w3 z hzm).up s8, s8 _ _ hm7, al7.up s8, okO _ (inw z hzm), hgO _ (inw z hzm), okO, hgO, by omega, fun f hf => ?_, fun H9 s9 => ⟨_, rfl, ?_⟩⟩
                  · have h1 := rows_sz (!v) f
                    have h2 := szs_mem hf
                    omega
                  · cases e : needless (!v) z.2 os with
                    | true => exact iteF (no (by rw [e]; rfl) H9 s9)
                    | false => exact iteT ⟨_, rfl, yes (by rw [e]; rfl) H9 _ s9 (((w3 z hzm).up s8).up s9)⟩
                · intro H8 ks s8 hks hpr
                  have alk := atL_paired hpr
                  have ek : (ws.filter fun z => !needless (!v) z.2 os).map (fun z => z.2) = os.filter fun m => !needless (!v) m os := by
                    conv => rhs; arg 2; rw [w2]
                    rw [List.filter_map]
                    rfl
                  rw [ek] at alk
                  have sub : ∀ x ∈ os.filter (fun m => !needless (!v) m os), x ∈ os := fun x hx => (List.mem_filter.mp hx).1
                  unfold ended at q
                  rw [if_neg hin] at q
                  generalize os.filter (fun m => !needless (!v) m os) = kl at alk sub q
                  have sm8 := sm7.trans s8
                  have lk := alk.len
                  refine ⟨_, rfl, D1, _, rfl, .inl (SqL.of hks), rfl, _, rfl, ?_⟩
                  by_cases one : ∃ x, kl = [x]
                  · obtain ⟨x, rfl⟩ := one
                    match ks, alk, hks with
                    | [u], .cons au .nil, hks =>
                      exact iteT ⟨_, rfl, D1, _, _, _, rfl, rfl, SqL.of hks, atI_nat (j := 0) rfl, q _ _ sm8 au⟩
                  · have n1' : ¬ ((ks.length : Int) = 1) := fun e => by
                      obtain ⟨x, hx⟩ := List.length_eq_one_iff.mp (show kl.length = 1 by omega)
                      exact one ⟨x, hx⟩
                    rw [show decide (V.int (ks.length : Int) = V.int 1) = false from decide_eq_false fun z => n1' (V.int.inj z)]
                    refine iteF ⟨_, rfl, _, rfl, D1, ks, kl, m, rfl, SqL.of hks, alk, fun x hx => okO x (sub x hx), fun x hx => hgO x (sub x hx), by omega, fun ys2 p2 ay hp2 => ⟨p2, ys2, rfl, .inl ⟨SqL.of upd_same, fun l2 hl2 => ⟨(by show 2 ≤ sizeLine; decide), fun p3 hp3 => ?_⟩⟩⟩⟩
                    have s1 := same_new (o := .lst ys2) hp2
                    have s2 := same_new (o := .tup ys2) hl2
                    have s3 := same_new (o := .tup [.str (wrd v), .ref l2]) hp3
                    refine q _ _ (((sm8.trans s1).trans s2).trans s3) ?_
                    split
                    · rename_i x
                      exact absurd ⟨x, rfl⟩ one
                    · exact AtF.mk_of (SqT.of upd_same) (SqT.of (s3 _ _ upd_same)) (((ay.up s1).up s2).up s3)
    · refine ⟨_, rfl, first g, none, rfl, rfl, not_in_oth T fun v rv => ro ⟨v, rv⟩, _, rfl, iteT ?_⟩
      refine ⟨_, rfl, q _ _ (Same.refl H) ?_⟩
      have : put leF g = g := by
        cases g with
        | it a =>
          rw [put]
          nofun
        | no f =>
          rw [put]
          nofun
        | of u l => exact absurd ⟨u, rfl⟩ ro
      rw [this]
      exact ag
end
end Bw

namespace Bw
open PySem PySem.Spec L2 TL PyProof.Rows Ask

/-! ### the judges of texts -/
/-- no text at all -/
def NotStr (K : PySem.W.Frag) (H : Hp) (v : V) : Prop := ∃ t, TyX K H v t ∧ PySem.W.kitOne K t (.type "str") = some false
def areSg (x : Str) (m : Int) : Bool := decide ((x.length : Int) ≤ m) && (Txt.isascii x && Txt.isprintable x)
def isTx (x : Str) : Bool := areSg x 100 && decide (x ≠ "")
theorem isTx_iff (x : Str) : isTx x = true ↔ IsTx x ∧ x ≠ "" := by
  unfold isTx areSg IsTx
  rw [Bool.and_eq_true, Bool.and_eq_true, decide_eq_true_eq, decide_eq_true_eq, signs_iff]
  constructor
  · rintro ⟨⟨a, b⟩, c⟩
    exact ⟨⟨b, by omega⟩, c⟩
  · rintro ⟨⟨b, a⟩, c⟩
    exact ⟨⟨by omega, b⟩, c⟩
theorem line_of {n : Nat} (h : n ≤ 1000000) : n ≤ sizeLine := Nat.le_trans h (by decide)

def spAre (K : PySem.W.Frag) : Sp := fun vs H Q _ => ∃ (v : V) (m : Int), vs = [v, .int m] ∧
  ((∃ x, v = .str x ∧ x.length ≤ sizeLine ∧ Q (.bl (areSg x m)) H) ∨ (NotStr K H v ∧ Q (.bl false) H))
def spIsText (K : PySem.W.Frag) : Sp := fun vs H Q _ => ∃ v : V, vs = [v] ∧
  ((∃ x, v = .str x ∧ x.length ≤ sizeLine ∧ Q (.bl (isTx x)) H) ∨ (NotStr K H v ∧ Q (.bl false) H))
section
variable {P : Program} {w : World} {K : PySem.W.Frag} {mg : Str → Option Value} {base : Heap} {f : Addr} {fd : FuncData} {aO : Addr}
theorem ok_are_signs (F : Fun K "are_signs" "are_signs" s_are_signs f fd) (T : Txt w K mg aO) : FnOk P w K mg base CX0 1 f fd ["value", "most"] (spAre K) := by
  refine F.ok sc_are_signs (fun vs H Q E h => ?_) (fun cdv A outer s H vs Q E hr h => ?_)
  · obtain ⟨v, m, rfl, _⟩ := h
    rfl
  · obtain ⟨v, m, rfl, h⟩ := h
    refine ⟨_, (pss_one (ps_ret (pe_and (pe_callB (r := rIsi K) call_isi (by rfl) T.b_isinstance (by decide +kernel) (pa_cons (pv 0) (pa_cons (pe_bltn (v := .ty "str") (by rfl) T.b_str (by decide +kernel) rfl) pa_nil))) (pe_and (pe_cmpR op_le (pe_callB call_len_str (by rfl) T.b_len (by decide +kernel) (pa_cons (pv 0) pa_nil)) (pv 1) (nomark _)) (pe_and (pe_m0 PySem.F.slot_str_isascii PySem.F.type_str_isascii mt_isascii (pv 0)) (pe_one (pe_m0 PySem.F.slot_str_isprintable PySem.F.type_str_isprintable mt_isprintable (pv 0)))))))), ?_⟩
    rcases h with ⟨x, rfl, hl, q⟩ | ⟨⟨t, ty, kt⟩, q⟩
    · refine ⟨_, rfl, _, _, _, _, true, rfl, ClsV.ty "str", TyX.base (.str x), kit_ty (by decide +kernel), true, rfl, iteT ?_⟩
      refine ⟨_, rfl, _, rfl, hl, _, rfl, _, _, rfl, rfl, _, rfl, ?_⟩
      unfold areSg at q
      cases e : decide ((x.length : Int) ≤ m) with
      | false =>
        rw [e] at q
        exact iteF q
      | true =>
        rw [e] at q
        refine iteT ⟨_, rfl, ⟨_, rfl⟩, _, rfl, rfl, trivial, _, rfl, ?_⟩
        cases e2 : Txt.isascii x with
        | false =>
          rw [e2] at q
          exact iteF q
        | true =>
          rw [e2] at q
          exact iteT ⟨_, rfl, ⟨_, rfl⟩, _, rfl, rfl, trivial, q⟩
    · exact ⟨_, rfl, _, _, _, _, false, rfl, ClsV.ty "str", ty, kt, false, rfl, iteF q⟩
theorem ok_is_text (F : Fun K "is_text" "is_text" s_is_text f fd) (T : Txt w K mg aO) (D_are_signs : Dfn P w K mg base "are_signs" 1 ["value", "most"] (spAre K)) :
    FnOk P w K mg base CX0 2 f fd ["value"] (spIsText K) := by
  obtain ⟨t0, gT⟩ := T.g_text
  refine F.ok sc_is_text (fun vs H Q E h => ?_) (fun cdv A outer s H vs Q E hr h => ?_)
  · obtain ⟨v, rfl, _⟩ := h
    rfl
  · obtain ⟨v, rfl, h⟩ := h
    refine ⟨_, (pss_one (ps_ret (pe_and (pe_d D_are_signs hr (by decide) (pa_cons (pv 0) (pa_cons (pe_glob (v := .int 100) rfl gT ⟨_, rfl⟩) pa_nil))) (pe_one (pe_cmpR op_ne (pv 0) pe_str (nomark _)))))), ?_⟩
    rcases h with ⟨x, rfl, hl, q⟩ | ⟨ns, q⟩
    · refine ⟨_, rfl, _, _, rfl, .inl ⟨x, rfl, hl, _, rfl, ?_⟩⟩
      unfold isTx at q
      cases e : areSg x 100 with
      | false =>
        rw [e] at q
        exact iteF q
      | true =>
        rw [e] at q
        refine iteT ⟨_, rfl, rfl, ?_⟩
        have e2 : (!decide (V.str x = V.str "")) = decide (x ≠ "") := by
          rw [decide_not]
          congr 1
          simp
        show Q (.bl (!decide (V.str x = V.str ""))) H
        rw [e2]
        exact q
    · exact ⟨_, rfl, _, _, rfl, .inr ⟨ns, _, rfl, iteF q⟩⟩
def lowC (c : Nat) : Bool := decide (97 ≤ c ∧ c ≤ 122)
def wdC (c : Nat) : Bool := lowC c || decide (48 ≤ c ∧ c ≤ 57)
def hdL : List Nat → Bool
  | [] => false
  | c :: _ => lowC c
def wdL (l : List Nat) : Bool := decide (l.length ≤ 12) && (l.all wdC && hdL l)
theorem alnum_sgn : ∀ c, c < 128 → Unicode.isAlnum c = decide ((48 ≤ c ∧ c ≤ 57) ∨ (65 ≤ c ∧ c ≤ 90) ∨ (97 ≤ c ∧ c ≤ 122)) := by decide +kernel
theorem alpha_sgn : ∀ c, c < 128 → Unicode.isAlpha c = decide ((65 ≤ c ∧ c ≤ 90) ∨ (97 ≤ c ∧ c ≤ 122)) := by decide +kernel
theorem wd_alnum {x : Str} (h : Sgn (tl x)) : (tl x).all wdC = true → tl x ≠ [] → Txt.isalnum x = true := by
  intro h1 h2
  unfold Txt.isalnum
  rw [← Array.all_toList, Bool.and_eq_true, decide_eq_true_eq, List.all_eq_true]
  refine ⟨by rw [len_tl]; exact List.length_pos_iff.mpr h2, fun c hc => ?_⟩
  have := List.all_eq_true.mp h1 c hc
  rw [alnum_sgn c (h.lt c hc)]
  unfold wdC lowC at this
  rw [Bool.or_eq_true, decide_eq_true_eq, decide_eq_true_eq] at this
  exact decide_eq_true (by omega)
theorem tl_eq_iff {x y : Str} : x = y ↔ tl x = tl y := ⟨fun h => by rw [h], ext_tl⟩
theorem wd_split {x : Str} (h : Sgn (tl x)) (h12 : x.length ≤ 12) : wdL (tl x) = (Txt.isalnum x && (decide (V.str x = V.str (Txt.lower x)) && hdL (tl x))) := by
  have e1 : decide ((tl x).length ≤ 12) = true := decide_eq_true (by rw [← len_tl]; exact h12)
  unfold wdL
  rw [e1, Bool.true_and]
  cases ha : hdL (tl x) with
  | false => simp
  | true =>
    have ne : tl x ≠ [] := fun z => by rw [z] at ha; cases ha
    rw [Bool.and_true, Bool.and_true, Bool.eq_iff_iff, Bool.and_eq_true, decide_eq_true_eq]
    constructor
    · intro w
      refine ⟨wd_alnum h w ne, ?_⟩
      have : x = Txt.lower x := by
        rw [tl_eq_iff, tl_lower h]
        refine (map_lo_id fun c hc => ?_).symm
        have := List.all_eq_true.mp w c hc
        unfold wdC lowC at this
        rw [Bool.or_eq_true, decide_eq_true_eq, decide_eq_true_eq] at this
        unfold lo1
        rw [if_neg (by omega)]
      exact congrArg V.str this
    · rintro ⟨h1, h2⟩
      have h3 : x = Txt.lower x := by injection h2
      rw [tl_eq_iff, tl_lower h] at h3
      rw [List.all_eq_true]
      intro c hc
      unfold Txt.isalnum at h1
      rw [← Array.all_toList, Bool.and_eq_true] at h1
      have h4 := List.all_eq_true.mp h1.2 c hc
      rw [alnum_sgn c (h.lt c hc)] at h4
      have h5 := of_decide_eq_true h4
      have h6 : ¬ (65 ≤ c ∧ c ≤ 90) := fun z => by
        rw [h3] at hc
        obtain ⟨d, hd, e⟩ := List.mem_map.mp hc
        unfold lo1 at e
        split at e <;> omega
      unfold wdC lowC
      rw [Bool.or_eq_true, decide_eq_true_eq, decide_eq_true_eq]
      omega
theorem at0 {x : Str} {c : Nat} {r : List Nat} (e : tl x = c :: r) : atI x.cps.toList 0 = some c := by
  have e' : x.cps.toList = c :: r := e
  rw [e']
  exact atI_nat (j := 0) rfl
def spIsWord : Sp := fun vs H Q _ => ∃ x : Str, vs = [.str x] ∧ Sgn (tl x) ∧ x.length ≤ 10000 ∧ Q (.bl (wdL (tl x))) H
theorem ok_is_word (F : Fun K "is_word" "is_word" s_is_word f fd) (T : Txt w K mg aO) (D_are_signs : Dfn P w K mg base "are_signs" 1 ["value", "most"] (spAre K)) : FnOk P w K mg base CX0 2 f fd ["value"] spIsWord := by
  obtain ⟨t0, gW⟩ := T.g_word
  refine F.ok sc_is_word (fun vs H Q E h => ?_) (fun cdv A outer s H vs Q E hr h => ?_)
  · obtain ⟨x, rfl, _⟩ := h
    rfl
  · obtain ⟨x, rfl, hx, hl, q⟩ := h
    refine ⟨_, (pss_cons (ps_if (PW.pt (pw_or (pt_not (pt_val (pe_d D_are_signs hr (by decide) (pa_cons (pv 0) (pa_cons (pe_glob (v := .int 12) rfl gW ⟨_, rfl⟩) pa_nil))))) (pw_or1 (pt_not (pt_val (pe_m0 PySem.F.slot_str_isalnum PySem.F.type_str_isalnum mt_isalnum (pv 0))))))) (pss_one (ps_ret pe_bl)) pss_nil) (pss_one (ps_ret (pe_and (pe_cmpR op_eq (pv 0) (pe_lower (pv 0)) (nomark _)) (pe_one (pe_m0 PySem.F.slot_str_isalpha PySem.F.type_str_isalpha mt_isalpha (pe_ix ix_str (pv 0) pe_int (fun _ _ => rfl)))))))), ?_⟩
    refine ⟨_, rfl, _, _, rfl, .inl ⟨x, rfl, line_of (by omega), _, rfl, ?_⟩⟩
    have ea : areSg x 12 = decide (x.length ≤ 12) := by
      unfold areSg
      rw [(signs_iff x).mpr hx, Bool.and_true]
      congr 1
      exact propext (by omega)
    rw [ea]
    by_cases h12 : x.length ≤ 12
    · rw [decide_eq_true h12]
      refine iteF ⟨_, rfl, ⟨_, rfl⟩, _, rfl, rfl, trivial, _, rfl, ?_⟩
      rw [wd_split hx h12] at q
      cases e1 : Txt.isalnum x with
      | false =>
        rw [e1] at q
        exact iteT q
      | true =>
        rw [e1, Bool.true_and] at q
        refine iteF ⟨_, rfl, _, rfl, ⟨_, rfl⟩, _, rfl, rfl, by omega, rfl, _, rfl, ?_⟩
        cases e2 : decide (V.str x = V.str (Txt.lower x)) with
        | false =>
          rw [e2] at q
          exact iteF q
        | true =>
          rw [e2, Bool.true_and] at q
          cases e3 : tl x with
          | nil =>
            have : x.length = 0 := by rw [len_tl, e3]; rfl
            unfold Txt.isalnum at e1
            rw [this] at e1
            exact absurd e1 (by simp)
          | cons c r =>
            refine iteT ⟨_, rfl, _, _, c, rfl, rfl, line_of (by omega), at0 e3, ⟨_, rfl⟩, _, rfl, rfl, trivial, ?_⟩
            rw [e3] at q
            have cs := hx c (by rw [e3]; exact List.mem_cons_self ..)
            have hc : Txt.isalpha ⟨#[c]⟩ = lowC c := by
              unfold Txt.isalpha
              rw [← Array.all_toList]
              show (true && (Unicode.isAlpha c && true)) = _
              rw [alpha_sgn c (by omega), Bool.and_true, Bool.true_and]
              have h2 : x = Txt.lower x := by
                have := of_decide_eq_true e2
                injection this
              rw [tl_eq_iff, tl_lower hx, e3, List.map_cons] at h2
              have h3 : c = lo1 c := by injection h2
              unfold lo1 at h3
              unfold lowC
              congr 1
              split at h3 <;> exact propext (by omega)
            rw [hc]
            exact q
    · rw [decide_eq_false h12]
      have : wdL (tl x) = false := by
        unfold wdL
        rw [decide_eq_false (by rw [← len_tl]; exact h12)]
        rfl
      rw [this] at q
      exact iteT (iteT q)
end
end Bw

namespace Bw
open PySem PySem.Spec L2 TL PyProof.Rows Ask

/-! ### what can stand in the place of an asking -/
theorem ty_up {K : PySem.W.Frag} {H H' : Hp} {v : V} {t : Value} (e : Same H H') (ty : TyX K H v t) : TyX K H' v t := by
  cases ty with
  | base b =>
    refine .base ?_
    cases b with
    | non => exact .non
    | bl x => exact .bl x
    | int i => exact .int i
    | str x => exact .str x
    | flt x => exact .flt x
    | lst q => exact .lst (e _ _ q)
    | frz q => exact .frz (e _ _ q)
    | tup q => exact .tup (e _ _ q)
    | dK q => exact .dK (e _ _ q)
    | dT q => exact .dT (e _ _ q)
    | ins q cl ha hn htk hm => exact .ins (e _ _ q) cl ha hn htk hm
  | byt b => exact .byt b
  | set q => exact .set (e _ _ q)
  | kList q c => exact .kList q c
  | kTuple q c => exact .kTuple q c
  | kDict q c => exact .kDict q c
  | fTuple q => exact .fTuple (e _ _ q)
  | fDict q => exact .fDict (e _ _ q)
/-- no tuple at all -/
def NotTup (K : PySem.W.Frag) (H : Hp) (v : V) : Prop := ∃ t, TyX K H v t ∧ PySem.W.kitOne K t (.type "tuple") = some false
theorem NotTup.up {K : PySem.W.Frag} {H H' : Hp} {v : V} (e : Same H H') (h : NotTup K H v) : NotTup K H' v := by
  obtain ⟨t, ty, k⟩ := h
  exact ⟨t, ty_up e ty, k⟩
theorem sqT_up {K : PySem.W.Frag} {H H' : Hp} {a : Addr} {us : List V} (s : Same H H') (q : SqT K H a us) : SqT K H' a us := by
  rcases q with (q | ⟨z, q⟩) | q
  · exact .inl (.inl (s _ _ q))
  · exact .inl (.inr ⟨z, s _ _ q⟩)
  · exact .inr q
/-- the type of what is laid as a tuple -/
theorem sqT_ty {K : PySem.W.Frag} {H : Hp} {a : Addr} {us : List V} (q : SqT K H a us) : ∃ t, TyX K H (.ref a) t ∧ PySem.W.kitOne K t (.type "tuple") = some true := by
  rcases q with (q | ⟨z, q⟩) | ⟨o, its, n, hk, hc, hd, hz, r⟩
  · exact ⟨_, TyX.base (.tup q), kit_ty (by decide +kernel)⟩
  · exact ⟨_, TyX.fTuple q, kit_ty (by decide +kernel)⟩
  · exact ⟨_, TyX.kTuple hk hc, kit_ty (by decide +kernel)⟩
def txI : Itm → Prop
  | .has x => Sgn (tl x) ∧ x.length ≤ 1000
  | .is x y => (Sgn (tl x) ∧ x.length ≤ 1000) ∧ y.length ≤ 1000
  | .cls x => Sgn (tl x) ∧ x.length ≤ 1000
  | .within _ => True
def goodI : Itm → Bool
  | .has x => wdL (tl x)
  | .is x y => wdL (tl x) && isTx y
  | .cls x => wdL (tl x)
  | .within n => decide (1 ≤ n ∧ n ≤ 1000000000000)
inductive Tx : F Itm → Prop
  | it {a : Itm} (h : txI a) : Tx (.it a)
  | no {f : F Itm} (h : Tx f) : Tx (.no f)
  | of (w : Bool) {l : List (F Itm)} (h : ∀ f ∈ l, Tx f) : Tx (.of w l)
inductive Odd where
  | e | h | a | n
  | al (l : List (F Itm))
def oddD : Odd → PyData
  | .e => .tuple []
  | .h => .tuple [.str "has"]
  | .a => .tuple [.str "and"]
  | .n => .tuple [.str "not"]
  | .al l => .tuple [.str "and", .list (l.map fun f => enc f)]
inductive Tg where
  | f (f : F Itm)
  | nt
  | odd (o : Odd)
  | nb
def nbD : PyData := .tuple [.str "not", .tuple [.str "has"]]
def AtG (K : PySem.W.Frag) (H : Hp) (v : V) : Tg → Prop
  | .f f => AtF K H v f ∧ Tx f ∧ Ok f ∧ Hg 30 f
  | .nt => NotTup K H v
  | .odd o => Dp K H v (oddD o) ∧ SeqAt.shaped (oddD o) = true
  | .nb => Dp K H v nbD
theorem AtG.up {K : PySem.W.Frag} {H H' : Hp} {v : V} {g : Tg} (e : Same H H') (h : AtG K H v g) : AtG K H' v g := by
  cases g with
  | f f => exact ⟨h.1.up e, h.2⟩
  | nt => exact NotTup.up e h
  | odd o => exact ⟨dp_up e _ _ h.1, h.2⟩
  | nb => exact dp_up e _ _ h
def wordG : Tg → Str
  | .f f => first f
  | .nt => ""
  | .odd .e => ""
  | .odd .h => "has"
  | .odd .a => "and"
  | .odd .n => "not"
  | .odd (.al _) => "and"
  | .nb => "not"
def kids : Tg → Option (List Tg)
  | .f (.it a) => if goodI a = true then some [] else none
  | .f (.no g) => some [.f g]
  | .f (.of _ l) => some (l.map .f)
  | .nt => none
  | .odd _ => none
  | .nb => some [.odd .h]
/-- the data of what is a tuple -/
def dataG : Tg → Option PyData
  | .f f => some (enc f)
  | .nt => none
  | .odd o => some (oddD o)
  | .nb => some nbD
theorem shd_nb : SeqAt.shaped nbD = true := by decide +kernel
theorem AtG.data {K : PySem.W.Frag} {H : Hp} {v : V} {g : Tg} {d : PyData} (h : AtG K H v g) (e : dataG g = some d) : Dp K H v d ∧ SeqAt.shaped d = true := by
  cases g with
  | f f =>
    cases e
    exact ⟨h.1, shd_enc h.2.2.1 h.2.2.2 (by omega)⟩
  | nt => exact nomatch e
  | odd o =>
    cases e
    exact h
  | nb =>
    cases e
    exact ⟨h, shd_nb⟩
theorem word_ok (g : Tg) : wordG g = "" ∨ (wdL (tl (wordG g)) = true ∧ Sgn (tl (wordG g)) ∧ (wordG g).length ≤ 12) := by
  have sg : ∀ x : Str, (Txt.isascii x && Txt.isprintable x) = true → Sgn (tl x) := fun x h => (signs_iff x).mp h
  have one : ∀ x ∈ (["has", "is", "class", "within", "not", "and", "or"] : List Str), wdL (tl x) = true ∧ Sgn (tl x) ∧ x.length ≤ 12 := by
    intro x hx
    have : (wdL (tl x) && ((Txt.isascii x && Txt.isprintable x) && decide (x.length ≤ 12))) = true := by
      revert x
      decide +kernel
    rw [Bool.and_eq_true, Bool.and_eq_true, decide_eq_true_eq] at this
    exact ⟨this.1, sg x this.2.1, this.2.2⟩
  match g with
  | .f (.it (.has _)) => exact .inr (one _ (by simp [wordG, first]))
  | .f (.it (.is ..)) => exact .inr (one _ (by simp [wordG, first]))
  | .f (.it (.cls _)) => exact .inr (one _ (by simp [wordG, first]))
  | .f (.it (.within _)) => exact .inr (one _ (by simp [wordG, first]))
  | .f (.no _) => exact .inr (one _ (by simp [wordG, first]))
  | .f (.of true _) => exact .inr (one _ (by simp [wordG, first, wrd]))
  | .f (.of false _) => exact .inr (one _ (by simp [wordG, first, wrd]))
  | .nt => exact .inl rfl
  | .odd .e => exact .inl rfl
  | .odd .h => exact .inr (one _ (by simp [wordG]))
  | .odd .a => exact .inr (one _ (by simp [wordG]))
  | .odd .n => exact .inr (one _ (by simp [wordG]))
  | .odd (.al _) => exact .inr (one _ (by simp [wordG]))
  | .nb => exact .inr (one _ (by simp [wordG]))
/-- a tuple that is not empty begins with its word -/
theorem data_word {g : Tg} {d : PyData} (e : dataG g = some d) : d = .tuple [] ∧ wordG g = "" ∨ ∃ r, d = .tuple (.str (wordG g) :: r) ∧ wdL (tl (wordG g)) = true := by
  have ne : ∀ x : Str, (wdL (tl x) = true) → x = "" → False := fun x h e => by
    rw [e] at h
    exact absurd h (by decide +kernel)
  cases g with
  | f f =>
    cases e
    obtain ⟨r, h⟩ := enc_first f
    refine .inr ⟨r, h, ?_⟩
    rcases word_ok (.f f) with z | z
    · exfalso
      have : first f = "" := z
      match f, this with
      | .it (.has _), this => exact absurd this (by simp only [first]; decide +kernel)
      | .it (.is ..), this => exact absurd this (by simp only [first]; decide +kernel)
      | .it (.cls _), this => exact absurd this (by simp only [first]; decide +kernel)
      | .it (.within _), this => exact absurd this (by simp only [first]; decide +kernel)
      | .no _, this => exact absurd this (by simp only [first]; decide +kernel)
      | .of true _, this => exact absurd this (by simp only [first, wrd]; decide +kernel)
      | .of false _, this => exact absurd this (by simp only [first, wrd]; decide +kernel)
    · exact z.1
  | nt => exact nomatch e
  | odd o =>
    cases e
    cases o with
    | e => exact .inl ⟨rfl, rfl⟩
    | h => exact .inr ⟨_, rfl, by decide +kernel⟩
    | a => exact .inr ⟨_, rfl, by decide +kernel⟩
    | n => exact .inr ⟨_, rfl, by decide +kernel⟩
    | al l =>
      have : wdL (tl ("and" : Str)) = true := by decide +kernel
      exact .inr ⟨_, rfl, this⟩
  | nb =>
    cases e
    exact .inr ⟨_, rfl, by decide +kernel⟩
theorem dp_ss {K : PySem.W.Frag} {H : Hp} {v : V} {x y : Str} (h : Dp K H v (.tuple [.str x, .str y])) : ∃ a, v = .ref a ∧ SqT K H a [.str x, .str y] := by
  cases h with
  | tup q r =>
    cases r with
    | cons a r =>
      cases a
      cases r with
      | cons b r =>
        cases b
        cases r
        exact ⟨_, rfl, q⟩
theorem dp_s {K : PySem.W.Frag} {H : Hp} {v : V} {x : Str} (h : Dp K H v (.tuple [.str x])) : ∃ a, v = .ref a ∧ SqT K H a [.str x] := by
  cases h with
  | tup q r =>
    cases r with
    | cons a r =>
      cases a
      cases r
      exact ⟨_, rfl, q⟩
theorem dp_si {K : PySem.W.Frag} {H : Hp} {v : V} {x : Str} {n : Int} (h : Dp K H v (.tuple [.str x, .int n])) : ∃ a, v = .ref a ∧ SqT K H a [.str x, .int n] := by
  cases h with
  | tup q r =>
    cases r with
    | cons a r =>
      cases a
      cases r with
      | cons b r =>
        cases b
        cases r
        exact ⟨_, rfl, q⟩
theorem dp_sss {K : PySem.W.Frag} {H : Hp} {v : V} {x y z : Str} (h : Dp K H v (.tuple [.str x, .str y, .str z])) : ∃ a, v = .ref a ∧ SqT K H a [.str x, .str y, .str z] := by
  cases h with
  | tup q r =>
    cases r with
    | cons a r =>
      cases a
      cases r with
      | cons b r =>
        cases b
        cases r with
        | cons c r =>
          cases c
          cases r
          exact ⟨_, rfl, q⟩
def spWhole (K : PySem.W.Frag) : Sp := fun vs H Q _ => ∃ n : Int, vs = [.int n] ∧ Q (.bl true) H
def spNum : Sp := fun vs H Q _ => ∃ n : Int, vs = [.int n] ∧ Q (.bl (decide (1 ≤ n ∧ n ≤ 1000000000000))) H
def spFirst (K : PySem.W.Frag) : Sp := fun vs H Q _ => ∃ (v : V) (g : Tg), vs = [v] ∧ AtG K H v g ∧ ∀ H', Same H H' → Q (.str (wordG g)) H'
def spHW (K : PySem.W.Frag) : Sp := fun vs H Q _ => ∃ v : V, vs = [v] ∧ ((∃ x y : Str, Dp K H v (.tuple [.str x, .str y]) ∧ Sgn (tl y) ∧ y.length ≤ 10000 ∧ Q (.bl (wdL (tl y))) H) ∨ (∃ x : Str, Dp K H v (.tuple [.str x]) ∧ Q (.bl false) H))
def spHT (K : PySem.W.Frag) : Sp := fun vs H Q _ => ∃ (v : V) (x y z : Str), vs = [v] ∧ Dp K H v (.tuple [.str x, .str y, .str z]) ∧ Sgn (tl y) ∧ y.length ≤ 10000 ∧ z.length ≤ 10000 ∧ Q (.bl (wdL (tl y) && isTx z)) H
def spHN (K : PySem.W.Frag) : Sp := fun vs H Q _ => ∃ (v : V) (x : Str) (n : Int), vs = [v] ∧ Dp K H v (.tuple [.str x, .int n]) ∧ Q (.bl (decide (1 ≤ n ∧ n ≤ 1000000000000))) H
section
variable {P : Program} {w : World} {K : PySem.W.Frag} {mg : Str → Option Value} {base : Heap} {f : Addr} {fd : FuncData} {aO aB aI fW fT fN : Addr}
theorem ok_is_whole (Fo : Fun K "is_whole" "is_whole" s_is_whole f fd) (T : Txt w K mg aO) : FnOk P w K mg base CX0 1 f fd ["value"] (spWhole K) := by
  refine Fo.ok sc_is_whole (fun vs H Q E h => ?_) (fun cdv A outer s H vs Q E hr h => ?_)
  · obtain ⟨n, rfl, _⟩ := h
    rfl
  · obtain ⟨n, rfl, q⟩ := h
    refine ⟨_, (pss_one (ps_ret (pe_and (pe_callB (r := rIsi K) call_isi (by rfl) T.b_isinstance (by decide +kernel) (pa_cons (pv 0) (pa_cons (pe_bltn (v := .ty "int") (by rfl) T.b_int (by decide +kernel) rfl) pa_nil))) (pe_one (pe_not (pe_callB (r := rIsi K) call_isi (by rfl) T.b_isinstance (by decide +kernel) (pa_cons (pv 0) (pa_cons (pe_bltn (v := .ty "bool") (by rfl) T.b_bool (by decide +kernel) rfl) pa_nil)))))))), ?_⟩
    refine ⟨_, rfl, _, _, _, _, true, rfl, ClsV.ty "int", TyX.base (.int n), kit_ty (by decide +kernel), true, rfl, iteT ?_⟩
    refine ⟨_, rfl, _, _, _, _, false, rfl, ClsV.ty "bool", TyX.base (.int n), kit_ty (by decide +kernel), false, rfl, q⟩
theorem ok_is_number (Fo : Fun K "is_number" "is_number" s_is_number f fd) (T : Txt w K mg aO) (D_is_whole : Dfn P w K mg base "is_whole" 1 ["value"] (spWhole K)) : FnOk P w K mg base CX0 2 f fd ["value"] spNum := by
  obtain ⟨t0, gN⟩ := T.g_number
  refine Fo.ok sc_is_number (fun vs H Q E h => ?_) (fun cdv A outer s H vs Q E hr h => ?_)
  · obtain ⟨n, rfl, _⟩ := h
    rfl
  · obtain ⟨n, rfl, q⟩ := h
    refine ⟨_, (pss_one (ps_ret (pe_and (pe_d D_is_whole hr (by decide) (pa_cons (pv 0) pa_nil)) (pe_one (pe_chain op_le op_le pe_int (pv 0) (pe_glob (v := .int 1000000000000) rfl gN ⟨_, rfl⟩)))))), ?_⟩
    refine ⟨_, rfl, n, rfl, true, rfl, iteT ⟨_, rfl, _, _, rfl, rfl, _, rfl, ?_⟩⟩
    by_cases h1 : (1 : Int) ≤ n
    · rw [decide_eq_true h1]
      refine iteT ⟨_, _, rfl, rfl, ?_⟩
      have e : decide (1 ≤ n ∧ n ≤ 1000000000000) = decide (n ≤ 1000000000000) := by
        congr 1
        exact propext ⟨fun z => z.2, fun z => ⟨h1, z⟩⟩
      rw [e] at q
      exact q
    · rw [decide_eq_false h1]
      have e : decide (1 ≤ n ∧ n ≤ 1000000000000) = false := decide_eq_false fun z => h1 z.1
      rw [e] at q
      exact iteF q
theorem ok_first_word (Fo : Fun K "first_word" "first_word" s_first_word f fd) (T : Txt w K mg aO) (D_is_word : Dfn P w K mg base "is_word" 2 ["value"] spIsWord) : FnOk P w K mg base CX0 3 f fd ["value"] (spFirst K) := by
  refine Fo.ok sc_first_word (fun vs H Q E h => ?_) (fun cdv A outer s H vs Q E hr h => ?_)
  · obtain ⟨v, g, rfl, _⟩ := h
    rfl
  · obtain ⟨v, g, rfl, ag, q⟩ := h
    refine ⟨_, (pss_cons (ps_if (PW.pt (pw_or (pt_not (pt_val (pe_callB (r := rIsi K) call_isi (by rfl) T.b_isinstance (by decide +kernel) (pa_cons (pv 0) (pa_cons (pe_bltn (v := .ty "tuple") (by rfl) T.b_tuple (by decide +kernel) rfl) pa_nil))))) (pw_or (pt_cmpR (r := rEqD K) (op_eqD hr.units) (pv 0) (pe_tup pa_nil) (nomark _)) (pw_or1 (pt_not (pt_val (pe_d D_is_word hr (by decide) (pa_cons (pe_ix (r := rIxT K) ix_tup (pv 0) pe_int (fun _ _ => rfl)) pa_nil)))))))) (pss_one (ps_ret pe_str)) pss_nil) (pss_one (ps_ret (pe_ix (r := rIxT K) ix_tup (pv 0) pe_int (fun _ _ => rfl))))), ?_⟩
    cases e : dataG g with
    | none =>
      have : g = .nt := by cases g <;> first | rfl | exact nomatch e
      subst this
      obtain ⟨t, ty, kt⟩ := ag
      exact ⟨_, rfl, _, _, _, _, false, rfl, ClsV.ty "tuple", ty, kt, false, rfl, iteT (q H (Same.refl H))⟩
    | some d =>
      obtain ⟨dp, sd⟩ := ag.data e
      rcases data_word e with ⟨rfl, we⟩ | ⟨r, rfl, wd⟩
      · cases dp with
        | tup sq r =>
          obtain ⟨t, ty, kt⟩ := sqT_ty sq
          refine ⟨_, rfl, _, _, _, _, true, rfl, ClsV.ty "tuple", ty, kt, true, rfl, iteF ⟨_, rfl, (by show 0 ≤ sizeLine; decide), fun p hp => ?_⟩⟩
          have s1 := same_new (o := .tup []) hp
          refine ⟨.tuple [], .tuple [], .tup (sqT_up s1 sq) (by cases r; exact .nil), .tup (SqT.of upd_same) .nil, sd, sd, _, rfl, ?_⟩
          rw [show PyData.eqv (.tuple []) (.tuple []) = true from by simp [PyData.eqv, PyData.eqvAll]]
          refine iteT ?_
          have := q _ s1
          rw [we] at this
          exact this
      · cases dp with
        | tup sq r =>
          obtain ⟨t, ty, kt⟩ := sqT_ty sq
          refine ⟨_, rfl, _, _, _, _, true, rfl, ClsV.ty "tuple", ty, kt, true, rfl, iteF ⟨_, rfl, (by show 0 ≤ sizeLine; decide), fun p hp => ?_⟩⟩
          have s1 := same_new (o := .tup []) hp
          refine ⟨_, .tuple [], .tup (sqT_up s1 sq) (dpAll_up s1 _ _ r), .tup (SqT.of upd_same) .nil, sd, (by decide +kernel), _, rfl, ?_⟩
          rw [show PyData.eqv (.tuple (.str (wordG g) :: _)) (.tuple []) = false from by simp [PyData.eqv, PyData.eqvAll]]
          cases r with
          | cons a r =>
            cases a
            have w2 : Sgn (tl (wordG g)) ∧ (wordG g).length ≤ 12 := by
              rcases word_ok g with z | z
              · rw [z] at wd
                exact absurd wd (by decide +kernel)
              · exact z.2
            have sq2 := sqT_up s1 sq
            refine iteF ⟨_, rfl, _, _, _, _, rfl, rfl, sq2, atI_nat (j := 0) rfl, wordG g, rfl, w2.1, by omega, _, rfl, ?_⟩
            rw [wd]
            exact iteF ⟨_, rfl, _, _, _, _, rfl, rfl, sq2, atI_nat (j := 0) rfl, q _ s1⟩
theorem ok_has_word (Fo : Fun K "_has_word" "_has_word" s_has_word f fd) (T : Txt w K mg aO) (D_is_word : Dfn P w K mg base "is_word" 2 ["value"] spIsWord) : FnOk P w K mg base CX0 3 f fd ["value"] (spHW K) := by
  refine Fo.ok sc_has_word (fun vs H Q E h => ?_) (fun cdv A outer s H vs Q E hr h => ?_)
  · obtain ⟨v, rfl, _⟩ := h
    rfl
  · obtain ⟨v, rfl, h⟩ := h
    refine ⟨_, (pss_one (ps_ret (pe_and (pe_cmpR op_eq (pe_callB (r := rLenQ K) call_lenQ (by rfl) T.b_len (by decide +kernel) (pa_cons (pv 0) pa_nil)) pe_int (nomark _)) (pe_one (pe_d D_is_word hr (by decide) (pa_cons (pe_ix (r := rIxT K) ix_tup (pv 0) pe_int (fun _ _ => rfl)) pa_nil)))))), ?_⟩
    rcases h with ⟨x, y, dp, sg, hl, q⟩ | ⟨x, dp, q⟩
    · obtain ⟨a, rfl, sq⟩ := dp_ss dp
      refine ⟨_, rfl, a, _, rfl, .inr sq, rfl, _, rfl, iteT ?_⟩
      exact ⟨_, rfl, a, _, _, _, rfl, rfl, sq, atI_nat (j := 1) rfl, y, rfl, sg, hl, q⟩
    · obtain ⟨a, rfl, sq⟩ := dp_s dp
      exact ⟨_, rfl, a, _, rfl, .inr sq, rfl, _, rfl, iteF q⟩
theorem ok_has_text (Fo : Fun K "_has_text" "_has_text" s_has_text f fd) (T : Txt w K mg aO) (D_is_word : Dfn P w K mg base "is_word" 2 ["value"] spIsWord) (D_is_text : Dfn P w K mg base "is_text" 2 ["value"] (spIsText K)) : FnOk P w K mg base CX0 3 f fd ["value"] (spHT K) := by
  refine Fo.ok sc_has_text (fun vs H Q E h => ?_) (fun cdv A outer s H vs Q E hr h => ?_)
  · obtain ⟨v, x, y, z, rfl, _⟩ := h
    rfl
  · obtain ⟨v, x, y, z, rfl, dp, sg, hy, hz, q⟩ := h
    refine ⟨_, (pss_one (ps_ret (pe_and (pe_cmpR op_eq (pe_callB (r := rLenQ K) call_lenQ (by rfl) T.b_len (by decide +kernel) (pa_cons (pv 0) pa_nil)) pe_int (nomark _)) (pe_and (pe_d D_is_word hr (by decide) (pa_cons (pe_ix (r := rIxT K) ix_tup (pv 0) pe_int (fun _ _ => rfl)) pa_nil)) (pe_one (pe_d D_is_text hr (by decide) (pa_cons (pe_ix (r := rIxT K) ix_tup (pv 0) pe_int (fun _ _ => rfl)) pa_nil))))))), ?_⟩
    obtain ⟨a, rfl, sq⟩ := dp_sss dp
    refine ⟨_, rfl, a, _, rfl, .inr sq, rfl, _, rfl, iteT ?_⟩
    refine ⟨_, rfl, a, _, _, _, rfl, rfl, sq, atI_nat (j := 1) rfl, y, rfl, sg, hy, _, rfl, ?_⟩
    cases e : wdL (tl y) with
    | false =>
      rw [e] at q
      exact iteF q
    | true =>
      rw [e, Bool.true_and] at q
      exact iteT ⟨_, rfl, a, _, _, _, rfl, rfl, sq, atI_nat (j := 2) rfl, _, rfl, .inl ⟨z, rfl, line_of (by omega), q⟩⟩
theorem ok_has_number (Fo : Fun K "_has_number" "_has_number" s_has_number f fd) (T : Txt w K mg aO) (D_is_number : Dfn P w K mg base "is_number" 2 ["value"] spNum) : FnOk P w K mg base CX0 3 f fd ["value"] (spHN K) := by
  refine Fo.ok sc_has_number (fun vs H Q E h => ?_) (fun cdv A outer s H vs Q E hr h => ?_)
  · obtain ⟨v, x, n, rfl, _⟩ := h
    rfl
  · obtain ⟨v, x, n, rfl, dp, q⟩ := h
    refine ⟨_, (pss_one (ps_ret (pe_and (pe_cmpR op_eq (pe_callB (r := rLenQ K) call_lenQ (by rfl) T.b_len (by decide +kernel) (pa_cons (pv 0) pa_nil)) pe_int (nomark _)) (pe_one (pe_d D_is_number hr (by decide) (pa_cons (pe_ix (r := rIxT K) ix_tup (pv 0) pe_int (fun _ _ => rfl)) pa_nil)))))), ?_⟩
    obtain ⟨a, rfl, sq⟩ := dp_si dp
    refine ⟨_, rfl, a, _, rfl, .inr sq, rfl, _, rfl, iteT ?_⟩
    exact ⟨_, rfl, a, _, _, _, rfl, rfl, sq, atI_nat (j := 1) rfl, n, rfl, q⟩
end
end Bw

namespace Bw
open PySem PySem.Spec L2 TL PyProof.Rows Ask

def szG : Tg → Nat
  | .f f => sz f
  | .nt => 1
  | .odd _ => 1
  | .nb => 2
def depF : F Itm → Nat
  | .it _ => 1
  | .no f => depF f + 1
  | .of _ l => (l.map fun f => depF f).foldr max 0 + 1
def goodF : F Itm → Bool
  | .it a => goodI a
  | .no f => goodF f
  | .of _ l => (l.map fun f => goodF f).all id
def depG : Tg → Nat
  | .f f => depF f
  | .nt => 1
  | .odd _ => 1
  | .nb => 2
def goodG : Tg → Bool
  | .f f => goodF f
  | _ => false
def fltG (g : Tg) : Bool := goodG g && (decide (depG g ≤ 6) && decide (szG g ≤ 32))
theorem szG_pos (g : Tg) : 1 ≤ szG g := by
  cases g with
  | f f => exact sz_pos f
  | nt => exact Nat.le_refl _
  | odd o => exact Nat.le_refl _
  | nb => decide
theorem depG_pos (g : Tg) : 1 ≤ depG g := by
  cases g with
  | f f =>
    cases f with
    | it a => show 1 ≤ depF _; rw [depF]; exact Nat.le_refl _
    | no f => show 1 ≤ depF _; rw [depF]; omega
    | of w l => show 1 ≤ depF _; rw [depF]; omega
  | nt => exact Nat.le_refl _
  | odd o => exact Nat.le_refl _
  | nb => decide
def szsG (l : List Tg) : Nat := (l.map szG).sum
theorem kids_none {g : Tg} (h : kids g = none) : goodG g = false := by
  match g, h with
  | .f (.it a), h =>
    show goodF _ = false
    rw [goodF]
    cases e : goodI a with
    | false => rfl
    | true => simp [kids, e] at h
  | .f (.no _), h => simp [kids] at h
  | .f (.of _ _), h => simp [kids] at h
  | .nt, _ => rfl
  | .odd _, _ => rfl
  | .nb, h => simp [kids] at h
theorem foldr_max {n : Nat} : ∀ {l : List Nat}, l.foldr max 0 ≤ n ↔ ∀ x ∈ l, x ≤ n
  | [] => by simp
  | x :: l => by
    rw [List.foldr_cons, Nat.max_le, foldr_max]
    simp
theorem kids_some {g : Tg} {gs : List Tg} (h : kids g = some gs) : szG g = 1 + szsG gs ∧ (goodG g = gs.all goodG) ∧ ∀ n, depG g ≤ n + 1 ↔ ∀ k ∈ gs, depG k ≤ n := by
  match g, h with
  | .f (.it a), h =>
    have h2 : (if goodI a = true then some ([] : List Tg) else none) = some gs := h
    by_cases e : goodI a = true
    · rw [if_pos e] at h2
      cases h2
      refine ⟨by show sz _ = _; rw [sz]; rfl, ?_, fun n => ?_⟩
      · show goodF _ = _
        rw [goodF, e]
        rfl
      · show depF _ ≤ _ ↔ _
        rw [depF]
        simp
    · rw [if_neg e] at h2
      exact nomatch h2
  | .f (.no f), h =>
    cases h
    refine ⟨by show sz _ = _; rw [sz]; simp [szsG, szG]; omega, ?_, fun n => ?_⟩
    · show goodF _ = _
      rw [goodF]
      simp [goodG]
    · show depF _ ≤ _ ↔ _
      rw [depF]
      simp [depG]
  | .f (.of w l), h =>
    cases h
    refine ⟨?_, ?_, fun n => ?_⟩
    · show sz _ = _
      rw [sz_of]
      have : szsG (l.map .f) = szs l := by
        unfold szsG szs
        rw [List.map_map]
        rfl
      omega
    · show goodF _ = _
      rw [goodF, List.all_map, List.all_map]
      rfl
    · show depF _ ≤ _ ↔ _
      rw [depF, Nat.add_le_add_iff_right, foldr_max]
      simp [depG]
  | .nb, h =>
    cases h
    refine ⟨rfl, rfl, fun n => ?_⟩
    simp [depG]
/-- parts, or none: of what stands in an elder heap -/
def spParts (K : PySem.W.Frag) : Sp := fun vs H Q _ => ∃ (v : V) (g : Tg) (H0 : Hp), vs = [v] ∧ Same H0 H ∧ AtG K H0 v g ∧
  (kids g = none → ∀ H', Same H H' → Q .non H') ∧ (∀ gs, kids g = some gs → ∀ H' p us, Same H H' → SqT K H' p us → Paired (AtG K H0) us gs → Q (.ref p) H')
def spItem (K : PySem.W.Frag) : Sp := fun vs H Q _ => ∃ (v : V) (g : Tg), vs = [v] ∧ AtG K H v g ∧ ((∃ a, g = .f (.it a)) ∨ g = .nt ∨ g = .odd .e ∨ g = .odd .h) ∧ ∀ H', Same H H' → Q (.bl (kids g).isSome) H'
section
variable {P : Program} {w : World} {K : PySem.W.Frag} {mg : Str → Option Value} {base : Heap} {f : Addr} {fd : FuncData} {aO aB aI fW fT fN : Addr}
theorem ok_is_item (Fo : Fun K "is_item" "is_item" s_is_item f fd) (T : Txt w K mg aO) (TI : TxI w K mg aI fW fT fN) (D_first_word : Dfn P w K mg base "first_word" 3 ["value"] (spFirst K)) (hW : Held P w K mg base 3 fW (spHW K)) (hT : Held P w K mg base 3 fT (spHT K)) (hN : Held P w K mg base 3 fN (spHN K)) :
    FnOk P w K mg base CX0 4 f fd ["value"] (spItem K) := by
  refine Fo.ok sc_is_item (fun vs H Q E h => ?_) (fun cdv A outer s H vs Q E hr h => ?_)
  · obtain ⟨v, g, rfl, _⟩ := h
    rfl
  · obtain ⟨v, g, rfl, ag, hg, q⟩ := h
    refine ⟨_, (pss_cons (ps_set (i := 1) sc_is_item.nd rfl (Or.inl rfl) (pe_d D_first_word hr (by decide) (pa_cons (pv 0) pa_nil))) (pss_cons (ps_if (pt_cmpR (r := rNoth K aI) (op_noth TI.d) (pv 1) (pe_glob (v := .ref aI) rfl TI.g rfl) rfl) (pss_one (ps_ret pe_bl)) pss_nil) (pss_cons (ps_set (i := 2) sc_is_item.nd rfl (Or.inl rfl) (pe_ix ix_kdict (pe_glob (v := .ref aI) rfl TI.g rfl) (pv 1) (fun _ _ => rfl))) (pss_one (ps_ret (pe_callH (k := 3) (i := 2) hr (by decide) rfl (Or.inl rfl) (pa_cons (pv 0) pa_nil))))))), ?_⟩
    refine ⟨_, rfl, v, g, rfl, ag, fun H1 s1 => ?_⟩
    obtain ⟨es, ne, KD⟩ := TI.d
    have ag1 := ag.up s1
    rcases hg with ⟨a, rfl⟩ | rfl | rfl | rfl
    · have kg : (kids (.f (.it a))).isSome = goodI a := by
        show (if goodI a = true then some ([] : List Tg) else none).isSome = _
        cases goodI a <;> rfl
      rw [kg] at q
      cases ag.2.1 with
      | it tx =>
        have dp := ag1.1
        unfold AtF at dp
        rw [enc] at dp
        cases a with
        | has x =>
          refine ⟨_, rfl, "has", _, rfl, rfl, TI.has, _, rfl, iteF ?_⟩
          refine ⟨_, rfl, aI, "has", .ref fW, rfl, rfl, ⟨es, ne, _, KD.at_, KD.lit, TI.has, rfl⟩, fW, spHW K, rfl, hW, ?_⟩
          exact ⟨_, rfl, v, rfl, .inl ⟨"has", x, dp, tx.1, by have := tx.2; omega, q _ s1⟩⟩
        | is x y =>
          refine ⟨_, rfl, "is", _, rfl, rfl, TI.is, _, rfl, iteF ?_⟩
          refine ⟨_, rfl, aI, "is", .ref fT, rfl, rfl, ⟨es, ne, _, KD.at_, KD.lit, TI.is, rfl⟩, fT, spHT K, rfl, hT, ?_⟩
          exact ⟨_, rfl, v, "is", x, y, rfl, dp, tx.1.1, by have := tx.1.2; omega, by have := tx.2; omega, q _ s1⟩
        | cls x =>
          refine ⟨_, rfl, "class", _, rfl, rfl, TI.cls, _, rfl, iteF ?_⟩
          refine ⟨_, rfl, aI, "class", .ref fW, rfl, rfl, ⟨es, ne, _, KD.at_, KD.lit, TI.cls, rfl⟩, fW, spHW K, rfl, hW, ?_⟩
          exact ⟨_, rfl, v, rfl, .inl ⟨"class", x, dp, tx.1, by have := tx.2; omega, q _ s1⟩⟩
        | within n =>
          refine ⟨_, rfl, "within", _, rfl, rfl, TI.within, _, rfl, iteF ?_⟩
          refine ⟨_, rfl, aI, "within", .ref fN, rfl, rfl, ⟨es, ne, _, KD.at_, KD.lit, TI.within, rfl⟩, fN, spHN K, rfl, hN, ?_⟩
          exact ⟨_, rfl, v, "within", n, rfl, dp, q _ s1⟩
    · exact ⟨_, rfl, "", none, rfl, rfl, TI.no, _, rfl, iteT (q _ s1)⟩
    · exact ⟨_, rfl, "", none, rfl, rfl, TI.no, _, rfl, iteT (q _ s1)⟩
    · refine ⟨_, rfl, "has", _, rfl, rfl, TI.has, _, rfl, iteF ?_⟩
      refine ⟨_, rfl, aI, "has", .ref fW, rfl, rfl, ⟨es, ne, _, KD.at_, KD.lit, TI.has, rfl⟩, fW, spHW K, rfl, hW, ?_⟩
      exact ⟨_, rfl, v, rfl, .inr ⟨"has", ag1.1, q _ s1⟩⟩
theorem sqL_ty {K : PySem.W.Frag} {H : Hp} {a : Addr} {us : List V} (q : SqL K H a us) : NotTup K H (.ref a) := by
  rcases q with (q | ⟨z, q⟩) | ⟨o, its, n, hk, hc, hd, hz, r⟩
  · exact ⟨_, TyX.base (.lst q), kit_ty (by decide +kernel)⟩
  · exact ⟨_, TyX.base (.frz q), kit_ty (by decide +kernel)⟩
  · exact ⟨_, TyX.kList hk hc, kit_ty (by decide +kernel)⟩
theorem atL_kids {K : PySem.W.Frag} {H : Hp} : ∀ {us : List V} {l : List (F Itm)}, AtL K H us l → (∀ f ∈ l, Tx f ∧ Ok f ∧ Hg 30 f) → Paired (AtG K H) us (l.map .f)
  | [], [], _, _ => .nil
  | [], _ :: _, h, _ => nomatch h
  | _ :: _, [], h, _ => nomatch h
  | v :: us, f :: l, h, k => by
    cases h with
    | cons a r => exact .cons ⟨a, k f (List.mem_cons_self ..)⟩ (atL_kids (us := us) (l := l) r fun g hg => k g (.tail _ hg))
theorem ok_parts_of (Fo : Fun K "_parts_of" "_parts_of" s_parts_of f fd) (T : Txt w K mg aO) (TB : TxB w K mg aB) (D_first_word : Dfn P w K mg base "first_word" 3 ["value"] (spFirst K)) (D_is_item : Dfn P w K mg base "is_item" 4 ["value"] (spItem K)) :
    FnOk P w K mg base CX0 5 f fd ["value"] (spParts K) := by
  refine Fo.ok sc_parts_of (fun vs H Q E h => ?_) (fun cdv A outer s H vs Q E hr h => ?_)
  · obtain ⟨v, g, H0, rfl, _⟩ := h
    rfl
  · obtain ⟨v, g, H0, rfl, s0, ag0, qn, qs⟩ := h
    refine ⟨_, (pss_cons (ps_set (i := 1) sc_parts_of.nd rfl (Or.inl rfl) (pe_d D_first_word hr (by decide) (pa_cons (pv 0) pa_nil))) (pss_cons (ps_if (pt_cmpR (r := rNoth K aB) (op_noth TB.d) (pv 1) (pe_glob (v := .ref aB) rfl TB.g rfl) rfl) (pss_one (ps_ret (pe_ifExp (pt_val (pe_d D_is_item hr (by decide) (pa_cons (pv 0) pa_nil))) (pe_tup pa_nil) pe_non))) pss_nil) (pss_cons (ps_if (pt_cmpR op_ne (pe_callB (r := rLenQ K) call_lenQ (by rfl) T.b_len (by decide +kernel) (pa_cons (pv 0) pa_nil)) pe_int (nomark _)) (pss_one (ps_ret pe_non)) pss_nil) (pss_cons (ps_if (pt_cmpR op_eq (pv 1) pe_str (nomark _)) (pss_one (ps_ret (pe_slice sl_tup (pv 0) (po_some pe_int) po_none))) pss_nil) (pss_one (ps_ret (pe_ifExp (pt_val (pe_callB (r := rIsi K) call_isi (by rfl) T.b_isinstance (by decide +kernel) (pa_cons (pe_ix (r := rIxT K) ix_tup (pv 0) pe_int (fun _ _ => rfl)) (pa_cons (pe_bltn (v := .ty "tuple") (by rfl) T.b_tuple (by decide +kernel) rfl) pa_nil)))) (pe_ix (r := rIxT K) ix_tup (pv 0) pe_int (fun _ _ => rfl)) pe_non))))))), ?_⟩
    refine ⟨_, rfl, v, g, rfl, ag0.up s0, fun H1 s1 => ?_⟩
    have ag1 := (ag0.up s0).up s1
    by_cases lf : (∃ a, g = .f (.it a)) ∨ g = .nt ∨ g = .odd .e ∨ g = .odd .h
    · have hw : wordG g ∈ (["", "has", "is", "class", "within"] : List Str) := by
        rcases lf with ⟨a, rfl⟩ | rfl | rfl | rfl
        · cases a <;> simp [wordG, first]
        · simp [wordG]
        · simp [wordG]
        · simp [wordG]
      have hk : ∀ gs, kids g = some gs → gs = [] := fun gs h => by
        rcases lf with ⟨a, rfl⟩ | rfl | rfl | rfl
        · have h2 : (if goodI a = true then some ([] : List Tg) else none) = some gs := h
          split at h2 <;> cases h2
          rfl
        · exact nomatch h
        · exact nomatch h
        · exact nomatch h
      refine ⟨_, rfl, wordG g, none, rfl, rfl, TB.no _ hw, _, rfl, iteT ⟨_, rfl, v, g, rfl, ag1, lf, fun H2 s2 => ⟨_, rfl, ?_⟩⟩⟩
      cases e : kids g with
      | none => exact iteF (qn e _ (s1.trans s2))
      | some gs =>
        obtain rfl := hk gs e
        refine iteT ⟨(by show 0 ≤ sizeLine; decide), fun p hp => ?_⟩
        have s3 := same_new (o := .tup []) hp
        exact qs [] e _ p [] ((s1.trans s2).trans s3) (SqT.of upd_same) .nil
    have twig : wordG g ∈ (["and", "or", "not"] : List Str) → ∃ tk, PySem.W.nsIn K aB (wordG g) = some (some tk) := TB.yes _
    match g, ag0, ag1, lf with
    | .f (.it a), ag0, ag1, lf => exact absurd (.inl ⟨a, rfl⟩) lf
    | .nt, ag0, ag1, lf => exact absurd (.inr (.inl rfl)) lf
    | .odd .e, ag0, ag1, lf => exact absurd (.inr (.inr (.inl rfl))) lf
    | .odd .h, ag0, ag1, lf => exact absurd (.inr (.inr (.inr rfl))) lf
    | .odd .a, ag0, ag1, lf =>
      obtain ⟨tk, e⟩ := twig (by simp [wordG])
      obtain ⟨b, rfl, sq⟩ := dp_s ag1.1
      refine ⟨_, rfl, _, _, rfl, rfl, e, _, rfl, iteF ?_⟩
      exact ⟨_, rfl, b, _, rfl, .inr sq, rfl, _, rfl, iteT (qn rfl _ s1)⟩
    | .odd .n, ag0, ag1, lf =>
      obtain ⟨tk, e⟩ := twig (by simp [wordG])
      obtain ⟨b, rfl, sq⟩ := dp_s ag1.1
      refine ⟨_, rfl, _, _, rfl, rfl, e, _, rfl, iteF ?_⟩
      exact ⟨_, rfl, b, _, rfl, .inr sq, rfl, _, rfl, iteT (qn rfl _ s1)⟩
    | .odd (.al l), ag0, ag1, lf =>
      obtain ⟨tk, e⟩ := twig (by simp [wordG])
      obtain ⟨b, c, us, rfl, sq, sl⟩ : ∃ b c us, v = .ref b ∧ SqT K H1 b [.str "and", .ref c] ∧ SqL K H1 c us := by
        have dp := ag1.1
        unfold oddD at dp
        cases dp with
        | tup q r =>
          cases r with
          | cons a r =>
            cases a
            cases r with
            | cons b r =>
              cases r
              cases b with
              | lst q2 r2 => exact ⟨_, _, _, rfl, q, q2⟩
      refine ⟨_, rfl, _, _, rfl, rfl, e, _, rfl, iteF ?_⟩
      refine ⟨_, rfl, b, _, rfl, .inr sq, rfl, _, rfl, iteF ?_⟩
      refine ⟨_, rfl, rfl, _, rfl, iteF ?_⟩
      obtain ⟨t, ty, kt⟩ := sqL_ty sl
      exact ⟨_, rfl, b, _, _, _, rfl, rfl, sq, atI_nat (j := 1) rfl, _, _, _, _, false, rfl, ClsV.ty "tuple", ty, kt, false, rfl, iteF (qn rfl _ s1)⟩
    | .nb, ag0, ag1, lf =>
      obtain ⟨tk, e⟩ := twig (by simp [wordG])
      obtain ⟨b, u, rfl, sq0, du⟩ : ∃ b u, v = .ref b ∧ SqT K H0 b [.str "not", u] ∧ Dp K H0 u (.tuple [.str "has"]) := by
        have dp := ag0
        unfold AtG nbD at dp
        cases dp with
        | tup q r =>
          cases r with
          | cons a r =>
            cases a
            cases r with
            | cons b r =>
              cases r
              exact ⟨_, _, rfl, q, b⟩
      have sq := sqT_up (s0.trans s1) sq0
      refine ⟨_, rfl, _, _, rfl, rfl, e, _, rfl, iteF ?_⟩
      refine ⟨_, rfl, b, _, rfl, .inr sq, rfl, _, rfl, iteF ?_⟩
      refine ⟨_, rfl, rfl, _, rfl, iteT ?_⟩
      refine ⟨_, rfl, _, rfl, b, _, rfl, sq, (fun z => nomatch (show (1 : Nat) = 0 from z.1)), fun p hp => ?_⟩
      exact qs _ rfl _ p [u] (s1.trans (same_new hp)) (SqT.of upd_same) (.cons ⟨du, by decide +kernel⟩ .nil)
    | .f (.no g2), ag0, ag1, lf =>
      obtain ⟨tk, e⟩ := twig (by simp [wordG, first])
      obtain ⟨b, u, rfl, sq0, au⟩ := ag0.1.no
      have sq := sqT_up (s0.trans s1) sq0
      refine ⟨_, rfl, _, _, rfl, rfl, e, _, rfl, iteF ?_⟩
      refine ⟨_, rfl, b, _, rfl, .inr sq, rfl, _, rfl, iteF ?_⟩
      refine ⟨_, rfl, rfl, _, rfl, iteT ?_⟩
      refine ⟨_, rfl, _, rfl, b, _, rfl, sq, (fun z => nomatch (show (1 : Nat) = 0 from z.1)), fun p hp => ?_⟩
      have sub : Tx g2 ∧ Ok g2 ∧ Hg 30 g2 := by
        obtain ⟨_, h1, h2, h3⟩ := ag0
        cases h1 with
        | no h1 =>
          cases h2 with
          | no h2 =>
            cases h3 with
            | no h3 => exact ⟨h1, h2, h3.up (by omega)⟩
      exact qs _ rfl _ p [u] (s1.trans (same_new hp)) (SqT.of upd_same) (.cons ⟨au, sub⟩ .nil)
    | .f (.of z l), ag0, ag1, lf =>
      obtain ⟨tk, e⟩ := twig (by cases z <;> simp [wordG, first, wrd])
      obtain ⟨b, c, us, rfl, sq0, sc0, al0⟩ := ag0.1.of
      have sq := sqT_up (s0.trans s1) sq0
      refine ⟨_, rfl, _, _, rfl, rfl, e, _, rfl, iteF ?_⟩
      refine ⟨_, rfl, b, _, rfl, .inr sq, rfl, _, rfl, iteF ?_⟩
      refine ⟨_, rfl, rfl, _, rfl, ?_⟩
      rw [show decide (V.str (wordG (.f (.of z l))) = V.str "not") = false from decide_eq_false fun q => (wrd_ne z).2.2.2.2 (V.str.inj q)]
      refine iteF ?_
      obtain ⟨t, ty, kt⟩ := sqT_ty (sqT_up (s0.trans s1) sc0)
      refine ⟨_, rfl, b, _, _, _, rfl, rfl, sq, atI_nat (j := 1) rfl, _, _, _, _, true, rfl, ClsV.ty "tuple", ty, kt, true, rfl, iteT ?_⟩
      refine ⟨_, rfl, b, _, _, _, rfl, rfl, sq, atI_nat (j := 1) rfl, ?_⟩
      refine qs _ rfl _ c us s1 (sqT_up (s0.trans s1) sc0) (atL_kids al0 fun g2 hg => ?_)
      obtain ⟨_, h1, h2, h3⟩ := ag0
      cases h1 with
      | of _ h1 =>
        cases h2 with
        | of _ h2 =>
          cases h3 with
          | of _ h3 => exact ⟨h1 _ hg, h2 _ hg, (h3 _ hg).up (by omega)⟩
end
end Bw

namespace Bw
open PySem PySem.Spec L2 TL PyProof.Rows Ask

def spIsF (K : PySem.W.Frag) : Sp := fun vs H Q _ => ∃ (v : V) (g : Tg), vs = [v] ∧ AtG K H v g ∧ szG g ≤ 900 ∧ ∀ H', Same H H' → Q (.bl (fltG g)) H'
abbrev Todo := V × Tg × Nat
def szT (l : List Todo) : Nat := (l.map fun x => szG x.2.1).sum
theorem szT_app (l m : List Todo) : szT (l ++ m) = szT l + szT m := by simp [szT]
theorem szT_one (x : Todo) : szT [x] = szG x.2.1 := by simp [szT]
theorem len_szT : ∀ l : List Todo, l.length ≤ szT l
  | [] => Nat.le_refl _
  | x :: l => by
    have h1 := len_szT l
    have h2 := szG_pos x.2.1
    have h3 : szT (x :: l) = szG x.2.1 + szT l := by simp [szT]
    rw [h3, List.length_cons]
    omega
/-- a thing that waits, with its depth -/
def Waits (K : PySem.W.Frag) (H0 H : Hp) (k : V) (x : Todo) : Prop := ∃ t, k = .ref t ∧ H t = some (.tup [x.1, .int x.2.2]) ∧ AtG K H0 x.1 x.2.1
theorem waits_up {K : PySem.W.Frag} {H0 H H' : Hp} {ks : List V} {xs : List Todo} (s : ∀ b us, H b = some (.tup us) → H' b = some (.tup us)) (h : Paired (Waits K H0 H) ks xs) : Paired (Waits K H0 H') ks xs :=
  Paired.mapP h fun _ _ ⟨t, e, ht, a⟩ => ⟨t, e, s _ _ ht, a⟩
theorem paired_split {α β : Type} {G : α → β → Prop} {l : List α} {m : List β} {a : α} (h : Paired G (l ++ [a]) m) : ∃ m' b, m = m' ++ [b] ∧ Paired G l m' ∧ G a b := by
  induction l generalizing m with
  | nil =>
    cases h with
    | cons r t =>
      cases t
      exact ⟨[], _, rfl, .nil, r⟩
  | cons x l ih =>
    cases h with
    | cons r t =>
      obtain ⟨m', b, rfl, h1, h2⟩ := ih t
      exact ⟨_ :: m', b, rfl, .cons r h1, h2⟩
theorem paired_app {α β : Type} {G : α → β → Prop} : ∀ {l1 l2 : List α} {m1 m2 : List β}, Paired G l1 m1 → Paired G l2 m2 → Paired G (l1 ++ l2) (m1 ++ m2)
  | [], _, [], _, _, h => h
  | _ :: _, _, _ :: _, _, .cons r t, h => .cons r (paired_app t h)
theorem paired_zip {α β : Type} {G : α → β → Prop} : ∀ {l : List α} {m : List β}, Paired G l m → ∃ zs : List (α × β), l = zs.map Prod.fst ∧ m = zs.map Prod.snd ∧ ∀ z ∈ zs, G z.1 z.2
  | _, _, .nil => ⟨[], rfl, rfl, fun _ z => nomatch z⟩
  | _, _, .cons (a := a) (b := b) r t => by
    obtain ⟨zs, e1, e2, e3⟩ := paired_zip t
    refine ⟨(a, b) :: zs, by rw [e1]; rfl, by rw [e2]; rfl, fun z hz => ?_⟩
    rcases List.mem_cons.mp hz with rfl | hz
    · exact r
    · exact e3 z hz
section
variable {P : Program} {w : World} {K : PySem.W.Frag} {mg : Str → Option Value} {base : Heap} {f : Addr} {fd : FuncData} {aO aB aI fW fT fN : Addr}
theorem ok_is_filter (Fo : Fun K "is_filter" "is_filter" s_is_filter f fd) (T : Txt w K mg aO) (D_parts_of : Dfn P w K mg base "_parts_of" 5 ["value"] (spParts K)) : FnOk P w K mg base CX0 6 f fd ["value"] (spIsF K) := by
  obtain ⟨tD, gD⟩ := T.g_deep
  obtain ⟨tP, gP⟩ := T.g_parts
  refine Fo.ok sc_is_filter (fun vs H Q E h => ?_) (fun cdv A outer s H vs Q E hr h => ?_)
  · obtain ⟨v, g, rfl, _⟩ := h
    rfl
  · obtain ⟨v, g, rfl, ag, hsz, q⟩ := h
    refine ⟨_, (pss_cons (ps_set (i := 1) sc_is_filter.nd rfl (Or.inl rfl) (pe_lst (pa_cons (pe_tup (pa_cons (pv 0) (pa_cons pe_int pa_nil))) pa_nil))) (pss_cons (ps_set (i := 2) sc_is_filter.nd rfl (Or.inl rfl) pe_int) (pss_cons (ps_while PassesOwn.never (pt_cmpR (r := rNeNil K) (op_neNil hr.units0) (pv 1) (pe_lst pa_nil) (nomark _)) (pss_cons (ps_asg (pe_bm0 PySem.F.plainAttrs_list PySem.F.slot_list_pop PySem.F.type_list_pop mt_pop (pv 1)) (pg_tup (by rfl) (pgs_cons (pg_name (i := 3) sc_is_filter.nd rfl (Or.inl rfl)) (pgs_cons (pg_name (i := 4) sc_is_filter.nd rfl (Or.inr rfl)) pgs_nil)))) (pss_cons (ps_aug (i := 2) sc_is_filter.nd rfl (Or.inl rfl) pe_int ip_add) (pss_cons (ps_set (i := 5) sc_is_filter.nd rfl (Or.inl rfl) (pe_d D_parts_of hr (by decide) (pa_cons (pv 3) pa_nil))) (pss_cons (ps_if (PW.pt (pw_or (pt_cmpR op_isN (pv 5) pe_non (nomark _)) (pw_or (pt_cmpR op_gt (pv 4) (pe_glob (v := .int 6) rfl gD ⟨_, rfl⟩) (nomark _)) (pw_or1 (pt_cmpR op_gt (pv 2) (pe_glob (v := .int 32) rfl gP ⟨_, rfl⟩) (nomark _)))))) (pss_one (ps_ret pe_bl)) pss_nil) (pss_one (ps_expr (pe_bm PySem.F.plainAttrs_list PySem.F.slot_list_extend PySem.F.type_list_extend mt_extend (pv 1) (pa_cons (pe_lc (own := [("each", 6)]) (g := gName 6) (by rfl) sc_is_filter.nd (pi_tup (pv 5)) (blkOk_by (own := [("each", 6)]) (N := n_is_filter) (sc := defScope s_is_filter) (by decide +kernel)) (fun _ _ _ _ _ => pg_name (i := 6) sc_is_filter.nd rfl (Or.inl rfl)) (fun _ _ _ _ _ => pts_nil) (fun _ _ _ _ _ => (pe_tup (pa_cons (pv 6) (pa_cons (pe_op op_add (pv 4) pe_int) pa_nil))))) pa_nil))))))))) (pss_one (ps_ret pe_bl))))), ?_⟩
    refine ⟨_, rfl, (by show 2 ≤ sizeLine; decide), fun t0 ht0 => ⟨(by show 1 ≤ sizeLine; decide), fun p hp => ?_⟩⟩
    have s1 := same_new (o := .tup [v, .int 1]) ht0
    have s2 := same_new (o := .lst [.ref t0]) hp
    have npH : H p = none := by
      cases e : H p with
      | none => rfl
      | some o => rw [s1 _ _ e] at hp; cases hp
    refine ⟨fun m σ H2 => ∃ (ks : List V) (xs : List Todo) (n : Nat) (o3 o4 o5 o6 : Option V), σ = [some v, some (.ref p), some (.int n), o3, o4, o5, o6] ∧ Same H H2 ∧ H2 p = some (.lst ks) ∧ Paired (Waits K H H2) ks xs ∧ m = szT xs ∧ n ≤ 32 ∧ n + szT xs = szG g ∧ (goodG g = xs.all fun x => goodG x.2.1) ∧ (depG g ≤ 6 ↔ ∀ x ∈ xs, x.2.2 + depG x.2.1 ≤ 7),
      ⟨_, [.ref t0], [(v, g, 1)], 0, _, _, _, _, rfl, s1.trans s2, upd_same, .cons ⟨t0, rfl, s2 _ _ upd_same, ag⟩ .nil, rfl, Nat.zero_le _, by rw [szT_one]; simp, by simp, ?_⟩, ?_⟩
    · simp only [List.mem_singleton, forall_eq]
      omega
    · rintro m σ H2 ⟨ks, xs, n, o3, o4, o5, o6, rfl, sm, hk, pw, rfl, hn, hs, hg, hd⟩
      refine ⟨_, rfl, Nat.zero_le _, fun N hN => ⟨p, N, ks, rfl, rfl, SqL.of (same_new hN _ _ hk), SqL.of upd_same, _, rfl, ?_⟩⟩
      have s3 := same_new (o := .lst []) hN
      have sm3 := sm.trans s3
      have hk3 := s3 _ _ hk
      have pw3 := waits_up (fun b us z => s3 b _ z) pw
      generalize upd H2 N (.lst []) = H3 at *
      rcases List.eq_nil_or_concat ks with rfl | ⟨init, k, rfl⟩
      · cases pw3
        refine iteF ?_
        have e : fltG g = true := by
          unfold fltG
          have h1 : goodG g = true := by rw [hg]; rfl
          have h2 : depG g ≤ 6 := hd.mpr fun x hx => nomatch hx
          have h3 : szG g ≤ 32 := by
            rw [← hs]
            exact hn
          rw [h1, decide_eq_true h2, decide_eq_true h3]
          rfl
        have := q _ sm3
        rw [e] at this
        exact this
      · obtain ⟨xi, x, rfl, pwi, t, rfl, ht, agx⟩ := paired_split (by simpa using pw3)
        obtain ⟨u, gx, d⟩ := x
        have e3 : (!(init.concat (V.ref t)).isEmpty) = true := by simp
        rw [e3]
        refine iteT ⟨_, fun σ' H'' h => h, ?_⟩
        have hlast : (init.concat (V.ref t))[(init.concat (V.ref t)).length - 1]? = some (V.ref t) := by simp
        refine ⟨_, rfl, .inl ⟨rfl, _, .inl (.inl hk3)⟩, p, _, _, rfl, rfl, hk3, hlast, ?_⟩
        rw [show (init.concat (V.ref t)).dropLast = init by simp]
        have off : ∀ b us, H3 b = some (.tup us) → (upd H3 p (.lst init)) b = some (.tup us) := fun b us z => by
          rw [upd_ne (fun e => by rw [e, hk3] at z; exact nomatch z)]
          exact z
        have sm4 : Same H (upd H3 p (.lst init)) := fun b o z => by
          rw [upd_ne (ne_of_none z npH)]
          exact sm3 b o z
        have pw4 := waits_up off pwi
        have ht4 := off _ _ ht
        have hk4 : (upd H3 p (.lst init)) p = some (.lst init) := upd_same
        generalize upd H3 p (.lst init) = H4 at *
        rw [szT_app, szT_one] at hs
        have hs' : n + (szT xi + szG gx) = szG g := hs
        have pos := szG_pos gx
        have out : ∀ H', Same H H' → (goodG gx = false ∨ 6 < d ∨ 32 < n + 1) → Q (.bl false) H' := fun H' s' c => by
          have e : fltG g = false := by
            unfold fltG
            rcases c with c | c | c
            · have : goodG g = false := by
                rw [hg]
                simp [c]
              rw [this]
              rfl
            · have : ¬ depG g ≤ 6 := fun z => by
                have h1 : d + depG gx ≤ 7 := hd.mp z (u, gx, d) (by simp)
                have := depG_pos gx
                omega
              rw [decide_eq_false this, Bool.false_and, Bool.and_false]
            · have : ¬ szG g ≤ 32 := by omega
              rw [decide_eq_false this, Bool.and_false, Bool.and_false]
          have := q H' s'
          rw [e] at this
          exact this
        refine ⟨t, _, rfl, SqT.of ht4, rfl, _, _, rfl, _, _, rfl, rfl, ?_⟩
        refine ⟨_, rfl, _, _, rfl, rfl, ?_⟩
        refine ⟨_, rfl, u, gx, H, rfl, sm4, agx, fun hno H5 s5 => ?_, fun gs hks H5 p5 us s5 sq5 pus => ?_⟩
        · exact ⟨_, rfl, rfl, _, rfl, iteT (iteT (out _ (sm4.trans s5) (.inl (kids_none hno))))⟩
        · obtain ⟨ks1, ks2, ks3⟩ := kids_some hks
          have sm5 := sm4.trans s5
          refine ⟨_, rfl, rfl, _, rfl, iteF ⟨_, rfl, _, _, rfl, rfl, _, rfl, ?_⟩⟩
          by_cases hd6 : (6 : Int) < (d : Int)
          · rw [show decide ((6 : Int) < ((u, gx, d) : Todo).2.2) = true from decide_eq_true hd6]
            exact iteT (iteT (out _ sm5 (.inr (.inl (by omega)))))
          rw [show decide ((6 : Int) < ((u, gx, d) : Todo).2.2) = false from decide_eq_false hd6]
          refine iteF ⟨_, rfl, _, _, rfl, rfl, _, rfl, ?_⟩
          by_cases hn32 : (32 : Int) < (n : Int) + 1
          · rw [show decide ((32 : Int) < (fun i j : Int => i + j) (n : Int) 1) = true from decide_eq_true hn32]
            exact iteT (out _ sm5 (.inr (.inr (by omega))))
          rw [show decide ((32 : Int) < (fun i j : Int => i + j) (n : Int) 1) = false from decide_eq_false hn32]
          obtain ⟨zs, z1, z2, z3⟩ := paired_zip pus
          have lz : zs.length = gs.length := by rw [z2, List.length_map]
          have lg : gs.length ≤ szsG gs := by
            have : ∀ l : List Tg, l.length ≤ szsG l := fun l => by
              induction l with
              | nil => exact Nat.le_refl _
              | cons x l ih =>
                have h1 := szG_pos x
                have h3 : szsG (x :: l) = szG x + szsG l := by simp [szsG]
                rw [h3, List.length_cons]
                omega
            exact this gs
          have zl : zs.length ≤ 1000 := by omega
          have sq6 : SqT K H5 p5 (zs.map Prod.fst) := z1 ▸ sq5
          have hk5 := s5 _ _ hk4
          refine iteF ⟨_, rfl, .inl ⟨rfl, _, .inl (.inl hk5)⟩, _, rfl, p5, rfl, ⟨_, sq6⟩, fun D0 hD0 => lc_gen (xs := zs) (val := Prod.fst) (walk_tup (K := K) (a := p5) (xs := zs.map Prod.fst)) (fun _ => true) (fun H' (z : V × Tg) v => ∃ t, v = .ref t ∧ H' t = some (.tup [z.1, .int ((d : Int) + 1)])) ?_ hD0 zl (fun H6 s6 => sqT_up s6 sq6) ?_ ?_⟩
          · rintro Ha Hb D x v ⟨l, hl⟩ k ⟨t2, e, h2⟩
            exact ⟨t2, e, k _ _ (fun e => by rw [e, hl] at h2; exact nomatch h2) h2⟩
          · intro z H6 N Y hzm s6 _ _ yes
            refine ⟨rfl, ?_⟩
            unfold tYes
            exact iteT ⟨_, rfl, _, rfl, _, _, rfl, rfl, (by show 2 ≤ sizeLine; decide), fun t2 ht2 => yes rfl _ _ (same_new ht2) ⟨t2, rfl, upd_same⟩⟩
          · intro H6 ys s6 hys hpr
            rw [filter_all] at hpr
            have hk6 := s6 _ _ hk5
            have leni := pwi.length
            have lent := len_szT xi
            have leny := hpr.length
            refine ⟨p, D0, init, ys, rfl, rfl, hk6, hys, ?_, ?_⟩
            · have : (3000 : Nat) ≤ sizeLine := by decide
              omega
            have off6 : ∀ b us, H4 b = some (.tup us) → (upd H6 p (.lst (init ++ ys))) b = some (.tup us) := fun b us z => by
              rw [upd_ne (fun e => by rw [e, hk4] at z; exact nomatch z)]
              exact s6 _ _ (s5 _ _ z)
            have szz : szT (zs.map fun z => ((z.1, z.2, d + 1) : Todo)) = szsG gs := by
              rw [z2]
              unfold szT szsG
              rw [List.map_map, List.map_map]
              rfl
            refine ⟨szT (xi ++ zs.map fun z => (z.1, z.2, d + 1)), ?_, init ++ ys, xi ++ zs.map fun z => (z.1, z.2, d + 1), n + 1, _, _, _, _, rfl, ?_, upd_same, ?_, rfl, by omega, ?_, ?_, ?_⟩
            · rw [szT_app, szT_app, szT_one, szz]
              show _ < szT xi + szG gx
              omega
            · intro b o z
              rw [upd_ne (ne_of_none z npH)]
              exact s6 b o (sm5 b o z)
            · refine paired_app (waits_up off6 pw4) ?_
              have mk : ∀ (l : List (V × Tg)) (m : List V), (∀ z ∈ l, AtG K H z.1 z.2) → Paired (fun (z : V × Tg) v => ∃ t, v = .ref t ∧ H6 t = some (.tup [z.1, .int ((d : Int) + 1)])) l m → Paired (Waits K H (upd H6 p (.lst (init ++ ys)))) m (l.map fun z => (z.1, z.2, d + 1)) := by
                intro l m ha hp2
                induction hp2 with
                | nil => exact .nil
                | cons r tl ih =>
                  obtain ⟨t2, e2, h2⟩ := r
                  refine .cons ⟨t2, e2, ?_, ha _ (List.mem_cons_self ..)⟩ (ih fun z hz => ha z (.tail _ hz))
                  rw [upd_ne (fun e => by rw [e, hk6] at h2; exact nomatch h2)]
                  exact h2
              exact mk zs ys z3 hpr
            · rw [szT_app, szz]
              omega
            · rw [hg, List.all_append, List.all_append, List.all_cons, List.all_nil, Bool.and_true]
              congr 1
              show goodG gx = _
              rw [ks2, z2, List.all_map, List.all_map]
              rfl
            · rw [hd]
              have e : d + depG gx ≤ 7 ↔ ∀ z ∈ zs, d + 1 + depG z.2 ≤ 7 := by
                have h1 := ks3 (6 - d)
                have h2 : d + depG gx ≤ 7 ↔ depG gx ≤ 6 - d + 1 := by omega
                rw [h2, h1, z2]
                simp only [List.mem_map, forall_exists_index, and_imp, forall_apply_eq_imp_iff₂]
                exact ⟨fun h z hz => by have := h z hz; omega, fun h z hz => by have := h z hz; omega⟩
              simp only [List.mem_append, List.mem_singleton, List.mem_map]
              constructor
              · rintro h x (hx | ⟨z, hz, rfl⟩)
                · exact h x (.inl hx)
                · exact e.mp (h (u, gx, d) (.inr rfl)) z hz
              · rintro h x (hx | rfl)
                · exact h x (.inl hx)
                · exact e.mpr fun z hz => h (z.1, z.2, d + 1) (.inr ⟨z, hz, rfl⟩)
end
end Bw

namespace Bw
open PySem PySem.Spec L2 TL PyProof.Rows Ask

/-! ### how many parts; too many -/
def OvT : List Value := [.type "OverflowError", .type "ArithmeticError", .type "Exception", .type "BaseException", .type "object"]
abbrev TmC (K : PySem.W.Frag) (C : Addr) : Prop := OwnX "OverflowError" "OverflowError.__new__" "OverflowError.__init__" OvT K C
def spShownI : Sp := fun vs H Q _ => ∃ i : Int, vs = [.int i] ∧ i.natAbs.log2 < 1920 ∧ Builtin.Int.intBits i ≤ 100 ∧ ∀ x : Str, Q (.str x) H
def spTM (K : PySem.W.Frag) : Sp := fun vs H Q _ => ∃ (a C : Addr) (i : Int), vs = [.ref a, .int i] ∧ TmC K C ∧ PySem.W.findIn K (.ref C) "most" = some none ∧ H a = some (exo a C none) ∧ i.natAbs.log2 < 1920 ∧ Builtin.Int.intBits i ≤ 100 ∧
  ∀ dx, H dx = none → dx ≠ a → Q .non (upd (upd H dx (exd dx [("most", .int i)])) a (exo a C (some dx)))
structure ManyE (P : Program) (w : World) (K : PySem.W.Frag) (mg : Str → Option Value) (base : Heap) (C : Addr) : Prop where
  ox : TmC K C
  no : PySem.W.findIn K (.ref C) "most" = some none
  g : mg "TooMany" = some (.ref C)
  ex : ∃ (fI : Addr) (fd : FuncData), PySem.W.findIn K (.ref C) "__init__" = some (some (.ref fI)) ∧ PySem.W.typeIn K (.ref fI) = some (.type "function") ∧ FnOk P w K mg base CX0 2 fI fd ["self", "most"] (spTM K) ∧ Binds K fd ["self", "most"] []
def EMany (C : Addr) (i : Int) (H : Hp) (E : XK) : Prop := ∀ d H', Same H H' → H' d = some (.xd [("most", .int i)]) → E (.ref C) (some d) H'
theorem EMany.up {C : Addr} {i : Int} {H H1 : Hp} {E : XK} (h : EMany C i H E) (s : Same H H1) : EMany C i H1 E := fun d H' s' e => h d H' (s.trans s') e
def tRM (C : Addr) (i : Int) : L2.St → Hp → XK → Prop := fun _ H Q => i.natAbs.log2 < 1920 ∧ Builtin.Int.intBits i ≤ 100 ∧ EMany C i H Q
section
variable {X : Cx} {C : Addr} {p pos : Pos} {m : Nat} {e : Expr} {i : Int}
theorem pmk_many (EV : ManyE X.prog X.w X.K X.mg X.base C) (hr : Room m X.A) (hm : 3 ≤ m) (he : PE X e (tC (.int i))) (hg : Gl X "TooMany" := by rfl)
    (hs : starEach [e] X.env = (false, eval e X.env) :: starEach [] X.env := by rfl) : PMk X (.Call (.Name "TooMany" p) [e] [] pos) (tRM C i) := by
  obtain ⟨fI, fd, iC, tI, F, b⟩ := EV.ex
  intro pins s σ H Q I h
  refine pmk_keep EV.ox iC tI F (hr.mono hm) b .nil pass0 hg EV.g (pa_cons he pa_nil hs) (by decide) hs rfl pins s σ H Q I ?_
  obtain ⟨h1, h2, q⟩ := h
  refine ⟨by show 1 ≤ 1000; decide, fun a na => ?_⟩
  refine ⟨a, C, i, rfl, EV.ox, EV.no, upd_same, h1, h2, fun dx nx ne => ?_⟩
  have n1 : H dx = none := by
    rw [upd_ne ne] at nx
    exact nx
  refine ⟨rfl, dx, _, upd_same, (upd_ne ne).trans upd_same, n1, q dx _ (fun b o e => ?_) upd_same⟩
  have b1 : b ≠ dx := ne_of_none e n1
  have b2 : b ≠ a := ne_of_none e na
  rw [upd_ne b1, del_ne b2, upd_ne b2, upd_ne b1, upd_ne b2]
  exact e
end
def spNeedF (K : PySem.W.Frag) : Sp := fun vs H Q _ => ∃ (v : V) (g : Tg), vs = [v] ∧ AtG K H v g ∧ szG g ≤ 900 ∧ fltG g = true ∧ ∀ H', Same H H' → Q .non H'
def spMP (K : PySem.W.Frag) (n : Nat) : Sp := fun vs H Q _ => ∃ (f : F Itm) (v : V), vs = [v] ∧ AtF K H v f ∧ Hg n f ∧ sz f ≤ 1000 ∧ ∀ H', Same H H' → Q (.int (sz f)) H'
theorem not_first {g : F Itm} (en : first g = "not") : ∃ g2, g = .no g2 := by
  match g, en with
  | .it (.has _), en => (simp only [first] at en; exact absurd en (by decide +kernel))
  | .it (.is ..), en => (simp only [first] at en; exact absurd en (by decide +kernel))
  | .it (.cls _), en => (simp only [first] at en; exact absurd en (by decide +kernel))
  | .it (.within _), en => (simp only [first] at en; exact absurd en (by decide +kernel))
  | .no g2, _ => exact ⟨g2, rfl⟩
  | .of v l, en => exact absurd en (wrd_ne v).2.2.2.2
section
variable {P : Program} {w : World} {K : PySem.W.Frag} {mg : Str → Option Value} {base : Heap} {f : Addr} {fd : FuncData} {aO C : Addr}
theorem ok_shown (F : Fun K "_shown" "_shown" s_shown f fd) (T : Txt w K mg aO) : FnOk P w K mg base CX0 1 f fd ["value"] spShownI := by
  refine F.ok sc_shown (fun vs H Q E h => ?_) (fun cdv A outer s H vs Q E hr h => ?_)
  · obtain ⟨v, rfl, _⟩ := h
    rfl
  · obtain ⟨i, rfl, h, hb, q⟩ := h
    refine ⟨_, (pss_cons (ps_if (PW.pt (pw_and (pt_val (pe_callB (r := rIsi K) call_isi (by rfl) T.b_isinstance (by decide +kernel) (pa_cons (pv 0) (pa_cons (pe_bltn (v := .ty "str") (by rfl) T.b_str (by decide +kernel) rfl) pa_nil)))) (pw_and1 (pt_cmpR op_le (pe_callB call_len_str (by rfl) T.b_len (by decide +kernel) (pa_cons (pv 0) pa_nil)) pe_int (nomark _))))) (pss_one (ps_ret (pv 0))) pss_nil) (pss_cons (ps_if (PW.pt (pw_and (pt_val (pe_callB (r := rIsi K) call_isi (by rfl) T.b_isinstance (by decide +kernel) (pa_cons (pv 0) (pa_cons (pe_bltn (v := .ty "int") (by rfl) T.b_int (by decide +kernel) rfl) pa_nil)))) (pw_and1 (pt_cmpR op_le (pe_bitsB (pv 0)) pe_int (nomark _))))) (pss_one (ps_ret (pe_callTy (r := rStrB) call_str_ib (by rfl) T.b_str (by decide +kernel) (pa_cons (pv 0) pa_nil)))) pss_nil) (pss_one (ps_ret (pe_op op_add_str pe_str (pe_tyname (pe_class (pv 0)))))))), ?_⟩
    refine ⟨_, rfl, _, _, _, _, false, rfl, ClsV.ty "str", TyX.base (.int i), kit_ty (by decide +kernel), false, rfl, iteF ?_⟩
    refine ⟨_, rfl, _, _, _, _, true, rfl, ClsV.ty "int", TyX.base (.int i), kit_ty (by decide +kernel), true, rfl, iteT ?_⟩
    refine ⟨_, rfl, .inl ⟨_, rfl, _, _, rfl, rfl, _, rfl, ?_⟩⟩
    rw [decide_eq_true (by omega)]
    exact iteT ⟨_, rfl, .inl ⟨_, rfl, h, q _⟩⟩
theorem ok_TooMany_init (F : Fun K "__init__" "TooMany.__init__" s_TooMany___init__ f fd) (T : Txt w K mg aO) (D_shown : Dfn P w K mg base "_shown" 1 ["value"] spShownI) : FnOk P w K mg base CX0 2 f fd ["self", "most"] (spTM K) := by
  refine F.ok sc_TooMany___init__ (fun vs H Q E h => ?_) (fun cdv A outer s H vs Q E hr h => ?_)
  · obtain ⟨a, C, i, rfl, _⟩ := h
    rfl
  · obtain ⟨a, C, i, rfl, ox, no, ha, h1, h2, q⟩ := h
    refine ⟨_, (pss_cons (ps_expr (pe_binit (B := "OverflowError") (nw := "OverflowError.__new__") (ini := "OverflowError.__init__") (tail := OvT) blt_overflow (by rfl) T.b_OverflowError (pa_cons (pv 0) (pa_cons (pe_d D_shown hr (by decide) (pa_cons (pv 1) pa_nil)) pa_nil)))) (pss_one (ps_keep (B := "OverflowError") (nw := "OverflowError.__new__") (ini := "OverflowError.__init__") (tail := OvT) (pv 0) (pv 1)))), ?_⟩
    refine ⟨_, rfl, _, rfl, i, rfl, h1, h2, fun x => ?_⟩
    exact ⟨a, C, _, rfl, by show 1 ≤ 1000; decide, ox, ha, _, rfl, _, rfl, a, C, rfl, ox, no, ha, q⟩
theorem ok_need_filter (F : Fun K "need_filter" "need_filter" s_need_filter f fd) (D_is_filter : Dfn P w K mg base "is_filter" 6 ["value"] (spIsF K)) : FnOk P w K mg base CX0 7 f fd ["asked"] (spNeedF K) := by
  refine F.ok sc_need_filter (fun vs H Q E h => ?_) (fun cdv A outer s H vs Q E hr h => ?_)
  · obtain ⟨v, g, rfl, _⟩ := h
    rfl
  · obtain ⟨v, g, rfl, ag, hz, hf, q⟩ := h
    refine ⟨_, (pss_one (ps_if (pt_not (pt_val (pe_d D_is_filter hr (by decide) (pa_cons (pv 0) pa_nil)))) (pss_one ps_never) pss_nil)), ?_⟩
    refine ⟨_, rfl, v, g, rfl, ag, hz, fun H1 s1 => ⟨_, rfl, ?_⟩⟩
    rw [hf]
    exact iteF (q _ s1)
theorem ok_many_parts_step (Fo : Fun K "_many_parts" "_many_parts" s_many_parts f fd) (T : Txt w K mg aO) {k n : Nat} {sp : Sp} (D_many_parts : Dfn P w K mg base "_many_parts" k ["asked"] sp) (hsp : ∀ m, n = m + 1 → sp = spMP K m) : FnOk P w K mg base CX0 (k + 1) f fd ["asked"] (spMP K n) := by
  refine Fo.ok sc_many_parts (fun vs H Q E h => ?_) (fun cdv A outer s H vs Q E hr h => ?_)
  · obtain ⟨g, v, rfl, _⟩ := h
    rfl
  · obtain ⟨g, v, rfl, ag, hg, hz, q⟩ := h
    refine ⟨_, (pss_cons (ps_if (pt_cmpR op_eq (pe_ix (r := rIxT K) ix_tup (pv 0) pe_int (fun _ _ => rfl)) pe_str (nomark _)) (pss_one (ps_ret (pe_op op_add pe_int (pe_d D_many_parts hr (by first | exact Nat.le_refl _ | decide) (pa_cons (pe_ix (r := rIxT K) ix_tup (pv 0) pe_int (fun _ _ => rfl)) pa_nil))))) pss_nil) (pss_cons (ps_if (pt_cmpR (r := rOth K aO) (op_oth T.oth) (pe_ix (r := rIxT K) ix_tup (pv 0) pe_int (fun _ _ => rfl)) (pe_glob (v := .ref aO) rfl T.g_OTHER rfl) rfl) (pss_one (ps_ret (pe_op op_add pe_int (pe_callB (r := rSum K) (cr_sum rfl) (by rfl) T.b_sum (by decide +kernel) (pa_cons (pe_lc (own := [("each", 1)]) (g := gName 1) (by rfl) sc_many_parts.nd (pi_tup (pe_ix (r := rIxT K) ix_tup (pv 0) pe_int (fun _ _ => rfl))) (blkOk_by (own := [("each", 1)]) (N := n_many_parts) (sc := defScope s_many_parts) (by decide +kernel)) (fun _ _ _ _ _ => pg_name (i := 1) sc_many_parts.nd rfl (Or.inl rfl)) (fun _ _ _ _ _ => pts_nil) (fun _ _ _ _ _ => (pe_d D_many_parts hr (by first | exact Nat.le_refl _ | decide) (pa_cons (pv 1) pa_nil)))) pa_nil))))) pss_nil) (pss_one (ps_ret pe_int)))), ?_⟩
    obtain ⟨b, xs, rfl, sq⟩ := ag.word
    refine ⟨_, rfl, b, _, _, _, rfl, rfl, sq, atI_nat (j := 0) rfl, rfl, _, rfl, ?_⟩
    by_cases en : first g = "not"
    · obtain ⟨g2, rfl⟩ := not_first en
      rw [show decide (V.str (first (.no g2)) = V.str "not") = true from decide_eq_true (by rw [en])]
      obtain ⟨b2, u, e3, sq2, ag2⟩ := ag.no
      cases e3
      match n, hg, hsp with
      | m + 1, .no hg2, hsp =>
        obtain rfl := hsp m rfl
        refine iteT ⟨_, rfl, b, _, _, _, rfl, rfl, sq2, atI_nat (j := 1) rfl, g2, u, rfl, ag2, hg2, by rw [sz] at hz; omega, fun H1 s1 => ⟨_, _, rfl, rfl, ?_⟩⟩
        have := q H1 s1
        rw [sz] at this
        show Q (.int (1 + (sz g2 : Int))) H1
        rw [show (1 + (sz g2 : Int)) = ((sz g2 + 1 : Nat) : Int) by omega]
        exact this
    · rw [show decide (V.str (first g) = V.str "not") = false from decide_eq_false fun z => en (V.str.inj z)]
      refine iteF ?_
      by_cases ro : ∃ v, root v g
      · obtain ⟨v, rv⟩ := ro
        obtain ⟨l, rfl⟩ : ∃ l, g = .of v l := by
          cases g with
          | it a => exact rv.elim
          | no f => exact rv.elim
          | of u l =>
            have : u = v := rv
            exact ⟨l, by rw [this]⟩
        obtain ⟨tk, io⟩ := in_oth T v
        obtain ⟨b2, c2, us, e3, sq2, sqc, al⟩ := ag.of
        cases e3
        refine ⟨_, rfl, b, _, _, _, rfl, rfl, sq2, atI_nat (j := 0) rfl, wrd v, _, rfl, rfl, io, _, rfl, iteT ?_⟩
        match n, hg, hsp with
        | m + 1, .of _ hg2, hsp =>
          obtain rfl := hsp m rfl
          obtain ⟨zs, z1, z2, z3⟩ := al.zip
          subst z1
          have inl : ∀ z ∈ zs, z.2 ∈ l := fun z hz => by
            rw [z2]
            exact List.mem_map.mpr ⟨z, hz, rfl⟩
          have hz1 : szs l ≤ 999 := by
            rw [sz_of] at hz
            omega
          have zl : zs.length ≤ 1000 := by
            have := len_szs l
            rw [z2, List.length_map] at this
            rw [z2] at hz1
            omega
          refine ⟨_, rfl, b, _, _, _, rfl, rfl, sq2, atI_nat (j := 1) rfl, c2, rfl, ⟨_, sqc⟩, fun D0 hD0 => lc_gen (xs := zs) (val := Prod.fst) (walk_tup (K := K) (a := c2) (xs := zs.map Prod.fst)) (fun _ => true) _ (keepR_val fun z : V × F Itm => V.int (sz z.2)) hD0 zl (fun H5 s5 => sqT_up s5 sqc) ?_ ?_⟩
          · intro z H5 N Y hzm s5 _ _ yes
            refine ⟨rfl, ?_⟩
            unfold tYes
            refine iteT ⟨_, rfl, z.2, z.1, rfl, (z3 z hzm).up s5, hg2 _ (inl z hzm), ?_, fun H6 s6 => yes rfl H6 _ s6 rfl⟩
            have := szs_mem (inl z hzm)
            omega
          · intro H5 ys s5 hys hpr
            rw [filter_all] at hpr
            have ey := paired_map hpr
            have em : ys = (zs.map fun z => (sz z.2 : Int)).map V.int := by
              rw [ey, List.map_map]
              rfl
            refine ⟨D0, _, rfl, em ▸ SqL.of hys, _, _, rfl, rfl, ?_⟩
            have es : (1 + ((zs.map fun z => (sz z.2 : Int)).sum)) = ((sz (.of v l) : Nat) : Int) := by
              have go : ∀ l : List (V × F Itm), (l.map fun z => (sz z.2 : Int)).sum = ((szs (l.map Prod.snd) : Nat) : Int) := fun l => by
                induction l with
                | nil => rfl
                | cons x l ih =>
                  rw [List.map_cons, List.sum_cons, ih, List.map_cons, szs_cons]
                  omega
              rw [go, sz_of, z2]
              omega
            show Q (.int (1 + ((zs.map fun z => (sz z.2 : Int)).sum))) H5
            rw [es]
            exact q _ s5
      · refine ⟨_, rfl, b, _, _, _, rfl, rfl, sq, atI_nat (j := 0) rfl, first g, none, rfl, rfl, not_in_oth T fun v rv => ro ⟨v, rv⟩, _, rfl, iteF ?_⟩
        obtain ⟨a, rfl⟩ : ∃ a, g = .it a := by
          cases g with
          | it a => exact ⟨a, rfl⟩
          | no f => exact absurd rfl en
          | of u l => exact absurd ⟨u, rfl⟩ ro
        have := q H (Same.refl H)
        rw [sz] at this
        exact this
/-- the form, if it has not too many parts -/
def spBnd (K : PySem.W.Frag) (C : Addr) (n : Nat) : Sp := fun vs H Q E => ∃ (f : F Itm) (v : V), vs = [v] ∧ AtF K H v f ∧ Hg n f ∧ sz f ≤ 1000 ∧ (sz f ≤ 32 → ∀ H', Same H H' → Q v H') ∧ (32 < sz f → EMany C 32 H E)
theorem ok_bounded (Fo : Fun K "_bounded" "_bounded" s_bounded f fd) (T : Txt w K mg aO) {n : Nat} (D_many_parts : Dfn P w K mg base "_many_parts" 8 ["asked"] (spMP K n)) (EM : ManyE P w K mg base C) : FnOk P w K mg base (L2.CX P w) 9 f fd ["form"] (spBnd K C n) := by
  obtain ⟨tP, gP⟩ := T.g_parts
  refine Fo.okX sc_bounded (fun vs H Q E h => ?_) (fun cdv A outer s H vs Q E hr h => ?_)
  · obtain ⟨g, v, rfl, _⟩ := h
    rfl
  · obtain ⟨g, v, rfl, ag, hg, hz, q, e⟩ := h
    refine ⟨_, (pss_cons (ps_if (pt_cmpR op_gt (pe_d D_many_parts hr (by first | exact Nat.le_refl _ | decide) (pa_cons (pv 0) pa_nil)) (pe_glob (v := .int 32) rfl gP ⟨_, rfl⟩) (nomark _)) (pss_one (ps_raise rfl (takes_of rfl rfl rfl rfl) (pmk_many EM hr (by decide) (pe_glob (v := .int 32) rfl gP ⟨_, rfl⟩)))) pss_nil) (pss_one (ps_ret (pv 0)))), ?_⟩
    refine ⟨_, rfl, g, v, rfl, ag, hg, hz, fun H1 s1 => ⟨_, _, rfl, rfl, _, rfl, ?_⟩⟩
    by_cases h : (32 : Int) < (sz g : Int)
    · rw [decide_eq_true h]
      exact iteT ⟨by decide +kernel, by decide +kernel, (e (by omega)).up s1⟩
    · rw [decide_eq_false h]
      exact iteF ⟨_, rfl, q (by omega) _ s1⟩
end
theorem hg_dep : ∀ {n : Nat} {f : F Itm}, depF f ≤ n → Hg n f := by
  intro n f
  induction f using enc.induct generalizing n with
  | case1 a => exact fun _ => .it n a
  | case2 f ih =>
    intro h
    rw [depF] at h
    match n, h with
    | n + 1, h => exact .no (ih (by omega))
  | case3 w l ih =>
    intro h
    rw [depF] at h
    match n, h with
    | n + 1, h =>
      rw [Nat.add_le_add_iff_right, foldr_max] at h
      exact .of w fun f hf => ih f hf (h _ (List.mem_map.mpr ⟨f, hf, rfl⟩))
/-- the normal form, or that it has too many parts -/
def spNor (K : PySem.W.Frag) (C : Addr) (t : Bool) : Sp := fun vs H Q E => ∃ (f : F Itm) (v : V), vs = [v] ∧ AtG K H v (.f f) ∧ fltG (.f f) = true ∧
  (sz (put leF (pushed f t)) ≤ 32 → ∀ H' u, Same H H' → AtF K H' u (put leF (pushed f t)) → Q u H') ∧ (32 < sz (put leF (pushed f t)) → EMany C 32 H E)
theorem flt_of {f : F Itm} (h : fltG (.f f) = true) : goodF f = true ∧ depF f ≤ 6 ∧ sz f ≤ 32 := by
  unfold fltG at h
  rw [Bool.and_eq_true, Bool.and_eq_true, decide_eq_true_eq, decide_eq_true_eq] at h
  exact h
section
variable {P : Program} {w : World} {K : PySem.W.Frag} {mg : Str → Option Value} {base : Heap} {f : Addr} {fd : FuncData} {aO C : Addr}
theorem ok_normal (Fo : Fun K "normal" "normal" s_normal f fd) (D_need_filter : Dfn P w K mg base "need_filter" 7 ["asked"] (spNeedF K)) (D_pushed : Dfn P w K mg base "_pushed" 7 ["asked", "is_turned"] (spPushed K 6)) (D_put_right : Dfn P w K mg base "_put_right" 9 ["asked"] (spPut K 7)) (D_bounded : DfnX P w K mg base "_bounded" 9 ["form"] (spBnd K C 7)) :
    FnOk P w K mg base (L2.CX P w) 10 f fd ["asked"] (spNor K C false) := by
  refine Fo.okX sc_normal (fun vs H Q E h => ?_) (fun cdv A outer s H vs Q E hr h => ?_)
  · obtain ⟨g, v, rfl, _⟩ := h
    rfl
  · obtain ⟨g, v, rfl, ag, hf, q, e⟩ := h
    obtain ⟨h1, h2, h3⟩ := flt_of hf
    have hg := hg_dep h2
    have hp := hg_pushed hg false
    have hz := sz_pushed g false
    have hz2 := sz_put leF (pushed g false)
    refine ⟨_, (pss_cons (ps_expr (pe_d D_need_filter hr (by decide) (pa_cons (pv 0) pa_nil))) (pss_one (ps_ret (pe_dX D_bounded (takes_of rfl rfl rfl rfl) hr (by decide) (pa_cons (pe_d D_put_right hr (by first | exact Nat.le_refl _ | decide) (pa_cons (pe_d D_pushed hr (by first | exact Nat.le_refl _ | decide) (pa_cons (pv 0) (pa_cons pe_bl pa_nil))) pa_nil)) pa_nil))))), ?_⟩
    refine ⟨_, rfl, v, .f g, rfl, ag, (by show sz g ≤ 900; omega), hf, fun H1 s1 => ?_⟩
    refine ⟨_, rfl, g, v, false, rfl, (ag.up s1).1, hg, few_sz (by omega), fun H2 u s2 au => ?_⟩
    refine ⟨_, u, rfl, au, ok_pushed_ ag.2.2.1 false, hp, by omega, by omega, fun H3 u3 s3 au3 => ?_⟩
    exact ⟨_, u3, rfl, au3, hg_put leF hp, by omega, fun hs H4 s4 => q hs H4 u3 (((s1.trans s2).trans s3).trans s4) (au3.up s4), fun hs => (e hs).up ((s1.trans s2).trans s3)⟩
theorem ok_opposite (Fo : Fun K "opposite" "opposite" s_opposite f fd) (D_need_filter : Dfn P w K mg base "need_filter" 7 ["asked"] (spNeedF K)) (D_pushed : Dfn P w K mg base "_pushed" 7 ["asked", "is_turned"] (spPushed K 6)) (D_put_right : Dfn P w K mg base "_put_right" 9 ["asked"] (spPut K 7)) (D_bounded : DfnX P w K mg base "_bounded" 9 ["form"] (spBnd K C 7)) :
    FnOk P w K mg base (L2.CX P w) 10 f fd ["asked"] (spNor K C true) := by
  refine Fo.okX sc_opposite (fun vs H Q E h => ?_) (fun cdv A outer s H vs Q E hr h => ?_)
  · obtain ⟨g, v, rfl, _⟩ := h
    rfl
  · obtain ⟨g, v, rfl, ag, hf, q, e⟩ := h
    obtain ⟨h1, h2, h3⟩ := flt_of hf
    have hg := hg_dep h2
    have hp := hg_pushed hg true
    have hz := sz_pushed g true
    have hz2 := sz_put leF (pushed g true)
    refine ⟨_, (pss_cons (ps_expr (pe_d D_need_filter hr (by decide) (pa_cons (pv 0) pa_nil))) (pss_one (ps_ret (pe_dX D_bounded (takes_of rfl rfl rfl rfl) hr (by decide) (pa_cons (pe_d D_put_right hr (by first | exact Nat.le_refl _ | decide) (pa_cons (pe_d D_pushed hr (by first | exact Nat.le_refl _ | decide) (pa_cons (pv 0) (pa_cons pe_bl pa_nil))) pa_nil)) pa_nil))))), ?_⟩
    refine ⟨_, rfl, v, .f g, rfl, ag, (by show sz g ≤ 900; omega), hf, fun H1 s1 => ?_⟩
    refine ⟨_, rfl, g, v, true, rfl, (ag.up s1).1, hg, few_sz (by omega), fun H2 u s2 au => ?_⟩
    refine ⟨_, u, rfl, au, ok_pushed_ ag.2.2.1 true, hp, by omega, by omega, fun H3 u3 s3 au3 => ?_⟩
    exact ⟨_, u3, rfl, au3, hg_put leF hp, by omega, fun hs H4 s4 => q hs H4 u3 (((s1.trans s2).trans s3).trans s4) (au3.up s4), fun hs => (e hs).up ((s1.trans s2).trans s3)⟩
/-- whether it is a normal form -/
def nrmG (g : Tg) : Bool := fltG g && (match g with | .f f => decide (put leF (pushed f false) = f) | _ => false)
def spIsN (K : PySem.W.Frag) : Sp := fun vs H Q _ => ∃ (v : V) (g : Tg), vs = [v] ∧ AtG K H v g ∧ szG g ≤ 900 ∧ ∀ H', Same H H' → Q (.bl (nrmG g)) H'
theorem ok_is_normal (Fo : Fun K "is_normal" "is_normal" s_is_normal f fd) (D_is_filter : Dfn P w K mg base "is_filter" 6 ["value"] (spIsF K)) (D_pushed : Dfn P w K mg base "_pushed" 7 ["asked", "is_turned"] (spPushed K 6)) (D_put_right : Dfn P w K mg base "_put_right" 9 ["asked"] (spPut K 7)) :
    FnOk P w K mg base CX0 10 f fd ["value"] (spIsN K) := by
  refine Fo.ok sc_is_normal (fun vs H Q E h => ?_) (fun cdv A outer s H vs Q E hr h => ?_)
  · obtain ⟨v, g, rfl, _⟩ := h
    rfl
  · obtain ⟨v, g, rfl, ag, hz, q⟩ := h
    refine ⟨_, (pss_one (ps_ret (pe_and (pe_d D_is_filter hr (by decide) (pa_cons (pv 0) pa_nil)) (pe_one (pe_cmpR (r := rEqD K) (op_eqD hr.units) (pe_d D_put_right hr (by first | exact Nat.le_refl _ | decide) (pa_cons (pe_d D_pushed hr (by first | exact Nat.le_refl _ | decide) (pa_cons (pv 0) (pa_cons pe_bl pa_nil))) pa_nil)) (pv 0) (nomark _)))))), ?_⟩
    refine ⟨_, rfl, v, g, rfl, ag, hz, fun H1 s1 => ⟨_, rfl, ?_⟩⟩
    cases e : fltG g with
    | false =>
      have e2 : nrmG g = false := by
        unfold nrmG
        rw [e]
        rfl
      have := q H1 s1
      rw [e2] at this
      exact iteF this
    | true =>
      obtain ⟨g, rfl⟩ : ∃ f, g = .f f := by
        cases g with
        | f f => exact ⟨f, rfl⟩
        | nt => exact nomatch e
        | odd o => exact nomatch e
        | nb => exact nomatch e
      obtain ⟨h1, h2, h3⟩ := flt_of e
      have hg := hg_dep h2
      have hp := hg_pushed hg false
      have hz := sz_pushed g false
      refine iteT ⟨_, rfl, g, v, false, rfl, (ag.up s1).1, hg, few_sz (by omega), fun H2 u s2 au => ?_⟩
      refine ⟨_, u, rfl, au, ok_pushed_ ag.2.2.1 false, hp, by omega, by omega, fun H3 u3 s3 au3 => ?_⟩
      refine ⟨_, rfl, _, _, au3, (ag.1.up s1).up s2 |>.up s3, shd_enc (ok_put leF (ok_pushed_ ag.2.2.1 false)) (hg_put leF hp) (by omega), shd_enc ag.2.2.1 ag.2.2.2 (by omega), ?_⟩
      rw [eqv_enc]
      have e2 : nrmG (.f g) = decide (put leF (pushed g false) = g) := by
        unfold nrmG
        rw [e]
        rfl
      have := q H3 ((s1.trans s2).trans s3)
      rw [e2] at this
      exact this
end
end Bw

namespace Bw.DctT
open PySem PySem.W PySem.Calls PyProof.Rows PyProof.V PySem.Spec DT
section
variable {prog : Program} {w : World} {A : Around} {E : Value → Shared → Prop} {s : Shared} {r d : Addr} {es : Array DictEntry} {ep : Nat}
theorem initI {R : Result → Shared → Prop} (hh : A.handled = none) (hv : s.heap.IsItemsView r d) (hm : Raw s.heap d es ep) (S : Addr) (hSr : S ≠ r) (hSd : d ≠ S) (hS : s.heap.get? S = some { cls := .type "list", data := .seq #[] })
    (hR : ∀ h' tk acc c as, (∀ b o, b ≠ S → s.heap.get? b = some o → h'.get? b = some o) → h'.get? S = some { cls := .type "list", dict := none, data := .seq acc c, slots := #[] } → as.length = es.size → Made es S h' as →
      acc.toList = as.map Value.ref → R (.ok (.ret .none)) { s with heap := h', toks := tk }) (hn : es.size ≤ sizeLine) :
    wpAny (model prog w) A.in1 (Builtin.«list.__init__» ⟨[.ref S, .ref r], []⟩)
      (fun fin s' => match fin with | .done f => R (.ok f) s' | .again c' => c'.quiet = true ∧ codeAny (model prog w) A c' R s') (fun e s' => R (.error e) s') s := by
  show wpAny _ _ (do let old ← Builtin.List.listItems (.ref S); Builtin.List.listUpdate (.ref S) (fun _ => #[]); letGo old.toList.reverse; Builtin.List.listExtendWith (.ref S) (.ref r) .none) _ _ s
  refine wpAny_bind ?_
  unfold Builtin.List.listItems
  refine wpAny_bind (wpAny_seqItems hS rfl (wpAny_pure ?_))
  show wpAny _ _ (updateSeq S (fun _ => #[]) >>= fun _ => letGo (#[] : Array Value).toList.reverse >>= fun _ => Builtin.List.listExtendWith (.ref S) (.ref r) .none) _ _ s
  refine wpAny_bind (wpAny_updateSeq hS rfl ?_)
  have hS₂ := Heap.get?_update_self (Obj.mapSeq (fun _ => (#[] : Array Value))) hS rfl
  have oth : ∀ b o, b ≠ S → s.heap.get? b = some o → (s.heap.update S (Obj.mapSeq (fun _ => (#[] : Array Value)))).get? b = some o :=
    fun b o hb e => (Heap.get?_update_other _ _ (Ne.symm hb)).trans e
  refine wpAny_bind (wpAny_letGo ?_)
  refine extI (es := es) (ep := ep) hh (let ⟨o, ho, x⟩ := hv; ⟨o, oth r o hSr.symm ho, x⟩) (hm.at' fun o e => oth d o hSd e) S hSr hSd .none _ hS₂ (fun h' tk acc c as hk hS' hl hG hacc => ?_) hn
  exact hR h' tk acc c as (fun b o hb e => hk b o hb (oth b o hb e)) hS' hl (hG.low (Nat.le_of_lt (Heap.lt_size hS₂))) hacc
theorem listI {Q : Value → Shared → Prop} (hh : A.handled = none) (hv : s.heap.IsItemsView r d) (hm : Raw s.heap d es ep) (hn : es.size ≤ sizeLine)
    (hQ : ∀ h' tk acc c as, (∀ b o, s.heap.get? b = some o → h'.get? b = some o) → h'.get? s.heap.objs.size = some { cls := .type "list", dict := none, data := .seq acc c, slots := #[] } → as.length = es.size → Made es s.heap.objs.size h' as →
      acc.toList = as.map Value.ref → Q (.ref s.heap.objs.size) { s with heap := h', toks := tk }) :
    wpAny (model prog w) A (call (.type "list") [.ref r]) Q E s := by
  refine callType_codes (Q₁ := fun obj s₁ => obj = .ref s.heap.objs.size ∧ s₁ = { s with heap := s.heap.push { cls := .type "list", data := .seq #[] } }) PySem.F.called_list (PySem.F.typeCall_list_1 _) PySem.F.entry_list_init
    (code_list_new _ ⟨rfl, rfl⟩) fun obj s₁ h₁ => ?_
  obtain ⟨rfl, rfl⟩ := h₁
  have hS : (s.heap.push { cls := .type "list", data := .seq #[] }).get? s.heap.objs.size = some { cls := .type "list", data := .seq #[] } := Heap.get?_push_size _ rfl
  have hr : r < s.heap.objs.size := let ⟨_, ho, _⟩ := hv; Heap.lt_size ho
  have hd : d < s.heap.objs.size := hm.lt
  refine ⟨⟨_, hS, rfl⟩, PySem.F.args_list_init_2 _ _, initI (es := es) (ep := ep) (A := A.in1) hh (let ⟨o, ho, x⟩ := hv; ⟨o, Heap.get?_push_of_some _ ho, x⟩) (hm.push _) _ (Nat.ne_of_gt hr) (Nat.ne_of_lt hd) hS (fun h' tk acc c as hk hS' hl hG hacc => ?_) hn⟩
  exact ⟨rfl, hQ h' tk acc c as (fun b o e => hk b o (Nat.ne_of_lt (Heap.lt_size e)) (Heap.get?_push_of_some _ e)) hS' hl hG hacc⟩
end
end Bw.DctT
namespace Bw
open PySem PySem.Spec L2 TL PyProof.Rows

/-! ### list(d.items()), the keys of d being tuples -/
abbrev Row := Addr × V
/-- the rows of a dict: its keys' tuples and its values -/
abbrev RowsOf (H : Hp) : List (List L2.Key × V) → List Row → Prop := Paired fun kv r => H r.1 = some (.tup (kv.1.map kV)) ∧ r.2 = kv.2
def putR : Hp → List Addr → List Row → Hp
  | H, a :: as, r :: rs => putR (upd H a (.tup [.ref r.1, r.2])) as rs
  | H, _, _ => H
theorem putR_off {b : Addr} : ∀ (as : List Addr) (rs : List Row) (H : Hp), b ∉ as → putR H as rs b = H b
  | [], _, _, _ => rfl
  | _ :: _, [], _, _ => rfl
  | a :: as, p :: rs, H, h => by
    show putR (upd H a (.tup [.ref p.1, p.2])) as rs b = H b
    rw [putR_off as rs _ (fun z => h (List.mem_cons_of_mem _ z)), upd_ne (fun z => h (by rw [z]; exact List.mem_cons_self))]
theorem putR_at : ∀ (as : List Addr) (rs : List Row) (H : Hp), as.length = rs.length → as.Nodup → Paired (fun (t : Addr) (p : Row) => putR H as rs t = some (.tup [.ref p.1, p.2])) as rs
  | [], [], _, _, _ => .nil
  | [], _ :: _, _, h, _ => by cases h
  | _ :: _, [], _, h, _ => by cases h
  | a :: as, p :: rs, H, h, hn => by
    have hn' := List.nodup_cons.mp hn
    have ih := putR_at as rs (upd H a (.tup [.ref p.1, p.2])) (Nat.succ.inj h) hn'.2
    refine .cons ?_ ih
    show putR (upd H a (.tup [.ref p.1, p.2])) as rs a = some (.tup [.ref p.1, p.2])
    rw [putR_off as rs _ hn'.1, upd_same]
theorem rows_of {H : Hp} : ∀ {kvs : List (List L2.Key × V)} {xs : List (List L2.Key × Addr × Value)}, KT H kvs xs → ∃ rs : List Row, RowsOf H kvs rs ∧ Paired (fun (r : Row) (x : List L2.Key × Addr × Value) => x.2.1 = r.1 ∧ RelV r.2 x.2.2) rs xs
  | _, _, .nil => ⟨[], .nil, .nil⟩
  | _, _, .cons (a := kv) (b := x) h t => by
    obtain ⟨rs, r1, r2⟩ := rows_of t
    exact ⟨(x.2.1, kv.2) :: rs, .cons ⟨h.2.1, rfl⟩ r1, .cons ⟨rfl, h.2.2⟩ r2⟩
def rItemsLT : V → Hp → VK → Prop := fun x H Q => ∃ (d : Addr) (kvs : List (List L2.Key × V)), x = .ref d ∧ H d = some (.dT kvs) ∧
  ∀ (H' : Hp) (p : Addr) (ts : List Addr) (rs : List Row), (∀ b o, H b = some o → H' b = some o) → H p = none → (∀ t ∈ ts, H t = none) → p ∉ ts → H' p = some (.lst (ts.map V.ref)) → Paired (fun (t : Addr) (q : Row) => H' t = some (.tup [.ref q.1, q.2])) ts rs → RowsOf H kvs rs → Q (.ref p) H'
def tListItemsT (te : TE) : TE := fun σ H Q => te σ H fun x H1 => rItemsLT x H1 Q
section
variable {X : Cx} {e : Expr} {te : TE} {p apos cpos pos : Pos}
theorem items_laidT {pins : List (Addr × Obj)} {σ : L2.St} {H : Hp} {s : Shared} {h' : Heap} {tk : Nat} {rs : List Row} {xs : List (List L2.Key × Addr × Value)} {es : Array DictEntry} {acc : Array Value} {c : Nat} {as : List Addr} (I : Inv X pins σ H s) (hz : rs.length ≤ sizeLine)
    (rel : Paired (fun (r : Row) (x : List L2.Key × Addr × Value) => x.2.1 = r.1 ∧ RelV r.2 x.2.2) rs xs) (he : es.toList = xs.map (entryOfKey (tupleKind (mixKind X.prog X.w))))
    (hk : ∀ b o, s.heap.get? b = some o → h'.get? b = some o) (hS : h'.get? s.heap.objs.size = some { cls := .type "list", dict := none, data := .seq acc c, slots := #[] }) (hl : as.length = es.size) (hG : DT.Made es s.heap.objs.size h' as) (hacc : acc.toList = as.map Value.ref) :
    ∃ H' : Hp, (∀ b o, H b = some o → H' b = some o) ∧ H s.heap.objs.size = none ∧ (∀ t ∈ as, H t = none) ∧ s.heap.objs.size ∉ as ∧ H' s.heap.objs.size = some (.lst (as.map V.ref)) ∧ Paired (fun (t : Addr) (q : Row) => H' t = some (.tup [.ref q.1, q.2])) as rs ∧ Inv X pins σ H' { s with heap := h', toks := tk } := by
  have lk : rs.length = xs.length := Paired.length rel
  have le : es.size = xs.length := size_of_entries he
  have hSn : s.heap.objs.size ∉ as := fun z => Nat.lt_irrefl _ (hG.above _ z)
  have nd : as.Nodup := List.Pairwise.imp (fun {a b} (h : a < b) => Nat.ne_of_lt h) hG.rise
  have new : ∀ t ∈ as, H t = none := fun t ht => I.hok.fresh (Nat.le_of_lt (hG.above t ht))
  have newS : H s.heap.objs.size = none := I.hok.fresh (Nat.le_refl _)
  have atP := putR_at as rs (upd H s.heap.objs.size (.lst (as.map V.ref))) (by omega) nd
  have off : ∀ b, b ∉ as → b ≠ s.heap.objs.size → putR (upd H s.heap.objs.size (.lst (as.map V.ref))) as rs b = H b := fun b h1 h2 => by rw [putR_off as rs _ h1, upd_ne h2]
  have low : ∀ b o, s.heap.get? b = some o → b ∉ as ∧ b ≠ s.heap.objs.size := fun b o e => ⟨fun z => absurd (Heap.lt_size e) (Nat.not_lt.mpr (Nat.le_of_lt (hG.above b z))), Nat.ne_of_lt (Heap.lt_size e)⟩
  have kp : ∀ b u, H b = some u → (putR (upd H s.heap.objs.size (.lst (as.map V.ref))) as rs) b = some u := fun b u e => by
    rw [off b (fun z => by rw [new b z] at e; cases e) (fun z => by rw [z, newS] at e; cases e)]
    exact e
  have eS : putR (upd H s.heap.objs.size (.lst (as.map V.ref))) as rs s.heap.objs.size = some (.lst (as.map V.ref)) := by rw [putR_off as rs _ hSn, upd_same]
  refine ⟨putR (upd H s.heap.objs.size (.lst (as.map V.ref))) as rs, kp, newS, new, hSn, eS, atP, ?_⟩
  refine I.call' (ch := []) rfl ⟨fun b o q _ _ _ => hk b o q, fun b o q _ _ _ => ⟨o.slots, hk b o q⟩, fun b o q n _ => ?_, fun b o q _ => ⟨o, hk b o q⟩, fun b xs q => kp b _ q, fun b o u q => kp b _ q, fun b ps q => ⟨#[], by rw [kp b _ q]; simp⟩⟩ (fun b u q => ?_) I.bare fun b z => by simp at z
  · obtain ⟨z1, z2⟩ := low b o q
    rw [off b z1 z2]
    exact n
  · by_cases hb : b ∈ as
    · obtain ⟨j, pk, e1, e2, e3⟩ := LiI.paired_ix atP hb
      rw [e3] at q
      cases q
      obtain ⟨en, f1, f3⟩ := hG.pairs j b e1
      obtain ⟨x, g1, g2, g3⟩ := LiI.paired_get rel e2
      have ee : en = entryOfKey (tupleKind (mixKind X.prog X.w)) x := by
        have := entry_at he j
        rw [f1, g1] at this
        exact Option.some.inj this
      subst ee
      have rk : RelV (.ref pk.1) (Value.ref x.2.1) := by
        rw [g2]
        rfl
      exact ⟨by show 2 ≤ sizeLine; decide, [.ref x.2.1, x.2.2], .cons rk (.cons g3 .nil), ⟨_, f3, rfl, _, rfl⟩⟩
    · by_cases hb2 : b = s.heap.objs.size
      · rw [hb2] at q ⊢
        rw [eS] at q
        cases q
        refine ⟨by rw [List.length_map]; omega, acc.toList, c, by rw [hacc]; exact LiI.vals_refs as, ?_⟩
        rw [Array.toArray_toList]
        exact hS
      · rw [off b hb hb2] at q
        exact (I.hok b u q).stay (fun d v _ y => hk d v y) (fun d y => kp d _ y) fun d xs y => kp d _ y
theorem pe_listItemsT (hc : X.calm = true) (he : PE X e te) (hg : Gl X "list") (hm : X.mg "list" = none) (hv : bootBuiltins "list" = some (.type "list")) (hbase : attributeBase e "items" X.env (eval e X.env) = eval e X.env := by rfl) (hline : (apos.endLine == cpos.line) = true := by rfl)
    (hs : starEach [.Call (.Attribute e "items" apos) [] [] cpos] X.env = (false, eval (.Call (.Attribute e "items" apos) [] [] cpos) X.env) :: starEach [] X.env := by rfl) :
    PE X (.Call (.Name "list" p) [.Call (.Attribute e "items" apos) [] [] cpos] [] pos) (tListItemsT te) := by
  refine ⟨fun pins s σ H Q I hq => ?_⟩
  refine wpAny_Call_Name_kw (ld_blt I hg hm hv ?_)
  refine PyProof.Rows.callWith_type1 ?_ hs rfl
  rw [hs]
  show wpAny _ _ (spliced ((false, eval (.Call (.Attribute e "items" apos) [] [] cpos) X.env) :: backTo pos (starEach [] X.env))) _ _ s
  refine Calls.spliced_cons ?_
  refine wpAny_Call_method (T := "dict") (id := "dict.items") hbase rfl hline F.plainAttrs_dict F.slot_dict_items F.type_dict_items (thn (he.run pins s σ H _ I hq) fun u s1 ⟨x, H1, I1, rx, d, kvs, ex, hd, q⟩ => ?_)
  subst ex
  obtain rfl : u = Value.ref d := rx
  obtain ⟨hz, hs0, xs, kt, o, es, ep, ho, hx, hdat, he0, _⟩ := dt_of I1.hok hd
  obtain ⟨rs, r1, r2⟩ := rows_of kt
  have lr := Paired.length r1
  have raw : DT.Raw s1.heap d es ep := ⟨o, ho, hx, hdat⟩
  refine ⟨raw.typeIs, fun b q => ?_, ?_⟩
  · cases q
    exact ⟨o, ho, hx.2.1⟩
  · show wpAny _ _ (callWith cpos (.builtin "dict.items") [.ref d] [] []) _ X.xe s1
    refine Calls.callWith_builtin rfl (PySem.evalArgs_none (DT.callItems (es := es) (ep := ep) hs0 raw ?_))
    have I2 : Inv X pins σ H1 { s1 with heap := s1.heap.push { cls := .type "dict_items", data := .fields #[.ref d] } } := I1.kept (t' := s1.toks) fun b ob q => Heap.get?_push_of_some _ q
    have les : es.size = kvs.length := by rw [size_of_entries he0, Paired.length kt]
    refine Calls.spliced_nil ?_
    refine DctT.listI (es := es) (ep := ep) (I1.ok.hd hc) ⟨_, Heap.get?_push_size _ rfl, rfl, rfl⟩ (raw.push _) (by omega) fun h' tk acc c as hk hS hl hG hacc => ?_
    obtain ⟨H', k1, k2, k3, k4, k5, k6, J⟩ := items_laidT (tk := tk) I2 (by omega) r2 he0 hk hS hl hG hacc
    exact ⟨.ref _, H', J, rfl, q H' _ as rs k1 k2 k3 k4 k5 k6 r1⟩
end
end Bw

namespace Bw.DctT
open PySem PySem.Spec PyProof.Rows L2

/-! ### dict(l), the keys of the pairs being tuples -/
abbrev KD (prog : Program) (w : World) := tupleKind (mixKind prog w)
/-- pairs (key's tuple, value) laid into a dict, one after another -/
abbrev Ent := List L2.Key × Addr × Value
def mergedH (acc : List Ent) (rest : List Ent) : List Ent := rest.foldl (fun a q => storedH a q.1 q.2.1 q.2.2) acc
theorem storedH_len (xs : List Ent) (k : List L2.Key) (a : Addr) (v : Value) : (storedH xs k a v).length ≤ xs.length + 1 := by
  unfold storedH
  split
  · rw [List.length_map]
    omega
  · rw [List.length_append]
    exact Nat.le_refl _
theorem storedH_addr {xs : List Ent} {k : List L2.Key} {a : Addr} {v : Value} {x : Ent} (h : x ∈ storedH xs k a v) : x.2.1 = a ∨ ∃ y ∈ xs, y.2.1 = x.2.1 := by
  unfold storedH at h
  split at h
  · obtain ⟨y, hy, rfl⟩ := List.mem_map.mp h
    refine .inr ⟨y, hy, ?_⟩
    unfold putAt
    split <;> rfl
  · rcases List.mem_append.mp h with h | h
    · exact .inr ⟨x, h, rfl⟩
    · exact .inl (by rw [List.mem_singleton.mp h])
section
variable {prog : Program} {w : World} {A : Around} {E : Value → Shared → Prop}
theorem is_ext {h h' : Heap} {k : List L2.Key} {a : Addr} (x : (KD prog w).is h k a) (e : ∀ o, h.get? a = some o → h'.get? a = some o) : (KD prog w).is h' k a := by
  obtain ⟨o, its, n, h1, r⟩ := x
  exact ⟨o, its, n, e _ h1, r⟩
theorem dictH_ext {h h' : Heap} {d : Addr} {xs : List Ent} (x : h.DictOfH (KD prog w) d xs) (e : ∀ o, h.get? d = some o → h'.get? d = some o) (k : ∀ x ∈ xs, ∀ o, h.get? x.2.1 = some o → h'.get? x.2.1 = some o) : h'.DictOfH (KD prog w) d xs := by
  obtain ⟨o, es, ep, h1, h2, h3, h4, h5, h6⟩ := x
  exact ⟨o, es, ep, e _ h1, h2, h3, h4, fun x hx => is_ext (h5 x hx) (k x hx), h6⟩
theorem upd_loopH {R : Result → Shared → Prop} {S I l : Addr} {items : Array Value} {res : Value} (hu : A.units + 1 < cLine) (hh : A.handled = none) (hlI : l ≠ I) (hSI : S ≠ I) (hSl : S ≠ l) :
    ∀ (rest : List Ent) (i : Nat) (acc : List Ent) (ix : Int) (t : Tok) (s : Shared), items.size = i + rest.length → acc.length + rest.length ≤ sizeLine →
      (∀ (j : Nat) (q : Ent), rest[j]? = some q → ∃ (b : Addr), items[i + j]? = some (.ref b) ∧ b ≠ S ∧ b ≠ I ∧ q.2.1 ≠ S ∧ q.2.1 ≠ I ∧ IsTup s.heap b #[.ref q.2.1, q.2.2] ∧ (KD prog w).is s.heap q.1 q.2.1) →
      (∀ x ∈ acc, x.2.1 ≠ S ∧ x.2.1 ≠ I) → s.heap.IsListIter I l i → s.heap.IsList l items → s.heap.DictOfH (KD prog w) S acc →
      (∀ h' tk, h'.DictOfH (KD prog w) S (mergedH acc rest) → (∀ b o, b ≠ S → b ≠ I → s.heap.get? b = some o → h'.get? b = some o) → R (.ok (.ret res)) { s with heap := h', toks := tk }) →
      codeAny (model prog w) A (.builtin "dict.update.loop" ⟨[.ref S, .ref I, .int ix t, res], []⟩) R s
  | [], i, acc, ix, t, s, hsz, hln, ht, hx, hit, hl, hm, hR => by
    refine codeAny_builtin ud_entry ?_
    rw [Around.under_plainId ud_plain _]
    show wpAny _ A.in1 (pyNext (.ref I) >>= _) _ _ s
    refine wpAny_bind (wpAny_pyNext_list_end (A := A.in1) hh hit hl (by first | exact Array.getElem?_eq_none (Nat.le_of_eq hsz) | (simp at hsz; simp; omega)) fun h' he => ?_)
    show wpAny _ A.in1 (Builtin.Dict.addKeywords S [] >>= _) _ _ _
    refine wpAny_bind (wpAny_pure (wpAny_pure ?_))
    exact hR h' s.toks (dictH_ext hm (fun o e => he S o hSI e) fun x hx2 o e => he _ o (hx x hx2).2 e) fun b o _ hb e => he b o hb e
  | q :: rest, i, acc, ix, t, s, hsz, hln, ht, hx, hit, hl, hm, hR => by
    obtain ⟨b, hb, hbS, hbI, hqS, hqI, htup, hk⟩ := ht 0 q rfl
    rw [List.length_cons] at hsz hln
    refine codeAny_builtin ud_entry ?_
    rw [Around.under_plainId ud_plain _]
    show wpAny _ A.in1 (pyNext (.ref I) >>= _) _ _ s
    refine wpAny_bind (wpAny_pyNext_list_item (x := .ref b) hit hl (by simpa using hb) fun h1 hit1 hs1 => ?_)
    have ht1 : IsTup h1 b #[.ref q.2.1, q.2.2] := htup.extBut hs1.extBut hbI
    have hl1 : h1.IsList l items := hl.extBut hs1.extBut hlI
    have hm1 : h1.DictOfH (KD prog w) S acc := dictH_ext hm (fun o e => hs1.extBut S o hSI e) fun x hx2 o e => hs1.extBut _ o (hx x hx2).2 e
    have hk1 : (KD prog w).is h1 q.1 q.2.1 := is_ext hk fun o e => hs1.extBut _ o hqI e
    obtain ⟨o, ho, hc, n, hd⟩ := id ht1
    show wpAny _ A.in1 (holding [Value.ref b] _ >>= _) _ _ _
    refine wpAny_bind (wpAny_holding ?_)
    refine wpAny_bind (wpAny_tryCatch ?_)
    unfold Builtin.Dict.pairItems
    refine wpAny_bind (wpAny_typeOf (T := "tuple") ⟨o, ho, hc⟩ ?_)
    rw [if_pos (by first | decide | rfl | simp)]
    refine wpAny_bind (wpAny_seqItems ho hd (wpAny_pure ?_))
    show wpAny _ A.in1 (holding [.ref q.2.1, q.2.2] (dictSet S (.ref q.2.1) q.2.2)) _ _ _
    refine wpAny_holding (wpAny_dictSet_heap (knd := KD prog w) (k := q.1) (tupleKind_room_in1 hu) hk1 hm1 (fun h2 hm2 hs2 => ?_) (by omega))
    have z := storedH_len acc q.1 q.2.1 q.2.2
    refine wpAny_pure ⟨plainId_quiet ud_plain _, upd_loopH (items := items) hu hh hlI hSI hSl rest (i + 1) (storedH acc q.1 q.2.1 q.2.2) (ix + 1) 0 _ (show items.size = i + 1 + rest.length by omega) (by omega) (fun j q' e => ?_) (fun x hx2 => ?_) ?_ ?_ hm2 fun h' tk hd' k => ?_⟩
    · obtain ⟨b', hb', hbS', hbI', hqS', hqI', htup', hk'⟩ := ht (j + 1) q' (by simpa using e)
      refine ⟨b', ?_, hbS', hbI', hqS', hqI', (htup'.extBut hs1.extBut hbI').extBut hs2.extBut hbS', is_ext hk' fun o e => hs2.extBut _ o hqS' (hs1.extBut _ o hqI' e)⟩
      rw [show i + 1 + j = i + (j + 1) by omega]
      exact hb'
    · rcases storedH_addr hx2 with e | ⟨y, hy, e⟩
      · rw [e]
        exact ⟨hqS, hqI⟩
      · rw [← e]
        exact hx y hy
    · exact hit1.at fun o' e => hs2.extBut I o' (Ne.symm hSI) e
    · exact hl1.extBut hs2.extBut (Ne.symm hSl)
    · exact hR h' tk hd' fun c oc h3 h4 e => k c oc h3 h4 (hs2.extBut c oc h3 (hs1.extBut c oc h4 e))
/-- dict(l) of a list of pairs -/
theorem call_dict_pairsH {s : Shared} {l : Addr} {ol : Obj} {items : Array Value} {n : Nat} {prs : List Ent} {Q : Value → Shared → Prop} (hu : A.units + 2 < cLine) (hh : A.handled = none) (hl : s.heap.get? l = some ol) (hc : ol.cls = .type "list") (hd : ol.dict = none)
    (hdat : ol.data = .seq items n) (hsz : items.size = prs.length) (hln : prs.length ≤ sizeLine)
    (ht : ∀ (j : Nat) (q : Ent), prs[j]? = some q → ∃ (b : Addr), items[j]? = some (.ref b) ∧ IsTup s.heap b #[.ref q.2.1, q.2.2] ∧ (KD prog w).is s.heap q.1 q.2.1)
    (h : ∀ h' tk, h'.DictOfH (KD prog w) s.heap.objs.size (mergedH [] prs) → (∀ b o, s.heap.get? b = some o → h'.get? b = some o) → Q (.ref s.heap.objs.size) { s with heap := h', toks := tk }) :
    wpAny (model prog w) A (call (.type "dict") [.ref l]) Q E s := by
  refine callType_codes (Q₁ := fun obj s₁ => obj = .ref s.heap.objs.size ∧ s₁ = { s with heap := s.heap.push { cls := .type "dict", data := .dict #[] } }) PySem.F.kt_called_dict (PySem.F.kt_typeCall_dict_1 _) PySem.F.entry_dict_init (kt_code_dict_new _ ⟨rfl, rfl⟩) ?_
  rintro obj s₁ ⟨rfl, rfl⟩
  have enew : (s.heap.push { cls := .type "dict", data := .dict #[] }).get? s.heap.objs.size = some { cls := .type "dict", data := .dict #[] } := Heap.get?_push_size _ rfl
  have hnew : (s.heap.push { cls := .type "dict", data := .dict #[] }).DictOfH (KD prog w) s.heap.objs.size [] := ⟨_, #[], 0, enew, ⟨rfl, rfl, rfl⟩, rfl, rfl, (fun x hx => by simp at hx), List.nodup_nil⟩
  have tnew : Shared.TypeIs { s with heap := s.heap.push { cls := .type "dict", data := .dict #[] } } (.ref s.heap.objs.size) "dict" := ⟨_, enew, rfl⟩
  have k0 : ∀ b o, s.heap.get? b = some o → (s.heap.push { cls := .type "dict", data := .dict #[] }).get? b = some o := fun b o e => Heap.get?_push_of_some _ e
  refine ⟨tnew, PySem.F.args_dict_init_2 _ _, ?_⟩
  unfold Builtin.«dict.__init__»
  refine wpAny_bind ?_
  unfold Builtin.Dict.selfAndRest
  refine wpAny_bind (wpAny_notOrdered_dict tnew ?_)
  show wpAny _ _ (pure (s.heap.objs.size, [Value.ref l])) _ _ _
  refine wpAny_pure ?_
  show wpAny _ _ (Builtin.Dict.updateFrom "dict.__init__" s.heap.objs.size (.ref l) [] .none) _ _ _
  unfold Builtin.Dict.updateFrom
  refine wpAny_bind (wpAny_typeOf (T := "list") ⟨ol, k0 _ _ hl, hc⟩ ?_)
  rw [if_pos (by first | decide | rfl | simp)]
  refine wpAny_bind (miss_list (k0 _ _ hl) hc hdat hd hh fun h1 tk1 hk1 => ?_)
  rw [if_pos (show (none : Option Value).isNone = true from rfl)]
  refine wpAny_bind (wpAny_rule ?_)
  have hl1 : h1.IsList l items := ⟨ol, hk1 _ _ (k0 _ _ hl), hc, n, hdat⟩
  have hS1 : s.heap.objs.size < h1.objs.size := Heap.lt_size (hk1 _ _ enew)
  refine wpAny_bind (wpAny_pyIter_list hl1 ?_)
  have k2 : ∀ b o, h1.get? b = some o → (h1.push { cls := .type "list_iterator", data := .fields #[.ref l, .int 0 0] }).get? b = some o := fun b o e => Heap.get?_push_of_some _ e
  have kall : ∀ b o, s.heap.get? b = some o → (h1.push { cls := .type "list_iterator", data := .fields #[.ref l, .int 0 0] }).get? b = some o := fun b o e => k2 _ _ (hk1 _ _ (k0 _ _ e))
  have hlt : l < s.heap.objs.size := Heap.lt_size hl
  have key := upd_loopH (prog := prog) (w := w) (A := A.in1) (R := wants (fun r s₂ => r = .none ∧ Q (.ref s.heap.objs.size) s₂) E) (S := s.heap.objs.size) (I := h1.objs.size) (l := l) (items := items) (res := Value.none) (show A.units + 1 + 1 < cLine by omega) hh
    (Nat.ne_of_lt (Nat.lt_trans hlt hS1)) (Nat.ne_of_lt hS1) (Nat.ne_of_gt hlt) prs 0 [] 0 0
    { s with heap := h1.push { cls := .type "list_iterator", data := .fields #[.ref l, .int 0 0] }, toks := tk1 } (by rw [hsz, Nat.zero_add]) (by rw [List.length_nil, Nat.zero_add]; exact hln)
    (fun j q e => by
      obtain ⟨b, e1, e2, e3⟩ := ht j q e
      have hb : b < s.heap.objs.size := e2.lt
      have hq : q.2.1 < s.heap.objs.size := by
        obtain ⟨o, _, _, z, _⟩ := e3
        exact Heap.lt_size z
      exact ⟨b, by rw [Nat.zero_add]; exact e1, Nat.ne_of_lt hb, Nat.ne_of_lt (Nat.lt_trans hb hS1), Nat.ne_of_lt hq, Nat.ne_of_lt (Nat.lt_trans hq hS1), e2.keeps fun c o z => kall _ _ z, is_ext e3 fun o z => kall _ _ z⟩)
    (fun x hx => by simp at hx) ⟨_, Heap.get?_push_size _ rfl, rfl, rfl⟩ (hl1.at fun o e => k2 _ _ e) (dictH_ext hnew (fun o e => k2 _ _ (hk1 _ _ e)) fun x hx => by simp at hx)
    (fun h' tk hd' k => ⟨rfl, h h' tk hd' fun b o e => k b o (Nat.ne_of_lt (Heap.lt_size e)) (Nat.ne_of_lt (Nat.lt_trans (Heap.lt_size e) hS1)) (kall _ _ e)⟩)
  first
    | exact wpAny_pure ⟨plainId_quiet ud_plain _, key⟩
    | exact wpAny_bind (wpAny_pure (wpAny_pure ⟨plainId_quiet ud_plain _, key⟩))
end
end Bw.DctT
namespace Bw
open PySem PySem.Spec L2 TL PyProof.Rows

def mergeT (kvs more : List (List L2.Key × V)) : List (List L2.Key × V) := more.foldl (fun acc kv => putK acc kv.1 kv.2) kvs
theorem length_mergeT : ∀ (more kvs : List (List L2.Key × V)), (mergeT kvs more).length ≤ kvs.length + more.length
  | [], kvs => by show kvs.length ≤ kvs.length + 0; omega
  | p :: r, kvs => by
    have h1 := length_mergeT r (putK kvs p.1 p.2)
    have h2 := length_putK kvs p.1 p.2
    show (mergeT (putK kvs p.1 p.2) r).length ≤ _
    rw [List.length_cons]
    omega
theorem KT.merge {H : Hp} : ∀ {more : List (List L2.Key × V)} {rs : List DctT.Ent} {kvs : List (List L2.Key × V)} {xs : List DctT.Ent}, KT H more rs → KT H kvs xs → KT H (mergeT kvs more) (DctT.mergedH xs rs)
  | _, _, _, _, .nil, q => q
  | _, _, _, _, .cons (a := p) (b := x) h t, q => by
    obtain ⟨h1, h2, h3⟩ := h
    have e := q.put p.1 h2 h3
    have e2 := KT.merge t e
    rw [h1] at e2
    show KT H (mergeT (putK _ p.1 p.2) _) (DctT.mergedH (storedH _ x.1 x.2.1 x.2.2) _)
    rw [h1]
    exact e2
def rDictT (K : PySem.W.Frag) : List V → Hp → VK → Prop := fun xs H Q => ∃ (a : Addr) (ps : List Addr) (rs : List Row) (kvs : List (List L2.Key × V)), xs = [.ref a] ∧ SqL K H a (ps.map V.ref) ∧ Paired (fun (p : Addr) (r : Row) => H p = some (.tup [.ref r.1, r.2])) ps rs ∧ RowsOf H kvs rs ∧
  ∀ p, H p = none → Q (.ref p) (upd H p (.dT (mergeT [] kvs)))
def rGetT (K : PySem.W.Frag) : R2 := fun x y H Q => ∃ (d b : Addr) (kvs : List (List L2.Key × V)) (k : List L2.Key) (v : V), x = .ref d ∧ H d = some (.dT kvs) ∧ y = .ref b ∧ SqT K H b (k.map kV) ∧ valV kvs k = some v ∧ Q v H
section
variable {X : Cx}
theorem ents_of {pins : List (Addr × Obj)} {σ : L2.St} {H : Hp} {s : Shared} (I : Inv X pins σ H s) : ∀ {ps : List Addr} {rs : List Row} {kvs : List (List L2.Key × V)}, Paired (fun (p : Addr) (r : Row) => H p = some (.tup [.ref r.1, r.2])) ps rs → RowsOf H kvs rs →
    ∃ prs : List DctT.Ent, KT H kvs prs ∧ prs.length = ps.length ∧ ∀ (j : Nat) (q : DctT.Ent), prs[j]? = some q → ∃ (b : Addr), ps[j]? = some b ∧ IsTup s.heap b #[.ref q.2.1, q.2.2] ∧ (DctT.KD X.prog X.w).is s.heap q.1 q.2.1
  | _, _, _, .nil, r => by
    cases r
    exact ⟨[], .nil, rfl, fun j q e => by simp at e⟩
  | _, _, _, .cons (a := p) (b := r) h t, rr => by
    cases rr with
    | @cons kv _ kvs _ k1 kt =>
      obtain ⟨prs, rel, hl, hp⟩ := ents_of I t kt
      obtain ⟨_, its, rv, o, h1, h2, n, h3⟩ := (show ObjOk X.prog X.w H s.heap p (.tup [.ref r.1, r.2]) from I.hok p _ h)
      obtain ⟨u, y, ei, ru, ry⟩ := vals2 rv
      subst ei
      obtain rfl : u = Value.ref r.1 := ru
      refine ⟨(kv.1, r.1, y) :: prs, .cons ⟨rfl, k1.1, k1.2 ▸ ry⟩ rel, by rw [List.length_cons, List.length_cons, hl], fun j q e => ?_⟩
      cases j with
      | zero =>
        have e' : (kv.1, r.1, y) = q := Option.some.inj e
        subst e'
        exact ⟨p, rfl, ⟨o, h1, h2, n, h3⟩, key_of I.hok k1.1⟩
      | succ j =>
        obtain ⟨b, e1, e2, e3⟩ := hp j q (by simpa using e)
        exact ⟨b, by simpa using e1, e2, e3⟩
/-- dict(xs), the keys of the pairs being tuples of ints and texts -/
theorem call_dictT (hcalm : X.calm = true) (hu : X.A.units + 2 < cLine) : CallR X (.type "dict") (rDictT X.K) := by
  intro pins s σ H xs us Q I r q
  obtain ⟨a, ps, rs, kvs, ex, hq, hp, hr, q⟩ := q
  subst ex
  obtain ⟨u, eu, rx⟩ := vals1 r
  subst eu
  cases rx
  obtain ⟨its, rv, pl, hz⟩ := I.list hq
  have ei := refs_at rv
  subst ei
  rw [List.length_map] at hz
  obtain ⟨prs, rel, hl, hpr⟩ := ents_of I hp hr
  obtain ⟨o, n, ho, hc, hd, hdat⟩ := pl
  refine DctT.call_dict_pairsH (prs := prs) hu (I.ok.hd hcalm) ho hc hd hdat (by simp [hl]) (by rw [hl]; exact hz) (fun j q' e => ?_) fun h' tk hd' k => ?_
  · obtain ⟨b, e1, e2, e3⟩ := hpr j q' e
    exact ⟨b, by simp [e1], e2, e3⟩
  · have hm : (s.heap.objs.size == sysModules) = false := beq_eq_false_iff_ne.mpr (Nat.ne_of_gt I.big)
    have hlen : (mergeT [] kvs).length ≤ sizeLine := by
      refine Nat.le_trans (length_mergeT kvs []) ?_
      rw [List.length_nil, Nat.zero_add, Paired.length rel, hl]
      exact hz
    have fr : H s.heap.objs.size = none := I.hok.fresh (Nat.le_refl _)
    have kt := KT.merge rel (show KT H [] [] from .nil)
    obtain ⟨o2, es, ep, g1, g2, g3, g4, _, g6⟩ := hd'
    refine ⟨.ref s.heap.objs.size, upd H s.heap.objs.size (.dT (mergeT [] kvs)), I.laid (t' := tk) k (Nat.le_refl _) ?_, rfl, q _ fr⟩
    exact ⟨hlen, hm, _, kt.keeps fun b ys e => (upd_ne (ne_of_none e fr)).trans e, o2, es, ep, g1, g2, g3, g4, g6⟩
/-- d[k], k a tuple of ints and texts -/
theorem ix_dT (hu : X.A.units + 1 < cLine) : IxR X (rGetT X.K) := by
  intro value slice pins s σ H x y v u Q I rx ry h hs
  obtain ⟨d, b, kvs, k, r, rfl, hd, rfl, hk, hv, q⟩ := h
  cases rx
  cases ry
  obtain ⟨z, hd0, xs, rel, dd⟩ := dt_of I.hok hd
  obtain ⟨w', hw, rw'⟩ := RelO.some_of (v := r) (o := (atKey xs k).map (·.2)) (by rw [← hv]; exact rel.val k)
  obtain ⟨p, hp, hp2⟩ := Option.map_eq_some_iff.mp hw
  obtain ⟨its, rv, ⟨o, ho, hc, n, hdat⟩, hz⟩ := I.tuple hk
  have key : (tupleKind (mixKind X.prog X.w)).is s.heap k b := ⟨o, its.toArray, n, ho, hc, hdat, by simpa using items_are rv⟩
  obtain ⟨o2, es, ep, g1, g2, g3, g4⟩ := id dd
  refine tail_any ⟨o2, g1, g2.1⟩ slot_dict_getitem.lookup (wpAny_getItem_heap (tupleKind_room_in1 hu) key dd hp ?_) hs
  rw [hp2]
  exact ⟨r, H, I.tok _, rw', q⟩
end
end Bw

namespace Bw.Ask
open PySem PySem.Spec L2 LamX TL PyProof.Rows SrtO

/-- sorted(list of askings) -/
def rSortedP (K : PySem.W.Frag) : List V → Hp → VK → Prop := fun vs H Q => ∃ (a : Addr) (us : List V) (l : List (F Itm)) (n : Nat), vs = [.ref a] ∧ SqL K H a us ∧ AtL K H us l ∧ (∀ f ∈ l, Ok f) ∧ (∀ f ∈ l, Hg n f) ∧ n ≤ 30 ∧
  ∀ ys p, Paired (fun v f => ∃ i : Nat, us[i]? = some v ∧ l[i]? = some f) ys (l.mergeSort leF) → H p = none → Q (.ref p) (upd H p (.lst ys))
section
variable {X : Cx}
open Classical in
theorem cr_sortedP (hu : X.A.units + 2 + 64 < cLine) : CallR X (.builtin "sorted") (rSortedP X.K) := by
  intro pins s σ H vs us0 Q I r h
  obtain ⟨a, us, l, n, rfl, hs, al, ok, hg, hn, q⟩ := h
  obtain ⟨its, rv, hl, hz⟩ := I.list hs
  obtain ⟨u, rfl, ru⟩ := vals1 r
  obtain rfl : u = Value.ref a := ru
  have refs : ∀ x ∈ us, ∃ t, x = V.ref t := fun x m => by
    obtain ⟨i, hi⟩ := List.mem_iff_getElem?.mp m
    obtain ⟨f, _, af⟩ := al.at_ i x hi
    obtain ⟨t, _, e, _⟩ := af.word
    exact ⟨t, e⟩
  obtain ⟨e1, e2⟩ := refs_back rv refs
  have rel : ∀ v ∈ its, RelV (backV v) v := fun v hv => by
    obtain ⟨t, rfl⟩ := e2 v hv
    exact rfl
  -- each value reads as the asking at its place
  have place : ∀ (i : Nat) (v : Value), its[i]? = some v → ∃ f, l[i]? = some f ∧ AtF X.K H (backV v) f ∧ ∃ as, Reads s.heap v (enc f) as := fun i v e => by
    have hi : us[i]? = some (backV v) := by rw [e1, List.getElem?_map, e]; rfl
    obtain ⟨f, hf, af⟩ := al.at_ i _ hi
    exact ⟨f, hf, af, Dp.reads I _ _ v af (rel v (List.mem_of_getElem? e))⟩
  let fv : Value → F Itm := fun v => if q : ∃ f, ∃ as, Reads s.heap v (enc f) as then q.choose else .of true []
  have fv_is : ∀ {v : Value} {f : F Itm} {as : List Addr}, Reads s.heap v (enc f) as → fv v = f := fun {v f as} rd => by
    have ex : ∃ f, ∃ as, Reads s.heap v (enc f) as := ⟨f, as, rd⟩
    show (if q : ∃ f, ∃ as, Reads s.heap v (enc f) as then q.choose else .of true []) = f
    rw [dif_pos ex]
    obtain ⟨as2, rd2⟩ := ex.choose_spec
    exact enc_inj _ _ (reads_one _ _ v _ _ (tame_enc _) (tame_enc _) rd2 rd)
  have len : its.length = l.length := by rw [← rv.length]; exact al.len
  have mapl : its.map fv = l := by
    refine List.ext_getElem? fun i => ?_
    rw [List.getElem?_map]
    cases e : its[i]? with
    | none =>
      have : its.length ≤ i := List.getElem?_eq_none_iff.mp e
      rw [List.getElem?_eq_none (by omega)]
      rfl
    | some v =>
      obtain ⟨f, hf, _, as, rd⟩ := place i v e
      rw [hf, Option.map_some, fv_is rd]
  have good : ∀ v ∈ its, fv v ∈ l ∧ AtF X.K H (backV v) (fv v) ∧ ∃ as, Reads s.heap v (enc (fv v)) as := fun v hv => by
    obtain ⟨i, hi⟩ := List.mem_iff_getElem?.mp hv
    obtain ⟨f, hf, af, as, rd⟩ := place i v hi
    rw [fv_is rd]
    exact ⟨List.mem_of_getElem? hf, af, as, rd⟩
  refine sorted_wrd (kd := fun v => enc (fv v)) (swo_data fun v => enc (fv v)) hl.isList (by rw [← rv.length]; exact hz) (fun v hv => ?_)
    (fun u hu2 v hv => ⟨cmp_enc _ _, plt_lex (tame_enc _) (tame_enc _) (cmp_enc _ _)⟩) fun out h1 h2 => ?_
  · obtain ⟨m, _, as, rd⟩ := good v hv
    obtain ⟨r, e⟩ := enc_first (fv v)
    have dp := depth_enc (hg _ m)
    exact ⟨_, r, as, e, rd, lay_enc (ok _ m), by omega⟩
  · have inits : ∀ v ∈ out, v ∈ its := fun v hv => h2.perm.mem_iff.mp hv
    have h3 : ∀ u ∈ out, ∃ a, u = Value.ref a := fun u hu3 => e2 u (inits u hu3)
    obtain ⟨n2, hn2⟩ := PyProof.Rows.sortedAll_at s.heap its out.toArray
    have same : out.map fv = l.mergeSort leF := by
      refine List.Perm.eq_of_pairwise (le := fun f g => leF f g = true) (fun x y _ _ p1 p2 => ord_leF.anti x y p1 p2) ?_ (List.pairwise_mergeSort ord_leF.trans ord_leF.total l) ?_
      · refine List.pairwise_map.mpr (h1.imp fun {x y} hxy => ?_)
        unfold leF
        rw [Bool.not_eq_true']
        exact hxy
      · exact (mapl ▸ h2.perm.map fv).trans (List.mergeSort_perm l leF).symm
    have all : Paired (fun v f => ∃ i : Nat, us[i]? = some v ∧ l[i]? = some f) (out.map backV) (out.map fv) := by
      have go : ∀ o : List Value, (∀ v ∈ o, v ∈ its) → Paired (fun v f => ∃ i : Nat, us[i]? = some v ∧ l[i]? = some f) (o.map backV) (o.map fv) := fun o => by
        induction o with
        | nil => exact fun _ => .nil
        | cons v o ih =>
          intro hh
          refine .cons ?_ (ih fun x hx => hh x (.tail _ hx))
          obtain ⟨i, hi⟩ := List.mem_iff_getElem?.mp (hh v (List.mem_cons_self ..))
          obtain ⟨f, hf, af, as, rd⟩ := place i v hi
          exact ⟨i, by rw [e1, List.getElem?_map, hi]; rfl, by rw [hf, fv_is rd]⟩
      exact go out inits
    refine ⟨.ref _, upd H (s.heap.objs.size + 1) (.lst (out.map backV)), I.laid (t' := s.toks) (fun _ _ => PyProof.Rows.sortedAll_old) (Nat.le_succ _) ⟨?_, out, n2, vals_back h3, by simpa using hn2⟩, rfl, q _ _ (same ▸ all) (I.hok.fresh (Nat.le_succ _))⟩
    rw [List.length_map, h2.perm.length_eq, ← rv.length]
    exact hz
end
end Bw.Ask

set_option exponentiation.threshold 4000
namespace Bw
open PySem PySem.Spec L2 TL PyProof.Rows Ask
open NumText (AllDigits digitsVal)

/-! ### the law's dice -/
def DiceAt (H : Hp) (d : Addr) : Prop := ∃ a b c : Int, H d = some (.lst [.int a, .int b, .int c])
/-- all but the dice is as it was -/
def Moved (d : Addr) (H H' : Hp) : Prop := (∀ b o, b ≠ d → H b = some o → H' b = some o) ∧ DiceAt H' d
theorem Moved.trans {d : Addr} {H H1 H2 : Hp} (a : Moved d H H1) (b : Moved d H1 H2) : Moved d H H2 := ⟨fun x o n h => b.1 x o n (a.1 x o n h), b.2⟩
theorem Moved.same {d : Addr} {H H1 : Hp} (h : DiceAt H d) (a : Same H H1) : Moved d H H1 := ⟨fun x o _ h => a x o h, by
  obtain ⟨x, y, z, e⟩ := h
  exact ⟨x, y, z, a _ _ e⟩⟩
theorem Moved.refl {d : Addr} {H : Hp} (h : DiceAt H d) : Moved d H H := Moved.same h (Same.refl H)
theorem DiceAt.same {d : Addr} {H H1 : Hp} (h : DiceAt H d) (a : Same H H1) : DiceAt H1 d := (Moved.same h a).2
theorem DiceAt.ne {d p : Addr} {H : Hp} (h : DiceAt H d) (hp : H p = none) : d ≠ p := by
  obtain ⟨x, y, z, e⟩ := h
  exact ne_of_none e hp
theorem moved_upd {d : Addr} {H : Hp} {a b c : Int} : Moved d H (upd H d (.lst [.int a, .int b, .int c])) := ⟨fun x o n h => by rw [upd_ne n]; exact h, a, b, c, upd_same⟩

def spDice (K : PySem.W.Frag) : Sp := fun vs H Q _ => ∃ (a : Addr) (ns : List Int) (i : Nat), vs = [.ref a, .int i] ∧ SqL K H a (ns.map V.int) ∧
  ∀ p H', H p = none → Same H H' → DiceAt H' p → Q (.ref p) H'
def spRoll : Sp := fun vs H Q _ => ∃ (d : Addr) (n : Int), vs = [.ref d, .int n] ∧ 0 < n ∧ n < 1000000000 ∧ DiceAt H d ∧
  ∀ (r : Int) H', 0 ≤ r → r < n → Moved d H H' → Q (.int r) H'
def spOne : Sp := fun vs H Q _ => ∃ (d l : Addr) (xs : List V), vs = [.ref d, .ref l] ∧ H l = some (.lst xs) ∧ l ≠ d ∧ xs ≠ [] ∧ xs.length < 1000000000 ∧ DiceAt H d ∧
  ∀ v H', v ∈ xs → Moved d H H' → Q v H'
section
variable {P : Program} {w : World} {K : PySem.W.Frag} {mg : Str → Option Value} {base : Heap} {f : Addr} {fd : FuncData} {aO : Addr}
theorem pow60 : ((10 : Int) ^ (60 : Int).toNat) = 10 ^ 60 := rfl
theorem ok_law_dice (F : Fun K "_law_dice" "_law_dice" s_law_dice f fd) (T : Txt w K mg aO) : FnOk P w K mg base CX0 1 f fd ["_law_script", "_law_at"] (spDice K) := by
  refine F.ok sc_law_dice (fun vs H Q E h => ?_) (fun cdv A outer s H vs Q E hr h => ?_)
  · obtain ⟨a, ns, i, rfl, _⟩ := h
    rfl
  · obtain ⟨a, ns, i, rfl, hS, q⟩ := h
    refine ⟨_, (pss_cons (ps_set (i := 2) sc_law_dice.nd rfl (Or.inl rfl) (pe_op op_add (pe_op op_mul pe_int (pv 1)) pe_int)) (pss_cons (ps_if (pt_cmpR op_lt (pv 1) (pe_callB (r := rLenQ K) call_lenQ (by rfl) T.b_len (by decide +kernel) (pa_cons (pv 0) pa_nil)) (nomark _)) (pss_one (ps_set (i := 2) sc_law_dice.nd rfl (Or.inl rfl) (pe_ix (r := rIxL K) ix_list (pv 0) (pv 1) (fun _ _ => rfl)))) pss_nil) (pss_cons (ps_set (i := 3) sc_law_dice.nd rfl (Or.inl rfl) (pe_op op_mod (pe_callTy call_int1 (by rfl) T.b_int (by decide +kernel) (pa_cons (pe_callB call_abs (by rfl) T.b_abs (by decide +kernel) (pa_cons (pv 2) pa_nil)) pa_nil)) (pe_op op_powW (pe_op op_pow pe_int pe_int) pe_int))) (pss_cons (ps_set (i := 4) sc_law_dice.nd rfl (Or.inl rfl) (pe_op op_fdivW (pv 3) (pe_op op_pow pe_int pe_int))) (pss_cons (ps_set (i := 5) sc_law_dice.nd rfl (Or.inl rfl) (pe_op op_add (pe_op op_add (pe_op op_add (pe_op op_mul (pe_op op_mod (pv 3) pe_int) pe_int) (pe_op op_mul pe_int (pv 1))) (pe_op op_mul pe_int (pe_callTy call_int1 (by rfl) T.b_int (by decide +kernel) (pa_cons (pe_cmpR op_lt (pv 2) pe_int (nomark _)) pa_nil)))) pe_int)) (pss_one (ps_ret (pe_lst (pa_cons (pv 4) (pa_cons (pe_op op_mod (pv 5) pe_int) (pa_cons pe_int pa_nil))))))))))), ?_⟩
    refine ⟨_, rfl, _, _, rfl, rfl, .inl ⟨by decide, by decide⟩, _, _, rfl, rfl, ?_⟩
    refine ⟨_, rfl, _, rfl, a, _, rfl, .inl hS, _, _, rfl, rfl, _, rfl, ?_⟩
    have hp60 : CPow 10 60 := ⟨by decide, by decide, by decide⟩
    have hp18 : CPow 10 18 := ⟨by decide, by decide, by decide⟩
    have hpW : CPowW ((10 : Int) ^ (60 : Int).toNat) 10 := ⟨by decide, by decide +kernel⟩
    have hps : (0 : Int) < ((10 : Int) ^ (60 : Int).toNat) ^ (10 : Int).toNat := by decide +kernel
    have hdW : ∀ g : Int, CDivW g ((10 : Int) ^ (18 : Int).toNat) := fun g => ⟨by decide +kernel, by decide +kernel⟩
    refine ite2 (fun hc => ?_) (fun _ => ?_)
    · have hlt : i < ns.length := by
        have := of_decide_eq_true hc
        rw [List.length_map] at this
        omega
      refine ⟨_, rfl, _, rfl, a, _, _, _, rfl, rfl, hS, atI_nat (j := i) (v := .int ns[i]) (by simp [hlt]), ?_⟩
      refine ⟨_, rfl, _, rfl, .inl ⟨_, rfl, _, _, rfl, rfl, hp60, _, _, rfl, rfl, hpW, _, _, rfl, rfl, hps, ?_⟩⟩
      refine ⟨_, rfl, _, _, rfl, rfl, hp18, _, _, rfl, rfl, hdW _, ?_⟩
      refine ⟨_, rfl, _, _, rfl, rfl, (by show (0 : Int) < 2147482763; decide), _, _, rfl, rfl, .inr ⟨by decide, by decide⟩, _, rfl, _, _, rfl, rfl, .inl ⟨by decide, by decide⟩, _, _, rfl, rfl, _, rfl, _, _, rfl, rfl, .inr ⟨_, rfl, _, _, rfl, rfl, .inl ⟨by decide, by decide⟩, _, _, rfl, rfl, _, _, rfl, rfl, ?_⟩⟩
      exact ⟨_, rfl, _, rfl, _, _, rfl, rfl, (by show (0 : Int) < 2147482739; decide), (by show 3 ≤ sizeLine; decide), fun p hp => q p _ hp (same_new hp) ⟨_, _, _, upd_same⟩⟩
    · refine ⟨_, rfl, _, rfl, .inl ⟨_, rfl, _, _, rfl, rfl, hp60, _, _, rfl, rfl, hpW, _, _, rfl, rfl, hps, ?_⟩⟩
      refine ⟨_, rfl, _, _, rfl, rfl, hp18, _, _, rfl, rfl, hdW _, ?_⟩
      refine ⟨_, rfl, _, _, rfl, rfl, (by show (0 : Int) < 2147482763; decide), _, _, rfl, rfl, .inr ⟨by decide, by decide⟩, _, rfl, _, _, rfl, rfl, .inl ⟨by decide, by decide⟩, _, _, rfl, rfl, _, rfl, _, _, rfl, rfl, .inr ⟨_, rfl, _, _, rfl, rfl, .inl ⟨by decide, by decide⟩, _, _, rfl, rfl, _, _, rfl, rfl, ?_⟩⟩
      exact ⟨_, rfl, _, rfl, _, _, rfl, rfl, (by show (0 : Int) < 2147482739; decide), (by show 3 ≤ sizeLine; decide), fun p hp => q p _ hp (same_new hp) ⟨_, _, _, upd_same⟩⟩
theorem emod_nn (a : Int) {n : Int} (h : 0 < n) : 0 ≤ a % n ∧ a % n < n := ⟨Int.emod_nonneg a (by omega), Int.emod_lt_of_pos a h⟩
theorem ok_law_roll (F : Fun K "_law_roll" "_law_roll" s_law_roll f fd) (T : Txt w K mg aO) : FnOk P w K mg base CX0 1 f fd ["_law_dice_here", "_law_total"] spRoll := by
  refine F.ok sc_law_roll (fun vs H Q E h => ?_) (fun cdv A outer s H vs Q E hr h => ?_)
  · obtain ⟨d, n, rfl, _⟩ := h
    rfl
  · obtain ⟨d, n, rfl, h0, h1, ⟨a, b, c, hd⟩, q⟩ := h
    refine ⟨_, (pss_cons (ps_set (i := 2) sc_law_roll.nd rfl (Or.inl rfl) (pe_callTy call_int1 (by rfl) T.b_int (by decide +kernel) (pa_cons (pv 1) pa_nil))) (pss_cons (ps_if (pt_cmpR op_gt (pe_ix (r := rIxL K) ix_list (pv 0) pe_int (fun _ _ => rfl)) pe_int (nomark _)) (pss_cons (ps_set (i := 3) sc_law_roll.nd rfl (Or.inl rfl) (pe_op op_mod (pe_ix (r := rIxL K) ix_list (pv 0) pe_int (fun _ _ => rfl)) (pv 2))) (pss_cons (ps_asg (pe_op op_fdiv (pe_ix (r := rIxL K) ix_list (pv 0) pe_int (fun _ _ => rfl)) (pv 2)) (pg_sub (pv 0) pe_int set_list)) (pss_one (ps_ret (pe_callTy call_int1 (by rfl) T.b_int (by decide +kernel) (pa_cons (pv 3) pa_nil)))))) pss_nil) (pss_cons (ps_asg (pe_op op_add (pe_ix (r := rIxL K) ix_list (pv 0) pe_int (fun _ _ => rfl)) pe_int) (pg_sub (pv 0) pe_int set_list)) (pss_cons (ps_set (i := 4) sc_law_roll.nd rfl (Or.inl rfl) (pe_op op_mod (pe_op op_add (pe_ix (r := rIxL K) ix_list (pv 0) pe_int (fun _ _ => rfl)) (pe_op op_mul pe_int (pe_ix (r := rIxL K) ix_list (pv 0) pe_int (fun _ _ => rfl)))) pe_int)) (pss_cons (ps_set (i := 5) sc_law_roll.nd rfl (Or.inl rfl) (pe_op op_add (pe_op op_mul (pe_op op_mod (pe_op op_mul (pv 4) (pv 4)) pe_int) (pv 4)) (pe_op op_mul pe_int (pe_ix (r := rIxL K) ix_list (pv 0) pe_int (fun _ _ => rfl))))) (pss_cons (ps_set (i := 5) sc_law_roll.nd rfl (Or.inl rfl) (pe_op op_mod (pv 5) pe_int)) (pss_one (ps_ret (pe_callTy call_int1 (by rfl) T.b_int (by decide +kernel) (pa_cons (pe_op op_mod (pe_op op_fdiv (pv 5) pe_int) (pv 2)) pa_nil)))))))))), ?_⟩
    refine ⟨_, rfl, .inl ⟨_, rfl, ?_⟩⟩
    refine ⟨_, rfl, d, _, _, _, rfl, rfl, SqL.of hd, atI_nat (j := 0) rfl, _, _, rfl, rfl, _, rfl, ?_⟩
    refine ite2 (fun hc => ?_) (fun _ => ?_)
    · refine ⟨_, rfl, d, _, _, _, rfl, rfl, SqL.of hd, atI_nat (j := 0) rfl, _, rfl, _, _, rfl, rfl, h0, ?_⟩
      refine ⟨_, rfl, d, _, _, _, rfl, rfl, SqL.of hd, atI_nat (j := 0) rfl, _, rfl, _, _, rfl, rfl, ⟨h0, by omega⟩, ?_⟩
      refine ⟨_, rfl, d, _, _, 0, rfl, rfl, hd, rfl, ?_⟩
      obtain ⟨e1, e2⟩ := emod_nn a h0
      exact ⟨_, rfl, .inl ⟨_, rfl, q _ _ e1 e2 moved_upd⟩⟩
    · refine ⟨_, rfl, d, _, _, _, rfl, rfl, SqL.of hd, atI_nat (j := 2) rfl, _, _, rfl, rfl, ?_⟩
      refine ⟨_, rfl, d, _, _, 2, rfl, rfl, hd, rfl, ?_⟩
      have hd2 : upd H d (.lst [.int a, .int b, .int (c + 1)]) d = some (.lst [.int a, .int b, .int (c + 1)]) := upd_same
      refine ⟨_, rfl, d, _, _, _, rfl, rfl, SqL.of upd_same, atI_nat (j := 1) rfl, _, rfl, d, _, _, _, rfl, rfl, SqL.of upd_same, atI_nat (j := 2) rfl, _, _, rfl, rfl, .inl ⟨by decide, by decide⟩, _, _, rfl, rfl, _, _, rfl, rfl, (by show (0 : Int) < 2305843009213693951; decide), ?_⟩
      obtain ⟨e1, e2⟩ := emod_nn (b + 1000357 * (c + 1)) (n := 2305843009213693951) (by decide)
      refine ⟨_, rfl, _, rfl, _, _, rfl, rfl, .inl ⟨by omega, by omega⟩, _, _, rfl, rfl, (by show (0 : Int) < 2305843009213693921; decide), _, rfl, _, _, rfl, rfl, .inr ⟨by omega, by omega⟩, _, rfl, d, _, _, _, rfl, rfl, SqL.of upd_same, atI_nat (j := 2) rfl, _, _, rfl, rfl, .inl ⟨by decide, by decide⟩, _, _, rfl, rfl, ?_⟩
      refine ⟨_, rfl, _, _, rfl, rfl, (by show (0 : Int) < 2305843009213693907; decide), ?_⟩
      refine ⟨_, rfl, _, _, rfl, rfl, ⟨by decide, by decide⟩, _, rfl, _, _, rfl, rfl, h0, .inl ⟨_, rfl, ?_⟩⟩
      exact q _ _ (emod_nn _ h0).1 (emod_nn _ h0).2 moved_upd
theorem ok_law_one_of (F : Fun K "_law_one_of" "_law_one_of" s_law_one_of f fd) (T : Txt w K mg aO) (D_law_roll : Dfn P w K mg base "_law_roll" 1 ["_law_dice_here", "_law_total"] spRoll) :
    FnOk P w K mg base CX0 2 f fd ["_law_dice_here", "_law_items_here"] spOne := by
  refine F.ok sc_law_one_of (fun vs H Q E h => ?_) (fun cdv A outer s H vs Q E hr h => ?_)
  · obtain ⟨d, l, xs, rfl, _⟩ := h
    rfl
  · obtain ⟨d, l, xs, rfl, hl, nld, hne, hlen, hd, q⟩ := h
    have hpos : 0 < xs.length := List.length_pos_iff.mpr hne
    refine ⟨_, (pss_one (ps_ret (pe_ix (r := rIxL K) ix_list (pv 1) (pe_d D_law_roll hr (by decide) (pa_cons (pv 0) (pa_cons (pe_callB (r := rLenQ K) call_lenQ (by rfl) T.b_len (by decide +kernel) (pa_cons (pv 1) pa_nil)) pa_nil))) (fun _ _ => rfl)))), ?_⟩
    refine ⟨_, rfl, _, rfl, _, rfl, l, _, rfl, .inl (SqL.of hl), d, _, rfl, by omega, by omega, hd, fun r H1 r0 r1 mv => ?_⟩
    obtain ⟨j, rfl⟩ := Int.eq_ofNat_of_zero_le r0
    have hj : j < xs.length := by omega
    exact ⟨l, xs, _, xs[j], rfl, rfl, SqL.of (mv.1 l _ nld hl), atI_nat (by simp [hj]), q _ _ (List.getElem_mem hj) mv⟩
end
end Bw

namespace Bw
open PySem PySem.Spec L2 TL PyProof.Rows Ask

/-! ### askings whose tuples stand in the heap themselves -/
def keyI : Itm → List L2.Key
  | .has x => [.inr "has", .inr x]
  | .is x y => [.inr "is", .inr x, .inr y]
  | .cls x => [.inr "class", .inr x]
  | .within n => [.inr "within", .inl n]
mutual
def St (H : Hp) : F Itm → V → Prop
  | .it a, v => ∃ b, v = .ref b ∧ H b = some (.tup ((keyI a).map kV))
  | .no f, v => ∃ b u, v = .ref b ∧ H b = some (.tup [.str "not", u]) ∧ St H f u
  | .of w l, v => ∃ b c us, v = .ref b ∧ H b = some (.tup [.str (wrd w), .ref c]) ∧ H c = some (.tup us) ∧ StL H l us
def StL (H : Hp) : List (F Itm) → List V → Prop
  | [], us => us = []
  | f :: l, us => ∃ u ur, us = u :: ur ∧ St H f u ∧ StL H l ur
end
mutual
theorem st_up {H H' : Hp} (k : ∀ b us, H b = some (.tup us) → H' b = some (.tup us)) : ∀ (f : F Itm) (v : V), St H f v → St H' f v
  | .it a, v, h => by
    obtain ⟨b, e, h⟩ := h
    exact ⟨b, e, k _ _ h⟩
  | .no f, v, h => by
    obtain ⟨b, u, e, h, r⟩ := h
    exact ⟨b, u, e, k _ _ h, st_up k f u r⟩
  | .of w l, v, h => by
    obtain ⟨b, c, us, e, h, h2, r⟩ := h
    exact ⟨b, c, us, e, k _ _ h, k _ _ h2, stL_up k l us r⟩
theorem stL_up {H H' : Hp} (k : ∀ b us, H b = some (.tup us) → H' b = some (.tup us)) : ∀ (l : List (F Itm)) (us : List V), StL H l us → StL H' l us
  | [], us, h => h
  | f :: l, us, h => by
    obtain ⟨u, ur, e, a, r⟩ := h
    exact ⟨u, ur, e, st_up k f u a, stL_up k l ur r⟩
end
mutual
theorem st_at {K : PySem.W.Frag} {H : Hp} : ∀ (f : F Itm) (v : V), St H f v → AtF K H v f
  | .it a, v, h => by
    obtain ⟨b, rfl, h⟩ := h
    unfold AtF
    rw [enc]
    cases a with
    | has x => exact .tup (SqT.of h) (.cons (.str _) (.cons (.str _) .nil))
    | is x y => exact .tup (SqT.of h) (.cons (.str _) (.cons (.str _) (.cons (.str _) .nil)))
    | cls x => exact .tup (SqT.of h) (.cons (.str _) (.cons (.str _) .nil))
    | within n => exact .tup (SqT.of h) (.cons (.str _) (.cons (.int _) .nil))
  | .no f, v, h => by
    obtain ⟨b, u, rfl, h, r⟩ := h
    exact AtF.mk_no (SqT.of h) (st_at f u r)
  | .of w l, v, h => by
    obtain ⟨b, c, us, rfl, h, h2, r⟩ := h
    exact AtF.mk_of (SqT.of h) (SqT.of h2) (stL_at l us r)
theorem stL_at {K : PySem.W.Frag} {H : Hp} : ∀ (l : List (F Itm)) (us : List V), StL H l us → AtL K H us l
  | [], us, h => by
    cases h
    exact .nil
  | f :: l, us, h => by
    obtain ⟨u, ur, rfl, a, r⟩ := h
    exact .cons (st_at f u a) (stL_at l ur r)
end
theorem stL_snoc {H : Hp} : ∀ {l : List (F Itm)} {us : List V} {f : F Itm} {u : V}, StL H l us → St H f u → StL H (l ++ [f]) (us ++ [u])
  | [], us, f, u, h, a => by
    cases h
    exact ⟨u, [], rfl, a, rfl⟩
  | g :: l, us, f, u, h, a => by
    obtain ⟨x, ur, rfl, b, r⟩ := h
    exact ⟨x, ur ++ [u], rfl, b, stL_snoc r a⟩
theorem stL_len {H : Hp} : ∀ {l : List (F Itm)} {us : List V}, StL H l us → us.length = l.length
  | [], us, h => by cases h; rfl
  | f :: l, us, h => by
    obtain ⟨u, ur, rfl, a, r⟩ := h
    rw [List.length_cons, List.length_cons, stL_len r]
def itm : F Itm → List Itm
  | .it a => [a]
  | .no f => itm f
  | .of _ l => (l.map fun f => itm f).flatten
def five : List Itm := [.has "a", .has "b", .is "c" "1", .cls "top", .within 3]
def wb : Nat → Nat
  | 0 => 1
  | 1 => 1
  | 2 => 4
  | 3 => 9
  | _ => 19
structure Wsh (n : Nat) (f : F Itm) : Prop where
  size : sz f ≤ wb n
  deep : depF f ≤ max n 1
  five : ∀ a ∈ itm f, a ∈ five
theorem tup_off {d : Addr} {H H' : Hp} (hd : DiceAt H d) (m : Moved d H H') : ∀ b us, H b = some (.tup us) → H' b = some (.tup us) := fun b us e => by
  obtain ⟨x, y, z, h⟩ := hd
  exact m.1 b _ (fun q => by rw [q, h] at e; cases e) e
def spWish (n : Nat) : Sp := fun vs H Q _ => ∃ d : Addr, vs = [.ref d, .int n] ∧ DiceAt H d ∧ ∀ H' v f, Moved d H H' → St H' f v → Wsh n f → Q v H'
theorem szl3 {n : Nat} (h : n ≤ 3) : n < sizeLine := Nat.lt_of_le_of_lt h (by decide)
theorem szs_le {l : List (F Itm)} {k : Nat} (h : ∀ f ∈ l, sz f ≤ k) : szs l ≤ l.length * k := by
  induction l with
  | nil => exact Nat.zero_le _
  | cons f l ih =>
    rw [szs_cons, List.length_cons, Nat.succ_mul]
    have h1 := ih fun g hg => h g (.tail _ hg)
    have h2 := h f (List.mem_cons_self ..)
    omega
theorem wb_step {m : Nat} (h1 : 1 ≤ m) (h2 : m ≤ 3) : 1 + wb m ≤ wb (m + 1) := by
  have : m = 1 ∨ m = 2 ∨ m = 3 := by omega
  rcases this with rfl | rfl | rfl <;> decide
theorem wb_many {m k : Nat} (h1 : 1 ≤ m) (h2 : m ≤ 3) (h3 : k ≤ if m < 2 then 3 else 2) : 1 + k * wb m ≤ wb (m + 1) := by
  have : m = 1 ∨ m = 2 ∨ m = 3 := by omega
  rcases this with rfl | rfl | rfl
  · have h4 : k ≤ 3 := h3
    show 1 + k * 1 ≤ 4
    omega
  · have h4 : k ≤ 2 := h3
    show 1 + k * 4 ≤ 9
    omega
  · have h4 : k ≤ 2 := h3
    show 1 + k * 9 ≤ 19
    omega
theorem mem_cut {xs : List V} {lo hi : Option Int} {v : V} (h : v ∈ cutV xs lo hi) : v ∈ xs := List.mem_of_mem_drop (List.mem_of_mem_take h)
theorem cut_ne {xs : List V} {i : Int} (h1 : 1 ≤ i) (h2 : xs ≠ []) : cutV xs none (some i) ≠ [] := by
  have hp := List.length_pos_iff.mpr h2
  refine List.length_pos_iff.mp ?_
  show 0 < ((xs.drop 0).take ((if i < 0 then (i + (xs.length : Int)).toNat else min i.toNat xs.length) - 0)).length
  rw [if_neg (by omega), List.drop_zero, List.length_take, Nat.sub_zero]
  omega
theorem Moved.back {d D : Addr} {H H1 : Hp} {o : HO} (m : Moved d H H1) (hd : DiceAt H d) (hD : H D = none) : Moved d H (upd H1 D o) := by
  refine ⟨fun b u nb hb => by rw [upd_ne (ne_of_none hb hD)]; exact m.1 b u nb hb, ?_⟩
  obtain ⟨x, y, z, e⟩ := m.2
  exact ⟨x, y, z, by rw [upd_ne (hd.ne hD)]; exact e⟩
section
variable {P : Program} {w : World} {K : PySem.W.Frag} {mg : Str → Option Value} {base : Heap} {f : Addr} {fd : FuncData} {aO : Addr}
theorem ok_law_wish_step (Fo : Fun K "_law_wish" "_law_wish" s_law_wish f fd) (T : Txt w K mg aO) (D_law_roll : Dfn P w K mg base "_law_roll" 1 ["_law_dice_here", "_law_total"] spRoll) (D_law_one_of : Dfn P w K mg base "_law_one_of" 2 ["_law_dice_here", "_law_items_here"] spOne)
    {k n : Nat} {sp : Sp} (hk : 2 ≤ k) (hn4 : n ≤ 4) (D_law_wish : Dfn P w K mg base "_law_wish" k ["_law_dice_here", "_law_deep"] sp) (hsp : ∀ m, n = m + 1 → 1 ≤ m → sp = spWish m) : FnOk P w K mg base CX0 (k + 1) f fd ["_law_dice_here", "_law_deep"] (spWish n) := by
  refine Fo.ok sc_law_wish (fun vs H Q E h => ?_) (fun cdv A outer s H vs Q E hr h => ?_)
  · obtain ⟨d, rfl, _⟩ := h
    rfl
  · obtain ⟨d, rfl, hd, q⟩ := h
    refine ⟨_, (pss_cons (ps_set (i := 2) sc_law_wish.nd rfl (Or.inl rfl) (pe_d D_law_roll hr (by omega) (pa_cons (pv 0) (pa_cons pe_int pa_nil)))) (pss_cons (ps_if (PW.pt (pw_or (pt_cmpR op_lt (pv 1) pe_int (nomark _)) (pw_or1 (pt_cmpR op_lt (pv 2) pe_int (nomark _))))) (pss_cons (ps_set (i := 3) sc_law_wish.nd rfl (Or.inl rfl) (pe_lst (pa_cons (pe_tup (pa_cons pe_str (pa_cons pe_str pa_nil))) (pa_cons (pe_tup (pa_cons pe_str (pa_cons pe_str pa_nil))) (pa_cons (pe_tup (pa_cons pe_str (pa_cons pe_str (pa_cons pe_str pa_nil)))) (pa_cons (pe_tup (pa_cons pe_str (pa_cons pe_str pa_nil))) (pa_cons (pe_tup (pa_cons pe_str (pa_cons pe_int pa_nil))) pa_nil))))))) (pss_one (ps_ret (pe_d D_law_one_of hr (by omega) (pa_cons (pv 0) (pa_cons (pe_slice (r := rSlL K) sl_list (pv 3) po_none (po_some (pe_op op_add pe_int (pe_d D_law_roll hr (by omega) (pa_cons (pv 0) (pa_cons pe_int pa_nil)))))) pa_nil)))))) pss_nil) (pss_cons (ps_if (pt_cmpR op_eq (pv 2) pe_int (nomark _)) (pss_one (ps_ret (pe_tup (pa_cons pe_str (pa_cons (pe_d D_law_wish hr (by first | exact Nat.le_refl _ | decide) (pa_cons (pv 0) (pa_cons (pe_op op_sub (pv 1) pe_int) pa_nil))) pa_nil))))) pss_nil) (pss_cons (ps_if (pt_cmpR op_eq (pv 2) pe_int (nomark _)) (pss_one (ps_ret (pe_d D_law_one_of hr (by omega) (pa_cons (pv 0) (pa_cons (pe_lst (pa_cons (pe_tup (pa_cons pe_str (pa_cons (pe_tup pa_nil) pa_nil))) (pa_cons (pe_tup (pa_cons pe_str (pa_cons (pe_tup pa_nil) pa_nil))) pa_nil))) pa_nil))))) pss_nil) (pss_cons (ps_set (i := 4) sc_law_wish.nd rfl (Or.inl rfl) (pe_d D_law_roll hr (by omega) (pa_cons (pv 0) (pa_cons (pe_ifExp (pt_cmpR op_lt (pv 1) pe_int (nomark _)) pe_int pe_int) pa_nil)))) (pss_one (ps_ret (pe_tup (pa_cons (pe_ifExp (pt_cmpR op_lt (pv 2) pe_int (nomark _)) pe_str pe_str) (pa_cons (pe_callTy call_tuple_of (by rfl) T.b_tuple (by decide +kernel) (pa_cons (pe_lc (own := [("_law_turn", 5)]) (g := gName 5) (by rfl) sc_law_wish.nd (pi_range1 (by rfl) T.b_range (pa_cons (pv 4) pa_nil)) (blkOk_by (own := [("_law_turn", 5)]) (N := n_law_wish) (sc := defScope s_law_wish) (by decide +kernel)) (fun _ _ _ _ _ => pg_name (i := 5) sc_law_wish.nd rfl (Or.inl rfl)) (fun _ _ _ _ _ => pts_nil) (fun _ _ _ _ _ => (pe_d D_law_wish hr (by first | exact Nat.le_refl _ | decide) (pa_cons (pv 0) (pa_cons (pe_op op_sub (pv 1) pe_int) pa_nil))))) pa_nil)) pa_nil)))))))))), ?_⟩
    refine ⟨_, rfl, d, 8, rfl, by decide, by decide, hd, fun lot H1 l0 l8 m1 => ?_⟩
    have leafW : ∀ a ∈ five, Wsh n (.it a) := fun a ha => ⟨by rw [sz]; unfold wb; split <;> decide, by rw [depF]; omega, fun b hb => by
      rw [itm] at hb
      rw [List.mem_singleton.mp hb]
      exact ha⟩
    have l2 : (2 : Nat) ≤ sizeLine := by decide
    have l3 : (3 : Nat) ≤ sizeLine := by decide
    have l5 : (5 : Nat) ≤ sizeLine := by decide
    refine ⟨_, rfl, _, _, rfl, rfl, _, rfl, ?_⟩
    by_cases c1 : (n : Int) < 2
    · rw [decide_eq_true c1]
      refine iteT (iteT ?_)
      refine ⟨l2, fun t1 h1 => ⟨l2, fun t2 h2 => ⟨l3, fun t3 h3 => ⟨l2, fun t4 h4 => ⟨l2, fun t5 h5 => ⟨l5, fun L hL => ?_⟩⟩⟩⟩⟩⟩
      have s1 := same_new (o := .tup [.str "has", .str "a"]) h1
      have s2 := same_new (o := .tup [.str "has", .str "b"]) h2
      have s3 := same_new (o := .tup [.str "is", .str "c", .str "1"]) h3
      have s4 := same_new (o := .tup [.str "class", .str "top"]) h4
      have s5 := same_new (o := .tup [.str "within", .int 3]) h5
      have s6 := same_new (o := .lst [.ref t1, .ref t2, .ref t3, .ref t4, .ref t5]) hL
      have e1 := s6 _ _ (s5 _ _ (s4 _ _ (s3 _ _ (s2 _ _ (upd_same (H := H1) (a := t1) (o := .tup [.str "has", .str "a"]))))))
      have e2 := s6 _ _ (s5 _ _ (s4 _ _ (s3 _ _ (upd_same (a := t2) (o := .tup [.str "has", .str "b"])))))
      have e3 := s6 _ _ (s5 _ _ (s4 _ _ (upd_same (a := t3) (o := .tup [.str "is", .str "c", .str "1"]))))
      have e4 := s6 _ _ (s5 _ _ (upd_same (a := t4) (o := .tup [.str "class", .str "top"])))
      have e5 := s6 _ _ (upd_same (a := t5) (o := .tup [.str "within", .int 3]))
      have eL := upd_same (H := upd (upd (upd (upd (upd H1 t1 (.tup [.str "has", .str "a"])) t2 (.tup [.str "has", .str "b"])) t3 (.tup [.str "is", .str "c", .str "1"])) t4 (.tup [.str "class", .str "top"])) t5 (.tup [.str "within", .int 3])) (a := L) (o := .lst [.ref t1, .ref t2, .ref t3, .ref t4, .ref t5])
      have sm := ((((s1.trans s2).trans s3).trans s4).trans s5).trans s6
      have ndL : L ≠ d := fun z => by
        obtain ⟨x, y, w, e⟩ := m1.2
        have := ((((s1.trans s2).trans s3).trans s4).trans s5) _ _ e
        rw [← z, hL] at this
        cases this
      generalize upd (upd (upd (upd (upd (upd H1 t1 (.tup [.str "has", .str "a"])) t2 (.tup [.str "has", .str "b"])) t3 (.tup [.str "is", .str "c", .str "1"])) t4 (.tup [.str "class", .str "top"])) t5 (.tup [.str "within", .int 3])) L (.lst [.ref t1, .ref t2, .ref t3, .ref t4, .ref t5]) = H2 at e1 e2 e3 e4 e5 eL sm
      have m2 := m1.trans (Moved.same m1.2 sm)
      refine ⟨_, rfl, _, rfl, _, rfl, d, 4, rfl, by decide, by decide, m2.2, fun r H3 r0 r4 m3 => ⟨_, _, rfl, rfl, _, rfl, ?_⟩⟩
      refine ⟨L, _, rfl, SqL.of (m3.1 _ _ ndL eL), fun p hp => ⟨d, p, _, rfl, upd_same, (fun z => by rw [z] at hp; exact absurd rfl (m3.2.ne hp)), cut_ne (by show (1 : Int) ≤ 2 + r; omega) (by simp), Nat.lt_of_le_of_lt (cutV_length _ _ _) (by show (5 : Nat) < 1000000000; decide), (m3.2.same (same_new hp)), fun v H4 hv m4 => ?_⟩⟩
      have mv := mem_cut hv
      have off : ∀ b us, H2 b = some (.tup us) → H4 b = some (.tup us) := fun b us e => tup_off (m3.2.same (same_new (o := .lst (cutV [.ref t1, .ref t2, .ref t3, .ref t4, .ref t5] none (some ((fun i j : Int => i + j) 2 r)))) hp)) m4 _ _ (same_new hp _ _ (tup_off m2.2 m3 _ _ e))
      have big : Moved d H H4 := ((m2.trans m3).trans (Moved.same m3.2 (same_new hp))).trans m4
      simp only [List.mem_cons, List.not_mem_nil, or_false] at mv
      rcases mv with rfl | rfl | rfl | rfl | rfl
      · exact q _ _ (.it (.has "a")) big ⟨t1, rfl, off _ _ e1⟩ (leafW _ (by simp [five]))
      · exact q _ _ (.it (.has "b")) big ⟨t2, rfl, off _ _ e2⟩ (leafW _ (by simp [five]))
      · exact q _ _ (.it (.is "c" "1")) big ⟨t3, rfl, off _ _ e3⟩ (leafW _ (by simp [five]))
      · exact q _ _ (.it (.cls "top")) big ⟨t4, rfl, off _ _ e4⟩ (leafW _ (by simp [five]))
      · exact q _ _ (.it (.within 3)) big ⟨t5, rfl, off _ _ e5⟩ (leafW _ (by simp [five]))
    · rw [decide_eq_false c1]
      refine iteF ⟨_, rfl, _, _, rfl, rfl, _, rfl, ?_⟩
      by_cases c2 : lot < 2
      · rw [decide_eq_true c2]
        refine iteT ?_
        refine ⟨l2, fun t1 h1 => ⟨l2, fun t2 h2 => ⟨l3, fun t3 h3 => ⟨l2, fun t4 h4 => ⟨l2, fun t5 h5 => ⟨l5, fun L hL => ?_⟩⟩⟩⟩⟩⟩
        have s1 := same_new (o := .tup [.str "has", .str "a"]) h1
        have s2 := same_new (o := .tup [.str "has", .str "b"]) h2
        have s3 := same_new (o := .tup [.str "is", .str "c", .str "1"]) h3
        have s4 := same_new (o := .tup [.str "class", .str "top"]) h4
        have s5 := same_new (o := .tup [.str "within", .int 3]) h5
        have s6 := same_new (o := .lst [.ref t1, .ref t2, .ref t3, .ref t4, .ref t5]) hL
        have e1 := s6 _ _ (s5 _ _ (s4 _ _ (s3 _ _ (s2 _ _ (upd_same (H := H1) (a := t1) (o := .tup [.str "has", .str "a"]))))))
        have e2 := s6 _ _ (s5 _ _ (s4 _ _ (s3 _ _ (upd_same (a := t2) (o := .tup [.str "has", .str "b"])))))
        have e3 := s6 _ _ (s5 _ _ (s4 _ _ (upd_same (a := t3) (o := .tup [.str "is", .str "c", .str "1"]))))
        have e4 := s6 _ _ (s5 _ _ (upd_same (a := t4) (o := .tup [.str "class", .str "top"])))
        have e5 := s6 _ _ (upd_same (a := t5) (o := .tup [.str "within", .int 3]))
        have eL := upd_same (H := upd (upd (upd (upd (upd H1 t1 (.tup [.str "has", .str "a"])) t2 (.tup [.str "has", .str "b"])) t3 (.tup [.str "is", .str "c", .str "1"])) t4 (.tup [.str "class", .str "top"])) t5 (.tup [.str "within", .int 3])) (a := L) (o := .lst [.ref t1, .ref t2, .ref t3, .ref t4, .ref t5])
        have sm := ((((s1.trans s2).trans s3).trans s4).trans s5).trans s6
        have ndL : L ≠ d := fun z => by
          obtain ⟨x, y, w, e⟩ := m1.2
          have := ((((s1.trans s2).trans s3).trans s4).trans s5) _ _ e
          rw [← z, hL] at this
          cases this
        generalize upd (upd (upd (upd (upd (upd H1 t1 (.tup [.str "has", .str "a"])) t2 (.tup [.str "has", .str "b"])) t3 (.tup [.str "is", .str "c", .str "1"])) t4 (.tup [.str "class", .str "top"])) t5 (.tup [.str "within", .int 3])) L (.lst [.ref t1, .ref t2, .ref t3, .ref t4, .ref t5]) = H2 at e1 e2 e3 e4 e5 eL sm
        have m2 := m1.trans (Moved.same m1.2 sm)
        refine ⟨_, rfl, _, rfl, _, rfl, d, 4, rfl, by decide, by decide, m2.2, fun r H3 r0 r4 m3 => ⟨_, _, rfl, rfl, _, rfl, ?_⟩⟩
        refine ⟨L, _, rfl, SqL.of (m3.1 _ _ ndL eL), fun p hp => ⟨d, p, _, rfl, upd_same, (fun z => by rw [z] at hp; exact absurd rfl (m3.2.ne hp)), cut_ne (by show (1 : Int) ≤ 2 + r; omega) (by simp), Nat.lt_of_le_of_lt (cutV_length _ _ _) (by show (5 : Nat) < 1000000000; decide), (m3.2.same (same_new hp)), fun v H4 hv m4 => ?_⟩⟩
        have mv := mem_cut hv
        have off : ∀ b us, H2 b = some (.tup us) → H4 b = some (.tup us) := fun b us e => tup_off (m3.2.same (same_new (o := .lst (cutV [.ref t1, .ref t2, .ref t3, .ref t4, .ref t5] none (some ((fun i j : Int => i + j) 2 r)))) hp)) m4 _ _ (same_new hp _ _ (tup_off m2.2 m3 _ _ e))
        have big : Moved d H H4 := ((m2.trans m3).trans (Moved.same m3.2 (same_new hp))).trans m4
        simp only [List.mem_cons, List.not_mem_nil, or_false] at mv
        rcases mv with rfl | rfl | rfl | rfl | rfl
        · exact q _ _ (.it (.has "a")) big ⟨t1, rfl, off _ _ e1⟩ (leafW _ (by simp [five]))
        · exact q _ _ (.it (.has "b")) big ⟨t2, rfl, off _ _ e2⟩ (leafW _ (by simp [five]))
        · exact q _ _ (.it (.is "c" "1")) big ⟨t3, rfl, off _ _ e3⟩ (leafW _ (by simp [five]))
        · exact q _ _ (.it (.cls "top")) big ⟨t4, rfl, off _ _ e4⟩ (leafW _ (by simp [five]))
        · exact q _ _ (.it (.within 3)) big ⟨t5, rfl, off _ _ e5⟩ (leafW _ (by simp [five]))
      · rw [decide_eq_false c2]
        refine iteF ?_
        have hn2 : 2 ≤ n := by omega
        obtain ⟨m, rfl⟩ : ∃ m, n = m + 1 := ⟨n - 1, by omega⟩
        obtain rfl := hsp m rfl (by omega)
        have deep1 : (((m + 1 : Nat) : Int) - 1) = (m : Int) := by omega
        have wbs : 1 + wb m ≤ wb (m + 1) := wb_step (by omega) (by omega)
        refine ⟨_, rfl, rfl, _, rfl, ?_⟩
        by_cases c3 : lot = 2
        · rw [show decide (V.int lot = V.int 2) = true from decide_eq_true (by rw [c3])]
          refine iteT ⟨_, rfl, _, rfl, _, _, rfl, rfl, d, ?_, m1.2, fun H2 v g m2 st w => ⟨l2, fun p hp => ?_⟩⟩
          · show [V.ref d, V.int (((m + 1 : Nat) : Int) - 1)] = _
            rw [deep1]
          · refine q _ _ (.no g) ((m1.trans m2).trans (Moved.same m2.2 (same_new hp))) ⟨p, v, rfl, upd_same, st_up (fun b us e => same_new hp _ _ e) g v st⟩ ⟨?_, ?_, fun a ha => w.five a (by rw [itm] at ha; exact ha)⟩
            · have := w.size
              rw [sz]
              omega
            · have := w.deep
              rw [depF]
              omega
        · rw [show decide (V.int lot = V.int 2) = false from decide_eq_false fun z => c3 (V.int.inj z)]
          refine iteF ⟨_, rfl, rfl, _, rfl, ?_⟩
          have none_ : ∀ w : Bool, Wsh (m + 1) (.of w []) := fun w => ⟨by rw [sz_of, szs_nil]; omega, by rw [depF]; simp, fun a ha => by simp [itm] at ha⟩
          by_cases c4 : lot = 3
          · rw [show decide (V.int lot = V.int 3) = true from decide_eq_true (by rw [c4])]
            refine iteT ⟨_, rfl, Nat.zero_le _, fun x1 hx1 => ⟨l2, fun t1 h1 => ⟨Nat.zero_le _, fun x2 hx2 => ⟨l2, fun t2 h2 => ⟨l2, fun L hL => ?_⟩⟩⟩⟩⟩
            have s1 := same_new (o := .tup []) hx1
            have s2 := same_new (o := .tup [.str "and", .ref x1]) h1
            have s3 := same_new (o := .tup []) hx2
            have s4 := same_new (o := .tup [.str "or", .ref x2]) h2
            have s5 := same_new (o := .lst [.ref t1, .ref t2]) hL
            have e1 := s5 _ _ (s4 _ _ (s3 _ _ (s2 _ _ (upd_same (H := H1) (a := x1) (o := .tup [])))))
            have e2 := s5 _ _ (s4 _ _ (s3 _ _ (upd_same (a := t1) (o := .tup [.str "and", .ref x1]))))
            have e3 := s5 _ _ (s4 _ _ (upd_same (a := x2) (o := .tup [])))
            have e4 := s5 _ _ (upd_same (a := t2) (o := .tup [.str "or", .ref x2]))
            have sm := (((s1.trans s2).trans s3).trans s4).trans s5
            have ndL : L ≠ d := fun z => by
              obtain ⟨x, y, w, e⟩ := m1.2
              have := (((s1.trans s2).trans s3).trans s4) _ _ e
              rw [← z, hL] at this
              cases this
            refine ⟨d, L, _, rfl, upd_same, ndL, (by simp), (by show (2 : Nat) < 1000000000; decide), m1.2.same sm, fun v H4 hv m4 => ?_⟩
            have off := tup_off (m1.2.same sm) m4
            have big := (m1.trans (Moved.same m1.2 sm)).trans m4
            simp only [List.mem_cons, List.not_mem_nil, or_false] at hv
            rcases hv with rfl | rfl
            · exact q _ _ (.of true []) big ⟨t1, x1, [], rfl, off _ _ e2, off _ _ e1, rfl⟩ (none_ true)
            · exact q _ _ (.of false []) big ⟨t2, x2, [], rfl, off _ _ e4, off _ _ e3, rfl⟩ (none_ false)
          · rw [show decide (V.int lot = V.int 3) = false from decide_eq_false fun z => c4 (V.int.inj z)]
            refine iteF ⟨_, rfl, _, rfl, _, _, rfl, rfl, _, rfl, ?_⟩
            by_cases c5 : ((m + 1 : Nat) : Int) < 3
            · rw [decide_eq_true c5]
              refine iteT ⟨d, 4, rfl, by decide, by decide, m1.2, fun many H2 y0 y1 m2 => ?_⟩
              have l2' := l2
              refine ⟨_, rfl, _, _, rfl, rfl, _, rfl, ?_⟩
              by_cases c6 : lot < 6
              · rw [decide_eq_true c6]
                refine iteT ⟨_, rfl, many, rfl, by omega, by omega, fun D hD => lc_range (lo := 0) (n := many.toNat) (fun i H' => Moved d H2 H' ∧ ∃ (us : List V) (l : List (F Itm)), H' D = some (.lst us) ∧ StL H' l us ∧ (∀ g ∈ l, Wsh m g) ∧ l.length = i)
                  ⟨Moved.same m2.2 (same_new hD), [], [], upd_same, rfl, (fun _ z => nomatch z), rfl⟩ ?_ ?_⟩
                · rintro i H3 hi ⟨mv, us, l, hL, sl, wl, ei⟩
                  refine ⟨rfl, ?_⟩
                  unfold tYes
                  refine iteT ⟨_, rfl, _, rfl, _, _, rfl, rfl, d, ?_, mv.2, fun H4 v g mv2 st wg => ?_⟩
                  · show [V.ref d, V.int (((m + 1 : Nat) : Int) - 1)] = _
                    rw [deep1]
                  have ndD : D ≠ d := (m2.2.ne hD).symm
                  have hL4 : H4 D = some (.lst us) := mv2.1 _ _ ndD hL
                  have off : ∀ b xs, H4 b = some (.tup xs) → (upd H4 D (.lst (us ++ [v]))) b = some (.tup xs) := fun b xs e => by
                    rw [upd_ne (fun z => by rw [z, hL4] at e; cases e)]
                    exact e
                  refine ⟨us, hL4, by rw [stL_len sl, ei]; exact szl3 (by omega), (mv.trans mv2).back m2.2 hD, us ++ [v], l ++ [g], upd_same, stL_up off _ _ (stL_snoc (stL_up (tup_off mv.2 mv2) _ _ sl) st), fun x hx => ?_, by rw [List.length_append, ei]; rfl⟩
                  rcases List.mem_append.mp hx with hx | hx
                  · exact wl x hx
                  · rw [List.mem_singleton.mp hx]
                    exact wg
                · rintro H3 ⟨mv, us, l, hL, sl, wl, ei⟩
                  refine ⟨D, _, rfl, .inl ⟨SqL.of hL, fun p hp => ⟨l2, fun p2 hp2 => ?_⟩⟩⟩
                  have z1 := same_new (o := .tup us) hp
                  have z2 := same_new (o := .tup [.str (wrd true), .ref p]) hp2
                  refine q _ _ (.of true l) (((m1.trans m2).trans mv).trans (Moved.same mv.2 (z1.trans z2))) ⟨p2, p, us, rfl, upd_same, z2 _ _ upd_same, stL_up (fun b xs e => z2 _ _ (z1 _ _ e)) _ _ sl⟩ ⟨?_, ?_, fun a ha => ?_⟩
                  · have : szs l ≤ l.length * wb m := szs_le fun g hg => (wl g hg).size
                    rw [ei] at this
                    rw [sz_of]
                    have h2 := wb_many (m := m) (k := many.toNat) (by omega) (by omega) (by split <;> omega)
                    omega
                  · rw [depF]
                    have : (l.map fun f => depF f).foldr max 0 ≤ m := foldr_max.mpr fun x hx => by
                      obtain ⟨g, hg, rfl⟩ := List.mem_map.mp hx
                      have := (wl g hg).deep
                      omega
                    omega
                  · rw [itm] at ha
                    obtain ⟨ys, hy, ha⟩ := List.mem_flatten.mp ha
                    obtain ⟨g, hg, rfl⟩ := List.mem_map.mp hy
                    exact (wl g hg).five a ha
              · rw [decide_eq_false c6]
                refine iteF ⟨_, rfl, many, rfl, by omega, by omega, fun D hD => lc_range (lo := 0) (n := many.toNat) (fun i H' => Moved d H2 H' ∧ ∃ (us : List V) (l : List (F Itm)), H' D = some (.lst us) ∧ StL H' l us ∧ (∀ g ∈ l, Wsh m g) ∧ l.length = i)
                  ⟨Moved.same m2.2 (same_new hD), [], [], upd_same, rfl, (fun _ z => nomatch z), rfl⟩ ?_ ?_⟩
                · rintro i H3 hi ⟨mv, us, l, hL, sl, wl, ei⟩
                  refine ⟨rfl, ?_⟩
                  unfold tYes
                  refine iteT ⟨_, rfl, _, rfl, _, _, rfl, rfl, d, ?_, mv.2, fun H4 v g mv2 st wg => ?_⟩
                  · show [V.ref d, V.int (((m + 1 : Nat) : Int) - 1)] = _
                    rw [deep1]
                  have ndD : D ≠ d := (m2.2.ne hD).symm
                  have hL4 : H4 D = some (.lst us) := mv2.1 _ _ ndD hL
                  have off : ∀ b xs, H4 b = some (.tup xs) → (upd H4 D (.lst (us ++ [v]))) b = some (.tup xs) := fun b xs e => by
                    rw [upd_ne (fun z => by rw [z, hL4] at e; cases e)]
                    exact e
                  refine ⟨us, hL4, by rw [stL_len sl, ei]; exact szl3 (by omega), (mv.trans mv2).back m2.2 hD, us ++ [v], l ++ [g], upd_same, stL_up off _ _ (stL_snoc (stL_up (tup_off mv.2 mv2) _ _ sl) st), fun x hx => ?_, by rw [List.length_append, ei]; rfl⟩
                  rcases List.mem_append.mp hx with hx | hx
                  · exact wl x hx
                  · rw [List.mem_singleton.mp hx]
                    exact wg
                · rintro H3 ⟨mv, us, l, hL, sl, wl, ei⟩
                  refine ⟨D, _, rfl, .inl ⟨SqL.of hL, fun p hp => ⟨l2, fun p2 hp2 => ?_⟩⟩⟩
                  have z1 := same_new (o := .tup us) hp
                  have z2 := same_new (o := .tup [.str (wrd false), .ref p]) hp2
                  refine q _ _ (.of false l) (((m1.trans m2).trans mv).trans (Moved.same mv.2 (z1.trans z2))) ⟨p2, p, us, rfl, upd_same, z2 _ _ upd_same, stL_up (fun b xs e => z2 _ _ (z1 _ _ e)) _ _ sl⟩ ⟨?_, ?_, fun a ha => ?_⟩
                  · have : szs l ≤ l.length * wb m := szs_le fun g hg => (wl g hg).size
                    rw [ei] at this
                    rw [sz_of]
                    have h2 := wb_many (m := m) (k := many.toNat) (by omega) (by omega) (by split <;> omega)
                    omega
                  · rw [depF]
                    have : (l.map fun f => depF f).foldr max 0 ≤ m := foldr_max.mpr fun x hx => by
                      obtain ⟨g, hg, rfl⟩ := List.mem_map.mp hx
                      have := (wl g hg).deep
                      omega
                    omega
                  · rw [itm] at ha
                    obtain ⟨ys, hy, ha⟩ := List.mem_flatten.mp ha
                    obtain ⟨g, hg, rfl⟩ := List.mem_map.mp hy
                    exact (wl g hg).five a ha
            · rw [decide_eq_false c5]
              refine iteF ⟨d, 3, rfl, by decide, by decide, m1.2, fun many H2 y0 y1 m2 => ?_⟩
              have l2' := l2
              refine ⟨_, rfl, _, _, rfl, rfl, _, rfl, ?_⟩
              by_cases c6 : lot < 6
              · rw [decide_eq_true c6]
                refine iteT ⟨_, rfl, many, rfl, by omega, by omega, fun D hD => lc_range (lo := 0) (n := many.toNat) (fun i H' => Moved d H2 H' ∧ ∃ (us : List V) (l : List (F Itm)), H' D = some (.lst us) ∧ StL H' l us ∧ (∀ g ∈ l, Wsh m g) ∧ l.length = i)
                  ⟨Moved.same m2.2 (same_new hD), [], [], upd_same, rfl, (fun _ z => nomatch z), rfl⟩ ?_ ?_⟩
                · rintro i H3 hi ⟨mv, us, l, hL, sl, wl, ei⟩
                  refine ⟨rfl, ?_⟩
                  unfold tYes
                  refine iteT ⟨_, rfl, _, rfl, _, _, rfl, rfl, d, ?_, mv.2, fun H4 v g mv2 st wg => ?_⟩
                  · show [V.ref d, V.int (((m + 1 : Nat) : Int) - 1)] = _
                    rw [deep1]
                  have ndD : D ≠ d := (m2.2.ne hD).symm
                  have hL4 : H4 D = some (.lst us) := mv2.1 _ _ ndD hL
                  have off : ∀ b xs, H4 b = some (.tup xs) → (upd H4 D (.lst (us ++ [v]))) b = some (.tup xs) := fun b xs e => by
                    rw [upd_ne (fun z => by rw [z, hL4] at e; cases e)]
                    exact e
                  refine ⟨us, hL4, by rw [stL_len sl, ei]; exact szl3 (by omega), (mv.trans mv2).back m2.2 hD, us ++ [v], l ++ [g], upd_same, stL_up off _ _ (stL_snoc (stL_up (tup_off mv.2 mv2) _ _ sl) st), fun x hx => ?_, by rw [List.length_append, ei]; rfl⟩
                  rcases List.mem_append.mp hx with hx | hx
                  · exact wl x hx
                  · rw [List.mem_singleton.mp hx]
                    exact wg
                · rintro H3 ⟨mv, us, l, hL, sl, wl, ei⟩
                  refine ⟨D, _, rfl, .inl ⟨SqL.of hL, fun p hp => ⟨l2, fun p2 hp2 => ?_⟩⟩⟩
                  have z1 := same_new (o := .tup us) hp
                  have z2 := same_new (o := .tup [.str (wrd true), .ref p]) hp2
                  refine q _ _ (.of true l) (((m1.trans m2).trans mv).trans (Moved.same mv.2 (z1.trans z2))) ⟨p2, p, us, rfl, upd_same, z2 _ _ upd_same, stL_up (fun b xs e => z2 _ _ (z1 _ _ e)) _ _ sl⟩ ⟨?_, ?_, fun a ha => ?_⟩
                  · have : szs l ≤ l.length * wb m := szs_le fun g hg => (wl g hg).size
                    rw [ei] at this
                    rw [sz_of]
                    have h2 := wb_many (m := m) (k := many.toNat) (by omega) (by omega) (by split <;> omega)
                    omega
                  · rw [depF]
                    have : (l.map fun f => depF f).foldr max 0 ≤ m := foldr_max.mpr fun x hx => by
                      obtain ⟨g, hg, rfl⟩ := List.mem_map.mp hx
                      have := (wl g hg).deep
                      omega
                    omega
                  · rw [itm] at ha
                    obtain ⟨ys, hy, ha⟩ := List.mem_flatten.mp ha
                    obtain ⟨g, hg, rfl⟩ := List.mem_map.mp hy
                    exact (wl g hg).five a ha
              · rw [decide_eq_false c6]
                refine iteF ⟨_, rfl, many, rfl, by omega, by omega, fun D hD => lc_range (lo := 0) (n := many.toNat) (fun i H' => Moved d H2 H' ∧ ∃ (us : List V) (l : List (F Itm)), H' D = some (.lst us) ∧ StL H' l us ∧ (∀ g ∈ l, Wsh m g) ∧ l.length = i)
                  ⟨Moved.same m2.2 (same_new hD), [], [], upd_same, rfl, (fun _ z => nomatch z), rfl⟩ ?_ ?_⟩
                · rintro i H3 hi ⟨mv, us, l, hL, sl, wl, ei⟩
                  refine ⟨rfl, ?_⟩
                  unfold tYes
                  refine iteT ⟨_, rfl, _, rfl, _, _, rfl, rfl, d, ?_, mv.2, fun H4 v g mv2 st wg => ?_⟩
                  · show [V.ref d, V.int (((m + 1 : Nat) : Int) - 1)] = _
                    rw [deep1]
                  have ndD : D ≠ d := (m2.2.ne hD).symm
                  have hL4 : H4 D = some (.lst us) := mv2.1 _ _ ndD hL
                  have off : ∀ b xs, H4 b = some (.tup xs) → (upd H4 D (.lst (us ++ [v]))) b = some (.tup xs) := fun b xs e => by
                    rw [upd_ne (fun z => by rw [z, hL4] at e; cases e)]
                    exact e
                  refine ⟨us, hL4, by rw [stL_len sl, ei]; exact szl3 (by omega), (mv.trans mv2).back m2.2 hD, us ++ [v], l ++ [g], upd_same, stL_up off _ _ (stL_snoc (stL_up (tup_off mv.2 mv2) _ _ sl) st), fun x hx => ?_, by rw [List.length_append, ei]; rfl⟩
                  rcases List.mem_append.mp hx with hx | hx
                  · exact wl x hx
                  · rw [List.mem_singleton.mp hx]
                    exact wg
                · rintro H3 ⟨mv, us, l, hL, sl, wl, ei⟩
                  refine ⟨D, _, rfl, .inl ⟨SqL.of hL, fun p hp => ⟨l2, fun p2 hp2 => ?_⟩⟩⟩
                  have z1 := same_new (o := .tup us) hp
                  have z2 := same_new (o := .tup [.str (wrd false), .ref p]) hp2
                  refine q _ _ (.of false l) (((m1.trans m2).trans mv).trans (Moved.same mv.2 (z1.trans z2))) ⟨p2, p, us, rfl, upd_same, z2 _ _ upd_same, stL_up (fun b xs e => z2 _ _ (z1 _ _ e)) _ _ sl⟩ ⟨?_, ?_, fun a ha => ?_⟩
                  · have : szs l ≤ l.length * wb m := szs_le fun g hg => (wl g hg).size
                    rw [ei] at this
                    rw [sz_of]
                    have h2 := wb_many (m := m) (k := many.toNat) (by omega) (by omega) (by split <;> omega)
                    omega
                  · rw [depF]
                    have : (l.map fun f => depF f).foldr max 0 ≤ m := foldr_max.mpr fun x hx => by
                      obtain ⟨g, hg, rfl⟩ := List.mem_map.mp hx
                      have := (wl g hg).deep
                      omega
                    omega
                  · rw [itm] at ha
                    obtain ⟨ys, hy, ha⟩ := List.mem_flatten.mp ha
                    obtain ⟨g, hg, rfl⟩ := List.mem_map.mp hy
                    exact (wl g hg).five a ha
end
end Bw

namespace Bw
open PySem PySem.Spec L2 TL PyProof.Rows Ask

theorem it_not (a : Itm) : decide (V.str (first (.it a)) = V.str "not") = false := decide_eq_false fun z => by
  have z := V.str.inj z
  cases a <;> (simp only [first] at z; exact absurd z (by decide +kernel))
theorem of_not (w : Bool) (l : List (F Itm)) : decide (V.str (first (.of w l)) = V.str "not") = false := decide_eq_false fun z => (wrd_ne w).2.2.2.2 (V.str.inj z)
theorem it_and (a : Itm) : inV (.str (first (.it a))) [.str "and", .str "or"] = false := by
  cases a <;> (simp only [first]; decide +kernel)
theorem of_and (w : Bool) (l : List (F Itm)) : inV (.str (first (.of w l))) [.str "and", .str "or"] = true := by
  cases w <;> (simp only [first, wrd]; decide +kernel)
theorem wrd_and (w : Bool) : decide (V.str (wrd w) = V.str "and") = w := by
  cases w
  · exact decide_eq_false fun z => absurd (V.str.inj z) (by decide +kernel)
  · exact decide_eq_true rfl
section
variable {P : Program} {w : World} {K : PySem.W.Frag} {mg : Str → Option Value} {base : Heap} {f : Addr} {fd : FuncData} {aO : Addr}
theorem ok_law_pushed_step (Fo : Fun K "_law_pushed" "_law_pushed" s_law_pushed f fd) (T : Txt w K mg aO) {k n : Nat} {sp : Sp} (D_law_pushed : Dfn P w K mg base "_law_pushed" k ["_law_wish_here", "_law_is_turned"] sp) (hsp : ∀ m, n = m + 1 → sp = spPushed K m) : FnOk P w K mg base CX0 (k + 1) f fd ["_law_wish_here", "_law_is_turned"] (spPushed K n) := by
  refine Fo.ok sc_law_pushed (fun vs H Q E h => ?_) (fun cdv A outer s H vs Q E hr h => ?_)
  · obtain ⟨g, v, t, rfl, _⟩ := h
    rfl
  · obtain ⟨g, v, t, rfl, ag, hg, few, q⟩ := h
    refine ⟨_, (pss_cons (ps_if (pt_cmpR op_eq (pe_ix (r := rIxT K) ix_tup (pv 0) pe_int (fun _ _ => rfl)) pe_str (nomark _)) (pss_one (ps_ret (pe_d D_law_pushed hr (by first | exact Nat.le_refl _ | decide) (pa_cons (pe_ix (r := rIxT K) ix_tup (pv 0) pe_int (fun _ _ => rfl)) (pa_cons (pe_not (pv 1)) pa_nil))))) pss_nil) (pss_cons (ps_if (pt_cmpR (r := rIn K true) op_notIn_seq (pe_ix (r := rIxT K) ix_tup (pv 0) pe_int (fun _ _ => rfl)) (pe_tup (pa_cons pe_str (pa_cons pe_str pa_nil))) rfl) (pss_one (ps_ret (pe_ifExp (pt_val (pv 1)) (pe_tup (pa_cons pe_str (pa_cons (pv 0) pa_nil))) (pv 0)))) pss_nil) (pss_cons (ps_set (i := 2) sc_law_pushed.nd rfl (Or.inl rfl) (pe_ifExp (pt_not (pt_val (pv 1))) (pe_ix (r := rIxT K) ix_tup (pv 0) pe_int (fun _ _ => rfl)) (pe_ifExp (pt_cmpR op_eq (pe_ix (r := rIxT K) ix_tup (pv 0) pe_int (fun _ _ => rfl)) pe_str (nomark _)) pe_str pe_str))) (pss_one (ps_ret (pe_tup (pa_cons (pv 2) (pa_cons (pe_callTy call_tuple_of (by rfl) T.b_tuple (by decide +kernel) (pa_cons (pe_lc (own := [("_law_one", 3)]) (g := gName 3) (by rfl) sc_law_pushed.nd (pi_tup (pe_ix (r := rIxT K) ix_tup (pv 0) pe_int (fun _ _ => rfl))) (blkOk_by (own := [("_law_one", 3)]) (N := n_law_pushed) (sc := defScope s_law_pushed) (by decide +kernel)) (fun _ _ _ _ _ => pg_name (i := 3) sc_law_pushed.nd rfl (Or.inl rfl)) (fun _ _ _ _ _ => pts_nil) (fun _ _ _ _ _ => (pe_d D_law_pushed hr (by first | exact Nat.le_refl _ | decide) (pa_cons (pv 3) (pa_cons (pv 1) pa_nil))))) pa_nil)) pa_nil)))))))), ?_⟩
    obtain ⟨b, xs, rfl, sq⟩ := ag.word
    have l2 : (2 : Nat) ≤ sizeLine := by decide
    refine ⟨_, rfl, b, _, _, _, rfl, rfl, sq, atI_nat (j := 0) rfl, rfl, _, rfl, ?_⟩
    match g, hg, few, ag, sq, q with
    | .it a, hg, few, ag, sq, q =>
      rw [it_not]
      refine iteF ⟨_, rfl, b, _, _, _, rfl, rfl, sq, atI_nat (j := 0) rfl, l2, fun p hp => ⟨p, _, rfl, .inr (SqT.of upd_same), rfl, rfl, _, rfl, ?_⟩⟩
      have s1 := same_new (o := .tup [.str "and", .str "or"]) hp
      show if (!inV (.str (first (.it a))) [.str "and", .str "or"]) = true then _ else _
      rw [it_and]
      refine iteT ⟨_, rfl, t, rfl, ?_⟩
      cases t with
      | true =>
        refine iteT ⟨_, rfl, l2, fun p2 hp2 => q _ _ (s1.trans (same_new hp2)) ?_⟩
        rw [pushed, if_pos rfl]
        exact AtF.mk_no (SqT.of upd_same) ((ag.up s1).up (same_new hp2))
      | false =>
        refine iteF ⟨_, rfl, q _ _ s1 ?_⟩
        rw [pushed, if_neg Bool.false_ne_true]
        exact ag.up s1
    | .no g2, .no hg2, .no few2, ag, sq, q =>
      obtain ⟨b2, u, e3, sq2, ag2⟩ := ag.no
      cases e3
      obtain rfl := hsp _ rfl
      refine iteT ⟨_, rfl, b, _, _, _, rfl, rfl, sq2, atI_nat (j := 1) rfl, _, rfl, _, rfl, g2, u, !t, rfl, ag2, hg2, few2, fun H2 u2 sm au => q H2 u2 sm ?_⟩
      rw [pushed]
      exact au
    | .of v l, .of _ hg2, .of _ few2 many, ag, sq, q =>
      obtain ⟨b2, c2, us, e3, sq2, sqc, al⟩ := ag.of
      cases e3
      obtain rfl := hsp _ rfl
      rw [of_not]
      refine iteF ⟨_, rfl, b, _, _, _, rfl, rfl, sq, atI_nat (j := 0) rfl, l2, fun p hp => ⟨p, _, rfl, .inr (SqT.of upd_same), rfl, rfl, _, rfl, ?_⟩⟩
      have s1 := same_new (o := .tup [.str "and", .str "or"]) hp
      show if (!inV (.str (first (.of v l))) [.str "and", .str "or"]) = true then _ else _
      rw [of_and]
      refine iteF ⟨_, rfl, _, rfl, ?_⟩
      obtain ⟨zs, z1, z2, z3⟩ := al.zip
      subst z1
      have zl : zs.length ≤ 1000 := by
        rw [z2, List.length_map] at many
        exact many
      have inl : ∀ z ∈ zs, z.2 ∈ l := fun z hz => by
        rw [z2]
        exact List.mem_map.mpr ⟨z, hz, rfl⟩
      have sq3 := sqT_up s1 sq2
      have sqc3 := sqT_up s1 sqc
      have z4 : ∀ z ∈ zs, AtF K (upd H p (.tup [.str "and", .str "or"])) z.1 z.2 := fun z hz => (z3 z hz).up s1
      generalize upd H p (.tup [.str "and", .str "or"]) = H1 at *
      cases t with
      | false =>
        refine iteT ⟨_, rfl, b, _, _, _, rfl, rfl, sq3, atI_nat (j := 0) rfl, ?_⟩
        refine ⟨_, rfl, _, rfl, b, _, _, _, rfl, rfl, sq3, atI_nat (j := 1) rfl, c2, rfl, ⟨_, sqc3⟩, fun D0 hD0 => lc_gen (xs := zs) (val := Prod.fst) (walk_tup (K := K) (a := c2) (xs := zs.map Prod.fst)) (fun _ => true) _ (keepR_F (K := K) fun z : V × F Itm => pushed z.2 false) hD0 zl (fun H5 s5 => sqT_up s5 sqc3) ?_ ?_⟩
        · intro z H5 N Y hzm s5 _ _ yes
          refine ⟨rfl, ?_⟩
          unfold tYes
          exact iteT ⟨_, rfl, _, rfl, z.2, z.1, false, rfl, (z4 z hzm).up s5, hg2 _ (inl z hzm), few2 _ (inl z hzm), fun H6 u6 sm au => yes rfl H6 u6 sm au⟩
        · intro H5 ys s5 hys hpr
          rw [filter_all] at hpr
          have aly := atL_paired hpr
          refine ⟨D0, ys, rfl, .inl ⟨SqL.of hys, fun l2 hl2 => ⟨(by show 2 ≤ sizeLine; decide), fun p2 hp2 => q _ _ (((s1.trans s5).trans (same_new hl2)).trans (same_new hp2)) ?_⟩⟩⟩
          rw [pushed, show (v != false) = v by cases v <;> rfl]
          refine AtF.mk_of (SqT.of upd_same) (SqT.of ((same_new hp2) _ _ upd_same)) ?_
          rw [z2, List.map_map]
          exact (aly.up (same_new hl2)).up (same_new hp2)
      | true =>
        refine iteF ⟨_, rfl, b, _, _, _, rfl, rfl, sq3, atI_nat (j := 0) rfl, rfl, _, rfl, ?_⟩
        rw [wrd_and]
        cases v with
        | true =>
          refine iteT ?_
          refine ⟨_, rfl, _, rfl, b, _, _, _, rfl, rfl, sq3, atI_nat (j := 1) rfl, c2, rfl, ⟨_, sqc3⟩, fun D0 hD0 => lc_gen (xs := zs) (val := Prod.fst) (walk_tup (K := K) (a := c2) (xs := zs.map Prod.fst)) (fun _ => true) _ (keepR_F (K := K) fun z : V × F Itm => pushed z.2 true) hD0 zl (fun H5 s5 => sqT_up s5 sqc3) ?_ ?_⟩
          · intro z H5 N Y hzm s5 _ _ yes
            refine ⟨rfl, ?_⟩
            unfold tYes
            exact iteT ⟨_, rfl, _, rfl, z.2, z.1, true, rfl, (z4 z hzm).up s5, hg2 _ (inl z hzm), few2 _ (inl z hzm), fun H6 u6 sm au => yes rfl H6 u6 sm au⟩
          · intro H5 ys s5 hys hpr
            rw [filter_all] at hpr
            have aly := atL_paired hpr
            refine ⟨D0, ys, rfl, .inl ⟨SqL.of hys, fun l2 hl2 => ⟨(by show 2 ≤ sizeLine; decide), fun p2 hp2 => q _ _ (((s1.trans s5).trans (same_new hl2)).trans (same_new hp2)) ?_⟩⟩⟩
            rw [pushed]
            refine AtF.mk_of (SqT.of upd_same) (SqT.of ((same_new hp2) _ _ upd_same)) ?_
            rw [z2, List.map_map]
            exact (aly.up (same_new hl2)).up (same_new hp2)
        | false =>
          refine iteF ?_
          refine ⟨_, rfl, _, rfl, b, _, _, _, rfl, rfl, sq3, atI_nat (j := 1) rfl, c2, rfl, ⟨_, sqc3⟩, fun D0 hD0 => lc_gen (xs := zs) (val := Prod.fst) (walk_tup (K := K) (a := c2) (xs := zs.map Prod.fst)) (fun _ => true) _ (keepR_F (K := K) fun z : V × F Itm => pushed z.2 true) hD0 zl (fun H5 s5 => sqT_up s5 sqc3) ?_ ?_⟩
          · intro z H5 N Y hzm s5 _ _ yes
            refine ⟨rfl, ?_⟩
            unfold tYes
            exact iteT ⟨_, rfl, _, rfl, z.2, z.1, true, rfl, (z4 z hzm).up s5, hg2 _ (inl z hzm), few2 _ (inl z hzm), fun H6 u6 sm au => yes rfl H6 u6 sm au⟩
          · intro H5 ys s5 hys hpr
            rw [filter_all] at hpr
            have aly := atL_paired hpr
            refine ⟨D0, ys, rfl, .inl ⟨SqL.of hys, fun l2 hl2 => ⟨(by show 2 ≤ sizeLine; decide), fun p2 hp2 => q _ _ (((s1.trans s5).trans (same_new hl2)).trans (same_new hp2)) ?_⟩⟩⟩
            rw [pushed]
            refine AtF.mk_of (SqT.of upd_same) (SqT.of ((same_new hp2) _ _ upd_same)) ?_
            rw [z2, List.map_map]
            exact (aly.up (same_new hl2)).up (same_new hp2)
end
end Bw

namespace Bw
open PySem PySem.Spec L2 TL PyProof.Rows Ask

def rNotInT (K : PySem.W.Frag) : R2 := fun x y H Q => ∃ d ds, Dp K H x d ∧ Dp K H y (.tuple ds) ∧ SeqAt.shaped d = true ∧ SeqAt.shaped (.tuple ds) = true ∧ Q (.bl (!ds.any fun z => PyData.eqv z d)) H
section
variable {X : Cx}
theorem op_notInT (hu : X.A.units + 65 < cLine) : OpR X (compareOp .NotIn) (rNotInT X.K) := by
  rintro pins s σ H x y v u Q I rx ry ⟨d, ds, hd, he, sd, se, q⟩
  obtain ⟨as, r1⟩ := Dp.reads I d x v hd rx
  obtain ⟨bs, r2⟩ := Dp.reads I (.tuple ds) y u he ry
  exact SeqAt.notIn_tuple_reads r2 r1 (SeqAt.canLay_of_shaped se) (SeqAt.canLay_of_shaped sd) (room_in_shaped sd hu) ⟨.bl _, H, I, rfl, q⟩
end
section
variable {P : Program} {w : World} {K : PySem.W.Frag} {mg : Str → Option Value} {base : Heap} {f : Addr} {fd : FuncData} {aO : Addr}
theorem ok_law_parts_step (Fo : Fun K "_law_parts" "_law_parts" s_law_parts f fd) (T : Txt w K mg aO) {k n : Nat} {sp : Sp} (D_law_parts : Dfn P w K mg base "_law_parts" k ["_law_wish_here"] sp) (hsp : ∀ m, n = m + 1 → sp = spMP K m) : FnOk P w K mg base CX0 (k + 1) f fd ["_law_wish_here"] (spMP K n) := by
  refine Fo.ok sc_law_parts (fun vs H Q E h => ?_) (fun cdv A outer s H vs Q E hr h => ?_)
  · obtain ⟨g, v, rfl, _⟩ := h
    rfl
  · obtain ⟨g, v, rfl, ag, hg, hz, q⟩ := h
    refine ⟨_, (pss_cons (ps_if (pt_cmpR op_eq (pe_ix (r := rIxT K) ix_tup (pv 0) pe_int (fun _ _ => rfl)) pe_str (nomark _)) (pss_one (ps_ret (pe_op op_add pe_int (pe_d D_law_parts hr (by first | exact Nat.le_refl _ | decide) (pa_cons (pe_ix (r := rIxT K) ix_tup (pv 0) pe_int (fun _ _ => rfl)) pa_nil))))) pss_nil) (pss_one (ps_ret (pe_ifExp (pt_cmpR (r := rIn K false) op_in_seq (pe_ix (r := rIxT K) ix_tup (pv 0) pe_int (fun _ _ => rfl)) (pe_tup (pa_cons pe_str (pa_cons pe_str pa_nil))) rfl) (pe_op op_add pe_int (pe_callB (r := rSum K) (cr_sum rfl) (by rfl) T.b_sum (by decide +kernel) (pa_cons (pe_lc (own := [("_law_one", 1)]) (g := gName 1) (by rfl) sc_law_parts.nd (pi_tup (pe_ix (r := rIxT K) ix_tup (pv 0) pe_int (fun _ _ => rfl))) (blkOk_by (own := [("_law_one", 1)]) (N := n_law_parts) (sc := defScope s_law_parts) (by decide +kernel)) (fun _ _ _ _ _ => pg_name (i := 1) sc_law_parts.nd rfl (Or.inl rfl)) (fun _ _ _ _ _ => pts_nil) (fun _ _ _ _ _ => (pe_d D_law_parts hr (by first | exact Nat.le_refl _ | decide) (pa_cons (pv 1) pa_nil)))) pa_nil))) pe_int)))), ?_⟩
    obtain ⟨b, xs, rfl, sq⟩ := ag.word
    have l2 : (2 : Nat) ≤ sizeLine := by decide
    refine ⟨_, rfl, b, _, _, _, rfl, rfl, sq, atI_nat (j := 0) rfl, rfl, _, rfl, ?_⟩
    match g, hg, hz, ag, sq, q with
    | .it a, hg, hz, ag, sq, q =>
      rw [it_not]
      refine iteF ⟨_, rfl, b, _, _, _, rfl, rfl, sq, atI_nat (j := 0) rfl, l2, fun p hp => ⟨p, _, rfl, .inr (SqT.of upd_same), rfl, rfl, _, rfl, ?_⟩⟩
      have s1 := same_new (o := .tup [.str "and", .str "or"]) hp
      show if (inV (.str (first (.it a))) [.str "and", .str "or"]) = true then _ else _
      rw [it_and]
      have := q _ s1
      rw [sz] at this
      exact iteF this
    | .no g2, .no hg2, hz, ag, sq, q =>
      obtain ⟨b2, u, e3, sq2, ag2⟩ := ag.no
      cases e3
      obtain rfl := hsp _ rfl
      refine iteT ⟨_, rfl, b, _, _, _, rfl, rfl, sq2, atI_nat (j := 1) rfl, g2, u, rfl, ag2, hg2, by rw [sz] at hz; omega, fun H1 s1 => ⟨_, _, rfl, rfl, ?_⟩⟩
      have := q H1 s1
      rw [sz] at this
      show Q (.int (1 + (sz g2 : Int))) H1
      rw [show (1 + (sz g2 : Int)) = ((sz g2 + 1 : Nat) : Int) by omega]
      exact this
    | .of v l, .of _ hg2, hz, ag, sq, q =>
      obtain ⟨b2, c2, us, e3, sq2, sqc, al⟩ := ag.of
      cases e3
      obtain rfl := hsp _ rfl
      rw [of_not]
      refine iteF ⟨_, rfl, b, _, _, _, rfl, rfl, sq, atI_nat (j := 0) rfl, l2, fun p hp => ⟨p, _, rfl, .inr (SqT.of upd_same), rfl, rfl, _, rfl, ?_⟩⟩
      have s1 := same_new (o := .tup [.str "and", .str "or"]) hp
      show if (inV (.str (first (.of v l))) [.str "and", .str "or"]) = true then _ else _
      rw [of_and]
      obtain ⟨zs, z1, z2, z3⟩ := al.zip
      subst z1
      have inl : ∀ z ∈ zs, z.2 ∈ l := fun z hz => by
        rw [z2]
        exact List.mem_map.mpr ⟨z, hz, rfl⟩
      have hz1 : szs l ≤ 999 := by
        rw [sz_of] at hz
        omega
      have zl : zs.length ≤ 1000 := by
        have := len_szs l
        rw [z2, List.length_map] at this
        rw [z2] at hz1
        omega
      have sq3 := sqT_up s1 sq2
      have sqc3 := sqT_up s1 sqc
      have z4 : ∀ z ∈ zs, AtF K (upd H p (.tup [.str "and", .str "or"])) z.1 z.2 := fun z hz => (z3 z hz).up s1
      generalize upd H p (.tup [.str "and", .str "or"]) = H1 at *
      refine iteT ⟨_, rfl, b, _, _, _, rfl, rfl, sq3, atI_nat (j := 1) rfl, c2, rfl, ⟨_, sqc3⟩, fun D0 hD0 => lc_gen (xs := zs) (val := Prod.fst) (walk_tup (K := K) (a := c2) (xs := zs.map Prod.fst)) (fun _ => true) _ (keepR_val fun z : V × F Itm => V.int (sz z.2)) hD0 zl (fun H5 s5 => sqT_up s5 sqc3) ?_ ?_⟩
      · intro z H5 N Y hzm s5 _ _ yes
        refine ⟨rfl, ?_⟩
        unfold tYes
        refine iteT ⟨_, rfl, z.2, z.1, rfl, (z4 z hzm).up s5, hg2 _ (inl z hzm), ?_, fun H6 s6 => yes rfl H6 _ s6 rfl⟩
        have := szs_mem (inl z hzm)
        omega
      · intro H5 ys s5 hys hpr
        rw [filter_all] at hpr
        have ey := paired_map hpr
        have em : ys = (zs.map fun z => (sz z.2 : Int)).map V.int := by
          rw [ey, List.map_map]
          rfl
        refine ⟨D0, _, rfl, em ▸ SqL.of hys, _, _, rfl, rfl, ?_⟩
        have es : (1 + ((zs.map fun z => (sz z.2 : Int)).sum)) = ((sz (.of v l) : Nat) : Int) := by
          have go : ∀ l : List (V × F Itm), (l.map fun z => (sz z.2 : Int)).sum = ((szs (l.map Prod.snd) : Nat) : Int) := fun l => by
            induction l with
            | nil => rfl
            | cons x l ih =>
              rw [List.map_cons, List.sum_cons, ih, List.map_cons, szs_cons]
              omega
          rw [go, sz_of, z2]
          omega
        show Q (.int (1 + ((zs.map fun z => (sz z.2 : Int)).sum))) H5
        rw [es]
        exact q _ (s1.trans s5)
def spSays (K : PySem.W.Frag) : Sp := fun vs H Q _ => ∃ (i : Bool) (m : F Itm) (v : V) (a : Addr) (us : List V) (l : List (F Itm)) (n : Nat), vs = [.str (wrd i), v, .ref a] ∧ AtF K H v m ∧ H a = some (.lst us) ∧ AtL K H us l ∧ Ok m ∧ Hg n m ∧ (∀ f ∈ l, Ok f) ∧ (∀ f ∈ l, Hg n f) ∧ n ≤ 29 ∧ sz m ≤ 1000 ∧ (∀ f ∈ l, sz f ≤ 1000) ∧
  ∀ H', Same H H' → Q (.bl (says i m l)) H'
/-- an other that says no less -/
def saysOne (i : Bool) (rm : List (F Itm)) (o : F Itm) : Prop := o ∈ rm ∨ ∃ rs, o = .of i rs ∧ ∀ r ∈ rs, r ∈ rm
theorem says_of {i : Bool} {rm l : List (F Itm)} : says i (.of i rm) l = true ↔ ∃ o ∈ l, saysOne i rm o := by
  unfold says saysOne
  simp only [beq_self_eq_true, Bool.true_and, List.any_eq_true, Bool.or_eq_true, decide_eq_true_eq]
  constructor
  · rintro ⟨o, ho, q | q⟩
    · exact ⟨o, ho, .inl q⟩
    · cases o with
      | it a => exact nomatch q
      | no f => exact nomatch q
      | of u rs =>
        simp only [Bool.and_eq_true, List.isEmpty_iff, List.filter_eq_nil_iff, decide_eq_true_eq, Classical.not_not] at q
        exact ⟨_, ho, .inr ⟨rs, by rw [eq_of_beq q.1], q.2⟩⟩
  · rintro ⟨o, ho, q | ⟨rs, rfl, q⟩⟩
    · exact ⟨o, ho, .inl q⟩
    · refine ⟨_, ho, .inr ?_⟩
      simp only [Bool.and_eq_true, List.isEmpty_iff, List.filter_eq_nil_iff, decide_eq_true_eq, Classical.not_not]
      exact ⟨beq_self_eq_true _, q⟩
theorem ok_law_says_nothing (Fo : Fun K "_law_says_nothing" "_law_says_nothing" s_law_says_nothing f fd) (T : Txt w K mg aO) : FnOk P w K mg base CX0 1 f fd ["_law_word", "_law_one", "_law_others"] (spSays K) := by
  refine Fo.ok sc_law_says_nothing (fun vs H Q E h => ?_) (fun cdv A outer s H vs Q E hr h => ?_)
  · obtain ⟨i, m, v, a, us, l, n, rfl, _⟩ := h
    rfl
  · obtain ⟨i, m, v, a, us, l, n, rfl, am, ha, al, okm, hgm, ok, hg, hn, hzm, hz, q⟩ := h
    have hu5 : (A.deeper (envOfC "_law_says_nothing" (defScope s_law_says_nothing) s.heap.objs.size f cdv)).units + 65 < cLine := by
      have := hr.un
      omega
    refine ⟨_, (pss_cons (ps_if (pt_cmpR op_ne (pe_ix (r := rIxT K) ix_tup (pv 1) pe_int (fun _ _ => rfl)) (pv 0) (nomark _)) (pss_one (ps_ret pe_bl)) pss_nil) (pss_cons (ps_for PassesOwn.never rfl (pi_list (pv 2)) (pg_name (i := 3) sc_law_says_nothing.nd rfl (Or.inl rfl)) (pss_one (ps_if (PW.pt (pw_or (pt_cmpR (r := rInT K) (op_inT hu5) (pv 3) (pe_ix (r := rIxT K) ix_tup (pv 1) pe_int (fun _ _ => rfl)) rfl) (pw_or1 (PW.pt (pw_and (pt_cmpR op_eq (pe_ix (r := rIxT K) ix_tup (pv 3) pe_int (fun _ _ => rfl)) (pv 0) (nomark _)) (pw_and1 (pt_cmpR (r := rEqNil K) (op_eqNil hr.units0) (pe_lc (own := [("_law_part", 4)]) (g := gName 4) (by rfl) sc_law_says_nothing.nd (pi_tup (pe_ix (r := rIxT K) ix_tup (pv 3) pe_int (fun _ _ => rfl))) (blkOk_by (own := [("_law_part", 4)]) (N := n_law_says_nothing) (sc := defScope s_law_says_nothing) (by decide +kernel)) (fun _ _ _ _ _ => pg_name (i := 4) sc_law_says_nothing.nd rfl (Or.inl rfl)) (fun _ _ _ _ _ => (pts_one (pt_cmpR (r := rNotInT K) (op_notInT hu5) (pv 4) (pe_ix (r := rIxT K) ix_tup (pv 1) pe_int (fun _ _ => rfl)) rfl))) (fun _ _ _ _ _ => (pv 4))) (pe_lst pa_nil) (nomark _)))))))) (pss_one (ps_ret pe_bl)) pss_nil))) (pss_one (ps_ret pe_bl)))), ?_⟩
    obtain ⟨b, xs, rfl, sq⟩ := am.word
    refine ⟨_, rfl, b, _, _, _, rfl, rfl, sq, atI_nat (j := 0) rfl, _, rfl, rfl, _, rfl, ?_⟩
    by_cases e : first m = wrd i
    · rw [show decide (V.str (first m) = V.str (wrd i)) = true from decide_eq_true (by rw [e])]
      obtain ⟨rm, rfl⟩ := root_of e
      obtain ⟨b2, t, rs, e3, sq2, st, ar⟩ := am.of
      cases e3
      refine iteF ⟨_, rfl, a, rfl, ⟨_, SqL.of ha⟩, for_list (K := K) (a := a) (xs := us) (fun j σ H2 => ∃ (o3 o4 : Option V), σ = [some (.str (wrd i)), some (.ref b), some (.ref a), o3, o4] ∧ Same H H2 ∧ ∀ o ∈ l.take j, ¬ saysOne i rm o)
        ⟨_, _, rfl, Same.refl H, fun _ z => nomatch z⟩ (fun j σ H2 _ h => by
          obtain ⟨_, _, _, sm, _⟩ := h
          exact SqL.of (sm _ _ ha)) ?_ ?_⟩
      · rintro j x σ H2 hj ⟨o3, o4, rfl, sm, before⟩
        obtain ⟨o, hoj, ao⟩ := (al.up sm).at_ j x hj
        have om : o ∈ l := List.mem_of_getElem? hoj
        have step : l.take (j + 1) = l.take j ++ [o] := by
          rw [List.take_add_one, hoj]
          rfl
        have next : ¬ saysOne i rm o → ∀ x ∈ l.take (j + 1), ¬ saysOne i rm x := fun no x hx => by
          rw [step] at hx
          rcases List.mem_append.mp hx with hx | hx
          · exact before x hx
          · rw [List.mem_singleton.mp hx]
            exact no
        have okm2 : ∀ r ∈ rm, Ok r := by
          have := okm.rows (w := i)
          rwa [rowsOf_of] at this
        have hgm2 : ∀ r ∈ rm, Hg n r := by
          have := hgm.rows (w := i)
          rwa [rowsOf_of] at this
        have ret : ∀ H4, Same H H4 → saysOne i rm o → Q (.bl true) H4 := fun H4 s4 z => by
          have := q H4 s4
          rwa [says_of.mpr ⟨o, om, z⟩] at this
        obtain ⟨b3, t3, rs3, e4, sq4, st4, ar4⟩ := (am.up sm).of
        cases e4
        refine ⟨_, rfl, _, rfl, b, _, _, _, rfl, rfl, sq4, atI_nat (j := 1) rfl, ?_⟩
        refine ⟨enc o, _, ao, .tup st4 ar4, shd_enc (ok o om) (hg o om) (by omega), shd_tup okm2 hgm2 (by omega), ?_⟩
        rw [any_enc]
        refine ⟨_, rfl, ?_⟩
        by_cases hin : o ∈ rm
        · rw [decide_eq_true hin]
          exact iteT (iteT (ret H2 sm (.inl hin)))
        · rw [decide_eq_false hin]
          obtain ⟨bo, xo, rfl, sqo⟩ := ao.word
          refine iteF ⟨_, rfl, bo, _, _, _, rfl, rfl, sqo, atI_nat (j := 0) rfl, _, rfl, rfl, _, rfl, ?_⟩
          by_cases e2 : first o = wrd i
          · obtain ⟨rows, rfl⟩ := root_of e2
            obtain ⟨bb, t2, ro, e5, sq5, st5, ar5⟩ := ao.of
            cases e5
            rw [show decide (V.str (first (.of i rows)) = V.str (wrd i)) = true from decide_eq_true (by rw [e2])]
            have okr : ∀ r ∈ rows, Ok r := by
              have := (ok _ om).rows (w := i)
              rwa [rowsOf_of] at this
            have hgr : ∀ r ∈ rows, Hg n r := by
              have := (hg _ om).rows (w := i)
              rwa [rowsOf_of] at this
            obtain ⟨zs, z1, z2, z3⟩ := ar5.zip
            subst z1
            have zl : zs.length ≤ 1000 := by
              have h1 := hz _ om
              have h2 := len_szs rows
              rw [sz_of] at h1
              rw [z2, List.length_map] at h2
              rw [z2] at h1
              omega
            refine iteT ⟨_, rfl, bo, _, _, _, rfl, rfl, sq5, atI_nat (j := 1) rfl, t2, rfl, ⟨_, st5⟩, fun D0 hD0 => lc_gen (xs := zs) (val := Prod.fst) (walk_tup (K := K) (a := t2) (xs := zs.map Prod.fst)) (fun z => decide (z.2 ∉ rm)) _ (keepR_F (K := K) fun z : V × F Itm => z.2) hD0 zl (fun H5 s5 => sqT_up s5 st5) ?_ ?_⟩
            · intro z H5 N Y hzm s5 _ no yes
              have azr := (z3 z hzm).up s5
              have zr : z.2 ∈ rows := by
                rw [z2]
                exact List.mem_map.mpr ⟨z, hzm, rfl⟩
              obtain ⟨b6, t6, rs6, e6, sq6, st6, ar6⟩ := ((am.up sm).up s5).of
              cases e6
              refine ⟨rfl, _, rfl, _, rfl, b, _, _, _, rfl, rfl, sq6, atI_nat (j := 1) rfl, ?_⟩
              refine ⟨enc z.2, _, azr, .tup st6 ar6, shd_enc (okr _ zr) (hgr _ zr) (by omega), shd_tup okm2 hgm2 (by omega), ?_⟩
              rw [any_enc]
              refine ⟨_, rfl, ?_⟩
              by_cases hz2 : z.2 ∈ rm
              · rw [decide_eq_true hz2]
                exact iteF (no (decide_eq_false fun z => z hz2) H5 (Same.refl H5))
              · rw [decide_eq_false hz2]
                exact iteT ⟨_, rfl, yes (decide_eq_true hz2) H5 _ (Same.refl H5) azr⟩
            · intro H5 ys s5 hys hpr
              have ly := hpr.length
              refine ⟨(by show 0 ≤ sizeLine; decide), fun p hp => ?_⟩
              have s6 := same_new (o := .lst []) hp
              refine ⟨D0, p, ys, rfl, rfl, SqL.of (s6 _ _ hys), SqL.of upd_same, _, rfl, ?_⟩
              by_cases em : ∀ r ∈ rows, r ∈ rm
              · have : ys = [] := List.length_eq_zero_iff.mp (by
                  rw [← ly, List.length_eq_zero_iff, List.filter_eq_nil_iff]
                  intro z hz2
                  rw [decide_eq_true_eq, Classical.not_not]
                  exact em _ (by rw [z2]; exact List.mem_map.mpr ⟨z, hz2, rfl⟩))
                rw [this]
                refine iteT ?_
                exact ret _ ((sm.trans s5).trans s6) (.inr ⟨rows, rfl, em⟩)
              · have : ys ≠ [] := fun z => em fun r hr => by
                  rw [z, List.length_nil, List.length_eq_zero_iff, List.filter_eq_nil_iff] at ly
                  rw [z2] at hr
                  obtain ⟨y, hy, rfl⟩ := List.mem_map.mp hr
                  have := ly y hy
                  rwa [decide_eq_true_eq, Classical.not_not] at this
                rw [show ys.isEmpty = false by cases ys with | nil => exact absurd rfl this | cons a b => rfl]
                refine iteF ⟨_, _, rfl, (sm.trans s5).trans s6, next fun z => ?_⟩
                rcases z with z | ⟨rs, z, w⟩
                · exact hin z
                · cases z
                  exact em w
          · rw [show decide (V.str (first o) = V.str (wrd i)) = false from decide_eq_false fun z => e2 (V.str.inj z)]
            refine iteF (iteF ⟨_, _, rfl, sm, next fun z => ?_⟩)
            rcases z with z | ⟨rs, z, _⟩
            · exact hin z
            · exact e2 (by rw [z]; rfl)
      · rintro σ H2 ⟨o3, o4, rfl, sm, before⟩
        rw [List.take_of_length_le (Nat.le_of_eq al.len.symm)] at before
        have no : says i (.of i rm) l = false := by
          rw [Bool.eq_false_iff]
          intro z
          obtain ⟨o, ho, h1⟩ := says_of.mp z
          exact before o ho h1
        have := q H2 sm
        rw [no] at this
        exact this
    · rw [show decide (V.str (first m) = V.str (wrd i)) = false from decide_eq_false fun z => e (V.str.inj z)]
      refine iteT ?_
      have no : says i m l = false := by
        cases m with
        | it a => rfl
        | no f => rfl
        | of v rows =>
          unfold says
          have : (v == i) = false := by
            rw [beq_eq_false_iff_ne]
            exact fun z => e (by rw [z]; rfl)
          dsimp only
          rw [this]
          rfl
      have := q H (Same.refl H)
      rw [no] at this
      exact this
end
end Bw

namespace Bw
open PySem PySem.Spec L2 TL PyProof.Rows Ask

def spLPut (K : PySem.W.Frag) (n : Nat) : Sp := fun vs H Q _ => ∃ (f : F Itm) (v : V), vs = [v] ∧ AtF K H v f ∧ Psh f ∧ Ok f ∧ Hg n f ∧ n ≤ 29 ∧ sz f ≤ 1000 ∧ ∀ H' u, Same H H' → AtF K H' u (put leF f) → Q u H'
/-- all but one list stays -/
def Off (p : Addr) (H H' : Hp) : Prop := ∀ b u, b ≠ p → H b = some u → H' b = some u
theorem Off.refl (p : Addr) (H : Hp) : Off p H H := fun _ _ _ h => h
theorem Off.trans {p : Addr} {H H1 H2 : Hp} (a : Off p H H1) (b : Off p H1 H2) : Off p H H2 := fun c u n h => b c u n (a c u n h)
theorem Off.same {p : Addr} {H H1 : Hp} (h : Same H H1) : Off p H H1 := fun b u _ e => h b u e
theorem Off.set {p : Addr} {H : Hp} {o : HO} : Off p H (upd H p o) := fun _ _ n e => (upd_ne n).trans e
theorem Off.up {p : Addr} {H H1 : Hp} (a : Off p H H1) {G : Hp} (s : Same G H) (n : G p = none) : Same G H1 := fun b u e => a b u (fun z => by rw [z, n] at e; cases e) (s b u e)
theorem Ask.AtF.off {K : PySem.W.Frag} {H H2 : Hp} {p : Addr} {o : List V} {v : V} {f : F Itm} (h : AtF K H v f) (hp : H p = some (.lst o)) (k : Off p H H2) : AtF K H2 v f := dp_off hp k _ _ (tame_enc f) h
theorem Ask.AtL.off {K : PySem.W.Frag} {H H2 : Hp} {p : Addr} {o : List V} {vs : List V} {l : List (F Itm)} (h : AtL K H vs l) (hp : H p = some (.lst o)) (k : Off p H H2) : AtL K H2 vs l := dpAll_off hp k _ _ (tame_map l) h
theorem iteW {v : Bool} {Q : V → Hp → Prop} {σ : L2.St} {H : Hp} (h : Q (.str (wrd (!v))) H) : if v = true then tC (.str "or") σ H Q else tC (.str "and") σ H Q := by
  cases v <;> exact h
section
variable {P : Program} {w : World} {K : PySem.W.Frag} {mg : Str → Option Value} {base : Heap} {f : Addr} {fd : FuncData} {aO : Addr}
theorem ok_law_put_right_step (Fo : Fun K "_law_put_right" "_law_put_right" s_law_put_right f fd) (T : Txt w K mg aO) {k n : Nat} {sp : Sp} (hk : 1 ≤ k) (D_law_says_nothing : Dfn P w K mg base "_law_says_nothing" 1 ["_law_word", "_law_one", "_law_others"] (spSays K))
    (D_law_put_right : Dfn P w K mg base "_law_put_right" k ["_law_wish_here"] sp) (hsp : ∀ m, n = m + 1 → sp = spLPut K m) : FnOk P w K mg base CX0 (k + 1) f fd ["_law_wish_here"] (spLPut K n) := by
  refine Fo.ok sc_law_put_right (fun vs H Q E h => ?_) (fun cdv A outer s H vs Q E hr h => ?_)
  · obtain ⟨g, v, rfl, _⟩ := h
    rfl
  · obtain ⟨g, v, rfl, ag, pg, okg, hg, hn, hz, q⟩ := h
    have hu5 : (A.deeper (envOfC "_law_put_right" (defScope s_law_put_right) s.heap.objs.size f cdv)).units + 65 < cLine := by
      have := hr.un
      omega
    have hu6 : (A.deeper (envOfC "_law_put_right" (defScope s_law_put_right) s.heap.objs.size f cdv)).units + 2 + 64 < cLine := by
      have := hr.un
      omega
    refine ⟨_, (pss_cons (ps_set (i := 1) sc_law_put_right.nd rfl (Or.inl rfl) (pe_ix (r := rIxT K) ix_tup (pv 0) pe_int (fun _ _ => rfl))) (pss_cons (ps_if (pt_cmpR (r := rIn K true) op_notIn_seq (pv 1) (pe_tup (pa_cons pe_str (pa_cons pe_str pa_nil))) rfl) (pss_one (ps_ret (pv 0))) pss_nil) (pss_cons (ps_par (i := 2) (j := 3) (by rfl) sc_law_put_right.nd rfl rfl (by decide) rfl rfl (pa_cons (pe_ifExp (pt_cmpR op_eq (pv 1) pe_str (nomark _)) pe_str pe_str) (pa_cons (pe_lst pa_nil) pa_nil)) (by rfl)) (pss_cons (ps_for PassesOwn.never rfl (pi_list (pe_lc (own := [("_law_part", 4)]) (g := gName 4) (by rfl) sc_law_put_right.nd (pi_tup (pe_ix (r := rIxT K) ix_tup (pv 0) pe_int (fun _ _ => rfl))) (blkOk_by (own := [("_law_part", 4)]) (N := n_law_put_right) (sc := defScope s_law_put_right) (by decide +kernel)) (fun _ _ _ _ _ => pg_name (i := 4) sc_law_put_right.nd rfl (Or.inl rfl)) (fun _ _ _ _ _ => pts_nil) (fun _ _ _ _ _ => (pe_d D_law_put_right hr (by first | exact Nat.le_refl _ | decide) (pa_cons (pv 4) pa_nil))))) (pg_name (i := 5) sc_law_put_right.nd rfl (Or.inr rfl)) (pss_one (ps_for PassesOwn.never rfl (pi_tup (pe_ifExp (pt_cmpR op_eq (pe_ix (r := rIxT K) ix_tup (pv 5) pe_int (fun _ _ => rfl)) (pv 1) (nomark _)) (pe_ix (r := rIxT K) ix_tup (pv 5) pe_int (fun _ _ => rfl)) (pe_tup (pa_cons (pv 5) pa_nil)))) (pg_name (i := 4) sc_law_put_right.nd rfl (Or.inl rfl)) (pss_cons (ps_if (pt_cmpR (r := rEqD K) (op_eqD hr.units) (pv 4) (pe_tup (pa_cons (pv 2) (pa_cons (pe_tup pa_nil) pa_nil))) (nomark _)) (pss_one (ps_ret (pv 4))) pss_nil) (pss_one (ps_if (pt_cmpR (r := rNotInD K) (op_notInD hu5) (pv 4) (pv 3) rfl) (pss_one (ps_expr (pe_bm PySem.F.plainAttrs_list PySem.F.slot_list_append PySem.F.type_list_append mt_append (pv 3) (pa_cons (pv 4) pa_nil)))) pss_nil)))))) (pss_cons (ps_set (i := 6) sc_law_put_right.nd rfl (Or.inl rfl) (pe_lst pa_nil)) (pss_cons (ps_for PassesOwn.never rfl (pi_list (pv 3)) (pg_name (i := 5) sc_law_put_right.nd rfl (Or.inr rfl)) (pss_one (ps_if (pt_not (pt_val (pe_d D_law_says_nothing hr hk (pa_cons (pv 2) (pa_cons (pv 5) (pa_cons (pe_lc (own := [("_law_other", 7)]) (g := gName 7) (by rfl) sc_law_put_right.nd (pi_list (pv 3)) (blkOk_by (own := [("_law_other", 7)]) (N := n_law_put_right) (sc := defScope s_law_put_right) (by decide +kernel)) (fun _ _ _ _ _ => pg_name (i := 7) sc_law_put_right.nd rfl (Or.inl rfl)) (fun _ _ _ _ _ => (pts_one (pt_cmpR (r := rNeD K) (op_neD hr.units) (pv 7) (pv 5) (nomark _)))) (fun _ _ _ _ _ => (pv 7))) pa_nil)))))) (pss_one (ps_expr (pe_bm PySem.F.plainAttrs_list PySem.F.slot_list_append PySem.F.type_list_append mt_append (pv 6) (pa_cons (pv 5) pa_nil)))) pss_nil))) (pss_one (ps_ret (pe_ifExp (pt_cmpR op_eq (pe_callB (r := rLenQ K) call_lenQ (by rfl) T.b_len (by decide +kernel) (pa_cons (pv 6) pa_nil)) pe_int (nomark _)) (pe_ix (r := rIxL K) ix_list (pv 6) pe_int (fun _ _ => rfl)) (pe_tup (pa_cons (pv 1) (pa_cons (pe_callTy call_tuple_of (by rfl) T.b_tuple (by decide +kernel) (pa_cons (pe_callB (cr_sortedF hu6) (by rfl) T.b_sorted (by decide +kernel) (pa_cons (pv 6) pa_nil)) pa_nil)) pa_nil)))))))))))), ?_⟩
    obtain ⟨b, xs, rfl, sq⟩ := ag.word
    refine ⟨_, rfl, b, _, _, _, rfl, rfl, sq, atI_nat (j := 0) rfl, ?_⟩
    have l2 : (2 : Nat) ≤ sizeLine := by decide
    refine ⟨_, rfl, l2, fun p0 hp0 => ⟨p0, _, rfl, .inr (SqT.of upd_same), rfl, rfl, _, rfl, ?_⟩⟩
    have s1 := same_new (o := .tup [.str "and", .str "or"]) hp0
    show if (!inV (.str (first g)) [.str "and", .str "or"]) = true then _ else _
    match g, pg, okg, hg, hz, ag, sq, q with
    | .it a, pg, okg, hg, hz, ag, sq, q =>
      rw [it_and]
      refine iteT ⟨_, rfl, q _ _ s1 ?_⟩
      rw [put]
      · exact ag.up s1
      · nofun
    | .no f2, pg, okg, hg, hz, ag, sq, q =>
      rw [show inV (.str (first (.no f2))) [.str "and", .str "or"] = false by simp only [first]; decide +kernel]
      refine iteT ⟨_, rfl, q _ _ s1 ?_⟩
      rw [put]
      · exact ag.up s1
      · nofun
    | .of v l, .of _ pg2, .of _ ok2, .of (n := m) _ hg2, hz, ag, sq, q =>
      obtain ⟨b2, c2, us, e3, sq2, sqc, al⟩ := ag.of
      cases e3
      obtain rfl := hsp _ rfl
      rw [of_and]
      refine iteF ?_
      obtain ⟨zs, z1, z2, z3⟩ := al.zip
      subst z1
      have inl : ∀ z ∈ zs, z.2 ∈ l := fun z hz => by
        rw [z2]
        exact List.mem_map.mpr ⟨z, hz, rfl⟩
      have hz1 : szs l ≤ 999 := by
        rw [sz_of] at hz
        omega
      have zl : zs.length ≤ 1000 := by
        have := len_szs l
        rw [z2, List.length_map] at this
        rw [z2] at hz1
        omega
      have sq3 := sqT_up s1 sq2
      have sqc3 := sqT_up s1 sqc
      have z4 : ∀ z ∈ zs, AtF K (upd H p0 (.tup [.str "and", .str "or"])) z.1 z.2 := fun z hz => (z3 z hz).up s1
      have qe : put leF (.of v l) = match gather (.of (!v) []) [] ((zs.map fun z => put leF z.2).flatMap (rowsOf v)) with
          | none => .of (!v) []
          | some ms => ended2 leF v ms := by
        have em : (l.map fun f => put2 leF f) = zs.map fun z => put leF z.2 := by
          rw [z2, List.map_map]
          exact List.map_congr_left fun z hz => put2_eq ord_leF (pg2 _ (inl z hz))
        rw [← put2_eq ord_leF (.of v pg2), put2, em]
        cases gather (F.of (!v) []) [] ((zs.map fun z => put leF z.2).flatMap (rowsOf v)) <;> rfl
      have okz : ∀ f ∈ zs.map fun z => put leF z.2, Ok f := fun f hf => by
        obtain ⟨z, hz, rfl⟩ := List.mem_map.mp hf
        exact ok_put leF (ok2 _ (inl z hz))
      have hgz : ∀ f ∈ zs.map fun z => put leF z.2, Hg _ f := fun f hf => by
        obtain ⟨z, hz, rfl⟩ := List.mem_map.mp hf
        exact hg_put leF (hg2 _ (inl z hz))
      have szz : szs (zs.map fun z => put leF z.2) ≤ 999 := by
        have := szs_map_le (φ := fun f => put leF f) (l := l) fun f _ => sz_put leF f
        rw [z2, List.map_map] at this
        rw [z2] at hz1
        exact Nat.le_trans this hz1
      generalize upd H p0 (.tup [.str "and", .str "or"]) = H1 at *
      refine ⟨_, rfl, rfl, _, rfl, ?_⟩
      rw [show decide (V.str (first (.of v l)) = V.str "and") = v from wrd_and v]
      refine iteW ?_
      refine ⟨(by show 0 ≤ sizeLine; decide), fun p3 hp3 => ?_⟩
      have s3 := same_new (o := .lst []) hp3
      have hp3L : upd H1 p3 (.lst []) p3 = some (.lst []) := upd_same
      have hp3n : H p3 = none := by
        cases e : H p3 with
        | none => rfl
        | some o => exact absurd (s1 _ _ e) (by rw [hp3]; nofun)
      have sm3 := s1.trans s3
      have sq4 := sqT_up s3 sq3
      have sqc4 := sqT_up s3 sqc3
      have z5 : ∀ z ∈ zs, AtF K (upd H1 p3 (.lst [])) z.1 z.2 := fun z hz => (z4 z hz).up s3
      generalize upd H1 p3 (.lst []) = H3 at *
      refine ⟨_, _, rfl, ?_⟩
      refine ⟨_, rfl, b, _, _, _, rfl, rfl, sq4, atI_nat (j := 1) rfl, c2, rfl, ⟨_, sqc4⟩, fun D0 hD0 => lc_gen (xs := zs) (val := Prod.fst) (walk_tup (K := K) (a := c2) (xs := zs.map Prod.fst)) (fun _ => true) _ (keepR_F (K := K) fun z : V × F Itm => put leF z.2) hD0 zl (fun H5 s5 => sqT_up s5 sqc4) ?_ ?_⟩
      · intro z H5 N Y hzm s5 _ _ yes
        refine ⟨rfl, ?_⟩
        unfold tYes
        refine iteT ⟨_, rfl, z.2, z.1, rfl, (z5 z hzm).up s5, pg2 _ (inl z hzm), ok2 _ (inl z hzm), hg2 _ (inl z hzm), by omega, ?_, fun H6 u6 sm au => yes rfl H6 u6 sm au⟩
        have := szs_mem (inl z hzm)
        omega
      intro H5 ys s5 hys hpr
      rw [filter_all] at hpr
      have aly := atL_paired hpr
      have hp5 := s5 _ _ hp3L
      have sm5 := sm3.trans s5
      have nD : D0 ≠ p3 := fun z => by rw [z, hp3L] at hD0; cases hD0
      have szf : szs ((zs.map fun z => put leF z.2).flatMap (rowsOf v)) ≤ 999 := Nat.le_trans (szs_flat v _) szz
      generalize (zs.map fun z => put leF z.2) = L at *
      refine ⟨D0, rfl, ⟨_, SqL.of hys⟩, for_list (K := K) (a := D0) (xs := ys) (fun i σ H6 => ∃ (ms : List V) (o4 o5 : Option V), σ = [some (.ref b), some (.str (wrd v)), some (.str (wrd !v)), some (.ref p3), o4, o5, none, none] ∧ Off p3 H5 H6 ∧ H6 p3 = some (.lst ms) ∧ F.of (!v) [] ∉ (L.take i).flatMap (rowsOf v) ∧ AtL K H6 ms (uniq [] ((L.take i).flatMap (rowsOf v))))
        ⟨[], _, _, rfl, Off.refl _ _, hp5, (fun z => nomatch z), .nil⟩ (fun i σ H6 _ h => by
          obtain ⟨_, _, _, _, off, _⟩ := h
          exact SqL.of (off _ _ nD hys)) ?_ ?_⟩
      · rintro i x σ H6 hi ⟨ms, o4, o5, rfl, off, hm, nz, am⟩
        obtain ⟨o, hoi, ao⟩ := (aly.off hp5 off).at_ i x hi
        have om : o ∈ L := List.mem_of_getElem? hoi
        have step : L.take (i + 1) = L.take i ++ [o] := by
          rw [List.take_add_one, hoi]
          rfl
        have len1 := rows_len (φ := rowsOf v) hoi
        have len2 := len_szs (L.flatMap (rowsOf v))
        have big : (1000 : Nat) < sizeLine := by decide
        obtain ⟨bo, xo, rfl, sqo⟩ := ao.word
        have okr : ∀ r ∈ rowsOf v o, Ok r := (okz o om).rows
        have hgr : ∀ r ∈ rowsOf v o, Hg m r := (hgz o om).rows
        have fin : ∀ (H7 : Hp) (t : Addr) (rs : List V), Off p3 H5 H7 → H7 p3 = some (.lst ms) → SqT K H7 t rs → AtL K H7 rs (rowsOf v o) → AtL K H7 ms (uniq [] ((L.take i).flatMap (rowsOf v))) → ∀ D : Ends,
            (∀ (σ : L2.St) (H6 : Hp), (∃ (ms : List V) (o4 o5 : Option V), σ = [some (.ref b), some (.str (wrd v)), some (.str (wrd !v)), some (.ref p3), o4, o5, none, none] ∧ Off p3 H5 H6 ∧ H6 p3 = some (.lst ms) ∧ F.of (!v) [] ∉ (L.take (i + 1)).flatMap (rowsOf v) ∧ AtL K H6 ms (uniq [] ((L.take (i + 1)).flatMap (rowsOf v)))) → D.nx σ H6) →
            (∀ u H8, Off p3 H5 H8 → F.of (!v) [] ∈ L.flatMap (rowsOf v) → AtF K H8 u (.of (!v) []) → D.rt u H8) →
            tFor (iTup K (tC (.ref t))) (gName 4) (tSeq
              (tIfS (tTest (tOp (rEqD K) (tVar 4) (tTup (tCons (tVar 2) (tCons (tTup tNil) tNil))))) (tRet (tVar 4)) tNext)
              (tIfS (tTest (tOp (rNotInD K) (tVar 4) (tVar 3))) (tDrop (tBM K "list" rAppend (tVar 3) (tCons (tVar 4) tNil))) tNext)) D
              [some (.ref b), some (.str (wrd v)), some (.str (wrd !v)), some (.ref p3), o4, some (.ref bo), none, none] H7 := by
          intro H7 t rs off7 hm7 st ar am7 D done ret
          refine ⟨t, rfl, ⟨_, st⟩, for_tup (K := K) (a := t) (xs := rs) (fun j σ H8 => ∃ (ms : List V) (o4 : Option V), σ = [some (.ref b), some (.str (wrd v)), some (.str (wrd !v)), some (.ref p3), o4, some (.ref bo), none, none] ∧ Off p3 H5 H8 ∧ H8 p3 = some (.lst ms) ∧ SqT K H8 t rs ∧ AtL K H8 rs (rowsOf v o) ∧
              F.of (!v) [] ∉ (L.take i).flatMap (rowsOf v) ++ (rowsOf v o).take j ∧ AtL K H8 ms (uniq [] ((L.take i).flatMap (rowsOf v) ++ (rowsOf v o).take j)))
            ⟨ms, _, rfl, off7, hm7, st, ar, by rw [List.take_zero, List.append_nil]; exact nz, by rw [List.take_zero, List.append_nil]; exact am7⟩ (fun j σ H8 _ h => ?_) ?_ ?_⟩
          · obtain ⟨_, _, _, _, _, st, _⟩ := h
            exact st
          · rintro j x σ H8 hj ⟨ms, o4, rfl, off8, hm8, st8, ar8, nz8, am8⟩
            obtain ⟨r, hr, axr⟩ := ar8.at_ j x hj
            have hrm : r ∈ rowsOf v o := List.mem_of_getElem? hr
            have mem : ∀ f ∈ uniq [] ((L.take i).flatMap (rowsOf v) ++ (rowsOf v o).take j), Ok f ∧ Hg m f := fun f hf => by
              rcases mem_uniq.mp hf with hf | hf
              · exact nomatch hf
              · rcases List.mem_append.mp hf with hf | hf
                · obtain ⟨g, hg3, hf⟩ := List.mem_flatMap.mp hf
                  have hm2 := List.mem_of_mem_take hg3
                  exact ⟨(okz g hm2).rows f hf, (hgz g hm2).rows f hf⟩
                · have := List.mem_of_mem_take hf
                  exact ⟨okr f this, hgr f this⟩
            have step2 : (rowsOf v o).take (j + 1) = (rowsOf v o).take j ++ [r] := by
              rw [List.take_add_one, hr]
              rfl
            have next : uniq [] ((L.take i).flatMap (rowsOf v) ++ (rowsOf v o).take (j + 1)) = if r ∈ uniq [] ((L.take i).flatMap (rowsOf v) ++ (rowsOf v o).take j) then uniq [] ((L.take i).flatMap (rowsOf v) ++ (rowsOf v o).take j) else uniq [] ((L.take i).flatMap (rowsOf v) ++ (rowsOf v o).take j) ++ [r] := by
              rw [step2, ← List.append_assoc, uniq_snoc]
            refine ⟨_, rfl, _, rfl, (by show 0 ≤ sizeLine; decide), fun t1 ht1 => ⟨l2, fun t2 ht2 => ?_⟩⟩
            have n1 := same_new (o := .tup []) ht1
            have n2 := same_new (o := .tup [.str (wrd !v), .ref t1]) ht2
            have n12 := n1.trans n2
            have zero : AtF K (upd (upd H8 t1 (.tup [])) t2 (.tup [.str (wrd !v), .ref t1])) (.ref t2) (.of (!v) []) := AtF.mk_of (SqT.of upd_same) (SqT.of (n2 _ _ upd_same)) .nil
            generalize upd (upd H8 t1 (.tup [])) t2 (.tup [.str (wrd !v), .ref t1]) = H9 at *
            refine ⟨enc r, enc (.of (!v) []), axr.up n12, zero, shd_enc (okr r hrm) (hgr r hrm) (by omega), shd_enc (n := 1) (.of _ fun _ z => nomatch z) (.of _ fun _ z => nomatch z) (by omega), ?_⟩
            rw [eqv_enc]
            refine ⟨_, rfl, ?_⟩
            have off9 := off8.trans (Off.same n12)
            by_cases isz : r = .of (!v) []
            · rw [decide_eq_true isz]
              refine iteT ⟨_, rfl, ret _ _ off9 ?_ (isz ▸ axr.up n12)⟩
              exact List.mem_flatMap.mpr ⟨o, om, isz ▸ hrm⟩
            · rw [decide_eq_false isz]
              refine iteF ?_
              have nz9 : F.of (!v) [] ∉ (L.take i).flatMap (rowsOf v) ++ (rowsOf v o).take (j + 1) := fun z => by
                rw [step2, ← List.append_assoc] at z
                rcases List.mem_append.mp z with z | z
                · exact nz8 z
                · exact isz (List.mem_singleton.mp z).symm
              have hm9 := n12 _ _ hm8
              have am9 := am8.up n12
              refine ⟨_, rfl, _, rfl, enc r, _, axr.up n12, .lst (SqL.of hm9) am9, shd_enc (okr r hrm) (hgr r hrm) (by omega), shd_list (fun f hf => (mem f hf).1) (fun f hf => (mem f hf).2) (by omega), ?_⟩
              rw [any_enc]
              refine ⟨_, rfl, ?_⟩
              by_cases hin : r ∈ uniq [] ((L.take i).flatMap (rowsOf v) ++ (rowsOf v o).take j)
              · rw [decide_eq_true hin]
                refine iteF ⟨ms, _, rfl, off9, hm9, sqT_up n12 st8, ar8.up n12, nz9, ?_⟩
                rw [next, if_pos hin]
                exact am9
              · rw [decide_eq_false hin]
                have size : ms.length < sizeLine := by
                  have a1 := am8.len
                  have a2 : (uniq [] ((L.take i).flatMap (rowsOf v) ++ (rowsOf v o).take j)).length ≤ 0 + ((L.take i).flatMap (rowsOf v) ++ (rowsOf v o).take j).length := uniq_len
                  rw [List.length_append, List.length_take] at a2
                  omega
                refine iteT ⟨_, rfl, .inl ⟨rfl, _, SqL.of hm9⟩, _, rfl, p3, _, _, rfl, rfl, hm9, size, ?_⟩
                refine ⟨ms ++ [x], _, rfl, off9.trans Off.set, upd_same, sqT_set (sqT_up n12 st8) hm9, (ar8.up n12).set hm9, nz9, ?_⟩
                rw [next, if_neg hin]
                exact (am9.set hm9).snoc ((axr.up n12).set hm9)
          · rintro σ H8 ⟨ms, o4, rfl, off8, hm8, st8, ar8, nz8, am8⟩
            rw [List.take_of_length_le (Nat.le_of_eq ar8.len.symm)] at am8 nz8
            refine done _ _ ⟨ms, _, _, rfl, off8, hm8, ?_, ?_⟩
            · rw [step, List.flatMap_append, List.flatMap_cons, List.flatMap_nil, List.append_nil]
              exact nz8
            · rw [step, List.flatMap_append, List.flatMap_cons, List.flatMap_nil, List.append_nil]
              exact am8
        have ret : ∀ u H8, Off p3 H5 H8 → F.of (!v) [] ∈ L.flatMap (rowsOf v) → AtF K H8 u (.of (!v) []) → Q u H8 := fun u H8 o8 z au => q H8 u (o8.up sm5 hp3n) (by
          rw [qe, gather_none z]
          exact au)
        refine ⟨_, rfl, bo, _, _, _, rfl, rfl, sqo, atI_nat (j := 0) rfl, _, rfl, rfl, _, rfl, ?_⟩
        by_cases e2 : first o = wrd v
        · obtain ⟨rows, rfl⟩ := root_of e2
          obtain ⟨bb, t2, ro, e5, sq5, st5, ar5⟩ := ao.of
          cases e5
          rw [show decide (V.str (first (.of v rows)) = V.str (wrd v)) = true from decide_eq_true (by rw [e2])]
          refine iteT ⟨_, rfl, bo, _, _, _, rfl, rfl, sq5, atI_nat (j := 1) rfl, ?_⟩
          exact fin H6 t2 ro off hm st5 (by rw [rowsOf_of]; exact ar5) am _ (fun σ H6 h => h) ret
        · rw [show decide (V.str (first o) = V.str (wrd v)) = false from decide_eq_false fun z => e2 (V.str.inj z)]
          refine iteF ⟨_, rfl, (by show 1 ≤ sizeLine; decide), fun t2 ht2 => ?_⟩
          have nr : ¬ root v o := fun z => by
            cases o with
            | it a => exact z.elim
            | no f => exact z.elim
            | of u g =>
              have : u = v := z
              exact e2 (by rw [this]; rfl)
          have nn := same_new (o := .tup [.ref bo]) ht2
          exact fin _ t2 [.ref bo] (off.trans (Off.same nn)) (nn _ _ hm) (SqT.of upd_same) (by rw [rowsOf_not nr]; exact .cons (ao.up nn) .nil) (am.up nn) _ (fun σ H6 h => h) ret
      · rintro σ H6 ⟨ms, o4, o5, rfl, off, hm, nz, am⟩
        rw [List.take_of_length_le (Nat.le_of_eq aly.len.symm)] at am nz
        have okO : ∀ f ∈ uniq [] (L.flatMap (rowsOf v)), Ok f := ok_opened_ (w := v) okz
        have hgO : ∀ f ∈ uniq [] (L.flatMap (rowsOf v)), Hg m f := hg_opened (w := v) hgz
        have szO : szs (uniq [] (L.flatMap (rowsOf v))) ≤ 999 := Nat.le_trans (szs_uniq _ []) (by rw [szs_nil]; omega)
        rw [qe, gather_some nz] at q
        replace q : ∀ H' u, Same H H' → AtF K H' u (ended2 leF v (uniq [] (L.flatMap (rowsOf v)))) → Q u H' := q
        generalize uniq [] (L.flatMap (rowsOf v)) = os at *
        have sm6 := off.up sm5 hp3n
        refine ⟨(by show 0 ≤ sizeLine; decide), fun p6 hp6 => ?_⟩
        have n6 := same_new (o := .lst []) hp6
        have hm6 := n6 _ _ hm
        have am6 := am.up n6
        have h66 : upd H6 p6 (.lst []) p6 = some (.lst []) := upd_same
        have n36 : p3 ≠ p6 := fun z => by rw [z, hp6] at hm; cases hm
        have hp6n : H p6 = none := by
          cases e : H p6 with
          | none => rfl
          | some o => exact absurd (sm6 _ _ e) (by rw [hp6]; nofun)
        have sm7 := sm6.trans n6
        generalize upd H6 p6 (.lst []) = H7 at *
        obtain ⟨ws, w1, w2, w3⟩ := am6.zip
        have wl : ws.length ≤ 1000 := by
          have := len_szs os
          rw [w2, List.length_map] at this
          rw [w2] at szO
          omega
        have inw : ∀ z ∈ ws, z.2 ∈ os := fun z hz => by
          rw [w2]
          exact List.mem_map.mpr ⟨z, hz, rfl⟩
        refine ⟨_, rfl, p3, rfl, ⟨_, SqL.of hm6⟩, for_list (K := K) (a := p3) (xs := ms) (fun i σ H8 => ∃ (ks : List V) (o5 : Option V), σ = [some (.ref b), some (.str (wrd v)), some (.str (wrd !v)), some (.ref p3), o4, o5, some (.ref p6), none] ∧ Off p6 H7 H8 ∧ H8 p6 = some (.lst ks) ∧ AtL K H8 ks ((os.take i).filter fun m => !says (!v) m (os.filter fun o => decide (o ≠ m))))
          ⟨[], _, rfl, Off.refl _ _, h66, .nil⟩ (fun i σ H8 _ h => by
            obtain ⟨_, _, _, off, _⟩ := h
            exact SqL.of (off _ _ n36 hm6)) ?_ ?_⟩
        · rintro i x σ H8 hi ⟨ks, o5, rfl, off8, hk8, ak⟩
          have am8 := am6.off h66 off8
          have hm8 := off8 _ _ n36 hm6
          obtain ⟨o, hoi, ao⟩ := am8.at_ i x hi
          have om : o ∈ os := List.mem_of_getElem? hoi
          have step : os.take (i + 1) = os.take i ++ [o] := by
            rw [List.take_add_one, hoi]
            rfl
          have w4 : ∀ z ∈ ws, AtF K H8 z.1 z.2 := fun z hz => (w3 z hz).off h66 off8
          refine ⟨_, rfl, _, rfl, _, rfl, p3, rfl, ⟨_, SqL.of hm8⟩, fun D1 hD1 => lc_gen (xs := ws) (val := Prod.fst) (walk_list (K := K) (a := p3) (xs := ws.map Prod.fst)) (fun z => decide (z.2 ≠ o)) _ (keepR_F (K := K) fun z : V × F Itm => z.2) hD1 wl (fun H9 s9 => SqL.of (w1 ▸ s9 _ _ hm8)) ?_ ?_⟩
          · intro z H9 N Y hzm s9 _ no yes
            have az := (w4 z hzm).up s9
            refine ⟨rfl, _, rfl, _, rfl, enc z.2, enc o, az, ao.up s9, shd_enc (okO _ (inw z hzm)) (hgO _ (inw z hzm)) (by omega), shd_enc (okO o om) (hgO o om) (by omega), ?_⟩
            rw [eqv_enc]
            refine ⟨_, rfl, ?_⟩
            by_cases same : z.2 = o
            · rw [decide_eq_true same]
              exact iteF (no (decide_eq_false fun w => w same) H9 (Same.refl H9))
            · rw [decide_eq_false same]
              exact iteT ⟨_, rfl, yes (decide_eq_true same) H9 _ (Same.refl H9) az⟩
          · intro H9 rs s9 hrs hpr
            have alr := atL_paired hpr
            have ek : (ws.filter fun z => decide (z.2 ≠ o)).map (fun z => z.2) = os.filter fun m => decide (m ≠ o) := by
              conv => rhs; arg 2; rw [w2]
              rw [List.filter_map]
              rfl
            rw [ek] at alr
            refine ⟨!v, o, x, D1, rs, _, m, rfl, ao.up s9, hrs, alr, okO o om, hgO o om, fun f hf => okO f (List.mem_filter.mp hf).1, fun f hf => hgO f (List.mem_filter.mp hf).1, by omega, ?_, fun f hf => ?_, fun H10 s10 => ?_⟩
            · have := szs_mem om
              omega
            · have := szs_mem (List.mem_filter.mp hf).1
              omega
            have off10 := (off8.trans (Off.same s9)).trans (Off.same s10)
            have hk10 := s10 _ _ (s9 _ _ hk8)
            have ak10 := (ak.up s9).up s10
            refine ⟨_, rfl, ?_⟩
            cases e : says (!v) o (os.filter fun m => decide (m ≠ o)) with
            | true =>
              refine iteF ⟨ks, _, rfl, off10, hk10, ?_⟩
              rw [step, List.filter_append, List.filter_cons_of_neg (by rw [e]; nofun), List.filter_nil, List.append_nil]
              exact ak10
            | false =>
              have size : ks.length < sizeLine := by
                have a1 := ak.len
                have a2 := List.length_filter_le (fun m => !says (!v) m (os.filter fun o => decide (o ≠ m))) (os.take i)
                rw [List.length_take] at a2
                have a3 := len_szs os
                have a4 : (1000 : Nat) < sizeLine := by decide
                omega
              refine iteT ⟨_, rfl, .inl ⟨rfl, _, SqL.of hk10⟩, _, rfl, p6, _, _, rfl, rfl, hk10, size, ?_⟩
              refine ⟨ks ++ [x], _, rfl, off10.trans Off.set, upd_same, ?_⟩
              rw [step, List.filter_append, List.filter_cons_of_pos (by rw [e]; rfl), List.filter_nil]
              exact (ak10.set hk10).snoc (((ao.up s9).up s10).set hk10)
        · rintro σ H8 ⟨ks, o5, rfl, off8, hk8, alk⟩
          rw [List.take_of_length_le (Nat.le_of_eq am.len.symm)] at alk
          have sub : ∀ x ∈ os.filter (fun m => !says (!v) m (os.filter fun o => decide (o ≠ m))), x ∈ os := fun x hx => (List.mem_filter.mp hx).1
          have sm8 := off8.up sm7 hp6n
          unfold ended2 at q
          generalize os.filter (fun m => !says (!v) m (os.filter fun o => decide (o ≠ m))) = kl at alk sub q
          have lk := alk.len
          refine ⟨_, rfl, p6, _, rfl, .inl (SqL.of hk8), rfl, _, rfl, ?_⟩
          by_cases one : ∃ x, kl = [x]
          · obtain ⟨x, rfl⟩ := one
            match ks, alk, hk8 with
            | [u], .cons au .nil, hks =>
              exact iteT ⟨_, rfl, p6, _, _, _, rfl, rfl, SqL.of hks, atI_nat (j := 0) rfl, q _ _ sm8 au⟩
          · have n1' : ¬ ((ks.length : Int) = 1) := fun e => by
              obtain ⟨x, hx⟩ := List.length_eq_one_iff.mp (show kl.length = 1 by omega)
              exact one ⟨x, hx⟩
            rw [show decide (V.int (ks.length : Int) = V.int 1) = false from decide_eq_false fun z => n1' (V.int.inj z)]
            refine iteF ⟨_, rfl, _, rfl, p6, ks, kl, m, rfl, SqL.of hk8, alk, fun x hx => okO x (sub x hx), fun x hx => hgO x (sub x hx), by omega, fun ys2 p2 ay hp2 => ⟨p2, ys2, rfl, .inl ⟨SqL.of upd_same, fun t9 ht9 => ⟨l2, fun t10 ht10 => ?_⟩⟩⟩⟩
            have s1 := same_new (o := .lst ys2) hp2
            have s2 := same_new (o := .tup ys2) ht9
            have s3 := same_new (o := .tup [.str (wrd v), .ref t9]) ht10
            refine q _ _ (((sm8.trans s1).trans s2).trans s3) ?_
            split
            · rename_i x
              exact absurd ⟨x, rfl⟩ one
            · exact AtF.mk_of (SqT.of upd_same) (SqT.of (s3 _ _ upd_same)) (((ay.up s1).up s2).up s3)
end
end Bw

namespace Bw
open PySem PySem.Spec L2 TL PyProof.Rows Ask

def v3t : V3 → Str
  | .fls => "false"
  | .unk => "unknown"
  | .tru => "true"
/-- each item has its value -/
def Holds (ρ : Itm → V3) (kvs : List (List L2.Key × V)) (f : F Itm) : Prop := ∀ a ∈ itm f, valV kvs (keyI a) = some (.str (v3t (ρ a)))
def spLVal (K : PySem.W.Frag) (n : Nat) : Sp := fun vs H Q _ => ∃ (f : F Itm) (v : V) (d : Addr) (kvs : List (List L2.Key × V)) (ρ : Itm → V3), vs = [v, .ref d] ∧ AtF K H v f ∧ H d = some (.dT kvs) ∧ Holds ρ kvs f ∧ Hg n f ∧ Few f ∧
  ∀ H', Same H H' → Q (.str (v3t (ev ρ f))) H'
theorem at_key {K : PySem.W.Frag} {H : Hp} {v : V} {a : Itm} (h : AtF K H v (.it a)) : ∃ b, v = .ref b ∧ SqT K H b ((keyI a).map kV) := by
  unfold AtF at h
  rw [enc] at h
  cases a with
  | has x => exact dp_ss h
  | is x y => exact dp_sss h
  | cls x => exact dp_ss h
  | within n => exact dp_si h
theorem v3t_inj : ∀ {u v : V3}, v3t u = v3t v → u = v := by
  intro u v h
  cases u <;> cases v <;> first | rfl | exact absurd h (by decide +kernel)
theorem exch (x : V3) : valV (mergeK [] [((.inr "true" : L2.Key), V.str "false"), (.inr "false", .str "true"), (.inr "unknown", .str "unknown")]) (.inr (v3t x)) = some (.str (v3t x.neg)) := by
  cases x <;> rfl
theorem eqV_v3 (y x : V3) : eqV (.str (v3t y)) (.str (v3t x)) = decide (y = x) := by
  cases x <;> cases y <;> decide +kernel
theorem in_v3 (x : V3) (l : List V3) : inV (.str (v3t x)) (l.map fun y => V.str (v3t y)) = decide (x ∈ l) := by
  rw [Bool.eq_iff_iff, decide_eq_true_eq]
  unfold inV
  simp only [List.any_map, List.any_eq_true, Function.comp, eqV_v3, decide_eq_true_eq]
  constructor
  · rintro ⟨y, hy, rfl⟩
    exact hy
  · exact fun h => ⟨x, h, rfl⟩
theorem flat_v3 (l : List V3) : (l.map fun y => V.str (v3t y)).all flatV = true := by
  rw [List.all_map, List.all_eq_true]
  exact fun _ _ => rfl
section
variable {P : Program} {w : World} {K : PySem.W.Frag} {mg : Str → Option Value} {base : Heap} {f : Addr} {fd : FuncData} {aO : Addr}
theorem ok_law_value_step (Fo : Fun K "_law_value" "_law_value" s_law_value f fd) (T : Txt w K mg aO) {k n : Nat} {sp : Sp} (D_law_value : Dfn P w K mg base "_law_value" k ["_law_wish_here", "_law_values"] sp) (hsp : ∀ m, n = m + 1 → sp = spLVal K m) : FnOk P w K mg base CX0 (k + 1) f fd ["_law_wish_here", "_law_values"] (spLVal K n) := by
  refine Fo.ok sc_law_value (fun vs H Q E h => ?_) (fun cdv A outer s H vs Q E hr h => ?_)
  · obtain ⟨g, v, d, kvs, ρ, rfl, _⟩ := h
    rfl
  · obtain ⟨g, v, d, kvs, ρ, rfl, ag, hd, hh, hg, few, q⟩ := h
    have hu1 : (A.deeper (envOfC "_law_value" (defScope s_law_value) s.heap.objs.size f cdv)).units + 1 < cLine := hu_of hr
    refine ⟨_, (pss_cons (ps_if (pt_cmpR op_eq (pe_ix (r := rIxT K) ix_tup (pv 0) pe_int (fun _ _ => rfl)) pe_str (nomark _)) (pss_one (ps_ret (pe_dget (hu_of hr) (pe_disp (pps_cons pe_str pe_str (pps_cons pe_str pe_str (pps_cons pe_str pe_str pps_nil))) (by rfl) (by rfl) (fun z => by cases z) (by decide)) (pe_d D_law_value hr (by first | exact Nat.le_refl _ | decide) (pa_cons (pe_ix (r := rIxT K) ix_tup (pv 0) pe_int (fun _ _ => rfl)) (pa_cons (pv 1) pa_nil))) (fun _ _ => rfl)))) pss_nil) (pss_cons (ps_if (pt_cmpR (r := rIn K true) op_notIn_seq (pe_ix (r := rIxT K) ix_tup (pv 0) pe_int (fun _ _ => rfl)) (pe_tup (pa_cons pe_str (pa_cons pe_str pa_nil))) rfl) (pss_one (ps_ret (pe_ix (r := rGetT K) (ix_dT hu1) (pv 1) (pv 0) (fun _ _ => rfl)))) pss_nil) (pss_cons (ps_setLc (i := 2) (own := [("_law_one", 5)]) (g := gName 5) (by rfl) sc_law_value.nd rfl rfl (sw_true rfl rfl rfl (by decide +kernel)) (pi_tup (pe_ix (r := rIxT K) ix_tup (pv 0) pe_int (fun _ _ => rfl))) (blkOk_by (own := [("_law_one", 5)]) (N := n_law_value) (sc := defScope s_law_value) (by decide +kernel)) (fun _ _ _ _ _ => pg_name (i := 5) sc_law_value.nd rfl (Or.inl rfl)) (fun _ _ _ _ _ => pts_nil) (fun _ _ _ _ _ => (pe_d D_law_value hr (by first | exact Nat.le_refl _ | decide) (pa_cons (pv 5) (pa_cons (pv 1) pa_nil))))) (pss_cons (ps_asg (pe_ifExp (pt_cmpR op_eq (pe_ix (r := rIxT K) ix_tup (pv 0) pe_int (fun _ _ => rfl)) pe_str (nomark _)) (pe_tup (pa_cons pe_str (pa_cons pe_str pa_nil))) (pe_tup (pa_cons pe_str (pa_cons pe_str pa_nil)))) (pg_tup (by rfl) (pgs_cons (pg_name (i := 3) sc_law_value.nd rfl (Or.inl rfl)) (pgs_cons (pg_name (i := 4) sc_law_value.nd rfl (Or.inl rfl)) pgs_nil)))) (pss_cons (ps_if (pt_cmpR (r := rIn K false) op_in_seq (pv 3) (pv 2) rfl) (pss_one (ps_ret (pv 3))) pss_nil) (pss_one (ps_ret (pe_ifExp (pt_cmpR (r := rIn K false) op_in_seq pe_str (pv 2) rfl) pe_str (pv 4))))))))), ?_⟩
    obtain ⟨b, xs, rfl, sq⟩ := ag.word
    have l2 : (2 : Nat) ≤ sizeLine := by decide
    refine ⟨_, rfl, b, _, _, _, rfl, rfl, sq, atI_nat (j := 0) rfl, rfl, _, rfl, ?_⟩
    match g, hh, hg, few, ag, sq, q with
    | .it a, hh, hg, few, ag, sq, q =>
      rw [it_not]
      refine iteF ⟨_, rfl, b, _, _, _, rfl, rfl, sq, atI_nat (j := 0) rfl, l2, fun p hp => ⟨p, _, rfl, .inr (SqT.of upd_same), rfl, rfl, _, rfl, ?_⟩⟩
      have s1 := same_new (o := .tup [.str "and", .str "or"]) hp
      show if (!inV (.str (first (.it a))) [.str "and", .str "or"]) = true then _ else _
      rw [it_and]
      obtain ⟨b2, e2, sqk⟩ := at_key ag
      cases e2
      refine iteT ⟨_, rfl, _, rfl, d, b, kvs, keyI a, _, rfl, s1 _ _ hd, rfl, sqT_up s1 sqk, hh a (by rw [itm]; exact List.mem_singleton.mpr rfl), ?_⟩
      have := q _ s1
      rwa [ev] at this
    | .no g2, hh, .no hg2, .no few2, ag, sq, q =>
      obtain ⟨b2, u, e3, sq2, ag2⟩ := ag.no
      cases e3
      obtain rfl := hsp _ rfl
      refine iteT ?_
      refine fun p hp => ?_
      have s1 := same_new (o := .dK []) hp
      refine ⟨upd_same, [((.inr "true" : L2.Key), V.str "false"), (.inr "false", .str "true"), (.inr "unknown", .str "unknown")], rfl, by decide, ?_⟩
      have s2 : Same H (upd (upd H p (.dK [])) p (.dK (mergeK [] [((.inr "true" : L2.Key), V.str "false"), (.inr "false", .str "true"), (.inr "unknown", .str "unknown")]))) := fun c o e => by
        rw [upd_ne (ne_of_none e hp), upd_ne (ne_of_none e hp)]
        exact e
      have hp2 : (upd (upd H p (.dK [])) p (.dK (mergeK [] [((.inr "true" : L2.Key), V.str "false"), (.inr "false", .str "true"), (.inr "unknown", .str "unknown")]))) p = _ := upd_same
      generalize upd (upd H p (.dK [])) p (.dK (mergeK [] [((.inr "true" : L2.Key), V.str "false"), (.inr "false", .str "true"), (.inr "unknown", .str "unknown")])) = H2 at *
      refine ⟨_, rfl, b, _, _, _, rfl, rfl, sqT_up s2 sq2, atI_nat (j := 1) rfl, _, rfl, g2, u, d, kvs, ρ, rfl, ag2.up s2, s2 _ _ hd, (fun a ha => hh a (by rw [itm]; exact ha)), hg2, few2, fun H3 s3 => ⟨p, _, rfl, .inl ⟨_, .inr (v3t (ev ρ g2)), .inl (s3 _ _ hp2), rfl, (exch _).symm⟩, ?_⟩⟩
      have := q _ (s2.trans s3)
      rwa [ev] at this
    | .of v l, hh, .of (n := m) _ hg2, .of _ few2 many, ag, sq, q =>
      obtain ⟨b2, c2, us, e3, sq2, sqc, al⟩ := ag.of
      cases e3
      obtain rfl := hsp _ rfl
      rw [of_not]
      refine iteF ⟨_, rfl, b, _, _, _, rfl, rfl, sq, atI_nat (j := 0) rfl, l2, fun p hp => ⟨p, _, rfl, .inr (SqT.of upd_same), rfl, rfl, _, rfl, ?_⟩⟩
      have s1 := same_new (o := .tup [.str "and", .str "or"]) hp
      show if (!inV (.str (first (.of v l))) [.str "and", .str "or"]) = true then _ else _
      rw [of_and]
      refine iteF ?_
      obtain ⟨zs, z1, z2, z3⟩ := al.zip
      subst z1
      have zl : zs.length ≤ 1000 := by
        rw [z2, List.length_map] at many
        exact many
      have inl : ∀ z ∈ zs, z.2 ∈ l := fun z hz => by
        rw [z2]
        exact List.mem_map.mpr ⟨z, hz, rfl⟩
      have sq3 := sqT_up s1 sq2
      have sqc3 := sqT_up s1 sqc
      have hd3 := s1 _ _ hd
      have z4 : ∀ z ∈ zs, AtF K (upd H p (.tup [.str "and", .str "or"])) z.1 z.2 := fun z hz => (z3 z hz).up s1
      generalize upd H p (.tup [.str "and", .str "or"]) = H1 at *
      refine ⟨_, rfl, b, _, _, _, rfl, rfl, sq3, atI_nat (j := 1) rfl, c2, rfl, ⟨_, sqc3⟩, fun D0 hD0 => lc_gen (xs := zs) (val := Prod.fst) (walk_tup (K := K) (a := c2) (xs := zs.map Prod.fst)) (fun _ => true) _ (keepR_val fun z : V × F Itm => V.str (v3t (ev ρ z.2))) hD0 zl (fun H5 s5 => sqT_up s5 sqc3) ?_ ?_⟩
      · intro z H5 N Y hzm s5 _ _ yes
        refine ⟨rfl, ?_⟩
        unfold tYes
        refine iteT ⟨_, rfl, _, rfl, z.2, z.1, d, kvs, ρ, rfl, (z4 z hzm).up s5, s5 _ _ hd3, (fun a ha => hh a ?_), hg2 _ (inl z hzm), few2 _ (inl z hzm), fun H6 s6 => yes rfl H6 _ s6 rfl⟩
        rw [itm]
        exact List.mem_flatten.mpr ⟨_, List.mem_map.mpr ⟨_, inl z hzm, rfl⟩, ha⟩
      · intro H5 ys s5 hys hpr
        rw [filter_all] at hpr
        have ey := paired_map hpr
        have em : ys = (l.map fun f => ev ρ f).map fun y => V.str (v3t y) := by
          rw [ey, z2, List.map_map, List.map_map]
          rfl
        rw [em] at hys
        have qv : ∀ H', Same H H' → Q (.str (v3t (jn v (l.map fun f => ev ρ f)))) H' := fun H' s => by
          have := q H' s
          rwa [ev] at this
        have sm5 := s1.trans s5
        have sq5 := sqT_up s5 sq3
        generalize (l.map fun f => ev ρ f) = vs at *
        have fin : ∀ (x y : V3) (H6 : Hp), Same H5 H6 → x = strong v → y = (strong v).neg → ∀ (R : V → Hp → Prop), (∀ H', Same H H' → R (.str (v3t (jn v vs))) H') → ∀ D : Ends, D.rt = R →
            tSeq (tIfS (tTest (tOp (rIn K false) (tVar 3) (tVar 2))) (tRet (tVar 3)) tNext)
              (tRet (tIf (tTest (tOp (rIn K false) (tC (.str "unknown")) (tVar 2))) (tC (.str "unknown")) (tVar 4))) D
              [some (.ref b), some (.ref d), some (.ref D0), some (.str (v3t x)), some (.str (v3t y)), none] H6 := by
          intro x y H6 s6 ex ey2 R hR D hD
          subst ex ey2
          have hl := SqL.of (K := K) (s6 _ _ hys)
          have sm6 := sm5.trans s6
          refine ⟨_, rfl, _, rfl, D0, _, rfl, .inl hl, rfl, flat_v3 vs, _, rfl, ?_⟩
          show if inV (.str (v3t (strong v))) (vs.map fun y => V.str (v3t y)) = true then _ else _
          rw [in_v3]
          have qv := hR _ sm6
          unfold jn at qv
          by_cases h1 : strong v ∈ vs
          · rw [decide_eq_true h1]
            rw [if_pos h1] at qv
            refine iteT ⟨_, rfl, ?_⟩
            rw [hD]
            exact qv
          · rw [decide_eq_false h1]
            rw [if_neg h1] at qv
            refine iteF ⟨_, rfl, D0, _, rfl, .inl hl, rfl, flat_v3 vs, _, rfl, ?_⟩
            show if inV (.str (v3t .unk)) (vs.map fun y => V.str (v3t y)) = true then _ else _
            rw [in_v3]
            by_cases h2 : V3.unk ∈ vs
            · rw [decide_eq_true h2]
              rw [if_pos h2] at qv
              refine iteT ?_
              rw [hD]
              exact qv
            · rw [decide_eq_false h2]
              rw [if_neg h2] at qv
              refine iteF ⟨_, rfl, ?_⟩
              rw [hD]
              exact qv
        refine ⟨_, rfl, b, _, _, _, rfl, rfl, sq5, atI_nat (j := 0) rfl, rfl, _, rfl, ?_⟩
        rw [wrd_and v]
        cases v with
        | true =>
          refine iteT ⟨l2, fun p2 hp2 => ⟨p2, _, rfl, SqT.of upd_same, rfl, _, _, rfl, _, _, rfl, rfl, ?_⟩⟩
          exact fin .fls .tru _ (same_new hp2) rfl rfl Q qv _ rfl
        | false =>
          refine iteF ⟨l2, fun p2 hp2 => ⟨p2, _, rfl, SqT.of upd_same, rfl, _, _, rfl, _, _, rfl, rfl, ?_⟩⟩
          exact fin .tru .fls _ (same_new hp2) rfl rfl Q qv _ rfl
end
end Bw

namespace Bw
open PySem PySem.Spec L2 TL PyProof.Rows Ask

theorem stL_get {H : Hp} : ∀ {l : List (F Itm)} {us : List V} {i : Nat} {v : V} {f : F Itm}, StL H l us → us[i]? = some v → l[i]? = some f → St H f v
  | [], us, i, v, f, h, _, e => by simp at e
  | g :: l, us, i, v, f, h, e1, e2 => by
    obtain ⟨u, ur, rfl, a, r⟩ := h
    cases i with
    | zero =>
      cases e1
      cases e2
      exact a
    | succ i => exact stL_get r (by simpa using e1) (by simpa using e2)
theorem stL_pairs {H : Hp} {l : List (F Itm)} {us : List V} (s : StL H l us) : ∀ {ys : List V} {m : List (F Itm)}, Paired (fun v f => ∃ i : Nat, us[i]? = some v ∧ l[i]? = some f) ys m → StL H m ys
  | _, _, .nil => rfl
  | _, _, .cons ⟨i, e1, e2⟩ t => ⟨_, _, rfl, stL_get s e1 e2, stL_pairs s t⟩
theorem stL_zip {H : Hp} : ∀ {l : List (F Itm)} {us : List V}, StL H l us → ∃ zs : List (V × F Itm), us = zs.map Prod.fst ∧ l = zs.map Prod.snd ∧ ∀ z ∈ zs, St H z.2 z.1
  | [], us, h => ⟨[], h, rfl, fun _ z => nomatch z⟩
  | g :: l, us, h => by
    obtain ⟨u, ur, rfl, a, r⟩ := h
    obtain ⟨zs, e1, e2, e3⟩ := stL_zip r
    refine ⟨(u, g) :: zs, by rw [e1]; rfl, by rw [e2]; rfl, fun z hz => ?_⟩
    rcases List.mem_cons.mp hz with rfl | hz
    · exact a
    · exact e3 z hz
theorem stL_paired {H : Hp} {α : Type} {φ : α → F Itm} : ∀ {xs : List α} {ys : List V}, Paired (fun x v => St H (φ x) v) xs ys → StL H (xs.map φ) ys
  | _, _, .nil => rfl
  | _, _, .cons e t => ⟨_, _, rfl, e, stL_paired t⟩
theorem stL_app {H : Hp} : ∀ {l : List (F Itm)} {us : List V} {m : List (F Itm)} {ws : List V}, StL H l us → StL H m ws → StL H (l ++ m) (us ++ ws)
  | [], us, m, ws, h, b => by
    cases h
    exact b
  | g :: l, us, m, ws, h, b => by
    obtain ⟨u, ur, rfl, a, r⟩ := h
    exact ⟨u, ur ++ ws, rfl, a, stL_app r b⟩
theorem tup_offp {D : Addr} {H H2 : Hp} {l : List V} (hl : H D = some (.lst l)) (k : Off D H H2) : ∀ b us, H b = some (.tup us) → H2 b = some (.tup us) := fun b us e => k b _ (fun z => by rw [z, hl] at e; cases e) e
theorem keepR_St {α : Type} (φ : α → F Itm) : KeepR (fun H (x : α) v => St H (φ x) v) := fun H H2 D x v ⟨l, hl⟩ k h => st_up (tup_offp hl k) _ _ h
theorem same_tup {H H2 : Hp} (s : Same H H2) : ∀ b us, H b = some (.tup us) → H2 b = some (.tup us) := fun b us e => s b _ e
theorem five_len {as : List Itm} (nd : as.Nodup) (h : ∀ a ∈ as, a ∈ five) : as.length ≤ 5 := nd.length_le_of_subset (l₂ := five) h
theorem ok_five {a : Itm} (h : a ∈ five) : Ok (.it a) := .it (by
  simp only [five, List.mem_cons, List.not_mem_nil, or_false] at h
  rcases h with rfl | rfl | rfl | rfl | rfl <;> decide +kernel)
def getIt : F Itm → Itm
  | .it a => a
  | _ => .within 0
theorem perm_its {l : List (F Itm)} {as : List Itm} (h : l.Perm (as.map .it)) : ∃ as' : List Itm, l = as'.map .it ∧ as'.Perm as := by
  refine ⟨l.map getIt, ?_, ?_⟩
  · rw [List.map_map]
    have : ∀ f ∈ l, ((F.it ∘ getIt) f : F Itm) = f := fun f hf => by
      obtain ⟨a, _, rfl⟩ := List.mem_map.mp (h.mem_iff.mp hf)
      rfl
    rw [List.map_congr_left (g := id) this, List.map_id]
  · have := h.map getIt
    rw [List.map_map] at this
    rwa [show (getIt ∘ F.it) = id from rfl, List.map_id] at this
theorem it_inj {a : Itm} {as : List Itm} : F.it a ∈ as.map F.it ↔ a ∈ as := by
  constructor
  · intro h
    obtain ⟨b, hb, e⟩ := List.mem_map.mp h
    cases e
    exact hb
  · exact fun h => List.mem_map.mpr ⟨a, h, rfl⟩
/-- a list of items, each but once -/
structure Its (H : Hp) (us : List V) (as : List Itm) (f : F Itm) : Prop where
  st : StL H (as.map .it) us
  nd : as.Nodup
  all : ∀ a, a ∈ as ↔ a ∈ itm f
def spItems (n : Nat) : Sp := fun vs H Q _ => ∃ (f : F Itm) (v : V), vs = [v] ∧ St H f v ∧ Ok f ∧ Hg n f ∧ n ≤ 29 ∧ (∀ a ∈ itm f, a ∈ five) ∧ sz f ≤ 1000 ∧
  ∀ H' p us as, Same H H' → H p = none → H' p = some (.lst us) → Its H' us as f → Q (.ref p) H'
section
variable {P : Program} {w : World} {K : PySem.W.Frag} {mg : Str → Option Value} {base : Heap} {f : Addr} {fd : FuncData} {aO : Addr}
theorem ok_law_items_step (Fo : Fun K "_law_items" "_law_items" s_law_items f fd) (T : Txt w K mg aO) {k n : Nat} {sp : Sp} (D_law_items : Dfn P w K mg base "_law_items" k ["_law_wish_here"] sp) (hsp : ∀ m, n = m + 1 → sp = spItems m) : FnOk P w K mg base CX0 (k + 1) f fd ["_law_wish_here"] (spItems n) := by
  refine Fo.ok sc_law_items (fun vs H Q E h => ?_) (fun cdv A outer s H vs Q E hr h => ?_)
  · obtain ⟨g, v, rfl, _⟩ := h
    rfl
  · obtain ⟨g, v, rfl, sg, okg, hg, hn, hf, hz, q⟩ := h
    have hu5 : (A.deeper (envOfC "_law_items" (defScope s_law_items) s.heap.objs.size f cdv)).units + 65 < cLine := by
      have := hr.un
      omega
    have hu6 : (A.deeper (envOfC "_law_items" (defScope s_law_items) s.heap.objs.size f cdv)).units + 2 + 64 < cLine := by
      have := hr.un
      omega
    refine ⟨_, (pss_cons (ps_if (pt_cmpR op_eq (pe_ix (r := rIxT K) ix_tup (pv 0) pe_int (fun _ _ => rfl)) pe_str (nomark _)) (pss_one (ps_ret (pe_d D_law_items hr (by first | exact Nat.le_refl _ | decide) (pa_cons (pe_ix (r := rIxT K) ix_tup (pv 0) pe_int (fun _ _ => rfl)) pa_nil)))) pss_nil) (pss_cons (ps_if (pt_cmpR (r := rIn K true) op_notIn_seq (pe_ix (r := rIxT K) ix_tup (pv 0) pe_int (fun _ _ => rfl)) (pe_tup (pa_cons pe_str (pa_cons pe_str pa_nil))) rfl) (pss_one (ps_ret (pe_lst (pa_cons (pv 0) pa_nil)))) pss_nil) (pss_cons (ps_set (i := 1) sc_law_items.nd rfl (Or.inr rfl) (pe_lst pa_nil)) (pss_cons (ps_for PassesOwn.never rfl (pi_tup (pe_ix (r := rIxT K) ix_tup (pv 0) pe_int (fun _ _ => rfl))) (pg_name (i := 2) sc_law_items.nd rfl (Or.inl rfl)) (pss_one (ps_expr (pe_bm PySem.F.plainAttrs_list PySem.F.slot_list_extend PySem.F.type_list_extend mt_extend (pv 1) (pa_cons (pe_lc (own := [("_law_item", 3)]) (g := gName 3) (by rfl) sc_law_items.nd (pi_list (pe_d D_law_items hr (by first | exact Nat.le_refl _ | decide) (pa_cons (pv 2) pa_nil))) (blkOk_by (own := [("_law_item", 3)]) (N := n_law_items) (sc := defScope s_law_items) (by decide +kernel)) (fun _ _ _ _ _ => pg_name (i := 3) sc_law_items.nd rfl (Or.inl rfl)) (fun _ _ _ _ _ => (pts_one (pt_cmpR (r := rNotInD K) (op_notInD hu5) (pv 3) (pv 1) rfl))) (fun _ _ _ _ _ => (pv 3))) pa_nil))))) (pss_one (ps_ret (pe_callB (r := Ask.rSortedP K) (Ask.cr_sortedP hu6) (by rfl) T.b_sorted (by decide +kernel) (pa_cons (pv 1) pa_nil)))))))), ?_⟩
    have ag : AtF K H v g := st_at g v sg
    obtain ⟨b, xs, rfl, sq⟩ := ag.word
    have l2 : (2 : Nat) ≤ sizeLine := by decide
    refine ⟨_, rfl, b, _, _, _, rfl, rfl, sq, atI_nat (j := 0) rfl, rfl, _, rfl, ?_⟩
    match g, okg, hg, hf, hz, ag, sg, sq, q with
    | .it a, okg, hg, hf, hz, ag, sg, sq, q =>
      rw [it_not]
      refine iteF ⟨_, rfl, b, _, _, _, rfl, rfl, sq, atI_nat (j := 0) rfl, l2, fun p hp => ⟨p, _, rfl, .inr (SqT.of upd_same), rfl, rfl, _, rfl, ?_⟩⟩
      have s1 := same_new (o := .tup [.str "and", .str "or"]) hp
      show if (!inV (.str (first (.it a))) [.str "and", .str "or"]) = true then _ else _
      rw [it_and]
      refine iteT ⟨_, rfl, (by show 1 ≤ sizeLine; decide), fun p2 hp2 => ?_⟩
      have s2 := same_new (o := .lst [.ref b]) hp2
      refine q _ p2 _ [a] (s1.trans s2) ?_ upd_same ⟨⟨_, _, rfl, st_up (same_tup (s1.trans s2)) _ _ sg, rfl⟩, (by simp), fun x => by rw [itm]⟩
      cases e : H p2 with
      | none => rfl
      | some o => exact absurd (s1 _ _ e) (by rw [hp2]; nofun)
    | .no g2, .no ok2, .no (n := m) hg2, hf, hz, ag, sg, sq, q =>
      obtain ⟨b2, u, e3, hb, sg2⟩ := sg
      cases e3
      obtain rfl := hsp _ rfl
      refine iteT ⟨_, rfl, b, _, _, _, rfl, rfl, SqT.of hb, atI_nat (j := 1) rfl, g2, u, rfl, sg2, ok2, hg2, by omega, (fun a ha => hf a (by rw [itm]; exact ha)), (by rw [sz] at hz; omega), fun H' p us as sm hn2 hp2 its => q H' p us as sm hn2 hp2 ⟨its.st, its.nd, fun a => by rw [its.all, itm]⟩⟩
    | .of v l, .of _ ok2, .of (n := m) _ hg2, hf, hz, ag, sg, sq, q =>
      obtain ⟨b2, c2, us, e3, hb, hc, sl⟩ := sg
      cases e3
      obtain rfl := hsp _ rfl
      rw [of_not]
      refine iteF ⟨_, rfl, b, _, _, _, rfl, rfl, SqT.of hb, atI_nat (j := 0) rfl, l2, fun p hp => ⟨p, _, rfl, .inr (SqT.of upd_same), rfl, rfl, _, rfl, ?_⟩⟩
      have s1 := same_new (o := .tup [.str "and", .str "or"]) hp
      show if (!inV (.str (first (.of v l))) [.str "and", .str "or"]) = true then _ else _
      rw [of_and]
      refine iteF ⟨(by show 0 ≤ sizeLine; decide), fun p1 hp1 => ?_⟩
      have s2 := same_new (o := .lst []) hp1
      have sm := s1.trans s2
      have hp1n : H p1 = none := by
        cases e : H p1 with
        | none => rfl
        | some o => exact absurd (s1 _ _ e) (by rw [hp1]; nofun)
      have h11 : upd (upd H p (.tup [.str "and", .str "or"])) p1 (.lst []) p1 = some (.lst []) := upd_same
      have hb1 := sm _ _ hb
      have hc1 := sm _ _ hc
      have sl1 := stL_up (same_tup sm) _ _ sl
      generalize upd (upd H p (.tup [.str "and", .str "or"])) p1 (.lst []) = H1 at *
      have ncp : c2 ≠ p1 := fun z => by rw [z, h11] at hc1; cases hc1
      have fiveL : ∀ g ∈ l, ∀ a ∈ itm g, a ∈ five := fun g hg3 a ha => hf a (by
        rw [itm]
        exact List.mem_flatten.mpr ⟨_, List.mem_map.mpr ⟨g, hg3, rfl⟩, ha⟩)
      refine ⟨_, rfl, b, _, _, _, rfl, rfl, SqT.of hb1, atI_nat (j := 1) rfl, c2, rfl, ⟨_, SqT.of hc1⟩, for_tup (K := K) (a := c2) (xs := us) (fun i σ H6 => ∃ (ks : List V) (as : List Itm) (o2 : Option V), σ = [some (.ref b), some (.ref p1), o2, none] ∧ Off p1 H1 H6 ∧ H6 p1 = some (.lst ks) ∧ StL H6 (as.map .it) ks ∧ as.Nodup ∧ ∀ a, a ∈ as ↔ ∃ g ∈ l.take i, a ∈ itm g)
        ⟨[], [], _, rfl, Off.refl _ _, h11, rfl, List.nodup_nil, fun a => ⟨fun z => (nomatch z), fun ⟨_, z, _⟩ => (nomatch z)⟩⟩ (fun i σ H6 _ h => by
          obtain ⟨_, _, _, _, off, _⟩ := h
          exact SqT.of (off _ _ ncp hc1)) ?_ ?_⟩
      · rintro i x σ H6 hi ⟨ks, as, o2, rfl, off, hk, sk, nd, al⟩
        have sl6 := stL_up (tup_offp h11 off) _ _ sl1
        have li : i < l.length := by
          have h1 := stL_len sl6
          have h2 := (List.getElem?_eq_some_iff.mp hi).1
          omega
        have hoi : l[i]? = some l[i] := List.getElem?_eq_getElem li
        have so := stL_get sl6 hi hoi
        have om : l[i] ∈ l := List.getElem_mem li
        have step : l.take (i + 1) = l.take i ++ [l[i]] := by
          rw [List.take_add_one, hoi]
          rfl
        generalize l[i] = o at *
        have szo := szs_mem om
        rw [sz_of] at hz
        refine ⟨_, rfl, .inl ⟨rfl, _, SqL.of hk⟩, _, rfl, o, x, rfl, so, ok2 o om, hg2 o om, by omega, fiveL o om, by omega, fun H7 p7 us7 as7 sm7 hn7 hp7 its => ⟨p7, rfl, ⟨_, SqL.of hp7⟩, fun D0 hD0 => ?_⟩⟩
        have off7 := off.trans (Off.same sm7)
        have hk7 := sm7 _ _ hk
        have sk7 := stL_up (same_tup sm7) _ _ sk
        have f7 : ∀ a ∈ as7, a ∈ five := fun a ha => fiveL o om a ((its.all a).mp ha)
        have fas : ∀ a ∈ as, a ∈ five := fun a ha => by
          obtain ⟨g, hg3, hga⟩ := (al a).mp ha
          exact fiveL g (List.mem_of_mem_take hg3) a hga
        obtain ⟨zs, z1, z2, z3⟩ := stL_zip its.st
        have zl : zs.length ≤ 1000 := by
          have h1 := five_len its.nd f7
          have h2 := congrArg List.length z2
          rw [List.length_map, List.length_map] at h2
          omega
        have hp7' : H7 p7 = some (.lst (zs.map Prod.fst)) := z1 ▸ hp7
        refine lc_gen (xs := zs) (val := Prod.fst) (walk_list (K := K) (a := p7) (xs := zs.map Prod.fst)) (fun z => decide (z.2 ∉ as.map F.it)) _ (keepR_St fun z : V × F Itm => z.2) hD0 zl (fun H8 s8 => SqL.of (s8 _ _ hp7')) ?_ ?_
        · intro z H8 N Y hzm s8 _ no yes
          have sz8 := st_up (same_tup s8) _ _ (z3 z hzm)
          have az : AtF K H8 z.1 z.2 := st_at _ _ sz8
          have sk8 := stL_up (same_tup s8) _ _ sk7
          have zin : z.2 ∈ as7.map F.it := by
            rw [z2]
            exact List.mem_map.mpr ⟨z, hzm, rfl⟩
          obtain ⟨a, ha, ea⟩ := List.mem_map.mp zin
          refine ⟨rfl, _, rfl, _, rfl, enc z.2, _, az, .lst (SqL.of (s8 _ _ hk7)) (stL_at _ _ sk8), shd_enc (n := 1) (ea ▸ ok_five (f7 a ha)) (ea ▸ .it 1 a) (by omega), shd_list (n := 1) (fun f hf => ?_) (fun f hf => ?_) (by omega), ?_⟩
          · obtain ⟨a, ha, rfl⟩ := List.mem_map.mp hf
            exact ok_five (fas a ha)
          · obtain ⟨a, ha, rfl⟩ := List.mem_map.mp hf
            exact .it 1 a
          · rw [any_enc]
            refine ⟨_, rfl, ?_⟩
            by_cases hin : z.2 ∈ as.map F.it
            · rw [decide_eq_true hin]
              exact iteF (no (decide_eq_false fun w => w hin) H8 (Same.refl H8))
            · rw [decide_eq_false hin]
              exact iteT ⟨_, rfl, yes (decide_eq_true hin) H8 _ (Same.refl H8) sz8⟩
        · intro H8 ys s8 hys hpr
          have sy := stL_paired hpr
          have ef : (zs.filter fun z => decide (z.2 ∉ as.map F.it)).map (fun z => z.2) = (as7.filter fun a => decide (a ∉ as)).map F.it := by
            have e1 : (zs.filter fun z => decide (z.2 ∉ as.map F.it)).map (fun z => z.2) = (as7.map F.it).filter fun f => decide (f ∉ as.map F.it) := by
              conv => rhs; arg 2; rw [z2]
              rw [List.filter_map]
              rfl
            rw [e1, List.filter_map]
            congr 1
            refine List.filter_congr fun a _ => ?_
            show decide (F.it a ∉ as.map F.it) = _
            rw [decide_eq_decide, it_inj]
          rw [ef] at sy
          have hk8 := s8 _ _ hk7
          have sk8 := stL_up (same_tup s8) _ _ sk7
          have ndn : (as ++ as7.filter fun a => decide (a ∉ as)).Nodup := by
            rw [List.nodup_append]
            refine ⟨nd, its.nd.sublist List.filter_sublist, fun a ha b hb e => ?_⟩
            have := (List.mem_filter.mp hb).2
            rw [decide_eq_true_eq] at this
            exact this (e ▸ ha)
          have fn : ∀ a ∈ as ++ as7.filter (fun a => decide (a ∉ as)), a ∈ five := fun a ha => by
            rcases List.mem_append.mp ha with ha | ha
            · exact fas a ha
            · exact f7 a (List.mem_filter.mp ha).1
          have h5 := five_len ndn fn
          have lk := stL_len sk8
          have ly := stL_len sy
          rw [List.length_map] at lk ly
          rw [List.length_append] at h5
          refine ⟨p1, D0, ks, ys, rfl, rfl, hk8, hys, (by have : (5 : Nat) ≤ sizeLine := by decide
                                                          omega), ?_⟩
          have up8 : ∀ b us, H8 b = some (.tup us) → upd H8 p1 (.lst (ks ++ ys)) b = some (.tup us) := tup_offp hk8 Off.set
          refine ⟨ks ++ ys, as ++ as7.filter (fun a => decide (a ∉ as)), _, rfl, (off7.trans (Off.same s8)).trans Off.set, upd_same, ?_, ndn, fun a => ?_⟩
          · rw [List.map_append]
            exact stL_up up8 _ _ (stL_app sk8 sy)
          · rw [List.mem_append, al, List.mem_filter, decide_eq_true_eq, its.all, step, al]
            constructor
            · rintro (⟨g, hg3, hga⟩ | ⟨hga, _⟩)
              · exact ⟨g, List.mem_append.mpr (.inl hg3), hga⟩
              · exact ⟨o, List.mem_append.mpr (.inr (List.mem_singleton.mpr rfl)), hga⟩
            · rintro ⟨g, hg3, hga⟩
              by_cases ex : ∃ g ∈ l.take i, a ∈ itm g
              · exact .inl ex
              · rcases List.mem_append.mp hg3 with hg3 | hg3
                · exact absurd ⟨g, hg3, hga⟩ ex
                · rw [List.mem_singleton.mp hg3] at hga
                  exact .inr ⟨hga, ex⟩
      · rintro σ H6 ⟨ks, as, o2, rfl, off, hk, sk, nd, al⟩
        have sl6 := stL_up (tup_offp h11 off) _ _ sl1
        rw [stL_len sl6, List.take_length] at al
        have fas : ∀ a ∈ as, a ∈ five := fun a ha => by
          obtain ⟨g, hg3, hga⟩ := (al a).mp ha
          exact fiveL g hg3 a hga
        refine ⟨_, rfl, p1, ks, as.map F.it, 1, rfl, SqL.of hk, stL_at _ _ sk, (fun f hf => ?_), (fun f hf => ?_), by omega, fun ys p9 hpr hp9 => ?_⟩
        · obtain ⟨a, ha, rfl⟩ := List.mem_map.mp hf
          exact ok_five (fas a ha)
        · obtain ⟨a, ha, rfl⟩ := List.mem_map.mp hf
          exact .it 1 a
        · obtain ⟨as9, e9, pm9⟩ := perm_its (List.mergeSort_perm (as.map F.it) leF)
          have s9 := same_new (o := .lst ys) hp9
          have sm6 := off.up sm hp1n
          refine q _ p9 ys as9 (sm6.trans s9) ?_ upd_same ⟨?_, pm9.symm.nodup nd, fun a => ?_⟩
          · cases e : H p9 with
            | none => rfl
            | some o => exact absurd (sm6 _ _ e) (by rw [hp9]; nofun)
          · rw [← e9]
            exact stL_up (same_tup s9) _ _ (stL_pairs sk hpr)
          · rw [pm9.mem_iff, al, itm]
            constructor
            · rintro ⟨g, hg3, hga⟩
              exact List.mem_flatten.mpr ⟨_, List.mem_map.mpr ⟨g, hg3, rfl⟩, hga⟩
            · intro h
              obtain ⟨ys, hy, ha⟩ := List.mem_flatten.mp h
              obtain ⟨g, hg3, rfl⟩ := List.mem_map.mp hy
              exact ⟨g, hg3, ha⟩
end
end Bw

namespace Bw
open PySem PySem.Spec L2 TL PyProof.Rows Ask

/-- the rows of values -/
def rowsV (ρ : Itm → V3) (as : List Itm) : List (List L2.Key × V) := as.map fun a => (keyI a, V.str (v3t (ρ a)))
/-- dicts that give each item a value -/
def Dcts (H : Hp) (as : List Itm) (ds : List V) : Prop := ∀ v ∈ ds, ∃ (d : Addr) (ρ : Itm → V3), v = .ref d ∧ H d = some (.dT (rowsV ρ as))
def spAllV : Sp := fun vs H Q _ => ∃ (a : Addr) (us : List V) (as : List Itm), vs = [.ref a] ∧ H a = some (.lst us) ∧ StL H (as.map .it) us ∧ as.Nodup ∧ as.length ≤ 5 ∧
  ∀ H' p ds, Same H H' → H p = none → H' p = some (.lst ds) → Dcts H' as ds → Q (.ref p) H'
theorem keyI_inj {a b : Itm} (h : keyI a = keyI b) : a = b := by
  have e : ∀ {x y : Str}, x ≠ y → (Sum.inr x : L2.Key) = .inr y → False := fun n z => n (Sum.inr.inj z)
  cases a <;> cases b <;> simp only [keyI, List.cons.injEq, and_true] at h <;> first
    | (rcases h with ⟨_, h⟩; cases h; rfl)
    | (rcases h with ⟨_, h, h2⟩; cases h; cases h2; rfl)
    | exact (e (by decide +kernel) h.1).elim
    | exact absurd h.2 (by simp)
theorem valV_none {κ : Type} [DecidableEq κ] {kvs : List (κ × V)} {k : κ} (h : k ∉ kvs.map (·.1)) : valV kvs k = none := by
  have := valV_any k kvs
  cases e : valV kvs k with
  | none => rfl
  | some v =>
    rw [e] at this
    obtain ⟨kv, hm, he⟩ := List.any_eq_true.mp this
    exact absurd (List.mem_map.mpr ⟨kv, hm, decide_eq_true_eq.mp he⟩) h
theorem mergeT_app : ∀ (more acc : List (List L2.Key × V)), ((acc ++ more).map (·.1)).Nodup → mergeT acc more = acc ++ more
  | [], acc, _ => by rw [List.append_nil]; rfl
  | p :: more, acc, h => by
    have n : p.1 ∉ acc.map (·.1) := by
      rw [List.map_append, List.map_cons] at h
      exact fun z => (List.nodup_append.mp h).2.2 p.1 z p.1 (List.mem_cons_self ..) rfl
    show mergeT (putK acc p.1 p.2) more = _
    rw [putK_new _ (valV_none n), mergeT_app more _ (by rw [List.append_assoc]; exact h), List.append_assoc]
    rfl
theorem rows_keys (ρ : Itm → V3) (as : List Itm) (h : as.Nodup) : ((rowsV ρ as).map (·.1)).Nodup := by
  unfold rowsV
  rw [List.map_map]
  exact List.Pairwise.map _ (fun a b n e => n (keyI_inj e)) h
theorem rows_step {ρ : Itm → V3} {as : List Itm} {a : Itm} (x : V3) (h : (as ++ [a]).Nodup) : mergeT [] (rowsV ρ as ++ [(keyI a, V.str (v3t x))]) = rowsV (fun b => if b = a then x else ρ b) (as ++ [a]) := by
  have e : rowsV ρ as ++ [(keyI a, V.str (v3t x))] = rowsV (fun b => if b = a then x else ρ b) (as ++ [a]) := by
    unfold rowsV
    rw [List.map_append]
    congr 1
    · refine List.map_congr_left fun b hb => ?_
      have : b ≠ a := fun e => (List.nodup_append.mp h).2.2 b hb a (List.mem_singleton.mpr rfl) e
      show _ = (keyI b, V.str (v3t (if b = a then x else ρ b)))
      rw [if_neg this]
    · show _ = [(keyI a, V.str (v3t (if a = a then x else ρ a)))]
      rw [if_pos rfl]
  rw [e, mergeT_app _ [] (by rw [List.nil_append]; exact rows_keys _ _ h), List.nil_append]
theorem rows_val {ρ : Itm → V3} {a : Itm} : ∀ {as : List Itm}, a ∈ as → valV (rowsV ρ as) (keyI a) = some (.str (v3t (ρ a)))
  | b :: as, h => by
    by_cases e : b = a
    · rw [e]
      exact valV_pos rfl
    · rcases List.mem_cons.mp h with h | h
      · exact absurd h.symm e
      · exact (valV_neg (p := (keyI b, V.str (v3t (ρ b)))) (r := rowsV ρ as) fun z => e (keyI_inj z)).trans (rows_val h)
theorem rowsOf_snoc {H : Hp} : ∀ {kvs : List (List L2.Key × V)} {rs : List Row} {kv : List L2.Key × V} {r : Row}, RowsOf H kvs rs → H r.1 = some (.tup (kv.1.map kV)) → r.2 = kv.2 → RowsOf H (kvs ++ [kv]) (rs ++ [r])
  | _, _, _, _, .nil, a, b => .cons ⟨a, b⟩ .nil
  | _, _, _, _, .cons h t, a, b => .cons h (rowsOf_snoc t a b)
theorem rowsOf_up {H H2 : Hp} (s : Same H H2) : ∀ {kvs : List (List L2.Key × V)} {rs : List Row}, RowsOf H kvs rs → RowsOf H2 kvs rs
  | _, _, .nil => .nil
  | _, _, .cons h t => .cons ⟨s _ _ h.1, h.2⟩ (rowsOf_up s t)
theorem pairs_up {H H2 : Hp} (s : Same H H2) : ∀ {ts : List Addr} {rs : List Row}, Paired (fun (t : Addr) (q : Row) => H t = some (.tup [.ref q.1, q.2])) ts rs → Paired (fun (t : Addr) (q : Row) => H2 t = some (.tup [.ref q.1, q.2])) ts rs
  | _, _, .nil => .nil
  | _, _, .cons h t => .cons (s _ _ h) (pairs_up s t)
section
variable {P : Program} {w : World} {K : PySem.W.Frag} {mg : Str → Option Value} {base : Heap} {f : Addr} {fd : FuncData} {aO : Addr}
theorem ok_law_all_values (Fo : Fun K "_law_all_values" "_law_all_values" s_law_all_values f fd) (T : Txt w K mg aO) : FnOk P w K mg base CX0 1 f fd ["_law_items_here"] spAllV := by
  refine Fo.ok sc_law_all_values (fun vs H Q E h => ?_) (fun cdv A outer s H vs Q E hr h => ?_)
  · obtain ⟨a, us, as, rfl, _⟩ := h
    rfl
  · obtain ⟨a, us, as, rfl, ha, sl, nd, h5, q⟩ := h
    have hu2 : (A.deeper (envOfC "_law_all_values" (defScope s_law_all_values) s.heap.objs.size f cdv)).units + 2 < cLine := by
      have := hr.un
      omega
    refine ⟨_, (pss_cons (ps_set (i := 1) sc_law_all_values.nd rfl (Or.inl rfl) (pe_lst (pa_cons pe_dnewT pa_nil))) (pss_cons (ps_for PassesOwn.never rfl (pi_list (pv 0)) (pg_name (i := 2) sc_law_all_values.nd rfl (Or.inr rfl)) (pss_cons (ps_set (i := 3) sc_law_all_values.nd rfl (Or.inl rfl) (pe_lst pa_nil)) (pss_cons (ps_for PassesOwn.never rfl (pi_list (pv 1)) (pg_name (i := 4) sc_law_all_values.nd rfl (Or.inr rfl)) (pss_one (ps_expr (pe_bm PySem.F.plainAttrs_list PySem.F.slot_list_extend PySem.F.type_list_extend mt_extend (pv 3) (pa_cons (pe_lc (own := [("_law_one", 5)]) (g := gName 5) (by rfl) sc_law_all_values.nd (pi_list (pe_lst (pa_cons pe_str (pa_cons pe_str (pa_cons pe_str pa_nil))))) (blkOk_by (own := [("_law_one", 5)]) (N := n_law_all_values) (sc := defScope s_law_all_values) (by decide +kernel)) (fun _ _ _ _ _ => pg_name (i := 5) sc_law_all_values.nd rfl (Or.inl rfl)) (fun _ _ _ _ _ => pts_nil) (fun _ _ _ _ _ => (pe_callTy (r := rDictT K) (call_dictT rfl hu2) (by rfl) T.b_dict (by decide +kernel) (pa_cons (pe_op op_cat (pe_listItemsT rfl (pv 4) rfl T.b_list (by rfl)) (pe_lst (pa_cons (pe_tup (pa_cons (pv 2) (pa_cons (pv 5) pa_nil))) pa_nil))) pa_nil)))) pa_nil))))) (pss_one (ps_set (i := 1) sc_law_all_values.nd rfl (Or.inl rfl) (pv 3)))))) (pss_one (ps_ret (pv 1))))), ?_⟩
    have l1 : (1 : Nat) ≤ sizeLine := by decide
    have l2 : (2 : Nat) ≤ sizeLine := by decide
    have l3 : (3 : Nat) ≤ sizeLine := by decide
    refine fun d0 hd0 => ⟨l1, fun p1 hp1 => ?_⟩
    have s1 := same_new (o := .dT []) hd0
    have s2 := same_new (o := .lst [.ref d0]) hp1
    have hp1n : H p1 = none := by
      cases e : H p1 with
      | none => rfl
      | some o => exact absurd (s1 _ _ e) (by rw [hp1]; nofun)
    refine ⟨_, rfl, a, rfl, ⟨_, SqL.of (s2 _ _ (s1 _ _ ha))⟩, for_list (K := K) (a := a) (xs := us) (fun i σ H2 => ∃ (p1 : Addr) (ds : List V) (o2 o3 o4 : Option V), σ = [some (.ref a), some (.ref p1), o2, o3, o4, none] ∧ Same H H2 ∧ H p1 = none ∧ H2 p1 = some (.lst ds) ∧ Dcts H2 (as.take i) ds ∧ ds.length ≤ 3 ^ i)
      ⟨p1, [.ref d0], _, _, _, rfl, s1.trans s2, hp1n, upd_same, (fun v hv => ⟨d0, fun _ => .unk, List.mem_singleton.mp hv, s2 _ _ upd_same⟩), (by show (1 : Nat) ≤ 1; decide)⟩ (fun i σ H2 _ h => by
        obtain ⟨_, _, _, _, _, _, sm, _⟩ := h
        exact SqL.of (sm _ _ ha)) ?_ ?_⟩
    · rintro i x σ H2 hi ⟨p1, ds, o2, o3, o4, rfl, sm, hn1, hp1, dc, ld⟩
      have sl2 := stL_up (same_tup sm) _ _ sl
      have li : i < as.length := by
        have h1 := stL_len sl2
        have h2 := (List.getElem?_eq_some_iff.mp hi).1
        rw [List.length_map] at h1
        omega
      have hoi : as[i]? = some as[i] := List.getElem?_eq_getElem li
      have so := stL_get sl2 hi (by rw [List.getElem?_map, hoi]; rfl)
      have step : as.take (i + 1) = as.take i ++ [as[i]] := by
        rw [List.take_add_one, hoi]
        rfl
      have ndi : (as.take i ++ [as[i]]).Nodup := step ▸ nd.sublist (List.take_sublist _ _)
      rw [step]
      generalize as[i] = it at *
      obtain ⟨bi, rfl, hbi⟩ := so
      refine ⟨(by show 0 ≤ sizeLine; decide), fun p3 hp3 => ?_⟩
      have s3 := same_new (o := .lst []) hp3
      have sm3 := sm.trans s3
      have n13 : p1 ≠ p3 := fun z => by rw [z, hp3] at hp1; cases hp1
      have hn3 : H p3 = none := by
        cases e : H p3 with
        | none => rfl
        | some o => exact absurd (sm _ _ e) (by rw [hp3]; nofun)
      have hp13 := s3 _ _ hp1
      have h33 : upd H2 p3 (.lst []) p3 = some (.lst []) := upd_same
      have dc3 : Dcts (upd H2 p3 (.lst [])) (as.take i) ds := fun v hv => by
        obtain ⟨d, ρ, e, h⟩ := dc v hv
        exact ⟨d, ρ, e, s3 _ _ h⟩
      have hbi3 := s3 _ _ hbi
      generalize upd H2 p3 (.lst []) = H3 at *
      refine ⟨_, rfl, p1, rfl, ⟨_, SqL.of hp13⟩, for_list (K := K) (a := p1) (xs := ds) (fun j σ H4 => ∃ (ms : List V) (o4 : Option V), σ = [some (.ref a), some (.ref p1), some (.ref bi), some (.ref p3), o4, none] ∧ Off p3 H3 H4 ∧ H4 p3 = some (.lst ms) ∧ Dcts H4 (as.take i ++ [it]) ms ∧ ms.length = 3 * j)
        ⟨[], _, rfl, Off.refl _ _, h33, (fun _ z => nomatch z), rfl⟩ (fun j σ H4 _ h => by
          obtain ⟨_, _, _, off, _⟩ := h
          exact SqL.of (off _ _ n13 hp13)) ?_ ?_⟩
      · rintro j x σ H4 hj ⟨ms, o4, rfl, off, hm, dm, lm⟩
        have jl := (List.getElem?_eq_some_iff.mp hj).1
        have p35 : 3 ^ i ≤ 243 := by
          have : i ≤ 5 := by omega
          exact Nat.pow_le_pow_right (by decide : 0 < 3) this
        obtain ⟨dx, ρ, rfl, hdx⟩ := dc3 x (List.mem_of_getElem? hj)
        have hdx4 := off _ _ (fun z => by rw [z, h33] at hdx; cases hdx) hdx
        have hbi4 := off _ _ (fun z => by rw [z, h33] at hbi3; cases hbi3) hbi3
        refine ⟨_, rfl, .inl ⟨rfl, _, SqL.of hm⟩, l3, fun pl hpl => ?_⟩
        have s4 := same_new (o := .lst [.str "false", .str "true", .str "unknown"]) hpl
        have hpl4 : upd H4 pl (.lst [.str "false", .str "true", .str "unknown"]) pl = some (.lst ([V3.fls, .tru, .unk].map fun x => V.str (v3t x))) := upd_same
        have off4 := off.trans (Off.same s4)
        have hm4 := s4 _ _ hm
        have hdx5 := s4 _ _ hdx4
        have hbi5 := s4 _ _ hbi4
        have dm4 : Dcts (upd H4 pl (.lst [.str "false", .str "true", .str "unknown"])) (as.take i ++ [it]) ms := fun v hv => by
          obtain ⟨d, ρ, e, h⟩ := dm v hv
          exact ⟨d, ρ, e, s4 _ _ h⟩
        generalize upd H4 pl (.lst [.str "false", .str "true", .str "unknown"]) = H5 at *
        refine ⟨pl, rfl, ⟨_, SqL.of hpl4⟩, fun D0 hD0 => lc_gen (xs := [V3.fls, .tru, .unk]) (val := fun x => V.str (v3t x)) (walk_list (K := K) (a := pl) (xs := [V3.fls, .tru, .unk].map fun x => V.str (v3t x))) (fun _ => true) (fun H (x : V3) v => ∃ (d : Addr), v = .ref d ∧ H d = some (.dT (rowsV (fun b => if b = it then x else ρ b) (as.take i ++ [it]))))
          (fun H H2 D x v ⟨l, hl⟩ k ⟨d, e, h⟩ => ⟨d, e, k _ _ (fun z => by rw [z, hl] at h; cases h) h⟩) hD0 (by show (3 : Nat) ≤ 1000; decide) (fun H6 s6 => SqL.of (s6 _ _ hpl4)) ?_ ?_⟩
        · intro y H6 N Y hym s6 _ _ yes
          refine ⟨rfl, ?_⟩
          unfold tYes
          refine iteT ⟨_, rfl, dx, _, rfl, s6 _ _ hdx5, fun H7 p7 ts rs k7 hn7 hts np7 hp7 pts prs => ⟨_, rfl, _, rfl, l2, fun t ht => ⟨l1, fun l hl => ?_⟩⟩⟩
          have a1 := same_new (o := .tup [.ref bi, .str (v3t y)]) ht
          have a2 := same_new (o := .lst [.ref t]) hl
          have lts : ts.length = i := by
            have h1 := pts.length
            have h2 := prs.length
            unfold rowsV at h2
            rw [List.length_map, List.length_take] at h2
            omega
          refine ⟨p7, l, _, _, rfl, rfl, a2 _ _ (a1 _ _ hp7), upd_same, (by
            rw [List.length_map]
            show ts.length + 1 ≤ sizeLine
            have : (6 : Nat) ≤ sizeLine := by decide
            omega), fun pc hpc => ?_⟩
          have a3 := same_new (o := .lst (ts.map V.ref ++ [.ref t])) hpc
          have a13 := (a1.trans a2).trans a3
          have hk7 : Same H6 H7 := k7
          refine ⟨pc, ts ++ [t], rs ++ [(bi, .str (v3t y))], rowsV ρ (as.take i) ++ [(keyI it, .str (v3t y))], rfl, SqL.of (by rw [List.map_append]; exact upd_same), ?_, rowsOf_snoc (rowsOf_up (hk7.trans a13) prs) (a13 _ _ (hk7 _ _ (s6 _ _ hbi5))) rfl, fun pd hpd => ?_⟩
          · exact paired_snoc (pairs_up a13 pts) ((a2.trans a3) _ _ upd_same)
          · rw [rows_step y ndi]
            exact yes rfl _ _ ((hk7.trans a13).trans (same_new hpd)) ⟨pd, rfl, upd_same⟩
        · intro H6 ys s6 hys hpr
          rw [filter_all] at hpr
          have ly := hpr.length
          refine ⟨p3, D0, ms, ys, rfl, rfl, s6 _ _ hm4, hys, (by
            have h1 : ys.length = 3 := ly.symm
            have h2 : (1000 : Nat) ≤ sizeLine := by decide
            omega), ms ++ ys, _, rfl, (off4.trans (Off.same s6)).trans Off.set, upd_same, fun v hv => ?_, by
              have h1 : ys.length = 3 := ly.symm
              rw [List.length_append]
              omega⟩
          have hm6 := s6 _ _ hm4
          have stay : ∀ (d : Addr) (o : List (List L2.Key × V)), H6 d = some (.dT o) → upd H6 p3 (.lst (ms ++ ys)) d = some (.dT o) := fun d o e => (upd_ne (fun z => by rw [z, hm6] at e; cases e)).trans e
          rcases List.mem_append.mp hv with hv | hv
          · obtain ⟨d, ρ, e, h⟩ := dm4 v hv
            exact ⟨d, ρ, e, stay _ _ (s6 _ _ h)⟩
          · have : ∀ {xs : List V3} {ys : List V}, Paired (fun (x : V3) v => ∃ (d : Addr), v = .ref d ∧ H6 d = some (.dT (rowsV (fun b => if b = it then x else ρ b) (as.take i ++ [it])))) xs ys → v ∈ ys → ∃ (d : Addr) (ρ : Itm → V3), v = .ref d ∧ H6 d = some (.dT (rowsV ρ (as.take i ++ [it]))) := by
              intro xs ys hp
              induction hp with
              | nil => exact fun z => nomatch z
              | cons h t ih =>
                intro hv
                rcases List.mem_cons.mp hv with rfl | hv
                · obtain ⟨d, e, h⟩ := h
                  exact ⟨d, _, e, h⟩
                · exact ih hv
            obtain ⟨d, ρ, e, h⟩ := this hpr hv
            exact ⟨d, ρ, e, stay _ _ h⟩
      · rintro σ H4 ⟨ms, o4, rfl, off, hm, dm, lm⟩
        refine ⟨_, rfl, p3, ms, _, _, _, rfl, off.up sm3 hn3, hn3, hm, dm, ?_⟩
        rw [lm, Nat.pow_succ]
        omega
    · rintro σ H2 ⟨p1, ds, o2, o3, o4, rfl, sm, hn1, hp1, dc, ld⟩
      have e : us.length = as.length := by
        have := stL_len sl
        rwa [List.length_map] at this
      rw [e, List.take_length] at dc
      exact ⟨_, rfl, q H2 p1 ds sm hn1 hp1 dc⟩
end
end Bw

namespace Bw
open PySem PySem.Spec L2 LamX TL PyProof.Rows Ask

/-! ### what a call tells -/
structure ToldF (K : PySem.W.Frag) (mg : Str → Option Value) (C : Addr) : Prop where
  g : mg "TooMany" = some (.ref C)
  e : PySem.W.exmOne K (.ref C) (.ref C) = some true
  x : XfC K C
  n : PySem.W.findIn K (.ref C) "most" = some none
def ToldW (C : Addr) (Q : VK) : XK := fun cls d H' => cls = .ref C ∧ ∃ dd, d = some dd ∧ H' dd = some (.xd [("most", .int 32)]) ∧ Q (.str "many 32") H'
def TTold (C : Addr) : (XK → Hp → VK → Prop) → Hp → VK → Prop := fun tl H Q => tl (ToldW C Q) H Q
section
variable {X : Cx} {C : Addr} {gM : Addr} {cdM : Value} {q : Str}
theorem told_gives (M : ToldF X.K X.mg C) (hstr : X.mg "str" = none) : GivesTo X n_law_told "_law_told" (defScope s_law_told) gM cdM (defBody s_law_told) "_law_call" q (TTold C) := by
  intro f c' s H Q tl act hc h
  refine ⟨_, pss_one (ps_try_mix (X := (cxOf C8.CX0 X.prog X.w X.K X.mg X.base n_law_told "_law_told" (defScope s_law_told) gM cdM X.A X.stack s H C8.E0).nox)
      (tb := fun W D σ H => ∃ Ech : XK, (∀ cls d σ' H', Ech cls d H' → W cls d σ' H') ∧ σ[0]? = some (some (.ref f)) ∧ H c' = some (CodeO c' q) ∧ tl Ech H (fun v H' => D.rt v H'))
      rfl rfl LamX.takes0 (fun W pn xe tk _ => ?_) (HdsM.named (i := 1) ⟨rfl, by decide, .inl M.g⟩ sc_law_told.nd rfl rfl (fun a oe cls d pn hz hf => pss_one (ps_ret (pe_op op_add_str pe_str (pe_callTy (r := rStrB) call_str_ib (by rfl) hstr (by decide +kernel) (pa_cons (pe_xf M.x M.n hz hf (pv 1)) pa_nil))))) HdsM.nil)), ?_⟩
  · refine ⟨fun pins s' σ H' D I h' => ?_⟩
    obtain ⟨Ech, hW, h1, h2, h3⟩ := h'
    exact PSs.run (pss_one (ps_ret (act W pn xe Ech _ _ tk hW))) pins s' σ H' D I ⟨h1, h2, h3⟩
  · refine ⟨ToldW C Q, fun cls d σ' H' hm => ?_, rfl, hc, h⟩
    obtain ⟨rfl, dd, rfl, hx, fin⟩ := hm
    refine ⟨true, M.e, iteT fun a na hl => ?_⟩
    have s1 : (σ'.set 1 (some (V.ref a)))[1]? = some (some (V.ref a)) := by
      rw [List.getElem?_set_self (by rw [hl]; show 1 < n_law_told.length; decide)]
    refine ⟨.ref a, s1, rfl, rfl, dd, _, .int 32, rfl, hx, rfl, .inl ⟨_, rfl, by decide, ?_⟩⟩
    refine ⟨_, _, rfl, rfl, by decide +kernel, ?_⟩
    exact fin
/-- what the def that makes lambdas needs -/
structure LmT (X : Cx) (T : List (Addr × Str)) (C : Addr) : Prop where
  call : ∃ (gM : Addr) (fdM : FuncData), Fun X.K "_law_told" "_law_told" s_law_told gM fdM ∧ X.mg "_law_told" = some (.ref gM) ∧ Binds X.K fdM ["_law_call"] []
  met : ToldF X.K X.mg C
  str : X.mg "str" = none
  tab : ∃ c P : Addr, TabB X.base X.mg c P ∧ X.env.code = .ref c ∧ (P, X.env.qual ++ "<lambda>") ∈ T ∧ ∀ p ∈ T, p.1 = P → p.2 = X.env.qual ++ "<lambda>"
end
section
variable {X : Cx} {T : List (Addr × Str)} {C : Addr} {k : Nat} {params : Arguments} {body : Expr} {scope : Scope} {t : XK → TE} {p lpos pos dp : Pos} {n : Int} {j : Nat} {a : Str}
theorem pe_told0 (LX : LmT X T C) (hr : Room (k + 2) X.A) (inner : ∀ (A : Around) (outer : List Env) (s : Shared) (H : Hp) (E : XK) (f c' : Addr), Room k (A.deeper (lamEnv X scope s.heap.objs.size f c')) → PE (lamCx X A outer s H E scope f c') body (t E))
    {sc : Scope} (L : lamSB sc scope = true := by decide +kernel) (hsc : X.env.scope = sc := by rfl) (hdef : defaultsOf params X.env = ([], []) := by rfl)
    (hbind : ∀ (q : Str) (cl : List (Str × Addr)) (pm cv ctv : Value), bindArgs (PySem.W.kla_fn "<lambda>" q params body scope cl pm cv ctv) ⟨[], []⟩ = pure [] := by intros; rfl) (hg : Gl X "_law_told" := by rfl) :
    PE X (.Call (.Name "_law_told" p) [.Lambda params body scope lpos] [] pos) (tLam T (TTold C) t) := by
  subst hsc
  obtain ⟨gM, fdM, F, m, b⟩ := LX.call
  obtain ⟨c, P, TB, hcode, mem, only⟩ := LX.tab
  obtain ⟨oc, od, kV, doc, pm, an, cdv, ct, osl, rfl, lk, hcd⟩ := F.ex
  exact pe_lamcall hg m F.kp lk hcd b sc_law_told rfl (.inl rfl) (told_gives LX.met LX.str) TB hcode mem only hr (lamS_by L) hdef hbind inner
theorem pe_told1 (LX : LmT X T C) (hr : Room (k + 2) X.A) (inner : ∀ (A : Around) (outer : List Env) (s : Shared) (H : Hp) (E : XK) (f c' : Addr), Room k (A.deeper (lamEnv X scope s.heap.objs.size f c')) → PE (lamCx X A outer s H E scope f c') body (t E))
    {sc : Scope} {Nn : List Str} (L : lamPB sc scope "_law_one" = true := by decide +kernel) (nop : ("_law_one" : Str) ∉ Nn := by decide) (hsc : X.env.scope = sc := by rfl) (hNn : X.N = Nn := by rfl) (hdf : params.defaults = [.Constant (.int n) j dp] := by rfl) (hkd : params.kw_defaults = [] := by rfl)
    (hbp : BindP params body scope "_law_one" := by intro q cl t doc pm cv ctv v sh h; exact BindsTo.of_defaults rfl h rfl rfl rfl) (hg : Gl X "_law_told" := by rfl) :
    PE X (.Call (.Name "_law_told" p) [.Lambda params body scope lpos] [] pos) (tLam T (TTold C) t) := by
  subst hsc hNn
  obtain ⟨gM, fdM, F, m, b⟩ := LX.call
  obtain ⟨c, P, TB, hcode, mem, only⟩ := LX.tab
  obtain ⟨oc, od, kV, doc, pm, an, cdv, ct, osl, rfl, lk, hcd⟩ := F.ex
  exact pe_lampcall hg m F.kp lk hcd b sc_law_told rfl (.inl rfl) (told_gives LX.met LX.str) TB hcode mem only hr (lamP_by L) nop hdf hkd hbp inner
end
end Bw

namespace Bw
open PySem PySem.Spec L2 LamX TL PyProof.Rows Ask

theorem extN_same {H H' : Hp} (s : Same H H') : ExtN H H' := fun b o e _ => s b o e
theorem tabs_new {T : List (Addr × Str)} {H : Hp} {p : Addr} {o : HO} (t : Tabs T H) (n : H p = none) : Tabs T (upd H p o) := t.ext (same_new n)
theorem sqT_upN {K : PySem.W.Frag} {H H' : Hp} {a : Addr} {us : List V} (s : ExtN H H') (q : SqT K H a us) : SqT K H' a us := by
  rcases q with (q | ⟨z, q⟩) | q
  · exact .inl (.inl (s _ _ q nofun))
  · exact .inl (.inr ⟨z, s _ _ q nofun⟩)
  · exact .inr q
mutual
theorem dp_upN {K : PySem.W.Frag} {H H2 : Hp} (s : ExtN H H2) : ∀ (d : PyData) (v : V), tame d = true → Dp K H v d → Dp K H2 v d
  | .int _, _, _, h => by cases h; exact .int _
  | .str _, _, _, h => by cases h; exact .str _
  | .tuple ds, _, t, h => by
    cases h with
    | tup q r => exact .tup (sqT_upN s q) (dpAll_upN s ds _ (by simpa [tame] using t) r)
  | .none, _, t, _ => absurd t (by simp [tame])
  | .bool _, _, t, _ => absurd t (by simp [tame])
  | .list _, _, t, _ => absurd t (by simp [tame])
  | .dict _, _, t, _ => absurd t (by simp [tame])
theorem dpAll_upN {K : PySem.W.Frag} {H H2 : Hp} (s : ExtN H H2) : ∀ (ds : List PyData) (vs : List V), tameAll ds = true → DpAll K H vs ds → DpAll K H2 vs ds
  | [], _, _, h => by cases h; exact .nil
  | d :: ds, _, t, h => by
    have t2 : tame d = true ∧ tameAll ds = true := by simpa [tameAll] using t
    cases h with
    | cons a r => exact .cons (dp_upN s d _ t2.1 a) (dpAll_upN s ds _ t2.2 r)
end
theorem Ask.AtF.upN {K : PySem.W.Frag} {H H' : Hp} {v : V} {f : F Itm} (h : AtF K H v f) (e : ExtN H H') : AtF K H' v f := dp_upN e _ _ (tame_enc f) h
theorem extN_tup {H H' : Hp} (e : ExtN H H') : ∀ b us, H b = some (.tup us) → H' b = some (.tup us) := fun b us h => e b _ h nofun
/-! ### the law's askings are good -/
theorem good_five {a : Itm} (h : a ∈ five) : goodI a = true ∧ txI a := by
  simp only [five, List.mem_cons, List.not_mem_nil, or_false] at h
  rcases h with rfl | rfl | rfl | rfl | rfl
  · exact ⟨by decide +kernel, by unfold Sgn; decide +kernel, by decide +kernel⟩
  · exact ⟨by decide +kernel, by unfold Sgn; decide +kernel, by decide +kernel⟩
  · exact ⟨by decide +kernel, ⟨by unfold Sgn; decide +kernel, by decide +kernel⟩, by decide +kernel⟩
  · exact ⟨by decide +kernel, by unfold Sgn; decide +kernel, by decide +kernel⟩
  · exact ⟨by decide +kernel, trivial⟩
theorem five_all : ∀ f : F Itm, (∀ a ∈ itm f, a ∈ five) → goodF f = true ∧ Tx f ∧ Ok f := by
  intro f
  induction f using enc.induct with
  | case1 a =>
    intro h
    have h1 := h a (by rw [itm]; exact List.mem_singleton.mpr rfl)
    have h2 := good_five h1
    rw [goodF]
    exact ⟨h2.1, .it h2.2, ok_five h1⟩
  | case2 f ih =>
    intro h
    have := ih fun a ha => h a (by rw [itm]; exact ha)
    rw [goodF]
    exact ⟨this.1, .no this.2.1, .no this.2.2⟩
  | case3 w l ih =>
    intro h
    have all : ∀ f ∈ l, goodF f = true ∧ Tx f ∧ Ok f := fun f hf => ih f hf fun a ha => h a (by
      rw [itm]
      exact List.mem_flatten.mpr ⟨_, List.mem_map.mpr ⟨f, hf, rfl⟩, ha⟩)
    rw [goodF]
    refine ⟨?_, .of w fun f hf => (all f hf).2.1, .of w fun f hf => (all f hf).2.2⟩
    rw [List.all_map, List.all_eq_true]
    exact fun f hf => (all f hf).1
theorem itm_of {w : Bool} {l : List (F Itm)} {a : Itm} : a ∈ itm (.of w l) ↔ ∃ f ∈ l, a ∈ itm f := by
  rw [itm]
  constructor
  · intro h
    obtain ⟨ys, hy, ha⟩ := List.mem_flatten.mp h
    obtain ⟨g, hg, rfl⟩ := List.mem_map.mp hy
    exact ⟨g, hg, ha⟩
  · exact fun ⟨f, hf, ha⟩ => List.mem_flatten.mpr ⟨_, List.mem_map.mpr ⟨f, hf, rfl⟩, ha⟩
theorem itm_rows {w : Bool} {m r : F Itm} {a : Itm} (h : r ∈ rowsOf w m) (ha : a ∈ itm r) : a ∈ itm m := by
  by_cases e : root w m
  · cases m with
    | it a => exact e.elim
    | no f => exact e.elim
    | of v l =>
      have : v = w := e
      subst this
      rw [rowsOf_of] at h
      exact itm_of.mpr ⟨r, h, ha⟩
  · rw [rowsOf_not e] at h
    rw [List.mem_singleton.mp h] at ha
    exact ha
theorem itm_ended {le : F Itm → F Itm → Bool} {w : Bool} {ms : List (F Itm)} {a : Itm} (h : a ∈ itm (ended le w ms)) : ∃ m ∈ ms, a ∈ itm m := by
  unfold ended at h
  split at h
  · obtain ⟨f, hf, _⟩ := itm_of.mp h
    exact nomatch hf
  · split at h
    · rename_i k e
      have : k ∈ ms.filter fun m => !needless (!w) m ms := by rw [e]; exact List.mem_cons_self ..
      exact ⟨k, (List.mem_filter.mp this).1, h⟩
    · obtain ⟨f, hf, ha⟩ := itm_of.mp h
      exact ⟨f, (List.mem_filter.mp ((List.mergeSort_perm _ le).mem_iff.mp hf)).1, ha⟩
theorem itm_put {le : F Itm → F Itm → Bool} {a : Itm} : ∀ {f : F Itm}, a ∈ itm (put le f) → a ∈ itm f := by
  intro f
  induction f using enc.induct with
  | case1 b => rw [put]; exact id
               nofun
  | case2 f ih => rw [put]; exact id
                  nofun
  | case3 w l ih =>
    rw [put]
    intro h
    obtain ⟨m, hm, ha⟩ := itm_ended h
    obtain ⟨g, hg, hr⟩ := mem_opened.mp hm
    obtain ⟨f, hf, rfl⟩ := List.mem_map.mp hg
    exact itm_of.mpr ⟨f, hf, ih f hf (itm_rows hr ha)⟩
theorem itm_pushed {a : Itm} (f : F Itm) (t : Bool) : a ∈ itm (pushed f t) → a ∈ itm f := by
  induction f, t using pushed.induct with
  | case1 b =>
    rw [pushed, if_pos rfl]
    exact fun h => by rwa [itm] at h
  | case2 b t h => rw [pushed, if_neg h]; exact id
  | case3 f t ih =>
    rw [pushed]
    intro h
    rw [itm]
    exact ih h
  | case4 w l t ih =>
    rw [pushed]
    intro h
    obtain ⟨g, hg, ha⟩ := itm_of.mp h
    obtain ⟨f, hf, rfl⟩ := List.mem_map.mp hg
    exact itm_of.mpr ⟨f, hf, ih f hf ha⟩
theorem dep_hg {n : Nat} {f : F Itm} (h : Hg n f) : depF f ≤ n + 1 := by
  induction h with
  | it n a => rw [depF]; omega
  | no h ih => rw [depF]; omega
  | of w h ih =>
    rw [depF, Nat.add_le_add_iff_right]
    refine foldr_max.mpr fun x hx => ?_
    obtain ⟨g, hg, rfl⟩ := List.mem_map.mp hx
    exact ih g hg
theorem psh_nrm {le : F Itm → F Itm → Bool} {f : F Itm} (h : Nrm le f) : Psh f := by
  induction h with
  | it a => exact .it a
  | no a => exact .no a
  | of w each rt sorted nd zero need len ih => exact .of w ih
/-- the normal form -/
abbrev nf (f : F Itm) (t : Bool) : F Itm := put leF (pushed f t)
theorem nf_nrm (f : F Itm) (t : Bool) : Nrm leF (nf f t) := put_nrm ord_leF (psh_pushed f t)
theorem nf_fix (f : F Itm) (t : Bool) : nf (nf f t) false = nf f t := by
  have := nf_nrm f t
  unfold nf at *
  rw [pushed_psh (psh_nrm this), put_self this]
theorem nf_ev (ρ : Itm → V3) (f : F Itm) (t : Bool) : ev ρ (nf f t) = if t then (ev ρ f).neg else ev ρ f := by
  rw [ev_put ord_leF (psh_pushed f t), ev_pushed]
theorem flt_by {f : F Itm} (h : ∀ a ∈ itm f, a ∈ five) (d : depF f ≤ 6) (z : sz f ≤ 32) : fltG (.f f) = true := by
  unfold fltG
  rw [Bool.and_eq_true, Bool.and_eq_true, decide_eq_true_eq, decide_eq_true_eq]
  exact ⟨(five_all f h).1, d, z⟩
theorem atG_by {K : PySem.W.Frag} {H : Hp} {v : V} {f : F Itm} {n : Nat} (a : AtF K H v f) (h : ∀ a ∈ itm f, a ∈ five) (g : Hg n f) (hn : n ≤ 30) : AtG K H v (.f f) := ⟨a, (five_all f h).2.1, (five_all f h).2.2, g.up hn⟩
theorem ne_same {x : Str} : (!decide (V.str x = V.str x)) = false := by rw [decide_eq_true rfl]; rfl
theorem rows_holds {ρ : Itm → V3} {as : List Itm} {f : F Itm} (h : ∀ a ∈ itm f, a ∈ as) : Holds ρ (rowsV ρ as) f := fun a ha => rows_val (h a ha)
def spRight (T : List (Addr × Str)) : Sp := fun vs H Q _ => ∃ (f : F Itm) (v : V), vs = [v] ∧ St H f v ∧ Wsh 4 f ∧ Tabs T H ∧ ∀ H', ExtN H H' → Tabs T H' → Q (.bl true) H'
/-- what is wanted of the maker's surroundings -/
structure LmG (K : PySem.W.Frag) (mg : Str → Option Value) (base : Heap) (T : List (Addr × Str)) (C : Addr) (c : Addr) (q : Str) : Prop where
  call : ∃ (gM : Addr) (fdM : FuncData), Fun K "_law_told" "_law_told" s_law_told gM fdM ∧ mg "_law_told" = some (.ref gM) ∧ Binds K fdM ["_law_call"] []
  met : ToldF K mg C
  tab : ∃ P : Addr, TabB base mg c P ∧ (P, q) ∈ T ∧ ∀ p ∈ T, p.1 = P → p.2 = q
section
variable {P : Program} {w : World} {K : PySem.W.Frag} {mg : Str → Option Value} {base : Heap} {f c : Addr} {fd : FuncData} {aO C : Addr} {T' : List (Addr × Str)}
theorem ok_law_right (Fo : FunC K "_law_right" "_law_right" s_law_right f fd c) (T : Txt w K mg aO) (LF : LmG K mg base T' C c "_law_right.<locals>.<lambda>")
    (D_normal : DfnX P w K mg base "normal" 10 ["asked"] (spNor K C false)) (D_opposite : DfnX P w K mg base "opposite" 10 ["asked"] (spNor K C true)) (D_is_normal : Dfn P w K mg base "is_normal" 10 ["value"] (spIsN K))
    (D_law_pushed : Dfn P w K mg base "_law_pushed" 5 ["_law_wish_here", "_law_is_turned"] (spPushed K 4)) (D_law_put_right : Dfn P w K mg base "_law_put_right" 7 ["_law_wish_here"] (spLPut K 5)) (D_law_parts : Dfn P w K mg base "_law_parts" 6 ["_law_wish_here"] (spMP K 5))
    (D_law_value : Dfn P w K mg base "_law_value" 6 ["_law_wish_here", "_law_values"] (spLVal K 5)) (D_law_items : Dfn P w K mg base "_law_items" 5 ["_law_wish_here"] (spItems 4)) (D_law_all_values : Dfn P w K mg base "_law_all_values" 1 ["_law_items_here"] spAllV) :
    FnOk P w K mg base CX0 13 f fd ["_law_wish_here"] (spRight T') := by
  refine okG Fo sc_law_right (fun vs H Q E h => ?_) (fun A g outer s H vs Q E hA hr h => ?_)
  · obtain ⟨f, v, rfl, _⟩ := h
    rfl
  · obtain ⟨fo, v, rfl, st, ws, tabs, q⟩ := h
    have LX : LmT (cxOf CX0 P w K mg base n_law_right "_law_right" (defScope s_law_right) f (.ref c) A outer s H E).nox T' C := ⟨LF.call, LF.met, T.b_str, by
      obtain ⟨P, a1, a2, a3⟩ := LF.tab
      exact ⟨c, P, a1, rfl, a2, a3⟩⟩
    refine ⟨_, (pss_cons (ps_par (i := 1) (j := 2) (by rfl) sc_law_right.nd rfl rfl (by decide) rfl rfl (pa_cons (pe_d D_law_put_right hr (by first | exact Nat.le_refl _ | decide) (pa_cons (pe_d D_law_pushed hr (by first | exact Nat.le_refl _ | decide) (pa_cons (pv 0) (pa_cons pe_bl pa_nil))) pa_nil)) (pa_cons (pe_d D_law_put_right hr (by first | exact Nat.le_refl _ | decide) (pa_cons (pe_d D_law_pushed hr (by first | exact Nat.le_refl _ | decide) (pa_cons (pv 0) (pa_cons pe_bl pa_nil))) pa_nil)) pa_nil)) (by rfl)) (pss_cons (ps_if (pt_cmpR (r := rNeD K) (op_neD hr.units) (pe_told0 (sc := defScope s_law_right) LX hr (fun A outer s H E f c' hr2 => pe_dX D_normal (takes_of rfl rfl rfl rfl) hr2 (by decide) (pa_cons (pv 0) pa_nil))) (pe_ifExp (pt_cmpR op_lt (pe_d D_law_parts hr (by first | exact Nat.le_refl _ | decide) (pa_cons (pv 1) pa_nil)) pe_int (nomark _)) (pv 1) pe_str) (nomark _)) (pss_one (ps_ret pe_bl)) pss_nil) (pss_cons (ps_if (pt_cmpR (r := rNeD K) (op_neD hr.units) (pe_told0 (sc := defScope s_law_right) LX hr (fun A outer s H E f c' hr2 => pe_dX D_opposite (takes_of rfl rfl rfl rfl) hr2 (by decide) (pa_cons (pv 0) pa_nil))) (pe_ifExp (pt_cmpR op_lt (pe_d D_law_parts hr (by first | exact Nat.le_refl _ | decide) (pa_cons (pv 2) pa_nil)) pe_int (nomark _)) (pv 2) pe_str) (nomark _)) (pss_one (ps_ret pe_bl)) pss_nil) (pss_cons (ps_if (pt_cmpR op_ne (pe_callB call_repr_bl (by rfl) T.b_repr (by decide +kernel) (pa_cons (pe_d D_is_normal hr (by decide) (pa_cons (pv 0) pa_nil)) pa_nil)) (pe_callB call_repr_bl (by rfl) T.b_repr (by decide +kernel) (pa_cons (pe_cmpR (r := rEqD K) (op_eqD hr.units) (pv 1) (pv 0) (nomark _)) pa_nil)) (nomark _)) (pss_one (ps_ret pe_bl)) pss_nil) (pss_cons (ps_if (PW.pt (pw_and (pt_cmpR op_lt (pe_d D_law_parts hr (by first | exact Nat.le_refl _ | decide) (pa_cons (pv 1) pa_nil)) pe_int (nomark _)) (pw_and1 (PW.pt (pw_or (pt_cmpR (r := rNeD K) (op_neD hr.units) (pe_dX D_normal LamX.takes0 hr (by decide) (pa_cons (pv 1) pa_nil)) (pv 1) (nomark _)) (pw_or1 (pt_cmpR op_isnot_bl (pe_d D_is_normal hr (by decide) (pa_cons (pv 1) pa_nil)) pe_bl (nomark _)))))))) (pss_one (ps_ret pe_bl)) pss_nil) (pss_cons (ps_set (i := 3) sc_law_right.nd rfl (Or.inl rfl) (pe_disp (pps_cons pe_str pe_str (pps_cons pe_str pe_str (pps_cons pe_str pe_str pps_nil))) (by rfl) (by rfl) (fun z => by cases z) (by decide))) (pss_cons (ps_for PassesOwn.never rfl (pi_list (pe_d D_law_all_values hr (by decide) (pa_cons (pe_d D_law_items hr (by first | exact Nat.le_refl _ | decide) (pa_cons (pv 0) pa_nil)) pa_nil))) (pg_name (i := 4) sc_law_right.nd rfl (Or.inl rfl)) (pss_cons (ps_set (i := 5) sc_law_right.nd rfl (Or.inl rfl) (pe_d D_law_value hr (by first | exact Nat.le_refl _ | decide) (pa_cons (pv 0) (pa_cons (pv 4) pa_nil)))) (pss_one (ps_if (PW.pt (pw_or (pt_cmpR op_ne (pe_d D_law_value hr (by first | exact Nat.le_refl _ | decide) (pa_cons (pv 1) (pa_cons (pv 4) pa_nil))) (pv 5) (nomark _)) (pw_or1 (pt_cmpR op_ne (pe_d D_law_value hr (by first | exact Nat.le_refl _ | decide) (pa_cons (pv 2) (pa_cons (pv 4) pa_nil))) (pe_dget (hu_of hr) (pv 3) (pv 5) (fun _ _ => rfl)) (nomark _))))) (pss_one (ps_ret pe_bl)) pss_nil)))) (pss_one (ps_ret pe_bl))))))))), ?_⟩
    have a0 : AtF K H v fo := st_at _ _ st
    have five0 := ws.five
    have ok0 : Ok fo := (five_all fo five0).2.2
    have dep0 : depF fo ≤ 4 := Nat.le_trans ws.deep (by decide)
    have hg4 : Hg 4 fo := hg_dep dep0
    have sz19 : sz fo ≤ 19 := ws.size
    have few0 : Few fo := few_sz (by omega)
    have hgn : ∀ t, Hg 5 (nf fo t) := fun t => hg_put leF (hg_pushed hg4 t)
    have szn : ∀ t, sz (nf fo t) ≤ 38 := fun t => by
      have h1 := sz_pushed fo t
      have h2 := sz_put leF (pushed fo t)
      show sz (put leF (pushed fo t)) ≤ 38
      omega
    have fiven : ∀ t, ∀ a ∈ itm (nf fo t), a ∈ five := fun t a ha => five0 a (itm_pushed fo t (itm_put ha))
    have okn : ∀ t, Ok (nf fo t) := fun t => (five_all _ (fiven t)).2.2
    have flt0 : fltG (.f fo) = true := flt_by five0 (by omega) (by omega)
    have chk : ∀ (t : Bool) (i : Nat) (ui : V) (σ : L2.St) (H1 : Hp) (Qb : Bool → Hp → Prop), σ[0]? = some (some v) → σ[i]? = some (some ui) → AtF K H1 v fo → AtF K H1 ui (nf fo t) → Tabs T' H1 → (∀ H2, ExtN H1 H2 → Tabs T' H2 → Qb false H2) →
        (tTest (tOp (rNeD K) (tLam T' (TTold C) fun E => tCallS (spNor K C t) (WE fun cls d x H => E cls d H) (tCons (tVar 0) tNil))
          (tIf (tTest (tOp (rI0 fun i j => V.bl (decide (i < j))) (tCall (spMP K 5) [] E0 (tCons (tVar i) tNil)) (tC (.int 33)))) (tVar i) (tC (.str "many 32"))))) σ H1 Qb := by
      intro t i ui σ H1 Qb h0 hi av au tb fin
      refine ⟨tb, fun H2 e2 t2 => ?_⟩
      have av2 := av.upN e2
      have au2 := au.upN e2
      refine ⟨v, h0, fo, v, rfl, atG_by av2 five0 hg4 (by omega), flt0, fun hs H3 u3 s3 a3 => ?_, fun hs d H3 s3 hd => ⟨rfl, d, rfl, hd, ?_⟩⟩
      · refine ⟨ui, hi, nf fo t, ui, rfl, au2.up s3, hgn t, by have := szn t; omega, fun H4 s4 => ⟨_, _, rfl, rfl, _, rfl, ?_⟩⟩
        rw [decide_eq_true (by show ((sz (put leF (pushed fo t)) : Nat) : Int) < 33; omega)]
        refine iteT ⟨ui, hi, _, _, a3.up s4, (au2.up s3).up s4, shd_enc (okn t) (hgn t) (by omega), shd_enc (okn t) (hgn t) (by omega), ?_⟩
        rw [eqv_enc, decide_eq_true rfl]
        exact ⟨_, rfl, fin H4 (e2.trans (extN_same (s3.trans s4))) (t2.ext (s3.trans s4))⟩
      · refine ⟨ui, hi, nf fo t, ui, rfl, au2.up s3, hgn t, by have := szn t; omega, fun H4 s4 => ⟨_, _, rfl, rfl, _, rfl, ?_⟩⟩
        rw [decide_eq_false (by show ¬ ((sz (put leF (pushed fo t)) : Nat) : Int) < 33; omega)]
        refine iteF ⟨.str "many 32", .str "many 32", .str _, .str _, by decide +kernel, by decide +kernel, ?_⟩
        rw [SeqAt.eqv_refl _ (by decide +kernel)]
        exact ⟨_, rfl, fin H4 (e2.trans (extN_same (s3.trans s4))) (t2.ext (s3.trans s4))⟩
    refine ⟨_, rfl, fo, v, false, rfl, a0, hg4, few0, fun H1 u1 s1 a1 => ?_⟩
    refine ⟨_, u1, rfl, a1, psh_pushed fo false, ok_pushed_ ok0 false, hg_pushed hg4 false, by omega, (by have := sz_pushed fo false; omega), fun H2 u2 s2 a2 => ?_⟩
    refine ⟨_, rfl, fo, v, true, rfl, (a0.up s1).up s2, hg4, few0, fun H3 u3 s3 a3 => ?_⟩
    refine ⟨_, u3, rfl, a3, psh_pushed fo true, ok_pushed_ ok0 true, hg_pushed hg4 true, by omega, (by have := sz_pushed fo true; omega), fun H4 u4 s4 a4 => ?_⟩
    refine ⟨_, _, rfl, ?_⟩
    have s14 := ((s1.trans s2).trans s3).trans s4
    have a24 := (a2.up s3).up s4
    have a04 := a0.up s14
    refine chk false 1 u2 _ H4 _ rfl rfl a04 a24 (tabs.ext s14) fun H5 e5 t5 => ?_
    refine iteF ?_
    have a05 := a04.upN e5
    have a25 := a24.upN e5
    have a45 := a4.upN e5
    refine chk true 2 u4 _ H5 _ rfl rfl a05 a45 t5 fun H6 e6 t6 => ?_
    refine iteF ?_
    have a06 := a05.upN e6
    have a26 := a25.upN e6
    have a46 := a45.upN e6
    refine ⟨_, rfl, v, .f fo, rfl, atG_by a06 five0 hg4 (by omega), (by show sz fo ≤ 900; omega), fun H7 s7 => ⟨_, rfl, ?_⟩⟩
    have a07 := a06.up s7
    have a27 := a26.up s7
    have a47 := a46.up s7
    refine ⟨_, rfl, _, rfl, _, _, a27, a07, shd_enc (okn false) (hgn false) (by omega), shd_enc ok0 hg4 (by omega), ⟨_, rfl, rfl, _, rfl, ?_⟩⟩
    have en : nrmG (.f fo) = PyData.eqv (enc (nf fo false)) (enc fo) := by
      rw [eqv_enc]
      unfold nrmG
      rw [flt0]
      rfl
    rw [en, ne_same]
    refine iteF ⟨_, rfl, nf fo false, u2, rfl, a27, hgn false, (by have := szn false; omega), fun H8 s8 => ⟨_, _, rfl, rfl, _, rfl, ?_⟩⟩
    have a08 := a07.up s8
    have a28 := a27.up s8
    have a48 := a47.up s8
    have rest : ∀ (H8 : Hp), AtF K H8 v fo → AtF K H8 u2 (nf fo false) → AtF K H8 u4 (nf fo true) → ExtN H H8 → Tabs T' H8 → ∀ D : Ends, (∀ H', ExtN H H' → Tabs T' H' → D.rt (.bl true) H') →
        tSeq (tAsg (tDisp [(tC (.str "true"), tC (.str "false")), (tC (.str "false"), tC (.str "true")), (tC (.str "unknown"), tC (.str "unknown"))]) (gName 3))
          (tSeq (tFor (iList K (tCall spAllV [] E0 (tCons (tCall (spItems 4) [] E0 (tCons (tVar 0) tNil)) tNil))) (gName 4)
            (tSeq (tAsg (tCall (spLVal K 5) [] E0 (tCons (tVar 0) (tCons (tVar 4) tNil))) (gName 5))
              (tIfS (tOr (tTest (tOp rNe (tCall (spLVal K 5) [] E0 (tCons (tVar 1) (tCons (tVar 4) tNil))) (tVar 5)))
                (tTest (tOp rNe (tCall (spLVal K 5) [] E0 (tCons (tVar 2) (tCons (tVar 4) tNil))) (tDGet (tVar 3) (tVar 5))))) (tRet (tC (.bl false))) tNext)))
            (tRet (tC (.bl true)))) D [some v, some u2, some u4, none, none, none] H8 := by
      intro H8 a08 a28 a48 e8 t8 D done
      refine fun p hp => ⟨upd_same, [((.inr "true" : L2.Key), V.str "false"), (.inr "false", .str "true"), (.inr "unknown", .str "unknown")], rfl, by decide, ?_⟩
      have s2 : Same H8 (upd (upd H8 p (.dK [])) p (.dK (mergeK [] [((.inr "true" : L2.Key), V.str "false"), (.inr "false", .str "true"), (.inr "unknown", .str "unknown")]))) := fun c o e => by
        rw [upd_ne (ne_of_none e hp), upd_ne (ne_of_none e hp)]
        exact e
      have hp2 : (upd (upd H8 p (.dK [])) p (.dK (mergeK [] [((.inr "true" : L2.Key), V.str "false"), (.inr "false", .str "true"), (.inr "unknown", .str "unknown")]))) p = _ := upd_same
      generalize upd (upd H8 p (.dK [])) p (.dK (mergeK [] [((.inr "true" : L2.Key), V.str "false"), (.inr "false", .str "true"), (.inr "unknown", .str "unknown")])) = H9 at *
      have st9 : St H9 fo v := st_up (extN_tup (e8.trans (extN_same s2))) _ _ st
      have a09 := a08.up s2
      have a29 := a28.up s2
      have a49 := a48.up s2
      refine ⟨_, rfl, fo, v, rfl, st9, ok0, hg4, by omega, five0, by omega, fun H10 p10 us as s10 hn10 hp10 its => ?_⟩
      have f10 : ∀ a ∈ as, a ∈ five := fun a ha => five0 a ((its.all a).mp ha)
      refine ⟨p10, us, as, rfl, hp10, its.st, its.nd, five_len its.nd f10, fun H11 p11 ds s11 hn11 hp11 dc => ⟨p11, rfl, ⟨_, SqL.of hp11⟩, ?_⟩⟩
      have s911 := s10.trans s11
      have hp3 := s911 _ _ hp2
      have e11 := (e8.trans (extN_same s2)).trans (extN_same s911)
      have t11 := (t8.ext s2).ext s911
      refine for_list (K := K) (a := p11) (xs := ds) (fun i σ H' => ∃ (o4 o5 : Option V), σ = [some v, some u2, some u4, some (.ref p), o4, o5] ∧ Same H11 H') ⟨_, _, rfl, Same.refl _⟩ (fun i σ H' _ h => by
        obtain ⟨_, _, _, sm⟩ := h
        exact SqL.of (sm _ _ hp11)) ?_ ?_
      · rintro i x σ H12 hi ⟨o4, o5, rfl, s12⟩
        obtain ⟨d, ρ, rfl, hd⟩ := dc x (List.mem_of_getElem? hi)
        have a0x := (a09.up s911).up s12
        have a2x := (a29.up s911).up s12
        have a4x := (a49.up s911).up s12
        have hdx := s12 _ _ hd
        have hpx := s12 _ _ hp3
        have asub : ∀ t, ∀ a ∈ itm (nf fo t), a ∈ as := fun t a ha => (its.all a).mpr (itm_pushed fo t (itm_put ha))
        refine ⟨_, rfl, _, rfl, fo, v, d, rowsV ρ as, ρ, rfl, a0x, hdx, rows_holds fun a ha => (its.all a).mpr ha, hg4.up (by omega), few0, fun H13 s13 => ?_⟩
        refine ⟨_, rfl, _, rfl, nf fo false, u2, d, rowsV ρ as, ρ, rfl, a2x.up s13, s13 _ _ hdx, rows_holds (asub false), hgn false, few_sz (by have := szn false; omega), fun H14 s14 => ⟨_, rfl, rfl, _, rfl, ?_⟩⟩
        rw [nf_ev, if_neg Bool.false_ne_true, ne_same]
        refine iteF ⟨_, rfl, _, rfl, nf fo true, u4, d, rowsV ρ as, ρ, rfl, (a4x.up s13).up s14, s14 _ _ (s13 _ _ hdx), rows_holds (asub true), hgn true, few_sz (by have := szn true; omega), fun H15 s15 => ⟨_, rfl, _, rfl, p, _, rfl, .inl ⟨_, .inr (v3t (ev ρ fo)), .inl (s15 _ _ (s14 _ _ (s13 _ _ hpx))), rfl, (exch _).symm⟩, rfl, _, rfl, ?_⟩⟩
        rw [nf_ev, if_pos rfl, ne_same]
        exact iteF ⟨_, _, rfl, ((s12.trans s13).trans s14).trans s15⟩
      · rintro σ H12 ⟨o4, o5, rfl, s12⟩
        exact done _ (e11.trans (extN_same s12)) (t11.ext s12)
    have e68 : ExtN H H8 := ((((extN_same s14).trans e5).trans e6).trans (extN_same s7)).trans (extN_same s8)
    have t8 := (t6.ext s7).ext s8
    by_cases small : ((sz (nf fo false) : Nat) : Int) < 33
    · rw [decide_eq_true small]
      have fltd : fltG (.f (nf fo false)) = true := flt_by (fiven false) (dep_hg (hgn false)) (by omega)
      have same : put leF (pushed (nf fo false) false) = nf fo false := nf_fix fo false
      refine iteT ⟨_, rfl, nf fo false, u2, rfl, atG_by a28 (fiven false) (hgn false) (by omega), fltd, fun hs H9 u9 s9 a9 => ?_, fun hs => absurd hs (by rw [same]; omega)⟩
      rw [same] at a9
      refine ⟨_, rfl, _, _, a9, a28.up s9, shd_enc (okn false) (hgn false) (by omega), shd_enc (okn false) (hgn false) (by omega), ?_⟩
      rw [eqv_enc, decide_eq_true rfl]
      refine ⟨_, rfl, iteF ⟨_, rfl, u2, .f (nf fo false), rfl, atG_by (a28.up s9) (fiven false) (hgn false) (by omega), (by show sz (nf fo false) ≤ 900; omega), fun H10 s10 => ⟨_, _, rfl, rfl, _, rfl, ?_⟩⟩⟩
      have nr : nrmG (.f (nf fo false)) = true := by
        unfold nrmG
        rw [fltd]
        exact decide_eq_true same
      rw [nr]
      refine iteF ?_
      exact rest H10 ((a08.up s9).up s10) ((a28.up s9).up s10) ((a48.up s9).up s10) (e68.trans (extN_same (s9.trans s10))) (t8.ext (s9.trans s10)) _ q
    · rw [decide_eq_false small]
      refine iteF (iteF ?_)
      exact rest H8 a08 a28 a48 e68 t8 _ q
end
end Bw

namespace Bw
open PySem PySem.Spec L2 LamX TL PyProof.Rows Ask SrtO

/-! ### rows of plain members -/
theorem uniq_nil_self {l : List (F Itm)} (h : l.Nodup) : uniq [] l = l := by
  have := uniq_self (l := l) (acc := []) (by simpa using h)
  simpa using this
/-- neither and nor or -/
def Pln (f : F Itm) : Prop := ∀ v m, f ≠ .of v m
theorem put_plain {w : Bool} {l : List (F Itm)} (h : ∀ f ∈ l, Pln f) (nd : l.Nodup) (len : 2 ≤ l.length) : put leF (.of w l) = .of w (l.mergeSort leF) := by
  have e1 : (l.map fun f => put leF f) = l := by
    rw [List.map_congr_left (g := id) fun f hf => ?_, List.map_id]
    cases f with
    | it a => rw [put]; exact rfl
              nofun
    | no f => rw [put]; exact rfl
              nofun
    | of v m => exact absurd rfl (h _ hf v m)
  have e2 : ∀ {l : List (F Itm)}, (∀ f ∈ l, Pln f) → l.flatMap (rowsOf w) = l := by
    intro l
    induction l with
    | nil => exact fun _ => rfl
    | cons x r ih =>
      intro hh
      rw [List.flatMap_cons, rowsOf_not, ih fun y hy => hh y (.tail _ hy)]
      · rfl
      · cases x with
        | it a => exact id
        | no f => exact id
        | of v m => exact absurd rfl (hh _ (List.mem_cons_self ..) v m)
  have e3 : (l.filter fun m => !needless (!w) m l) = l := List.filter_eq_self.mpr fun m hm => by
    cases m with
    | it a => rfl
    | no f => rfl
    | of v m => exact absurd rfl (h _ hm v m)
  rw [put, e1]
  unfold opened
  rw [e2 h, uniq_nil_self nd]
  unfold ended
  rw [if_neg fun z => h _ z _ _ rfl, e3]
  split
  · simp at len
  · rfl
/-- the items within -/
def W27 (n : Nat) : List (F Itm) := (List.range n).map fun j : Nat => F.it (.within (0 + (j : Int) + 1))
def N27 (n : Nat) : List (F Itm) := (W27 n).map fun f => .no f
theorem w27_len (n : Nat) : (W27 n).length = n := by unfold W27; rw [List.length_map, List.length_range]
theorem w27_step (n : Nat) : W27 (n + 1) = W27 n ++ [F.it (.within (0 + (n : Int) + 1))] := by
  unfold W27
  rw [List.range_succ, List.map_append]
  rfl
theorem n27_len (n : Nat) : (N27 n).length = n := by unfold N27; rw [List.length_map, w27_len]
theorem w27_nd (n : Nat) : (W27 n).Nodup := by
  unfold W27
  refine List.Pairwise.map _ (fun a b h e => h ?_) List.nodup_range
  have e1 := F.it.inj e
  have e2 := Itm.within.inj e1
  omega
theorem n27_nd (n : Nat) : (N27 n).Nodup := by
  unfold N27
  exact List.Pairwise.map _ (fun a b h e => h (F.no.inj e)) (w27_nd n)
theorem w27_it {n : Nat} {f : F Itm} (h : f ∈ W27 n) : ∃ j : Nat, j < n ∧ f = .it (.within (0 + (j : Int) + 1)) := by
  obtain ⟨j, hj, rfl⟩ := List.mem_map.mp h
  exact ⟨j, List.mem_range.mp hj, rfl⟩
theorem n27_it {n : Nat} {f : F Itm} (h : f ∈ N27 n) : ∃ j : Nat, j < n ∧ f = .no (.it (.within (0 + (j : Int) + 1))) := by
  obtain ⟨g, hg, rfl⟩ := List.mem_map.mp h
  obtain ⟨j, hj, rfl⟩ := w27_it hg
  exact ⟨j, hj, rfl⟩
theorem n27_pln {n : Nat} : ∀ f ∈ N27 n, Pln f := fun f hf v m e => by
  obtain ⟨j, _, rfl⟩ := n27_it hf
  cases e
theorem w27_szs : ∀ n, szs (W27 n) = n
  | 0 => rfl
  | n + 1 => by
    rw [w27_step, szs_app, w27_szs n, szs_cons, szs_nil, sz]
theorem n27_szs (n : Nat) : szs (N27 n) = 2 * n := by
  have : ∀ l : List (F Itm), szs (l.map fun f => F.no f) = szs l + l.length := fun l => by
    induction l with
    | nil => rfl
    | cons f l ih =>
      rw [List.map_cons, szs_cons, szs_cons, ih, sz, List.length_cons]
      omega
  unfold N27
  rw [this, w27_szs, w27_len]
  omega
theorem w27_pushed (v : Bool) (n : Nat) : pushed (.of v (W27 n)) true = .of (v != true) (N27 n) := by
  rw [pushed]
  congr 1
  unfold N27
  refine List.map_congr_left fun f hf => ?_
  obtain ⟨j, _, rfl⟩ := w27_it hf
  rw [pushed, if_pos rfl]
theorem le_no {a b : Int} (h : a ≤ b) : leF (.no (.it (.within a))) (.no (.it (.within b))) = true := by
  unfold leF
  rw [← plt_lex (tame_enc _) (tame_enc _) (cmp_enc _ _)]
  simp only [enc, plt, pltAll, PyData.eqv, Bool.not_eq_true']
  simp
  intro _
  simp only [encI, plt, pltAll, PyData.eqv]
  simp
  omega
theorem n27_sorted (n : Nat) : (N27 n).Pairwise fun f g => leF f g = true := by
  unfold N27 W27
  rw [List.map_map]
  refine List.Pairwise.map _ (fun a b h => ?_) List.pairwise_lt_range
  exact le_no (by omega)
/-- too many -/
theorem many_20 : 32 < sz (nf (.no (.of true (W27 20))) false) := by
  have e : nf (.no (.of true (W27 20))) false = .of false ((N27 20).mergeSort leF) := by
    show put leF (pushed (.no (.of true (W27 20))) false) = _
    rw [pushed]
    show put leF (pushed (.of true (W27 20)) true) = _
    rw [w27_pushed]
    exact put_plain n27_pln (n27_nd 20) (by rw [n27_len]; decide)
  rw [e, sz_of, szs_perm (List.mergeSort_perm _ leF), n27_szs]
  decide
theorem nf_15 : nf (.of false (W27 15)) true = .of true (N27 15) := by
  show put leF (pushed (.of false (W27 15)) true) = _
  rw [w27_pushed]
  show put leF (.of true (N27 15)) = _
  rw [put_plain n27_pln (n27_nd 15) (by rw [n27_len]; decide), List.mergeSort_of_pairwise (n27_sorted 15)]
theorem sz_15 : sz (.of true (N27 15)) = 31 := by rw [sz_of, n27_szs]
/-! ### good askings -/
theorem all_of : ∀ f : F Itm, (∀ a ∈ itm f, goodI a = true ∧ txI a ∧ okI a = true) → goodF f = true ∧ Tx f ∧ Ok f := by
  intro f
  induction f using enc.induct with
  | case1 a =>
    intro h
    have h1 := h a (by rw [itm]; exact List.mem_singleton.mpr rfl)
    rw [goodF]
    exact ⟨h1.1, .it h1.2.1, .it h1.2.2⟩
  | case2 f ih =>
    intro h
    have := ih fun a ha => h a (by rw [itm]; exact ha)
    rw [goodF]
    exact ⟨this.1, .no this.2.1, .no this.2.2⟩
  | case3 w l ih =>
    intro h
    have all : ∀ f ∈ l, goodF f = true ∧ Tx f ∧ Ok f := fun f hf => ih f hf fun a ha => h a (itm_of.mpr ⟨f, hf, ha⟩)
    rw [goodF]
    refine ⟨?_, .of w fun f hf => (all f hf).2.1, .of w fun f hf => (all f hf).2.2⟩
    rw [List.all_map, List.all_eq_true]
    exact fun f hf => (all f hf).1
theorem w27_good {n : Nat} (hn : n ≤ 20) : ∀ f ∈ W27 n, ∀ a ∈ itm f, goodI a = true ∧ txI a ∧ okI a = true := fun f hf a ha => by
  obtain ⟨j, hj, rfl⟩ := w27_it hf
  rw [itm] at ha
  rw [List.mem_singleton.mp ha]
  refine ⟨?_, trivial, rfl⟩
  unfold goodI
  rw [decide_eq_true_eq]
  omega
theorem w27_all {n : Nat} (hn : n ≤ 20) (v : Bool) : goodF (.of v (W27 n)) = true ∧ Tx (.of v (W27 n)) ∧ Ok (.of v (W27 n)) := all_of _ fun a ha => by
  obtain ⟨f, hf, ha⟩ := itm_of.mp ha
  exact w27_good hn f hf a ha
theorem w27_hg (n : Nat) (v : Bool) : Hg 1 (.of v (W27 n)) := .of v fun f hf => by
  obtain ⟨j, _, rfl⟩ := w27_it hf
  exact .it 0 _
theorem n27_hg (n : Nat) (v : Bool) : Hg 2 (.of v (N27 n)) := .of v fun f hf => by
  obtain ⟨j, _, rfl⟩ := n27_it hf
  exact .no (.it 0 _)
theorem n27_ok {n : Nat} (v : Bool) : Ok (.of v (N27 n)) := .of v fun f hf => by
  obtain ⟨j, _, rfl⟩ := n27_it hf
  exact .no (.it rfl)
theorem flt_20 : fltG (.f (.no (.of true (W27 20)))) = true := by
  unfold fltG
  rw [Bool.and_eq_true, Bool.and_eq_true, decide_eq_true_eq, decide_eq_true_eq]
  refine ⟨?_, ?_, ?_⟩
  · show goodF (.no (.of true (W27 20))) = true
    rw [goodF]
    exact (w27_all (by decide) true).1
  · show depF (.no (.of true (W27 20))) ≤ 6
    have := dep_hg (w27_hg 20 true)
    rw [depF]
    omega
  · show sz (.no (.of true (W27 20))) ≤ 32
    rw [sz, sz_of, w27_szs]
    decide
theorem flt_15 : fltG (.f (.of false (W27 15))) = true := by
  unfold fltG
  rw [Bool.and_eq_true, Bool.and_eq_true, decide_eq_true_eq, decide_eq_true_eq]
  refine ⟨(w27_all (by decide) false).1, ?_, ?_⟩
  · show depF (.of false (W27 15)) ≤ 6
    have := dep_hg (w27_hg 15 false)
    omega
  · show sz (.of false (W27 15)) ≤ 32
    rw [sz_of, w27_szs]
    decide
theorem stL_take {H : Hp} : ∀ (n : Nat) {l : List (F Itm)} {us : List V}, StL H l us → StL H (l.take n) (us.take n)
  | 0, _, _, _ => rfl
  | n + 1, [], us, h => by
    cases h
    exact rfl
  | n + 1, f :: l, us, h => by
    obtain ⟨u, ur, rfl, a, r⟩ := h
    exact ⟨u, ur.take n, rfl, a, stL_take n r⟩
theorem w27_take : (W27 20).take 15 = W27 15 := rfl
theorem flt_bad {a : Itm} (h : goodI a = false) : fltG (.f (.it a)) = false := by
  unfold fltG
  rw [show goodG (.f (.it a)) = goodF (.it a) from rfl, goodF, h]
  rfl
theorem nrm_bad {a : Itm} (h : goodI a = false) : nrmG (.f (.it a)) = false := by
  unfold nrmG
  rw [flt_bad h]
  rfl
theorem szG_it (a : Itm) : szG (.f (.it a)) ≤ 900 := by
  show sz (.it a) ≤ 900
  rw [sz]
  decide
theorem at_it {K : PySem.W.Frag} {H : Hp} {q : Addr} (a : Itm) (h : H q = some (.tup ((keyI a).map kV))) : AtF K H (.ref q) (.it a) := st_at (.it a) _ ⟨q, rfl, h⟩
theorem shd_al : SeqAt.shaped (oddD (.al [.it (.has "a")])) = true := by
  show SeqAt.shaped (.tuple [.str "and", .list [enc (.it (.has "a"))]]) = true
  rw [enc]
  decide +kernel
theorem shd_two {x : Str} {f : F Itm} {n : Nat} (hx : PyData.strOk x = true) (ok : Ok f) (hg : Hg n f) (hn : n ≤ 30) : SeqAt.shaped (.list [.str x, enc f]) = true := by
  have a := lay_enc ok
  have b := depth_enc hg
  have c : (PyData.str x).canLay0 = true := hx
  unfold SeqAt.shaped
  rw [Bool.and_eq_true, decide_eq_true_eq]
  refine ⟨?_, ?_⟩
  · show ((PyData.str x).canLay0 && ((enc f).canLay0 && true)) = true
    rw [a, c]
    rfl
  · show max (PyData.depth (.str x)) (max (enc f).depth 0) + 1 ≤ 64
    have d : PyData.depth (.str x) = 0 := rfl
    rw [d]
    omega
end Bw

namespace Bw
open PySem PySem.Spec L2 LamX TL PyProof.Rows Ask

/-- all but the dice and the tables is as it was -/
def MovN (d : Addr) (H H' : Hp) : Prop := (∀ b o, b ≠ d → H b = some o → (∀ ps, o ≠ .tbl ps) → H' b = some o) ∧ DiceAt H' d
theorem DiceAt.upN {d : Addr} {H H1 : Hp} (h : DiceAt H d) (e : ExtN H H1) : DiceAt H1 d := by
  obtain ⟨x, y, z, q⟩ := h
  exact ⟨x, y, z, e _ _ q nofun⟩
theorem MovN.refl {d : Addr} {H : Hp} (h : DiceAt H d) : MovN d H H := ⟨fun _ _ _ e _ => e, h⟩
theorem MovN.up {d : Addr} {H H1 H2 : Hp} (a : MovN d H H1) (e : ExtN H1 H2) : MovN d H H2 := ⟨fun x o n h k => e x o (a.1 x o n h k) k, a.2.upN e⟩
theorem MovN.mv {d : Addr} {H H1 H2 : Hp} (a : MovN d H H1) (m : Moved d H1 H2) : MovN d H H2 := ⟨fun x o n h k => m.1 x o n (a.1 x o n h k), m.2⟩
theorem tabs_moved {T : List (Addr × Str)} {d : Addr} {H H' : Hp} (t : Tabs T H) (hd : DiceAt H d) (m : Moved d H H') : Tabs T H' := by
  obtain ⟨x, y, z, e⟩ := hd
  intro p hp
  obtain ⟨ps, h1, h2, h3⟩ := t p hp
  refine ⟨ps, m.1 _ _ (fun h => ?_) h1, h2, fun pos cv hc => ?_⟩
  · rw [h, e] at h1
    exact nomatch h1
  · obtain ⟨c, e1, e2⟩ := h3 pos cv hc
    refine ⟨c, e1, m.1 _ _ (fun h => ?_) e2⟩
    rw [h, e] at e2
    exact nomatch e2
theorem ExtN.moved {H0 Ha H1 H2 : Hp} {d : Addr} (e : ExtN H0 Ha) (n : Ha d = none) (s : Same Ha H1) (m : MovN d H1 H2) : ExtN H0 H2 := fun b o h k => m.1 b o (ne_of_none (e b o h k) n) (s b o (e b o h k)) k
theorem SqL.upN {K : PySem.W.Frag} {H H' : Hp} {a : Addr} {xs : List V} (h : SqL K H a xs) (e : ExtN H H') : SqL K H' a xs := by
  rcases h with (h | ⟨o, h⟩) | h
  · exact .inl (.inl (e _ _ h nofun))
  · exact .inl (.inr ⟨o, e _ _ h nofun⟩)
  · exact .inr h
theorem nt_non {K : PySem.W.Frag} {H : Hp} : NotTup K H .non := ⟨_, .base .non, by rfl⟩
theorem nt_int {K : PySem.W.Frag} {H : Hp} (i : Int) : NotTup K H (.int i) := ⟨_, .base (.int i), by rfl⟩
theorem nt_str {K : PySem.W.Frag} {H : Hp} (x : Str) : NotTup K H (.str x) := ⟨_, .base (.str x), by rfl⟩
theorem nt_dct {K : PySem.W.Frag} {H : Hp} {a : Addr} (e : H a = some (.dK [])) : NotTup K H (.ref a) := ⟨_, .base (.dK e), by rfl⟩
def spLawT (K : PySem.W.Frag) (T : List (Addr × Str)) : Sp := fun vs H Q _ => ∃ (a : Addr) (ns : List Int), vs = [.ref a] ∧ SqL K H a (ns.map V.int) ∧ ns.length ≤ 63 ∧ Tabs T H ∧ ∀ H', Q (.bl true) H'
section
variable {P : Program} {w : World} {K : PySem.W.Frag} {mg : Str → Option Value} {base : Heap} {f c : Addr} {fd : FuncData} {aO C : Addr} {T' : List (Addr × Str)}
theorem ok_law (Fo : FunC K "law" "law" s_law f fd c) (T : Txt w K mg aO) (LF : LmG K mg base T' C c "law.<locals>.<lambda>")
    (D_law_dice : Dfn P w K mg base "_law_dice" 1 ["_law_script", "_law_at"] (spDice K)) (D_law_wish : Dfn P w K mg base "_law_wish" 6 ["_law_dice_here", "_law_deep"] (spWish 4)) (D_law_right : Dfn P w K mg base "_law_right" 13 ["_law_wish_here"] (spRight T'))
    (D_normal : DfnX P w K mg base "normal" 10 ["asked"] (spNor K C false)) (D_opposite : DfnX P w K mg base "opposite" 10 ["asked"] (spNor K C true)) (D_is_normal : Dfn P w K mg base "is_normal" 10 ["value"] (spIsN K)) : FnOk P w K mg base CX0 14 f fd ["_law_script"] (spLawT K T') := by
  refine okG Fo sc_law (fun vs H Q E h => ?_) (fun A g outer s H vs Q E hA hr h => ?_)
  · obtain ⟨a, ns, rfl, _⟩ := h
    rfl
  · obtain ⟨a, ns, rfl, hS, hlen, tabs, q⟩ := h
    have LX : LmT (cxOf CX0 P w K mg base n_law "law" (defScope s_law) f (.ref c) A outer s H E).nox T' C := ⟨LF.call, LF.met, T.b_str, by
      obtain ⟨P, a1, a2, a3⟩ := LF.tab
      exact ⟨c, P, a1, rfl, a2, a3⟩⟩
    refine ⟨_, (pss_cons (ps_for PassesOwn.never rfl (pi_range1 (by rfl) T.b_range (pa_cons (pe_callB (call_max2 rfl) (by rfl) T.b_max (by decide +kernel) (pa_cons pe_int (pa_cons (pe_callB (call_min2 rfl) (by rfl) T.b_min (by decide +kernel) (pa_cons pe_int (pa_cons (pe_callB (r := rLenQ K) call_lenQ (by rfl) T.b_len (by decide +kernel) (pa_cons (pv 0) pa_nil)) pa_nil))) pa_nil))) pa_nil)) (pg_name (i := 1) sc_law.nd rfl (Or.inl rfl)) (pss_cons (ps_set (i := 2) sc_law.nd rfl (Or.inl rfl) (pe_d D_law_dice hr (by decide) (pa_cons (pv 0) (pa_cons (pv 1) pa_nil)))) (pss_one (ps_for PassesOwn.never rfl (pi_range1 (by rfl) T.b_range (pa_cons pe_int pa_nil)) (pg_name (i := 3) sc_law.nd rfl (Or.inl rfl)) (pss_one (ps_if (pt_not (pt_val (pe_d D_law_right hr (by decide) (pa_cons (pe_d D_law_wish hr (by first | exact Nat.le_refl _ | decide) (pa_cons (pv 2) (pa_cons pe_int pa_nil))) pa_nil)))) (pss_one (ps_ret pe_bl)) pss_nil)))))) (pss_cons (ps_set (i := 7) sc_law.nd rfl (Or.inr rfl) (pe_callTy call_tuple_of (by rfl) T.b_tuple (by decide +kernel) (pa_cons (pe_lc (own := [("_law_at", 1)]) (g := gName 1) (by rfl) sc_law.nd (pi_range1 (by rfl) T.b_range (pa_cons pe_int pa_nil)) (blkOk_by (own := [("_law_at", 1)]) (N := n_law) (sc := defScope s_law) (by decide +kernel)) (fun _ _ _ _ _ => pg_name (i := 1) sc_law.nd rfl (Or.inl rfl)) (fun _ _ _ _ _ => pts_nil) (fun _ _ _ _ _ => (pe_tup (pa_cons pe_str (pa_cons (pe_op op_add (pv 1) pe_int) pa_nil))))) pa_nil))) (pss_cons (ps_set (i := 4) sc_law.nd rfl (Or.inl rfl) (pe_lst (pa_cons (pe_told0 (sc := defScope s_law) LX hr (fun A outer s H E f c' hr2 => pe_dX D_normal (takes_of rfl rfl rfl rfl) hr2 (by decide) (pa_cons (pe_tup (pa_cons pe_str (pa_cons (pe_tup (pa_cons pe_str (pa_cons (pv 7) pa_nil))) pa_nil))) pa_nil))) (pa_cons (pe_told1 (sc := defScope s_law) (Nn := n_law) LX hr (fun A outer s H E f c' hr2 => pe_dX D_opposite (takes_of rfl rfl rfl rfl) hr2 (by decide) (pa_cons (pe_tup (pa_cons pe_str (pa_cons (pe_slice (r := rSlT K) sl_tup (pv 7) po_none (po_some pe_int)) pa_nil))) pa_nil))) pa_nil)))) (pss_cons (ps_set (i := 5) sc_law.nd rfl (Or.inl rfl) (pe_lst (pa_cons pe_str (pa_cons (pe_tup (pa_cons pe_str (pa_cons (pe_callTy call_tuple_of (by rfl) T.b_tuple (by decide +kernel) (pa_cons (pe_lc (own := [("_law_item", 9)]) (g := gName 9) (by rfl) sc_law.nd (pi_tup (pe_slice sl_tup (pv 7) po_none (po_some pe_int))) (blkOk_by (own := [("_law_item", 9)]) (N := n_law) (sc := defScope s_law) (by decide +kernel)) (fun _ _ _ _ _ => pg_name (i := 9) sc_law.nd rfl (Or.inl rfl)) (fun _ _ _ _ _ => pts_nil) (fun _ _ _ _ _ => (pe_tup (pa_cons pe_str (pa_cons (pv 9) pa_nil))))) pa_nil)) pa_nil))) pa_nil)))) (pss_cons (ps_set (i := 6) sc_law.nd rfl (Or.inl rfl) (pe_lst (pa_cons pe_non (pa_cons pe_int (pa_cons pe_str (pa_cons (pe_tup pa_nil) (pa_cons (pe_tup (pa_cons pe_str pa_nil)) (pa_cons (pe_tup (pa_cons pe_str (pa_cons (pe_lst (pa_cons (pe_tup (pa_cons pe_str (pa_cons pe_str pa_nil))) pa_nil)) pa_nil))) (pa_cons (pe_tup (pa_cons pe_str (pa_cons pe_str pa_nil))) (pa_cons (pe_tup (pa_cons pe_str (pa_cons pe_str (pa_cons pe_str pa_nil)))) (pa_cons (pe_tup (pa_cons pe_str (pa_cons (pe_tup (pa_cons pe_str pa_nil)) pa_nil))) (pa_cons pe_dnewK pa_nil)))))))))))) (pss_one (ps_ret (pe_and (pe_cmpR (r := rEqD K) (op_eqD hr.units) (pv 4) (pv 5) (nomark _)) (pe_one (pe_cmpR (r := rEqNil K) (op_eqNil hr.units0) (pe_lc (own := [("_law_value_here", 8)]) (g := gName 8) (by rfl) sc_law.nd (pi_list (pv 6)) (blkOk_by (own := [("_law_value_here", 8)]) (N := n_law) (sc := defScope s_law) (by decide +kernel)) (fun _ _ _ _ _ => pg_name (i := 8) sc_law.nd rfl (Or.inl rfl)) (fun _ _ _ _ _ => (pts_one (pt_cmpR op_isnot_bl (pe_d D_is_normal hr (by decide) (pa_cons (pv 8) pa_nil)) pe_bl (nomark _)))) (fun _ _ _ _ _ => (pv 8))) (pe_lst pa_nil) (nomark _))))))))))), ?_⟩
    have hl2 : (ns.map V.int).length ≤ 63 := by
      rw [List.length_map]
      exact hlen
    have l0 : (0 : Nat) ≤ sizeLine := by decide
    have l1 : (1 : Nat) ≤ sizeLine := by decide
    have l2 : (2 : Nat) ≤ sizeLine := by decide
    have l3 : (3 : Nat) ≤ sizeLine := by decide
    have l10 : (10 : Nat) ≤ sizeLine := by decide
    refine ⟨_, rfl, a, _, rfl, .inl hS, _, _, rfl, _, _, rfl, _, rfl, (by split <;> (try split) <;> omega), (by split <;> (try split) <;> omega),
      for_it walk_range (fun i σ H' => ExtN H H' ∧ Tabs T' H' ∧ ∃ a1 a2 a3 : Option V, σ = [some (.ref a), a1, a2, a3, none, none, none, none, none, none]) ⟨ExtN.refl H, tabs, _, _, _, rfl⟩ (fun _ _ _ _ _ => trivial) ?_ ?_⟩
    · rintro i v σ H1 H2 hi ⟨ex, tb, a1, a2, a3, rfl⟩ ⟨rfl, rfl⟩
      refine ⟨_, rfl, _, rfl, a, ns, i, (by show [V.ref a, V.int (0 + (i : Int))] = _; rw [Int.zero_add]), SqL.upN hS ex, fun d H2 hp sm2 hd => ?_⟩
      refine ⟨4, rfl, by decide, by decide, for_range (lo := 0) (n := 4) (fun i σ H' => MovN d H2 H' ∧ Tabs T' H' ∧ ∃ a1 a3 : Option V, σ = [some (.ref a), a1, some (.ref d), a3, none, none, none, none, none, none]) ⟨MovN.refl hd, tb.ext sm2, _, _, rfl⟩ ?_ ?_⟩
      · rintro j σ H3 hj ⟨mv, tb, b1, b3, rfl⟩
        refine ⟨_, rfl, d, rfl, mv.2, fun H4 v fo m4 st ws => ⟨fo, v, rfl, st, ws, tabs_moved tb mv.2 m4, fun H5 x5 t5 => ⟨true, rfl, ?_⟩⟩⟩
        exact ⟨(mv.mv m4).up x5, t5, _, _, rfl⟩
      · rintro σ H3 ⟨mv, tb, b1, b3, rfl⟩
        exact ⟨ExtN.moved ex hp sm2 mv, tb, _, _, _, rfl⟩
    · rintro σ H1 ⟨ex, tb, a1, a2, a3, rfl⟩
      refine ⟨20, rfl, by decide, by decide, fun D hD => lc_range (lo := 0) (n := 20) (fun i H' => Same H1 H' ∧ ∃ us : List V, H' D = some (.lst us) ∧ StL H' (W27 i) us) ⟨same_new hD, [], upd_same, rfl⟩ ?_ ?_⟩
      · rintro i H2 hi ⟨sm, us, hL, sl⟩
        refine ⟨rfl, ?_⟩
        unfold tYes
        refine iteT ⟨_, rfl, _, _, rfl, rfl, l2, fun t ht => ?_⟩
        have nt := same_new (o := .tup [.str "within", .int (0 + (i : Int) + 1)]) ht
        have lu := stL_len sl
        rw [w27_len] at lu
        have hL2 := nt _ _ hL
        have up : ∀ b us', (upd H2 t (.tup [.str "within", .int (0 + (i : Int) + 1)])) b = some (.tup us') → (upd (upd H2 t (.tup [.str "within", .int (0 + (i : Int) + 1)])) D (.lst (us ++ [.ref t]))) b = some (.tup us') := tup_offp hL2 Off.set
        refine ⟨us, hL2, (by have : (1000 : Nat) ≤ sizeLine := by decide
                             omega), fun b o e => ?_, us ++ [.ref t], upd_same, ?_⟩
        · rw [upd_ne (ne_of_none e hD)]
          exact nt _ _ (sm _ _ e)
        · rw [w27_step]
          exact stL_up up _ _ (stL_snoc (stL_up (same_tup nt) _ _ sl) ⟨t, rfl, upd_same⟩)
      · rintro H2 ⟨sm, us, hL, sl⟩
        refine ⟨D, _, rfl, .inl ⟨SqL.of hL, fun tI htI => ?_⟩⟩
        have nT := same_new (o := .tup us) htI
        have hT : upd H2 tI (.tup us) tI = some (.tup us) := upd_same
        have slT := stL_up (same_tup nT) _ _ sl
        have tb7 := tb.ext (sm.trans nT)
        have lu : us.length = 20 := by
          have := stL_len sl
          rwa [w27_len] at this
        clear hL hD htI sl
        generalize upd H2 tI (.tup us) = H7 at *
        have nw : ¬(HT.sIx us.length 0 none = 0 ∧ HT.sIx us.length us.length (some 15) = us.length) := fun z => absurd z.2 (by rw [lu]; decide)
        have ec : cutV us none (some 15) = us.take 15 := by
          unfold cutV
          rw [lu]
          rfl
        refine ⟨tb7, fun H8 e8 t8 => ⟨_, rfl, l2, fun p1 hp1 => ⟨l2, fun p2 hp2 => ?_⟩⟩⟩
        have c1 := same_new (o := .tup [.str "and", .ref tI]) hp1
        have c2 := same_new (o := .tup [.str "not", .ref p1]) hp2
        have hT8 := e8 _ _ hT nofun
        have sl8 := stL_up (extN_tup e8) _ _ slT
        have st1 : St (upd (upd H8 p1 (.tup [.str "and", .ref tI])) p2 (.tup [.str "not", .ref p1])) (.no (.of true (W27 20))) (.ref p2) := ⟨p2, .ref p1, rfl, upd_same, p1, tI, us, rfl, c2 _ _ upd_same, c2 _ _ (c1 _ _ hT8), stL_up (same_tup (c1.trans c2)) _ _ sl8⟩
        have hT9 := c2 _ _ (c1 _ _ hT8)
        have sl9 := stL_up (same_tup (c1.trans c2)) _ _ sl8
        have t9 := t8.ext (c1.trans c2)
        clear hp1 hp2 c1 c2
        generalize upd (upd H8 p1 (.tup [.str "and", .ref tI])) p2 (.tup [.str "not", .ref p1]) = H9 at *
        refine ⟨.no (.of true (W27 20)), .ref p2, rfl, ⟨st_at _ _ st1, .no (w27_all (by decide) true).2.1, .no (w27_all (by decide) true).2.2, (Hg.no (w27_hg 20 true)).up (by decide)⟩, flt_20, fun hs => absurd hs (by have := many_20; unfold nf at this; omega), fun _ d H10 s10 hd => ⟨rfl, d, rfl, hd, ?_⟩⟩
        refine ⟨t9.ext s10, fun H11 e11 t11 => ⟨_, rfl, _, rfl, tI, us, rfl, SqT.of (e11 _ _ (s10 _ _ hT9) nofun), nw, fun p3 hp3 => ⟨l2, fun p4 hp4 => ?_⟩⟩⟩
        rw [ec] at hp4
        rw [ec]
        have c3 := same_new (o := .tup (us.take 15)) hp3
        have c4 := same_new (o := .tup [.str "or", .ref p3]) hp4
        have hT11 := e11 _ _ (s10 _ _ hT9) nofun
        have sl11 := stL_up (extN_tup e11) _ _ (stL_up (same_tup s10) _ _ sl9)
        have st2 : St (upd (upd H11 p3 (.tup (us.take 15))) p4 (.tup [.str "or", .ref p3])) (.of false (W27 15)) (.ref p4) := ⟨p4, p3, us.take 15, rfl, upd_same, c4 _ _ upd_same, by
          have := stL_up (same_tup (c3.trans c4)) _ _ (stL_take 15 sl11)
          rwa [w27_take] at this⟩
        have hT12 := c4 _ _ (c3 _ _ hT11)
        have sl12 := stL_up (same_tup (c3.trans c4)) _ _ sl11
        clear hp3 hp4 c3 c4
        generalize upd (upd H11 p3 (.tup (us.take 15))) p4 (.tup [.str "or", .ref p3]) = H12 at *
        refine ⟨.of false (W27 15), .ref p4, rfl, ⟨st_at _ _ st2, (w27_all (by decide) false).2.1, (w27_all (by decide) false).2.2, (w27_hg 15 false).up (by decide)⟩, flt_15, fun _ H13 u s13 au => ?_, fun hs => absurd hs (by have := sz_15; have e := nf_15; unfold nf at e; rw [e]; omega)⟩
        have e15 := nf_15
        unfold nf at e15
        rw [e15] at au
        refine ⟨l2, fun pt hpt => ?_⟩
        have c5 := same_new (o := .lst [.str "many 32", u]) hpt
        have hp5 : upd H13 pt (.lst [.str "many 32", u]) pt = some (.lst [.str "many 32", u]) := upd_same
        have hT14 := c5 _ _ (s13 _ _ hT12)
        have sl14 := stL_up (same_tup (s13.trans c5)) _ _ sl12
        have au14 := au.up c5
        clear hpt c5 au
        generalize upd H13 pt (.lst [.str "many 32", u]) = H14 at *
        refine ⟨_, rfl, _, rfl, tI, us, rfl, SqT.of hT14, nw, fun p5 hp5' => ?_⟩
        rw [ec]
        have c6 := same_new (o := .tup (us.take 15)) hp5'
        have hp6 : upd H14 p5 (.tup (us.take 15)) p5 = some (.tup (us.take 15)) := upd_same
        have sl15 : StL (upd H14 p5 (.tup (us.take 15))) (W27 15) (us.take 15) := by
          have := stL_up (same_tup c6) _ _ (stL_take 15 sl14)
          rwa [w27_take] at this
        have hq5 := c6 _ _ hp5
        have au15 := au14.up c6
        clear hp5' c6
        generalize upd H14 p5 (.tup (us.take 15)) = H15 at *
        obtain ⟨zs, z1, z2, z3⟩ := stL_zip sl15
        rw [z1] at hp6
        have zl : zs.length ≤ 1000 := by
          have := congrArg List.length z2
          rw [w27_len, List.length_map] at this
          omega
        refine ⟨p5, rfl, ⟨_, SqT.of hp6⟩, fun D0 hD0 => lc_gen (xs := zs) (val := Prod.fst) (walk_tup (K := K) (a := p5) (xs := zs.map Prod.fst)) (fun _ => true) _ (keepR_F (K := K) fun z : V × F Itm => F.no z.2) hD0 zl (fun H5 s5 => SqT.of (s5 _ _ hp6)) ?_ ?_⟩
        · intro z H16 N Y hzm s16 _ _ yes
          refine ⟨rfl, ?_⟩
          unfold tYes
          exact iteT ⟨_, rfl, l2, fun t ht => yes rfl _ _ (same_new ht) (AtF.mk_no (SqT.of upd_same) ((st_at _ _ (z3 z hzm)).up (s16.trans (same_new ht))))⟩
        · intro H16 ys s16 hys hpr
          rw [filter_all] at hpr
          have aly := atL_paired hpr
          have en : (zs.map fun z => F.no z.2) = N27 15 := by
            unfold N27
            rw [z2, List.map_map]
            rfl
          rw [en] at aly
          refine ⟨D0, ys, rfl, .inl ⟨SqL.of hys, fun p6 hp6 => ⟨l2, fun p7 hp7 => ⟨l2, fun p8 hp8 => ?_⟩⟩⟩⟩
          have c7 := same_new (o := .tup ys) hp6
          have c8 := same_new (o := .tup [.str "and", .ref p6]) hp7
          have c9 := same_new (o := .lst [.str "many 32", .ref p7]) hp8
          have c79 := (c7.trans c8).trans c9
          have due : AtF K (upd (upd (upd H16 p6 (.tup ys)) p7 (.tup [.str "and", .ref p6])) p8 (.lst [.str "many 32", .ref p7])) (.ref p7) (.of true (N27 15)) := AtF.mk_of (w := true) (SqT.of (c9 _ _ upd_same)) (SqT.of (c9 _ _ (c8 _ _ upd_same))) (aly.up c79)
          have hp88 : (upd (upd (upd H16 p6 (.tup ys)) p7 (.tup [.str "and", .ref p6])) p8 (.lst [.str "many 32", .ref p7])) p8 = some (.lst [.str "many 32", .ref p7]) := upd_same
          have hq17 := c79 _ _ (s16 _ _ hq5)
          have au17 := au15.up (s16.trans c79)
          clear c7 c8 c9 c79 hp6 hp7 hp8
          generalize upd (upd (upd H16 p6 (.tup ys)) p7 (.tup [.str "and", .ref p6])) p8 (.lst [.str "many 32", .ref p7]) = H17 at *
          refine ⟨l0, fun q1 hq1 => ⟨l1, fun q2 hq2 => ⟨l2, fun q3 hq3 => ⟨l1, fun q4 hq4 => ⟨l2, fun q5 hq5 => ⟨l2, fun q6 hq6 => ⟨l3, fun q7 hq7 => ⟨l1, fun q8 hq8 => ⟨l2, fun q9 hq9 q10 hq10 => ⟨l10, fun qL hqL => ?_⟩⟩⟩⟩⟩⟩⟩⟩⟩⟩
          have d1 := same_new (o := .tup []) hq1
          have d2 := same_new (o := .tup [.str "and"]) hq2
          have d3 := same_new (o := .tup [.str "has", .str "a"]) hq3
          have d4 := same_new (o := .lst [.ref q3]) hq4
          have d5 := same_new (o := .tup [.str "and", .ref q4]) hq5
          have d6 := same_new (o := .tup [.str "has", .str "A"]) hq6
          have d7 := same_new (o := .tup [.str "is", .str "a", .str ""]) hq7
          have d8 := same_new (o := .tup [.str "has"]) hq8
          have d9 := same_new (o := .tup [.str "not", .ref q8]) hq9
          have d10 := same_new (o := .dK []) hq10
          have dL := same_new (o := .lst [.non, .int 0, .str "and", .ref q1, .ref q2, .ref q5, .ref q6, .ref q7, .ref q9, .ref q10]) hqL
          have r10 := d10.trans dL
          have r9 := d9.trans r10
          have r8 := d8.trans r9
          have r7 := d7.trans r8
          have r6 := d6.trans r7
          have r5 := d5.trans r6
          have r4 := d4.trans r5
          have r3 := d3.trans r4
          have r2 := d2.trans r3
          have r1 := d1.trans r2
          have g1 := r2 _ _ (upd_same (H := H17) (a := q1) (o := .tup []))
          have g2 := r3 _ _ (upd_same (a := q2) (o := .tup [.str "and"]))
          have g3 := r4 _ _ (upd_same (a := q3) (o := .tup [.str "has", .str "a"]))
          have g4 := r5 _ _ (upd_same (a := q4) (o := .lst [.ref q3]))
          have g5 := r6 _ _ (upd_same (a := q5) (o := .tup [.str "and", .ref q4]))
          have g6 := r7 _ _ (upd_same (a := q6) (o := .tup [.str "has", .str "A"]))
          have g7 := r8 _ _ (upd_same (a := q7) (o := .tup [.str "is", .str "a", .str ""]))
          have g8 := r9 _ _ (upd_same (a := q8) (o := .tup [.str "has"]))
          have g9 := r10 _ _ (upd_same (a := q9) (o := .tup [.str "not", .ref q8]))
          have g10 := dL _ _ (upd_same (a := q10) (o := .dK []))
          have hp88' := r1 _ _ hp88
          have hq17' := r1 _ _ hq17
          have due' := due.up r1
          have au' := au17.up r1
          have gL := upd_same (H := upd (upd (upd (upd (upd (upd (upd (upd (upd (upd H17 q1 (.tup [])) q2 (.tup [.str "and"])) q3 (.tup [.str "has", .str "a"])) q4 (.lst [.ref q3])) q5 (.tup [.str "and", .ref q4])) q6 (.tup [.str "has", .str "A"])) q7 (.tup [.str "is", .str "a", .str ""])) q8 (.tup [.str "has"])) q9 (.tup [.str "not", .ref q8])) q10 (.dK [])) (a := qL) (o := .lst [.non, .int 0, .str "and", .ref q1, .ref q2, .ref q5, .ref q6, .ref q7, .ref q9, .ref q10])
          clear r1 r2 r3 r4 r5 r6 r7 r8 r9 r10 d1 d2 d3 d4 d5 d6 d7 d8 d9 d10 dL hq1 hq2 hq3 hq4 hq5 hq6 hq7 hq8 hq9 hq10 hqL
          generalize upd (upd (upd (upd (upd (upd (upd (upd (upd (upd (upd H17 q1 (.tup [])) q2 (.tup [.str "and"])) q3 (.tup [.str "has", .str "a"])) q4 (.lst [.ref q3])) q5 (.tup [.str "and", .ref q4])) q6 (.tup [.str "has", .str "A"])) q7 (.tup [.str "is", .str "a", .str ""])) q8 (.tup [.str "has"])) q9 (.tup [.str "not", .ref q8])) q10 (.dK [])) qL (.lst [.non, .int 0, .str "and", .ref q1, .ref q2, .ref q5, .ref q6, .ref q7, .ref q9, .ref q10]) = HL at *
          have shq : SeqAt.shaped (.list [.str "many 32", enc (.of true (N27 15))]) = true := shd_two (by decide +kernel) (n27_ok true) (n27_hg 15 true) (by decide)
          refine ⟨_, rfl, _, rfl, .list [.str "many 32", enc (.of true (N27 15))], .list [.str "many 32", enc (.of true (N27 15))], .lst (SqL.of hq17') (.cons (.str _) (.cons au' .nil)), .lst (SqL.of hp88') (.cons (.str _) (.cons due' .nil)), shq, shq, ?_⟩
          rw [SeqAt.eqv_refl _ (SeqAt.canLay_of_shaped shq)]
          have odds : ∀ z ∈ ([(.non, .nt), (.int 0, .nt), (.str "and", .nt), (.ref q1, .odd .e), (.ref q2, .odd .a), (.ref q5, .odd (.al [.it (.has "a")])), (.ref q6, .f (.it (.has "A"))), (.ref q7, .f (.it (.is "a" ""))), (.ref q9, .nb), (.ref q10, .nt)] : List (V × Tg)), AtG K HL z.1 z.2 ∧ szG z.2 ≤ 900 ∧ nrmG z.2 = false := fun z hz => by
            simp only [List.mem_cons, List.not_mem_nil, or_false] at hz
            rcases hz with rfl | rfl | rfl | rfl | rfl | rfl | rfl | rfl | rfl | rfl
            · exact ⟨nt_non, (by show (1 : Nat) ≤ 900; decide), rfl⟩
            · exact ⟨nt_int 0, (by show (1 : Nat) ≤ 900; decide), rfl⟩
            · exact ⟨nt_str _, (by show (1 : Nat) ≤ 900; decide), rfl⟩
            · exact ⟨⟨.tup (SqT.of g1) .nil, by decide +kernel⟩, (by show (1 : Nat) ≤ 900; decide), rfl⟩
            · exact ⟨⟨.tup (SqT.of g2) (.cons (.str _) .nil), by decide +kernel⟩, (by show (1 : Nat) ≤ 900; decide), rfl⟩
            · exact ⟨⟨.tup (SqT.of g5) (.cons (.str _) (.cons (.lst (SqL.of g4) (.cons (at_it (.has "a") g3) .nil)) .nil)), shd_al⟩, (by show (1 : Nat) ≤ 900; decide), rfl⟩
            · exact ⟨⟨at_it (.has "A") g6, .it ⟨by unfold Sgn; decide +kernel, by decide +kernel⟩, .it (by decide +kernel), .it 30 _⟩, szG_it _, nrm_bad (by decide +kernel)⟩
            · exact ⟨⟨at_it (.is "a" "") g7, .it ⟨⟨by unfold Sgn; decide +kernel, by decide +kernel⟩, by decide +kernel⟩, .it (by decide +kernel), .it 30 _⟩, szG_it _, nrm_bad (by decide +kernel)⟩
            · exact ⟨.tup (SqT.of g9) (.cons (.str _) (.cons (.tup (SqT.of g8) (.cons (.str _) .nil)) .nil)), (by show (2 : Nat) ≤ 900; decide), rfl⟩
            · exact ⟨nt_dct g10, (by show (1 : Nat) ≤ 900; decide), rfl⟩
          refine ⟨true, rfl, iteT ?_⟩
          refine ⟨_, rfl, qL, rfl, ⟨_, SqL.of gL⟩, fun D1 hD1 => lc_gen (xs := ([(.non, .nt), (.int 0, .nt), (.str "and", .nt), (.ref q1, .odd .e), (.ref q2, .odd .a), (.ref q5, .odd (.al [.it (.has "a")])), (.ref q6, .f (.it (.has "A"))), (.ref q7, .f (.it (.is "a" ""))), (.ref q9, .nb), (.ref q10, .nt)] : List (V × Tg))) (val := Prod.fst) (walk_list (K := K) (a := qL) (xs := [.non, .int 0, .str "and", .ref q1, .ref q2, .ref q5, .ref q6, .ref q7, .ref q9, .ref q10])) (fun _ => false) (fun _ _ _ => True) (fun _ _ _ _ _ _ _ _ => trivial) hD1 (by show (10 : Nat) ≤ 1000; decide) (fun H5 s5 => SqL.of (s5 _ _ gL)) ?_ ?_⟩
          · intro z H18 N Y hzm s18 _ no _
            obtain ⟨o1, o2, o3⟩ := odds z hzm
            refine ⟨rfl, _, rfl, z.1, z.2, rfl, o1.up s18, o2, fun H19 s19 => ⟨_, _, rfl, rfl, _, rfl, ?_⟩⟩
            rw [o3]
            exact iteF (no rfl H19 s19)
          · intro H18 zs' s18 hzs hpr
            have lz := hpr.length
            refine ⟨l0, fun p hp => ?_⟩
            have n1 := same_new (o := .lst []) hp
            refine ⟨D1, p, zs', rfl, rfl, SqL.of (n1 _ _ hzs), SqL.of upd_same, ?_⟩
            have : zs' = [] := List.length_eq_zero_iff.mp lz.symm
            rw [this]
            exact q _
end
end Bw

namespace Bw
open PySem PySem.Spec L2 LamX TL PyProof.Rows Ask
/-! ### what the top has left -/
theorem loose_int {h : Heap} {v : Value} {n : Int} {as : List Addr} (r : PySem.W.ReadsLit h v (.int n) as) : ∃ t, v = .int n t := by
  cases r
  exact ⟨_, rfl⟩
theorem fn_none {P : Program} {w : World} {K : PySem.W.Frag} {mg : Str → Option Value} {base : Heap} {CX : CXT} {k : Nat} {f : Addr} {fd : FuncData} {ps : List Str} : FnOk P w K mg base CX k f fd ps (fun _ _ _ _ => False) :=
  ⟨fun _ _ _ _ h => False.elim h, fun _ _ _ _ _ _ _ _ _ _ _ _ _ h => False.elim h⟩
theorem txtMk {p : Program} {w : World} {K : PySem.W.Frag} {h : Heap} {mg : Str → Option Value} {aO : Addr} {nO : Nat} {h0 h1 : Int} {k0 k1 : Tok} {v0 v1 u0 u1 t1 t2 t3 t4 : Tok}
    (XP : PySem.W.XL p [(("MOST_NUMBER" : Str), .int 1000000000000)] mg h) (KI : K.In h) (NS : h.Ns mainGlobals mg)
    (zlen : PySem.W.nsIn K mainGlobals "len" = some none)
    (zint : PySem.W.nsIn K mainGlobals "int" = some none)
    (zabs : PySem.W.nsIn K mainGlobals "abs" = some none)
    (zmax : PySem.W.nsIn K mainGlobals "max" = some none)
    (zmin : PySem.W.nsIn K mainGlobals "min" = some none)
    (zrange : PySem.W.nsIn K mainGlobals "range" = some none)
    (zisinstance : PySem.W.nsIn K mainGlobals "isinstance" = some none)
    (ztuple : PySem.W.nsIn K mainGlobals "tuple" = some none)
    (zall : PySem.W.nsIn K mainGlobals "all" = some none)
    (zstr : PySem.W.nsIn K mainGlobals "str" = some none)
    (zrepr : PySem.W.nsIn K mainGlobals "repr" = some none)
    (zlist : PySem.W.nsIn K mainGlobals "list" = some none)
    (zsum : PySem.W.nsIn K mainGlobals "sum" = some none)
    (zsorted : PySem.W.nsIn K mainGlobals "sorted" = some none)
    (zdict : PySem.W.nsIn K mainGlobals "dict" = some none)
    (zbool : PySem.W.nsIn K mainGlobals "bool" = some none)
    (zOverflowError : PySem.W.nsIn K mainGlobals "OverflowError" = some none)
    (oa : PySem.W.nsIn K mainGlobals "OTHER" = some (some (.ref aO))) (ol : K.lookup aO = some ⟨.type "dict", none, .dict #[⟨h0, .str "and" k0, .str "or" v0⟩, ⟨h1, .str "or" k1, .str "and" v1⟩] nO, #[]⟩) (og : (aO == sysModules) = false) (ok : PySem.W.KeysLit w.params [⟨h0, .str "and" k0, .str "or" v0⟩, ⟨h1, .str "or" k1, .str "and" v1⟩])
    (o1 : PySem.W.nsIn K aO "and" = some (some (.str "or" u0))) (o2 : PySem.W.nsIn K aO "or" = some (some (.str "and" u1))) (n0 : PySem.W.nsIn K aO "has" = some none) (n1 : PySem.W.nsIn K aO "is" = some none) (n2 : PySem.W.nsIn K aO "class" = some none) (n3 : PySem.W.nsIn K aO "within" = some none) (n4 : PySem.W.nsIn K aO "not" = some none)
    (x1 : PySem.W.nsIn K mainGlobals "MOST_TEXT" = some (some (.int 100 t1)))
    (x2 : PySem.W.nsIn K mainGlobals "MOST_WORD" = some (some (.int 12 t2)))
    (x3 : PySem.W.nsIn K mainGlobals "MAX_DEEP" = some (some (.int 6 t3)))
    (x4 : PySem.W.nsIn K mainGlobals "MAX_PARTS" = some (some (.int 32 t4)))
    : Txt w K mg aO := by
  obtain ⟨v1, e1, r1⟩ := XP.2.val _ (List.mem_cons_self ..)
  obtain ⟨t1, rfl⟩ := loose_int r1
  exact {
    b_len := PySem.W.mg_none_of KI NS zlen
    b_int := PySem.W.mg_none_of KI NS zint
    b_abs := PySem.W.mg_none_of KI NS zabs
    b_max := PySem.W.mg_none_of KI NS zmax
    b_min := PySem.W.mg_none_of KI NS zmin
    b_range := PySem.W.mg_none_of KI NS zrange
    b_isinstance := PySem.W.mg_none_of KI NS zisinstance
    b_tuple := PySem.W.mg_none_of KI NS ztuple
    b_all := PySem.W.mg_none_of KI NS zall
    b_str := PySem.W.mg_none_of KI NS zstr
    b_repr := PySem.W.mg_none_of KI NS zrepr
    b_list := PySem.W.mg_none_of KI NS zlist
    b_sum := PySem.W.mg_none_of KI NS zsum
    b_sorted := PySem.W.mg_none_of KI NS zsorted
    b_dict := PySem.W.mg_none_of KI NS zdict
    b_bool := PySem.W.mg_none_of KI NS zbool
    b_OverflowError := PySem.W.mg_none_of KI NS zOverflowError
    g_OTHER := PySem.W.mg_of KI NS oa
    oth := ⟨_, _, ⟨ol, ok, og⟩⟩
    o_and := ⟨_, o1⟩
    o_or := ⟨_, o2⟩
    o_no := fun x hx => by
      simp only [List.mem_cons, List.not_mem_nil, or_false] at hx
      rcases hx with rfl | rfl | rfl | rfl | rfl
      · exact n0
      · exact n1
      · exact n2
      · exact n3
      · exact n4
    g_number := ⟨_, e1⟩
    g_text := ⟨_, PySem.W.mg_of KI NS x1⟩
    g_word := ⟨_, PySem.W.mg_of KI NS x2⟩
    g_deep := ⟨_, PySem.W.mg_of KI NS x3⟩
    g_parts := ⟨_, PySem.W.mg_of KI NS x4⟩ }
theorem txbMk {w : World} {K : PySem.W.Frag} {h : Heap} {mg : Str → Option Value} {aB : Addr} {nB : Nat} {h0 h1 h2 : Int} {k0 k1 k2 : Tok} {v0 v1 v2 : Tok} {w0 w1 w2 : Value} (KI : K.In h) (NS : h.Ns mainGlobals mg)
    (ba : PySem.W.nsIn K mainGlobals "BEGINNINGS" = some (some (.ref aB))) (bl : K.lookup aB = some ⟨.type "dict", none, .dict #[⟨h0, .str "and" k0, .str "(&" v0⟩, ⟨h1, .str "or" k1, .str "(|" v1⟩, ⟨h2, .str "not" k2, .str "(!" v2⟩] nB, #[]⟩) (bg : (aB == sysModules) = false) (bk : PySem.W.KeysLit w.params [⟨h0, .str "and" k0, .str "(&" v0⟩, ⟨h1, .str "or" k1, .str "(|" v1⟩, ⟨h2, .str "not" k2, .str "(!" v2⟩])
    (b0 : PySem.W.nsIn K aB "and" = some (some w0)) (b1 : PySem.W.nsIn K aB "or" = some (some w1)) (b2 : PySem.W.nsIn K aB "not" = some (some w2)) (m0 : PySem.W.nsIn K aB "" = some none) (m1 : PySem.W.nsIn K aB "has" = some none) (m2 : PySem.W.nsIn K aB "is" = some none) (m3 : PySem.W.nsIn K aB "class" = some none) (m4 : PySem.W.nsIn K aB "within" = some none) : TxB w K mg aB where
  g := PySem.W.mg_of KI NS ba
  d := ⟨_, _, ⟨bl, bk, bg⟩⟩
  yes := fun x hx => by
    simp only [List.mem_cons, List.not_mem_nil, or_false] at hx
    rcases hx with rfl | rfl | rfl
    · exact ⟨_, b0⟩
    · exact ⟨_, b1⟩
    · exact ⟨_, b2⟩
  no := fun x hx => by
    simp only [List.mem_cons, List.not_mem_nil, or_false] at hx
    rcases hx with rfl | rfl | rfl | rfl | rfl
    · exact m0
    · exact m1
    · exact m2
    · exact m3
    · exact m4
structure ItemsA (w : World) (K : PySem.W.Frag) (mg : Str → Option Value) (aI : Addr) : Prop where
  ex : ∃ fW fT fN : Addr, TxI w K mg aI fW fT fN ∧ mg "_has_word" = some (.ref fW) ∧ mg "_has_text" = some (.ref fT) ∧ mg "_has_number" = some (.ref fN)
theorem txiMk {w : World} {K : PySem.W.Frag} {h : Heap} {mg : Str → Option Value} {aI fW fT fP fN : Addr} {nI : Nat} {h0 h1 h2 h3 h4 h5 h6 : Int} {k0 k1 k2 k3 k4 k5 k6 : Tok} (KI : K.In h) (NS : h.Ns mainGlobals mg)
    (ia : PySem.W.nsIn K mainGlobals "ITEMS" = some (some (.ref aI))) (il : K.lookup aI = some ⟨.type "dict", none, .dict #[⟨h0, .str "has" k0, .ref fW⟩, ⟨h1, .str "is" k1, .ref fT⟩, ⟨h2, .str "from" k2, .ref fT⟩, ⟨h3, .str "to" k3, .ref fT⟩, ⟨h4, .str "pieces" k4, .ref fP⟩, ⟨h5, .str "class" k5, .ref fW⟩, ⟨h6, .str "within" k6, .ref fN⟩] nI, #[]⟩) (ig : (aI == sysModules) = false) (ik : PySem.W.KeysLit w.params [⟨h0, .str "has" k0, .ref fW⟩, ⟨h1, .str "is" k1, .ref fT⟩, ⟨h2, .str "from" k2, .ref fT⟩, ⟨h3, .str "to" k3, .ref fT⟩, ⟨h4, .str "pieces" k4, .ref fP⟩, ⟨h5, .str "class" k5, .ref fW⟩, ⟨h6, .str "within" k6, .ref fN⟩])
    (i0 : PySem.W.nsIn K aI "has" = some (some (.ref fW))) (i1 : PySem.W.nsIn K aI "is" = some (some (.ref fT))) (i2 : PySem.W.nsIn K aI "class" = some (some (.ref fW))) (i3 : PySem.W.nsIn K aI "within" = some (some (.ref fN))) (i4 : PySem.W.nsIn K aI "" = some none)
    (j0 : PySem.W.nsIn K mainGlobals "_has_word" = some (some (.ref fW))) (j1 : PySem.W.nsIn K mainGlobals "_has_text" = some (some (.ref fT))) (j2 : PySem.W.nsIn K mainGlobals "_has_number" = some (some (.ref fN))) : ItemsA w K mg aI :=
  ⟨fW, fT, fN, ⟨PySem.W.mg_of KI NS ia, ⟨_, _, ⟨il, ik, ig⟩⟩, i0, i1, i2, i3, i4⟩, PySem.W.mg_of KI NS j0, PySem.W.mg_of KI NS j1, PySem.W.mg_of KI NS j2⟩
structure DefAt (K : PySem.W.Frag) (mg : Str → Option Value) (x : Str) (st : Stmt) : Prop where
  ex : ∃ (f : Addr) (fd : FuncData), Fun K x x st f fd ∧ mg x = some (.ref f)
theorem defAt {K : PySem.W.Frag} {h : Heap} {mg : Str → Option Value} {x : Str} {st : Stmt} {f : Addr} {od an : Option Addr} {sl : Array (Option Value)} {oc kV dc pm cd ct : Value} (KI : K.In h) (NS : h.Ns mainGlobals mg)
    (at_ : PySem.W.nsIn K mainGlobals x = some (some (.ref f))) (lk : K.lookup f = some ⟨oc, od, .func (PySem.W.fnOf x x (defArgs st) (defBody st) (defScope st) .none kV dc pm an cd ct), sl⟩)
    (cc : PySem.W.codeIn K cd x = true) (kk : PySem.W.keepIn K (.ref f) = true) : DefAt K mg x st := ⟨f, _, fun_mk (st := st) lk cc kk, PySem.W.mg_of KI NS at_⟩
/-- a def whose code object's table is known -/
structure RightAt (K : PySem.W.Frag) (mg : Str → Option Value) (x : Str) (st : Stmt) (c P : Addr) : Prop where
  ex : ∃ (f : Addr) (fd : FuncData), FunC K x x st f fd c ∧ mg x = some (.ref f)
  none_ : K.lookup P = none
theorem rightAt {K : PySem.W.Frag} {h : Heap} {mg : Str → Option Value} {x : Str} {st : Stmt} {f c P : Addr} {od an oe : Option Addr} {sl se : Array (Option Value)} {oc kV dc pm ct ce : Value} {vs : Array Value} (KI : K.In h) (NS : h.Ns mainGlobals mg)
    (at_ : PySem.W.nsIn K mainGlobals x = some (some (.ref f))) (lk : K.lookup f = some ⟨oc, od, .func (PySem.W.fnOf x x (defArgs st) (defBody st) (defScope st) .none kV dc pm an (.ref c) ct), sl⟩)
    (lc : K.lookup c = some ⟨ce, oe, .fields vs, se⟩) (vp : vs[11]? = some (.ref P)) (cc : PySem.W.codeIn K (.ref c) x = true) (kk : PySem.W.keepIn K (.ref f) = true) (np : K.lookup P = none) : RightAt K mg x st c P where
  ex := ⟨f, _, ⟨⟨oc, od, kV, dc, pm, an, ct, sl, rfl, lk, cc⟩, kk⟩, PySem.W.mg_of KI NS at_⟩
  none_ := np
theorem exm_of {K : PySem.W.Frag} {A B : Addr} {b : Bool} (h1 : PySem.W.subIn K (.ref B) (.type "BaseException") = some true) (h2 : PySem.W.isClsIn K B = true) (h3 : PySem.W.typeIn K (.ref B) = some (.type "type")) (h4 : PySem.W.subIn K (.ref A) (.ref B) = some b) :
    PySem.W.exmOne K (.ref A) (.ref B) = some b := by
  have e1 : (PySem.W.subIn K (.ref B) (.type "BaseException") == some true) = true := by rw [h1] <;> rfl
  have e2 : ((PySem.W.clsIn K B).isSome && PySem.W.typeIn K (.ref B) == some (.type "type")) = true := by
    have h5 : (PySem.W.clsIn K B).isSome = true := h2
    rw [h5, h3] <;> rfl
  unfold PySem.W.exmOne
  rw [if_pos e1]
  unfold PySem.W.kitCls
  exact (if_pos e2).trans h4
theorem tmcMk {K : PySem.W.Frag} {C : Addr} {nm q : Str} {N : Addr} {bs : List Value} {sn : List Str} {sub : List Value} {ab : Bool} {col : Option Bool} {dd : Option Addr} {m0 m1 m2 m3 m5 : Option Value}
    (xL : K.lookup C = some (excClassObj nm q C N bs [.type "OverflowError", .type "ArithmeticError", .type "Exception", .type "BaseException", .type "object"] true sn sub ab col dd m0 m1 m2 m3 m5 "OverflowError.__new__"))
    (sa : PySem.W.findIn K (.ref C) "__setattr__" = some (some (.builtin "object.__setattr__"))) (eC : PySem.W.subIn K (.ref C) (.type "BaseException") = some true) (tC : PySem.W.typeIn K (.ref C) = some (.type "type")) (kC : PySem.W.keepIn K (.ref C) = true) : TmC K C :=
  ⟨over_overflow, ⟨nm, q, N, bs, sn, sub, ab, col, dd, m0, m1, m2, m3, m5, xL⟩, sa, eC, tC, kC⟩
structure InitAt (K : PySem.W.Frag) (C : Addr) (qual : Str) (st : Stmt) : Prop where
  ex : ∃ (f : Addr) (fd : FuncData), PySem.W.findIn K (.ref C) "__init__" = some (some (.ref f)) ∧ PySem.W.typeIn K (.ref f) = some (.type "function") ∧ Fun K "__init__" qual st f fd
theorem initAt {K : PySem.W.Frag} {C f : Addr} {qual : Str} {st : Stmt} {od an : Option Addr} {sl : Array (Option Value)} {oc kV dc pm cd ct : Value} (a1 : PySem.W.findIn K (.ref C) "__init__" = some (some (.ref f))) (a2 : PySem.W.typeIn K (.ref f) = some (.type "function"))
    (lk : K.lookup f = some ⟨oc, od, .func (PySem.W.fnOf "__init__" qual (defArgs st) (defBody st) (defScope st) .none kV dc pm an cd ct), sl⟩) (cc : PySem.W.codeIn K cd qual = true) (kk : PySem.W.keepIn K (.ref f) = true) : InitAt K C qual st := ⟨f, _, a1, a2, fun_mk (st := st) lk cc kk⟩
theorem toldMk {K : PySem.W.Frag} {h : Heap} {mg : Str → Option Value} {C : Addr} (KI : K.In h) (NS : h.Ns mainGlobals mg)
    (e1 : PySem.W.nsIn K mainGlobals "TooMany" = some (some (.ref C))) (e2 : PySem.W.subIn K (.ref C) (.type "BaseException") = some true) (e3 : PySem.W.isClsIn K C = true) (e4 : PySem.W.typeIn K (.ref C) = some (.type "type")) (e5 : PySem.W.subIn K (.ref C) (.ref C) = some true)
    (e6 : PySem.W.findIn K (.ref C) "__getattribute__" = some (some (.builtin "BaseException.__getattribute__"))) (e7 : PySem.W.findIn K (.ref C) "__getattr__" = some none) (e8 : PySem.W.hasDictIn K C = true) (e9 : PySem.W.findIn K (.ref C) "most" = some none) : ToldF K mg C :=
  ⟨PySem.W.mg_of KI NS e1, exm_of e2 e3 e4 e5, ⟨e6, e7, e2, e8⟩, e9⟩
theorem all_mk {l : PySem.W.OpenLaw} {w : World} {K : PySem.W.Frag} {mg : Str → Option Value} {fa aO aB aI C k1 P1 k2 P2 : Addr}
    (T : Txt w K mg aO) (TB : TxB w K mg aB) (IA : ItemsA w K mg aI) (TM : TmC K C) (TF : ToldF K mg C) (IT : InitAt K C "TooMany.__init__" s_TooMany___init__)
    (r1 : RightAt K mg "_law_right" s_law_right k1 P1) (r2 : RightAt K mg "law" s_law k2 P2)
    (nd : P1 ≠ P2) (hfa : mg "law" = some (.ref fa))
    (d_shown : DefAt K mg "_shown" s_shown) (d_is_whole : DefAt K mg "is_whole" s_is_whole) (d_is_number : DefAt K mg "is_number" s_is_number) (d_are_signs : DefAt K mg "are_signs" s_are_signs) (d_is_text : DefAt K mg "is_text" s_is_text) (d_is_word : DefAt K mg "is_word" s_is_word) (d_first_word : DefAt K mg "first_word" s_first_word) (d_has_word : DefAt K mg "_has_word" s_has_word) (d_has_text : DefAt K mg "_has_text" s_has_text) (d_has_number : DefAt K mg "_has_number" s_has_number) (d_is_item : DefAt K mg "is_item" s_is_item) (d_parts_of : DefAt K mg "_parts_of" s_parts_of) (d_is_filter : DefAt K mg "is_filter" s_is_filter) (d_need_filter : DefAt K mg "need_filter" s_need_filter) (d_pushed : DefAt K mg "_pushed" s_pushed) (d_opened : DefAt K mg "_opened" s_opened) (d_is_needless : DefAt K mg "_is_needless" s_is_needless) (d_put_right : DefAt K mg "_put_right" s_put_right) (d_many_parts : DefAt K mg "_many_parts" s_many_parts) (d_is_normal : DefAt K mg "is_normal" s_is_normal) (d_law_dice : DefAt K mg "_law_dice" s_law_dice) (d_law_roll : DefAt K mg "_law_roll" s_law_roll) (d_law_one_of : DefAt K mg "_law_one_of" s_law_one_of) (d_law_wish : DefAt K mg "_law_wish" s_law_wish) (d_law_value : DefAt K mg "_law_value" s_law_value) (d_law_items : DefAt K mg "_law_items" s_law_items) (d_law_all_values : DefAt K mg "_law_all_values" s_law_all_values) (d_law_pushed : DefAt K mg "_law_pushed" s_law_pushed) (d_law_says_nothing : DefAt K mg "_law_says_nothing" s_law_says_nothing) (d_law_put_right : DefAt K mg "_law_put_right" s_law_put_right) (d_law_parts : DefAt K mg "_law_parts" s_law_parts) (d_law_told : DefAt K mg "_law_told" s_law_told) (d_bounded : DefAt K mg "_bounded" s_bounded) (d_normal : DefAt K mg "normal" s_normal) (d_opposite : DefAt K mg "opposite" s_opposite) :
    ∃ fd : FuncData, (∀ (s : Shared) (v : Value), BindsTo s fd ⟨[v], []⟩ [("_law_script", v)]) ∧ ∀ base : Heap, K.In base → base.Ns mainGlobals mg → (∀ p ∈ ([(k1, P1), (k2, P2)] : List (Addr × Addr)), TabB base mg p.1 p.2) → FnOk l.prog w K mg base CX0 14 fa fd ["_law_script"] (spLawT K [(P1, "_law_right.<locals>.<lambda>"), (P2, "law.<locals>.<lambda>")]) := by
  obtain ⟨f_shown, fd_shown, F_shown, m_shown⟩ := d_shown.ex
  have b_shown := F_shown.binds (ps := ["value"]) fun _ _ _ _ _ _ us hl => match us, hl with | [_], _ => rfl
  obtain ⟨f_is_whole, fd_is_whole, F_is_whole, m_is_whole⟩ := d_is_whole.ex
  have b_is_whole := F_is_whole.binds (ps := ["value"]) fun _ _ _ _ _ _ us hl => match us, hl with | [_], _ => rfl
  obtain ⟨f_is_number, fd_is_number, F_is_number, m_is_number⟩ := d_is_number.ex
  have b_is_number := F_is_number.binds (ps := ["value"]) fun _ _ _ _ _ _ us hl => match us, hl with | [_], _ => rfl
  obtain ⟨f_are_signs, fd_are_signs, F_are_signs, m_are_signs⟩ := d_are_signs.ex
  have b_are_signs := F_are_signs.binds (ps := ["value", "most"]) fun _ _ _ _ _ _ us hl => match us, hl with | [_, _], _ => rfl
  obtain ⟨f_is_text, fd_is_text, F_is_text, m_is_text⟩ := d_is_text.ex
  have b_is_text := F_is_text.binds (ps := ["value"]) fun _ _ _ _ _ _ us hl => match us, hl with | [_], _ => rfl
  obtain ⟨f_is_word, fd_is_word, F_is_word, m_is_word⟩ := d_is_word.ex
  have b_is_word := F_is_word.binds (ps := ["value"]) fun _ _ _ _ _ _ us hl => match us, hl with | [_], _ => rfl
  obtain ⟨f_first_word, fd_first_word, F_first_word, m_first_word⟩ := d_first_word.ex
  have b_first_word := F_first_word.binds (ps := ["value"]) fun _ _ _ _ _ _ us hl => match us, hl with | [_], _ => rfl
  obtain ⟨f_has_word, fd_has_word, F_has_word, m_has_word⟩ := d_has_word.ex
  have b_has_word := F_has_word.binds (ps := ["value"]) fun _ _ _ _ _ _ us hl => match us, hl with | [_], _ => rfl
  obtain ⟨f_has_text, fd_has_text, F_has_text, m_has_text⟩ := d_has_text.ex
  have b_has_text := F_has_text.binds (ps := ["value"]) fun _ _ _ _ _ _ us hl => match us, hl with | [_], _ => rfl
  obtain ⟨f_has_number, fd_has_number, F_has_number, m_has_number⟩ := d_has_number.ex
  have b_has_number := F_has_number.binds (ps := ["value"]) fun _ _ _ _ _ _ us hl => match us, hl with | [_], _ => rfl
  obtain ⟨f_is_item, fd_is_item, F_is_item, m_is_item⟩ := d_is_item.ex
  have b_is_item := F_is_item.binds (ps := ["value"]) fun _ _ _ _ _ _ us hl => match us, hl with | [_], _ => rfl
  obtain ⟨f_parts_of, fd_parts_of, F_parts_of, m_parts_of⟩ := d_parts_of.ex
  have b_parts_of := F_parts_of.binds (ps := ["value"]) fun _ _ _ _ _ _ us hl => match us, hl with | [_], _ => rfl
  obtain ⟨f_is_filter, fd_is_filter, F_is_filter, m_is_filter⟩ := d_is_filter.ex
  have b_is_filter := F_is_filter.binds (ps := ["value"]) fun _ _ _ _ _ _ us hl => match us, hl with | [_], _ => rfl
  obtain ⟨f_need_filter, fd_need_filter, F_need_filter, m_need_filter⟩ := d_need_filter.ex
  have b_need_filter := F_need_filter.binds (ps := ["asked"]) fun _ _ _ _ _ _ us hl => match us, hl with | [_], _ => rfl
  obtain ⟨f_pushed, fd_pushed, F_pushed, m_pushed⟩ := d_pushed.ex
  have b_pushed := F_pushed.binds (ps := ["asked", "is_turned"]) fun _ _ _ _ _ _ us hl => match us, hl with | [_, _], _ => rfl
  obtain ⟨f_opened, fd_opened, F_opened, m_opened⟩ := d_opened.ex
  have b_opened := F_opened.binds (ps := ["word", "members"]) fun _ _ _ _ _ _ us hl => match us, hl with | [_, _], _ => rfl
  obtain ⟨f_is_needless, fd_is_needless, F_is_needless, m_is_needless⟩ := d_is_needless.ex
  have b_is_needless := F_is_needless.binds (ps := ["member", "members", "inner"]) fun _ _ _ _ _ _ us hl => match us, hl with | [_, _, _], _ => rfl
  obtain ⟨f_put_right, fd_put_right, F_put_right, m_put_right⟩ := d_put_right.ex
  have b_put_right := F_put_right.binds (ps := ["asked"]) fun _ _ _ _ _ _ us hl => match us, hl with | [_], _ => rfl
  obtain ⟨f_many_parts, fd_many_parts, F_many_parts, m_many_parts⟩ := d_many_parts.ex
  have b_many_parts := F_many_parts.binds (ps := ["asked"]) fun _ _ _ _ _ _ us hl => match us, hl with | [_], _ => rfl
  obtain ⟨f_is_normal, fd_is_normal, F_is_normal, m_is_normal⟩ := d_is_normal.ex
  have b_is_normal := F_is_normal.binds (ps := ["value"]) fun _ _ _ _ _ _ us hl => match us, hl with | [_], _ => rfl
  obtain ⟨f_law_dice, fd_law_dice, F_law_dice, m_law_dice⟩ := d_law_dice.ex
  have b_law_dice := F_law_dice.binds (ps := ["_law_script", "_law_at"]) fun _ _ _ _ _ _ us hl => match us, hl with | [_, _], _ => rfl
  obtain ⟨f_law_roll, fd_law_roll, F_law_roll, m_law_roll⟩ := d_law_roll.ex
  have b_law_roll := F_law_roll.binds (ps := ["_law_dice_here", "_law_total"]) fun _ _ _ _ _ _ us hl => match us, hl with | [_, _], _ => rfl
  obtain ⟨f_law_one_of, fd_law_one_of, F_law_one_of, m_law_one_of⟩ := d_law_one_of.ex
  have b_law_one_of := F_law_one_of.binds (ps := ["_law_dice_here", "_law_items_here"]) fun _ _ _ _ _ _ us hl => match us, hl with | [_, _], _ => rfl
  obtain ⟨f_law_wish, fd_law_wish, F_law_wish, m_law_wish⟩ := d_law_wish.ex
  have b_law_wish := F_law_wish.binds (ps := ["_law_dice_here", "_law_deep"]) fun _ _ _ _ _ _ us hl => match us, hl with | [_, _], _ => rfl
  obtain ⟨f_law_value, fd_law_value, F_law_value, m_law_value⟩ := d_law_value.ex
  have b_law_value := F_law_value.binds (ps := ["_law_wish_here", "_law_values"]) fun _ _ _ _ _ _ us hl => match us, hl with | [_, _], _ => rfl
  obtain ⟨f_law_items, fd_law_items, F_law_items, m_law_items⟩ := d_law_items.ex
  have b_law_items := F_law_items.binds (ps := ["_law_wish_here"]) fun _ _ _ _ _ _ us hl => match us, hl with | [_], _ => rfl
  obtain ⟨f_law_all_values, fd_law_all_values, F_law_all_values, m_law_all_values⟩ := d_law_all_values.ex
  have b_law_all_values := F_law_all_values.binds (ps := ["_law_items_here"]) fun _ _ _ _ _ _ us hl => match us, hl with | [_], _ => rfl
  obtain ⟨f_law_pushed, fd_law_pushed, F_law_pushed, m_law_pushed⟩ := d_law_pushed.ex
  have b_law_pushed := F_law_pushed.binds (ps := ["_law_wish_here", "_law_is_turned"]) fun _ _ _ _ _ _ us hl => match us, hl with | [_, _], _ => rfl
  obtain ⟨f_law_says_nothing, fd_law_says_nothing, F_law_says_nothing, m_law_says_nothing⟩ := d_law_says_nothing.ex
  have b_law_says_nothing := F_law_says_nothing.binds (ps := ["_law_word", "_law_one", "_law_others"]) fun _ _ _ _ _ _ us hl => match us, hl with | [_, _, _], _ => rfl
  obtain ⟨f_law_put_right, fd_law_put_right, F_law_put_right, m_law_put_right⟩ := d_law_put_right.ex
  have b_law_put_right := F_law_put_right.binds (ps := ["_law_wish_here"]) fun _ _ _ _ _ _ us hl => match us, hl with | [_], _ => rfl
  obtain ⟨f_law_parts, fd_law_parts, F_law_parts, m_law_parts⟩ := d_law_parts.ex
  have b_law_parts := F_law_parts.binds (ps := ["_law_wish_here"]) fun _ _ _ _ _ _ us hl => match us, hl with | [_], _ => rfl
  obtain ⟨f_law_told, fd_law_told, F_law_told, m_law_told⟩ := d_law_told.ex
  have b_law_told := F_law_told.binds (ps := ["_law_call"]) fun _ _ _ _ _ _ us hl => match us, hl with | [_], _ => rfl
  obtain ⟨f_bounded, fd_bounded, F_bounded, m_bounded⟩ := d_bounded.ex
  have b_bounded := F_bounded.binds (ps := ["form"]) fun _ _ _ _ _ _ us hl => match us, hl with | [_], _ => rfl
  obtain ⟨f_normal, fd_normal, F_normal, m_normal⟩ := d_normal.ex
  have b_normal := F_normal.binds (ps := ["asked"]) fun _ _ _ _ _ _ us hl => match us, hl with | [_], _ => rfl
  obtain ⟨f_opposite, fd_opposite, F_opposite, m_opposite⟩ := d_opposite.ex
  have b_opposite := F_opposite.binds (ps := ["asked"]) fun _ _ _ _ _ _ us hl => match us, hl with | [_], _ => rfl
  obtain ⟨f_law_right, fd_law_right, F_law_right, m_law_right⟩ := r1.ex
  have b_law_right := F_law_right.plain.binds (ps := ["_law_wish_here"]) fun _ _ _ _ _ _ us hl => match us, hl with | [_], _ => rfl
  obtain ⟨f_law, fd_law, F_law, m_law⟩ := r2.ex
  have b_law := F_law.plain.binds (ps := ["_law_script"]) fun _ _ _ _ _ _ us hl => match us, hl with | [_], _ => rfl
  have e := hfa.symm.trans m_law
  cases e
  obtain ⟨fW, fT, fN, TI, iW, iT, iN⟩ := IA.ex
  refine ⟨fd_law, fun s v => ?_, fun base _ _ hTB => ?_⟩
  · obtain ⟨_, _, _, _, _, _, _, _, rfl, _, _⟩ := F_law.ex
    exact .of_eq rfl
  have D_shown : Dfn l.prog w K mg base "_shown" 1 ["value"] _ := ⟨f_shown, fd_shown, ok_shown F_shown T, m_shown, F_shown.kp, b_shown⟩
  have D_is_whole : Dfn l.prog w K mg base "is_whole" 1 ["value"] _ := ⟨f_is_whole, fd_is_whole, ok_is_whole F_is_whole T, m_is_whole, F_is_whole.kp, b_is_whole⟩
  have D_is_number : Dfn l.prog w K mg base "is_number" 2 ["value"] _ := ⟨f_is_number, fd_is_number, ok_is_number F_is_number T D_is_whole, m_is_number, F_is_number.kp, b_is_number⟩
  have D_are_signs : Dfn l.prog w K mg base "are_signs" 1 ["value", "most"] _ := ⟨f_are_signs, fd_are_signs, ok_are_signs F_are_signs T, m_are_signs, F_are_signs.kp, b_are_signs⟩
  have D_is_text : Dfn l.prog w K mg base "is_text" 2 ["value"] _ := ⟨f_is_text, fd_is_text, ok_is_text F_is_text T D_are_signs, m_is_text, F_is_text.kp, b_is_text⟩
  have D_is_word : Dfn l.prog w K mg base "is_word" 2 ["value"] _ := ⟨f_is_word, fd_is_word, ok_is_word F_is_word T D_are_signs, m_is_word, F_is_word.kp, b_is_word⟩
  have D_first_word : Dfn l.prog w K mg base "first_word" 3 ["value"] _ := ⟨f_first_word, fd_first_word, ok_first_word F_first_word T D_is_word, m_first_word, F_first_word.kp, b_first_word⟩
  have D_has_word : Dfn l.prog w K mg base "_has_word" 3 ["value"] _ := ⟨f_has_word, fd_has_word, ok_has_word F_has_word T D_is_word, m_has_word, F_has_word.kp, b_has_word⟩
  have D_has_text : Dfn l.prog w K mg base "_has_text" 3 ["value"] _ := ⟨f_has_text, fd_has_text, ok_has_text F_has_text T D_is_word D_is_text, m_has_text, F_has_text.kp, b_has_text⟩
  have D_has_number : Dfn l.prog w K mg base "_has_number" 3 ["value"] _ := ⟨f_has_number, fd_has_number, ok_has_number F_has_number T D_is_number, m_has_number, F_has_number.kp, b_has_number⟩
  have HW : Held l.prog w K mg base 3 fW (spHW K) := by
    obtain ⟨f, fd, F, m, kp, b⟩ := D_has_word.ex
    cases iW.symm.trans m
    exact ⟨fd, _, F, kp, b⟩
  have HT : Held l.prog w K mg base 3 fT (spHT K) := by
    obtain ⟨f, fd, F, m, kp, b⟩ := D_has_text.ex
    cases iT.symm.trans m
    exact ⟨fd, _, F, kp, b⟩
  have HN : Held l.prog w K mg base 3 fN (spHN K) := by
    obtain ⟨f, fd, F, m, kp, b⟩ := D_has_number.ex
    cases iN.symm.trans m
    exact ⟨fd, _, F, kp, b⟩
  have D_is_item : Dfn l.prog w K mg base "is_item" 4 ["value"] _ := ⟨f_is_item, fd_is_item, ok_is_item F_is_item T TI D_first_word HW HT HN, m_is_item, F_is_item.kp, b_is_item⟩
  have D_parts_of : Dfn l.prog w K mg base "_parts_of" 5 ["value"] _ := ⟨f_parts_of, fd_parts_of, ok_parts_of F_parts_of T TB D_first_word D_is_item, m_parts_of, F_parts_of.kp, b_parts_of⟩
  have D_is_filter : Dfn l.prog w K mg base "is_filter" 6 ["value"] _ := ⟨f_is_filter, fd_is_filter, ok_is_filter F_is_filter T D_parts_of, m_is_filter, F_is_filter.kp, b_is_filter⟩
  have D_need_filter : Dfn l.prog w K mg base "need_filter" 7 ["asked"] _ := ⟨f_need_filter, fd_need_filter, ok_need_filter F_need_filter D_is_filter, m_need_filter, F_need_filter.kp, b_need_filter⟩
  have rec_pushed : ∀ n, FnOk l.prog w K mg base CX0 (n + 1) f_pushed fd_pushed ["asked", "is_turned"] (spPushed K n) := by
    intro n
    induction n with
    | zero => exact ok_pushed_step F_pushed T (k := 0) (n := 0)  ⟨f_pushed, fd_pushed, fn_none, m_pushed, F_pushed.kp, b_pushed⟩ (fun m h => nomatch h)
    | succ n ih => exact ok_pushed_step F_pushed T (k := n + 1) (n := n + 1)  ⟨f_pushed, fd_pushed, ih, m_pushed, F_pushed.kp, b_pushed⟩ (fun m h => by cases h; rfl)
  have D_pushed : Dfn l.prog w K mg base "_pushed" 7 ["asked", "is_turned"] (spPushed K 6) := ⟨f_pushed, fd_pushed, rec_pushed 6, m_pushed, F_pushed.kp, b_pushed⟩
  have D_opened : Dfn l.prog w K mg base "_opened" 1 ["word", "members"] _ := ⟨f_opened, fd_opened, ok_opened F_opened T, m_opened, F_opened.kp, b_opened⟩
  have D_is_needless : Dfn l.prog w K mg base "_is_needless" 1 ["member", "members", "inner"] _ := ⟨f_is_needless, fd_is_needless, ok_is_needless F_is_needless T, m_is_needless, F_is_needless.kp, b_is_needless⟩
  have rec_put_right : ∀ n, FnOk l.prog w K mg base CX0 (n + 2) f_put_right fd_put_right ["asked"] (spPut K n) := by
    intro n
    induction n with
    | zero => exact ok_put_right_step F_put_right T (k := 1) (n := 0) (by decide) D_opened D_is_needless ⟨f_put_right, fd_put_right, fn_none, m_put_right, F_put_right.kp, b_put_right⟩ (fun m h => nomatch h)
    | succ n ih => exact ok_put_right_step F_put_right T (k := n + 2) (n := n + 1) (by omega) D_opened D_is_needless ⟨f_put_right, fd_put_right, ih, m_put_right, F_put_right.kp, b_put_right⟩ (fun m h => by cases h; rfl)
  have D_put_right : Dfn l.prog w K mg base "_put_right" 9 ["asked"] (spPut K 7) := ⟨f_put_right, fd_put_right, rec_put_right 7, m_put_right, F_put_right.kp, b_put_right⟩
  have rec_many_parts : ∀ n, FnOk l.prog w K mg base CX0 (n + 1) f_many_parts fd_many_parts ["asked"] (spMP K n) := by
    intro n
    induction n with
    | zero => exact ok_many_parts_step F_many_parts T (k := 0) (n := 0)  ⟨f_many_parts, fd_many_parts, fn_none, m_many_parts, F_many_parts.kp, b_many_parts⟩ (fun m h => nomatch h)
    | succ n ih => exact ok_many_parts_step F_many_parts T (k := n + 1) (n := n + 1)  ⟨f_many_parts, fd_many_parts, ih, m_many_parts, F_many_parts.kp, b_many_parts⟩ (fun m h => by cases h; rfl)
  have D_many_parts : Dfn l.prog w K mg base "_many_parts" 8 ["asked"] (spMP K 7) := ⟨f_many_parts, fd_many_parts, rec_many_parts 7, m_many_parts, F_many_parts.kp, b_many_parts⟩
  obtain ⟨fI, fdI, iC, tI, FI⟩ := IT.ex
  have bI := FI.binds (ps := ["self", "most"]) fun _ _ _ _ _ _ us hl => match us, hl with | [_, _], _ => rfl
  have EM : ManyE l.prog w K mg base C := ⟨TM, TF.n, TF.g, fI, fdI, iC, tI, ok_TooMany_init FI T D_shown, bI⟩
  have D_bounded : DfnX l.prog w K mg base "_bounded" 9 ["form"] (spBnd K C 7) := ⟨f_bounded, fd_bounded, ok_bounded F_bounded T D_many_parts EM, m_bounded, F_bounded.kp, b_bounded⟩
  have D_normal : DfnX l.prog w K mg base "normal" 10 ["asked"] (spNor K C false) := ⟨f_normal, fd_normal, ok_normal F_normal D_need_filter D_pushed D_put_right D_bounded, m_normal, F_normal.kp, b_normal⟩
  have D_opposite : DfnX l.prog w K mg base "opposite" 10 ["asked"] (spNor K C true) := ⟨f_opposite, fd_opposite, ok_opposite F_opposite D_need_filter D_pushed D_put_right D_bounded, m_opposite, F_opposite.kp, b_opposite⟩
  have D_is_normal : Dfn l.prog w K mg base "is_normal" 10 ["value"] _ := ⟨f_is_normal, fd_is_normal, ok_is_normal F_is_normal D_is_filter D_pushed D_put_right, m_is_normal, F_is_normal.kp, b_is_normal⟩
  have D_law_dice : Dfn l.prog w K mg base "_law_dice" 1 ["_law_script", "_law_at"] _ := ⟨f_law_dice, fd_law_dice, ok_law_dice F_law_dice T, m_law_dice, F_law_dice.kp, b_law_dice⟩
  have D_law_roll : Dfn l.prog w K mg base "_law_roll" 1 ["_law_dice_here", "_law_total"] _ := ⟨f_law_roll, fd_law_roll, ok_law_roll F_law_roll T, m_law_roll, F_law_roll.kp, b_law_roll⟩
  have D_law_one_of : Dfn l.prog w K mg base "_law_one_of" 2 ["_law_dice_here", "_law_items_here"] _ := ⟨f_law_one_of, fd_law_one_of, ok_law_one_of F_law_one_of T D_law_roll, m_law_one_of, F_law_one_of.kp, b_law_one_of⟩
  have rec_law_wish : ∀ n, n ≤ 3 → FnOk l.prog w K mg base CX0 (n + 3) f_law_wish fd_law_wish ["_law_dice_here", "_law_deep"] (spWish (n + 1)) := by
    intro n
    induction n with
    | zero => exact fun _ => ok_law_wish_step F_law_wish T D_law_roll D_law_one_of (k := 2) (n := 1) (by decide) (by decide) ⟨f_law_wish, fd_law_wish, fn_none, m_law_wish, F_law_wish.kp, b_law_wish⟩ (fun m h h1 => absurd h (by omega))
    | succ n ih => exact fun hn => ok_law_wish_step F_law_wish T D_law_roll D_law_one_of (k := n + 3) (n := n + 2) (by omega) (by omega) ⟨f_law_wish, fd_law_wish, ih (by omega), m_law_wish, F_law_wish.kp, b_law_wish⟩ (fun m h _ => by cases h; rfl)
  have D_law_wish : Dfn l.prog w K mg base "_law_wish" 6 ["_law_dice_here", "_law_deep"] (spWish 4) := ⟨f_law_wish, fd_law_wish, rec_law_wish 3 (by decide), m_law_wish, F_law_wish.kp, b_law_wish⟩
  have rec_law_value : ∀ n, FnOk l.prog w K mg base CX0 (n + 1) f_law_value fd_law_value ["_law_wish_here", "_law_values"] (spLVal K n) := by
    intro n
    induction n with
    | zero => exact ok_law_value_step F_law_value T (k := 0) (n := 0)  ⟨f_law_value, fd_law_value, fn_none, m_law_value, F_law_value.kp, b_law_value⟩ (fun m h => nomatch h)
    | succ n ih => exact ok_law_value_step F_law_value T (k := n + 1) (n := n + 1)  ⟨f_law_value, fd_law_value, ih, m_law_value, F_law_value.kp, b_law_value⟩ (fun m h => by cases h; rfl)
  have D_law_value : Dfn l.prog w K mg base "_law_value" 6 ["_law_wish_here", "_law_values"] (spLVal K 5) := ⟨f_law_value, fd_law_value, rec_law_value 5, m_law_value, F_law_value.kp, b_law_value⟩
  have rec_law_items : ∀ n, FnOk l.prog w K mg base CX0 (n + 1) f_law_items fd_law_items ["_law_wish_here"] (spItems n) := by
    intro n
    induction n with
    | zero => exact ok_law_items_step F_law_items T (k := 0) (n := 0)  ⟨f_law_items, fd_law_items, fn_none, m_law_items, F_law_items.kp, b_law_items⟩ (fun m h => nomatch h)
    | succ n ih => exact ok_law_items_step F_law_items T (k := n + 1) (n := n + 1)  ⟨f_law_items, fd_law_items, ih, m_law_items, F_law_items.kp, b_law_items⟩ (fun m h => by cases h; rfl)
  have D_law_items : Dfn l.prog w K mg base "_law_items" 5 ["_law_wish_here"] (spItems 4) := ⟨f_law_items, fd_law_items, rec_law_items 4, m_law_items, F_law_items.kp, b_law_items⟩
  have D_law_all_values : Dfn l.prog w K mg base "_law_all_values" 1 ["_law_items_here"] _ := ⟨f_law_all_values, fd_law_all_values, ok_law_all_values F_law_all_values T, m_law_all_values, F_law_all_values.kp, b_law_all_values⟩
  have rec_law_pushed : ∀ n, FnOk l.prog w K mg base CX0 (n + 1) f_law_pushed fd_law_pushed ["_law_wish_here", "_law_is_turned"] (spPushed K n) := by
    intro n
    induction n with
    | zero => exact ok_law_pushed_step F_law_pushed T (k := 0) (n := 0)  ⟨f_law_pushed, fd_law_pushed, fn_none, m_law_pushed, F_law_pushed.kp, b_law_pushed⟩ (fun m h => nomatch h)
    | succ n ih => exact ok_law_pushed_step F_law_pushed T (k := n + 1) (n := n + 1)  ⟨f_law_pushed, fd_law_pushed, ih, m_law_pushed, F_law_pushed.kp, b_law_pushed⟩ (fun m h => by cases h; rfl)
  have D_law_pushed : Dfn l.prog w K mg base "_law_pushed" 5 ["_law_wish_here", "_law_is_turned"] (spPushed K 4) := ⟨f_law_pushed, fd_law_pushed, rec_law_pushed 4, m_law_pushed, F_law_pushed.kp, b_law_pushed⟩
  have D_law_says_nothing : Dfn l.prog w K mg base "_law_says_nothing" 1 ["_law_word", "_law_one", "_law_others"] _ := ⟨f_law_says_nothing, fd_law_says_nothing, ok_law_says_nothing F_law_says_nothing T, m_law_says_nothing, F_law_says_nothing.kp, b_law_says_nothing⟩
  have rec_law_put_right : ∀ n, FnOk l.prog w K mg base CX0 (n + 2) f_law_put_right fd_law_put_right ["_law_wish_here"] (spLPut K n) := by
    intro n
    induction n with
    | zero => exact ok_law_put_right_step F_law_put_right T (k := 1) (n := 0) (by decide) D_law_says_nothing ⟨f_law_put_right, fd_law_put_right, fn_none, m_law_put_right, F_law_put_right.kp, b_law_put_right⟩ (fun m h => nomatch h)
    | succ n ih => exact ok_law_put_right_step F_law_put_right T (k := n + 2) (n := n + 1) (by omega) D_law_says_nothing ⟨f_law_put_right, fd_law_put_right, ih, m_law_put_right, F_law_put_right.kp, b_law_put_right⟩ (fun m h => by cases h; rfl)
  have D_law_put_right : Dfn l.prog w K mg base "_law_put_right" 7 ["_law_wish_here"] (spLPut K 5) := ⟨f_law_put_right, fd_law_put_right, rec_law_put_right 5, m_law_put_right, F_law_put_right.kp, b_law_put_right⟩
  have rec_law_parts : ∀ n, FnOk l.prog w K mg base CX0 (n + 1) f_law_parts fd_law_parts ["_law_wish_here"] (spMP K n) := by
    intro n
    induction n with
    | zero => exact ok_law_parts_step F_law_parts T (k := 0) (n := 0)  ⟨f_law_parts, fd_law_parts, fn_none, m_law_parts, F_law_parts.kp, b_law_parts⟩ (fun m h => nomatch h)
    | succ n ih => exact ok_law_parts_step F_law_parts T (k := n + 1) (n := n + 1)  ⟨f_law_parts, fd_law_parts, ih, m_law_parts, F_law_parts.kp, b_law_parts⟩ (fun m h => by cases h; rfl)
  have D_law_parts : Dfn l.prog w K mg base "_law_parts" 6 ["_law_wish_here"] (spMP K 5) := ⟨f_law_parts, fd_law_parts, rec_law_parts 5, m_law_parts, F_law_parts.kp, b_law_parts⟩
  have CM : ∃ (gM : Addr) (fdM : FuncData), Fun K "_law_told" "_law_told" s_law_told gM fdM ∧ mg "_law_told" = some (.ref gM) ∧ Binds K fdM ["_law_call"] [] := ⟨f_law_told, fd_law_told, F_law_told, m_law_told, b_law_told⟩
  have L1 : LmG K mg base [(P1, "_law_right.<locals>.<lambda>"), (P2, "law.<locals>.<lambda>")] C k1 "_law_right.<locals>.<lambda>" := by
    refine ⟨CM, TF, P1, hTB (k1, P1) (by simp), by simp, fun p hp e => ?_⟩
    simp only [List.mem_cons, List.not_mem_nil, or_false] at hp
    rcases hp with rfl | rfl
    · rfl
    · exact absurd e.symm nd
  have L2 : LmG K mg base [(P1, "_law_right.<locals>.<lambda>"), (P2, "law.<locals>.<lambda>")] C k2 "law.<locals>.<lambda>" := by
    refine ⟨CM, TF, P2, hTB (k2, P2) (by simp), by simp, fun p hp e => ?_⟩
    simp only [List.mem_cons, List.not_mem_nil, or_false] at hp
    rcases hp with rfl | rfl
    · exact absurd e nd
    · rfl
  have D_law_right : Dfn l.prog w K mg base "_law_right" 13 ["_law_wish_here"] (spRight [(P1, "_law_right.<locals>.<lambda>"), (P2, "law.<locals>.<lambda>")]) := ⟨f_law_right, fd_law_right, ok_law_right F_law_right T L1 D_normal D_opposite D_is_normal D_law_pushed D_law_put_right D_law_parts D_law_value D_law_items D_law_all_values, m_law_right, F_law_right.kp, b_law_right⟩
  exact ok_law F_law T L2 D_law_dice D_law_wish D_law_right D_normal D_opposite D_is_normal
theorem fin_mk {l : PySem.W.OpenLaw} {w : World} {K : PySem.W.Frag} {mg : Str → Option Value} {hh : Heap} {fa aO aB aI C k1 P1 k2 P2 : Addr}
    (KI : K.In hh)
    (T : Txt w K mg aO) (TB : TxB w K mg aB) (IA : ItemsA w K mg aI) (TM : TmC K C) (TF : ToldF K mg C) (IT : InitAt K C "TooMany.__init__" s_TooMany___init__)
    (r1 : RightAt K mg "_law_right" s_law_right k1 P1) (r2 : RightAt K mg "law" s_law k2 P2)
    (nd : P1 ≠ P2) (hfa : mg "law" = some (.ref fa))
    (d_shown : DefAt K mg "_shown" s_shown) (d_is_whole : DefAt K mg "is_whole" s_is_whole) (d_is_number : DefAt K mg "is_number" s_is_number) (d_are_signs : DefAt K mg "are_signs" s_are_signs) (d_is_text : DefAt K mg "is_text" s_is_text) (d_is_word : DefAt K mg "is_word" s_is_word) (d_first_word : DefAt K mg "first_word" s_first_word) (d_has_word : DefAt K mg "_has_word" s_has_word) (d_has_text : DefAt K mg "_has_text" s_has_text) (d_has_number : DefAt K mg "_has_number" s_has_number) (d_is_item : DefAt K mg "is_item" s_is_item) (d_parts_of : DefAt K mg "_parts_of" s_parts_of) (d_is_filter : DefAt K mg "is_filter" s_is_filter) (d_need_filter : DefAt K mg "need_filter" s_need_filter) (d_pushed : DefAt K mg "_pushed" s_pushed) (d_opened : DefAt K mg "_opened" s_opened) (d_is_needless : DefAt K mg "_is_needless" s_is_needless) (d_put_right : DefAt K mg "_put_right" s_put_right) (d_many_parts : DefAt K mg "_many_parts" s_many_parts) (d_is_normal : DefAt K mg "is_normal" s_is_normal) (d_law_dice : DefAt K mg "_law_dice" s_law_dice) (d_law_roll : DefAt K mg "_law_roll" s_law_roll) (d_law_one_of : DefAt K mg "_law_one_of" s_law_one_of) (d_law_wish : DefAt K mg "_law_wish" s_law_wish) (d_law_value : DefAt K mg "_law_value" s_law_value) (d_law_items : DefAt K mg "_law_items" s_law_items) (d_law_all_values : DefAt K mg "_law_all_values" s_law_all_values) (d_law_pushed : DefAt K mg "_law_pushed" s_law_pushed) (d_law_says_nothing : DefAt K mg "_law_says_nothing" s_law_says_nothing) (d_law_put_right : DefAt K mg "_law_put_right" s_law_put_right) (d_law_parts : DefAt K mg "_law_parts" s_law_parts) (d_law_told : DefAt K mg "_law_told" s_law_told) (d_bounded : DefAt K mg "_bounded" s_bounded) (d_normal : DefAt K mg "normal" s_normal) (d_opposite : DefAt K mg "opposite" s_opposite)
    (q1 : PySem.W.codeHdIn K k1 P1 = true) (g1 : hh.get? P1 = some { cls := .none, data := .fields #[] })
    (q2 : PySem.W.codeHdIn K k2 P2 = true) (g2 : hh.get? P2 = some { cls := .none, data := .fields #[] })
    : ∃ (fu : FuncData) (cs : List (Addr × Addr)) (T : List (Addr × Str)), (∀ p ∈ T, ∃ q ∈ cs, q.2 = p.1) ∧ (∀ p ∈ cs, hh.get? p.2 = some { cls := .none, data := .fields #[] }) ∧ (∀ p ∈ cs, K.lookup p.2 = none) ∧ (∀ p ∈ cs, PySem.W.CodeHd hh p.1 p.2) ∧
        (∀ (sh : Shared) (vv : Value), BindsTo sh fu ⟨[vv], []⟩ [("_law_script", vv)]) ∧ ∀ bb : Heap, K.In bb → bb.Ns mainGlobals mg → (∀ p ∈ cs, TabB bb mg p.1 p.2) → FnOk l.prog w K mg bb CX0 14 fa fu ["_law_script"] (spLawT K T) := by
  have c1 := PySem.W.codeHd_of_K KI q1
  have c2 := PySem.W.codeHd_of_K KI q2
  obtain ⟨fd, h1, h2⟩ := all_mk (l := l) (w := w) T TB IA TM TF IT r1 r2 nd hfa d_shown d_is_whole d_is_number d_are_signs d_is_text d_is_word d_first_word d_has_word d_has_text d_has_number d_is_item d_parts_of d_is_filter d_need_filter d_pushed d_opened d_is_needless d_put_right d_many_parts d_is_normal d_law_dice d_law_roll d_law_one_of d_law_wish d_law_value d_law_items d_law_all_values d_law_pushed d_law_says_nothing d_law_put_right d_law_parts d_law_told d_bounded d_normal d_opposite
  refine ⟨fd, [(k1, P1), (k2, P2)], _, fun p hp => ?_, fun p hp => ?_, fun p hp => ?_, fun p hp => ?_, h1, h2⟩
  · simp only [List.mem_cons, List.not_mem_nil, or_false] at hp
    rcases hp with rfl | rfl
    · exact ⟨(k1, P1), by simp, rfl⟩
    · exact ⟨(k2, P2), by simp, rfl⟩
  · simp only [List.mem_cons, List.not_mem_nil, or_false] at hp
    rcases hp with rfl | rfl
    · exact g1
    · exact g2
  · simp only [List.mem_cons, List.not_mem_nil, or_false] at hp
    rcases hp with rfl | rfl
    · exact r1.none_
    · exact r2.none_
  · simp only [List.mem_cons, List.not_mem_nil, or_false] at hp
    rcases hp with rfl | rfl
    · exact c1
    · exact c2
/-- the law's walk, with what the loose names of the top hold -/
theorem walk {ll : PySem.W.OpenLaw} {qq : Program} {ls : List Str} {XQ : (Str → Option Value) → Heap → Prop} {YQ : World → Heap → Prop} {dd : DefRec} {KK : Params → PySem.W.Frag} (hmost : ll.most = some 63) (hdef : dd.params.defaults = [])
    (hroom : Room 14 callerA) (hin : ∀ (u : World) (hh : Heap), YQ u hh → (KK u.params).In hh)
    (FF : ∀ (u : World) (nm : Str → Option Value) (ff : Addr) (hh : Heap), XQ nm hh → (KK u.params).In hh → hh.Ns mainGlobals nm → nm dd.name = some (.ref ff) → YQ u hh →
      ∃ (fu : FuncData) (cs : List (Addr × Addr)) (T : List (Addr × Str)), (∀ p ∈ T, ∃ q ∈ cs, q.2 = p.1) ∧ (∀ p ∈ cs, hh.get? p.2 = some { cls := .none, data := .fields #[] }) ∧ (∀ p ∈ cs, (KK u.params).lookup p.2 = none) ∧ (∀ p ∈ cs, PySem.W.CodeHd hh p.1 p.2) ∧
        (∀ (sh : Shared) (vv : Value), BindsTo sh fu ⟨[vv], []⟩ [("_law_script", vv)]) ∧ ∀ bb : Heap, (KK u.params).In bb → bb.Ns mainGlobals nm → (∀ p ∈ cs, TabB bb nm p.1 p.2) → FnOk ll.prog u (KK u.params) nm bb CX0 14 ff fu ["_law_script"] (spLawT (KK u.params) T)) :
    PySem.W.WalkO qq ls XQ YQ ll.row.toRowW dd [] (fun f vs => PySem.call f vs) :=
  Att.attach_call hmost hdef fun u _ sb nm _ ff _ _ _ _ aa _ nn GG YY _ _ _ hnm hob hin2 hle hgn => by
    have inK := hin u _ YY
    obtain ⟨fu, cs, T, hTc, hT, nT, C, hbi, hfn⟩ := FF u nm ff _ GG.X inK GG.T.g hnm YY
    refine LamX.law_callTs inK GG.T.g GG.T.b GG.T.builtins GG.T.nolimit hgn hT nT C GG.T.bmain hob hin2 (Nat.le_trans hle (by decide)) hroom hfn hbi (fun HH hHH hsq => ⟨aa, nn, rfl, hsq, hle, fun p hp => ?_, fun _ => rfl⟩) fun _ _ _ z => z
    obtain ⟨q, hq, e⟩ := hTc p hp
    rw [← e]
    exact TabS.nil (hHH q hq)
end Bw
open PySem PySem.W PyProof.Rows in
set_option maxRecDepth 100000 in
set_option maxHeartbeats 0 in
theorem PySem.Challenge.cw_bailiwick_k27_whole_normal_forms_holds : PySem.Challenge.rw_bailiwick_k27_whole_normal_forms.Holds := by
  w_on; o_law; k_head; (case hw => w_witness2)
  k_fill
  refine Bw.walk (ll := PySem.Challenge.rw_bailiwick_k27_whole_normal_forms) rfl rfl ⟨rfl, by decide, by decide⟩ (fun w h Y => PySem.W.km_in_of Y) ?F
  case F =>
    intro w mg fa h XP KX G hmg YY
    refine' Bw.fin_mk KX (Bw.txtMk XP KX G ?zlen ?zint ?zabs ?zmax ?zmin ?zrange ?zisinstance ?ztuple ?zall ?zstr ?zrepr ?zlist ?zsum ?zsorted ?zdict ?zbool ?zOverflowError ?oa ?ol ?og ?ok ?o1 ?o2 ?n0 ?n1 ?n2 ?n3 ?n4 ?x1 ?x2 ?x3 ?x4) (Bw.txbMk KX G ?ba ?bl ?bg ?bk ?b0 ?b1 ?b2 ?m0 ?m1 ?m2 ?m3 ?m4) (Bw.txiMk KX G ?ia ?il ?ig ?ik ?i0 ?i1 ?i2 ?i3 ?i4 ?j0 ?j1 ?j2) (Bw.tmcMk ?xL ?sa ?eC ?tC ?kC) (Bw.toldMk KX G ?e1 ?e2 ?e3 ?e4 ?e5 ?e6 ?e7 ?e8 ?e9) (Bw.initAt ?ua ?ub ?uc ?ud ?ue) (Bw.rightAt KX G ?ra_1 ?rl_1 ?rc_1 ?rv_1 ?rd_1 ?rk_1 ?rn_1) (Bw.rightAt KX G ?ra_2 ?rl_2 ?rc_2 ?rv_2 ?rd_2 ?rk_2 ?rn_2) ?nd hmg ?d_shown ?d_is_whole ?d_is_number ?d_are_signs ?d_is_text ?d_is_word ?d_first_word ?d_has_word ?d_has_text ?d_has_number ?d_is_item ?d_parts_of ?d_is_filter ?d_need_filter ?d_pushed ?d_opened ?d_is_needless ?d_put_right ?d_many_parts ?d_is_normal ?d_law_dice ?d_law_roll ?d_law_one_of ?d_law_wish ?d_law_value ?d_law_items ?d_law_all_values ?d_law_pushed ?d_law_says_nothing ?d_law_put_right ?d_law_parts ?d_law_told ?d_bounded ?d_normal ?d_opposite ?q1 ?g1 ?q2 ?g2
    (case zlen => first | k_is | rfl)
    (case zint => first | k_is | rfl)
    (case zabs => first | k_is | rfl)
    (case zmax => first | k_is | rfl)
    (case zmin => first | k_is | rfl)
    (case zrange => first | k_is | rfl)
    (case zisinstance => first | k_is | rfl)
    (case ztuple => first | k_is | rfl)
    (case zall => first | k_is | rfl)
    (case zstr => first | k_is | rfl)
    (case zrepr => first | k_is | rfl)
    (case zlist => first | k_is | rfl)
    (case zsum => first | k_is | rfl)
    (case zsorted => first | k_is | rfl)
    (case zdict => first | k_is | rfl)
    (case zbool => first | k_is | rfl)
    (case zOverflowError => first | k_is | rfl)
    (case oa => first | k_is | rfl)
    (case ol => first | k_is | rfl)
    (case og => decide)
    (case ok => k_keys)
    (case o1 => first | k_is | rfl)
    (case o2 => first | k_is | rfl)
    (case n0 => first | k_is | rfl)
    (case n1 => first | k_is | rfl)
    (case n2 => first | k_is | rfl)
    (case n3 => first | k_is | rfl)
    (case n4 => first | k_is | rfl)
    (case x1 => first | k_is | rfl)
    (case x2 => first | k_is | rfl)
    (case x3 => first | k_is | rfl)
    (case x4 => first | k_is | rfl)
    (case ba => first | k_is | rfl)
    (case bl => first | k_is | rfl)
    (case bg => decide)
    (case bk => k_keys)
    (case b0 => first | k_is | rfl)
    (case b1 => first | k_is | rfl)
    (case b2 => first | k_is | rfl)
    (case m0 => first | k_is | rfl)
    (case m1 => first | k_is | rfl)
    (case m2 => first | k_is | rfl)
    (case m3 => first | k_is | rfl)
    (case m4 => first | k_is | rfl)
    (case ia => first | k_is | rfl)
    (case il => first | k_is | rfl)
    (case ig => decide)
    (case ik => k_keys)
    (case i0 => first | k_is | rfl)
    (case i1 => first | k_is | rfl)
    (case i2 => first | k_is | rfl)
    (case i3 => first | k_is | rfl)
    (case i4 => first | k_is | rfl)
    (case j0 => first | k_is | rfl)
    (case j1 => first | k_is | rfl)
    (case j2 => first | k_is | rfl)
    (case e1 => first | k_is | rfl)
    (case e2 => first | k_is | rfl)
    (case e3 => first | k_is | rfl)
    (case e4 => first | k_is | rfl)
    (case e5 => first | k_is | rfl)
    (case e6 => first | k_is | rfl)
    (case e7 => first | k_is | rfl)
    (case e8 => first | k_is | rfl)
    (case e9 => first | k_is | rfl)
    (case xL => first | k_is | rfl)
    (case sa => first | k_is | rfl)
    (case eC => first | k_is | rfl)
    (case tC => first | k_is | rfl)
    (case kC => first | k_is | rfl)
    (case ua => first | k_is | rfl)
    (case ub => first | k_is | rfl)
    (case uc => first | k_is | rfl)
    (case ud => first | k_is | rfl)
    (case ue => first | k_is | rfl)
    (case ra_1 => k_is)
    (case rl_1 => k_is)
    (case rc_1 => k_is)
    (case rv_1 => rfl)
    (case rd_1 => k_is)
    (case rk_1 => k_is)
    (case rn_1 => first | rfl | kernel_rfl)
    (case ra_2 => k_is)
    (case rl_2 => k_is)
    (case rc_2 => k_is)
    (case rv_2 => rfl)
    (case rd_2 => k_is)
    (case rk_2 => k_is)
    (case rn_2 => first | rfl | kernel_rfl)
    (case nd => decide)
    (case d_shown => (refine' Bw.defAt KX G ?at_ ?lk ?cc ?kk; (case at_ => k_is); (case lk => k_is); (case cc => k_is); (case kk => k_is)))
    (case d_is_whole => (refine' Bw.defAt KX G ?at_ ?lk ?cc ?kk; (case at_ => k_is); (case lk => k_is); (case cc => k_is); (case kk => k_is)))
    (case d_is_number => (refine' Bw.defAt KX G ?at_ ?lk ?cc ?kk; (case at_ => k_is); (case lk => k_is); (case cc => k_is); (case kk => k_is)))
    (case d_are_signs => (refine' Bw.defAt KX G ?at_ ?lk ?cc ?kk; (case at_ => k_is); (case lk => k_is); (case cc => k_is); (case kk => k_is)))
    (case d_is_text => (refine' Bw.defAt KX G ?at_ ?lk ?cc ?kk; (case at_ => k_is); (case lk => k_is); (case cc => k_is); (case kk => k_is)))
    (case d_is_word => (refine' Bw.defAt KX G ?at_ ?lk ?cc ?kk; (case at_ => k_is); (case lk => k_is); (case cc => k_is); (case kk => k_is)))
    (case d_first_word => (refine' Bw.defAt KX G ?at_ ?lk ?cc ?kk; (case at_ => k_is); (case lk => k_is); (case cc => k_is); (case kk => k_is)))
    (case d_has_word => (refine' Bw.defAt KX G ?at_ ?lk ?cc ?kk; (case at_ => k_is); (case lk => k_is); (case cc => k_is); (case kk => k_is)))
    (case d_has_text => (refine' Bw.defAt KX G ?at_ ?lk ?cc ?kk; (case at_ => k_is); (case lk => k_is); (case cc => k_is); (case kk => k_is)))
    (case d_has_number => (refine' Bw.defAt KX G ?at_ ?lk ?cc ?kk; (case at_ => k_is); (case lk => k_is); (case cc => k_is); (case kk => k_is)))
    (case d_is_item => (refine' Bw.defAt KX G ?at_ ?lk ?cc ?kk; (case at_ => k_is); (case lk => k_is); (case cc => k_is); (case kk => k_is)))
    (case d_parts_of => (refine' Bw.defAt KX G ?at_ ?lk ?cc ?kk; (case at_ => k_is); (case lk => k_is); (case cc => k_is); (case kk => k_is)))
    (case d_is_filter => (refine' Bw.defAt KX G ?at_ ?lk ?cc ?kk; (case at_ => k_is); (case lk => k_is); (case cc => k_is); (case kk => k_is)))
    (case d_need_filter => (refine' Bw.defAt KX G ?at_ ?lk ?cc ?kk; (case at_ => k_is); (case lk => k_is); (case cc => k_is); (case kk => k_is)))
    (case d_pushed => (refine' Bw.defAt KX G ?at_ ?lk ?cc ?kk; (case at_ => k_is); (case lk => k_is); (case cc => k_is); (case kk => k_is)))
    (case d_opened => (refine' Bw.defAt KX G ?at_ ?lk ?cc ?kk; (case at_ => k_is); (case lk => k_is); (case cc => k_is); (case kk => k_is)))
    (case d_is_needless => (refine' Bw.defAt KX G ?at_ ?lk ?cc ?kk; (case at_ => k_is); (case lk => k_is); (case cc => k_is); (case kk => k_is)))
    (case d_put_right => (refine' Bw.defAt KX G ?at_ ?lk ?cc ?kk; (case at_ => k_is); (case lk => k_is); (case cc => k_is); (case kk => k_is)))
    (case d_many_parts => (refine' Bw.defAt KX G ?at_ ?lk ?cc ?kk; (case at_ => k_is); (case lk => k_is); (case cc => k_is); (case kk => k_is)))
    (case d_is_normal => (refine' Bw.defAt KX G ?at_ ?lk ?cc ?kk; (case at_ => k_is); (case lk => k_is); (case cc => k_is); (case kk => k_is)))
    (case d_law_dice => (refine' Bw.defAt KX G ?at_ ?lk ?cc ?kk; (case at_ => k_is); (case lk => k_is); (case cc => k_is); (case kk => k_is)))
    (case d_law_roll => (refine' Bw.defAt KX G ?at_ ?lk ?cc ?kk; (case at_ => k_is); (case lk => k_is); (case cc => k_is); (case kk => k_is)))
    (case d_law_one_of => (refine' Bw.defAt KX G ?at_ ?lk ?cc ?kk; (case at_ => k_is); (case lk => k_is); (case cc => k_is); (case kk => k_is)))
    (case d_law_wish => (refine' Bw.defAt KX G ?at_ ?lk ?cc ?kk; (case at_ => k_is); (case lk => k_is); (case cc => k_is); (case kk => k_is)))
    (case d_law_value => (refine' Bw.defAt KX G ?at_ ?lk ?cc ?kk; (case at_ => k_is); (case lk => k_is); (case cc => k_is); (case kk => k_is)))
    (case d_law_items => (refine' Bw.defAt KX G ?at_ ?lk ?cc ?kk; (case at_ => k_is); (case lk => k_is); (case cc => k_is); (case kk => k_is)))
    (case d_law_all_values => (refine' Bw.defAt KX G ?at_ ?lk ?cc ?kk; (case at_ => k_is); (case lk => k_is); (case cc => k_is); (case kk => k_is)))
    (case d_law_pushed => (refine' Bw.defAt KX G ?at_ ?lk ?cc ?kk; (case at_ => k_is); (case lk => k_is); (case cc => k_is); (case kk => k_is)))
    (case d_law_says_nothing => (refine' Bw.defAt KX G ?at_ ?lk ?cc ?kk; (case at_ => k_is); (case lk => k_is); (case cc => k_is); (case kk => k_is)))
    (case d_law_put_right => (refine' Bw.defAt KX G ?at_ ?lk ?cc ?kk; (case at_ => k_is); (case lk => k_is); (case cc => k_is); (case kk => k_is)))
    (case d_law_parts => (refine' Bw.defAt KX G ?at_ ?lk ?cc ?kk; (case at_ => k_is); (case lk => k_is); (case cc => k_is); (case kk => k_is)))
    (case d_law_told => (refine' Bw.defAt KX G ?at_ ?lk ?cc ?kk; (case at_ => k_is); (case lk => k_is); (case cc => k_is); (case kk => k_is)))
    (case d_bounded => (refine' Bw.defAt KX G ?at_ ?lk ?cc ?kk; (case at_ => k_is); (case lk => k_is); (case cc => k_is); (case kk => k_is)))
    (case d_normal => (refine' Bw.defAt KX G ?at_ ?lk ?cc ?kk; (case at_ => k_is); (case lk => k_is); (case cc => k_is); (case kk => k_is)))
    (case d_opposite => (refine' Bw.defAt KX G ?at_ ?lk ?cc ?kk; (case at_ => k_is); (case lk => k_is); (case cc => k_is); (case kk => k_is)))
    (case q1 => kernel_rfl)
    (case g1 => exact PySem.W.km_tabs_of YY _ (by first | k_mem | simp))
    (case q2 => kernel_rfl)
    (case g2 => exact PySem.W.km_tabs_of YY _ (by first | k_mem | simp))
