import PyProof.Rows.All
import Wide.All
import OpenK.AllK
import Wide.FinOn
import HandS.Text
import HandS.ForMost
import HandS.IsInst
import HandS.StrMore
import HandS.Style
import HandS.RaiseMore
import HandS.Wide
import HandS.TupLe
import HandS.Walk
import KE.GoesMore
import HandS.Replace
import HandS.ReplaceLit
import HandS.Lambda
import HandS.TryMany
import HandS.ExcInit
import HandS.ExcField
import HandS.CallSlots
import HandS.CallLocal
import HandS.WordsExc
import HandS.FStrTup
import HandS.WideBits
import HandS.Deep
import HandS.ClsMeth
import KE.KDflt
import KE.KTypeName
import PyProof.ReprDict
import PyProof.IsiTupleAll
import PyProof.FactsAll.dict_1
import PyProof.FactsAll.subtypes_3
import PyProof.FactsAll.subtypes_4
import HandS.ReplaceList
import HandS.Defaults
import HandS.EndTab
import PySem.Challenge.RW_bailiwick_k02_errors_of_kinds_and_patter
set_option Elab.async false
set_option linter.all false
set_option maxRecDepth 100000
set_option maxHeartbeats 4000000
namespace Bw
open PySem L2 TL PyProof.Rows

/-! ### signs -/
def Sgn (l : List Nat) : Prop := ∀ c ∈ l, 32 ≤ c ∧ c ≤ 126
theorem Sgn.lt {l : List Nat} (h : Sgn l) : ∀ c ∈ l, c < 128 := fun c hc => by have := h c hc; omega
theorem Sgn.app {l m : List Nat} (h : Sgn l) (k : Sgn m) : Sgn (l ++ m) := fun c hc => by
  rcases List.mem_append.mp hc with q | q
  · exact h c q
  · exact k c q
theorem Sgn.nil : Sgn [] := fun c hc => absurd hc (by simp)
theorem Sgn.cons {c : Nat} {l : List Nat} (h : Sgn (c :: l)) : (32 ≤ c ∧ c ≤ 126) ∧ Sgn l := ⟨h c (List.mem_cons_self ..), fun d hd => h d (List.mem_cons_of_mem _ hd)⟩
theorem Sgn.mk {c : Nat} {l : List Nat} (h1 : 32 ≤ c ∧ c ≤ 126) (h : Sgn l) : Sgn (c :: l) := fun d hd => by
  rcases List.mem_cons.mp hd with rfl | q
  · exact h1
  · exact h d q
theorem Sgn.rep {n c : Nat} (h : 32 ≤ c ∧ c ≤ 126) : Sgn (List.replicate n c) := fun d hd => by
  rw [List.eq_of_mem_replicate hd]
  exact h
theorem space_sgn : ∀ c, c < 128 → 32 ≤ c → Unicode.isSpace c = decide (c = 32) := by decide +kernel
theorem print_sgn : ∀ c, c < 128 → Unicode.isPrintable c = decide (32 ≤ c ∧ c ≤ 126) := by decide +kernel
theorem digit_sgn : ∀ c, c < 128 → Unicode.isDigit c = decide (48 ≤ c ∧ c ≤ 57) := by decide +kernel
theorem Sgn.sp {l : List Nat} (h : Sgn l) {c : Nat} (hc : c ∈ l) : Unicode.isSpace c = decide (c = 32) := space_sgn c (h.lt c hc) (h c hc).1
theorem signs_iff (x : Str) : (Txt.isascii x && Txt.isprintable x) = true ↔ Sgn (tl x) := by
  unfold Txt.isascii Txt.isprintable
  rw [Bool.and_eq_true, ← Array.all_toList, ← Array.all_toList, List.all_eq_true, List.all_eq_true]
  constructor
  · rintro ⟨h1, h2⟩ c hc
    have a : c < 128 := of_decide_eq_true (h1 c hc)
    have b := h2 c hc
    rw [print_sgn c a] at b
    exact of_decide_eq_true b
  · intro h
    refine ⟨fun c hc => decide_eq_true (h.lt c hc), fun c hc => ?_⟩
    rw [print_sgn c (h.lt c hc)]
    exact decide_eq_true (h c hc)
theorem lo1_sgn {c : Nat} (h : 32 ≤ c ∧ c ≤ 126) : 32 ≤ lo1 c ∧ lo1 c ≤ 126 := by
  unfold lo1
  split <;> omega
theorem up1_sgn {c : Nat} (h : 32 ≤ c ∧ c ≤ 126) : 32 ≤ up1 c ∧ up1 c ≤ 126 := by
  unfold up1
  split <;> omega
theorem lo1_32 {c : Nat} (h : 32 ≤ c ∧ c ≤ 126) : lo1 c = 32 ↔ c = 32 := by
  unfold lo1
  split <;> omega
theorem lo1_lo1 (c : Nat) : lo1 (lo1 c) = lo1 c := by
  unfold lo1
  split <;> (try split) <;> omega
theorem lo1_up1 (c : Nat) : lo1 (up1 c) = lo1 c := by
  unfold lo1 up1
  split <;> split <;> (try split) <;> omega
theorem Sgn.low {l : List Nat} (h : Sgn l) : Sgn (l.map lo1) := fun c hc => by
  obtain ⟨d, hd, rfl⟩ := List.mem_map.mp hc
  exact lo1_sgn (h d hd)
theorem tl_lower {x : Str} (h : Sgn (tl x)) : tl (Txt.lower x) = (tl x).map lo1 := by
  rw [lower_ascii h.lt]
  show (x.cps.map lo1).toList = _
  rw [Array.toList_map]
theorem tl_upper {x : Str} (h : Sgn (tl x)) : tl (Txt.upper x) = (tl x).map up1 := by
  rw [upper_ascii h.lt]
  show (x.cps.map up1).toList = _
  rw [Array.toList_map]

/-! ### words -/
def wordsL (l : List Nat) : List (List Nat) := wfin (l.foldl wstep ([], []))
def normL (l : List Nat) : List Nat := joinL [32] (wordsL (l.map lo1))
theorem wstep_sp {st : List (List Nat) × List Nat} : wstep st 32 = if st.2 = [] then st else (st.1 ++ [st.2], []) := by
  unfold wstep
  rw [if_pos (show Unicode.isSpace 32 = true by decide +kernel)]
theorem wstep_ne {st : List (List Nat) × List Nat} {c : Nat} (h : 32 ≤ c ∧ c ≤ 126) (hc : c ≠ 32) : wstep st c = (st.1, st.2 ++ [c]) := by
  unfold wstep
  rw [space_sgn c (by omega) h.1, decide_eq_false hc]
  exact if_neg (by simp)
/-- the parts between blanks, the empty ones left out -/
theorem filter_spl : ∀ (l acc : List Nat) (ws : List (List Nat)), Sgn l → ws ++ (spl [32] 0 acc l).filter (fun p => !p.isEmpty) = wfin (l.foldl wstep (ws, acc))
  | [], acc, ws, _ => by
    rw [spl_nil]
    show _ = if acc = [] then ws else ws ++ [acc]
    cases acc with
    | nil => simp
    | cons a r => simp
  | c :: r, acc, ws, h => by
    obtain ⟨hc, hr⟩ := h.cons
    rw [List.foldl_cons]
    by_cases e : c = 32
    · subst e
      rw [spl_hit (S := [32]) (acc := acc) (r := r) (c := 32) (by unfold pre; simp), wstep_sp]
      show ws ++ List.filter _ (acc :: spl [32] 0 [] r) = _
      cases acc with
      | nil =>
        rw [if_pos rfl, List.filter_cons_of_neg (by simp)]
        exact filter_spl r [] ws hr
      | cons a q =>
        rw [if_neg (by simp), List.filter_cons_of_pos (by simp)]
        have := filter_spl r [] (ws ++ [a :: q]) hr
        rw [← this, List.append_assoc]
        rfl
    · rw [spl_miss (pre_of_head [] r e), wstep_ne hc e]
      exact filter_spl r (acc ++ [c]) ws hr
theorem low_wstep {st : List (List Nat) × List Nat} {c : Nat} (h : 32 ≤ c ∧ c ≤ 126) :
    wstep (st.1.map (·.map lo1), st.2.map lo1) (lo1 c) = ((wstep st c).1.map (·.map lo1), (wstep st c).2.map lo1) := by
  by_cases e : c = 32
  · subst e
    rw [show lo1 32 = 32 from rfl, wstep_sp, wstep_sp]
    obtain ⟨ws, u⟩ := st
    cases u with
    | nil => simp
    | cons a r => simp
  · rw [wstep_ne h e, wstep_ne (lo1_sgn h) (fun q => e ((lo1_32 h).mp q))]
    simp
theorem low_fold : ∀ (l : List Nat) (st : List (List Nat) × List Nat), Sgn l →
    (l.map lo1).foldl wstep (st.1.map (·.map lo1), st.2.map lo1) = ((l.foldl wstep st).1.map (·.map lo1), (l.foldl wstep st).2.map lo1)
  | [], _, _ => rfl
  | c :: r, st, h => by
    rw [List.map_cons, List.foldl_cons, List.foldl_cons, low_wstep h.cons.1, low_fold r _ h.cons.2]
theorem low_wfin (st : List (List Nat) × List Nat) : wfin (st.1.map (·.map lo1), st.2.map lo1) = (wfin st).map (·.map lo1) := by
  obtain ⟨ws, u⟩ := st
  unfold wfin
  cases u <;> simp
theorem wordsL_low {l : List Nat} (h : Sgn l) : wordsL (l.map lo1) = (wordsL l).map (·.map lo1) := by
  unfold wordsL
  have e := low_fold l ([], []) h
  have e2 : (l.map lo1).foldl wstep ([], []) = _ := e
  rw [e2, low_wfin]
theorem joinL_map : ∀ ps : List (List Nat), joinL [32] (ps.map (·.map lo1)) = (joinL [32] ps).map lo1
  | [] => rfl
  | [p] => rfl
  | p :: q :: r => by
    show p.map lo1 ++ ([32] ++ joinL [32] ((q :: r).map (·.map lo1))) = (p ++ ([32] ++ joinL [32] (q :: r))).map lo1
    rw [joinL_map (q :: r), List.map_append, List.map_append]
    rfl
theorem normL_eq {l : List Nat} (h : Sgn l) : normL l = (joinL [32] (wordsL l)).map lo1 := by
  unfold normL
  rw [wordsL_low h, joinL_map]
/-! words are no blanks, and made of the signs -/
def Wd (P : Nat → Prop) (ws : List (List Nat)) : Prop := ∀ p ∈ ws, p ≠ [] ∧ ∀ c ∈ p, c ≠ 32 ∧ P c
theorem wfold_wd {P : Nat → Prop} : ∀ (l : List Nat) (st : List (List Nat) × List Nat), Sgn l → (∀ c ∈ l, P c) → Wd P st.1 → (∀ c ∈ st.2, c ≠ 32 ∧ P c) →
    Wd P (l.foldl wstep st).1 ∧ ∀ c ∈ (l.foldl wstep st).2, c ≠ 32 ∧ P c
  | [], _, _, _, h1, h2 => ⟨h1, h2⟩
  | c :: r, st, h, hp, h1, h2 => by
    rw [List.foldl_cons]
    have hr : ∀ d ∈ r, P d := fun d hd => hp d (List.mem_cons_of_mem _ hd)
    by_cases e : c = 32
    · subst e
      rw [wstep_sp]
      by_cases e2 : st.2 = []
      · rw [if_pos e2]
        exact wfold_wd r st h.cons.2 hr h1 h2
      · rw [if_neg e2]
        refine wfold_wd r _ h.cons.2 hr (fun p hq => ?_) (fun d hd => absurd hd (by simp))
        rcases List.mem_append.mp hq with q | q
        · exact h1 p q
        · rw [List.mem_singleton.mp q]
          exact ⟨e2, h2⟩
    · rw [wstep_ne h.cons.1 e]
      refine wfold_wd r _ h.cons.2 hr h1 (fun d hd => ?_)
      rcases List.mem_append.mp hd with q | q
      · exact h2 d q
      · rw [List.mem_singleton.mp q]
        exact ⟨e, hp c (List.mem_cons_self ..)⟩
theorem wordsL_wd {P : Nat → Prop} {l : List Nat} (h : Sgn l) (hp : ∀ c ∈ l, P c) : Wd P (wordsL l) := by
  obtain ⟨h1, h2⟩ := wfold_wd (P := P) l ([], []) h hp (fun p hq => absurd hq (by simp)) (fun d hd => absurd hd (by simp))
  unfold wordsL wfin
  split
  · exact h1
  · rename_i e2
    intro p hq
    rcases List.mem_append.mp hq with q | q
    · exact h1 p q
    · rw [List.mem_singleton.mp q]
      exact ⟨e2, h2⟩
theorem mem_joinL {P : Nat → Prop} (h32 : P 32) : ∀ {ps : List (List Nat)}, (∀ p ∈ ps, ∀ c ∈ p, P c) → ∀ c ∈ joinL [32] ps, P c
  | [], _, c, hc => absurd hc (by simp [joinL])
  | [p], h, c, hc => h p (List.mem_singleton.mpr rfl) c hc
  | p :: q :: r, h, c, hc => by
    have hc' : c ∈ p ++ ([32] ++ joinL [32] (q :: r)) := hc
    rcases List.mem_append.mp hc' with a | a
    · exact h p (List.mem_cons_self ..) c a
    · rcases List.mem_append.mp a with b | b
      · rw [List.mem_singleton.mp b]
        exact h32
      · exact mem_joinL h32 (fun p' hp' => h p' (List.mem_cons_of_mem _ hp')) c b
theorem joined_sgn {l : List Nat} (h : Sgn l) : Sgn (joinL [32] (wordsL l)) := fun c hc =>
  mem_joinL (P := fun c => 32 ≤ c ∧ c ≤ 126) (by omega) (fun p hp d hd => ((wordsL_wd (P := fun c => 32 ≤ c ∧ c ≤ 126) h h) p hp).2 d hd |>.2) c hc
theorem normL_sgn {l : List Nat} (h : Sgn l) : Sgn (normL l) := by
  unfold normL
  exact joined_sgn h.low
theorem wordsL_join {ps : List (List Nat)} (h : Wd (fun c => 32 ≤ c ∧ c ≤ 126) ps) : wordsL (joinL [32] ps) = ps := by
  cases ps with
  | nil => rfl
  | cons p r =>
    unfold wordsL
    rw [wfold_join (p :: r) [] (by simp) fun q hq => ⟨(h q hq).1, fun c hc => by
      obtain ⟨h1, h2⟩ := (h q hq).2 c hc
      rw [space_sgn c (by omega) h2.1]
      exact decide_eq_false h1⟩]
    rfl
theorem map_lo_id : ∀ {l : List Nat}, (∀ c ∈ l, lo1 c = c) → l.map lo1 = l
  | [], _ => rfl
  | c :: r, h => by
    rw [List.map_cons, h c (List.mem_cons_self ..), map_lo_id fun d hd => h d (List.mem_cons_of_mem _ hd)]
theorem normL_norm {l : List Nat} (h : Sgn l) : normL (normL l) = normL l := by
  have hw := wordsL_wd (P := fun c => (32 ≤ c ∧ c ≤ 126) ∧ lo1 c = c) h.low (fun c hc => ⟨h.low c hc, by
    obtain ⟨d, _, rfl⟩ := List.mem_map.mp hc
    exact lo1_lo1 d⟩)
  have e : (normL l).map lo1 = normL l := map_lo_id (mem_joinL (P := fun c => lo1 c = c) rfl fun p hp c hc => ((hw p hp).2 c hc).2.2)
  show joinL [32] (wordsL ((normL l).map lo1)) = normL l
  rw [e]
  unfold normL
  rw [wordsL_join fun p hp => ⟨(hw p hp).1, fun c hc => ⟨((hw p hp).2 c hc).1, ((hw p hp).2 c hc).2.1⟩⟩]
/-! lengths -/
def wsum (ws : List (List Nat)) : Nat := (ws.map fun p => p.length + 1).sum
theorem wsum_app (ws : List (List Nat)) (p : List Nat) : wsum (ws ++ [p]) = wsum ws + (p.length + 1) := by
  unfold wsum
  rw [List.map_append, List.sum_append]
  simp
theorem wfold_len : ∀ (l : List Nat) (st : List (List Nat) × List Nat), wsum (l.foldl wstep st).1 + (l.foldl wstep st).2.length ≤ wsum st.1 + st.2.length + l.length
  | [], _ => Nat.le_refl _
  | c :: r, st => by
    rw [List.foldl_cons]
    refine Nat.le_trans (wfold_len r (wstep st c)) ?_
    have : wsum (wstep st c).1 + (wstep st c).2.length ≤ wsum st.1 + st.2.length + 1 := by
      unfold wstep
      split
      · split
        · omega
        · show wsum (st.1 ++ [st.2]) + 0 ≤ _
          rw [wsum_app]
          omega
      · show wsum st.1 + (st.2 ++ [c]).length ≤ _
        rw [List.length_append, List.length_singleton]
        omega
    rw [List.length_cons]
    omega
theorem joinL_len : ∀ ps : List (List Nat), (joinL [32] ps).length ≤ wsum ps - 1
  | [] => Nat.le_refl _
  | [p] => by
    show p.length ≤ (p.length + 1 + 0) - 1
    omega
  | p :: q :: r => by
    show (p ++ ([32] ++ joinL [32] (q :: r))).length ≤ _
    have h := joinL_len (q :: r)
    have e : wsum (p :: q :: r) = (p.length + 1) + wsum (q :: r) := by unfold wsum; simp
    have e2 : 1 ≤ wsum (q :: r) := by unfold wsum; simp; omega
    rw [e, List.length_append, List.length_append, List.length_singleton]
    omega
theorem words_len (l : List Nat) : (joinL [32] (wordsL l)).length ≤ l.length := by
  have h := wfold_len l ([], [])
  have h0 : wsum ([] : List (List Nat)) = 0 := rfl
  have hj := joinL_len (wordsL l)
  unfold wordsL wfin at hj ⊢
  simp only [h0, List.length_nil] at h
  split
  · rename_i e
    rw [if_pos e] at hj
    omega
  · rename_i e
    rw [if_neg e, wsum_app] at hj
    have : 0 < (l.foldl wstep ([], [])).2.length := List.length_pos_iff.mpr e
    omega
theorem normL_len (l : List Nat) : (normL l).length ≤ l.length := by
  unfold normL
  refine Nat.le_trans (words_len _) ?_
  rw [List.length_map]
  exact Nat.le_refl _
theorem wordsL_count (l : List Nat) : (wordsL l).length ≤ l.length + 1 := by
  have h := wfold_len l ([], [])
  have h0 : wsum ([] : List (List Nat)) = 0 := rfl
  have hl : ∀ ws : List (List Nat), ws.length ≤ wsum ws := fun ws => by
    induction ws with
    | nil => exact Nat.zero_le _
    | cons p r ih =>
      have e : wsum (p :: r) = (p.length + 1) + wsum r := by unfold wsum; simp
      rw [e, List.length_cons]
      omega
  have h1 := hl (l.foldl wstep ([], [])).1
  simp only [h0, List.length_nil] at h
  unfold wordsL wfin
  split
  · omega
  · rw [List.length_append, List.length_singleton]
    omega
/-! the blown text -/
theorem fold_sp : ∀ (n : Nat) (ws : List (List Nat)), (List.replicate n 32).foldl wstep (ws, []) = (ws, [])
  | 0, _ => rfl
  | n + 1, ws => by
    rw [List.replicate_succ, List.foldl_cons, wstep_sp, if_pos rfl]
    exact fold_sp n ws
theorem fold_sp2 (n : Nat) (st : List (List Nat) × List Nat) : (List.replicate n 32).foldl wstep (wstep st 32) = wstep st 32 := by
  rw [wstep_sp]
  split
  · rename_i e
    obtain ⟨ws, u⟩ := st
    simp only at e
    subst e
    exact fold_sp n ws
  · exact fold_sp n _
theorem wfin_sp (n : Nat) (st : List (List Nat) × List Nat) : wfin ((List.replicate n 32).foldl wstep st) = wfin st := by
  cases n with
  | zero => rfl
  | succ n =>
    rw [List.replicate_succ, List.foldl_cons, fold_sp2, wstep_sp]
    obtain ⟨ws, u⟩ := st
    cases u with
    | nil => rfl
    | cons a r => simp [wfin]
theorem map_rep_sp (n : Nat) : (List.replicate n 32).map lo1 = List.replicate n 32 := by
  rw [List.map_replicate]
  rfl
end Bw

namespace Bw
open PySem L2 TL PyProof.Rows
open NumText (AllDigits digitsVal)

/-! ### numbers -/
def Dg (l : List Nat) : Prop := l ≠ [] ∧ AllDigits l
instance (l : List Nat) : Decidable (AllDigits l) := by unfold NumText.AllDigits; infer_instance
/-- digits without needless zeros -/
def plainD (l : List Nat) : Bool := decide (l ≠ []) && decide (AllDigits l) && (decide (l = [48]) || decide (l.head? ≠ some 48))
theorem plainD_iff {l : List Nat} : plainD l = true ↔ l ≠ [] ∧ AllDigits l ∧ (l = [48] ∨ l.head? ≠ some 48) := by
  unfold plainD
  simp only [Bool.and_eq_true, Bool.or_eq_true, decide_eq_true_eq, and_assoc]
theorem ofNat_toNat {c : Nat} (h : 48 ≤ c ∧ c ≤ 57) : (Char.ofNat c).toNat = c := by
  have : ∀ d, d ≤ 57 → 48 ≤ d → (Char.ofNat d).toNat = d := by decide
  exact this c h.2 h.1
theorem map_back : ∀ {l : List Nat}, AllDigits l → (l.map Char.ofNat).map Char.toNat = l
  | [], _ => rfl
  | c :: r, h => by
    rw [List.map_cons, List.map_cons, ofNat_toNat h.head, map_back h.tail]
theorem numL_all {l : List Nat} (h : AllDigits l) : numL (digitsVal l) = (match l.dropWhile (· == 48) with
    | [] => [48]
    | c :: r => c :: r) := by
  unfold numL
  rw [NumText.toDigits_all l h]
  have hd : AllDigits (l.dropWhile (· == 48)) := fun c hc => h c ((List.dropWhile_sublist _).subset hc)
  generalize l.dropWhile (· == 48) = m at hd ⊢
  cases m with
  | nil => rfl
  | cons c r => exact map_back hd
theorem numL_plain {l : List Nat} (h : AllDigits l) (hne : l ≠ []) : numL (digitsVal l) = l ↔ (l = [48] ∨ l.head? ≠ some 48) := by
  rw [numL_all h]
  cases l with
  | nil => exact absurd rfl hne
  | cons c r =>
    by_cases e : c = 48
    · subst e
      rw [List.dropWhile_cons_of_pos (by decide)]
      constructor
      · intro q
        left
        cases e2 : r.dropWhile (· == 48) with
        | nil =>
          rw [e2] at q
          exact q.symm
        | cons d m =>
          rw [e2] at q
          have q : d :: m = 48 :: r := q
          have hd : (fun x => x == 48) d = false := by
            have := List.head?_dropWhile_not (fun x : Nat => x == 48) r
            rw [e2] at this
            simpa using this
          have : d = 48 := by injection q
          rw [this] at hd
          exact absurd hd (by decide)
      · intro q
        rcases q with q | q
        · have : r = [] := by injection q
          rw [this]
          rfl
        · exact absurd rfl q
    · rw [List.dropWhile_cons_of_neg (by rw [beq_iff_eq]; exact e)]
      refine ⟨fun _ => .inr fun q => e (Option.some.inj q), fun _ => rfl⟩
theorem digitsVal_lt {l : List Nat} (h : AllDigits l) : digitsVal l < 10 ^ l.length := by
  have : ∀ (l : List Nat) (a : Nat), AllDigits l → l.foldl (fun acc c => acc * 10 + (c - 48)) a < (a + 1) * 10 ^ l.length := by
    intro l
    induction l with
    | nil => intro a _; simp
    | cons c r ih =>
      intro a h
      rw [List.foldl_cons, List.length_cons]
      refine Nat.lt_of_lt_of_le (ih _ h.tail) ?_
      have hc := h.head
      rw [Nat.pow_succ]
      have e : (a * 10 + (c - 48) + 1) ≤ (a + 1) * 10 := by omega
      calc _ ≤ ((a + 1) * 10) * 10 ^ r.length := Nat.mul_le_mul_right _ e
        _ = _ := by rw [Nat.mul_assoc, Nat.mul_comm 10]
  have h2 := this l 0 h
  simpa [digitsVal] using h2
theorem log2_small {n : Nat} (h : n < 10 ^ 100) : n.log2 < 1920 := by
  by_cases h0 : n = 0
  · subst h0
    decide
  · rw [Nat.log2_lt h0]
    exact Nat.lt_trans h (by decide)
theorem log2_digits {l : List Nat} (h : AllDigits l) (hl : l.length ≤ 100) : (digitsVal l).log2 < 1920 :=
  log2_small (Nat.lt_of_lt_of_le (digitsVal_lt h) (Nat.pow_le_pow_right (by decide) hl))
/-- str of a negative number -/
theorem tl_neg (n : Nat) (h : 0 < n) : tl (Str.ofString (toString (-(n : Int)))) = 45 :: numL n := by
  cases n with
  | zero => exact absurd h (by decide)
  | succ m =>
    have e : (toString (-((m + 1 : Nat) : Int))) = "-" ++ toString (m + 1) := rfl
    have e2 : tl (Str.ofString (toString (m + 1))) = numL (m + 1) := tl_num (m + 1)
    rw [e, tl_ofString]
    rw [tl_ofString] at e2
    rw [String.toList_append, List.map_append, e2]
    rfl

/-! ### the program's own judge of numbers -/
def numPart (l : List Nat) : List Nat := if l.head? = some 45 then l.tail else l
def fitNum (l : List Nat) : Bool := plainD (numPart l) && decide (l ≠ [45, 48]) && decide ((digitsVal (numPart l) : Int) ≤ 10 ^ 15)
def fitLink (l : List Nat) : Bool := plainD l && decide (1 ≤ (digitsVal l : Int) ∧ (digitsVal l : Int) ≤ 10 ^ 12)
/-- the value of the text of a number -/
def numVal (l : List Nat) : Int := if l.head? = some 45 then -(digitsVal l.tail : Int) else digitsVal l
theorem int_of {x : Str} (h1 : numPart (tl x) ≠ []) (h2 : AllDigits (numPart (tl x))) (hl : x.length ≤ 100) : intText? x = some (numVal (tl x)) := by
  unfold numPart at h1 h2
  unfold numVal
  split
  · rename_i e
    rw [if_pos e] at h1 h2
    cases e2 : tl x with
    | nil => rw [e2] at h1; exact absurd rfl h1
    | cons c r =>
      rw [e2] at e h1 h2
      have : c = 45 := Option.some.inj e
      subst this
      exact intText_neg e2 h2 h1 (by omega)
  · rename_i e
    rw [if_neg e] at h1 h2
    exact intText_digits h2 h1 (by omega)
/-- what the law's own reader of whole numbers gives -/
def wholeV (l : List Nat) : Option Int := if plainD (numPart l) && decide (l ≠ [45, 48]) then some (numVal l) else none
theorem back_iff {x : Str} (h1 : numPart (tl x) ≠ []) (h2 : AllDigits (numPart (tl x))) :
    Str.ofString (toString (numVal (tl x))) = x ↔ (plainD (numPart (tl x)) && decide (tl x ≠ [45, 48])) = true := by
  rw [Bool.and_eq_true, decide_eq_true_eq, plainD_iff]
  have ex : Str.ofString (toString (numVal (tl x))) = x ↔ tl (Str.ofString (toString (numVal (tl x)))) = tl x := ⟨fun h => by rw [h], fun h => ext_tl h⟩
  rw [ex]
  unfold numPart at h1 h2 ⊢
  unfold numVal
  by_cases e : (tl x).head? = some 45
  · rw [if_pos e] at h1 h2 ⊢
    rw [if_pos e]
    cases e2 : tl x with
    | nil => rw [e2] at e; cases e
    | cons c r =>
      rw [e2] at e h1 h2
      have : c = 45 := Option.some.inj e
      subst this
      have h1 : r ≠ [] := h1
      have h2 : AllDigits r := h2
      show tl (Str.ofString (toString (-(digitsVal r : Int)))) = 45 :: r ↔ (r ≠ [] ∧ AllDigits r ∧ (r = [48] ∨ r.head? ≠ some 48)) ∧ 45 :: r ≠ [45, 48]
      by_cases z : digitsVal r = 0
      · rw [z]
        have e3 : tl (Str.ofString (toString (-((0 : Nat) : Int)))) = [48] := tl_num 0
        rw [e3]
        constructor
        · intro q
          injection q with q1 q2
          exact absurd q1 (by decide)
        · rintro ⟨⟨_, _, q⟩, q2⟩
          rcases q with q | q
          · rw [q] at q2
            exact absurd rfl q2
          · have := (numL_plain h2 h1).mpr (.inr q)
            rw [z] at this
            have z2 : numL 0 = [48] := rfl
            rw [z2] at this
            rw [← this] at q
            exact absurd rfl q
      · rw [tl_neg _ (by omega)]
        have np := numL_plain h2 h1
        constructor
        · intro q
          injection q with _ q2
          refine ⟨⟨h1, h2, np.mp q2⟩, fun q3 => ?_⟩
          have : r = [48] := by injection q3
          rw [this] at z
          exact z rfl
        · rintro ⟨⟨_, _, q⟩, _⟩
          rw [np.mpr q]
  · rw [if_neg e] at h1 h2 ⊢
    rw [if_neg e, tl_num, numL_plain h2 h1]
    refine ⟨fun q => ⟨⟨h1, h2, q⟩, fun q2 => ?_⟩, fun q => q.1.2.2⟩
    rw [q2] at e
    exact e rfl
/-- the law's bounds are the program's -/
theorem link_iff (l : List Nat) (h : Sgn l) : fitLink l = true ↔ ∃ n, wholeV l = some n ∧ 1 ≤ n ∧ n ≤ 10 ^ 12 := by
  unfold fitLink wholeV numPart numVal
  by_cases e : l.head? = some 45
  · rw [if_pos e, if_pos e]
    constructor
    · intro q
      rw [Bool.and_eq_true, plainD_iff] at q
      obtain ⟨⟨q1, q2, _⟩, _⟩ := q
      cases l with
      | nil => exact absurd rfl q1
      | cons c r =>
        have : c = 45 := Option.some.inj e
        subst this
        have := q2.head
        omega
    · rintro ⟨n, q, h1, _⟩
      split at q
      · have : -(digitsVal l.tail : Int) = n := Option.some.inj q
        omega
      · cases q
  · rw [if_neg e, if_neg e]
    constructor
    · intro q
      rw [Bool.and_eq_true, decide_eq_true_eq] at q
      have hz : l ≠ [45, 48] := fun z => by rw [z] at e; exact e rfl
      exact ⟨_, by rw [q.1, decide_eq_true hz]; rfl, q.2⟩
    · rintro ⟨n, q, h1, h2⟩
      split at q
      · rename_i q2
        rw [Bool.and_eq_true] at q2
        have : (digitsVal l : Int) = n := Option.some.inj q
        subst this
        rw [q2.1, decide_eq_true ⟨h1, h2⟩]
        rfl
      · cases q
theorem num_iff (l : List Nat) : fitNum l = true ↔ ∃ n, wholeV l = some n ∧ ((if n < 0 then -n else n) ≤ 10 ^ 15) := by
  unfold fitNum wholeV numVal numPart
  by_cases e : l.head? = some 45
  · rw [if_pos e, if_pos e]
    constructor
    · intro q
      rw [Bool.and_eq_true, decide_eq_true_eq] at q
      refine ⟨_, by rw [q.1]; rfl, ?_⟩
      split <;> omega
    · rintro ⟨n, q, h1⟩
      split at q
      · rename_i q2
        have : -(digitsVal l.tail : Int) = n := Option.some.inj q
        subst this
        rw [q2]
        refine decide_eq_true ?_
        split at h1 <;> omega
      · cases q
  · rw [if_neg e, if_neg e]
    constructor
    · intro q
      rw [Bool.and_eq_true, decide_eq_true_eq] at q
      refine ⟨_, by rw [q.1]; rfl, ?_⟩
      split <;> omega
    · rintro ⟨n, q, h1⟩
      split at q
      · rename_i q2
        have : (digitsVal l : Int) = n := Option.some.inj q
        subst this
        rw [q2]
        refine decide_eq_true ?_
        split at h1 <;> omega
      · cases q

/-! ### kinds -/
inductive Kd where | exact | flag | link | number | text
  deriving DecidableEq
def Kd.str : Kd → Str
  | .exact => "exact" | .flag => "flag" | .link => "link" | .number => "number" | .text => "text"
def kds : List Kd := [.exact, .flag, .link, .number, .text]
theorem kd_inj {a b : Kd} : a.str = b.str ↔ a = b := by
  refine ⟨fun h => ?_, fun h => by rw [h]⟩
  have : ∀ a b : Kd, decide (a.str = b.str) = decide (a = b) := by
    intro a b
    cases a <;> cases b <;> decide +kernel
  have e := this a b
  rw [decide_eq_true h] at e
  exact of_decide_eq_true e.symm
def normS (x : Str) : Str := Txt.join " " (Txt.words (Txt.lower x))
theorem tl_blank : tl (" " : Str) = [32] := by decide +kernel
theorem tl_normS {x : Str} (h : Sgn (tl x)) : tl (normS x) = normL (tl x) := by
  unfold normS normL wordsL
  rw [join_eq, tl_join, tl_blank, words_tl, tl_lower h]
def kform (k : Kd) (x : Str) : Option Str :=
  match k with
  | .exact => some x
  | .flag => if x = "yes" ∨ x = "no" then some x else none
  | .link => if fitLink (tl x) then some x else none
  | .number => if fitNum (tl x) then some x else none
  | .text => if normS x = "" then none else some (normS x)
def ov : Option Str → V
  | none => .non
  | some s => .str s
theorem ov_inj {a b : Option Str} : ov a = ov b ↔ a = b := by
  refine ⟨fun h => ?_, fun h => by rw [h]⟩
  cases a <;> cases b <;> simp [ov] at h ⊢
  exact h
/-- a text of the document -/
def IsTx (x : Str) : Prop := Sgn (tl x) ∧ x.length ≤ 100
theorem normS_tx {x : Str} (h : IsTx x) : IsTx (normS x) := by
  refine ⟨by rw [tl_normS h.1]; exact normL_sgn h.1, ?_⟩
  rw [len_tl, tl_normS h.1]
  have := normL_len (tl x)
  have e := len_tl x
  have := h.2
  omega
theorem normS_norm {x : Str} (h : IsTx x) : normS (normS x) = normS x := by
  refine ext_tl ?_
  rw [tl_normS (normS_tx h).1, tl_normS h.1, normL_norm h.1]
theorem kform_tx {k : Kd} {x d : Str} (h : IsTx x) (hx : x ≠ "") (e : kform k x = some d) : IsTx d ∧ d ≠ "" ∧ kform k d = some d := by
  cases k with
  | exact =>
    cases e
    exact ⟨h, hx, rfl⟩
  | flag =>
    have e' : (if x = "yes" ∨ x = "no" then some x else none) = some d := e
    split at e'
    · rename_i q
      cases e'
      exact ⟨h, hx, if_pos q⟩
    · cases e'
  | link =>
    have e' : (if fitLink (tl x) then some x else none) = some d := e
    split at e'
    · rename_i q
      cases e'
      exact ⟨h, hx, if_pos q⟩
    · cases e'
  | number =>
    have e' : (if fitNum (tl x) then some x else none) = some d := e
    split at e'
    · rename_i q
      cases e'
      exact ⟨h, hx, if_pos q⟩
    · cases e'
  | text =>
    have e' : (if normS x = "" then none else some (normS x)) = some d := e
    split at e'
    · cases e'
    · rename_i q
      cases e'
      refine ⟨normS_tx h, q, ?_⟩
      show (if normS (normS x) = "" then none else some (normS (normS x))) = _
      rw [normS_norm h, if_neg q]
end Bw

namespace Bw
open PySem PySem.Spec L2 TL PyProof.Rows

/-! ### rules that the layer lacks -/
def repS (x : Str) (n : Int) : Str := ⟨((List.replicate n.toNat (tl x)).flatten).toArray⟩
theorem tl_repS (x : Str) (n : Int) : tl (repS x n) = (List.replicate n.toNat (tl x)).flatten := rfl
theorem foldl_app (l : List (Array Nat)) : ∀ (a : Array Nat), (l.foldl (· ++ ·) a).toList = a.toList ++ (l.map Array.toList).flatten := by
  induction l with
  | nil => intro a; simp
  | cons b r ih =>
    intro a
    rw [List.foldl_cons, ih, Array.toList_append, List.map_cons, List.flatten_cons, List.append_assoc]
theorem repS_fold (x : Str) (n : Int) : (⟨(List.replicate n.toNat x.cps).foldl (· ++ ·) #[]⟩ : Str) = repS x n := by
  refine ext_tl ?_
  show ((List.replicate n.toNat x.cps).foldl (· ++ ·) #[]).toList = _
  rw [foldl_app, List.map_replicate, tl_repS]
  rfl
section
variable {X : Cx}
theorem call_repr_bl : CallR X (.builtin "repr") (fun xs H Q => ∃ b, xs = [.bl b] ∧ Q (.str (if b then "True" else "False")) H) := by
  intro pins s σ H xs us Q I r h
  obtain ⟨b, rfl, q⟩ := h
  obtain ⟨u, rfl, r1⟩ := vals1 r
  cases r1
  exact PySem.P.repr_of_bool ⟨.str _, H, I.tok _, ⟨_, rfl⟩, q⟩
/-- s * n -/
def rMulS : R2 := fun x y H Q => ∃ z n, x = .str z ∧ y = .int n ∧ 0 ≤ n ∧ n ≤ 1000 ∧ z.length ≤ 1000 ∧ Q (.str (repS z n)) H
theorem op_mulS : OpR X (binaryOp .Mult) rMulS := by
  intro pins s σ H x y v u Q I rx ry h
  obtain ⟨z, n, rfl, rfl, h0, h1, hz, q⟩ := h
  obtain ⟨t, rfl⟩ := rx
  obtain ⟨t', rfl⟩ := ry
  have hle : z.length * n.toNat ≤ 1000000 := by
    have := Nat.mul_le_mul hz (show n.toNat ≤ 1000 by omega)
    omega
  refine PySem.P.mul_str ?_ ?_ ?_ ?_
  · rw [decide_eq_false (by omega), decide_eq_false (by omega)]
    rfl
  · intro h2 _
    have h3 : (1 : Int) ≤ n := by omega
    have h4 : ((2 : Int) ^ 63 - 1) / 1000 ≤ (2 ^ 63 - 1) / n := by
      refine Int.le_ediv_of_mul_le (by omega) ?_
      have : ((2 : Int) ^ 63 - 1) / 1000 * n ≤ ((2 : Int) ^ 63 - 1) / 1000 * 1000 := Int.mul_le_mul_of_nonneg_left (by omega) (by decide)
      exact Int.le_trans this (by decide)
    have h5 : (1000 : Int) ≤ ((2 : Int) ^ 63 - 1) / 1000 := by decide
    omega
  · intro _ _
    unfold Builtin.Str.tooLong
    refine decide_eq_false ?_
    have : (sizeLine : Nat) = 16777216 := sizeLine_eq
    omega
  · by_cases h2 : n < 1
    · rw [if_pos h2]
      have e : n = 0 := by omega
      subst e
      exact ⟨by decide, ⟨.str _, H, I.tok _, ⟨_, rfl⟩, q⟩⟩
    · rw [if_neg h2]
      split
      · rename_i h3
        have e : repS z n = z := by
          refine ext_tl ?_
          rw [tl_repS]
          rw [Bool.or_eq_true, beq_iff_eq, beq_iff_eq] at h3
          rcases h3 with h3 | h3
          · subst h3
            show (List.replicate 1 (tl z)).flatten = _
            simp
          · have : tl z = [] := (len0_tl z).mp h3
            rw [this]
            simp
        rw [e] at q
        exact ⟨.str z, H, I, ⟨t, rfl⟩, q⟩
      · rw [repS_fold]
        exact ⟨by
          show (repS z n).length ≤ sizeLine
          rw [len_tl, tl_repS, List.length_flatten, List.map_replicate, List.sum_replicate_nat]
          have e := len_tl z
          have : (sizeLine : Nat) = 16777216 := sizeLine_eq
          have h9 : n.toNat * (tl z).length ≤ 1000000 := by rw [← e, Nat.mul_comm]; exact hle
          omega, ⟨.str _, H, I.tok _, ⟨_, rfl⟩, q⟩⟩
def CPowW (i j : Int) : Prop := 0 ≤ j ∧ (Builtin.Int.intBits i : Int) * j ≤ 2 ^ 27
theorem op_powW : OpR X (binaryOp .Pow) (rI CPowW fun i j => .int (i ^ j.toNat)) := opI fun _ _ _ _ _ _ _ hc q => pow_int hc.1 hc.2 q
end
end Bw

namespace Bw
open PySem PySem.Spec L2 TL PyProof.Rows

/-! ### for i, c in enumerate(s), s a text -/
/-- each sign in a new pair with its place -/
def Itn (x : Str) : It := ⟨fun i _ => i < x.cps.size, fun i H v H' => ∃ (T : Addr) (c : Nat), x.cps[i]? = some c ∧ v = .ref T ∧ H T = none ∧ H' = upd H T (.tup [.int (i : Nat), .str ⟨#[c]⟩]), fun i _ => i = x.cps.size⟩
theorem turn_enumS {P : Program} {w : World} {K : PySem.W.Frag} {elts : List Expr} {kk : Nat} {tpos : Pos} (en si : Addr) (x : Str) (t : Tok) :
    Turn P w K (.Tuple elts kk tpos) (Itn x) [en, si] en (fun i h => (∃ old, IsEnum h en si ((i : Nat) : Int) old) ∧ h.IsStrIter si (strIterType x) x t i ∧ en ≠ si) where
  mem := by simp
  obj := fun i h st b hb => by
    obtain ⟨⟨old, ho⟩, ⟨o, e1, e2, e3⟩, _⟩ := st
    rcases (by simpa using hb : b = en ∨ b = si) with rfl | rfl
    · exact ⟨_, ho, fun v z => nomatch z⟩
    · exact ⟨o, e1, fun v z => by rw [e3] at z; cases z⟩
  keep := fun i h h' st k => by
    obtain ⟨⟨old, ho⟩, ⟨o, e1, e2⟩, ne⟩ := st
    exact ⟨⟨old, k en (by simp) _ ho⟩, ⟨o, k si (by simp) _ e1, e2⟩, ne⟩
  item := by
    intro X e1 e2 e3 calm i pins s σ H E I hf st hgo
    subst e1 e2 e3
    obtain ⟨⟨old, ho⟩, hs, ne⟩ := st
    have le : en < s.heap.objs.size := Heap.lt_size ho
    have ls : si < s.heap.objs.size := by
      obtain ⟨_, q, _⟩ := hs
      exact Heap.lt_size q
    have D : Draws X.prog X.w X.A.in1 si [si] x.cps.size _ _ := Draws.text (show X.A.in1.handled = none from I.ok.hd calm) si x t
    refine wpAny_pyNext_enum_itemD D ho hs hgo ne (by simpa using ne) fun u h1 tk hu ho1 hs1 hT hz hk => ?_
    obtain ⟨c, t2, hc, rfl⟩ := hu
    refine ⟨_, rfl, wpAny_letOwnedTupleGo_enum (s := { s with heap := h1, toks := tk + 1 }) ho1 fun h2 ho2 sb => ?_⟩
    have hT2 : h2.get? s.heap.objs.size = some { cls := .type "tuple", data := .seq #[.int i tk, .str ⟨#[c]⟩ t2] } := (sb.2 _ (Nat.ne_of_gt le)).trans hT
    have okT : ObjOk X.prog X.w (upd H s.heap.objs.size (.tup [.int (i : Nat), .str ⟨#[c]⟩])) h2 s.heap.objs.size (.tup [.int (i : Nat), .str ⟨#[c]⟩]) :=
      ⟨by show 2 ≤ sizeLine; decide, [.int i tk, .str ⟨#[c]⟩ t2], .cons ⟨_, rfl⟩ (.cons ⟨_, rfl⟩ .nil), ⟨_, hT2, rfl, _, rfl⟩⟩
    have I2 := I.turnedNew (t' := tk + 1) (ch := [en, si]) (fun b ob hb q => (sb.2 b (fun z => hb (by simp [z]))).trans (hk b ob (fun z => hb (by simp [z])) (fun z => hb (by simp [z])) q)) hf (Nat.le_refl _) okT
    refine ⟨.ref s.heap.objs.size, _, I2, rfl, ⟨_, c, hc, rfl, I.hok.fresh (Nat.le_refl _), rfl⟩, ⟨⟨.str ⟨#[c]⟩ t2, ?_⟩, ?_, ne⟩, fun b hb => ?_⟩
    · rw [show ((i + 1 : Nat) : Int) = (i : Int) + 1 by omega]
      exact ho2
    · obtain ⟨o, q1, q2⟩ := hs1
      exact ⟨o, (sb.2 si (Ne.symm ne)).trans q1, q2⟩
    · have lb : b < s.heap.objs.size := by
        rcases (by simpa using hb : b = en ∨ b = si) with rfl | rfl
        · exact le
        · exact ls
      rw [upd_ne (Nat.ne_of_lt lb)]
      exact (hf b hb).1
  done := by
    intro X e1 e2 e3 calm i pins s σ H E I hf st hstop
    subst e1 e2 e3
    obtain ⟨⟨old, ho⟩, hs, ne⟩ := st
    obtain ⟨f0, f1, f2, f3, f4, f5⟩ := hf si (by simp)
    have hi : i = x.cps.size := hstop
    subst hi
    have D : Draws X.prog X.w X.A.in1 si [si] x.cps.size _ _ := Draws.text (show X.A.in1.handled = none from I.ok.hd calm) si x t
    exact wpAny_pyNext_enum_endD D ho hs fun h' eb => ⟨rfl, I.turned (t' := s.toks) (fun b o hb q => eb b o hb q) f0 f1 f3 f4 f5⟩
  self := fun A i s Q E st h => by
    obtain ⟨⟨_, ho⟩, _⟩ := st
    exact wpAny_pyIter_enum ho h
def iEnumS (ta : TA) : TI := fun σ H R => ta σ H fun vs H1 => ∃ x : Str, vs = [.str x] ∧ R (Itn x) H1
theorem pi_enumS {X : Cx} {e : Expr} {ta : TA} {p pos tpos : Pos} {elts : List Expr} {kk : Nat} (hg : Gl X "enumerate") (hm : X.mg "enumerate" = none) (ha : PA X [e] ta) (hs : starEach [e] X.env = [(false, eval e X.env)] := by rfl) :
    PI X (.Tuple elts kk tpos) (.Call (.Name "enumerate" p) [e] [] pos) (iEnumS ta) := by
  refine ⟨fun pins s σ H R I q => ?_⟩
  refine Call_ (ld_blt I hg hm boot_enumerate (PyProof.Rows.callWith_type1 (thn (ha.run pos pins s σ H _ I q) fun us s1 ⟨vs, H1, I1, r1, q1⟩ => ?_) hs rfl))
  obtain ⟨x, rfl, q1⟩ := q1
  obtain ⟨u, rfl, t, rfl⟩ := vals1 r1
  refine call_enumerate_str fun h' ho hsi hz hk => wpAny_pyIter_enum ho ?_
  have I2 : Inv X pins σ H1 { s1 with heap := h' } := I1.kept (t' := s1.toks) hk
  refine ⟨s1.heap.objs.size + 1, [s1.heap.objs.size + 1, s1.heap.objs.size], _, _, H1, rfl, I2, turn_enumS (s1.heap.objs.size + 1) s1.heap.objs.size x t, ⟨⟨.none, ho⟩, hsi, Nat.succ_ne_self _⟩, fun b hb => ?_, q1⟩
  have lb : s1.heap.objs.size ≤ b := by
    rcases (by simpa using hb : b = s1.heap.objs.size + 1 ∨ b = s1.heap.objs.size) with rfl | rfl
    · exact Nat.le_add_right _ _
    · exact Nat.le_refl _
  exact I1.fpOk lb (I1.hok.fresh lb)
theorem walk_enumS {x : Str} : Walk (Itn x) x.cps.size (fun _ => True) (fun i H v H' => ∃ (T : Addr) (c : Nat), x.cps[i]? = some c ∧ v = .ref T ∧ H T = none ∧ H' = upd H T (.tup [.int (i : Nat), .str ⟨#[c]⟩])) :=
  ⟨fun _ _ hi _ => hi, fun _ _ => rfl, fun _ _ _ _ _ _ y => y⟩
end Bw

namespace Bw
open PySem PySem.Spec L2 TL PyProof.Rows

/-! ### a while whose test gives a token out -/
def PTT (X : Cx) (c : Expr) (t : TT) : Prop :=
  ∀ (pins : List (Addr × Obj)) (s : Shared) (σ : L2.St) (H : Hp) (Q : Bool → Hp → Prop), L2.Inv X pins σ H s → t σ H Q → wpAny (model X.prog X.w) X.A (isTrue c X.env (eval c X.env)) (fun b s' => 1 ≤ s'.toks ∧ TP X pins σ Q b s') X.xe s
section
variable {X : Cx}
theorem ptt_strCmp {op : CmpOp} {r : R2} {x : Str} {j : Nat} {p pos : Pos} {b : Expr} {tb : TE} (ho : OpR X (compareOp op) r) (hb : PE X b tb) (hm : behindInMarks op b = false) : PTT X (.Compare (.Constant (.str x) j p) [op] [b] pos) (tTest (tOp r (tC (.str x)) tb)) := by
  intro pins s σ H Q I h
  refine wpAny_isTrue_Compare1 (Calls.Constant_str ?_) hm
  have I1 : L2.Inv X pins σ H { s with toks := s.toks + 1 } := I.tok _
  refine wpAny_mono (PySem.wpAny_toks (hb.run pins _ σ H _ I1 h)) (fun u s2 q => ?_) fun _ _ z => z.2
  obtain ⟨hk, y, H2, I2, r2, q2⟩ := q
  have hk2 : 1 ≤ s2.toks := by
    have : s.toks + 1 ≤ s2.toks := hk
    omega
  refine wpAny_mono (PySem.wpAny_toks (ho pins s2 σ H2 (.str x) y _ u _ I2 ⟨_, rfl⟩ r2 q2)) (fun c s3 q => ?_) fun _ _ z => z.2
  obtain ⟨hk3, z, H3, I3, r3, k, e, q3⟩ := q
  subst e
  cases r3
  exact wpAny_truthy_bool ⟨Nat.le_trans hk2 hk3, H3, I3, q3⟩
theorem ps_whileT {cond : Expr} {inside : List Stmt} {pos : Pos} {tc : TT} {ti : TS} (own : PassesOwn (model X.prog X.w) X.A X.env X.xe) (hcond : PTT X cond tc) (hin : PSsT X inside ti) : PS X (.While cond inside [] pos) (tWhile tc ti) := by
  refine ⟨fun ps sh τ G Z inv goal => ?_⟩
  obtain ⟨Wh, ⟨k0, start⟩, round⟩ := goal
  refine wpAny_While (codeAny_whileLoop (fun k sh' => ∃ τ' G', L2.Inv X ps τ' G' sh' ∧ Wh k τ' G') ?_ k0 ⟨τ, G, inv, start⟩)
  rintro k sa ⟨τa, Ga, inva, wa⟩
  refine wpAny_passesOwn own (thn (hcond ps sa τa Ga _ inva (round k τa Ga wa)) fun yes sb ⟨tokb, Gb, invb, qb⟩ => ?_)
  have back : ∀ {Nn : L2.St → Hp → Prop} {τc : L2.St} {Gc : Hp} {sc : Shared}, (∀ a b, Nn a b → ∃ k', k' < k ∧ Wh k' a b) → L2.Inv X ps τc Gc sc → Nn τc Gc → ∃ k', k' < k ∧ ∃ a b, L2.Inv X ps a b sc ∧ Wh k' a b := fun less invc nc => by
    obtain ⟨k', lt, wc⟩ := less _ _ nc
    exact ⟨k', lt, _, _, invc, wc⟩
  cases yes with
  | false => rw [if_neg (fun z => nomatch z)]; exact wpAny_execs_nil ⟨τa, Gb, invb, qb⟩
  | true =>
    obtain ⟨Nn, less, qc⟩ := qb
    rw [if_pos rfl]
    refine wpAny_passesOwn own (thn (hin ps sb τa Gb _ tokb invb qc) fun flow sc qd => ?_)
    cases flow with
    | brk => exact qd
    | ret _ => exact qd
    | next => obtain ⟨_, _, i1, i2⟩ := qd; exact back less i1 i2
    | cont => obtain ⟨_, _, i1, i2⟩ := qd; exact back less i1 i2
theorem pst_set {i : Nat} {x : Str} {e : Expr} {te : TE} {pos pos' : Pos} (hN : X.N.Nodup) (hi : X.N[i]? = some x) (hx : Loc X.env.scope x) (he : PET X e te) (hs : swapsWith e (some (.Name x pos')) pos.line X.env = pure false := by rfl) (hf : X.fn x = true ∨ X.env.scope.names.lookup x = some .local := by first | exact .inl rfl | exact .inr rfl | assumption) :
    PST X (.Assign [.Name x pos'] e pos) (tAsg te (gName i)) := by
  intro ps sh τ G Z tok inv goal
  exact wpAny_Assign_Name (thn (he ps sh τ G _ tok inv goal) fun val sa ⟨y, Ga, inva, ra, qa⟩ => store_ok inva hN hi hx ra (fun sb invb => ⟨_, Ga, invb, qa⟩) hf) hs
end
end Bw

namespace Bw
open PySem PySem.Spec L2 TL PyProof.Rows

/-! ### whatever guards stand around -/
/-- the same surroundings, with these guards -/
def gd (A : Around) (g : List Code) : Around := { A with guards := some g }
theorem codeAny_gd {M : Model} {A : Around} {c : Code} {R : Result → Shared → Prop} {s : Shared} (h : ∀ g, codeAny M (gd A g) c R s) : codeAny M A c R s := fun Γ p hc hb =>
  h (guardsOf Γ.below) Γ p hc ⟨hb.1, hb.2.1, hb.2.2.1, fun _ e => Option.some.inj e, hb.2.2.2.2⟩
section
variable {P : Program} {w : World} {K : PySem.W.Frag} {mg : Str → Option Value} {base : Heap}
/-- a def whose body knows the guards around it, and its own code object -/
structure FunC (K : PySem.W.Frag) (x qual : Str) (st : Stmt) (f : Addr) (fd : FuncData) (c : Addr) : Prop where
  ex : ∃ (oc : Value) (od : Option Addr) (kV doc pm : Value) (an : Option Addr) (ct : Value) (osl : Array (Option Value)),
    fd = PySem.W.fnOf x qual (defArgs st) (defBody st) (defScope st) .none kV doc pm an (.ref c) ct ∧ K.lookup f = some ⟨oc, od, .func fd, osl⟩ ∧ PySem.W.codeIn K (.ref c) qual = true
  kp : PySem.W.keepIn K (.ref f) = true
theorem FunC.plain {x qual : Str} {st : Stmt} {f : Addr} {fd : FuncData} {c : Addr} (F : FunC K x qual st f fd c) : Fun K x qual st f fd := by
  obtain ⟨oc, od, kV, doc, pm, an, ct, osl, e, lk, hcd⟩ := F.ex
  exact ⟨⟨oc, od, kV, doc, pm, an, .ref c, ct, osl, e, lk, hcd⟩, F.kp⟩
theorem okG {x qual : Str} {st : Stmt} {f c : Addr} {fd : FuncData} {N ps : List Str} {k : Nat} {sp : Sp} (F : FunC K x qual st f fd c) (S : FnScope N ps (defScope st)) (len : ∀ vs H Q E, sp vs H Q E → vs.length = ps.length)
    (hbody : ∀ (A : Around) (g : List Code) (outer : List Env) (s : Shared) (H : Hp) (vs : List V) (Q : VK) (E : XK), A.guards = some g → Room k (A.deeper (envOfC qual (defScope st) s.heap.objs.size f (.ref c))) → sp vs H Q E →
      ∃ t, PSs (cxOf CX0 P w K mg base N qual (defScope st) f (.ref c) A outer s H E).nox (defBody st) t ∧ t { nx := fun _ H' => Q .non H', rt := Q } (start N vs) H) : FnOk P w K mg base CX0 (k + 1) f fd ps sp := by
  obtain ⟨oc, od, kV, doc, pm, an, ct, osl, rfl, lk, hcd⟩ := F.ex
  refine ⟨len, fun A outer s H args us vs Q E hr e0 hb r hsp => codeAny_gd fun g => ?_⟩
  have e1 : Env0 P w K mg base (gd A g) outer s H := ⟨e0.frames, e0.mod, e0.bs, e0.bsz, e0.funs, e0.frf, e0.hok, e0.bare⟩
  refine LamX.run_ofS (A := gd A g) lk hcd S ⟨hr.hd, hr.dp, hr.un⟩ e1 hb r (len _ _ _ _ hsp) fun hr' => ?_
  obtain ⟨t, h, q⟩ := hbody (gd A g) g outer s H vs Q E rfl hr' hsp
  exact ⟨t, h.nox, q⟩
end

/-! ### repr of what stands in the heap -/
section
variable {prog : Program} {w : World} {A : Around} {E : Value → Shared → Prop} {s : Shared}
open Builtin
theorem slotG_calls {self : Value} {T : String} {id : String} {Q : Option Value → Shared → Prop} (hT : s.TypeIs self T) (h : SlotG T (Str.ofString "__repr__") id)
    (hc : wpAny (model prog w) A (call (.builtin id) [self]) (fun v => Q (some v)) E s) : wpAny (model prog w) A (callSpecialIfBound? self (Str.ofString "__repr__") []) Q E s := wpAny_callSpecialIfBound?_slotG (args := []) hT h hc
/-- repr(x), x of the type T that has its own repr -/
theorem repr_by {T id : String} {a : Addr} {Q : Value → Shared → Prop} (hT : s.TypeIs (.ref a) T) (slot : SlotG T (Str.ofString "__repr__") id) (hu : A.units + 2 < cLine)
    (h : wpAny (model prog w) A.in1 (call (.builtin id) [.ref a]) (fun v s' => ∃ x t, v = .str x t ∧ Q v s') E s) : wpAny (model prog w) A (call (.builtin "repr") [.ref a]) Q E s := by
  refine Calls.call_function_entry PySem.F.kind_repr PySem.F.plain_repr PySem.F.entry_repr (PySem.F.args_repr1 _) ?_
  unfold Builtin.«repr»
  refine wpAny_bind (m := oneArg "repr" _) (wpAny_pure ?_)
  refine wpAny_bind (wpAny_cRoomFor (by show A.units + 1 < cLine; omega) ?_)
  refine wpAny_bind (wpAny_specialOf (name := Str.ofString "__repr__") hT slot.lookup ?_)
  refine wpAny_bind (slotG_calls hT slot (wpAny_mono h (fun v s' q => ?_) fun _ _ z => z))
  obtain ⟨x, t, rfl, q⟩ := q
  refine wpAny_bind (wpAny_isInstance (T := "str") (b := true) rfl isSubtype_str_str ?_)
  exact wpAny_pure ⟨_, rfl, q⟩
/-- whether the tuple's repr is under way -/
def tupHit (g : List Code) (a : Addr) : Bool := g.any fun c => tupGuardF (.ref a) (c, default)
def tupR (g : List Code) (a : Addr) (ts : List Str) : Str := if tupHit g a then "(...)" else tupleText ts
theorem tup_repr {a : Addr} {o : Obj} {items : Array Value} {n : Nat} {ts : List Str} {g : List Code} {Q : Value → Shared → Prop} (hTy : s.TypeIs (.ref a) "tuple") (hg : A.guards = some g)
    (ha : s.heap.get? a = some o) (hd : o.data = .seq items n) (hT : ReprAll prog w items.toList ts) (hsz : (tupleText ts).length ≤ sizeLine)
    (hQ : ∀ u tk, Q (.str (tupR g a ts) u) { s with toks := tk }) : wpAny (model prog w) A (call (.builtin "tuple.__repr__") [.ref a]) Q E s := by
  refine wpAny_call (codeAny_call_builtin_own (Code.quiet_builtin _ (by decide +kernel)) PySem.F.entry_tuple_repr (PySem.F.slot_tuple_repr.check _ _ _ _ _ _ _ _ hTy (PySem.F.args_tuple_repr_1 _) ?_))
  show wpOwn _ _ _ (Builtin.tupleReprAt 0 ⟨[.ref a], []⟩) _ _ s
  rw [tuple_repr_tree, tupleReprUnderWay_eq]
  refine wpOwn_bind (wpOwn_stackTailAny hg (tupGuardF_off _) (tupGuardF_pos _) ?_)
  unfold tupR at hQ
  show wpOwn _ _ _ (if tupHit g a = true then _ else _) _ _ s
  cases e : tupHit g a with
  | true =>
    rw [e] at hQ
    rw [if_pos rfl]
    refine wpOwn_of_wpAny (wpAny_bind (wpAny_rule (wpAny_bind (wpAny_mkStr (wpAny_pure ?_) (by decide +kernel)))))
    exact hQ _ _
  | false =>
    rw [e] at hQ
    rw [if_neg (by decide)]
    exact wpOwn_of_wpAny (wpAny_tupleReprRest ha hd hT hQ (by omega))
/-- whether the list's repr is under way -/
def lstF (a : Addr) : Code × Pos → Bool := fun
  | (.builtin "list.__repr__.loop" ⟨v :: _, _⟩, _) => Builtin.List.listSameRef v (.ref a)
  | _ => false
def lstHit (g : List Code) (a : Addr) : Bool := g.any fun c => lstF a (c, default)
def lstR (g : List Code) (a : Addr) (ts : List Str) : Str := if lstHit g a then "[...]" else listText ts
theorem lstF_cons (a : Addr) (id : String) (v : Value) (rest : List Value) (kw : List (Str × Value)) (p : Pos) : lstF a (.builtin id ⟨v :: rest, kw⟩, p) = (decide (id = "list.__repr__.loop") && Builtin.List.listSameRef v (.ref a)) := by
  by_cases h : id = "list.__repr__.loop"
  · subst h
    simp [lstF]
  · simp [lstF, h]
theorem lstF_pos (a : Addr) (c : Code) (p : Pos) : lstF a (c, p) = lstF a (c, default) := by
  cases c with
  | builtin id args =>
    obtain ⟨xs, kw⟩ := args
    cases xs with
    | nil => simp [lstF]
    | cons v rest => rw [lstF_cons, lstF_cons]
  | _ => rfl
theorem lstF_off (a : Addr) (c : Code) (p : Pos) (hc : c.isGuard = false) : lstF a (c, p) = false := by
  cases c with
  | builtin id args =>
    obtain ⟨xs, kw⟩ := args
    cases xs with
    | nil => simp [lstF]
    | cons v rest =>
      rw [lstF_cons]
      have h : ¬ id = "list.__repr__.loop" := fun z => by
        rw [z] at hc
        simp [Code.isGuard, guardIds] at hc
      simp [h]
  | _ => rfl
theorem lst_repr {a : Addr} {o : Obj} {x : Value} {l : List Value} {n : Nat} {ts : List Str} {g : List Code} {Q : Value → Shared → Prop} (hTy : s.TypeIs (.ref a) "list") (hg : A.guards = some g)
    (ha : s.heap.get? a = some o) (hd : o.data = .seq (x :: l).toArray n) (hlen : ts.length = (x :: l).toArray.size) (hT : ∀ (i : Nat) (y : Value), (x :: l).toArray[i]? = some y → ∃ t, ts[i]? = some t ∧ ReprIs prog w y t) (hsz : (listText ts).length ≤ sizeLine)
    (hQ : ∀ h' u tk, (∀ b o, s.heap.get? b = some o → h'.get? b = some o) → Q (.str (lstR g a ts) u) { s with heap := h', toks := tk }) : wpAny (model prog w) A (call (.builtin "list.__repr__") [.ref a]) Q E s := by
  unfold lstR at hQ
  cases e : lstHit g a with
  | false =>
    rw [e] at hQ
    refine call_list_repr hTy hg (fun v rest kw hm => ?_) ha hd hlen hT hQ hsz
    have := List.any_eq_false.mp e _ hm
    rw [lstF_cons] at this
    simpa using this
  | true =>
    rw [e] at hQ
    refine wpAny_call (codeAny_call_builtin_own (Code.quiet_builtin _ (by decide +kernel)) PySem.F.entry_list_repr (PySem.F.slot_list_repr.check _ _ _ _ _ _ _ _ hTy (PySem.F.args_list_repr_1 _) ?_))
    show wpOwn _ _ _ (Builtin.listReprAt 0 ⟨[.ref a], []⟩) _ _ s
    intro Γ p hcd hΓ
    unfold Builtin.listReprAt
    simp [slotArgs, Builtin.List.listItems, seqItems?, Sem.wp_load_of (h := ha), hd, stack]
    show Sem.wp _ Γ (if (Γ.below.any (lstF a)) = true then _ else _) _ _ p s
    have e2 : Γ.below.any (lstF a) = true := by
      rw [any_eq_guards (lstF_off a) (lstF_pos a), hΓ.2.2.2.1 g hg]
      exact e
    rw [if_pos e2]
    have hΓ2 : Γ.In (A.under (.builtin "list.__repr__" ⟨[.ref a], []⟩)) := hcd ▸ hΓ.in
    exact (show wpAny (model prog w) (A.under (.builtin "list.__repr__" ⟨[.ref a], []⟩)) (do rule "list.__repr__.in-itself"; retStr "[...]") _ _ s from wpAny_bind (wpAny_rule (wpAny_bind (wpAny_mkStr (wpAny_pure (hQ _ _ _ fun _ _ z => z)) (by decide +kernel))))) Γ p hΓ2
def dctHit (g : List Code) (a : Addr) : Bool := g.any fun c => dictGuardF (.ref a) (c, default)
def dctR (g : List Code) (a : Addr) : Str := if dctHit g a then "{...}" else dictText []
theorem dct_repr {a : Addr} {o : Obj} {n : Nat} {g : List Code} {Q : Value → Shared → Prop} (hg : A.guards = some g)
    (ha : s.heap.get? a = some o) (hc : o.cls = .type "dict") (hd : o.data = .dict #[] n) (hsys : (a == sysModules) = false)
    (hQ : ∀ u tk, Q (.str (dctR g a) u) { s with toks := tk }) : wpAny (model prog w) A (call (.builtin "dict.__repr__") [.ref a]) Q E s := by
  have hTy : s.TypeIs (.ref a) "dict" := ⟨o, ha, hc⟩
  refine wpAny_call (codeAny_call_builtin_own (Code.quiet_builtin _ (by decide +kernel)) PySem.F.entry_dict_repr (PySem.F.slot_dict_repr.check _ _ _ _ _ _ _ _ hTy (PySem.F.args_dict_repr_1 _) ?_))
  show wpOwn _ _ _ (Builtin.dictReprAt 0 ⟨[.ref a], []⟩) _ _ s
  unfold Builtin.dictReprAt
  refine wpOwn_bind (wpOwn_of_wpAny ?_)
  unfold Builtin.Dict.dictSlotNone
  refine wpAny_bind (wpAny_notOrdered_dict hTy ?_)
  show wpAny _ _ (pure (Value.ref a)) _ _ s
  refine wpAny_pure ?_
  rw [dictReprRunning_eq]
  refine wpOwn_bind (wpOwn_stackTailAny hg (dictGuardF_off _) (dictGuardF_pos _) ?_)
  unfold dctR at hQ
  show wpOwn _ _ _ (if dctHit g a = true then _ else _) _ _ s
  cases e : dctHit g a with
  | true =>
    rw [e] at hQ
    rw [if_pos rfl]
    refine wpOwn_of_wpAny (wpAny_bind (wpAny_rule (wpAny_bind (wpAny_mkStr (wpAny_pure ?_) (by decide +kernel)))))
    exact hQ _ _
  | false =>
    rw [e] at hQ
    rw [if_neg (by decide)]
    refine wpOwn_of_wpAny ?_
    show wpAny _ _ (Builtin.Dict.addrOf (.ref a) >>= _) _ _ s
    refine wpAny_bind (wpAny_pure ?_)
    show wpAny _ _ (Builtin.Dict.showsAll a >>= _) _ _ s
    unfold Builtin.Dict.showsAll
    rw [if_neg (by rw [hsys]; exact Bool.false_ne_true)]
    refine wpAny_bind (wpAny_pure ?_)
    refine wpAny_bind (wpAny_dictEpoch ha hd ?_)
    refine wpAny_bind (wpAny_dictEntries ha hd ?_)
    refine wpAny_bind ?_
    rw [Std.Legacy.Range.forIn_eq_forIn_range']
    simp only [Std.Legacy.Range.size, Nat.sub_zero, Nat.add_sub_cancel, Nat.div_one]
    show wpAny _ _ (pure _) _ _ s
    refine wpAny_pure (wpAny_bind (wpAny_mkStr (wpAny_pure ?_) (by decide +kernel)))
    exact hQ _ _
end
end Bw

namespace Bw
open PySem PySem.Spec L2 TL PyProof.Rows

/-- the text that repr gives, while the guards g stand around -/
inductive RpV (g : List Code) (H : Hp) : V → Str → Prop where
  | non : RpV g H .non "None"
  | bl (b : Bool) : RpV g H (.bl b) (if b then "True" else "False")
  | int (i : Int) (h : i.natAbs.log2 < 1920) (hz : (Str.ofString (toString i)).length ≤ 100000) : RpV g H (.int i) (toString i)
  | str (x : Str) (h : (reprText x).length ≤ 100000) : RpV g H (.str x) (reprText x)
  | tup {a : Addr} {xs : List Str} (e : H a = some (.tup (xs.map V.str))) (h : ∀ y ∈ xs, (reprText y).length ≤ 100000) (hz : (tupleText (xs.map reprText)).length ≤ 100000) : RpV g H (.ref a) (tupR g a (xs.map reprText))
  | lst {a : Addr} {x : Str} {xs : List Str} (e : H a = some (.lst ((x :: xs).map V.str))) (h : ∀ y ∈ x :: xs, (reprText y).length ≤ 100000) (hz : (listText ((x :: xs).map reprText)).length ≤ 100000) : RpV g H (.ref a) (lstR g a ((x :: xs).map reprText))
  | dct {a : Addr} (e : H a = some (.dK [])) : RpV g H (.ref a) (dctR g a)
theorem sz100 {n : Nat} (h : n ≤ 100000) : n ≤ sizeLine := Nat.le_trans h (by decide)
theorem RpV.up {g : List Code} {H H' : Hp} {v : V} {r : Str} (h : RpV g H v r) (e : Same H H') : RpV g H' v r := by
  cases h with
  | non => exact .non
  | bl b => exact .bl b
  | int i h hz => exact .int i h hz
  | str x h => exact .str x h
  | tup q h hz => exact .tup (e _ _ q) h hz
  | lst q h hz => exact .lst (e _ _ q) h hz
  | dct q => exact .dct (e _ _ q)
theorem tup_len : ∀ g a ts, (tupleText ts).length ≤ 100000 → (tupR g a ts).length ≤ 100000 := fun g a ts h => by
  unfold tupR
  split
  · decide +kernel
  · exact h
theorem RpV.len {g : List Code} {H : Hp} {v : V} {r : Str} (h : RpV g H v r) : r.length ≤ 100000 := by
  cases h with
  | non => decide +kernel
  | bl b => cases b <;> decide +kernel
  | int i h hz => exact hz
  | str x h => exact h
  | tup q h hz => exact tup_len _ _ _ hz
  | lst q h hz =>
    unfold lstR
    split
    · decide +kernel
    · exact hz
  | dct q =>
    unfold dctR
    split <;> decide +kernel
theorem vals_strs : ∀ {L : List Str} {its : List Value} {i : Nat} {z : Value}, Vals (L.map V.str) its → its[i]? = some z → ∃ x t, L[i]? = some x ∧ z = .str x t
  | [], _, i, z, r, e => by
    cases r
    simp at e
  | x :: L, _, 0, z, r, e => by
    cases r with
    | cons a b =>
      obtain ⟨t, rfl⟩ := a
      simp at e
      exact ⟨x, t, rfl, e.symm⟩
  | x :: L, _, i + 1, z, r, e => by
    cases r with
    | cons a b =>
      obtain ⟨y, t, h1, h2⟩ := vals_strs (L := L) (i := i) b (by simpa using e)
      exact ⟨y, t, by simpa using h1, h2⟩
def rRp (g : List Code) : List V → Hp → VK → Prop := fun xs H Q => ∃ v r, xs = [v] ∧ RpV g H v r ∧ Q (.str r) H
theorem call_rp {X : Cx} {g : List Code} (hg : X.A.guards = some g) (hu : X.A.units + 2 < cLine) : CallR X (.builtin "repr") (rRp g) := by
  intro pins s σ H xs us Q I r h
  obtain ⟨v, t, rfl, rp, q⟩ := h
  obtain ⟨u, rfl, r1⟩ := vals1 r
  cases rp with
  | non =>
    obtain rfl : u = Value.none := r1
    exact PySem.P.repr_of_none ⟨.str _, H, I.tok _, ⟨_, rfl⟩, q⟩
  | bl b =>
    obtain rfl : u = Value.bool b := r1
    exact PySem.P.repr_of_bool ⟨.str _, H, I.tok _, ⟨_, rfl⟩, q⟩
  | int i h hz =>
    obtain ⟨t, rfl⟩ := (show ∃ t, u = Value.int i t from r1)
    exact PySem.P.repr_of_int h ⟨.str _, H, I.tok _, ⟨_, rfl⟩, q⟩
  | str x h =>
    obtain ⟨t, rfl⟩ := (show ∃ t, u = Value.str x t from r1)
    exact PySem.P.repr_of_str ⟨.str _, H, I.tok _, ⟨_, rfl⟩, q⟩ (sz100 h)
  | @tup a xs e h hz =>
    obtain rfl : u = Value.ref a := r1
    obtain ⟨_, its, rv, o, h1, h2, n, h3⟩ := (show ObjOk X.prog X.w H s.heap a (.tup (xs.map V.str)) from I.hok a _ e)
    refine repr_by ⟨o, h1, h2⟩ PySem.F.slot_tuple_repr hu ?_
    refine tup_repr (ts := xs.map reprText) ⟨o, h1, h2⟩ hg h1 h3 (repr_all rv fun y hy => sz100 (h y hy)) (sz100 hz) fun u tk => ?_
    exact ⟨_, _, rfl, .str _, H, I.tok _, ⟨_, rfl⟩, q⟩
  | @lst a x xs e h hz =>
    obtain rfl : u = Value.ref a := r1
    obtain ⟨_, its, n, rv, h1⟩ := (show ObjOk X.prog X.w H s.heap a (.lst ((x :: xs).map V.str)) from I.hok a _ e)
    have hT : s.TypeIs (.ref a) "list" := ⟨_, h1, rfl⟩
    obtain ⟨y, l, rfl⟩ : ∃ y l, its = y :: l := by
      cases rv with
      | cons r t => exact ⟨_, _, rfl⟩
    have hlen := rv.length
    refine repr_by hT PySem.F.slot_list_repr.toG hu ?_
    refine lst_repr (ts := (x :: xs).map reprText) hT hg h1 rfl (by simpa using hlen) (fun i z hz => ?_) (sz100 hz) fun h' u tk hk => ?_
    · obtain ⟨y', t, h5, rfl⟩ := vals_strs rv (by simpa using hz)
      refine ⟨reprText y', by rw [List.getElem?_map, h5]; rfl, ReprIs.str y' t (sz100 (h y' (List.mem_of_getElem? h5)))⟩
    · exact ⟨_, _, rfl, .str _, H, I.kept hk, ⟨_, rfl⟩, q⟩
  | @dct a e =>
    obtain rfl : u = Value.ref a := r1
    obtain ⟨_, hs, vs, kv, o, es, ep, h1, h2, h3⟩ := (show ObjOk X.prog X.w H s.heap a (.dK []) from I.hok a _ e)
    cases kv
    obtain ⟨e1, e2, e3, _⟩ := h3
    have e0 : es = #[] := by
      have := e3
      cases q : es.toList with
      | nil => simpa using q
      | cons a b =>
        rw [q] at this
        cases this
    rw [e0] at e1
    refine repr_by ⟨o, h1, h2.1⟩ PySem.F.slot_dict_repr hu ?_
    exact dct_repr (n := ep) hg h1 h2.1 e1 hs fun u tk => ⟨_, _, rfl, .str _, H, I.tok _, ⟨_, rfl⟩, q⟩
end Bw

namespace Bw
open PySem PySem.Spec L2 LamX TL PyProof.Rows

/-! ### a lambda whose one parameter has a default -/
/-- p is the parameter; all other names are captured or global -/
structure LamP (sc scope : Scope) (p : Str) : Prop where
  fn : scope.kind = .function
  noco : scope.isCoroutine = false
  nogen : scope.isGenerator = false
  one : scope.names.lookup p = some .local
  nocell : ∀ y ∈ scope.names, y.2 ≠ .cell
  loc1 : ∀ y, scope.names.lookup y = some .local → y = p
  caught : ∀ y ∈ scope.names, y.2 = .free → sc.names.lookup y.1 = some .cell ∨ sc.names.lookup y.1 = some .free
def lamPB (sc scope : Scope) (p : Str) : Bool :=
  decide (scope.kind = .function) && (!scope.isCoroutine && (!scope.isGenerator && (decide (scope.names.lookup p = some .local) && scope.names.all fun y => !decide (y.2 = .cell) && ((!decide (y.2 = .local) || decide (y.1 = p)) && (!decide (y.2 = .free) || (decide (sc.names.lookup y.1 = some .cell) || decide (sc.names.lookup y.1 = some .free)))))))
theorem lamP_by {sc scope : Scope} {p : Str} (h : lamPB sc scope p = true) : LamP sc scope p := by
  unfold lamPB at h
  simp only [Bool.and_eq_true, Bool.or_eq_true, Bool.not_eq_true', decide_eq_true_eq, decide_eq_false_iff_not, List.all_eq_true] at h
  obtain ⟨h1, h2, h3, h4, h5⟩ := h
  refine ⟨h1, h2, h3, h4, fun y hy => (h5 y hy).1, fun y hy => ?_, fun y hy e => ?_⟩
  · rcases (h5 (y, .local) (PySem.mem_of_lookup hy)).2.1 with z | z
    · exact absurd rfl z
    · exact z
  · rcases (h5 y hy).2.2 with z | z
    · exact absurd e z
    · exact z
theorem LamP.cells {X : Cx} {scope : Scope} {p : Str} (L : LamP X.env.scope scope p) (ok : X.Ok) : ∀ y ∈ scope.names, y.2 = .free → ∃ c, X.env.cells.lookup y.1 = some c := fun y hy e =>
  (L.caught y hy e).elim (fun k => ok.has _ (.inl k)) fun k => ok.has _ (.inr k)
/-- the function object -/
abbrev lamO (X : Cx) (params : Arguments) (body : Expr) (scope : Scope) (t : Addr) (doc pm : Value) (c' : Addr) (ctv : Value) : Obj :=
  PySem.W.kdv_obj "<lambda>" (X.env.qual ++ "<lambda>") params (.expr body) scope (cloFrom X.env.cells scope.names []) (.ref t) doc pm c' ctv
section
variable {X : Cx} {pins : List (Addr × Obj)} {σ : L2.St} {H : Hp} {s : Shared}
theorem off_stack (I : Inv X pins σ H s) {f : Addr} (hf : s.heap.objs.size ≤ f) : f ∉ frs X.stack := fun z => (List.mem_cons.mp (I.stkSub _ z)).elim
  (fun e => Nat.lt_irrefl f (Nat.lt_of_lt_of_le (e ▸ I.lt) hf)) (I.nofs hf)
theorem lamp_make {T : List (Addr × Str)} {c P : Addr} {params : Arguments} {body : Expr} {scope : Scope} {pos dp : Pos} {n : Int} {j : Nat} {E : Value → Shared → Prop} {Q : Value → Shared → Prop} (I : Inv X pins σ H s) (TB : TabB X.base X.mg c P) (hcode : X.env.code = .ref c)
    (mem : (P, X.env.qual ++ "<lambda>") ∈ T) (only : ∀ p ∈ T, p.1 = P → p.2 = X.env.qual ++ "<lambda>") (tabs : Tabs T H) (hd : params.defaults = [.Constant (.int n) j dp]) (hk : params.kw_defaults = []) (caught : ∀ y ∈ scope.names, y.2 = .free → ∃ c, X.env.cells.lookup y.1 = some c)
    (h : ∀ (f t c' : Addr) (v doc pm ctv : Value) (H1 : Hp) (s' : Shared), Inv X pins σ H1 s' → ExtN H H1 → Tabs T H1 → s'.heap.get? f = some (lamO X params body scope t doc pm c' ctv) → H1 f = none → f ∉ frs X.stack →
      s'.heap.get? t = some (PySem.W.kdv_tup [v]) → H1 t = none → t ∉ frs X.stack → H1 c' = some (CodeO c' (X.env.qual ++ "<lambda>")) → Q (.ref f) s') :
    wpAny (model X.prog X.w) X.A (eval (.Lambda params body scope pos) X.env) Q E s := by
  obtain ⟨ps, tabP, tri, among⟩ := tabs _ mem
  refine PySem.W.kdv_lam (by rw [hd]; rfl) hk ?_
  rw [hd]
  refine PySem.W.kdv_all1 (wpAny_Constant_int (PySem.W.kdv_all0 ?_))
  rw [makeFunction_eq]
  simp only [List.zip_nil_right, List.filterMap_nil, List.isEmpty_nil, List.isEmpty_cons, if_true, pure_bind, Bool.false_eq_true, if_false]
  refine wpAny_bind (wpAny_newTextTuple ?_)
  have I0 : Inv X pins σ H { s with heap := s.heap.push (PySem.W.kdv_tup [.int n s.toks]), toks := s.toks + 1 } := I.kept fun b o e => Heap.get?_push_of_some _ e
  have nt : H s.heap.objs.size = none := I.hok.fresh (Nat.le_refl _)
  have ft : s.heap.objs.size ∉ frs X.stack := off_stack I (Nat.le_refl _)
  have at_t : (s.heap.push (PySem.W.kdv_tup [.int n s.toks])).get? s.heap.objs.size = some (PySem.W.kdv_tup [.int n s.toks]) := Heap.get?_push_size _ rfl
  generalize es : ({ s with heap := s.heap.push (PySem.W.kdv_tup [.int n s.toks]), toks := s.toks + 1 } : Shared) = s2 at I0
  have e2 : s2.heap = s.heap.push (PySem.W.kdv_tup [.int n s.toks]) := by rw [← es]
  rw [← e2] at at_t
  have tabM : s2.heap.get? P = some { cls := .none, data := .fields ps } := I0.hok P _ tabP
  have blt : s2.heap.BuiltinsAt X.mg P := TB.bm.keeps I0.bk
  have codeH := TB.code.keeps I0.bk
  have globs : s2.heap.Ns mainGlobals X.mg := I0.mod.glob.keeps I0.bk
  have tlt : s.heap.objs.size < s2.heap.objs.size := Heap.lt_size at_t
  have tP : s.heap.objs.size ≠ P := fun z => by
    rw [← z, nt] at tabP
    cases tabP
  cases hc : codeAmong pos ps.toList with
  | some cv =>
    obtain ⟨c', rfl, known⟩ := among pos cv hc
    refine PySem.W.kdv_makeTailHit (s := s2) (mg := X.mg) (c := c) (P := P) (ps := ps) (closure_ok caught) I.ok.glob globs hcode codeH tabM tri hc blt fun ctv doc h' tk keep le => ?_
    refine h _ s.heap.objs.size c' (.int n s.toks) doc _ ctv H _ (I0.kept (t' := tk) fun b o e => Heap.get?_push_of_some _ (keep b o e)) (ExtN.refl H) tabs (Heap.get?_push_size _ rfl) (I0.hok.fresh le) (off_stack I0 le) (Heap.get?_push_of_some _ (keep _ _ at_t)) nt ft known
  | none =>
    refine PySem.W.kdv_makeTail (s := s2) (mg := X.mg) (c := c) (P := P) (ps := ps) (closure_ok caught) I.ok.glob globs hcode codeH tabM tri hc TB.gP blt fun c' ctv doc h' tk keep le lt rec_ tab' => ?_
    obtain ⟨c3, oc, vs, u, e3, recC, recD, recV⟩ := rec_
    cases e3
    have newC : H c' = none := I0.hok.fresh le
    have le' : s2.heap.objs.size ≤ h'.objs.size := Nat.le_trans le (Nat.le_of_lt lt)
    have I1 := inv_table (t' := tk) (more := #[rawInt pos.line, rawInt pos.col, .ref c']) (h' := h'.push (lamO X params body scope s.heap.objs.size doc ((X.mg "__name__").getD .none) c' ctv)) I0 tabP
      (fun b o ne e => Heap.get?_push_of_some _ (keep b o ne e)) (Heap.get?_push_of_some _ tab') le ⟨oc, vs, u, Heap.get?_push_of_some _ recC, recD, recV⟩
    have more : ExtN H (upd (upd H P (.tbl (ps ++ #[rawInt pos.line, rawInt pos.col, .ref c']))) c' (CodeO c' (X.env.qual ++ "<lambda>"))) := fun b o e ne => by
      have hb : b ≠ P := fun z => by
        rw [z, tabP] at e
        exact ne ps (Option.some.inj e).symm
      rw [upd_ne (ne_of_none e newC), upd_ne hb]
      exact e
    have lay : (ps ++ #[rawInt pos.line, rawInt pos.col, .ref c']).toList = ps.toList ++ [rawInt pos.line, rawInt pos.col, .ref c'] := by simp
    have off : ∀ b, H b = none → b ≠ P → b ≠ c' → upd (upd H P (.tbl (ps ++ #[rawInt pos.line, rawInt pos.col, .ref c']))) c' (CodeO c' (X.env.qual ++ "<lambda>")) b = none := fun b e n1 n2 => by
      rw [upd_ne n2, upd_ne n1]
      exact e
    have ntc : s.heap.objs.size ≠ c' := Nat.ne_of_lt (Nat.lt_of_lt_of_le tlt le)
    refine h h'.objs.size s.heap.objs.size c' (.int n s.toks) doc _ ctv _ _ I1 more (fun p hp => ?_) (Heap.get?_push_size _ rfl) (off _ (I0.hok.fresh le') (fun z => ?_) (Nat.ne_of_gt lt)) (off_stack I0 le') (Heap.get?_push_of_some _ (keep _ _ tP at_t)) (off _ nt tP ntc) ft upd_same
    · by_cases eP : p.1 = P
      · rw [only p hp eP, eP]
        refine ⟨_, (upd_ne (ne_of_none tabP newC)).trans upd_same, by rw [lay]; exact PySem.TriplesOk_snoc _ _ _ _ tri, fun p' cv q => ?_⟩
        rw [lay] at q
        rcases among_app _ tri q with z | rfl
        · obtain ⟨c0, z1, z2⟩ := among p' cv z
          exact ⟨c0, z1, more _ _ z2 codeO_ne⟩
        · exact ⟨c', rfl, upd_same⟩
      · obtain ⟨qs, z1, z2, z3⟩ := tabs p hp
        refine ⟨qs, (upd_ne (ne_of_none z1 newC)).trans ((upd_ne eP).trans z1), z2, fun p' cv q => ?_⟩
        obtain ⟨c0, y1, y2⟩ := z3 p' cv q
        exact ⟨c0, y1, more _ _ y2 codeO_ne⟩
    · rw [z] at le'
      exact Nat.lt_irrefl _ (Nat.lt_of_lt_of_le (Heap.lt_size tabM) le')
end
section
variable {X : Cx} {pins : List (Addr × Obj)} {σ : L2.St} {H HZ : Hp} {s s1 : Shared}
/-- the body of the lambda is entered: its names are the maker's, as they stood -/
theorem lamp_start {A : Around} {outer : List Env} {E : XK} {scope : Scope} {f c' : Addr} {h₁ : Heap} {tk : Nat} {p : Str} {m : Str → Option Value} (I : Inv X pins σ H s) (L : LamP X.env.scope scope p) (nop : p ∉ X.N) (e0 : Env0 X.prog X.w X.K X.mg X.base A outer s1 HZ) (quiet : A.handled = none)
    (un : Un (frs X.stack) [] H HZ s.heap s1.heap) (names : h₁.Ns s1.heap.objs.size m) (kp : ∀ b o, s1.heap.get? b = some o → h₁.get? b = some o) : Inv (lamCx X A outer s1 HZ E scope f c') [] σ HZ { s1 with heap := h₁, toks := tk } := by
  have caught := L.cells I.ok
  have back : ∀ {y c}, (cloFrom X.env.cells scope.names []).lookup y = some c → X.env.cells.lookup y = some c := fun {y c} e => by
    rcases cloFrom_mem (PySem.mem_of_lookup e) with hm | ⟨h1, h2⟩
    · cases hm
    · obtain ⟨c1, hc⟩ := caught _ h1 rfl
      have hc2 : X.env.cells.lookup y = some c1 := hc
      rw [hc2]
      rw [hc2] at h2
      exact congrArg some h2.symm
  have there : ∀ {y}, scope.names.lookup y = some .free → ∃ c, (cloFrom X.env.cells scope.names []).lookup y = some c := fun {y} hl => mem_lookup (cloFrom_has (cells := X.env.cells) (acc := []) (PySem.mem_of_lookup hl))
  have stays : ∀ {c : Addr} {v : Option Value}, H c = none → s.heap.IsCell c v → h₁.IsCell c v := fun {c v} n ⟨o, ho, hd⟩ =>
    (un.any ho n List.not_mem_nil).elim fun _ q => ⟨_, kp _ _ q, hd⟩
  have none_ : ∀ b : Addr, b ∉ (lamCx X A outer s1 HZ E scope f c').ex := fun b => List.not_mem_nil (a := b)
  have ok : (lamCx X A outer s1 HZ E scope f c').Ok := {
    mod := e0.mod
    kind := L.fn
    glob := rfl
    blt := rfl
    above := Nat.le_refl _
    inj := fun y z c e1 e2 => I.ok.inj y z c (back e1) (back e2)
    has := fun y hy => (show scope.names.lookup y = some .cell ∨ scope.names.lookup y = some .free from hy).elim (fun k => absurd rfl (L.nocell _ (PySem.mem_of_lookup k))) fun k => there k
    cab := fun y c z _ => Bool.noConfusion (show false = true from z)
    hd := fun _ => quiet
    frames := Around.frames_deeper e0.frames
    stk := .inr ⟨rfl, rfl⟩
    exf := fun b z => absurd z (none_ b)
    bs := e0.bs
    bsz := e0.bsz
    noex := fun b _ _ => none_ b
    exfs := fun b z => absurd z (none_ b)
    funs := e0.funs
    frf := e0.frf }
  refine ⟨ok, rfl, e0.bare, Un.kept kp, ⟨_, names, fun i y v e1 e2 e3 => ?_⟩, fun y c e => ?_, e0.hok.fresh (Nat.le_refl _), fun y c e => ?_, fun q hq => absurd (show q ∈ ([] : List (Addr × Obj)) ++ [] from hq) List.not_mem_nil, e0.hok.kept kp, I.len⟩
  · have vis : Vis scope y := e3
    rcases vis with k | k | k
    · exact absurd (L.loc1 y k ▸ List.mem_of_getElem? e1) nop
    · exact absurd rfl (L.nocell _ (PySem.mem_of_lookup k))
    · obtain ⟨mm, hn, hl⟩ := I.loc
      have from_ := L.caught _ (PySem.mem_of_lookup k) rfl
      obtain ⟨w', r, q⟩ := hl i y v e1 e2 (from_.elim (fun z => .inr (.inl z)) fun z => .inr (.inr z))
      obtain ⟨c2, h2⟩ := there k
      refine ⟨w', r, .inr ⟨.inr k, c2, h2, ?_⟩⟩
      rcases q with ⟨k', _⟩ | ⟨_, c3, e', z⟩
      · have k2 : X.env.scope.names.lookup y = some .local := k'
        rcases from_ with z | z <;> rw [show X.env.scope.names.lookup y = _ from z] at k2 <;> cases k2
      · rw [back h2] at e'
        cases e'
        exact stays (I.freeC y _ (back h2)) z
  · obtain ⟨w', z⟩ := I.cell y c (back e)
    exact ⟨w', stays (I.freeC y c (back e)) z⟩
  · obtain ⟨v, o, ho, hd⟩ := I.cell y c (back e)
    exact un.free c o ho (I.freeC y c (back e)) List.not_mem_nil
end
end Bw

namespace Bw
open PySem PySem.Spec L2 LamX TL PyProof.Rows

/-- what a call of the lambda without arguments binds: its parameter, to the default -/
def BindP (params : Arguments) (body : Expr) (scope : Scope) (p : Str) : Prop :=
  ∀ (q : Str) (cl : List (Str × Addr)) (t : Addr) (doc pm cv ctv v : Value) (sh : Shared), sh.heap.get? t = some (PySem.W.kdv_tup [v]) → BindsTo sh (PySem.W.kdv_fn "<lambda>" q params (.expr body) scope cl (.ref t) doc pm cv ctv) ⟨[], []⟩ [(p, v)]
section
variable {X : Cx} {pins : List (Addr × Obj)} {σ : L2.St} {H : Hp} {s : Shared}
/-- a(), in the def that got the lambda -/
theorem lamp_act {CXg : CXT} {Eg : XK} {Ng : List Str} {qg : Str} {sg : Scope} {g f t c' : Addr} {cdg doc pm ctv v : Value} {params : Arguments} {body : Expr} {scope : Scope} {k i : Nat} {a p : Str} {pn : List (Addr × Obj)} {xe : Value → Shared → Prop} {W : WX} {E : XK} {tb : TE} {p1 p2 : Pos}
    (I : Inv X pins σ H s) (L : LamP X.env.scope scope p) (nop : p ∉ X.N) (hb : BindP params body scope p) (hf : s.heap.get? f = some (lamO X params body scope t doc pm c' ctv)) (hfn : H f = none) (hfr : f ∉ frs X.stack)
    (ht : s.heap.get? t = some (PySem.W.kdv_tup [v])) (htn : H t = none) (htr : t ∉ frs X.stack)
    (tk : Takes ((cxOf CXg X.prog X.w X.K X.mg X.base Ng qg sg g cdg X.A X.stack s H Eg).tr pn xe) W) (hW : ∀ cls d σ' H', E cls d H' → W cls d σ' H') (hr : Room (k + 1) (X.A.deeper (envOfC qg sg s.heap.objs.size g cdg)))
    (inner : ∀ (A : Around) (outer : List Env) (s : Shared) (H : Hp), Room k (A.deeper (lamEnv X scope s.heap.objs.size f c')) → PE (lamCx X A outer s H E scope f c') body tb)
    (hN : Ng[i]? = some a) (hv : Vis sg a) (hd : (a == ("__debug__" : Str)) = false := by decide) (hcd : (a == ("__classdict__" : Str)) = false := by decide) :
    PE ((cxOf CXg X.prog X.w X.K X.mg X.base Ng qg sg g cdg X.A X.stack s H Eg).tr pn xe) (.Call (.Name a p1) [] [] p2)
      (fun σZ HZ Q => σZ[i]? = some (some (.ref f)) ∧ HZ c' = some (CodeO c' (X.env.qual ++ "<lambda>")) ∧ tb σ HZ Q) := by
  refine ⟨fun pinsZ sZ σZ HZ Q IZ h => ?_⟩
  obtain ⟨slot, code, body_⟩ := h
  refine wpAny_Call_Name_kw (thn ((pe_var (pos := p1) (i := i) hN hv hd hcd).run pinsZ sZ σZ HZ (fun v H1 => v = .ref f ∧ H1 = HZ) IZ ⟨.ref f, slot, rfl, rfl⟩) fun u s1 ⟨v1, H1, I1, r1, q1⟩ => ?_)
  obtain ⟨rfl, rfl⟩ := q1
  obtain rfl : u = Value.ref f := r1
  have keeps : ∀ b o, s.heap.get? b = some o → H b = none → b ∉ frs X.stack → s1.heap.get? b = some o := fun b o e n out => I1.base.keep b o e n out fun z => nomatch (show b ∈ ([] : List Addr) from z)
  have atF := keeps f _ hf hfn hfr
  have atT := keeps t _ ht htn htr
  refine PySem.W.callWith_F0 ⟨_, _, _, _, atF⟩ ?_
  have un : Un (frs X.stack) [] H H1 s.heap s1.heap := I1.base
  obtain ⟨⟨oc, vs, tt, hoc, hdc, hvc⟩, _, _⟩ := I1.hok c' _ code
  have run : codeAny (model X.prog X.w) (X.A.deeper (envOfC qg sg s.heap.objs.size g cdg)) (.call (.ref f) ⟨[], []⟩) (CR (L2.CX X.prog X.w) (envOfC qg sg s.heap.objs.size g cdg :: X.stack) X.prog X.w H1 s1 Q E) s1 := by
    refine PySem.W.kla_callFunE hr.depth atF rfl L.noco L.nogen rfl ⟨c', oc, vs, tt, rfl, hoc, hdc, hvc⟩ (hb _ _ _ _ _ _ _ _ _ atT _ _ _ _ ?_)
    refine wpAny_newFunctionEnv L.nocell (fun y hy => ?_) (fun h₁ hns hsb => ⟨I1.nolimit.fresh _ hsb, ?_⟩) L.fn
    · rw [List.mem_singleton.mp hy]
      exact L.one
    · show codeAny _ _ (.expr body (lamEnv X scope s1.heap.objs.size f c')) _ _
      have kp : ∀ b o, s1.heap.get? b = some o → h₁.get? b = some o := fun b o e => hsb.extBut b o (Nat.ne_of_lt (Heap.lt_size e)) (Heap.get?_push_of_some _ e)
      have J := lamp_start (E := E) (f := f) (c' := c') (tk := s1.toks + ([(p, v)] : List (Str × Value)).length) I L nop I1.env0 hr.hd un hns kp
      refine PySem.W.kla_codeExpr (wpAny_mono ((inner _ _ s1 H1 (hr.deeper _)).run [] _ _ H1 Q J body_) (fun v2 s' hq => ?_) fun e s' hq => hq)
      obtain ⟨w', H', J', rv, q⟩ := hq
      exact ⟨w', H', J'.os, J'.bare, J'.base, J'.hok, rv, q⟩
  refine wpAny_call (codeAny_mono run fun r s' hq => ?_)
  match r, hq with
  | .error e, hq => exact passes_call tk hW pinsZ σZ H1 s1 e s' I1 hq
  | .ok (.ret u), hq => exact I1.after hq
/-- x(lambda p=n: body) -/
theorem pe_lampcall {T : List (Addr × Str)} {TT : (XK → Hp → VK → Prop) → Hp → VK → Prop} {x a p : Str} {g c P : Addr} {k : Nat} {pg : Arguments} {bg : List Stmt} {sg : Scope} {dV kV doc pm cdv ct oc : Value} {an od : Option Addr} {osl : Array (Option Value)} {Ng : List Str}
    {params : Arguments} {body : Expr} {scope : Scope} {t : XK → TE} {n : Int} {j : Nat} {dp px lpos pos : Pos} (hg : Gl X x) (hm : X.mg x = some (.ref g)) (hk : PySem.W.keepIn X.K (.ref g) = true)
    (lk : X.K.lookup g = some ⟨oc, od, .func (PySem.W.fnOf x x pg bg sg dV kV doc pm an cdv ct), osl⟩) (hcg : PySem.W.codeIn X.K cdv x = true) (hb : L2.Binds X.K (PySem.W.fnOf x x pg bg sg dV kV doc pm an cdv ct) [a] []) (Sg : FnScope Ng [a] sg) (hNg : Ng[0]? = some a) (hva : Vis sg a)
    (gives : GivesTo X Ng x sg g cdv bg a (X.env.qual ++ "<lambda>") TT)
    (TB : TabB X.base X.mg c P) (hcode : X.env.code = .ref c) (mem : (P, X.env.qual ++ "<lambda>") ∈ T) (only : ∀ p ∈ T, p.1 = P → p.2 = X.env.qual ++ "<lambda>") (hr : Room (k + 2) X.A) (L : LamP X.env.scope scope p) (nop : p ∉ X.N)
    (hdf : params.defaults = [.Constant (.int n) j dp]) (hkd : params.kw_defaults = []) (hbp : BindP params body scope p)
    (inner : ∀ (A : Around) (outer : List Env) (s : Shared) (H : Hp) (E : XK) (f c' : Addr), Room k (A.deeper (lamEnv X scope s.heap.objs.size f c')) → PE (lamCx X A outer s H E scope f c') body (t E))
    (hdb : (x == ("__debug__" : Str)) = false := by decide) (hd : (a == ("__debug__" : Str)) = false := by decide) (hcd : (a == ("__classdict__" : Str)) = false := by decide) :
    PE X (.Call (.Name x px) [.Lambda params body scope lpos] [] pos) (tLam T TT t) := by
  refine ⟨fun pins s σ H Q I h => ?_⟩
  obtain ⟨tabs, h⟩ := h
  refine wpAny_Call_Name_kw (ld_glob I hg hm ?_ hdb)
  refine PySem.W.callWith_K (h₀ := X.base) I.ok.mod.kin hk ?_ (by rfl) (by rfl)
  show wpAny _ _ (spliced ((false, eval (.Lambda params body scope lpos) X.env) :: backTo pos (starEach [] X.env))) _ _ s
  refine Calls.spliced_cons (lamp_make I TB hcode mem only tabs hdf hkd (L.cells I.ok) fun f tt c' v doc' pm' ctv H1 s' I1 more tabs1 hf hfn hfr ht htn htr known => ?_)
  refine Calls.spliced_nil ⟨I1.kIn, ?_⟩
  have run : codeAny (model X.prog X.w) X.A (.call (.ref g) ⟨[.ref f], []⟩) (CR C8.CX0 X.stack X.prog X.w H1 s' Q C8.E0) s' :=
    run_ofS (N := Ng) (ps := [a]) (us := [.ref f]) (vs := [.ref f]) lk hcg Sg hr I1.env0 (hb s' [.ref f] I1.kIn rfl) (.cons rfl .nil) rfl fun hr' =>
      (gives f c' s' H1 Q (fun E H' Q' => t E σ H' Q') (fun W pn xe E p1 p2 tk hW => lamp_act (i := 0) I1 L nop hbp hf hfn hfr ht htn htr tk hW hr' (fun A outer s H room => inner A outer s H E f c' room) hNg hva hd hcd) known (h H1 more tabs1)).elim fun t' q => ⟨t', q.1.nox, q.2⟩
  refine wpAny_call (codeAny_mono run fun r s2 hq => ?_)
  match r, hq with
  | .error e, hq => exact (show False from hq).elim
  | .ok (.ret u), hq => exact I1.after hq
end
end Bw

namespace Bw
open PySem PySem.Spec L2 LamX TL PyProof.Rows

/-! ### several except clauses, with and without a name -/
/-- behind the suite of a clause with a name, the name is gone -/
def unEnd (i : Nat) (D : Ends) : Ends := { nx := fun σ H => D.nx (σ.set i none) H, rt := D.rt, bk := fun σ H => D.bk (σ.set i none) H, ct := fun σ H => D.ct (σ.set i none) H }
abbrev Cl := Value × Option Nat × (Addr → Value → Option Addr → TS)
/-- what a clause does with the exception at a -/
def clGo (D : Ends) (σ : L2.St) (H : Hp) (a : Addr) (cls : Value) (d : Option Addr) : Cl → Prop
  | (_, none, ts) => ts a cls d D σ H
  | (_, some i, ts) => ts a cls d (unEnd i D) (σ.set i (some (.ref a))) H
def wMix (K : PySem.W.Frag) (n : Nat) (Wout : WX) (D : Ends) : List Cl → WX
  | [] => Wout
  | c :: r => fun cls d σ H => ∃ b, PySem.W.exmOne K cls c.1 = some b ∧ if b = true then ∀ a, H a = none → σ.length = n → clGo D σ H a cls d c else wMix K n Wout D r cls d σ H
inductive HdsM (X : Cx) : List ExceptHandler → List Cl → Prop
  | nil : HdsM X [] []
  | bare {x : Str} {c : Value} {ts : Addr → Value → Option Addr → TS} {b₀ : Stmt} {suite : List Stmt} {np pos' : Pos} {hds : List ExceptHandler} {l : List Cl} (hc : Names X x c)
      (hsu : ∀ (a : Addr) (oe : Obj) (cls : Value) (d : Option Addr) (pn : List (Addr × Obj)), Zc cls d oe → (∃ vs, oe.data = .fields vs) → PSs (X.suite a ((a, oe) :: pn)) (b₀ :: suite) (ts a cls d)) (r : HdsM X hds l) :
      HdsM X (.ExceptHandler (some (.Name x np)) none (b₀ :: suite) pos' :: hds) ((c, none, ts) :: l)
  | named {x n : Str} {c : Value} {i : Nat} {ts : Addr → Value → Option Addr → TS} {b₀ : Stmt} {suite : List Stmt} {np pos' : Pos} {hds : List ExceptHandler} {l : List Cl} (hc : Names X x c) (hN : X.N.Nodup) (hi : X.N[i]? = some n) (hln : X.env.kindOf n = some .local)
      (hsu : ∀ (a : Addr) (oe : Obj) (cls : Value) (d : Option Addr) (pn : List (Addr × Obj)), Zc cls d oe → (∃ vs, oe.data = .fields vs) → PSs (X.suite a ((a, oe) :: pn)) (b₀ :: suite) (ts a cls d)) (r : HdsM X hds l) :
      HdsM X (.ExceptHandler (some (.Name x np)) (some n) (b₀ :: suite) pos' :: hds) ((c, some i, ts) :: l)
section
variable {X : Cx} {pins : List (Addr × Obj)} {σ : L2.St} {H : Hp}
/-- the suite's end, taken out of the suite -/
theorem sp_out {D : Ends} {a : Addr} {q : Addr × Obj} (ok : X.Ok) : ∀ (f : Flow) (s : Shared), SP (X.suite a (q :: (X.pn ++ pins))) [] D f s → SP X pins D f s
  | .next, _, ⟨_, _, S, z⟩ => ⟨_, _, S.unsuite ok, z⟩
  | .brk, _, ⟨_, _, S, z⟩ => ⟨_, _, S.unsuite ok, z⟩
  | .cont, _, ⟨_, _, S, z⟩ => ⟨_, _, S.unsuite ok, z⟩
  | .ret _, _, ⟨_, _, _, S, r, z⟩ => ⟨_, _, _, S.unsuite ok, r, z⟩
theorem sp_try {D : Ends} {xe : Value → Shared → Prop} (ok : X.Ok) : ∀ (f : Flow) (s : Shared), SP (X.tr (X.pn ++ pins) xe) [] D f s → SP X pins D f s
  | .next, _, ⟨_, _, S, z⟩ => ⟨_, _, S.ofTry ok, z⟩
  | .brk, _, ⟨_, _, S, z⟩ => ⟨_, _, S.ofTry ok, z⟩
  | .cont, _, ⟨_, _, S, z⟩ => ⟨_, _, S.ofTry ok, z⟩
  | .ret _, _, ⟨_, _, _, S, r, z⟩ => ⟨_, _, _, S.ofTry ok, r, z⟩
variable {body : List Stmt} {h₀ : ExceptHandler} {hds : List ExceptHandler} {l : List Cl} {pos : Pos} {tb : WX → TS} {Wout : WX}
theorem ps_try_mix (hs : X.stack = X.env :: X.outer) (hf : X.env.frame = some X.env.locals) (tk : Takes X Wout)
    (hb : ∀ (W : WX) (pn : List (Addr × Obj)) (xe : Value → Shared → Prop), Takes (X.tr pn xe) W → PassesOwn (model X.prog X.w) X.A X.env xe → PSs (X.tr pn xe) body (tb W))
    (hh : HdsM X (h₀ :: hds) l) : PS X (.Try body (h₀ :: hds) [] [] pos) (fun D σ H => tb (wMix X.K X.N.length Wout D l) D σ H) := by
  refine ⟨fun pins s σ H D I h => ?_⟩
  have ok := I.ok
  have frames : X.A.frames = some (X.env :: X.outer) := ok.frames.trans (congrArg some hs)
  refine wpAny_Try_except ?_
  refine wpAny_mono ((hb (wMix X.K X.N.length Wout D l) (X.pn ++ pins) (fun e s₁ => wpAny (model X.prog X.w) X.A (noteFrame e X.env) (fun _ s₂ => wpAny (model X.prog X.w) X.A (setFlight e none) (fun _ s₃ =>
    wpAny (model X.prog X.w) X.A (handleBy e X.env (h₀ :: hds)) (SP X pins D) X.xe s₃) X.xe s₂) X.xe s₁) (fun u s' air => ?_) PassesOwn.looking).run [] s σ H D (I.toTry _) h) (fun f s1 q => ?_) fun _ _ z => z
  · obtain ⟨a, B, sI, pins', σ', H', cls, d, rfl, J0, ground, up, sky, free, os, bare, wish⟩ := air
    have J : Inv X pins σ' H' sI := J0.ofTry ok
    rw [show (X.tr (X.pn ++ pins) (fun e s₁ => wpAny (model X.prog X.w) X.A (noteFrame e X.env) (fun _ s₂ => wpAny (model X.prog X.w) X.A (setFlight e none) (fun _ s₃ =>
      wpAny (model X.prog X.w) X.A (handleBy e X.env (h₀ :: hds)) (SP X pins D) X.xe s₃) X.xe s₂) X.xe s₁)).stack = X.env :: X.outer from hs] at sky
    show wpAny (model X.prog X.w) X.A (noteFrame (.ref a) X.env) _ _ _
    refine Sky.land Zc.steady frames hf sky fun h3 fly up3 => ?_
    have J3 : Inv X pins σ' H' { s' with heap := h3 } := J.landed ground fly.1 (up.trans up3) os bare
    obtain ⟨oe, vs, atE, zE, fE⟩ := fly.there
    have apart : ∀ {h : Heap} {o : Obj} {vs : Array Value}, h.FunFrames B (X.env :: X.outer) → h.get? a = some o → o.data = .fields vs → a ≠ X.env.locals ∧ a ∉ X.fs := fun {h o vs} ff e dd => by
      have no : a ∉ frs (X.env :: X.outer) := fun hm => by
        obtain ⟨_, o', e', nf⟩ := ff.mem hm
        rw [e] at e'
        cases e'
        exact nf _ dd
      refine ⟨fun z => no (List.mem_filterMap.mpr ⟨X.env, List.mem_cons_self, by rw [hf, z]⟩), fun hm => ?_⟩
      obtain ⟨e1, m1, q1⟩ := List.mem_filterMap.mp hm
      exact no (List.mem_filterMap.mpr ⟨e1, List.mem_cons_of_mem _ m1, q1⟩)
    obtain ⟨nL, nF⟩ := apart fly.2.2.1 atE fE
    have S3 := J3.suite atE fE free nL nF
    have type_ : PySem.W.Looks (model X.prog X.w) h3 (typeOf (.ref a)) cls := fun A Q E s k q => wpAny_typeOf_ref (k _ _ atE) (zE.1.symm ▸ q)
    have test : ∀ {x : Str} {c : Value} {np : Pos} {Q : Value → Shared → Prop} {E : Value → Shared → Prop}, Names X x c → Q c { s' with heap := h3 } → wpAny (model X.prog X.w) (X.A.mark (some (.ref a))) (eval (.Name x np) X.env) Q E { s' with heap := h3 } := fun hc q =>
      hc.2.2.elim (fun hm => ld_glob (X := X.suite a ((a, oe) :: (X.pn ++ pins))) S3 hc.1 hm q hc.2.1) fun hm => ld_blt (X := X.suite a ((a, oe) :: (X.pn ++ pins))) S3 hc.1 hm.1 hm.2.1 q hm.2.2 hc.2.1
    have matches_ : ∀ {c : Value} {b : Bool}, PySem.W.exmOne X.K cls c = some b → PySem.W.Looks (model X.prog X.w) h3 (excMatches (.ref a) c) b := fun e => PySem.W.exm_one (M := model X.prog X.w) J3.kIn type_ e
    have go : ∀ {hds' : List ExceptHandler} {l' : List Cl}, HdsM X hds' l' → wMix X.K X.N.length Wout D l' cls d σ' H' → wpAny (model X.prog X.w) X.A (handleBy (.ref a) X.env hds') (SP X pins D) X.xe { s' with heap := h3 } := by
      intro hds' l' hk
      induction hk with
      | nil =>
        intro out
        refine wpAny_handleBy_nil ?_
        obtain ⟨_, _, _, o4, v4, T4, _, _, g1, _, g3, g4, _⟩ := id fly
        unfold PySem.passOn
        refine wpAny_bind (wpAny_field g1 g3 g4 ?_)
        rw [if_neg (show ¬ ((Value.ref T4 == Value.none) = true) from by simp)]
        have on_ : wpAny (model X.prog X.w) X.A (setFlight (.ref a) X.env.frame) (fun _ s4 => wpAny (model X.prog X.w) X.A (throw (.ref a) : Sem Flow) (SP X pins D) X.xe s4) X.xe { s' with heap := h3 } := by
          rw [hf]
          exact HandSPX.setFlight_upZ fly fun h4 held up4 => wpAny_throw (tk _ _ ⟨a, B, sI, pins, σ', H', cls, d, rfl, J, ground, (up.trans up3).trans up4, .inr (.inr (hs.symm ▸ held)), free, os, bare, out⟩)
        first
          | exact wpAny_bind (wpAny_pure (wpAny_bind on_))
          | exact wpAny_bind on_
      | @bare x c ts b₀ suite np pos' hds2 l2 hc hsu _ ih =>
        rintro ⟨b, hb1, w⟩
        refine wpAny_handleBy_cons (codeAny_handlers_test (test hc ((matches_ hb1).here ?_))) (by intro q; cases q)
        cases b with
        | false => exact ih w
        | true =>
          refine codeAny_handlers_suite (HandSPX.lands_againZ fly fun h4 fly4 up4 => ?_)
          have J4 : Inv X pins σ' H' { s' with heap := h4 } := J.landed ground fly4.1 ((up.trans up3).trans up4) os bare
          obtain ⟨o4, _, at4, z4, f4⟩ := fly4.there
          exact wpAny_mono ((hsu a o4 cls d (X.pn ++ pins) z4 ⟨_, f4⟩).run [] _ _ H' _ (J4.suite at4 f4 free nL nF) (w a free J.len)) (fun f s6 q => sp_out ok f s6 q) fun _ _ z => z.elim
      | @named x n c i ts b₀ suite np pos' hds2 l2 hc hN hi hln hsu _ ih =>
        rintro ⟨b, hb1, w⟩
        refine wpAny_handleBy_cons (codeAny_handlers_test (test hc ((matches_ hb1).here ?_))) (by intro q; cases q)
        cases b with
        | false => exact ih w
        | true =>
          refine codeAny_handlers_suite_as (HandSPX.lands_againZ fly fun h4 fly4 up4 => ?_)
          have J4 : Inv X pins σ' H' { s' with heap := h4 } := J.landed ground fly4.1 ((up.trans up3).trans up4) os bare
          obtain ⟨o4, _, at4, z4, f4⟩ := fly4.there
          refine store_ok (X := X.suite a ((a, o4) :: (X.pn ++ pins))) (v := .ref a) (J4.suite at4 f4 free nL nF) hN hi (.inl hln) rfl (fun s5 S5 => ?_) (.inr hln)
          refine wpAny_mono ((hsu a o4 cls d (X.pn ++ pins) z4 ⟨_, f4⟩).run [] s5 _ H' _ S5 (w a free J.len)) (fun f s6 q => ?_) fun _ _ z => z.elim
          have end_ : ∀ {σ6 : L2.St} {H6 : Hp} {Q : Shared → Prop}, Inv (X.suite a ((a, o4) :: (X.pn ++ pins))) [] σ6 H6 s6 → (∀ s7, Inv X pins (σ6.set i none) H6 s7 → Q s7) → wpAny (model X.prog X.w) X.A (do bindName X.env n .none; unbindBehindTheSuite X.env n pos') (fun _ s7 => Q s7) X.xe s6 :=
            fun {_ _ Q6} S6 k => gone_ok (Q := fun _ s7 => Q6 s7) (S6.unsuite ok) hN hi hln k
          match f, q with
          | .next, ⟨_, _, S6, q6⟩ => exact end_ S6 fun s7 J7 => ⟨_, _, J7, q6⟩
          | .brk, ⟨_, _, S6, q6⟩ => exact end_ S6 fun s7 J7 => ⟨_, _, J7, q6⟩
          | .cont, ⟨_, _, S6, q6⟩ => exact end_ S6 fun s7 J7 => ⟨_, _, J7, q6⟩
          | .ret _, ⟨_, _, _, S6, r6, q6⟩ => exact end_ S6 fun s7 J7 => ⟨_, _, _, J7, r6, q6⟩
    exact go hh wish
  · match f, q with
    | .next, ⟨_, _, S, z⟩ => exact wpAny_execs_nil ⟨_, _, S.ofTry ok, z⟩
    | .brk, z => exact sp_try (xe := fun e s₁ => wpAny (model X.prog X.w) X.A (noteFrame e X.env) (fun _ s₂ => wpAny (model X.prog X.w) X.A (setFlight e none) (fun _ s₃ => wpAny (model X.prog X.w) X.A (handleBy e X.env (h₀ :: hds)) (SP X pins D) X.xe s₃) X.xe s₂) X.xe s₁) ok .brk _ z
    | .cont, z => exact sp_try (xe := fun e s₁ => wpAny (model X.prog X.w) X.A (noteFrame e X.env) (fun _ s₂ => wpAny (model X.prog X.w) X.A (setFlight e none) (fun _ s₃ => wpAny (model X.prog X.w) X.A (handleBy e X.env (h₀ :: hds)) (SP X pins D) X.xe s₃) X.xe s₂) X.xe s₁) ok .cont _ z
    | .ret u, z => exact sp_try (xe := fun e s₁ => wpAny (model X.prog X.w) X.A (noteFrame e X.env) (fun _ s₂ => wpAny (model X.prog X.w) X.A (setFlight e none) (fun _ s₃ => wpAny (model X.prog X.w) X.A (handleBy e X.env (h₀ :: hds)) (SP X pins D) X.xe s₃) X.xe s₂) X.xe s₁) ok (.ret u) _ z
end
end Bw

namespace Bw
open PySem PySem.Spec L2 LamX TL PyProof.Rows

/-! ### C.__init__(self, ..), C an own class -/
def tCInit (sp : Sp) (ta : TA) : TE := fun σ H Q => ta σ H fun vs H1 => sp vs H1 Q fun _ _ _ => False
section
variable {X : Cx} {e : Expr} {es : List Expr} {ta : TA} {p p1 p2 pos : Pos} {x : Str} {C fI : Addr} {k : Nat} {fd : FuncData} {ps : List Str} {sp : Sp}
theorem pe_cinit {mc : Value} {m : Str} {pl : Sem Bool} (R : ClX.CRead X.K C mc) (at_ : PySem.W.findCls X.K (.ref C) mc m = some (.val (.ref fI))) (F : FnOk X.prog X.w X.K X.mg X.base CX0 k fI fd ps sp) (hr : Room k X.A) (hg : Gl X x) (hm : X.mg x = some (.ref C))
    (hk : PySem.W.keepIn X.K (.ref fI) = true) (hb : Binds X.K fd ps []) (ha : PA X (e :: es) ta)
    (hc : eval (.Call (.Attribute (.Name x p1) m p2) (e :: es) [] pos) X.env = (do
      let ov ← eval (.Name x p1) X.env
      standAt p2.atName
      let (f, first) ← holding [ov] (getMethod ov m pl)
      callWith pos f first (backTo pos (starEach (e :: es) X.env)) (backToKw pos (keywordEach [] X.env))) := by rfl)
    (hdb : (x == ("__debug__" : Str)) = false := by decide) (he : starEach (e :: es) X.env = (false, eval e X.env) :: starEach es X.env := by rfl) (hpl : (backTo pos (starEach es X.env)).any (·.1) = false := by rfl) :
    PE X (.Call (.Attribute (.Name x p1) m p2) (e :: es) [] pos) (tCInit sp ta) := by
  refine ⟨fun pins s σ H Q I h => ?_⟩
  refine PySem.W.methodCall_KW (ld_glob I hg hm ?_ hdb) hc
  refine PySem.W.method_cls I.kIn R.ga (PySem.W.cls_value I.kIn R.rd at_ (handed_of (v := .ref fI) rfl) ?_)
  show wpAny _ _ (callWith pos (Value.ref fI) [] (backTo pos (starEach (e :: es) X.env)) []) _ _ _
  refine PySem.W.callWith_K (h₀ := X.base) I.ok.mod.kin hk (thn (ha.run pos pins _ σ H _ (I.tok _) h) fun us s1 ⟨vs, H1, I1, r, q⟩ => ⟨I1.kIn, ?_⟩) he hpl
  exact run_fn (dvs := []) F hr hb .nil pass0 I1 r (by rw [List.append_nil]; exact q)
end

/-! ### C(e, ..), C an own exception class whose __init__ keeps nothing -/
def tMkN (C : Addr) (sp : Sp) (dvs : List V) (ta : TA) : L2.St → Hp → XK → Prop := fun σ H Q => ta σ H fun vs H1 => vs.length ≤ 1000 ∧ ∀ a, H1 a = none → sp (.ref a :: (vs ++ dvs)) (upd H1 a (exo a C none))
  (fun v H2 => v = .non ∧ H2 a = some (exo a C none) ∧ Q (.ref C) none (del H2 a)) (fun _ _ _ => False)
section
variable {X : Cx} {e : Expr} {es : List Expr} {ta : TA} {p pos : Pos}
theorem mkN_end {pins : List (Addr × Obj)} {σ : L2.St} {H1 H2 : Hp} {hp hp2 h2 : Heap} {g1 g2 : Array GenState} {d1 d2 : Drawn} {t1 t2 : Nat} {os1 os2 : OsState} {a C : Addr} (I1 : Inv X pins σ H1 ⟨hp, g1, d1, t1, os1⟩)
    (new : hp.objs.size ≤ a) (k : ∀ b o, hp.get? b = some o → hp2.get? b = some o) (un : Un (frs X.stack) [] (upd H1 a (exo a C none)) H2 hp2 h2) (hok : HOk X.prog X.w H2 h2) (ho : os2 = os1) (hb : AllBare g2) (ea : H2 a = some (exo a C none)) :
    ∃ (t0 : Addr) (G : Heap), Inv X pins σ (del H2 a) ⟨G, g2, d2, t2, os2⟩ ∧ (∀ b o, G.get? b = some o → h2.get? b = some o) ∧ G.get? a = none ∧ h2.get? a = some ({ cls := .ref C, dict := none, data := .fields #[.ref t0, .none, .none, .none, .bool false, .none] } : Obj) := by
  obtain ⟨t0, hoe⟩ := exo_at hok ea
  have n1 : H1 a = none := I1.hok.fresh new
  obtain ⟨G, r1, r2⟩ := restrict h2 fun b => decide (b ≠ a)
  have same : ∀ b, b ≠ a → G.get? b = h2.get? b := fun b ne => r1 b (decide_eq_true ne)
  have gone : G.get? a = none := r2 a (by simp)
  have off : ∀ {b : Addr} {o : Obj}, hp.get? b = some o → b ≠ a := fun z => Nat.ne_of_lt (Nat.lt_of_lt_of_le (Heap.lt_size z) new)
  have before : ∀ {b : Addr}, b ≠ a → H1 b = none → upd H1 a (exo a C none) b = none := fun ne n => (upd_ne ne).trans n
  have keepU : ∀ {b : Addr} {u : HO}, H1 b = some u → upd H1 a (exo a C none) b = some u := fun {b u} q => (upd_ne (ne_of_none q n1)).trans q
  have back : ∀ {b : Addr} {u : HO}, H1 b = some u → H2 b = some u → del H2 a b = some u := fun {b u} q z => (del_ne (ne_of_none q n1)).trans z
  have U : Un (frs X.stack) [] H1 (del H2 a) hp G := {
    keep := fun b o z n hf hx => (same b (off z)).trans (un.keep b o (k b o z) (before (off z) n) hf hx)
    slot := fun b o z n hf hx => (un.slot b o (k b o z) (before (off z) n) hf hx).elim fun sl q => ⟨sl, (same b (off z)).trans q⟩
    free := fun b o z n hx => (del_ne (off z)).trans (un.free b o (k b o z) (before (off z) n) hx)
    there := fun b o z hx => (un.there b o (k b o z) hx).elim fun o' q => ⟨o', (same b (off z)).trans q⟩
    tups := fun b xs z => back z (un.tups b xs (keepU z))
    frzs := fun b o v z => back z (un.frzs b o v (keepU z))
    tbls := fun b ps z => (un.tbls b ps (keepU z)).elim fun more q => ⟨more, (del_ne (ne_of_none z n1)).trans q⟩ }
  have ok3 : HOk X.prog X.w (del H2 a) G := fun b o z => by
    have ne : b ≠ a := fun e => by
      rw [e, del_same] at z
      cases z
    rw [del_ne ne] at z
    have own_ : ∀ {c : Addr}, H2 c = some (.own b) → c ≠ a := fun hc => at_ne ea hc exo_own
    refine (hok b o z).stay (fun c v hc y => (same c ?_).trans y) (fun c hc => (del_ne (own_ hc)).trans hc) fun c xs hc => (del_ne (at_ne ea hc exo_tup)).trans hc
    rcases hc with hc | hc
    · exact hc ▸ ne
    · exact own_ hc
  have J : Inv X pins σ (del H2 a) ⟨G, g2, d2, t2, os2⟩ := I1.call' (ch := []) ho U ok3 hb fun b z => absurd z List.not_mem_nil
  refine ⟨t0, G, J, fun b o z => ?_, gone, hoe⟩
  by_cases ne : b = a
  · rw [ne, gone] at z
    cases z
  · exact (same b ne).symm.trans z
theorem pmk_none {CX : CXT} {x : Str} {C fI : Addr} {k : Nat} {fd : FuncData} {ps : List Str} {sp : Sp} {ds : List Value} {dvs : List V} (T : OexC X.K C) (iC : PySem.W.findIn X.K (.ref C) "__init__" = some (some (.ref fI))) (tI : PySem.W.typeIn X.K (.ref fI) = some (.type "function"))
    (F1 : FnOk X.prog X.w X.K X.mg X.base CX k fI fd ps sp) (hr : Room (k + 1) X.A) (hb : Binds X.K fd ps ds) (hd : Vals dvs ds) (hx : Passes CX X (fun _ _ _ => False)) (hg : Gl X x) (hm : X.mg x = some (.ref C)) (ha : PA X (e :: es) ta)
    (hdb : (x == ("__debug__" : Str)) = false := by decide) (he : starEach (e :: es) X.env = (false, eval e X.env) :: starEach es X.env := by rfl) (hpl : (backTo pos (starEach es X.env)).any (·.1) = false := by rfl) :
    PMk X (.Call (.Name x p) (e :: es) [] pos) (tMkN C sp dvs ta) := by
  intro pins s σ H Q I h
  obtain ⟨nm, q, N, bs, bm, sn, sub, ab, col, dd, k0, k1, k2, k3, k5, hC, hbm⟩ := T.cls
  refine wpAny_Call_Name_kw (ld_glob I hg hm ?_ hdb)
  refine PySem.W.callWith_K (h₀ := X.base) I.ok.mod.kin T.kC (thn (ha.run pos pins s σ H _ I h) fun us s1 ⟨vs, H1, I1, r1, hz, q1⟩ => ⟨I1.kIn, ?_⟩) he hpl
  show wpAny _ _ (call (.ref C) us) _ _ _
  obtain ⟨hp, g, dr, tk, os⟩ := s1
  have next : hp.objs.size ≤ hp.objs.size + 1 := Nat.le_succ _
  have hq := q1 (hp.objs.size + 1) (I1.hok.fresh next)
  have kk : ∀ b o, hp.get? b = some o → ((hp.push (PySem.W.kdv_tup us)).push (PySem.HandSPX.excO C hp.objs.size)).get? b = some o := fun b o z => Heap.get?_push_of_some _ (Heap.get?_push_of_some _ z)
  have atA : ((hp.push (PySem.W.kdv_tup us)).push (PySem.HandSPX.excO C hp.objs.size)).get? (hp.objs.size + 1) = some (PySem.HandSPX.excO C hp.objs.size) := by heap_get
  have I2 := I1.laid (t' := tk) (a := hp.objs.size + 1) (o := exo (hp.objs.size + 1) C none) (h' := (hp.push (PySem.W.kdv_tup us)).push (PySem.HandSPX.excO C hp.objs.size)) kk next (exo_ok atA)
  have r2 : Vals (V.ref (hp.objs.size + 1) :: (vs ++ dvs)) (Value.ref (hp.objs.size + 1) :: (us ++ ds)) := .cons rfl (r1.append hd)
  have len : (Value.ref (hp.objs.size + 1) :: us ++ ds).length = ps.length := r2.length.symm.trans (F1.len _ _ _ _ hq)
  have hus : us.length ≤ sizeLine := by
    have := r1.length
    rw [sizeLine_eq]
    omega
  refine wpAny_call (PySem.HandSPX.call_own PySem.F.excBase_ValueError (fun Y => PySem.HandSPX.refsVE_contains Y bm hbm) (I1.kIn _ _ hC) (PySem.W.looks_findIn I1.kIn iC) (fun self => PySem.W.bind_fn I1.kIn self tI) hus
    (codeAny_mono (F1.run _ X.stack _ _ ⟨Value.ref (hp.objs.size + 1) :: us, []⟩ (Value.ref (hp.objs.size + 1) :: (us ++ ds)) _ _ (fun _ _ _ => False) (hr.make C us []) (I2.env0.make C us []) (hb _ (Value.ref (hp.objs.size + 1) :: us) I2.kIn len) r2 hq) fun r s' hq' => ?_))
  match r, hq' with
  | .error er, hq' => exact hx pins σ _ _ er s' I2 hq'
  | .ok (.ret u), hq' =>
    obtain ⟨v, H2, os2, bare2, un2, hok2, rv, rfl, ea, q2⟩ := hq'
    obtain ⟨h2, g2, d2, t2, os'⟩ := s'
    refine ⟨rv, ?_⟩
    obtain ⟨t0, G, J, kG, ge, hoe⟩ := mkN_end (d2 := d2) (t2 := t2) I1 next kk un2 hok2 os2 bare2 ea
    exact ⟨_, _, _, ⟨G, g2, d2, t2, os'⟩, _, .ref C, none, rfl, J, kG, ge, hoe, ⟨rfl, rfl⟩, rfl, rfl, del_same, rfl, bare2, raises_own T.exC T.tyC, q2⟩
end
end Bw

namespace Bw
open PySem PySem.Spec L2 LamX TL PyProof.Rows

/-! ### x.__class__.__name__ -/
/-- the built-in class of x -/
inductive ClsB (H : Hp) : V → String → Prop where
  | non : ClsB H .non "NoneType"
  | str (x : Str) : ClsB H (.str x) "str"
  | lst {a : Addr} {xs : List V} (e : H a = some (.lst xs)) : ClsB H (.ref a) "list"
  | tup {a : Addr} {xs : List V} (e : H a = some (.tup xs)) : ClsB H (.ref a) "tuple"
  | dct {a : Addr} {xs : List (Key × V)} (e : H a = some (.dK xs)) : ClsB H (.ref a) "dict"
section
variable {prog : Program} {w : World} {A : Around} {E : Value → Shared → Prop} {h : Heap} {g : Array GenState} {d : Drawn} {t : Nat} {os : OsState} {a : Addr} {o : Obj}
theorem cls_none {Q : Value → Shared → Prop} (hq : Q (.type "NoneType") ⟨h, g, d, t + 1, os⟩) : wpAny (model prog w) A (getAttr .none "__class__" true) Q E ⟨h, g, d, t, os⟩ := by
  have hT : (⟨h, g, d, t + 1, os⟩ : Shared).TypeIs .none "NoneType" := typeIs_none _
  have f2 := PySem.F.slot_NoneType_getattribute.lookup
  have f3 := PySem.F.slot_NoneType_getattribute.bind .none
  unfold getAttr
  repeat (any_goals (first | assumption | wp_step))
  refine class_call_none ?_
  repeat (any_goals (first | assumption | wp_step))
theorem cls_str {y : Str} {u : Tok} {Q : Value → Shared → Prop} (hq : Q (.type "str") ⟨h, g, d, t + 1, os⟩) : wpAny (model prog w) A (getAttr (.str y u) "__class__" true) Q E ⟨h, g, d, t, os⟩ := by
  have hT : (⟨h, g, d, t + 1, os⟩ : Shared).TypeIs (.str y u) "str" := typeIs_str _ _ _
  have f2 := PySem.F.slot_str_getattribute.lookup
  have f3 := PySem.F.slot_str_getattribute.bind (.str y u)
  unfold getAttr
  repeat (any_goals (first | assumption | wp_step))
  refine class_call_str ?_
  repeat (any_goals (first | assumption | wp_step))
theorem cls_list (hx : h.get? a = some o) (hc : o.cls = .type "list") {Q : Value → Shared → Prop} (hq : Q (.type "list") ⟨h, g, d, t + 1, os⟩) : wpAny (model prog w) A (getAttr (.ref a) "__class__" true) Q E ⟨h, g, d, t, os⟩ := by
  have hT : (⟨h, g, d, t + 1, os⟩ : Shared).TypeIs (.ref a) "list" := ⟨_, hx, hc⟩
  have f2 := PySem.F.slot_list_getattribute.lookup
  have f3 := PySem.F.slot_list_getattribute.bind (.ref a)
  unfold getAttr
  repeat (any_goals (first | assumption | wp_step))
  refine class_call_list hx hc ?_
  repeat (any_goals (first | assumption | wp_step))
theorem cls_tuple (hx : h.get? a = some o) (hc : o.cls = .type "tuple") {Q : Value → Shared → Prop} (hq : Q (.type "tuple") ⟨h, g, d, t + 1, os⟩) : wpAny (model prog w) A (getAttr (.ref a) "__class__" true) Q E ⟨h, g, d, t, os⟩ := by
  have hT : (⟨h, g, d, t + 1, os⟩ : Shared).TypeIs (.ref a) "tuple" := ⟨_, hx, hc⟩
  have f2 := PySem.F.slot_tuple_getattribute.lookup
  have f3 := PySem.F.slot_tuple_getattribute.bind (.ref a)
  unfold getAttr
  repeat (any_goals (first | assumption | wp_step))
  refine class_call_tuple hx hc ?_
  repeat (any_goals (first | assumption | wp_step))
theorem cls_dict (hx : h.get? a = some o) (hc : o.cls = .type "dict") {Q : Value → Shared → Prop} (hq : Q (.type "dict") ⟨h, g, d, t + 1, os⟩) : wpAny (model prog w) A (getAttr (.ref a) "__class__" true) Q E ⟨h, g, d, t, os⟩ := by
  have hT : (⟨h, g, d, t + 1, os⟩ : Shared).TypeIs (.ref a) "dict" := ⟨_, hx, hc⟩
  have f2 := PySem.F.slot_dict_getattribute.lookup
  have f3 := PySem.F.slot_dict_getattribute.bind (.ref a)
  unfold getAttr
  repeat (any_goals (first | assumption | wp_step))
  refine class_call_dict hx hc ?_
  repeat (any_goals (first | assumption | wp_step))
end
def tClass (te : TE) : TE := fun σ H Q => te σ H fun x H1 => ∃ T, ClsB H1 x T ∧ Q (.ty T) H1
theorem pe_class {X : Cx} {e : Expr} {te : TE} {pos : Pos} (he : PE X e te) (hb : attributeBase e "__class__" X.env (eval e X.env) = eval e X.env := by rfl) : PE X (.Attribute e "__class__" pos) (tClass te) := by
  refine ⟨fun pins s σ H Q I h => ?_⟩
  refine attr_of hb (thn (he.run pins s σ H _ I h) fun u s1 hh => ?_)
  obtain ⟨x, H1, I1, rx, T, kind, q⟩ := hh
  have done : EP X pins σ Q (.type T) { s1 with toks := s1.toks + 1 } := ⟨.ty T, H1, I1.tok _, rfl, q⟩
  obtain ⟨hp, g, d, t, os⟩ := s1
  cases kind with
  | non =>
    obtain rfl : u = Value.none := rx
    exact cls_none done
  | str y =>
    obtain ⟨tk, rfl⟩ := (show ∃ t, u = Value.str y t from rx)
    exact cls_str done
  | @lst a xs e =>
    obtain rfl : u = Value.ref a := rx
    obtain ⟨_, its, n, _, h1⟩ := (show ObjOk X.prog X.w H1 hp a (.lst xs) from I1.hok a _ e)
    exact cls_list h1 rfl done
  | @tup a xs e =>
    obtain rfl : u = Value.ref a := rx
    obtain ⟨_, its, _, o, h1, h2, _⟩ := (show ObjOk X.prog X.w H1 hp a (.tup xs) from I1.hok a _ e)
    exact cls_tuple h1 h2 done
  | @dct a xs e =>
    obtain rfl : u = Value.ref a := rx
    obtain ⟨_, _, vs, _, o, es, ep, h1, h2, _⟩ := (show ObjOk X.prog X.w H1 hp a (.dK xs) from I1.hok a _ e)
    exact cls_dict h1 h2.1 done
def tTyName (te : TE) : TE := fun σ H Q => te σ H fun x H1 => ∃ T, x = .ty T ∧ T ∈ ["NoneType", "str", "list", "tuple", "dict"] ∧ ∀ y : Str, y.length ≤ 20 → Q (.str y) H1
theorem pe_tyname {X : Cx} {e : Expr} {te : TE} {pos : Pos} (he : PE X e te) (hb : attributeBase e "__name__" X.env (eval e X.env) = eval e X.env := by rfl) : PE X (.Attribute e "__name__" pos) (tTyName te) := by
  refine ⟨fun pins s σ H Q I h => ?_⟩
  refine attr_of hb (thn (he.run pins s σ H _ I h) fun u s1 hh => ?_)
  obtain ⟨x, H1, I1, rx, T, rfl, mem, q⟩ := hh
  obtain rfl : u = Value.type T := rx
  obtain ⟨m, fr⟩ := I1.fr
  have fin : ∀ y : Str, y.length ≤ 20 → ∀ (tk : Tok) (u : Nat), EP X pins σ Q (.str y tk) { s1 with toks := u } := fun y hy tk u => ⟨.str y, H1, I1.tok _, ⟨tk, rfl⟩, q y hy⟩
  simp only [List.mem_cons, List.not_mem_nil, or_false] at mem
  rcases mem with rfl | rfl | rfl | rfl | rfl
  · exact PySem.W.ktyn_attr (q := "NoneType") fr I1.ok.mod.kin (by decide +kernel) (by decide +kernel) (by first | rfl | kernel_rfl) (by decide +kernel) (by decide +kernel) (fin _ (by decide +kernel))
  · exact PySem.W.ktyn_attr (q := "str") fr I1.ok.mod.kin (by decide +kernel) (by decide +kernel) (by first | rfl | kernel_rfl) (by decide +kernel) (by decide +kernel) (fin _ (by decide +kernel))
  · exact PySem.W.ktyn_attr (q := "list") fr I1.ok.mod.kin (by decide +kernel) (by decide +kernel) (by first | rfl | kernel_rfl) (by decide +kernel) (by decide +kernel) (fin _ (by decide +kernel))
  · exact PySem.W.ktyn_attr (q := "tuple") fr I1.ok.mod.kin (by decide +kernel) (by decide +kernel) (by first | rfl | kernel_rfl) (by decide +kernel) (by decide +kernel) (fin _ (by decide +kernel))
  · exact PySem.W.ktyn_attr (q := "dict") fr I1.ok.mod.kin (by decide +kernel) (by decide +kernel) (by first | rfl | kernel_rfl) (by decide +kernel) (by decide +kernel) (fin _ (by decide +kernel))
/-! ### bit_length and str of a whole number or of a truth value -/
theorem slot_bool_bits : Slot "bool" "bit_length" "int.bit_length" :=
  .of (owner := "int") (n := "bit_length") (by rw [typeLookup_type, builtinLookup_eq_fast]; kernel_rfl) (by decide +kernel) (by decide +kernel) (by decide +kernel) (.inr (by decide +kernel)) (by rw [isSubtype_type]; kernel_rfl)
def tBitsB (to : TE) : TE := fun σ H Q => to σ H fun x H1 => (∃ i, x = .int i ∧ Q (.int (Builtin.Int.intBits i : Nat)) H1) ∨ ∃ b, x = .bl b ∧ Q (.int (b2i b)) H1
theorem pe_bitsB {X : Cx} {o : Expr} {to : TE} {apos pos : Pos} (ho : PE X o to) (hbase : attributeBase o "bit_length" X.env (eval o X.env) = eval o X.env := by rfl) (hline : (apos.endLine == pos.line) = true := by rfl) : PE X (.Call (.Attribute o "bit_length" apos) [] [] pos) (tBitsB to) := by
  refine ⟨fun pins s σ H Q I h => ?_⟩
  refine PySem.Call_method0 hbase hline (thn (ho.run pins s σ H _ I h) fun v s1 ⟨x, H1, I1, r1, q1⟩ => ?_)
  rcases q1 with ⟨i, rfl, q1⟩ | ⟨b, rfl, q1⟩
  · obtain ⟨t, rfl⟩ := (show ∃ t, v = Value.int i t from r1)
    exact ⟨"int", _, PySem.F.plainAttrs_int, PyProof.Rows.slot_int_bit_length, PyProof.Rows.type_int_bit_length, typeIs_int _ _ _, (fun _ e => nomatch e), Calls.callWith_builtin rfl (PySem.evalArgs_none (call_int_bit_length ⟨.int _, H1, I1.tok _, ⟨_, rfl⟩, q1⟩))⟩
  · obtain rfl : v = Value.bool b := r1
    refine ⟨"bool", _, PySem.F.plainAttrs_bool, slot_bool_bits, PyProof.Rows.type_int_bit_length, PySem.typeIs_bool _ _, (fun _ e => nomatch e), Calls.callWith_builtin rfl (PySem.evalArgs_none ?_)⟩
    refine wpAny_call_entry slot_bool_bits (PySem.typeIs_bool _ _) PyProof.Rows.entry_int_bit_length ?_ (PyProof.Rows.args_int_bit_length _)
    have e1 : ((Builtin.Int.intBits (b2i b) : Nat) : Int) = b2i b := by cases b <;> decide
    refine (show wpAny _ _ (do ret (← mkInt (Builtin.Int.intBits (b2i b)))) _ _ s1 from wpAny_ret_mkInt ?_)
    rw [e1]
    exact ⟨.int _, H1, I1.tok _, ⟨_, rfl⟩, q1⟩
def rStrB : List V → Hp → VK → Prop := fun xs H Q => (∃ i, xs = [.int i] ∧ i.natAbs.log2 < 1920 ∧ Q (.str (toString i)) H) ∨ ∃ b, xs = [.bl b] ∧ Q (.str (if b then "True" else "False")) H
theorem call_str_ib {X : Cx} : CallR X (.type "str") rStrB := by
  intro pins s σ H xs us Q I r h
  rcases h with ⟨i, rfl, hz, q⟩ | ⟨b, rfl, q⟩
  · obtain ⟨u, rfl, t, rfl⟩ := vals1 r
    exact PySem.P.str_of_int hz ⟨.str _, H, I.tok _, ⟨_, rfl⟩, q⟩
  · obtain ⟨u, rfl, r1⟩ := vals1 r
    obtain rfl : u = Value.bool b := r1
    exact PySem.P.str_of_bool ⟨.str _, H, I.tok _, ⟨_, rfl⟩, q⟩
end Bw

namespace Bw
open PySem PySem.Spec L2 LamX TL PyProof.Rows
open PySem.SeqAt (EqAt RcAt)

/-! ### what is no text, among texts -/
section
variable {A : Around} {s : Shared}
theorem dict_declines (l : Addr) (es : Array DictEntry) (n : Nat) (dd : Option Addr) (sl : Array (Option Value)) (b : Str) (u : Tok) :
    Meets (Builtin.«dict.__eq__» ⟨[.ref l, .str b u], []⟩) (fun _ R s => s.heap.get? l = some { cls := .type "dict", dict := dd, data := .dict es n, slots := sl } ∧ R (.ok (.ret .notImplemented)) s) :=
  .of_wp fun prog w A R s h => by
    obtain ⟨hp, g, d, tk, os⟩ := s
    obtain ⟨hl, h⟩ := h
    have f1 := PySem.F.sub_str_dict
    have hT : (⟨hp, g, d, tk, os⟩ : Shared).TypeIs (.ref l) "dict" := ⟨_, hl, rfl⟩
    unfold Builtin.«dict.__eq__»
    refine wpAny_bind ?_
    unfold Builtin.Dict.dictSlotArgs
    refine wpAny_bind (wpAny_notOrdered_dict hT ?_)
    wp_walk using AutoSeq1.wpAny_loadPart' hl
    exact ⟨_, rfl, h⟩
theorem str_declines (b : Str) (u : Tok) (l : Addr) (es : Array DictEntry) (n : Nat) (dd : Option Addr) (sl : Array (Option Value)) :
    Meets (Builtin.«str.__eq__» ⟨[.str b u, .ref l], []⟩) (fun _ R s => s.heap.get? l = some { cls := .type "dict", dict := dd, data := .dict es n, slots := sl } ∧ R (.ok (.ret .notImplemented)) s) :=
  .of_wp fun prog w A R s h => by
    obtain ⟨hp, g, d, tk, os⟩ := s
    obtain ⟨hl, h⟩ := h
    wp_walk using AutoSeq1.wpAny_loadPart' hl, wpAny_load hl
    exact ⟨_, rfl, h⟩
theorem rc_str_dict {l : Addr} {o : Obj} {es : Array DictEntry} {n : Nat} (b : Str) (u : Tok) (ho : s.heap.get? l = some o) (hc : o.cls = .type "dict") (hd : o.data = .dict es n) (hu : A.units < cLine) : RcAt A s (.str b u) (.ref l) false := fun prog w E Q h => by
  obtain ⟨cls, dd, data, sl⟩ := o
  simp only at hc hd
  subst hc hd
  exact SeqAt.rc_eq_decline_or (k := false) (typeIs_str s b u) ⟨_, ho, rfl⟩ (by decide) PySem.F.sub_dict_str PySem.F.slot_str_eq PySem.F.slot_dict_eq_refl
    (fun _ hq => call_meets PySem.F.slot_str_eq (typeIs_str s b u) PySem.F.entry_str_eq (PySem.F.args_str_eq_2 _ _) (str_declines b u l es n dd sl) ⟨ho, hq⟩)
    (fun _ hq => call_meets PySem.F.slot_dict_eq_refl ⟨_, ho, rfl⟩ PySem.F.entry_dict_eq (PySem.F.args_dict_eq_2 _ _) (dict_declines l es n dd sl b u) ⟨ho, hq⟩)
    (fun _ hq => wpAny_of_eq (rfl : isSame (.str b u) (.ref l) = pure false) hq) (.inr hu) h
theorem eq_str_dict {l : Addr} {o : Obj} {es : Array DictEntry} {n : Nat} (b : Str) (u : Tok) (ho : s.heap.get? l = some o) (hc : o.cls = .type "dict") (hd : o.data = .dict es n) (hu : A.units < cLine) : EqAt A s (.str b u) (.ref l) false := fun prog w E Q h => by
  unfold eqBool
  refine wpAny_holding (wpAny_ite_split (fun hab => absurd (eq_of_beq hab) nofun) fun _ => ?_)
  exact wpAny_bind (rc_str_dict b u ho hc hd hu prog w E _ (wpAny_truthy_bool h))
end
/-- x is no text -/
inductive NoTx (H : Hp) : V → Prop where
  | non : NoTx H .non
  | bl (b : Bool) : NoTx H (.bl b)
  | int (i : Int) : NoTx H (.int i)
  | lst {a : Addr} {xs : List V} (e : H a = some (.lst xs)) : NoTx H (.ref a)
  | tup {a : Addr} {xs : List V} (e : H a = some (.tup xs)) : NoTx H (.ref a)
  | dct {a : Addr} {kvs : List (Key × V)} (e : H a = some (.dK kvs)) : NoTx H (.ref a)
theorem NoTx.up {H H' : Hp} {v : V} (h : NoTx H v) (e : Same H H') : NoTx H' v := by
  cases h with
  | non => exact .non
  | bl b => exact .bl b
  | int i => exact .int i
  | lst q => exact .lst (e _ _ q)
  | tup q => exact .tup (e _ _ q)
  | dct q => exact .dct (e _ _ q)
section
variable {X : Cx} {pins : List (Addr × Obj)} {σ : L2.St} {H : Hp} {s : Shared}
theorem str_ne {x : V} {v : Value} {b : Str} {u : Tok} (I : Inv X pins σ H s) (k : NoTx H x) (r : RelV x v) (A : Around) (hu : A.units < cLine) : EqAt A s (.str b u) v false := by
  cases k with
  | non =>
    obtain rfl : v = Value.none := r
    exact SeqAt.EqAt.str_none _ _
  | bl y =>
    obtain rfl : v = Value.bool y := r
    exact SeqAt.EqAt.str_bool _ _ _
  | int i =>
    obtain ⟨t, rfl⟩ := (show ∃ t, v = Value.int i t from r)
    exact SeqAt.EqAt.str_int _ _ _ _
  | @lst a xs e =>
    obtain rfl : v = Value.ref a := r
    obtain ⟨_, its, n, _, h1⟩ := (show ObjOk X.prog X.w H s.heap a (.lst xs) from I.hok a _ e)
    exact SeqAt.EqAt.str_list _ _ ⟨_, h1, rfl, n, rfl⟩ hu
  | @tup a xs e =>
    obtain rfl : v = Value.ref a := r
    obtain ⟨_, its, _, o, h1, h2, n, h3⟩ := (show ObjOk X.prog X.w H s.heap a (.tup xs) from I.hok a _ e)
    exact SeqAt.EqAt.str_tuple _ _ ⟨o, h1, h2, n, h3⟩ hu
  | @dct a kvs e =>
    obtain rfl : v = Value.ref a := r
    obtain ⟨_, _, vs, _, o, es, ep, h1, h2, h3, _⟩ := (show ObjOk X.prog X.w H s.heap a (.dK kvs) from I.hok a _ e)
    exact eq_str_dict _ _ h1 h2.1 h3 hu
/-- x not in T, T a tuple of texts -/
def rNoTx (K : PySem.W.Frag) : R2 := fun x y H Q => ∃ (a : Addr) (l : List Str), y = .ref a ∧ SqT K H a (l.map V.str) ∧ ((NoTx H x ∧ Q (.bl true) H) ∨ ∃ z, x = .str z ∧ Q (.bl (!decide (z ∈ l))) H)
theorem vals_mem : ∀ {L : List Str} {its : List Value}, Vals (L.map V.str) its → ∀ w ∈ its, ∃ z t, w = .str z t
  | [], _, r, w, hw => by
    cases r
    cases hw
  | z :: L, _, r, w, hw => by
    cases r with
    | cons a b =>
      obtain ⟨t, rfl⟩ := a
      rcases List.mem_cons.mp hw with e | e
      · exact ⟨z, t, e⟩
      · exact vals_mem b w e
def eqTx (z : Str) : Value → Bool
  | .str y _ => y == z
  | _ => false
theorem any_tx (z : Str) : ∀ {L : List Str} {its : List Value}, Vals (L.map V.str) its → its.any (eqTx z) = decide (z ∈ L)
  | [], _, r => by
    cases r
    simp
  | y :: L, _, r => by
    cases r with
    | cons a b =>
      obtain ⟨t, rfl⟩ := a
      rw [List.any_cons, any_tx z b]
      show (y == z || _) = _
      rw [Bool.eq_iff_iff, Bool.or_eq_true, beq_iff_eq, decide_eq_true_eq, decide_eq_true_eq, List.mem_cons]
      exact ⟨fun q => q.elim (fun e => .inl e.symm) .inr, fun q => q.elim (fun e => .inl e.symm) .inr⟩
theorem op_noTx (hu : X.A.units + 1 < cLine) : OpR X (compareOp .NotIn) (rNoTx X.K) := by
  intro pins s σ H x y v u Q I rx ry h
  obtain ⟨a, l, rfl, ht, h⟩ := h
  obtain rfl : u = Value.ref a := ry
  obtain ⟨its, rv, pl, hz⟩ := I.tuple ht
  rcases h with ⟨no, q⟩ | ⟨z, rfl, q⟩
  · refine SeqAt.notIn_tupleAt (fun _ => false) pl (fun w hw => ?_) ⟨.bl _, H, I, rfl, ?_⟩
    · obtain ⟨z, t, rfl⟩ := vals_mem rv w (by simpa using hw)
      exact str_ne I no rx _ hu
    · have e : its.toArray.any (fun _ => false) = false := by simp
      rw [e]
      exact q
  · obtain ⟨t, rfl⟩ := rx
    refine SeqAt.notIn_tupleAt (eqTx z) pl (fun w hw => ?_) ⟨.bl _, H, I, rfl, ?_⟩
    · obtain ⟨y, t', rfl⟩ := vals_mem rv w (by simpa using hw)
      exact SeqAt.EqAt.str_str _ _ _ _
    · rw [show its.toArray.any (eqTx z) = its.any (eqTx z) by simp, any_tx z rv]
      exact q
end
end Bw

namespace Bw
open PySem PySem.Spec L2 TL PyProof.Rows
def top (i : Nat) : Stmt := PySem.Challenge.pw_bailiwick_k02_errors_of_kinds_and_patter.main.body.getD i (.Pass ⟨0, 0, 0, 0⟩)
abbrev s_shown : Stmt := top 1
abbrev n_shown : List Str := ["value"]
theorem sc_shown : FnScope n_shown ["value"] (defScope s_shown) := ⟨rfl, rfl, rfl, by decide +kernel, rfl, by decide +kernel, by decide +kernel⟩
abbrev s_BailiwickError___init__ : Stmt := inClass (top 2) 0
abbrev n_BailiwickError___init__ : List Str := ["self", "value"]
theorem sc_BailiwickError___init__ : FnScope n_BailiwickError___init__ ["self", "value"] (defScope s_BailiwickError___init__) := ⟨rfl, rfl, rfl, by decide +kernel, rfl, by decide +kernel, by decide +kernel⟩
abbrev s_InvalidText___init__ : Stmt := inClass (top 3) 0
abbrev n_InvalidText___init__ : List Str := ["self", "value"]
theorem sc_InvalidText___init__ : FnScope n_InvalidText___init__ ["self", "value"] (defScope s_InvalidText___init__) := ⟨rfl, rfl, rfl, by decide +kernel, rfl, by decide +kernel, by decide +kernel⟩
abbrev s_InvalidWord___init__ : Stmt := inClass (top 4) 0
abbrev n_InvalidWord___init__ : List Str := ["self", "value"]
theorem sc_InvalidWord___init__ : FnScope n_InvalidWord___init__ ["self", "value"] (defScope s_InvalidWord___init__) := ⟨rfl, rfl, rfl, by decide +kernel, rfl, by decide +kernel, by decide +kernel⟩
abbrev s_are_signs : Stmt := top 21
abbrev n_are_signs : List Str := ["value", "most"]
theorem sc_are_signs : FnScope n_are_signs ["value", "most"] (defScope s_are_signs) := ⟨rfl, rfl, rfl, by decide +kernel, rfl, by decide +kernel, by decide +kernel⟩
abbrev s_is_text : Stmt := top 22
abbrev n_is_text : List Str := ["value"]
theorem sc_is_text : FnScope n_is_text ["value"] (defScope s_is_text) := ⟨rfl, rfl, rfl, by decide +kernel, rfl, by decide +kernel, by decide +kernel⟩
abbrev s_are_plain_digits : Stmt := top 24
abbrev n_are_plain_digits : List Str := ["signs"]
theorem sc_are_plain_digits : FnScope n_are_plain_digits ["signs"] (defScope s_are_plain_digits) := ⟨rfl, rfl, rfl, by decide +kernel, rfl, by decide +kernel, by decide +kernel⟩
abbrev s_read_place : Stmt := top 25
abbrev n_read_place : List Str := ["signs", "number"]
theorem sc_read_place : FnScope n_read_place ["signs"] (defScope s_read_place) := ⟨rfl, rfl, rfl, by decide +kernel, rfl, by decide +kernel, by decide +kernel⟩
abbrev s_read_number : Stmt := top 26
abbrev n_read_number : List Str := ["signs", "number"]
theorem sc_read_number : FnScope n_read_number ["signs"] (defScope s_read_number) := ⟨rfl, rfl, rfl, by decide +kernel, rfl, by decide +kernel, by decide +kernel⟩
abbrev s_need_kind : Stmt := top 32
abbrev n_need_kind : List Str := ["kind"]
theorem sc_need_kind : FnScope n_need_kind ["kind"] (defScope s_need_kind) := ⟨rfl, rfl, rfl, by decide +kernel, rfl, by decide +kernel, by decide +kernel⟩
abbrev s_fits_number : Stmt := top 33
abbrev n_fits_number : List Str := ["text", "digits"]
theorem sc_fits_number : FnScope n_fits_number ["text"] (defScope s_fits_number) := ⟨rfl, rfl, rfl, by decide +kernel, rfl, by decide +kernel, by decide +kernel⟩
abbrev s_fits_exactly : Stmt := top 34
abbrev n_fits_exactly : List Str := ["kind", "text"]
theorem sc_fits_exactly : FnScope n_fits_exactly ["kind", "text"] (defScope s_fits_exactly) := ⟨rfl, rfl, rfl, by decide +kernel, rfl, by decide +kernel, by decide +kernel⟩
abbrev s_known_form : Stmt := top 35
abbrev n_known_form : List Str := ["kind", "text", "form"]
theorem sc_known_form : FnScope n_known_form ["kind", "text"] (defScope s_known_form) := ⟨rfl, rfl, rfl, by decide +kernel, rfl, by decide +kernel, by decide +kernel⟩
abbrev s_form_of : Stmt := top 36
abbrev n_form_of : List Str := ["kind", "text"]
theorem sc_form_of : FnScope n_form_of ["kind", "text"] (defScope s_form_of) := ⟨rfl, rfl, rfl, by decide +kernel, rfl, by decide +kernel, by decide +kernel⟩
abbrev s_is_fit : Stmt := top 37
abbrev n_is_fit : List Str := ["kind", "value"]
theorem sc_is_fit : FnScope n_is_fit ["kind", "value"] (defScope s_is_fit) := ⟨rfl, rfl, rfl, by decide +kernel, rfl, by decide +kernel, by decide +kernel⟩
abbrev s_is_form : Stmt := top 38
abbrev n_is_form : List Str := ["kind", "value"]
theorem sc_is_form : FnScope n_is_form ["kind", "value"] (defScope s_is_form) := ⟨rfl, rfl, rfl, by decide +kernel, rfl, by decide +kernel, by decide +kernel⟩
abbrev s_order_key : Stmt := top 39
abbrev n_order_key : List Str := ["kind", "form"]
theorem sc_order_key : FnScope n_order_key ["kind", "form"] (defScope s_order_key) := ⟨rfl, rfl, rfl, by decide +kernel, rfl, by decide +kernel, by decide +kernel⟩
abbrev s_is_less : Stmt := top 40
abbrev n_is_less : List Str := ["kind", "one", "other", "form"]
theorem sc_is_less : FnScope n_is_less ["kind", "one", "other"] (defScope s_is_less) := ⟨rfl, rfl, rfl, by decide +kernel, rfl, by decide +kernel, by decide +kernel⟩
abbrev s_is_piece : Stmt := top 41
abbrev n_is_piece : List Str := ["value"]
theorem sc_is_piece : FnScope n_is_piece ["value"] (defScope s_is_piece) := ⟨rfl, rfl, rfl, by decide +kernel, rfl, by decide +kernel, by decide +kernel⟩
abbrev s_is_pattern : Stmt := top 42
abbrev n_is_pattern : List Str := ["value", "first", "middles", "last", "piece"]
theorem sc_is_pattern : FnScope n_is_pattern ["value"] (defScope s_is_pattern) := ⟨rfl, rfl, rfl, by decide +kernel, rfl, by decide +kernel, by decide +kernel⟩
abbrev s_squeezed : Stmt := top 43
abbrev n_squeezed : List Str := ["piece"]
theorem sc_squeezed : FnScope n_squeezed ["piece"] (defScope s_squeezed) := ⟨rfl, rfl, rfl, by decide +kernel, rfl, by decide +kernel, by decide +kernel⟩
abbrev s_text_pattern : Stmt := top 44
abbrev n_text_pattern : List Str := ["pattern", "first", "middles", "last", "begin", "end", "piece"]
theorem sc_text_pattern : FnScope n_text_pattern ["pattern"] (defScope s_text_pattern) := ⟨rfl, rfl, rfl, by decide +kernel, rfl, by decide +kernel, by decide +kernel⟩
abbrev s_pattern_form : Stmt := top 45
abbrev n_pattern_form : List Str := ["kind", "pattern"]
theorem sc_pattern_form : FnScope n_pattern_form ["kind", "pattern"] (defScope s_pattern_form) := ⟨rfl, rfl, rfl, by decide +kernel, rfl, by decide +kernel, by decide +kernel⟩
abbrev s_can_be_parted : Stmt := top 46
abbrev n_can_be_parted : List Str := ["form", "pieces", "first", "middles", "last", "at", "end", "piece", "found"]
theorem sc_can_be_parted : FnScope n_can_be_parted ["form", "pieces"] (defScope s_can_be_parted) := ⟨rfl, rfl, rfl, by decide +kernel, rfl, by decide +kernel, by decide +kernel⟩
abbrev s_does_match : Stmt := top 47
abbrev n_does_match : List Str := ["kind", "pattern", "form", "pieces"]
theorem sc_does_match : FnScope n_does_match ["kind", "pattern", "form"] (defScope s_does_match) := ⟨rfl, rfl, rfl, by decide +kernel, rfl, by decide +kernel, by decide +kernel⟩
abbrev s_law_dice : Stmt := top 49
abbrev n_law_dice : List Str := ["_law_script", "_law_at", "_law_cell", "_law_great", "_law_left", "_law_mixed"]
theorem sc_law_dice : FnScope n_law_dice ["_law_script", "_law_at"] (defScope s_law_dice) := ⟨rfl, rfl, rfl, by decide +kernel, rfl, by decide +kernel, by decide +kernel⟩
abbrev s_law_roll : Stmt := top 50
abbrev n_law_roll : List Str := ["_law_dice_here", "_law_total", "_law_size", "_law_drawn", "_law_one", "_law_two"]
theorem sc_law_roll : FnScope n_law_roll ["_law_dice_here", "_law_total"] (defScope s_law_roll) := ⟨rfl, rfl, rfl, by decide +kernel, rfl, by decide +kernel, by decide +kernel⟩
abbrev s_law_one_of : Stmt := top 51
abbrev n_law_one_of : List Str := ["_law_dice_here", "_law_items"]
theorem sc_law_one_of : FnScope n_law_one_of ["_law_dice_here", "_law_items"] (defScope s_law_one_of) := ⟨rfl, rfl, rfl, by decide +kernel, rfl, by decide +kernel, by decide +kernel⟩
abbrev s_law_met : Stmt := top 52
abbrev n_law_met : List Str := ["_law_call", "e"]
theorem sc_law_met : FnScope n_law_met ["_law_call"] (defScope s_law_met) := ⟨rfl, rfl, rfl, by decide +kernel, rfl, by decide +kernel, by decide +kernel⟩
abbrev s_law_kinds_right : Stmt := top 53
abbrev n_law_kinds_right : List Str := ["_law_bad", "_law_odd", "_law_wrong", "_law_told"]
theorem sc_law_kinds_right : FnScope n_law_kinds_right ["_law_bad", "_law_odd", "_law_wrong"] (defScope s_law_kinds_right) := ⟨rfl, rfl, rfl, by decide +kernel, rfl, by decide +kernel, by decide +kernel⟩
abbrev s_law_texts_right : Stmt := top 54
abbrev n_law_texts_right : List Str := ["_law_kind", "_law_odd", "_law_told"]
theorem sc_law_texts_right : FnScope n_law_texts_right ["_law_kind", "_law_odd"] (defScope s_law_texts_right) := ⟨rfl, rfl, rfl, by decide +kernel, rfl, by decide +kernel, by decide +kernel⟩
abbrev s_law_orders_right : Stmt := top 55
abbrev n_law_orders_right : List Str := ["_law_dice_here", "_law_odd", "_law_told", "_law_kind", "_law_near"]
theorem sc_law_orders_right : FnScope n_law_orders_right ["_law_dice_here", "_law_odd"] (defScope s_law_orders_right) := ⟨rfl, rfl, rfl, by decide +kernel, rfl, by decide +kernel, by decide +kernel⟩
abbrev s_law_patterns_right : Stmt := top 56
abbrev n_law_patterns_right : List Str := ["_law_dice_here", "_law_odd", "_law_wrong", "_law_told", "_law_kind"]
theorem sc_law_patterns_right : FnScope n_law_patterns_right ["_law_dice_here", "_law_odd", "_law_wrong"] (defScope s_law_patterns_right) := ⟨rfl, rfl, rfl, by decide +kernel, rfl, by decide +kernel, by decide +kernel⟩
abbrev s_law : Stmt := top 57
abbrev n_law : List Str := ["_law_script", "_law_at", "_law_dice_here", "_law_turn", "_law_bad", "_law_odd", "_law_some", "_law_wrong", "_law_kind"]
theorem sc_law : FnScope n_law ["_law_script"] (defScope s_law) := ⟨rfl, rfl, rfl, by decide +kernel, rfl, by decide +kernel, by decide +kernel⟩
/-! ### a def of the program, known by its name -/
structure Dfn (P : Program) (w : World) (K : PySem.W.Frag) (mg : Str → Option Value) (base : Heap) (x : Str) (k : Nat) (ps : List Str) (sp : Sp) : Prop where
  ex : ∃ (f : Addr) (fd : FuncData), FnOk P w K mg base CX0 k f fd ps sp ∧ mg x = some (.ref f) ∧ PySem.W.keepIn K (.ref f) = true ∧ Binds K fd ps []
/-- a def that raises -/
structure DfnX (P : Program) (w : World) (K : PySem.W.Frag) (mg : Str → Option Value) (base : Heap) (x : Str) (k : Nat) (ps : List Str) (sp : Sp) : Prop where
  ex : ∃ (f : Addr) (fd : FuncData), FnOk P w K mg base (L2.CX P w) k f fd ps sp ∧ mg x = some (.ref f) ∧ PySem.W.keepIn K (.ref f) = true ∧ Binds K fd ps []
section
variable {X : Cx} {x : Str} {k m : Nat} {ps : List Str} {sp : Sp} {e : Expr} {es : List Expr} {t : TA} {p pos : Pos}
theorem pe_d (D : Dfn X.prog X.w X.K X.mg X.base x k ps sp) (hr : Room m X.A) (hm : k ≤ m) (ha : PA X (e :: es) t) (hg : Gl X x := by rfl)
    (hdb : (x == ("__debug__" : Str)) = false := by decide)
    (he : starEach (e :: es) X.env = (false, eval e X.env) :: starEach es X.env := by rfl) (hpl : (backTo pos (starEach es X.env)).any (·.1) = false := by rfl) :
    PE X (.Call (.Name x p) (e :: es) [] pos) (tCall sp [] E0 t) := by
  obtain ⟨f, fd, F, mf, kp, b⟩ := D.ex
  exact pe_call F (hr.mono hm) hg mf kp b .nil pass0 ha hdb he hpl
theorem pe_dX {W : WX} (D : DfnX X.prog X.w X.K X.mg X.base x k ps sp) (tk : Takes X W) (hr : Room m X.A) (hm : k ≤ m) (ha : PA X (e :: es) t) (hg : Gl X x := by rfl)
    (hdb : (x == ("__debug__" : Str)) = false := by decide)
    (he : starEach (e :: es) X.env = (false, eval e X.env) :: starEach es X.env := by rfl) (hpl : (backTo pos (starEach es X.env)).any (·.1) = false := by rfl) :
    PE X (.Call (.Name x p) (e :: es) [] pos) (tCallS sp (WE W) t) := by
  obtain ⟨f, fd, F, mf, kp, b⟩ := D.ex
  exact pe_callS F (hr.mono hm) hg mf kp b (fun σ => passAt tk σ) ha hdb he hpl
end
/-- what the top has left, apart from the defs -/
structure Txt (K : PySem.W.Frag) (mg : Str → Option Value) (aK : Addr) : Prop where
  b_len : mg "len" = none
  b_int : mg "int" = none
  b_abs : mg "abs" = none
  b_max : mg "max" = none
  b_min : mg "min" = none
  b_range : mg "range" = none
  b_isinstance : mg "isinstance" = none
  b_tuple : mg "tuple" = none
  b_all : mg "all" = none
  b_str : mg "str" = none
  b_repr : mg "repr" = none
  b_list : mg "list" = none
  b_ValueError : mg "ValueError" = none
  g_KINDS : mg "KINDS" = some (.ref aK)
  s_KINDS : ∀ H : Hp, SqT K H aK [.str "exact", .str "flag", .str "link", .str "number", .str "text"]
  g_number : ∃ t, mg "MOST_NUMBER" = some (.int 1000000000000 t)
  g_value : ∃ t, mg "MOST_VALUE" = some (.int 1000000000000000 t)
  g_text : ∃ t, mg "MOST_TEXT" = some (.int 100 t)
  g_middles : ∃ t, mg "MOST_MIDDLES" = some (.int 8 t)
structure TxO (K : PySem.W.Frag) (mg : Str → Option Value) (aO : Addr) : Prop where
  g : mg "ORDERED" = some (.ref aO)
  s : ∀ H : Hp, SqT K H aO [.str "exact", .str "number", .str "text"]
end Bw

namespace Bw
open PySem PySem.Spec L2 TL PyProof.Rows

/-! ### the judges of texts -/
/-- no text at all -/
def NotStr (K : PySem.W.Frag) (H : Hp) (v : V) : Prop := ∃ t, TyX K H v t ∧ PySem.W.kitOne K t (.type "str") = some false
def areSg (x : Str) (m : Int) : Bool := decide ((x.length : Int) ≤ m) && (Txt.isascii x && Txt.isprintable x)
def isTx (x : Str) : Bool := areSg x 100 && decide (x ≠ "")
theorem isTx_iff (x : Str) : isTx x = true ↔ IsTx x ∧ x ≠ "" := by
  unfold isTx areSg IsTx
  rw [Bool.and_eq_true, Bool.and_eq_true, decide_eq_true_eq, decide_eq_true_eq, signs_iff]
  constructor
  · rintro ⟨⟨a, b⟩, c⟩
    exact ⟨⟨b, by omega⟩, c⟩
  · rintro ⟨⟨b, a⟩, c⟩
    exact ⟨⟨by omega, b⟩, c⟩
theorem line_of {n : Nat} (h : n ≤ 1000000) : n ≤ sizeLine := Nat.le_trans h (by decide)

def spAre (K : PySem.W.Frag) : Sp := fun vs H Q _ => ∃ (v : V) (m : Int), vs = [v, .int m] ∧
  ((∃ x, v = .str x ∧ x.length ≤ sizeLine ∧ Q (.bl (areSg x m)) H) ∨ (NotStr K H v ∧ Q (.bl false) H))
def spIsText (K : PySem.W.Frag) : Sp := fun vs H Q _ => ∃ v : V, vs = [v] ∧
  ((∃ x, v = .str x ∧ x.length ≤ sizeLine ∧ Q (.bl (isTx x)) H) ∨ (NotStr K H v ∧ Q (.bl false) H))
section
variable {P : Program} {w : World} {K : PySem.W.Frag} {mg : Str → Option Value} {base : Heap} {f : Addr} {fd : FuncData} {aK : Addr}
theorem ok_are_signs (F : Fun K "are_signs" "are_signs" s_are_signs f fd) (T : Txt K mg aK) : FnOk P w K mg base CX0 1 f fd ["value", "most"] (spAre K) := by
  refine F.ok sc_are_signs (fun vs H Q E h => ?_) (fun cdv A outer s H vs Q E hr h => ?_)
  · obtain ⟨v, m, rfl, _⟩ := h
    rfl
  · obtain ⟨v, m, rfl, h⟩ := h
    refine ⟨_, (pss_one (ps_ret (pe_and (pe_callB call_isi (by rfl) T.b_isinstance (by decide +kernel) (pa_cons (pv 0) (pa_cons (pe_bltn (v := .ty "str") (by rfl) T.b_str (by decide +kernel) rfl) pa_nil))) (pe_and (pe_cmpR op_le (pe_callB call_len_str (by rfl) T.b_len (by decide +kernel) (pa_cons (pv 0) pa_nil)) (pv 1) (nomark _)) (pe_and (pe_m0 PySem.F.slot_str_isascii PySem.F.type_str_isascii mt_isascii (pv 0)) (pe_one (pe_m0 PySem.F.slot_str_isprintable PySem.F.type_str_isprintable mt_isprintable (pv 0)))))))), ?_⟩
    rcases h with ⟨x, rfl, hl, q⟩ | ⟨⟨t, ty, kt⟩, q⟩
    · refine ⟨_, rfl, _, _, _, _, true, rfl, ClsV.ty "str", TyX.base (.str x), kit_ty (by decide +kernel), true, rfl, iteT ?_⟩
      refine ⟨_, rfl, _, rfl, hl, _, rfl, _, _, rfl, rfl, _, rfl, ?_⟩
      unfold areSg at q
      cases e : decide ((x.length : Int) ≤ m) with
      | false =>
        rw [e] at q
        exact iteF q
      | true =>
        rw [e] at q
        refine iteT ⟨_, rfl, ⟨_, rfl⟩, _, rfl, rfl, trivial, _, rfl, ?_⟩
        cases e2 : Txt.isascii x with
        | false =>
          rw [e2] at q
          exact iteF q
        | true =>
          rw [e2] at q
          exact iteT ⟨_, rfl, ⟨_, rfl⟩, _, rfl, rfl, trivial, q⟩
    · exact ⟨_, rfl, _, _, _, _, false, rfl, ClsV.ty "str", ty, kt, false, rfl, iteF q⟩
theorem ok_is_text (F : Fun K "is_text" "is_text" s_is_text f fd) (T : Txt K mg aK) (D_are_signs : Dfn P w K mg base "are_signs" 1 ["value", "most"] (spAre K)) :
    FnOk P w K mg base CX0 2 f fd ["value"] (spIsText K) := by
  obtain ⟨t0, gT⟩ := T.g_text
  refine F.ok sc_is_text (fun vs H Q E h => ?_) (fun cdv A outer s H vs Q E hr h => ?_)
  · obtain ⟨v, rfl, _⟩ := h
    rfl
  · obtain ⟨v, rfl, h⟩ := h
    refine ⟨_, (pss_one (ps_ret (pe_and (pe_d D_are_signs hr (by decide) (pa_cons (pv 0) (pa_cons (pe_glob (v := .int 100) rfl gT ⟨_, rfl⟩) pa_nil))) (pe_one (pe_cmpR op_ne (pv 0) pe_str (nomark _)))))), ?_⟩
    rcases h with ⟨x, rfl, hl, q⟩ | ⟨ns, q⟩
    · refine ⟨_, rfl, _, _, rfl, .inl ⟨x, rfl, hl, _, rfl, ?_⟩⟩
      unfold isTx at q
      cases e : areSg x 100 with
      | false =>
        rw [e] at q
        exact iteF q
      | true =>
        rw [e] at q
        refine iteT ⟨_, rfl, rfl, ?_⟩
        have e2 : (!decide (V.str x = V.str "")) = decide (x ≠ "") := by
          rw [decide_not]
          congr 1
          simp
        show Q (.bl (!decide (V.str x = V.str ""))) H
        rw [e2]
        exact q
    · exact ⟨_, rfl, _, _, rfl, .inr ⟨ns, _, rfl, iteF q⟩⟩
end
end Bw

namespace Bw
open PySem PySem.Spec L2 TL PyProof.Rows
open NumText (AllDigits digitsVal)

theorem len0 (x : Str) : x.length = (tl x).length := len_tl x
theorem isdigit_eq {x : Str} (h : Sgn (tl x)) : Txt.isdigit x = (decide (tl x ≠ []) && decide (AllDigits (tl x))) := by
  unfold Txt.isdigit
  rw [← Array.all_toList]
  have e1 : decide (x.length > 0) = decide (tl x ≠ []) := by
    congr 1
    rw [len_tl]
    exact propext ⟨fun q e => by rw [e] at q; exact absurd q (by simp), fun q => List.length_pos_iff.mpr q⟩
  have e2 : x.cps.toList.all Unicode.isDigit = decide (AllDigits (tl x)) := by
    rw [Bool.eq_iff_iff, decide_eq_true_eq, List.all_eq_true]
    constructor
    · intro q c hc
      have := q c hc
      rw [digit_sgn c (h.lt c hc)] at this
      exact of_decide_eq_true this
    · intro q c hc
      rw [digit_sgn c (h.lt c hc)]
      exact decide_eq_true (q c hc)
  rw [e1, e2]
theorem cut_from1 (x : Str) : tl (cutS x (some 1) none) = (tl x).tail := by
  show (List.take (HT.sIx x.length x.length none - HT.sIx x.length 0 (some 1)) (List.drop (HT.sIx x.length 0 (some 1)) x.cps.toList)) = _
  cases e : tl x with
  | nil =>
    have e' : x.cps.toList = [] := e
    rw [e']
    simp
  | cons c r =>
    have hl : x.length = r.length + 1 := by rw [len_tl, e]; rfl
    have e' : x.cps.toList = c :: r := e
    have s1 : HT.sIx x.length 0 (some 1) = 1 := by
      unfold HT.sIx
      rw [hl]
      simp
    have s2 : HT.sIx x.length x.length none = r.length + 1 := by
      unfold HT.sIx
      exact hl
    rw [s1, s2, e']
    simp
theorem at0 {x : Str} {c : Nat} {r : List Nat} (e : tl x = c :: r) : atI x.cps.toList 0 = some c := by
  have e' : x.cps.toList = c :: r := e
  rw [e']
  exact atI_nat (j := 0) rfl
theorem tl_one (c : Nat) : tl ⟨#[c]⟩ = [c] := rfl
theorem ne_of_tl {x : Str} (h : x ≠ "") : tl x ≠ [] := fun e => h (ext_tl (by rw [e]; decide +kernel))
theorem of_ne_tl {x : Str} (h : tl x ≠ []) : x ≠ "" := fun e => h (by rw [e]; decide +kernel)
theorem dstr {a b : Str} : decide (V.str a = V.str b) = decide (tl a = tl b) := by
  rw [Bool.eq_iff_iff, decide_eq_true_eq, decide_eq_true_eq]
  exact ⟨fun h => by injection h with h; rw [h], fun h => by rw [ext_tl h]⟩
theorem tl_0 : tl ("0" : Str) = [48] := by decide +kernel
theorem tl_dash : tl ("-" : Str) = [45] := by decide +kernel
theorem tl_m0 : tl ("-0" : Str) = [45, 48] := by decide +kernel
theorem plain_split {l : List Nat} : plainD l = (decide (l ≠ []) && decide (AllDigits l) && (decide (l = [48]) || decide (l.head? ≠ some 48))) := rfl

def spNeed : Sp := fun vs H Q _ => ∃ k : Kd, vs = [.str k.str] ∧ Q .non H
def spPlain : Sp := fun vs H Q _ => ∃ x : Str, vs = [.str x] ∧ Sgn (tl x) ∧ x.length ≤ 100 ∧ Q (.bl (plainD (tl x))) H
def spFitsNum : Sp := fun vs H Q _ => ∃ x : Str, vs = [.str x] ∧ IsTx x ∧ x ≠ "" ∧ Q (.bl (fitNum (tl x))) H
/-- a number or 0, told by signs -/
def plcOf (l : List Nat) : Bool := plainD l && decide ((digitsVal l : Int) ≤ 10 ^ 12)
theorem dv_from (r : List Nat) : ∀ a : Nat, 1 ≤ a → 10 ^ r.length ≤ r.foldl (fun acc c => acc * 10 + (c - 48)) a := by
  induction r with
  | nil => exact fun a h => h
  | cons c r ih =>
    intro a h
    have h1 : 1 ≤ a * 10 + (c - 48) := by omega
    rw [List.foldl_cons, List.length_cons, Nat.pow_succ]
    have h2 : ∀ (r : List Nat) (m n : Nat), n ≤ m → r.foldl (fun acc c => acc * 10 + (c - 48)) n ≤ r.foldl (fun acc c => acc * 10 + (c - 48)) m := by
      intro r
      induction r with
      | nil => exact fun m n z => z
      | cons d r ih2 => exact fun m n z => by rw [List.foldl_cons, List.foldl_cons]; exact ih2 _ _ (by omega)
    have h3 : ∀ (r : List Nat) (a : Nat), 10 ^ r.length * a ≤ r.foldl (fun acc c => acc * 10 + (c - 48)) a := by
      intro r
      induction r with
      | nil => exact fun a => by simp
      | cons d r ih3 =>
        intro a
        rw [List.foldl_cons, List.length_cons, Nat.pow_succ]
        refine Nat.le_trans ?_ (ih3 (a * 10 + (d - 48)))
        rw [Nat.mul_assoc]
        exact Nat.mul_le_mul_left _ (by omega)
    have h4 := h3 r (a * 10 + (c - 48))
    refine Nat.le_trans ?_ h4
    exact Nat.mul_le_mul_left _ (by omega)
theorem long_plain {l : List Nat} (h : plainD l = true) (hl : 13 < l.length) : ¬ ((digitsVal l : Int) ≤ 10 ^ 12) := by
  obtain ⟨h1, h2, h3⟩ := plainD_iff.mp h
  cases e : l with
  | nil => exact absurd e h1
  | cons c r =>
    rw [e] at h2 h3 hl
    rcases h3 with h3 | h3
    · rw [h3] at hl
      exact absurd hl (by decide)
    · have hc : 48 ≤ c ∧ c ≤ 57 := h2 c (List.mem_cons_self ..)
      have hn : c ≠ 48 := fun z => h3 (by rw [z]; rfl)
      have h4 : 10 ^ r.length ≤ digitsVal (c :: r) := by
        unfold digitsVal
        rw [List.foldl_cons]
        exact dv_from r _ (by omega)
      have h5 : 10 ^ 13 ≤ 10 ^ r.length := Nat.pow_le_pow_right (by decide) (by simp at hl; omega)
      intro z
      have z' : digitsVal (c :: r) ≤ 10 ^ 12 := by exact_mod_cast z
      have h6 : (10 : Nat) ^ 12 < 10 ^ 13 := by decide
      omega
theorem link_plc (l : List Nat) : fitLink l = (plcOf l && decide ((digitsVal l : Int) ≠ 0)) := by
  unfold fitLink plcOf
  rw [Bool.and_assoc]
  congr 1
  rw [Bool.eq_iff_iff, Bool.and_eq_true, decide_eq_true_eq, decide_eq_true_eq, decide_eq_true_eq]
  constructor
  · rintro ⟨a, b⟩
    exact ⟨b, by omega⟩
  · rintro ⟨a, b⟩
    exact ⟨by omega, a⟩
def spPlace : Sp := fun vs H Q _ => ∃ x : Str, vs = [.str x] ∧ IsTx x ∧ Q (if plcOf (tl x) then .int (digitsVal (tl x)) else .non) H
def spNumber : Sp := fun vs H Q _ => ∃ x : Str, vs = [.str x] ∧ IsTx x ∧ Q (if fitLink (tl x) then .int (digitsVal (tl x)) else .non) H
def fitsX (k : Kd) (x : Str) : Bool := match k with
  | .number => fitNum (tl x)
  | .flag => decide (x = "yes" ∨ x = "no")
  | .link => fitLink (tl x)
  | .exact => true
  | .text => false
def spFitsX : Sp := fun vs H Q _ => ∃ (k : Kd) (x : Str), vs = [.str k.str, .str x] ∧ IsTx x ∧ x ≠ "" ∧ ∀ H', Same H H' → Q (.bl (fitsX k x)) H'
section
variable {P : Program} {w : World} {K : PySem.W.Frag} {mg : Str → Option Value} {base : Heap} {f : Addr} {fd : FuncData} {aK : Addr}
theorem inV_kd (k : Kd) : inV (.str k.str) [.str "exact", .str "flag", .str "link", .str "number", .str "text"] = true := by
  cases k <;> decide +kernel
theorem ok_need_kind (F : Fun K "_need_kind" "_need_kind" s_need_kind f fd) (T : Txt K mg aK) : FnOk P w K mg base CX0 1 f fd ["kind"] spNeed := by
  refine F.ok sc_need_kind (fun vs H Q E h => ?_) (fun cdv A outer s H vs Q E hr h => ?_)
  · obtain ⟨k, rfl, _⟩ := h
    rfl
  · obtain ⟨k, rfl, q⟩ := h
    refine ⟨_, (pss_one (ps_if (pt_cmpR op_notIn_seq (pv 0) (pe_glob (v := .ref aK) rfl T.g_KINDS rfl) rfl) (pss_one ps_never) pss_nil)), ?_⟩
    refine ⟨_, rfl, aK, _, rfl, .inr (T.s_KINDS H), rfl, rfl, false, ?_, iteF q⟩
    rw [inV_kd]
    rfl
theorem ok_are_plain_digits (F : Fun K "are_plain_digits" "are_plain_digits" s_are_plain_digits f fd) : FnOk P w K mg base CX0 1 f fd ["signs"] spPlain := by
  refine F.ok sc_are_plain_digits (fun vs H Q E h => ?_) (fun cdv A outer s H vs Q E hr h => ?_)
  · obtain ⟨x, rfl, _⟩ := h
    rfl
  · obtain ⟨x, rfl, hx, hl, q⟩ := h
    refine ⟨_, (pss_one (ps_ret (pe_and (pe_m0 PySem.F.slot_str_isdigit PySem.F.type_str_isdigit mt_isdigit (pv 0)) (pe_one (pe_or (pe_cmpR op_eq (pv 0) pe_str (nomark _)) (pe_one (pe_cmpR op_ne (pe_ix ix_str (pv 0) pe_int (fun _ _ => rfl)) pe_str (nomark _)))))))), ?_⟩
    refine ⟨_, rfl, ⟨_, rfl⟩, _, rfl, rfl, trivial, _, rfl, ?_⟩
    rw [isdigit_eq hx]
    rw [plain_split] at q
    cases e : (decide (tl x ≠ []) && decide (AllDigits (tl x))) with
    | false =>
      rw [e] at q
      exact iteF q
    | true =>
      rw [e] at q
      refine iteT ⟨_, rfl, rfl, _, rfl, ?_⟩
      rw [dstr, tl_0]
      cases e2 : decide (tl x = [48]) with
      | true =>
        rw [e2] at q
        exact iteT q
      | false =>
        rw [e2] at q
        cases e3 : tl x with
        | nil =>
          rw [e3] at e
          exact absurd e (by decide)
        | cons c r =>
          refine iteF ⟨_, rfl, x, 0, c, rfl, rfl, line_of (by omega), at0 e3, rfl, ?_⟩
          have e4 : (!decide (V.str ⟨#[c]⟩ = V.str "0")) = decide ((tl x).head? ≠ some 48) := by
            rw [dstr, tl_0, tl_one, e3, ← decide_not]
            congr 1
            simp
          show Q (.bl (!decide (V.str ⟨#[c]⟩ = V.str "0"))) H
          rw [e4]
          exact q
theorem ok_fits_number (F : Fun K "_fits_number" "_fits_number" s_fits_number f fd) (T : Txt K mg aK) (D_are_plain_digits : Dfn P w K mg base "are_plain_digits" 1 ["signs"] spPlain) :
    FnOk P w K mg base CX0 2 f fd ["text"] spFitsNum := by
  obtain ⟨t0, gV⟩ := T.g_value
  refine F.ok sc_fits_number (fun vs H Q E h => ?_) (fun cdv A outer s H vs Q E hr h => ?_)
  · obtain ⟨x, rfl, _⟩ := h
    rfl
  · obtain ⟨x, rfl, hx, hne, q⟩ := h
    have hl := hx.2
    refine ⟨_, (pss_cons (ps_set (i := 1) sc_fits_number.nd rfl (Or.inl rfl) (pe_ifExp (pt_cmpR op_eq (pe_ix ix_str (pv 0) pe_int (fun _ _ => rfl)) pe_str (nomark _)) (pe_slice sl_str (pv 0) (po_some pe_int) po_none) (pv 0))) (pss_one (ps_ret (pe_and (pe_d D_are_plain_digits hr (by decide) (pa_cons (pv 1) pa_nil)) (pe_and (pe_cmpR op_ne (pv 0) pe_str (nomark _)) (pe_one (pe_cmpR op_le (pe_callTy call_int_str (by rfl) T.b_int (by decide +kernel) (pa_cons (pv 1) pa_nil)) (pe_glob (v := .int 1000000000000000) rfl gV ⟨_, rfl⟩) (nomark _)))))))), ?_⟩
    cases e : tl x with
    | nil => exact absurd e (ne_of_tl hne)
    | cons c r =>
      have e5 : decide (V.str ⟨#[c]⟩ = V.str "-") = decide (c = 45) := by
        rw [dstr, tl_dash, tl_one]
        congr 1
        simp
      -- what follows, once digits is known
      have key : ∀ (y : Str), tl y = numPart (tl x) → tAndV (tCall spPlain [] E0 (tCons (tVar 1) tNil)) (tAndV (tOp rNe (tVar 0) (tC (.str "-0"))) (tOp (rI0 fun i j => .bl (decide (i ≤ j))) (tCB (fun xs H Q => ∃ a n, xs = [.str a] ∧ PySem.intText? a = some n ∧ a.length ≤ 640 ∧ Q (.int n) H) (tCons (tVar 1) tNil)) (tC (.int 1000000000000000)))) [some (.str x), some (.str y)] H Q := by
        intro y hy
        have hs : Sgn (tl y) := by
          rw [hy]
          unfold numPart
          split
          · exact fun d hd => hx.1 d (List.mem_of_mem_tail hd)
          · exact hx.1
        have hyl : y.length ≤ 100 := by
          rw [len_tl, hy]
          have e9 := len_tl x
          unfold numPart
          split
          · rw [List.length_tail]
            omega
          · omega
        refine ⟨_, rfl, y, rfl, hs, hyl, _, rfl, ?_⟩
        unfold fitNum at q
        rw [← hy] at q
        cases e6 : plainD (tl y) with
        | false =>
          rw [e6] at q
          exact iteF q
        | true =>
          rw [e6] at q
          refine iteT ⟨_, rfl, rfl, _, rfl, ?_⟩
          rw [dstr, tl_m0]
          have e7 : (!decide (tl x = [45, 48])) = decide (tl x ≠ [45, 48]) := (decide_not).symm
          show if (!decide (tl x = [45, 48])) = true then _ else _
          rw [e7]
          cases e8 : decide (tl x ≠ [45, 48]) with
          | false =>
            rw [e8] at q
            exact iteF q
          | true =>
            rw [e8] at q
            obtain ⟨h1, h2, _⟩ := plainD_iff.mp e6
            exact iteT ⟨_, rfl, y, _, rfl, intText_digits h2 h1 (by omega), by omega, _, _, rfl, rfl, q⟩
      refine ⟨_, rfl, x, 0, c, rfl, rfl, line_of (by omega), at0 e, rfl, _, rfl, ?_⟩
      rw [e5]
      by_cases hc : c = 45
      · rw [decide_eq_true hc]
        refine iteT ⟨_, rfl, _, rfl, x, rfl, line_of (by omega), key _ ?_⟩
        rw [cut_from1]
        unfold numPart
        rw [if_pos (by rw [e, hc]; rfl)]
      · rw [decide_eq_false hc]
        refine iteF ⟨_, rfl, key _ ?_⟩
        unfold numPart
        rw [if_neg (by rw [e]; intro z; exact hc (Option.some.inj z))]
theorem ok_read_place (F : Fun K "read_place" "read_place" s_read_place f fd) (T : Txt K mg aK) (D_are_plain_digits : Dfn P w K mg base "are_plain_digits" 1 ["signs"] spPlain) :
    FnOk P w K mg base CX0 2 f fd ["signs"] spPlace := by
  obtain ⟨t0, gN⟩ := T.g_number
  refine F.ok sc_read_place (fun vs H Q E h => ?_) (fun cdv A outer s H vs Q E hr h => ?_)
  · obtain ⟨x, rfl, _⟩ := h
    rfl
  · obtain ⟨x, rfl, hx, q⟩ := h
    have hl := hx.2
    refine ⟨_, (pss_cons (ps_if (PW.pt (pw_or (pt_not (pt_val (pe_d D_are_plain_digits hr (by decide) (pa_cons (pv 0) pa_nil)))) (pw_or1 (pt_cmpR op_gt (pe_callB call_len_str (by rfl) T.b_len (by decide +kernel) (pa_cons (pv 0) pa_nil)) (pe_callB call_len_str (by rfl) T.b_len (by decide +kernel) (pa_cons (pe_callTy call_str_int (by rfl) T.b_str (by decide +kernel) (pa_cons (pe_glob (v := .int 1000000000000) rfl gN ⟨_, rfl⟩) pa_nil)) pa_nil)) (nomark _))))) (pss_one (ps_ret pe_non)) pss_nil) (pss_cons (ps_set (i := 1) sc_read_place.nd rfl (Or.inl rfl) (pe_callTy call_int_str (by rfl) T.b_int (by decide +kernel) (pa_cons (pv 0) pa_nil))) (pss_one (ps_ret (pe_ifExp (pt_cmpR op_le (pv 1) (pe_glob (v := .int 1000000000000) rfl gN ⟨_, rfl⟩) (nomark _)) (pv 1) pe_non))))), ?_⟩
    refine ⟨_, rfl, x, rfl, hx.1, hx.2, _, rfl, ?_⟩
    unfold plcOf at q
    cases e6 : plainD (tl x) with
    | false =>
      rw [e6] at q
      exact iteT q
    | true =>
      rw [e6] at q
      obtain ⟨h1, h2, _⟩ := plainD_iff.mp e6
      refine iteF ⟨_, rfl, _, rfl, line_of (by omega), _, rfl, by decide, _, rfl, by decide +kernel, _, _, rfl, rfl, _, rfl, ?_⟩
      have e13 : ((PySem.Str.ofString (toString (1000000000000 : Int))).length : Int) = 13 := by decide +kernel
      rw [e13]
      by_cases h13 : (13 : Int) < (x.length : Int)
      · rw [decide_eq_true h13]
        have hn := long_plain e6 (by have := len_tl x; omega)
        rw [decide_eq_false hn] at q
        exact iteT q
      · rw [decide_eq_false h13]
        refine iteF ⟨_, rfl, x, _, rfl, intText_digits h2 h1 (by omega), by omega, _, rfl, _, _, rfl, rfl, _, rfl, ?_⟩
        have e7 : decide ((digitsVal (tl x) : Int) ≤ 10 ^ 12) = decide ((digitsVal x.cps.toList : Int) ≤ 1000000000000) := rfl
        rw [e7] at q
        by_cases h14 : (digitsVal x.cps.toList : Int) ≤ 1000000000000
        · rw [decide_eq_true h14] at q ⊢
          exact iteT ⟨_, rfl, q⟩
        · rw [decide_eq_false h14] at q ⊢
          exact iteF q
theorem ok_read_number (F : Fun K "read_number" "read_number" s_read_number f fd) (D_read_place : Dfn P w K mg base "read_place" 2 ["signs"] spPlace) :
    FnOk P w K mg base CX0 3 f fd ["signs"] spNumber := by
  refine F.ok sc_read_number (fun vs H Q E h => ?_) (fun cdv A outer s H vs Q E hr h => ?_)
  · obtain ⟨x, rfl, _⟩ := h
    rfl
  · obtain ⟨x, rfl, hx, q⟩ := h
    refine ⟨_, (pss_cons (ps_set (i := 1) sc_read_number.nd rfl (Or.inl rfl) (pe_d D_read_place hr (by decide) (pa_cons (pv 0) pa_nil))) (pss_one (ps_ret (pe_ifExp (pt_cmpR op_eq (pv 1) pe_int (nomark _)) pe_non (pv 1))))), ?_⟩
    refine ⟨_, rfl, x, rfl, hx, ?_⟩
    rw [link_plc] at q
    cases e6 : plcOf (tl x) with
    | false =>
      rw [e6] at q
      exact ⟨_, rfl, rfl, _, rfl, iteF ⟨_, rfl, q⟩⟩
    | true =>
      rw [e6] at q
      refine ⟨_, rfl, rfl, _, rfl, ?_⟩
      by_cases h0 : (digitsVal (tl x) : Int) = 0
      · have h0' : decide (V.int (digitsVal (tl x) : Int) = V.int 0) = true := decide_eq_true (by rw [h0])
        rw [decide_eq_false (not_not_intro h0)] at q
        show if decide (V.int (digitsVal (tl x) : Int) = V.int 0) = true then _ else _
        rw [h0']
        exact iteT q
      · have h0' : decide (V.int (digitsVal (tl x) : Int) = V.int 0) = false := decide_eq_false (fun z => h0 (by injection z))
        rw [decide_eq_true h0] at q
        show if decide (V.int (digitsVal (tl x) : Int) = V.int 0) = true then _ else _
        rw [h0']
        exact iteF ⟨_, rfl, q⟩
theorem ok_fits_exactly (F : Fun K "_fits_exactly" "_fits_exactly" s_fits_exactly f fd) (D_fits_number : Dfn P w K mg base "_fits_number" 2 ["text"] spFitsNum) (D_read_number : Dfn P w K mg base "read_number" 3 ["signs"] spNumber) :
    FnOk P w K mg base CX0 4 f fd ["kind", "text"] spFitsX := by
  refine F.ok sc_fits_exactly (fun vs H Q E h => ?_) (fun cdv A outer s H vs Q E hr h => ?_)
  · obtain ⟨k, x, rfl, _⟩ := h
    rfl
  · obtain ⟨k, x, rfl, hx, hne, q⟩ := h
    refine ⟨_, (pss_cons (ps_if (pt_cmpR op_eq (pv 0) pe_str (nomark _)) (pss_one (ps_ret (pe_d D_fits_number hr (by decide) (pa_cons (pv 1) pa_nil)))) pss_nil) (pss_cons (ps_if (pt_cmpR op_eq (pv 0) pe_str (nomark _)) (pss_one (ps_ret (pe_cmpR op_in_seq (pv 1) (pe_tup (pa_cons pe_str (pa_cons pe_str pa_nil))) rfl))) pss_nil) (pss_cons (ps_if (pt_cmpR op_eq (pv 0) pe_str (nomark _)) (pss_one (ps_ret (pe_cmpR op_notN (pe_d D_read_number hr (by decide) (pa_cons (pv 1) pa_nil)) pe_non (nomark _)))) pss_nil) (pss_one (ps_ret (pe_cmpR op_eq (pv 0) pe_str (nomark _))))))), ?_⟩
    have kk : ∀ a : Kd, decide (V.str k.str = V.str a.str) = decide (k = a) := fun a => by
      rw [Bool.eq_iff_iff, decide_eq_true_eq, decide_eq_true_eq]
      exact ⟨fun z => kd_inj.mp (by injection z), fun z => by rw [z]⟩
    refine ⟨_, rfl, rfl, _, rfl, ?_⟩
    rw [show decide (V.str k.str = V.str "number") = decide (k = .number) from kk .number]
    cases k with
    | number => exact iteT ⟨_, rfl, x, rfl, hx, hne, q H (Same.refl H)⟩
    | flag =>
      refine iteF ⟨_, rfl, rfl, _, rfl, ?_⟩
      refine iteT ⟨_, rfl, by decide, fun p hp => ⟨p, _, rfl, .inr (SqT.of upd_same), rfl, rfl, ?_⟩⟩
      have e : inV (.str x) [.str "yes", .str "no"] = decide (x = "yes" ∨ x = "no") := by
        rw [Bool.eq_iff_iff, decide_eq_true_eq]
        unfold inV
        simp [eqV]
        constructor <;> (intro z; rcases z with z | z <;> simp [z])
      show Q (.bl (inV (.str x) [.str "yes", .str "no"])) _
      rw [e]
      exact q _ fun b o ho => by rw [upd_ne (ne_of_none ho hp)]; exact ho
    | link =>
      refine iteF ⟨_, rfl, rfl, _, rfl, ?_⟩
      refine iteF ⟨_, rfl, rfl, _, rfl, ?_⟩
      refine iteT ⟨_, rfl, x, rfl, hx, ?_⟩
      have q1 : Q (.bl (fitLink (tl x))) H := q H (Same.refl H)
      cases e : fitLink (tl x) with
      | true =>
        rw [e] at q1
        exact ⟨rfl, q1⟩
      | false =>
        rw [e] at q1
        exact ⟨rfl, q1⟩
    | exact =>
      refine iteF ⟨_, rfl, rfl, _, rfl, ?_⟩
      refine iteF ⟨_, rfl, rfl, _, rfl, ?_⟩
      refine iteF ⟨_, rfl, rfl, ?_⟩
      exact q H (Same.refl H)
    | text =>
      refine iteF ⟨_, rfl, rfl, _, rfl, ?_⟩
      refine iteF ⟨_, rfl, rfl, _, rfl, ?_⟩
      refine iteF ⟨_, rfl, rfl, ?_⟩
      exact q H (Same.refl H)
end
end Bw

namespace Bw
open PySem PySem.Spec L2 TL PyProof.Rows
open NumText (AllDigits digitsVal)

theorem same_new {H : Hp} {p : Addr} {o : HO} (h : H p = none) : Same H (upd H p o) := fun b u e => by
  rw [upd_ne (ne_of_none e h)]
  exact e
def spKnown : Sp := fun vs H Q _ => ∃ (k : Kd) (x : Str), vs = [.str k.str, .str x] ∧ IsTx x ∧ x ≠ "" ∧ ∀ H', Same H H' → Q (ov (kform k x)) H'
def spFit (K : PySem.W.Frag) : Sp := fun vs H Q _ => ∃ (k : Kd) (v : V), vs = [.str k.str, v] ∧
  ((∃ x, v = .str x ∧ x.length ≤ sizeLine ∧ ∀ H', Same H H' → Q (.bl (isTx x && (kform k x).isSome)) H') ∨ (NotStr K H v ∧ ∀ H', Same H H' → Q (.bl false) H'))
def spForm (K : PySem.W.Frag) : Sp := fun vs H Q _ => ∃ (k : Kd) (v : V), vs = [.str k.str, v] ∧
  ((∃ x, v = .str x ∧ x.length ≤ sizeLine ∧ ∀ H', Same H H' → Q (.bl (isTx x && decide (kform k x = some x))) H') ∨ (NotStr K H v ∧ ∀ H', Same H H' → Q (.bl false) H'))
/-- the order of forms -/
def lessF (k : Kd) (a b : Str) : Bool := if k = .number then decide (numVal (tl a) < numVal (tl b)) else decide (a.cps.toList < b.cps.toList)
def spLess : Sp := fun vs H Q _ => ∃ (k : Kd) (a b : Str), vs = [.str k.str, .str a, .str b] ∧ (k = .exact ∨ k = .number ∨ k = .text) ∧ IsTx a ∧ a ≠ "" ∧ IsTx b ∧ b ≠ "" ∧ kform k a = some a ∧ kform k b = some b ∧
  ∀ H', Same H H' → Q (.bl (lessF k a b)) H'
theorem NotStr.up {K : PySem.W.Frag} {H H' : Hp} {v : V} (e : Same H H') (h : NotStr K H v) : NotStr K H' v := by
  obtain ⟨t, ty, k⟩ := h
  refine ⟨t, ?_, k⟩
  cases ty with
  | base b =>
    refine .base ?_
    cases b with
    | non => exact .non
    | bl x => exact .bl x
    | int i => exact .int i
    | str x => exact .str x
    | flt x => exact .flt x
    | lst q => exact .lst (e _ _ q)
    | frz q => exact .frz (e _ _ q)
    | tup q => exact .tup (e _ _ q)
    | dK q => exact .dK (e _ _ q)
    | dT q => exact .dT (e _ _ q)
    | ins q cl ha hn htk hm => exact .ins (e _ _ q) cl ha hn htk hm
  | byt b => exact .byt b
  | set q => exact .set (e _ _ q)
  | kList q c => exact .kList q c
  | kTuple q c => exact .kTuple q c
  | kDict q c => exact .kDict q c
  | fTuple q => exact .fTuple (e _ _ q)
  | fDict q => exact .fDict (e _ _ q)
section
variable {P : Program} {w : World} {K : PySem.W.Frag} {mg : Str → Option Value} {base : Heap} {f : Addr} {fd : FuncData} {aK : Addr}
theorem kform_fits {k : Kd} (hk : k ≠ .text) (x : Str) : kform k x = if fitsX k x = true then some x else none := by
  cases k with
  | text => exact absurd rfl hk
  | exact => rfl
  | number => rfl
  | link => rfl
  | flag =>
    show (if x = "yes" ∨ x = "no" then some x else none) = if decide (x = "yes" ∨ x = "no") = true then some x else none
    by_cases h : x = "yes" ∨ x = "no"
    · rw [if_pos h, if_pos (decide_eq_true h)]
    · rw [if_neg h, if_neg (by rw [decide_eq_false h]; exact Bool.false_ne_true)]
theorem kk (k a : Kd) : decide (V.str k.str = V.str a.str) = decide (k = a) := by
  rw [Bool.eq_iff_iff, decide_eq_true_eq, decide_eq_true_eq]
  exact ⟨fun z => kd_inj.mp (by injection z), fun z => by rw [z]⟩
theorem ok_known_form (F : Fun K "known_form" "known_form" s_known_form f fd) (D_fits_exactly : Dfn P w K mg base "_fits_exactly" 4 ["kind", "text"] spFitsX) :
    FnOk P w K mg base CX0 5 f fd ["kind", "text"] spKnown := by
  refine F.ok sc_known_form (fun vs H Q E h => ?_) (fun cdv A outer s H vs Q E hr h => ?_)
  · obtain ⟨k, x, rfl, _⟩ := h
    rfl
  · obtain ⟨k, x, rfl, hx, hne, q⟩ := h
    have hl := hx.2
    refine ⟨_, (pss_cons (ps_if (pt_cmpR op_ne (pv 0) pe_str (nomark _)) (pss_one (ps_ret (pe_ifExp (pt_val (pe_d D_fits_exactly hr (by decide) (pa_cons (pv 0) (pa_cons (pv 1) pa_nil)))) (pv 1) pe_non))) pss_nil) (pss_cons (ps_set (i := 2) sc_known_form.nd rfl (Or.inl rfl) (pe_join pe_str (pe_words (pe_lower (pv 1))))) (pss_one (ps_ret (pe_ifExp (pt_cmpR op_ne (pv 2) pe_str (nomark _)) (pv 2) pe_non))))), ?_⟩
    refine ⟨_, rfl, rfl, _, rfl, ?_⟩
    rw [show decide (V.str k.str = V.str "text") = decide (k = .text) from kk k .text]
    by_cases hk : k = .text
    · subst hk
      refine iteF ?_
      -- ' '.join(text.lower().split())
      have hz : (Txt.lower x).length ≤ 100 := by
        rw [len_tl, tl_lower hx.1, List.length_map, ← len_tl]
        exact hl
      refine ⟨⟨_, rfl⟩, _, rfl, ⟨_, rfl⟩, _, rfl, rfl, by omega, ⟨_, rfl⟩, _, rfl, rfl, line_of (by omega), fun p hp => ?_⟩
      have hw : ((Txt.words (Txt.lower x)).map (·.length)).sum ≤ 1000 ∧ (Txt.words (Txt.lower x)).length ≤ 101 := by
        have e := words_tl (Txt.lower x)
        have e1 : (Txt.words (Txt.lower x)).map (·.length) = (wordsL (tl (Txt.lower x))).map List.length := by
          unfold wordsL
          rw [← e, List.map_map]
          refine List.map_congr_left fun a _ => ?_
          exact len_tl a
        have e2 := words_le (Txt.lower x)
        refine ⟨?_, by omega⟩
        rw [e1]
        have e3 := wfold_len (tl (Txt.lower x)) ([], [])
        have e4 : wsum ([] : List (List Nat)) = 0 := rfl
        simp only [e4, List.length_nil] at e3
        have e5 : ∀ ws : List (List Nat), (ws.map List.length).sum ≤ wsum ws := fun ws => by
          induction ws with
          | nil => exact Nat.le_refl _
          | cons a r ih =>
            have : wsum (a :: r) = (a.length + 1) + wsum r := by unfold wsum; simp
            rw [List.map_cons, List.sum_cons, this]
            omega
        have e6 := len_tl (Txt.lower x)
        have e7 := e5 ((tl (Txt.lower x)).foldl wstep ([], [])).1
        unfold wordsL wfin
        split
        · omega
        · rw [List.map_append, List.sum_append]
          show _ + ((List.foldl wstep ([], []) (tl (Txt.lower x))).2.length + 0) ≤ 1000
          omega
      refine ⟨" ", p, Txt.words (Txt.lower x), rfl, rfl, .inl (SqL.of upd_same), ?_, ?_⟩
      · have : (" " : Str).length = 1 := by decide +kernel
        rw [this]
        omega
      · refine ⟨_, rfl, rfl, _, rfl, ?_⟩
        have e9 : (!decide (V.str (Txt.join " " (Txt.words (Txt.lower x))) = V.str "")) = !decide (normS x = "") := by
          congr 1
          rw [Bool.eq_iff_iff, decide_eq_true_eq, decide_eq_true_eq]
          exact ⟨fun z => by injection z, fun z => by rw [← z]; rfl⟩
        rw [e9]
        have q1 := q _ (same_new hp (o := .lst ((Txt.words (Txt.lower x)).map V.str)))
        have q2 : Q (ov (if normS x = "" then none else some (normS x))) _ := q1
        by_cases z : normS x = ""
        · rw [if_pos z] at q2
          rw [decide_eq_true z]
          exact iteF q2
        · rw [if_neg z] at q2
          rw [decide_eq_false z]
          exact iteT ⟨_, rfl, q2⟩
    · rw [decide_eq_false hk]
      refine iteT ⟨_, rfl, _, rfl, k, x, rfl, hx, hne, fun H' e => ⟨_, rfl, ?_⟩⟩
      have q1 := q H' e
      rw [kform_fits hk] at q1
      cases z : fitsX k x with
      | true =>
        rw [z, if_pos rfl] at q1
        exact iteT ⟨_, rfl, q1⟩
      | false =>
        rw [z, if_neg Bool.false_ne_true] at q1
        exact iteF q1
theorem ok_form_of (F : Fun K "form_of" "form_of" s_form_of f fd) (D_need_kind : Dfn P w K mg base "_need_kind" 1 ["kind"] spNeed) (D_is_text : Dfn P w K mg base "is_text" 2 ["value"] (spIsText K))
    (D_known_form : Dfn P w K mg base "known_form" 5 ["kind", "text"] spKnown) : FnOk P w K mg base CX0 6 f fd ["kind", "text"] spKnown := by
  refine F.ok sc_form_of (fun vs H Q E h => ?_) (fun cdv A outer s H vs Q E hr h => ?_)
  · obtain ⟨k, x, rfl, _⟩ := h
    rfl
  · obtain ⟨k, x, rfl, hx, hne, q⟩ := h
    have hl := hx.2
    refine ⟨_, (pss_cons (ps_expr (pe_d D_need_kind hr (by decide) (pa_cons (pv 0) pa_nil))) (pss_cons (ps_if (pt_not (pt_val (pe_d D_is_text hr (by decide) (pa_cons (pv 1) pa_nil)))) (pss_one ps_never) pss_nil) (pss_one (ps_ret (pe_d D_known_form hr (by decide) (pa_cons (pv 0) (pa_cons (pv 1) pa_nil))))))), ?_⟩
    refine ⟨_, rfl, k, rfl, ?_⟩
    refine ⟨_, rfl, _, rfl, .inl ⟨x, rfl, line_of (by omega), _, rfl, ?_⟩⟩
    rw [(isTx_iff x).mpr ⟨hx, hne⟩]
    exact iteF ⟨_, rfl, _, rfl, k, x, rfl, hx, hne, q⟩
theorem ok_is_fit (F : Fun K "is_fit" "is_fit" s_is_fit f fd) (D_need_kind : Dfn P w K mg base "_need_kind" 1 ["kind"] spNeed) (D_is_text : Dfn P w K mg base "is_text" 2 ["value"] (spIsText K))
    (D_known_form : Dfn P w K mg base "known_form" 5 ["kind", "text"] spKnown) : FnOk P w K mg base CX0 6 f fd ["kind", "value"] (spFit K) := by
  refine F.ok sc_is_fit (fun vs H Q E h => ?_) (fun cdv A outer s H vs Q E hr h => ?_)
  · obtain ⟨k, v, rfl, _⟩ := h
    rfl
  · obtain ⟨k, v, rfl, h⟩ := h
    refine ⟨_, (pss_cons (ps_expr (pe_d D_need_kind hr (by decide) (pa_cons (pv 0) pa_nil))) (pss_one (ps_ret (pe_and (pe_d D_is_text hr (by decide) (pa_cons (pv 1) pa_nil)) (pe_one (pe_cmpR op_notN (pe_d D_known_form hr (by decide) (pa_cons (pv 0) (pa_cons (pv 1) pa_nil))) pe_non (nomark _))))))), ?_⟩
    refine ⟨_, rfl, k, rfl, ?_⟩
    rcases h with ⟨x, rfl, hl, q⟩ | ⟨ns, q⟩
    · refine ⟨_, rfl, _, rfl, .inl ⟨x, rfl, hl, _, rfl, ?_⟩⟩
      cases e : isTx x with
      | false =>
        rw [e] at q
        exact iteF (q H (Same.refl H))
      | true =>
        rw [e] at q
        obtain ⟨hx, hne⟩ := (isTx_iff x).mp e
        refine iteT ⟨_, rfl, _, rfl, k, x, rfl, hx, hne, fun H' e' => ⟨rfl, ?_⟩⟩
        have q1 := q H' e'
        cases z : kform k x with
        | none =>
          rw [z] at q1
          exact q1
        | some y =>
          rw [z] at q1
          exact q1
    · exact ⟨_, rfl, _, rfl, .inr ⟨ns, _, rfl, iteF (q H (Same.refl H))⟩⟩
theorem scal_ov (o : Option Str) (x : Str) : scal (ov o) (.str x) = true := by cases o <;> rfl
theorem dec_ov (o : Option Str) (x : Str) : decide (ov o = V.str x) = decide (o = some x) := by
  rw [Bool.eq_iff_iff, decide_eq_true_eq, decide_eq_true_eq]
  exact ov_inj (b := some x)
theorem ok_is_form (F : Fun K "is_form" "is_form" s_is_form f fd) (D_need_kind : Dfn P w K mg base "_need_kind" 1 ["kind"] spNeed) (D_is_text : Dfn P w K mg base "is_text" 2 ["value"] (spIsText K))
    (D_known_form : Dfn P w K mg base "known_form" 5 ["kind", "text"] spKnown) : FnOk P w K mg base CX0 6 f fd ["kind", "value"] (spForm K) := by
  refine F.ok sc_is_form (fun vs H Q E h => ?_) (fun cdv A outer s H vs Q E hr h => ?_)
  · obtain ⟨k, v, rfl, _⟩ := h
    rfl
  · obtain ⟨k, v, rfl, h⟩ := h
    refine ⟨_, (pss_cons (ps_expr (pe_d D_need_kind hr (by decide) (pa_cons (pv 0) pa_nil))) (pss_one (ps_ret (pe_and (pe_d D_is_text hr (by decide) (pa_cons (pv 1) pa_nil)) (pe_one (pe_cmpR op_eq (pe_d D_known_form hr (by decide) (pa_cons (pv 0) (pa_cons (pv 1) pa_nil))) (pv 1) (nomark _))))))), ?_⟩
    refine ⟨_, rfl, k, rfl, ?_⟩
    rcases h with ⟨x, rfl, hl, q⟩ | ⟨ns, q⟩
    · refine ⟨_, rfl, _, rfl, .inl ⟨x, rfl, hl, _, rfl, ?_⟩⟩
      cases e : isTx x with
      | false =>
        rw [e] at q
        exact iteF (q H (Same.refl H))
      | true =>
        rw [e] at q
        obtain ⟨hx, hne⟩ := (isTx_iff x).mp e
        refine iteT ⟨_, rfl, _, rfl, k, x, rfl, hx, hne, fun H' e' => ⟨_, rfl, scal_ov _ _, ?_⟩⟩
        rw [dec_ov]
        exact q H' e'
    · exact ⟨_, rfl, _, rfl, .inr ⟨ns, _, rfl, iteF (q H (Same.refl H))⟩⟩
end
end Bw

set_option exponentiation.threshold 4000
namespace Bw
open PySem PySem.Spec L2 TL PyProof.Rows
open NumText (AllDigits digitsVal)

/-! ### the law's dice -/
def DiceAt (H : Hp) (d : Addr) : Prop := ∃ a b c : Int, H d = some (.lst [.int a, .int b, .int c])
/-- all but the dice is as it was -/
def Moved (d : Addr) (H H' : Hp) : Prop := (∀ b o, b ≠ d → H b = some o → H' b = some o) ∧ DiceAt H' d
theorem Moved.trans {d : Addr} {H H1 H2 : Hp} (a : Moved d H H1) (b : Moved d H1 H2) : Moved d H H2 := ⟨fun x o n h => b.1 x o n (a.1 x o n h), b.2⟩
theorem Moved.same {d : Addr} {H H1 : Hp} (h : DiceAt H d) (a : Same H H1) : Moved d H H1 := ⟨fun x o _ h => a x o h, by
  obtain ⟨x, y, z, e⟩ := h
  exact ⟨x, y, z, a _ _ e⟩⟩
theorem Moved.refl {d : Addr} {H : Hp} (h : DiceAt H d) : Moved d H H := Moved.same h (Same.refl H)
theorem DiceAt.same {d : Addr} {H H1 : Hp} (h : DiceAt H d) (a : Same H H1) : DiceAt H1 d := (Moved.same h a).2
theorem DiceAt.ne {d p : Addr} {H : Hp} (h : DiceAt H d) (hp : H p = none) : d ≠ p := by
  obtain ⟨x, y, z, e⟩ := h
  exact ne_of_none e hp
theorem moved_upd {d : Addr} {H : Hp} {a b c : Int} : Moved d H (upd H d (.lst [.int a, .int b, .int c])) := ⟨fun x o n h => by rw [upd_ne n]; exact h, a, b, c, upd_same⟩

def spDice (K : PySem.W.Frag) : Sp := fun vs H Q _ => ∃ (a : Addr) (ns : List Int) (i : Nat), vs = [.ref a, .int i] ∧ SqL K H a (ns.map V.int) ∧
  ∀ p H', H p = none → Same H H' → DiceAt H' p → Q (.ref p) H'
def spRoll : Sp := fun vs H Q _ => ∃ (d : Addr) (n : Int), vs = [.ref d, .int n] ∧ 0 < n ∧ n < 1000000000 ∧ DiceAt H d ∧
  ∀ (r : Int) H', 0 ≤ r → r < n → Moved d H H' → Q (.int r) H'
def spOne : Sp := fun vs H Q _ => ∃ (d l : Addr) (xs : List V), vs = [.ref d, .ref l] ∧ H l = some (.lst xs) ∧ l ≠ d ∧ xs ≠ [] ∧ xs.length < 1000000000 ∧ DiceAt H d ∧
  ∀ v H', v ∈ xs → Moved d H H' → Q v H'
section
variable {P : Program} {w : World} {K : PySem.W.Frag} {mg : Str → Option Value} {base : Heap} {f : Addr} {fd : FuncData} {aK : Addr}
theorem pow60 : ((10 : Int) ^ (60 : Int).toNat) = 10 ^ 60 := rfl
theorem ok_law_dice (F : Fun K "_law_dice" "_law_dice" s_law_dice f fd) (T : Txt K mg aK) : FnOk P w K mg base CX0 1 f fd ["_law_script", "_law_at"] (spDice K) := by
  refine F.ok sc_law_dice (fun vs H Q E h => ?_) (fun cdv A outer s H vs Q E hr h => ?_)
  · obtain ⟨a, ns, i, rfl, _⟩ := h
    rfl
  · obtain ⟨a, ns, i, rfl, hS, q⟩ := h
    refine ⟨_, (pss_cons (ps_set (i := 2) sc_law_dice.nd rfl (Or.inl rfl) (pe_op op_add (pe_op op_mul pe_int (pv 1)) pe_int)) (pss_cons (ps_if (pt_cmpR op_lt (pv 1) (pe_callB call_len_seq (by rfl) T.b_len (by decide +kernel) (pa_cons (pv 0) pa_nil)) (nomark _)) (pss_one (ps_set (i := 2) sc_law_dice.nd rfl (Or.inl rfl) (pe_ix ix_list (pv 0) (pv 1) (fun _ _ => rfl)))) pss_nil) (pss_cons (ps_set (i := 3) sc_law_dice.nd rfl (Or.inl rfl) (pe_op op_mod (pe_callTy call_int1 (by rfl) T.b_int (by decide +kernel) (pa_cons (pe_callB call_abs (by rfl) T.b_abs (by decide +kernel) (pa_cons (pv 2) pa_nil)) pa_nil)) (pe_op op_powW (pe_op op_pow pe_int pe_int) pe_int))) (pss_cons (ps_set (i := 4) sc_law_dice.nd rfl (Or.inl rfl) (pe_op op_fdivW (pv 3) (pe_op op_pow pe_int pe_int))) (pss_cons (ps_set (i := 5) sc_law_dice.nd rfl (Or.inl rfl) (pe_op op_add (pe_op op_add (pe_op op_add (pe_op op_mul (pe_op op_mod (pv 3) pe_int) pe_int) (pe_op op_mul pe_int (pv 1))) (pe_op op_mul pe_int (pe_callTy call_int1 (by rfl) T.b_int (by decide +kernel) (pa_cons (pe_cmpR op_lt (pv 2) pe_int (nomark _)) pa_nil)))) pe_int)) (pss_one (ps_ret (pe_lst (pa_cons (pv 4) (pa_cons (pe_op op_mod (pv 5) pe_int) (pa_cons pe_int pa_nil))))))))))), ?_⟩
    refine ⟨_, rfl, _, _, rfl, rfl, .inl ⟨by decide, by decide⟩, _, _, rfl, rfl, ?_⟩
    refine ⟨_, rfl, _, rfl, a, _, rfl, .inl hS, _, _, rfl, rfl, _, rfl, ?_⟩
    have hp60 : CPow 10 60 := ⟨by decide, by decide, by decide⟩
    have hp18 : CPow 10 18 := ⟨by decide, by decide, by decide⟩
    have hpW : CPowW ((10 : Int) ^ (60 : Int).toNat) 10 := ⟨by decide, by decide +kernel⟩
    have hps : (0 : Int) < ((10 : Int) ^ (60 : Int).toNat) ^ (10 : Int).toNat := by decide +kernel
    have hdW : ∀ g : Int, CDivW g ((10 : Int) ^ (18 : Int).toNat) := fun g => ⟨by decide +kernel, by decide +kernel⟩
    refine ite2 (fun hc => ?_) (fun _ => ?_)
    · have hlt : i < ns.length := by
        have := of_decide_eq_true hc
        rw [List.length_map] at this
        omega
      refine ⟨_, rfl, _, rfl, a, _, _, _, rfl, rfl, hS, atI_nat (j := i) (v := .int ns[i]) (by simp [hlt]), ?_⟩
      refine ⟨_, rfl, _, rfl, .inl ⟨_, rfl, _, _, rfl, rfl, hp60, _, _, rfl, rfl, hpW, _, _, rfl, rfl, hps, ?_⟩⟩
      refine ⟨_, rfl, _, _, rfl, rfl, hp18, _, _, rfl, rfl, hdW _, ?_⟩
      refine ⟨_, rfl, _, _, rfl, rfl, (by show (0 : Int) < 2147482763; decide), _, _, rfl, rfl, .inr ⟨by decide, by decide⟩, _, rfl, _, _, rfl, rfl, .inl ⟨by decide, by decide⟩, _, _, rfl, rfl, _, rfl, _, _, rfl, rfl, .inr ⟨_, rfl, _, _, rfl, rfl, .inl ⟨by decide, by decide⟩, _, _, rfl, rfl, _, _, rfl, rfl, ?_⟩⟩
      exact ⟨_, rfl, _, rfl, _, _, rfl, rfl, (by show (0 : Int) < 2147482739; decide), (by show 3 ≤ sizeLine; decide), fun p hp => q p _ hp (same_new hp) ⟨_, _, _, upd_same⟩⟩
    · refine ⟨_, rfl, _, rfl, .inl ⟨_, rfl, _, _, rfl, rfl, hp60, _, _, rfl, rfl, hpW, _, _, rfl, rfl, hps, ?_⟩⟩
      refine ⟨_, rfl, _, _, rfl, rfl, hp18, _, _, rfl, rfl, hdW _, ?_⟩
      refine ⟨_, rfl, _, _, rfl, rfl, (by show (0 : Int) < 2147482763; decide), _, _, rfl, rfl, .inr ⟨by decide, by decide⟩, _, rfl, _, _, rfl, rfl, .inl ⟨by decide, by decide⟩, _, _, rfl, rfl, _, rfl, _, _, rfl, rfl, .inr ⟨_, rfl, _, _, rfl, rfl, .inl ⟨by decide, by decide⟩, _, _, rfl, rfl, _, _, rfl, rfl, ?_⟩⟩
      exact ⟨_, rfl, _, rfl, _, _, rfl, rfl, (by show (0 : Int) < 2147482739; decide), (by show 3 ≤ sizeLine; decide), fun p hp => q p _ hp (same_new hp) ⟨_, _, _, upd_same⟩⟩
theorem emod_nn (a : Int) {n : Int} (h : 0 < n) : 0 ≤ a % n ∧ a % n < n := ⟨Int.emod_nonneg a (by omega), Int.emod_lt_of_pos a h⟩
theorem ok_law_roll (F : Fun K "_law_roll" "_law_roll" s_law_roll f fd) (T : Txt K mg aK) : FnOk P w K mg base CX0 1 f fd ["_law_dice_here", "_law_total"] spRoll := by
  refine F.ok sc_law_roll (fun vs H Q E h => ?_) (fun cdv A outer s H vs Q E hr h => ?_)
  · obtain ⟨d, n, rfl, _⟩ := h
    rfl
  · obtain ⟨d, n, rfl, h0, h1, ⟨a, b, c, hd⟩, q⟩ := h
    refine ⟨_, (pss_cons (ps_set (i := 2) sc_law_roll.nd rfl (Or.inl rfl) (pe_callTy call_int1 (by rfl) T.b_int (by decide +kernel) (pa_cons (pv 1) pa_nil))) (pss_cons (ps_if (pt_cmpR op_gt (pe_ix ix_list (pv 0) pe_int (fun _ _ => rfl)) pe_int (nomark _)) (pss_cons (ps_set (i := 3) sc_law_roll.nd rfl (Or.inl rfl) (pe_op op_mod (pe_ix ix_list (pv 0) pe_int (fun _ _ => rfl)) (pv 2))) (pss_cons (ps_asg (pe_op op_fdiv (pe_ix ix_list (pv 0) pe_int (fun _ _ => rfl)) (pv 2)) (pg_sub (pv 0) pe_int set_list)) (pss_one (ps_ret (pe_callTy call_int1 (by rfl) T.b_int (by decide +kernel) (pa_cons (pv 3) pa_nil)))))) pss_nil) (pss_cons (ps_asg (pe_op op_add (pe_ix ix_list (pv 0) pe_int (fun _ _ => rfl)) pe_int) (pg_sub (pv 0) pe_int set_list)) (pss_cons (ps_set (i := 4) sc_law_roll.nd rfl (Or.inl rfl) (pe_op op_mod (pe_op op_add (pe_ix ix_list (pv 0) pe_int (fun _ _ => rfl)) (pe_op op_mul pe_int (pe_ix ix_list (pv 0) pe_int (fun _ _ => rfl)))) pe_int)) (pss_cons (ps_set (i := 5) sc_law_roll.nd rfl (Or.inl rfl) (pe_op op_add (pe_op op_mul (pe_op op_mod (pe_op op_mul (pv 4) (pv 4)) pe_int) (pv 4)) (pe_op op_mul pe_int (pe_ix ix_list (pv 0) pe_int (fun _ _ => rfl))))) (pss_cons (ps_set (i := 5) sc_law_roll.nd rfl (Or.inl rfl) (pe_op op_mod (pv 5) pe_int)) (pss_one (ps_ret (pe_callTy call_int1 (by rfl) T.b_int (by decide +kernel) (pa_cons (pe_op op_mod (pe_op op_fdiv (pv 5) pe_int) (pv 2)) pa_nil)))))))))), ?_⟩
    refine ⟨_, rfl, .inl ⟨_, rfl, ?_⟩⟩
    refine ⟨_, rfl, d, _, _, _, rfl, rfl, SqL.of hd, atI_nat (j := 0) rfl, _, _, rfl, rfl, _, rfl, ?_⟩
    refine ite2 (fun hc => ?_) (fun _ => ?_)
    · refine ⟨_, rfl, d, _, _, _, rfl, rfl, SqL.of hd, atI_nat (j := 0) rfl, _, rfl, _, _, rfl, rfl, h0, ?_⟩
      refine ⟨_, rfl, d, _, _, _, rfl, rfl, SqL.of hd, atI_nat (j := 0) rfl, _, rfl, _, _, rfl, rfl, ⟨h0, by omega⟩, ?_⟩
      refine ⟨_, rfl, d, _, _, 0, rfl, rfl, hd, rfl, ?_⟩
      obtain ⟨e1, e2⟩ := emod_nn a h0
      exact ⟨_, rfl, .inl ⟨_, rfl, q _ _ e1 e2 moved_upd⟩⟩
    · refine ⟨_, rfl, d, _, _, _, rfl, rfl, SqL.of hd, atI_nat (j := 2) rfl, _, _, rfl, rfl, ?_⟩
      refine ⟨_, rfl, d, _, _, 2, rfl, rfl, hd, rfl, ?_⟩
      have hd2 : upd H d (.lst [.int a, .int b, .int (c + 1)]) d = some (.lst [.int a, .int b, .int (c + 1)]) := upd_same
      refine ⟨_, rfl, d, _, _, _, rfl, rfl, SqL.of upd_same, atI_nat (j := 1) rfl, _, rfl, d, _, _, _, rfl, rfl, SqL.of upd_same, atI_nat (j := 2) rfl, _, _, rfl, rfl, .inl ⟨by decide, by decide⟩, _, _, rfl, rfl, _, _, rfl, rfl, (by show (0 : Int) < 2305843009213693951; decide), ?_⟩
      obtain ⟨e1, e2⟩ := emod_nn (b + 1000357 * (c + 1)) (n := 2305843009213693951) (by decide)
      refine ⟨_, rfl, _, rfl, _, _, rfl, rfl, .inl ⟨by omega, by omega⟩, _, _, rfl, rfl, (by show (0 : Int) < 2305843009213693921; decide), _, rfl, _, _, rfl, rfl, .inr ⟨by omega, by omega⟩, _, rfl, d, _, _, _, rfl, rfl, SqL.of upd_same, atI_nat (j := 2) rfl, _, _, rfl, rfl, .inl ⟨by decide, by decide⟩, _, _, rfl, rfl, ?_⟩
      refine ⟨_, rfl, _, _, rfl, rfl, (by show (0 : Int) < 2305843009213693907; decide), ?_⟩
      refine ⟨_, rfl, _, _, rfl, rfl, ⟨by decide, by decide⟩, _, rfl, _, _, rfl, rfl, h0, .inl ⟨_, rfl, ?_⟩⟩
      exact q _ _ (emod_nn _ h0).1 (emod_nn _ h0).2 moved_upd
theorem ok_law_one_of (F : Fun K "_law_one_of" "_law_one_of" s_law_one_of f fd) (T : Txt K mg aK) (D_law_roll : Dfn P w K mg base "_law_roll" 1 ["_law_dice_here", "_law_total"] spRoll) :
    FnOk P w K mg base CX0 2 f fd ["_law_dice_here", "_law_items"] spOne := by
  refine F.ok sc_law_one_of (fun vs H Q E h => ?_) (fun cdv A outer s H vs Q E hr h => ?_)
  · obtain ⟨d, l, xs, rfl, _⟩ := h
    rfl
  · obtain ⟨d, l, xs, rfl, hl, nld, hne, hlen, hd, q⟩ := h
    have hpos : 0 < xs.length := List.length_pos_iff.mpr hne
    refine ⟨_, (pss_one (ps_ret (pe_ix ix_list (pv 1) (pe_d D_law_roll hr (by decide) (pa_cons (pv 0) (pa_cons (pe_callB call_len_seq (by rfl) T.b_len (by decide +kernel) (pa_cons (pv 1) pa_nil)) pa_nil))) (fun _ _ => rfl)))), ?_⟩
    refine ⟨_, rfl, _, rfl, _, rfl, l, _, rfl, .inl (SqL.of hl), d, _, rfl, by omega, by omega, hd, fun r H1 r0 r1 mv => ?_⟩
    obtain ⟨j, rfl⟩ := Int.eq_ofNat_of_zero_le r0
    have hj : j < xs.length := by omega
    exact ⟨l, xs, _, xs[j], rfl, rfl, SqL.of (mv.1 l _ nld hl), atI_nat (by simp [hj]), q _ _ (List.getElem_mem hj) mv⟩
end
end Bw

namespace Bw
open PySem PySem.Spec L2 TL PyProof.Rows

/-! ### patterns -/
theorem szl {n : Nat} (h : n ≤ 1000) : n < sizeLine := by
  have : (1000 : Nat) < sizeLine := by decide
  omega
/-- no tuple at all -/
def NotTup (K : PySem.W.Frag) (H : Hp) (v : V) : Prop := ∃ t, TyX K H v t ∧ PySem.W.kitOne K t (.type "tuple") = some false
/-- a text of few signs, or None -/
def Sc (v : V) : Prop := (∃ x, v = .str x ∧ x.length ≤ 1000) ∨ v = .non
def pcB : V → Bool
  | .str x => isTx x || decide (x = "")
  | _ => false
def txB : V → Bool
  | .str x => isTx x
  | _ => false
def patB (f : V) (ys : List V) (l : V) : Bool := (pcB f && pcB l) && (decide (ys.length ≤ 8) && (ys.all txB && !(decide (f = .str "") && (decide (ys = []) && decide (l = .str "")))))
def spPiece : Sp := fun vs H Q _ => ∃ v, vs = [v] ∧ Sc v ∧ Q (.bl (pcB v)) H
def spIsPat (K : PySem.W.Frag) : Sp := fun vs H Q _ => ∃ v, vs = [v] ∧
  ((NotTup K H v ∧ Q (.bl false) H) ∨
  (∃ a xs, v = .ref a ∧ H a = some (.tup xs) ∧ xs.length ≠ 3 ∧ xs.length ≤ 1000 ∧ Q (.bl false) H) ∨
  (∃ a f m l, v = .ref a ∧ H a = some (.tup [f, m, l]) ∧ Sc f ∧ Sc l ∧
    ((NotTup K H m ∧ Q (.bl false) H) ∨ ∃ b ys, m = .ref b ∧ H b = some (.tup ys) ∧ (∀ y ∈ ys, Sc y) ∧ ys.length ≤ 1000 ∧ ∀ H', Same H H' → Q (.bl (patB f ys l)) H')))
theorem strOk_sgn {x : Str} (h : Sgn (tl x)) : PyData.strOk x = true := by
  unfold PyData.strOk
  rw [← Array.all_toList, List.all_eq_true]
  intro c hc
  have := h c hc
  exact decide_eq_true (by omega)
theorem pc_str {v : V} (h : pcB v = true) : ∃ x, v = .str x ∧ Sgn (tl x) := by
  cases v with
  | str x =>
    have h : (isTx x || decide (x = "")) = true := h
    rw [Bool.or_eq_true, decide_eq_true_eq] at h
    refine ⟨x, rfl, ?_⟩
    rcases h with h | h
    · exact ((isTx_iff x).mp h).1.1
    · rw [h]
      intro c hc
      rw [show tl ("" : Str) = [] by decide +kernel] at hc
      cases hc
  | _ => cases h
theorem tx_strs : ∀ {ys : List V}, ys.all txB = true → ∃ zs : List Str, ys = zs.map V.str ∧ ∀ z ∈ zs, IsTx z ∧ z ≠ ""
  | [], _ => ⟨[], rfl, fun _ z => nomatch z⟩
  | v :: r, h => by
    rw [List.all_cons, Bool.and_eq_true] at h
    obtain ⟨zs, rfl, hz⟩ := tx_strs h.2
    cases v with
    | str x =>
      refine ⟨x :: zs, rfl, fun z hz2 => ?_⟩
      rcases List.mem_cons.mp hz2 with rfl | hz2
      · exact (isTx_iff _).mp h.1
      · exact hz z hz2
    | _ => cases h.1
def patD (f : Str) (zs : List Str) (l : Str) : PyData := .tuple [.str f, .tuple (zs.map PyData.str), .str l]
theorem dp_strs {K : PySem.W.Frag} {H : Hp} : ∀ zs : List Str, DpAll K H (zs.map V.str) (zs.map PyData.str)
  | [] => .nil
  | z :: r => .cons (.str z) (dp_strs r)
theorem dp_pat {K : PySem.W.Frag} {H : Hp} {a b : Addr} {f l : Str} {zs : List Str} (ha : H a = some (.tup [.str f, .ref b, .str l])) (hb : H b = some (.tup (zs.map V.str))) : Dp K H (.ref a) (patD f zs l) :=
  .tup (SqT.of ha) (.cons (.str _) (.cons (.tup (SqT.of hb) (dp_strs zs)) (.cons (.str _) .nil)))
theorem lay_strs : ∀ {zs : List Str}, (∀ z ∈ zs, IsTx z ∧ z ≠ "") → PyData.canLayAll0 (zs.map PyData.str) = true
  | [], _ => rfl
  | z :: r, h => by
    have h1 := (h z (List.mem_cons_self ..)).1.1
    have ih := lay_strs (zs := r) fun q hq => h q (List.mem_cons_of_mem _ hq)
    simp only [List.map_cons, PyData.canLayAll0, PyData.canLay0, strOk_sgn h1, ih, Bool.and_self]
theorem depth_strs : ∀ zs : List Str, PyData.depthAll (zs.map PyData.str) ≤ 4
  | [] => by simp [PyData.depthAll]
  | z :: r => by
    have := depth_strs r
    simp only [List.map_cons, PyData.depthAll, PyData.depth]
    omega
theorem shaped_pat {f l : Str} {zs : List Str} (hf : Sgn (tl f)) (hz : ∀ z ∈ zs, IsTx z ∧ z ≠ "") (hl : Sgn (tl l)) : SeqAt.shaped (patD f zs l) = true := by
  unfold SeqAt.shaped patD
  rw [Bool.and_eq_true]
  refine ⟨?_, decide_eq_true ?_⟩
  · simp only [PyData.canLay0, PyData.canLayAll0, strOk_sgn hf, strOk_sgn hl, lay_strs hz, Bool.and_self]
  · have := depth_strs zs
    simp only [PyData.depth, PyData.depthAll]
    omega
theorem eqv_strs : ∀ a b : List Str, PyData.eqvAll (a.map PyData.str) (b.map PyData.str) = decide (a = b)
  | [], [] => by simp [PyData.eqvAll]
  | [], _ :: _ => by simp [PyData.eqvAll]
  | _ :: _, [] => by simp [PyData.eqvAll]
  | x :: r, y :: t => by
    have ih := eqv_strs r t
    simp only [List.map_cons, PyData.eqvAll, PyData.eqv, ih]
    rw [Bool.eq_iff_iff]
    simp
theorem eqv_pat (f g l m : Str) (a b : List Str) : PyData.eqv (patD f a l) (patD g b m) = decide (f = g ∧ a = b ∧ l = m) := by
  simp only [patD, PyData.eqv, PyData.eqvAll, eqv_strs]
  rw [Bool.eq_iff_iff]
  simp
theorem notStr_non {K : PySem.W.Frag} {H : Hp} : NotStr K H .non := ⟨_, .base .non, kit_ty (by decide +kernel)⟩
section
variable {P : Program} {w : World} {K : PySem.W.Frag} {mg : Str → Option Value} {base : Heap} {f : Addr} {fd : FuncData} {aK : Addr}
theorem ok_is_piece (F : Fun K "_is_piece" "_is_piece" s_is_piece f fd) (T : Txt K mg aK) (D_is_text : Dfn P w K mg base "is_text" 2 ["value"] (spIsText K)) : FnOk P w K mg base CX0 3 f fd ["value"] spPiece := by
  refine F.ok sc_is_piece (fun vs H Q E h => ?_) (fun cdv A outer s H vs Q E hr h => ?_)
  · obtain ⟨v, rfl, _⟩ := h
    rfl
  · obtain ⟨v, rfl, sc, q⟩ := h
    refine ⟨_, (pss_one (ps_ret (pe_or (pe_d D_is_text hr (by decide) (pa_cons (pv 0) pa_nil)) (pe_one (pe_cmpR op_eq (pv 0) pe_str (nomark _)))))), ?_⟩
    rcases sc with ⟨x, rfl, hl⟩ | rfl
    · refine ⟨_, rfl, _, rfl, .inl ⟨x, rfl, line_of (by omega), ?_⟩⟩
      have q : Q (.bl (isTx x || decide (x = ""))) H := q
      cases e : isTx x with
      | true =>
        rw [e] at q
        exact ⟨_, rfl, iteT q⟩
      | false =>
        rw [e, Bool.false_or] at q
        refine ⟨_, rfl, iteF ⟨_, rfl, rfl, ?_⟩⟩
        have e2 : decide (V.str x = V.str "") = decide (x = "") := by
          rw [Bool.eq_iff_iff, decide_eq_true_eq, decide_eq_true_eq]
          exact ⟨fun z => by injection z, fun z => by rw [z]⟩
        rw [e2]
        exact q
    · exact ⟨_, rfl, _, rfl, .inr ⟨notStr_non, _, rfl, iteF ⟨_, rfl, rfl, q⟩⟩⟩
theorem ok_is_pattern (F : Fun K "is_pattern" "is_pattern" s_is_pattern f fd) (T : Txt K mg aK) (D_is_text : Dfn P w K mg base "is_text" 2 ["value"] (spIsText K)) (D_is_piece : Dfn P w K mg base "_is_piece" 3 ["value"] spPiece) :
    FnOk P w K mg base CX0 4 f fd ["value"] (spIsPat K) := by
  obtain ⟨t0, gM⟩ := T.g_middles
  refine F.ok sc_is_pattern (fun vs H Q E h => ?_) (fun cdv A outer s H vs Q E hr h => ?_)
  · obtain ⟨v, rfl, _⟩ := h
    rfl
  · obtain ⟨v, rfl, h⟩ := h
    refine ⟨_, (pss_cons (ps_if (PW.pt (pw_or (pt_not (pt_val (pe_callB call_isi (by rfl) T.b_isinstance (by decide +kernel) (pa_cons (pv 0) (pa_cons (pe_bltn (v := .ty "tuple") (by rfl) T.b_tuple (by decide +kernel) rfl) pa_nil))))) (pw_or1 (pt_cmpR op_ne (pe_callB call_len_seq (by rfl) T.b_len (by decide +kernel) (pa_cons (pv 0) pa_nil)) pe_int (nomark _))))) (pss_one (ps_ret pe_bl)) pss_nil) (pss_cons (ps_asg (pv 0) (pg_tup (by rfl) (pgs_cons (pg_name (i := 1) sc_is_pattern.nd rfl (Or.inl rfl)) (pgs_cons (pg_name (i := 2) sc_is_pattern.nd rfl (Or.inl rfl)) (pgs_cons (pg_name (i := 3) sc_is_pattern.nd rfl (Or.inl rfl)) pgs_nil))))) (pss_cons (ps_if (PW.pt (pw_or (pt_not (pt_val (pe_d D_is_piece hr (by decide) (pa_cons (pv 1) pa_nil)))) (pw_or1 (pt_not (pt_val (pe_d D_is_piece hr (by decide) (pa_cons (pv 3) pa_nil))))))) (pss_one (ps_ret pe_bl)) pss_nil) (pss_cons (ps_if (PW.pt (pw_or (pt_not (pt_val (pe_callB call_isi (by rfl) T.b_isinstance (by decide +kernel) (pa_cons (pv 2) (pa_cons (pe_bltn (v := .ty "tuple") (by rfl) T.b_tuple (by decide +kernel) rfl) pa_nil))))) (pw_or1 (pt_cmpR op_gt (pe_callB call_len_seq (by rfl) T.b_len (by decide +kernel) (pa_cons (pv 2) pa_nil)) (pe_glob (v := .int 8) rfl gM ⟨_, rfl⟩) (nomark _))))) (pss_one (ps_ret pe_bl)) pss_nil) (pss_one (ps_ret (pe_and (pe_callB (cr_all rfl) (by rfl) T.b_all (by decide +kernel) (pa_cons (pe_lc (own := [("piece", 4)]) (g := gName 4) (by rfl) sc_is_pattern.nd (pi_tup (pv 2)) (blkOk_by (own := [("piece", 4)]) (N := n_is_pattern) (sc := defScope s_is_pattern) (by decide +kernel)) (fun _ _ _ _ _ => pg_name (i := 4) sc_is_pattern.nd rfl (Or.inl rfl)) (fun _ _ _ _ _ => pts_nil) (fun _ _ _ _ _ => (pe_d D_is_text hr (by decide) (pa_cons (pv 4) pa_nil)))) pa_nil)) (pe_one (pe_cmpR (op_neD hr.units) (pv 0) (pe_tup (pa_cons pe_str (pa_cons (pe_tup pa_nil) (pa_cons pe_str pa_nil)))) (nomark _)))))))))), ?_⟩
    rcases h with ⟨⟨t, ty, kt⟩, q⟩ | ⟨a, xs, rfl, ha, hn, hl, q⟩ | ⟨a, f, m, l, rfl, ha, cf, cl, h⟩
    · exact ⟨_, rfl, _, _, _, _, false, rfl, ClsV.ty "tuple", ty, kt, false, rfl, iteT q⟩
    · refine ⟨_, rfl, _, _, _, _, true, rfl, ClsV.ty "tuple", TyX.base (.tup ha), kit_ty (by decide +kernel), true, rfl, iteF ?_⟩
      refine ⟨_, rfl, a, _, rfl, .inr (SqT.of ha), rfl, _, rfl, ?_⟩
      rw [show decide (V.int ((xs.length : Nat) : Int) = V.int 3) = false from decide_eq_false (fun z => by injection z with z; omega)]
      exact iteT q
    · refine ⟨_, rfl, _, _, _, _, true, rfl, ClsV.ty "tuple", TyX.base (.tup ha), kit_ty (by decide +kernel), true, rfl, iteF ?_⟩
      refine ⟨_, rfl, a, _, rfl, .inr (SqT.of ha), rfl, _, rfl, iteF ?_⟩
      refine ⟨_, rfl, a, _, rfl, SqT.of ha, rfl, _, _, rfl, _, _, rfl, _, _, rfl, rfl, ?_⟩
      have out : (pcB f && pcB l) = false → Q (.bl false) H := fun o => by
        rcases h with ⟨_, q⟩ | ⟨b, ys, rfl, hb, _, _, q⟩
        · exact q
        · have := q H (Same.refl H)
          unfold patB at this
          rw [o, Bool.false_and] at this
          exact this
      refine ⟨_, rfl, f, rfl, cf, pcB f, rfl, ?_⟩
      cases ef : pcB f with
      | false => exact iteT (iteT (out (by rw [ef]; rfl)))
      | true =>
        refine iteF ⟨_, rfl, l, rfl, cl, pcB l, rfl, ?_⟩
        cases el : pcB l with
        | false => exact iteT (out (by rw [ef, el]; rfl))
        | true =>
          refine iteF ?_
          rcases h with ⟨⟨t, ty, kt⟩, q⟩ | ⟨b, ys, rfl, hb, cy, hl, q⟩
          · exact ⟨_, rfl, _, _, _, _, false, rfl, ClsV.ty "tuple", ty, kt, false, rfl, iteT (iteT q)⟩
          · refine ⟨_, rfl, _, _, _, _, true, rfl, ClsV.ty "tuple", TyX.base (.tup hb), kit_ty (by decide +kernel), true, rfl, iteF ?_⟩
            refine ⟨_, rfl, b, _, rfl, .inr (SqT.of hb), _, _, rfl, rfl, _, rfl, ?_⟩
            by_cases h8 : ys.length ≤ 8
            · rw [show decide ((8 : Int) < ((ys.length : Nat) : Int)) = false from decide_eq_false (by omega)]
              refine iteF ?_
              refine ⟨_, rfl, b, rfl, ⟨_, SqT.of hb⟩, fun D hD => lc_it (walk_tup (K := K) (a := b) (xs := ys)) (fun i H' => Same H H' ∧ H' D = some (.lst (((ys.take i).map txB).map V.bl))) ⟨same_new hD, upd_same⟩ (fun i H' _ h => SqT.of (h.1 _ _ hb)) ?_ ?_⟩
              · rintro i v H1 H2 hi ⟨sm, hH⟩ ⟨rfl, hv⟩
                refine ⟨rfl, ?_⟩
                unfold tYes
                have fin : ∃ acc, H2 D = some (.lst acc) ∧ acc.length < sizeLine ∧ Same H (upd H2 D (.lst (acc ++ [V.bl (txB v)]))) ∧ upd H2 D (.lst (acc ++ [V.bl (txB v)])) D = some (.lst (((ys.take (i + 1)).map txB).map V.bl)) := by
                  refine ⟨_, hH, ?_, fun b o hb => ?_, ?_⟩
                  · rw [List.length_map, List.length_map]
                    have := List.length_take_le i ys
                    exact szl (by omega)
                  · rw [upd_ne (ne_of_none hb hD)]
                    exact sm b o hb
                  · rw [upd_same, List.take_add_one, hv, List.map_append, List.map_append]
                    rfl
                rcases cy v (List.mem_of_getElem? hv) with ⟨x, rfl, hx⟩ | rfl
                · exact iteT ⟨_, rfl, _, rfl, .inl ⟨x, rfl, line_of (by omega), fin⟩⟩
                · exact iteT ⟨_, rfl, _, rfl, .inr ⟨notStr_non, fin⟩⟩
              · rintro H1 ⟨sm, hH⟩
                refine ⟨D, _, rfl, SqL.of hH, ?_⟩
                have qq := q
                unfold patB at qq
                rw [ef, el, decide_eq_true h8, Bool.true_and, Bool.true_and, Bool.true_and] at qq
                have ea : ((ys.take ys.length).map txB).all id = ys.all txB := by rw [List.take_length, List.all_map]; rfl
                rw [ea]
                cases ey : ys.all txB with
                | false =>
                  rw [ey] at qq
                  exact ⟨_, rfl, iteF (qq _ sm)⟩
                | true =>
                  rw [ey, Bool.true_and] at qq
                  obtain ⟨xf, rfl, sf⟩ := pc_str ef
                  obtain ⟨xl, rfl, sl⟩ := pc_str el
                  obtain ⟨zs, rfl, sz⟩ := tx_strs ey
                  refine ⟨_, rfl, iteT ⟨_, rfl, Nat.zero_le _, fun e1 he1 => ⟨(by show 3 ≤ sizeLine; decide), fun e2 he2 => ?_⟩⟩⟩
                  have up := (sm.trans (same_new (o := .tup []) he1)).trans (same_new (o := .tup [.str "", .ref e1, .str ""]) he2)
                  refine ⟨_, _, dp_pat (up _ _ ha) (up _ _ hb), dp_pat (zs := []) upd_same ((same_new he2) _ _ upd_same), shaped_pat sf sz sl, by decide +kernel, ?_⟩
                  rw [eqv_pat]
                  have := qq _ up
                  have e3 : (decide (V.str xf = V.str "") && (decide (zs.map V.str = []) && decide (V.str xl = V.str ""))) = decide (xf = "" ∧ zs = [] ∧ xl = "") := by
                    rw [Bool.eq_iff_iff]
                    simp
                  rw [e3] at this
                  exact this
            · rw [show decide ((8 : Int) < ((ys.length : Nat) : Int)) = true from decide_eq_true (by omega)]
              refine iteT ?_
              have := q H (Same.refl H)
              unfold patB at this
              rw [decide_eq_false h8, Bool.false_and, Bool.and_false] at this
              exact this
end
end Bw

namespace Bw
open PySem PySem.Spec L2 TL PyProof.Rows
open PySem.StrLaws (replL replL_hit replL_miss replL_nil replace_list found_iff subAt_eq)

/-! ### blanks beside one another become one -/
def sqL : List Nat → List Nat
  | [] => []
  | c :: r => if c = 32 ∧ r.head? = some 32 then sqL r else c :: sqL r
abbrev R2b (l : List Nat) : List Nat := replL [32, 32] [32] l
theorem sqL_cons (c : Nat) (r : List Nat) : sqL (c :: r) = if c = 32 ∧ r.head? = some 32 then sqL r else c :: sqL r := rfl
theorem hit2 {c : Nat} {r : List Nat} : (c :: r).take 2 = [32, 32] ↔ c = 32 ∧ r.head? = some 32 := by
  cases r with
  | nil => simp
  | cons d t => simp
theorem r2_hit {c : Nat} {r : List Nat} (h : (c :: r).take 2 = [32, 32]) : R2b (c :: r) = [32] ++ R2b ((c :: r).drop 2) := replL_hit (y := [32, 32]) (z := [32]) (by simp) h
theorem r2_miss {c : Nat} {r : List Nat} (h : ¬ (c :: r).take 2 = [32, 32]) : R2b (c :: r) = c :: R2b r := replL_miss (y := [32, 32]) (z := [32]) h
theorem r2_head : ∀ l : List Nat, (R2b l).head? = l.head?
  | [] => by rw [R2b, replL_nil]
  | c :: r => by
    by_cases h : (c :: r).take 2 = [32, 32]
    · rw [r2_hit h, (hit2.mp h).1]
      rfl
    · rw [r2_miss h]
      rfl
theorem r2_facts : ∀ (n : Nat) (l : List Nat), l.length ≤ n → sqL (R2b l) = sqL l ∧ (R2b l).length ≤ l.length ∧ ((∃ k, (l.drop k).take 2 = [32, 32]) → (R2b l).length < l.length)
  | 0, l, h => by
    have : l = [] := List.length_eq_zero_iff.mp (by omega)
    subst this
    rw [R2b, replL_nil]
    exact ⟨rfl, Nat.le_refl _, fun ⟨k, hk⟩ => by simp at hk⟩
  | n + 1, [], h => by
    rw [R2b, replL_nil]
    exact ⟨rfl, Nat.le_refl _, fun ⟨k, hk⟩ => by simp at hk⟩
  | n + 1, c :: r, h => by
    by_cases hh : (c :: r).take 2 = [32, 32]
    · obtain ⟨h1, h2⟩ := hit2.mp hh
      cases r with
      | nil => cases h2
      | cons d t =>
        have hd : d = 32 := Option.some.inj h2
        subst h1
        subst hd
        have e : R2b (32 :: 32 :: t) = 32 :: R2b t := r2_hit hh
        obtain ⟨i1, i2, _⟩ := r2_facts n t (by simp only [List.length_cons] at h; omega)
        rw [e]
        refine ⟨?_, by simp only [List.length_cons]; omega, fun _ => by simp only [List.length_cons]; omega⟩
        have b : sqL (32 :: 32 :: t) = sqL (32 :: t) := by rw [sqL_cons, if_pos ⟨rfl, rfl⟩]
        rw [b, sqL_cons, r2_head, i1, ← sqL_cons]
    · have e : R2b (c :: r) = c :: R2b r := r2_miss hh
      obtain ⟨i1, i2, i3⟩ := r2_facts n r (by simp only [List.length_cons] at h; omega)
      rw [e]
      refine ⟨by rw [sqL_cons, sqL_cons, r2_head, i1], by simp only [List.length_cons]; omega, fun ⟨k, hk⟩ => ?_⟩
      cases k with
      | zero => exact absurd hk hh
      | succ k =>
        have := i3 ⟨k, hk⟩
        simp only [List.length_cons]
        omega
theorem sqL_none : ∀ {l : List Nat}, (¬ ∃ k, (l.drop k).take 2 = [32, 32]) → sqL l = l
  | [], _ => rfl
  | c :: r, h => by
    rw [sqL_cons, if_neg (fun z => h ⟨0, hit2.mpr z⟩), sqL_none (l := r) fun ⟨k, hk⟩ => h ⟨k + 1, hk⟩]
theorem sqL_ne : ∀ {l : List Nat}, l ≠ [] → sqL l ≠ []
  | [], h => h
  | c :: r, _ => by
    rw [sqL_cons]
    split
    · rename_i h
      exact sqL_ne (fun z => by rw [z] at h; cases h.2)
    · simp
theorem sqL_snoc : ∀ (p : List Nat) (c : Nat), sqL (p ++ [c]) = if c = 32 ∧ (sqL p).getLast? = some 32 then sqL p else sqL p ++ [c]
  | [], c => by
    show (if c = 32 ∧ _ then _ else _) = _
    simp [sqL]
  | [a], c => by
    show sqL [a, c] = _
    by_cases h1 : a = 32 <;> by_cases h2 : c = 32 <;> simp [sqL, h1, h2]
  | a :: b :: t, c => by
    have ih := sqL_snoc (b :: t) c
    have e1 : sqL (a :: b :: t ++ [c]) = if a = 32 ∧ b = 32 then sqL (b :: t ++ [c]) else a :: sqL (b :: t ++ [c]) := by
      show sqL (a :: (b :: (t ++ [c]))) = _
      rw [sqL_cons]
      simp
    have e2 : sqL (a :: b :: t) = if a = 32 ∧ b = 32 then sqL (b :: t) else a :: sqL (b :: t) := by
      rw [sqL_cons]
      simp
    have ne : sqL (b :: t) ≠ [] := sqL_ne (by simp)
    rw [e1, e2, ih]
    by_cases h : a = 32 ∧ b = 32
    · rw [if_pos h, if_pos h]
    · rw [if_neg h, if_neg h]
      have e3 : (a :: sqL (b :: t)).getLast? = (sqL (b :: t)).getLast? := by
        rw [List.getLast?_cons]
        cases e : (sqL (b :: t)).getLast? with
        | none => exact absurd (List.getLast?_eq_none_iff.mp e) ne
        | some x => rfl
      rw [e3]
      split
      · rfl
      · rfl
def sqS (x : Str) : Str := ⟨(sqL ((tl x).map lo1)).toArray⟩
theorem tl_sqS (x : Str) : tl (sqS x) = sqL ((tl x).map lo1) := rfl
theorem sqL_len : ∀ l : List Nat, (sqL l).length ≤ l.length
  | [] => Nat.le_refl _
  | c :: r => by
    have := sqL_len r
    rw [sqL_cons]
    split
    · rw [List.length_cons]; omega
    · rw [List.length_cons, List.length_cons]; omega
def sgnS (c : Nat) : Str := ⟨#[c]⟩
theorem take_next {α : Type} {l : List α} {i : Nat} {x : α} (h : l[i]? = some x) : l.take (i + 1) = l.take i ++ [x] := by
  rw [List.take_add_one, h]
  rfl
theorem cps_get {x : Str} {i : Nat} {c : Nat} (h : x.cps[i]? = some c) : (tl x)[i]? = some c := by
  rw [← h]
  exact Array.getElem?_toList
theorem cps_size (x : Str) : x.cps.size = (tl x).length := Array.length_toList.symm
theorem tl_eq_iff {x y : Str} : x = y ↔ tl x = tl y := ⟨fun h => by rw [h], ext_tl⟩
theorem dsgn (c d : Nat) (x : Str) (hx : tl x = [d]) : decide (V.str ⟨#[c]⟩ = V.str x) = decide (c = d) := by
  rw [Bool.eq_iff_iff, decide_eq_true_eq, decide_eq_true_eq]
  constructor
  · intro h
    have : (⟨#[c]⟩ : Str) = x := by injection h
    rw [tl_eq_iff, hx] at this
    have e : [c] = [d] := this
    injection e
  · intro h
    have : (⟨#[c]⟩ : Str) = x := ext_tl (by rw [hx, h])
    rw [this]
theorem tl_e : tl ("" : Str) = [] := by decide +kernel
theorem cut_last (y : Str) : tl (cutS y (some (-1)) none) = (tl y).drop ((tl y).length - 1) := by
  show (List.take (HT.sIx y.length y.length none - HT.sIx y.length 0 (some (-1))) (List.drop (HT.sIx y.length 0 (some (-1))) y.cps.toList)) = _
  have s1 : HT.sIx y.length 0 (some (-1)) = y.length - 1 := by
    show (if (-1 : Int) < 0 then ((-1 : Int) + (y.length : Int)).toNat else min (-1 : Int).toNat y.length) = y.length - 1
    rw [if_pos (by decide)]
    omega
  have s2 : HT.sIx y.length y.length none = y.length := rfl
  have e : y.cps.toList = tl y := rfl
  rw [s1, s2, e, ← len_tl]
  apply List.take_of_length_le
  rw [List.length_drop, ← len_tl]
  omega
theorem last_iff (l : List Nat) (c : Nat) : l.drop (l.length - 1) = [c] ↔ l.getLast? = some c := by
  cases l with
  | nil => simp
  | cons a r =>
    rw [List.getLast?_eq_getElem?, ← List.head?_drop]
    constructor
    · intro h
      rw [h]
      rfl
    · intro h
      have hl : ((a :: r).drop ((a :: r).length - 1)).length = 1 := by
        rw [List.length_drop, List.length_cons]
        omega
      cases e : (a :: r).drop ((a :: r).length - 1) with
      | nil => rw [e] at h; cases h
      | cons x t =>
        rw [e] at h hl
        have ht : t = [] := List.length_eq_zero_iff.mp (by rw [List.length_cons] at hl; omega)
        rw [ht, Option.some.inj h]
theorem tl_2b : tl ("  " : Str) = [32, 32] := by decide +kernel
theorem tl_1b : tl (" " : Str) = [32] := by decide +kernel
def spSq : Sp := fun vs H Q _ => ∃ x : Str, vs = [.str x] ∧ Sgn (tl x) ∧ x.length ≤ 1000 ∧ Q (.str (sqS x)) H
section
variable {P : Program} {w : World} {K : PySem.W.Frag} {mg : Str → Option Value} {base : Heap} {f : Addr} {fd : FuncData} {aK : Addr}
theorem ok_squeezed (F : Fun K "_squeezed" "_squeezed" s_squeezed f fd) : FnOk P w K mg base CX0 1 f fd ["piece"] spSq := by
  refine F.ok sc_squeezed (fun vs H Q E h => ?_) (fun cdv A outer s H vs Q E hr h => ?_)
  · obtain ⟨x, rfl, _⟩ := h
    rfl
  · obtain ⟨x, rfl, hx, hl, q⟩ := h
    refine ⟨_, (pss_cons (ps_set (i := 0) sc_squeezed.nd rfl (Or.inl rfl) (pe_lower (pv 0))) (pss_cons (ps_whileT PassesOwn.never (ptt_strCmp op_in_str (pv 0) rfl) (CwR.psst_one (pst_set (i := 0) sc_squeezed.nd rfl (Or.inl rfl) (CwR.pet_replC (pv 0))))) (pss_one (ps_ret (pv 0))))), ?_⟩
    have elo : tl (Txt.lower x) = (tl x).map lo1 := tl_lower hx
    have llo : (Txt.lower x).length = x.length := by rw [len_tl, elo, List.length_map, ← len_tl]
    refine ⟨_, rfl, ⟨_, rfl⟩, x, rfl, rfl, by omega, ?_⟩
    refine ⟨fun m σ H' => ∃ y : Str, σ = [some (.str y)] ∧ m = y.length ∧ sqL (tl y) = sqL ((tl x).map lo1) ∧ y.length ≤ 1000 ∧ H' = H, ⟨_, Txt.lower x, rfl, rfl, by rw [elo], by omega, rfl⟩, ?_⟩
    rintro m σ H' ⟨y, rfl, rfl, ey, ly, rfl⟩
    refine ⟨_, rfl, _, _, rfl, rfl, _, rfl, ?_⟩
    have l2 : ("  " : Str).length = 2 := by decide +kernel
    have found : (!(Builtin.Str.occurrences y "  " 0 y.length 1).isEmpty) = true ↔ ∃ k, ((tl y).drop k).take 2 = [32, 32] := by
      rw [found_iff]
      constructor
      · rintro ⟨i, h1, h2⟩
        rw [subAt_eq, beq_iff_eq, l2] at h2
        exact ⟨i, h2.trans tl_2b⟩
      · rintro ⟨k, hk⟩
        refine ⟨k, ?_, ?_⟩
        · have := congrArg List.length hk
          rw [List.length_take, List.length_drop, ← len_tl] at this
          have e : ([32, 32] : List Nat).length = 2 := rfl
          rw [l2]
          omega
        · rw [subAt_eq, beq_iff_eq, l2]
          exact hk.trans tl_2b.symm
    cases eb : !(Builtin.Str.occurrences y "  " 0 y.length 1).isEmpty with
    | true =>
      have hd := found.mp eb
      refine iteT ⟨_, fun σ' H' h => h, ?_⟩
      have l1 : (" " : Str).length = 1 := by decide +kernel
      refine ⟨_, rfl, y, rfl, by rw [l1]; omega, ?_⟩
      have er : tl (Txt.replace y "  " " ") = R2b (tl y) := by
        have := replace_list (x := y) (y := "  ") (z := " ") (by rw [l2]; decide)
        have h2 : tl (Txt.replace y "  " " ") = replL (tl "  ") (tl " ") (tl y) := this
        rw [h2, tl_2b, tl_1b]
      obtain ⟨i1, i2, i3⟩ := r2_facts _ (tl y) (Nat.le_refl _)
      have hlt := i3 hd
      have lr : (Txt.replace y "  " " ").length = (R2b (tl y)).length := by rw [len_tl, er]
      have lyy := len_tl y
      exact ⟨_, by rw [lr, lyy]; exact hlt, _, rfl, rfl, by rw [er, i1, ey], by omega, rfl⟩
    | false =>
      have hn : ¬ ∃ k, ((tl y).drop k).take 2 = [32, 32] := fun z => by
        rw [found.mpr z] at eb
        cases eb
      refine iteF ⟨_, rfl, ?_⟩
      have e : y = sqS x := ext_tl (by rw [tl_sqS, ← ey, sqL_none hn])
      rw [e]
      exact q
end
end Bw

namespace Bw
open PySem PySem.Spec L2 TL PyProof.Rows

/-! ### tests and values whose outcome is known -/
theorem tIf_val {t : TT} {ta tb : TE} {σ : L2.St} {H : Hp} {Q : VK} (b : Bool) (v : V) (ht : ∀ R : Bool → Hp → Prop, R b H → t σ H R) (h1 : b = true → ∀ R : VK, R v H → ta σ H R) (h2 : b = false → ∀ R : VK, R v H → tb σ H R)
    (h : Q v H) : tIf t ta tb σ H Q := by
  refine ht _ ?_
  cases b with
  | true => exact iteT (h1 rfl Q h)
  | false => exact iteF (h2 rfl Q h)
theorem tSeqI {t u : TS} {D : Ends} {σ : L2.St} {H : Hp} (h : t { D with nx := u D } σ H) : tSeq t u D σ H := h
theorem gNameI {i : Nat} {v : V} {σ : L2.St} {H : Hp} {Q : L2.St → Hp → Prop} (h : Q (σ.set i (some v)) H) : gName i v σ H Q := h
theorem tIfS_val {c : TT} {t u : TS} {D : Ends} {σ : L2.St} {H : Hp} (b : Bool) (hc : ∀ R : Bool → Hp → Prop, R b H → c σ H R) (h1 : b = true → t D σ H) (h2 : b = false → u D σ H) : tIfS c t u D σ H := by
  refine hc _ ?_
  cases b with
  | true => exact iteT (h1 rfl)
  | false => exact iteF (h2 rfl)
theorem tOr_val {t u : TT} {σ : L2.St} {H : Hp} (b1 b2 : Bool) (h1 : ∀ R : Bool → Hp → Prop, R b1 H → t σ H R) (h2 : b1 = false → ∀ R : Bool → Hp → Prop, R b2 H → u σ H R) (R : Bool → Hp → Prop) (r : R (b1 || b2) H) : tOr t u σ H R := by
  refine h1 _ ?_
  cases b1 with
  | true => exact iteT r
  | false => exact iteF (h2 rfl R r)
theorem tAnd_val {t u : TT} {σ : L2.St} {H : Hp} (b1 b2 : Bool) (h1 : ∀ R : Bool → Hp → Prop, R b1 H → t σ H R) (h2 : b1 = true → ∀ R : Bool → Hp → Prop, R b2 H → u σ H R) (R : Bool → Hp → Prop) (r : R (b1 && b2) H) : tAnd t u σ H R := by
  refine h1 _ ?_
  cases b1 with
  | true => exact iteT (h2 rfl R r)
  | false => exact iteF r
theorem tOrV_val {ta tb : TE} {σ : L2.St} {H : Hp} (b1 b2 : Bool) (h1 : ∀ R : VK, R (.bl b1) H → ta σ H R) (h2 : b1 = false → ∀ R : VK, R (.bl b2) H → tb σ H R) (R : VK) (r : R (.bl (b1 || b2)) H) : tOrV ta tb σ H R := by
  refine h1 _ ⟨_, rfl, ?_⟩
  cases b1 with
  | true => exact iteT r
  | false => exact iteF (h2 rfl R r)
theorem tAndV_val {ta tb : TE} {σ : L2.St} {H : Hp} (b1 b2 : Bool) (h1 : ∀ R : VK, R (.bl b1) H → ta σ H R) (h2 : b1 = true → ∀ R : VK, R (.bl b2) H → tb σ H R) (R : VK) (r : R (.bl (b1 && b2)) H) : tAndV ta tb σ H R := by
  refine h1 _ ⟨_, rfl, ?_⟩
  cases b1 with
  | true => exact iteT (h2 rfl R r)
  | false => exact iteF r
/-! ### forms of patterns -/
def PatAt (H : Hp) (a : Addr) (f : Str) (zs : List Str) (l : Str) : Prop := ∃ b, H a = some (.tup [.str f, .ref b, .str l]) ∧ H b = some (.tup (zs.map V.str))
theorem PatAt.up {H H' : Hp} {a : Addr} {f l : Str} {zs : List Str} (s : Same H H') (h : PatAt H a f zs l) : PatAt H' a f zs l := by
  obtain ⟨b, h1, h2⟩ := h
  exact ⟨b, s _ _ h1, s _ _ h2⟩
structure PatOk (f : Str) (zs : List Str) (l : Str) : Prop where
  hf : pcB (.str f) = true
  hl : pcB (.str l) = true
  hz : ∀ z ∈ zs, IsTx z ∧ z ≠ ""
  h8 : zs.length ≤ 8
  ne : ¬ (f = "" ∧ zs = [] ∧ l = "")
theorem pc_facts {x : Str} (h : pcB (.str x) = true) : Sgn (tl x) ∧ x.length ≤ 100 := by
  have h : (isTx x || decide (x = "")) = true := h
  rw [Bool.or_eq_true, decide_eq_true_eq] at h
  rcases h with h | h
  · exact ((isTx_iff x).mp h).1
  · rw [h]
    refine ⟨?_, by decide +kernel⟩
    intro c hc
    rw [tl_e] at hc
    cases hc
theorem PatOk.patB {f l : Str} {zs : List Str} (h : PatOk f zs l) : patB (.str f) (zs.map V.str) (.str l) = true := by
  obtain ⟨hf, hl, hz, h8, ne⟩ := h
  unfold Bw.patB
  rw [hf, hl, decide_eq_true (by rw [List.length_map]; exact h8)]
  have e : (zs.map V.str).all txB = true := by
    rw [List.all_map, List.all_eq_true]
    intro z hz'
    exact (isTx_iff z).mpr (hz z hz')
  rw [e]
  have e3 : (decide (V.str f = V.str "") && (decide (zs.map V.str = []) && decide (V.str l = V.str ""))) = false := by
    rw [Bool.eq_false_iff]
    intro z
    simp at z
    exact ne ⟨z.1, z.2.1, z.2.2⟩
  rw [e3]
  rfl
abbrev Pf := Option (Str × List Str × Str)
def tform (f : Str) (zs : List Str) (l : Str) : Pf :=
  if ((decide (Txt.lstripChars (sqS f) " " = "") && !decide (f = "")) || (decide (Txt.rstripChars (sqS l) " " = "") && !decide (l = ""))) = true then none
  else some (Txt.lstripChars (sqS f) " ", zs.map sqS, Txt.rstripChars (sqS l) " ")
def pform (k : Kd) (f : Str) (zs : List Str) (l : Str) : Pf := match k with
  | .text => tform f zs l
  | .exact => some (f, zs, l)
  | _ => none
def PfV (H : Hp) (v : V) : Pf → Prop
  | none => v = .non
  | some (f, zs, l) => ∃ a, v = .ref a ∧ PatAt H a f zs l
theorem PfV.up {H H' : Hp} {v : V} {p : Pf} (s : Same H H') (h : PfV H v p) : PfV H' v p := by
  cases p with
  | none => exact h
  | some t =>
    obtain ⟨a, e, h⟩ := h
    exact ⟨a, e, h.up s⟩
def spTP : Sp := fun vs H Q _ => ∃ (a : Addr) (f : Str) (zs : List Str) (l : Str), vs = [.ref a] ∧ PatAt H a f zs l ∧ PatOk f zs l ∧ ∀ v H', Same H H' → PfV H' v (tform f zs l) → Q v H'
def spPF : Sp := fun vs H Q _ => ∃ (k : Kd) (a : Addr) (f : Str) (zs : List Str) (l : Str), vs = [.str k.str, .ref a] ∧ PatAt H a f zs l ∧ PatOk f zs l ∧ ∀ v H', Same H H' → PfV H' v (pform k f zs l) → Q v H'
theorem dE (x : Str) : decide (V.str x = V.str "") = decide (x = "") := by
  rw [Bool.eq_iff_iff, decide_eq_true_eq, decide_eq_true_eq]
  exact ⟨fun z => by injection z, fun z => by rw [z]⟩
theorem dNE (x : Str) : (!decide (V.str x = V.str "")) = !decide (x = "") := by rw [dE]
section
variable {P : Program} {w : World} {K : PySem.W.Frag} {mg : Str → Option Value} {base : Heap} {f : Addr} {fd : FuncData} {aK : Addr}
theorem ok_text_pattern (F : Fun K "_text_pattern" "_text_pattern" s_text_pattern f fd) (T : Txt K mg aK) (D_squeezed : Dfn P w K mg base "_squeezed" 1 ["piece"] spSq) : FnOk P w K mg base CX0 2 f fd ["pattern"] spTP := by
  refine F.ok sc_text_pattern (fun vs H Q E h => ?_) (fun cdv A outer s H vs Q E hr h => ?_)
  · obtain ⟨a, f, zs, l, rfl, _⟩ := h
    rfl
  · obtain ⟨a, f, zs, l, rfl, ⟨b, ha, hb⟩, ok, q⟩ := h
    obtain ⟨sf, lf⟩ := pc_facts ok.hf
    obtain ⟨sl, ll⟩ := pc_facts ok.hl
    refine ⟨_, (pss_cons (ps_asg (pv 0) (pg_tup (by rfl) (pgs_cons (pg_name (i := 1) sc_text_pattern.nd rfl (Or.inl rfl)) (pgs_cons (pg_name (i := 2) sc_text_pattern.nd rfl (Or.inl rfl)) (pgs_cons (pg_name (i := 3) sc_text_pattern.nd rfl (Or.inl rfl)) pgs_nil))))) (pss_cons (ps_set (i := 4) sc_text_pattern.nd rfl (Or.inl rfl) (pe_bm PySem.F.plainAttrs_str PySem.F.slot_str_lstrip PySem.F.type_str_lstrip mt_lstripChars (pe_d D_squeezed hr (by decide) (pa_cons (pv 1) pa_nil)) (pa_cons pe_str pa_nil))) (pss_cons (ps_set (i := 5) sc_text_pattern.nd rfl (Or.inl rfl) (pe_bm PySem.F.plainAttrs_str PySem.F.slot_str_rstrip PySem.F.type_str_rstrip mt_rstripChars (pe_d D_squeezed hr (by decide) (pa_cons (pv 3) pa_nil)) (pa_cons pe_str pa_nil))) (pss_cons (ps_if (PW.pt (pw_or (PW.pt (pw_and (pt_cmpR op_eq (pv 4) pe_str (nomark _)) (pw_and1 (pt_cmpR op_ne (pv 1) pe_str (nomark _))))) (pw_or1 (PW.pt (pw_and (pt_cmpR op_eq (pv 5) pe_str (nomark _)) (pw_and1 (pt_cmpR op_ne (pv 3) pe_str (nomark _)))))))) (pss_one (ps_ret pe_non)) pss_nil) (pss_one (ps_ret (pe_tup (pa_cons (pv 4) (pa_cons (pe_callTy call_tuple_of (by rfl) T.b_tuple (by decide +kernel) (pa_cons (pe_lc (own := [("piece", 6)]) (g := gName 6) (by rfl) sc_text_pattern.nd (pi_tup (pv 2)) (blkOk_by (own := [("piece", 6)]) (N := n_text_pattern) (sc := defScope s_text_pattern) (by decide +kernel)) (fun _ _ _ _ _ => pg_name (i := 6) sc_text_pattern.nd rfl (Or.inl rfl)) (fun _ _ _ _ _ => pts_nil) (fun _ _ _ _ _ => (pe_d D_squeezed hr (by decide) (pa_cons (pv 6) pa_nil)))) pa_nil)) (pa_cons (pv 5) pa_nil)))))))))), ?_⟩
    refine ⟨_, rfl, a, _, rfl, SqT.of ha, rfl, _, _, rfl, _, _, rfl, _, _, rfl, rfl, ?_⟩
    have s1 : (sqS f).length ≤ 100 := by
      have := sqL_len ((tl f).map lo1)
      rw [List.length_map, ← len_tl] at this
      rw [len_tl, tl_sqS]
      omega
    have s2 : (sqS l).length ≤ 100 := by
      have := sqL_len ((tl l).map lo1)
      rw [List.length_map, ← len_tl] at this
      rw [len_tl, tl_sqS]
      omega
    refine ⟨_, rfl, f, rfl, sf, by omega, rfl, _, _, rfl, rfl, line_of (by omega), ?_⟩
    refine ⟨_, rfl, l, rfl, sl, by omega, rfl, _, _, rfl, rfl, line_of (by omega), ?_⟩
    generalize eb : Txt.lstripChars (sqS f) " " = B at q
    generalize ee : Txt.rstripChars (sqS l) " " = E2 at q
    refine gNameI ?_
    dsimp only
    refine tSeqI ?_
    refine tIfS_val ((decide (B = "") && !decide (f = "")) || (decide (E2 = "") && !decide (l = ""))) (fun R r => ?_) (fun hn => ?_) (fun hn => ?_)
    · refine tOr_val (decide (B = "") && !decide (f = "")) (decide (E2 = "") && !decide (l = "")) (fun R r => tAnd_val (decide (B = "")) (!decide (f = "")) (fun R r => ⟨_, rfl, rfl, _, rfl, by rw [dE]; exact r⟩) (fun _ R r => ⟨_, rfl, rfl, _, rfl, by rw [dE]; exact r⟩) R r)
        (fun _ R r => tAnd_val (decide (E2 = "")) (!decide (l = "")) (fun R r => ⟨_, rfl, rfl, _, rfl, by rw [dE]; exact r⟩) (fun _ R r => ⟨_, rfl, rfl, _, rfl, by rw [dE]; exact r⟩) R r) R r
    · have q := q .non H (Same.refl H)
      unfold tform at q
      rw [eb, ee, if_pos hn] at q
      exact q rfl
    · have q : ∀ v H', Same H H' → PfV H' v (some (B, zs.map sqS, E2)) → Q v H' := fun v H' s p => q v H' s (by
        unfold tform
        rw [eb, ee, if_neg (by rw [hn]; simp)]
        exact p)
      refine ⟨_, rfl, _, rfl, b, rfl, ⟨_, SqT.of hb⟩, fun D hD => lc_it (walk_tup (K := K) (a := b) (xs := zs.map V.str)) (fun i H' => Same H H' ∧ H' D = some (.lst (((zs.take i).map sqS).map V.str))) ⟨same_new hD, upd_same⟩ (fun i H' _ h => SqT.of (h.1 _ _ hb)) ?_ ?_⟩
      · rintro i v H1 H2 hi ⟨sm, hH⟩ ⟨rfl, hv⟩
        rw [List.getElem?_map] at hv
        cases e : zs[i]? with
        | none =>
          rw [e] at hv
          cases hv
        | some z =>
          rw [e] at hv
          have hv' : V.str z = v := Option.some.inj hv
          subst hv'
          have hz := (ok.hz z (List.mem_of_getElem? e)).1
          have hzl := hz.2
          refine ⟨rfl, ?_⟩
          unfold tYes
          refine iteT ⟨_, rfl, z, rfl, hz.1, by omega, _, hH, ?_, fun c o hc => ?_, ?_⟩
          · rw [List.length_map, List.length_map]
            have := List.length_take_le' i zs
            have := ok.h8
            exact szl (by omega)
          · rw [upd_ne (ne_of_none hc hD)]
            exact sm c o hc
          · rw [upd_same, take_next e, List.map_append, List.map_append]
            rfl
      · rintro H1 ⟨sm, hH⟩
        rw [List.length_map, List.take_length] at hH
        refine ⟨D, _, rfl, .inl ⟨SqL.of hH, fun p hp => ⟨_, rfl, (by show 3 ≤ sizeLine; decide), fun r hr => ?_⟩⟩⟩
        exact q _ _ ((sm.trans (same_new hp)).trans (same_new hr)) ⟨r, rfl, p, upd_same, (same_new hr) _ _ upd_same⟩
theorem ok_pattern_form (F : Fun K "pattern_form" "pattern_form" s_pattern_form f fd) (T : Txt K mg aK) (D_need_kind : Dfn P w K mg base "_need_kind" 1 ["kind"] spNeed) (D_is_pattern : Dfn P w K mg base "is_pattern" 4 ["value"] (spIsPat K)) (D_text_pattern : Dfn P w K mg base "_text_pattern" 2 ["pattern"] spTP) :
    FnOk P w K mg base CX0 6 f fd ["kind", "pattern"] spPF := by
  refine F.ok sc_pattern_form (fun vs H Q E h => ?_) (fun cdv A outer s H vs Q E hr h => ?_)
  · obtain ⟨k, a, f, zs, l, rfl, _⟩ := h
    rfl
  · obtain ⟨k, a, f, zs, l, rfl, hP, ok, q⟩ := h
    obtain ⟨sf, lf⟩ := pc_facts ok.hf
    obtain ⟨sl, ll⟩ := pc_facts ok.hl
    refine ⟨_, (pss_cons (ps_expr (pe_d D_need_kind hr (by decide) (pa_cons (pv 0) pa_nil))) (pss_cons (ps_if (pt_not (pt_val (pe_d D_is_pattern hr (by decide) (pa_cons (pv 1) pa_nil)))) (pss_one ps_never) pss_nil) (pss_cons (ps_if (pt_cmpR op_eq (pv 0) pe_str (nomark _)) (pss_one (ps_ret (pe_d D_text_pattern hr (by decide) (pa_cons (pv 1) pa_nil)))) pss_nil) (pss_one (ps_ret (pe_ifExp (pt_cmpR op_eq (pv 0) pe_str (nomark _)) (pv 1) pe_non)))))), ?_⟩
    obtain ⟨b, ha, hb⟩ := hP
    refine ⟨_, rfl, k, rfl, ?_⟩
    refine ⟨_, rfl, _, rfl, .inr (.inr ⟨a, _, _, _, rfl, ha, .inl ⟨_, rfl, by omega⟩, .inl ⟨_, rfl, by omega⟩, .inr ⟨b, _, rfl, hb, fun y hy => ?_, by rw [List.length_map]; have := ok.h8; omega, fun H1 sm => ⟨_, rfl, ?_⟩⟩⟩)⟩
    · obtain ⟨z, hz, rfl⟩ := List.mem_map.mp hy
      have := (ok.hz z hz).1.2
      exact .inl ⟨z, rfl, by omega⟩
    · rw [ok.patB]
      refine iteF ?_
      refine ⟨_, rfl, rfl, _, rfl, ?_⟩
      rw [show decide (V.str k.str = V.str "text") = decide (k = .text) from kk k .text]
      cases k with
      | text => exact iteT ⟨_, rfl, a, f, zs, l, rfl, ⟨b, sm _ _ ha, sm _ _ hb⟩, ok, fun v H2 s2 p => q v H2 (sm.trans s2) p⟩
      | exact =>
        refine iteF ?_
        refine ⟨_, rfl, rfl, _, rfl, iteT ⟨_, rfl, ?_⟩⟩
        exact q _ _ sm ⟨a, rfl, b, sm _ _ ha, sm _ _ hb⟩
      | _ =>
        refine iteF ?_
        refine ⟨_, rfl, rfl, _, rfl, iteF ?_⟩
        exact q _ _ sm rfl
end
end Bw

namespace Bw
open PySem PySem.Spec L2 TL PyProof.Rows

/-! ### the errors -/
/-- what an error may be made of -/
inductive ShV (H : Hp) : V → Prop where
  | str (x : Str) (h : x.length ≤ 100000) : ShV H (.str x)
  | int (i : Int) (h : i.natAbs.log2 < 1920) (hb : Builtin.Int.intBits i ≤ 100) : ShV H (.int i)
  | bl (b : Bool) : ShV H (.bl b)
  | non : ShV H .non
  | lst {a : Addr} {xs : List V} (e : H a = some (.lst xs)) : ShV H (.ref a)
  | tup {a : Addr} {xs : List V} (e : H a = some (.tup xs)) : ShV H (.ref a)
  | dct {a : Addr} {kvs : List (Key × V)} (e : H a = some (.dK kvs)) : ShV H (.ref a)
theorem ShV.up {H H' : Hp} {v : V} (h : ShV H v) (e : Same H H') : ShV H' v := by
  cases h with
  | str x h => exact .str x h
  | int i h hb => exact .int i h hb
  | bl b => exact .bl b
  | non => exact .non
  | lst q => exact .lst (e _ _ q)
  | tup q => exact .tup (e _ _ q)
  | dct q => exact .dct (e _ _ q)
def spShown : Sp := fun vs H Q _ => ∃ v, vs = [v] ∧ ShV H v ∧ ∀ x : Str, Q (.str x) H
section
variable {P : Program} {w : World} {K : PySem.W.Frag} {mg : Str → Option Value} {base : Heap} {f : Addr} {fd : FuncData} {aK : Addr}
theorem ok_shown (F : Fun K "_shown" "_shown" s_shown f fd) (T : Txt K mg aK) : FnOk P w K mg base CX0 1 f fd ["value"] spShown := by
  refine F.ok sc_shown (fun vs H Q E h => ?_) (fun cdv A outer s H vs Q E hr h => ?_)
  · obtain ⟨v, rfl, _⟩ := h
    rfl
  · obtain ⟨v, rfl, sh, q⟩ := h
    refine ⟨_, (pss_cons (ps_if (PW.pt (pw_and (pt_val (pe_callB call_isi (by rfl) T.b_isinstance (by decide +kernel) (pa_cons (pv 0) (pa_cons (pe_bltn (v := .ty "str") (by rfl) T.b_str (by decide +kernel) rfl) pa_nil)))) (pw_and1 (pt_cmpR op_le (pe_callB call_len_str (by rfl) T.b_len (by decide +kernel) (pa_cons (pv 0) pa_nil)) pe_int (nomark _))))) (pss_one (ps_ret (pv 0))) pss_nil) (pss_cons (ps_if (PW.pt (pw_and (pt_val (pe_callB call_isi (by rfl) T.b_isinstance (by decide +kernel) (pa_cons (pv 0) (pa_cons (pe_bltn (v := .ty "int") (by rfl) T.b_int (by decide +kernel) rfl) pa_nil)))) (pw_and1 (pt_cmpR op_le (pe_bitsB (pv 0)) pe_int (nomark _))))) (pss_one (ps_ret (pe_callTy (r := rStrB) call_str_ib (by rfl) T.b_str (by decide +kernel) (pa_cons (pv 0) pa_nil)))) pss_nil) (pss_one (ps_ret (pe_op op_add_str pe_str (pe_tyname (pe_class (pv 0)))))))), ?_⟩
    have short : ∀ {y : Str}, y.length ≤ 20 → ("a value of " : Str).length + y.length ≤ sizeLine := fun {y} hy => by
      have e : ("a value of " : Str).length = 11 := by decide +kernel
      have : (1000 : Nat) < sizeLine := by decide
      omega
    cases sh with
    | str x h =>
      refine ⟨_, rfl, _, _, _, _, true, rfl, ClsV.ty "str", TyX.base (.str x), kit_ty (by decide +kernel), true, rfl, iteT ?_⟩
      refine ⟨_, rfl, _, rfl, sz100 h, _, _, rfl, rfl, _, rfl, ite2 (fun _ => ⟨_, rfl, q _⟩) fun _ => ?_⟩
      refine ⟨_, rfl, _, _, _, _, false, rfl, ClsV.ty "int", TyX.base (.str x), kit_ty (by decide +kernel), false, rfl, iteF ?_⟩
      exact ⟨_, rfl, _, .str x, _, rfl, by decide, fun y hy => ⟨_, _, rfl, rfl, short hy, q _⟩⟩
    | int i h hb =>
      refine ⟨_, rfl, _, _, _, _, false, rfl, ClsV.ty "str", TyX.base (.int i), kit_ty (by decide +kernel), false, rfl, iteF ?_⟩
      refine ⟨_, rfl, _, _, _, _, true, rfl, ClsV.ty "int", TyX.base (.int i), kit_ty (by decide +kernel), true, rfl, iteT ?_⟩
      refine ⟨_, rfl, .inl ⟨_, rfl, _, _, rfl, rfl, _, rfl, ?_⟩⟩
      rw [decide_eq_true (by omega)]
      exact iteT ⟨_, rfl, .inl ⟨_, rfl, h, q _⟩⟩
    | bl b =>
      refine ⟨_, rfl, _, _, _, _, false, rfl, ClsV.ty "str", TyX.base (.bl b), kit_ty (by decide +kernel), false, rfl, iteF ?_⟩
      refine ⟨_, rfl, _, _, _, _, true, rfl, ClsV.ty "int", TyX.base (.bl b), kit_ty (by decide +kernel), true, rfl, iteT ?_⟩
      refine ⟨_, rfl, .inr ⟨_, rfl, _, _, rfl, rfl, _, rfl, ?_⟩⟩
      rw [decide_eq_true (by cases b <;> decide)]
      exact iteT ⟨_, rfl, .inr ⟨_, rfl, q _⟩⟩
    | non =>
      refine ⟨_, rfl, _, _, _, _, false, rfl, ClsV.ty "str", TyX.base .non, kit_ty (by decide +kernel), false, rfl, iteF ?_⟩
      refine ⟨_, rfl, _, _, _, _, false, rfl, ClsV.ty "int", TyX.base .non, kit_ty (by decide +kernel), false, rfl, iteF ?_⟩
      exact ⟨_, rfl, _, .non, _, rfl, by decide, fun y hy => ⟨_, _, rfl, rfl, short hy, q _⟩⟩
    | lst e =>
      refine ⟨_, rfl, _, _, _, _, false, rfl, ClsV.ty "str", TyX.base (.lst e), kit_ty (by decide +kernel), false, rfl, iteF ?_⟩
      refine ⟨_, rfl, _, _, _, _, false, rfl, ClsV.ty "int", TyX.base (.lst e), kit_ty (by decide +kernel), false, rfl, iteF ?_⟩
      exact ⟨_, rfl, _, .lst e, _, rfl, by decide, fun y hy => ⟨_, _, rfl, rfl, short hy, q _⟩⟩
    | tup e =>
      refine ⟨_, rfl, _, _, _, _, false, rfl, ClsV.ty "str", TyX.base (.tup e), kit_ty (by decide +kernel), false, rfl, iteF ?_⟩
      refine ⟨_, rfl, _, _, _, _, false, rfl, ClsV.ty "int", TyX.base (.tup e), kit_ty (by decide +kernel), false, rfl, iteF ?_⟩
      exact ⟨_, rfl, _, .tup e, _, rfl, by decide, fun y hy => ⟨_, _, rfl, rfl, short hy, q _⟩⟩
    | dct e =>
      refine ⟨_, rfl, _, _, _, _, false, rfl, ClsV.ty "str", TyX.base (.dK e), kit_ty (by decide +kernel), false, rfl, iteF ?_⟩
      refine ⟨_, rfl, _, _, _, _, false, rfl, ClsV.ty "int", TyX.base (.dK e), kit_ty (by decide +kernel), false, rfl, iteF ?_⟩
      exact ⟨_, rfl, _, .dct e, _, rfl, by decide, fun y hy => ⟨_, _, rfl, rfl, short hy, q _⟩⟩
/-! ### their making -/
/-- BailiwickError.__init__(self, value) -/
def spBase (K : PySem.W.Frag) : Sp := fun vs H Q _ => ∃ (a C : Addr) (v : V), vs = [.ref a, v] ∧ OexC K C ∧ H a = some (exo a C none) ∧ ShV H v ∧ Q .non H
/-- .. of a class that keeps the value -/
def spVal (K : PySem.W.Frag) : Sp := fun vs H Q _ => ∃ (a C : Addr) (v : V), vs = [.ref a, v] ∧ OexC K C ∧ PySem.W.findIn K (.ref C) "value" = some none ∧ H a = some (exo a C none) ∧ ShV H v ∧
  ∀ dx, H dx = none → dx ≠ a → Q .non (upd (upd H dx (exd dx [("value", v)])) a (exo a C (some dx)))
theorem ve_init : PySem.W.findCls K (.type "ValueError") (.type "type") "__init__" = some (.val (.builtin "ValueError.__init__")) := by first | rfl | kernel_rfl
theorem ok_base_init (F : FunD K "__init__" "BailiwickError.__init__" (defArgs s_BailiwickError___init__) (defBody s_BailiwickError___init__) (defScope s_BailiwickError___init__) [.non] [] f fd) (T : Txt K mg aK) (D_shown : Dfn P w K mg base "_shown" 1 ["value"] spShown) :
    FnOk P w K mg base CX0 2 f fd ["self", "value"] (spBase K) := by
  refine F.ok sc_BailiwickError___init__ (fun vs H Q E h => ?_) (fun cdv A outer s H vs Q E hr h => ?_)
  · obtain ⟨a, C, v, rfl, _⟩ := h
    rfl
  · obtain ⟨a, C, v, rfl, ox, ha, sh, q⟩ := h
    refine ⟨_, (pss_one (ps_expr (pe_veinit (by rfl) T.b_ValueError ve_init (pa_cons (pv 0) (pa_cons (pe_d D_shown hr (by decide) (pa_cons (pv 1) pa_nil)) pa_nil))))), ?_⟩
    exact ⟨_, rfl, _, rfl, v, rfl, sh, fun x => ⟨a, C, _, rfl, by show 1 ≤ 1000; decide, ox, ha, q⟩⟩
/-- the class BailiwickError, and its __init__ -/
structure BasE (P : Program) (w : World) (K : PySem.W.Frag) (mg : Str → Option Value) (base : Heap) (fB : Addr) : Prop where
  ex : ∃ (CB : Addr) (fd : FuncData), ClX.CRead K CB (.type "type") ∧ PySem.W.findCls K (.ref CB) (.type "type") "__init__" = some (.val (.ref fB)) ∧ mg "BailiwickError" = some (.ref CB) ∧ PySem.W.keepIn K (.ref fB) = true ∧
    FnOk P w K mg base CX0 2 fB fd ["self", "value"] (spBase K) ∧ Binds K fd ["self", "value"] []
theorem ok_InvalidText_init {fB : Addr} (F : Fun K "__init__" "InvalidText.__init__" s_InvalidText___init__ f fd) (BE : BasE P w K mg base fB) : FnOk P w K mg base CX0 3 f fd ["self", "value"] (spVal K) := by
  obtain ⟨CB, fdB, h1, h2, h3, h4, h5, h6⟩ := BE.ex
  refine F.ok sc_InvalidText___init__ (fun vs H Q E h => ?_) (fun cdv A outer s H vs Q E hr h => ?_)
  · obtain ⟨a, C, v, rfl, _⟩ := h
    rfl
  · obtain ⟨a, C, v, rfl, ox, no, ha, sh, q⟩ := h
    refine ⟨_, (pss_cons (ps_expr (pe_cinit h1 h2 h5 hr (by rfl) h3 h4 h6 (pa_cons (pv 0) (pa_cons (pv 1) pa_nil)))) (pss_one (ps_ost (pv 0) (pv 1)))), ?_⟩
    exact ⟨_, rfl, _, rfl, a, C, v, rfl, ox, ha, sh, _, rfl, _, rfl, a, C, rfl, ox, no, .inl ⟨ha, fun dx n ne => q dx n ne⟩⟩
theorem ok_InvalidWord_init {fB : Addr} (F : Fun K "__init__" "InvalidWord.__init__" s_InvalidWord___init__ f fd) (BE : BasE P w K mg base fB) : FnOk P w K mg base CX0 3 f fd ["self", "value"] (spVal K) := by
  obtain ⟨CB, fdB, h1, h2, h3, h4, h5, h6⟩ := BE.ex
  refine F.ok sc_InvalidWord___init__ (fun vs H Q E h => ?_) (fun cdv A outer s H vs Q E hr h => ?_)
  · obtain ⟨a, C, v, rfl, _⟩ := h
    rfl
  · obtain ⟨a, C, v, rfl, ox, no, ha, sh, q⟩ := h
    refine ⟨_, (pss_cons (ps_expr (pe_cinit h1 h2 h5 hr (by rfl) h3 h4 h6 (pa_cons (pv 0) (pa_cons (pv 1) pa_nil)))) (pss_one (ps_ost (pv 0) (pv 1)))), ?_⟩
    exact ⟨_, rfl, _, rfl, a, C, v, rfl, ox, ha, sh, _, rfl, _, rfl, a, C, rfl, ox, no, .inl ⟨ha, fun dx n ne => q dx n ne⟩⟩
end
end Bw

namespace Bw
open PySem PySem.Spec L2 TL PyProof.Rows

/-! ### raising -/
/-- an error class that keeps its value -/
structure ValE (P : Program) (w : World) (K : PySem.W.Frag) (mg : Str → Option Value) (base : Heap) (x : Str) (C : Addr) : Prop where
  ox : OexC K C
  no : PySem.W.findIn K (.ref C) "value" = some none
  g : mg x = some (.ref C)
  ex : ∃ (fI : Addr) (fd : FuncData), PySem.W.findIn K (.ref C) "__init__" = some (some (.ref fI)) ∧ PySem.W.typeIn K (.ref fI) = some (.type "function") ∧ FnOk P w K mg base CX0 3 fI fd ["self", "value"] (spVal K) ∧ Binds K fd ["self", "value"] []
/-- InvalidOperation -/
structure OpE (P : Program) (w : World) (K : PySem.W.Frag) (mg : Str → Option Value) (base : Heap) (x : Str) (C : Addr) : Prop where
  ox : OexC K C
  g : mg x = some (.ref C)
  ex : ∃ (fI : Addr) (fd : FuncData), PySem.W.findIn K (.ref C) "__init__" = some (some (.ref fI)) ∧ PySem.W.typeIn K (.ref fI) = some (.type "function") ∧ FnOk P w K mg base CX0 2 fI fd ["self", "value"] (spBase K) ∧ Binds K fd ["self", "value"] []
def EVal (C : Addr) (v : V) (H : Hp) (E : XK) : Prop := ∀ d H', Same H H' → H' d = some (.xd [("value", v)]) → E (.ref C) (some d) H'
def EOp (C : Addr) (H : Hp) (E : XK) : Prop := ∀ H', Same H H' → E (.ref C) none H'
theorem EVal.up {C : Addr} {v : V} {H H1 : Hp} {E : XK} (h : EVal C v H E) (s : Same H H1) : EVal C v H1 E := fun d H' s' e => h d H' (s.trans s') e
theorem EOp.up {C : Addr} {H H1 : Hp} {E : XK} (h : EOp C H E) (s : Same H H1) : EOp C H1 E := fun H' s' => h H' (s.trans s')
def tRV (C : Addr) (i : Nat) : L2.St → Hp → XK → Prop := fun σ H Q => ∃ v, σ[i]? = some (some v) ∧ ShV H v ∧ EVal C v H Q
def tRO (C : Addr) (i : Nat) : L2.St → Hp → XK → Prop := fun σ H Q => ∃ v, σ[i]? = some (some v) ∧ ShV H v ∧ EOp C H Q
section
variable {X : Cx} {x y : Str} {C : Addr} {p p1 pos : Pos} {m i : Nat}
theorem pmk_val (EV : ValE X.prog X.w X.K X.mg X.base x C) (hr : Room m X.A) (hm : 4 ≤ m) (hg : Gl X x := by rfl) (hN : X.N[i]? = some y := by rfl) (hv : Vis X.env.scope y := by first | exact Or.inl rfl | exact Or.inr (Or.inl rfl))
    (hd : (y == ("__debug__" : Str)) = false := by decide) (hcd : (y == ("__classdict__" : Str)) = false := by decide) (hdb : (x == ("__debug__" : Str)) = false := by decide) (he : starEach [.Name y p1] X.env = (false, eval (.Name y p1) X.env) :: starEach [] X.env := by rfl) :
    PMk X (.Call (.Name x p) [.Name y p1] [] pos) (tRV C i) := by
  obtain ⟨fI, fd, iC, tI, F, b⟩ := EV.ex
  intro pins s σ H Q I h
  obtain ⟨v, hs, sh, q⟩ := h
  refine pmk_oex EV.ox iC tI F (hr.mono hm) b .nil pass0 hg EV.g (pa_cons (pe_var hN hv hd hcd) pa_nil) hdb he rfl pins s σ H Q I ?_
  refine ⟨v, hs, by show 1 ≤ 1000; decide, fun a na => ?_⟩
  refine ⟨a, C, v, rfl, EV.ox, EV.no, upd_same, sh.up (same_new na), fun dx nx ne => ?_⟩
  have n1 : H dx = none := by
    rw [upd_ne ne] at nx
    exact nx
  refine ⟨rfl, dx, _, upd_same, (upd_ne ne).trans upd_same, n1, q dx _ (fun b o e => ?_) upd_same⟩
  have b1 : b ≠ dx := ne_of_none e n1
  have b2 : b ≠ a := ne_of_none e na
  rw [upd_ne b1, del_ne b2, upd_ne b2, upd_ne b1, upd_ne b2]
  exact e
theorem pmk_op (EV : OpE X.prog X.w X.K X.mg X.base x C) (hr : Room m X.A) (hm : 4 ≤ m) (hg : Gl X x := by rfl) (hN : X.N[i]? = some y := by rfl) (hv : Vis X.env.scope y := by first | exact Or.inl rfl | exact Or.inr (Or.inl rfl))
    (hd : (y == ("__debug__" : Str)) = false := by decide) (hcd : (y == ("__classdict__" : Str)) = false := by decide) (hdb : (x == ("__debug__" : Str)) = false := by decide) (he : starEach [.Name y p1] X.env = (false, eval (.Name y p1) X.env) :: starEach [] X.env := by rfl) :
    PMk X (.Call (.Name x p) [.Name y p1] [] pos) (tRO C i) := by
  obtain ⟨fI, fd, iC, tI, F, b⟩ := EV.ex
  intro pins s σ H Q I h
  obtain ⟨v, hs, sh, q⟩ := h
  refine pmk_none EV.ox iC tI F (hr.mono (Nat.le_trans (by decide) hm)) b .nil pass0 hg EV.g (pa_cons (pe_var hN hv hd hcd) pa_nil) hdb he rfl pins s σ H Q I ?_
  refine ⟨v, hs, by show 1 ≤ 1000; decide, fun a na => ?_⟩
  refine ⟨a, C, v, rfl, EV.ox, upd_same, sh.up (same_new na), rfl, upd_same, q _ fun b o e => ?_⟩
  have b2 : b ≠ a := ne_of_none e na
  rw [del_ne b2, upd_ne b2]
  exact e
end
/-- no kind -/
def BadK (H : Hp) (v : V) : Prop := (NoTx H v ∨ ∃ z, v = .str z ∧ z ∉ (["exact", "flag", "link", "number", "text"] : List Str)) ∧ ShV H v
/-- no text -/
def BadT (K : PySem.W.Frag) (H : Hp) (v : V) : Prop := ((∃ x, v = .str x ∧ x.length ≤ sizeLine ∧ isTx x = false) ∨ NotStr K H v) ∧ ShV H v
/-- no form of the kind -/
def BadF (K : PySem.W.Frag) (k : Kd) (H : Hp) (v : V) : Prop := ((∃ x, v = .str x ∧ x.length ≤ sizeLine ∧ (isTx x && decide (kform k x = some x)) = false) ∨ NotStr K H v) ∧ ShV H v
/-- no pattern -/
def BadP (K : PySem.W.Frag) (H : Hp) (v : V) : Prop := (NotTup K H v ∨ (∃ a xs, v = .ref a ∧ H a = some (.tup xs) ∧ xs.length ≠ 3 ∧ xs.length ≤ 1000) ∨
  (∃ a f m l, v = .ref a ∧ H a = some (.tup [f, m, l]) ∧ Sc f ∧ Sc l ∧ (NotTup K H m ∨ ∃ b ys, m = .ref b ∧ H b = some (.tup ys) ∧ (∀ y ∈ ys, Sc y) ∧ ys.length ≤ 1000 ∧ patB f ys l = false))) ∧ ShV H v
def spNeedX (C : Addr) : Sp := fun vs H _ E => ∃ v, vs = [v] ∧ BadK H v ∧ EVal C v H E
def spK2 (C : Addr) : Sp := fun vs H _ E => ∃ v u, vs = [v, u] ∧ BadK H v ∧ EVal C v H E
def spK3 (C : Addr) : Sp := fun vs H _ E => ∃ v u t, vs = [v, u, t] ∧ BadK H v ∧ EVal C v H E
def spT2 (K : PySem.W.Frag) (C : Addr) : Sp := fun vs H _ E => ∃ (k : Kd) (v : V), vs = [.str k.str, v] ∧ BadT K H v ∧ EVal C v H E
def spO3 (C : Addr) : Sp := fun vs H _ E => ∃ (k : Kd) (u t : V), vs = [.str k.str, u, t] ∧ (k = .flag ∨ k = .link) ∧ EOp C H E
def spF3 (K : PySem.W.Frag) (C : Addr) : Sp := fun vs H _ E => ∃ (k : Kd) (u t : V), vs = [.str k.str, u, t] ∧ (k = .exact ∨ k = .number ∨ k = .text) ∧ (BadF K k H u ∨ ((∃ x, u = .str x ∧ x.length ≤ sizeLine ∧ (isTx x && decide (kform k x = some x)) = true) ∧ BadF K k H t)) ∧ EOp C H E
def spP2 (K : PySem.W.Frag) (C : Addr) : Sp := fun vs H _ E => ∃ (k : Kd) (v : V), vs = [.str k.str, v] ∧ BadP K H v ∧ EOp C H E
def spP3 (K : PySem.W.Frag) (C : Addr) : Sp := fun vs H _ E => ∃ (k : Kd) (v u : V), vs = [.str k.str, v, u] ∧ BadP K H v ∧ EOp C H E
def spM3 (K : PySem.W.Frag) (C : Addr) : Sp := fun vs H _ E => ∃ (k : Kd) (a : Addr) (f : Str) (zs : List Str) (l : Str) (u : V), vs = [.str k.str, .ref a, u] ∧ PatAt H a f zs l ∧ PatOk f zs l ∧ BadF K k H u ∧ EOp C H E
section
variable {P : Program} {w : World} {K : PySem.W.Frag} {mg : Str → Option Value} {base : Heap} {f : Addr} {fd : FuncData} {aK aO CW CT CO : Addr}
theorem strs_kinds : ([.str "exact", .str "flag", .str "link", .str "number", .str "text"] : List V) = (["exact", "flag", "link", "number", "text"] : List Str).map V.str := rfl
theorem okX_need_kind (F : Fun K "_need_kind" "_need_kind" s_need_kind f fd) (T : Txt K mg aK) (EW : ValE P w K mg base "InvalidWord" CW) : FnOk P w K mg base (L2.CX P w) 5 f fd ["kind"] (spNeedX CW) := by
  refine F.okX sc_need_kind (fun vs H Q E h => ?_) (fun cdv A outer s H vs Q E hr h => ?_)
  · obtain ⟨v, rfl, _⟩ := h
    rfl
  · obtain ⟨v, rfl, ⟨bad, sh⟩, q⟩ := h
    refine ⟨_, (pss_one (ps_if (pt_cmpR (r := rNoTx K) (op_noTx (hu_of hr)) (pv 0) (pe_glob (v := .ref aK) rfl T.g_KINDS rfl) rfl) (pss_one (ps_raise rfl (takes_of rfl rfl rfl rfl) (pmk_val (i := 0) EW hr (by decide)))) pss_nil)), ?_⟩
    refine ⟨_, rfl, aK, _, rfl, strs_kinds ▸ T.s_KINDS H, ?_⟩
    rcases bad with no | ⟨z, rfl, hz⟩
    · exact .inl ⟨no, _, rfl, iteT ⟨v, rfl, sh, q⟩⟩
    · refine .inr ⟨z, rfl, _, rfl, ?_⟩
      rw [decide_eq_false hz]
      exact iteT ⟨.str z, rfl, sh, q⟩
theorem okK_form_of (F : Fun K "form_of" "form_of" s_form_of f fd) (DX_need_kind : DfnX P w K mg base "_need_kind" 5 ["kind"] (spNeedX CW)) : FnOk P w K mg base (L2.CX P w) 7 f fd ["kind", "text"] (spK2 CW) := by
  refine F.okX sc_form_of (fun vs H Q E h => ?_) (fun cdv A outer s H vs Q E hr h => ?_)
  · obtain ⟨v, u, rfl, _⟩ := h
    rfl
  · obtain ⟨v, u, rfl, bad, q⟩ := h
    refine ⟨_, (pss_cons (ps_expr (pe_dX DX_need_kind (takes_of rfl rfl rfl rfl) hr (by decide) (pa_cons (pv 0) pa_nil))) (pss_cons ps_never (pss_one ps_never))), ?_⟩
    exact ⟨_, rfl, v, rfl, bad, q⟩
theorem okK_is_fit (F : Fun K "is_fit" "is_fit" s_is_fit f fd) (DX_need_kind : DfnX P w K mg base "_need_kind" 5 ["kind"] (spNeedX CW)) : FnOk P w K mg base (L2.CX P w) 7 f fd ["kind", "value"] (spK2 CW) := by
  refine F.okX sc_is_fit (fun vs H Q E h => ?_) (fun cdv A outer s H vs Q E hr h => ?_)
  · obtain ⟨v, u, rfl, _⟩ := h
    rfl
  · obtain ⟨v, u, rfl, bad, q⟩ := h
    refine ⟨_, (pss_cons (ps_expr (pe_dX DX_need_kind (takes_of rfl rfl rfl rfl) hr (by decide) (pa_cons (pv 0) pa_nil))) (pss_one ps_never)), ?_⟩
    exact ⟨_, rfl, v, rfl, bad, q⟩
theorem okK_is_form (F : Fun K "is_form" "is_form" s_is_form f fd) (DX_need_kind : DfnX P w K mg base "_need_kind" 5 ["kind"] (spNeedX CW)) : FnOk P w K mg base (L2.CX P w) 7 f fd ["kind", "value"] (spK2 CW) := by
  refine F.okX sc_is_form (fun vs H Q E h => ?_) (fun cdv A outer s H vs Q E hr h => ?_)
  · obtain ⟨v, u, rfl, _⟩ := h
    rfl
  · obtain ⟨v, u, rfl, bad, q⟩ := h
    refine ⟨_, (pss_cons (ps_expr (pe_dX DX_need_kind (takes_of rfl rfl rfl rfl) hr (by decide) (pa_cons (pv 0) pa_nil))) (pss_one ps_never)), ?_⟩
    exact ⟨_, rfl, v, rfl, bad, q⟩
theorem okK_pattern_form (F : Fun K "pattern_form" "pattern_form" s_pattern_form f fd) (DX_need_kind : DfnX P w K mg base "_need_kind" 5 ["kind"] (spNeedX CW)) : FnOk P w K mg base (L2.CX P w) 7 f fd ["kind", "pattern"] (spK2 CW) := by
  refine F.okX sc_pattern_form (fun vs H Q E h => ?_) (fun cdv A outer s H vs Q E hr h => ?_)
  · obtain ⟨v, u, rfl, _⟩ := h
    rfl
  · obtain ⟨v, u, rfl, bad, q⟩ := h
    refine ⟨_, (pss_cons (ps_expr (pe_dX DX_need_kind (takes_of rfl rfl rfl rfl) hr (by decide) (pa_cons (pv 0) pa_nil))) (pss_cons ps_never (pss_cons ps_never (pss_one ps_never)))), ?_⟩
    exact ⟨_, rfl, v, rfl, bad, q⟩
theorem okK_is_less (F : Fun K "is_less" "is_less" s_is_less f fd) (DX_need_kind : DfnX P w K mg base "_need_kind" 5 ["kind"] (spNeedX CW)) : FnOk P w K mg base (L2.CX P w) 7 f fd ["kind", "one", "other"] (spK3 CW) := by
  refine F.okX sc_is_less (fun vs H Q E h => ?_) (fun cdv A outer s H vs Q E hr h => ?_)
  · obtain ⟨v, u, t, rfl, _⟩ := h
    rfl
  · obtain ⟨v, u, t, rfl, bad, q⟩ := h
    refine ⟨_, (pss_cons (ps_expr (pe_dX DX_need_kind (takes_of rfl rfl rfl rfl) hr (by decide) (pa_cons (pv 0) pa_nil))) (pss_cons ps_never (pss_cons ps_never (pss_one ps_never)))), ?_⟩
    exact ⟨_, rfl, v, rfl, bad, q⟩
theorem okK_does_match (F : Fun K "does_match" "does_match" s_does_match f fd) (DX_pattern_form : DfnX P w K mg base "pattern_form" 7 ["kind", "pattern"] (spK2 CW)) : FnOk P w K mg base (L2.CX P w) 8 f fd ["kind", "pattern", "form"] (spK3 CW) := by
  refine F.okX sc_does_match (fun vs H Q E h => ?_) (fun cdv A outer s H vs Q E hr h => ?_)
  · obtain ⟨v, u, t, rfl, _⟩ := h
    rfl
  · obtain ⟨v, u, t, rfl, bad, q⟩ := h
    refine ⟨_, (pss_cons (ps_set (i := 3) sc_does_match.nd rfl (Or.inl rfl) (pe_dX DX_pattern_form (takes_of rfl rfl rfl rfl) hr (by decide) (pa_cons (pv 0) (pa_cons (pv 1) pa_nil)))) (pss_cons ps_never (pss_one ps_never))), ?_⟩
    exact ⟨_, rfl, _, rfl, v, u, rfl, bad, q⟩
theorem okT_form_of (F : Fun K "form_of" "form_of" s_form_of f fd) (D_need_kind : Dfn P w K mg base "_need_kind" 1 ["kind"] spNeed) (D_is_text : Dfn P w K mg base "is_text" 2 ["value"] (spIsText K)) (ET : ValE P w K mg base "InvalidText" CT) :
    FnOk P w K mg base (L2.CX P w) 6 f fd ["kind", "text"] (spT2 K CT) := by
  refine F.okX sc_form_of (fun vs H Q E h => ?_) (fun cdv A outer s H vs Q E hr h => ?_)
  · obtain ⟨k, v, rfl, _⟩ := h
    rfl
  · obtain ⟨k, v, rfl, ⟨bad, sh⟩, q⟩ := h
    refine ⟨_, (pss_cons (ps_expr (pe_d D_need_kind hr (by decide) (pa_cons (pv 0) pa_nil))) (pss_cons (ps_if (pt_not (pt_val (pe_d D_is_text hr (by decide) (pa_cons (pv 1) pa_nil)))) (pss_one (ps_raise rfl (takes_of rfl rfl rfl rfl) (pmk_val (i := 1) ET hr (by decide)))) pss_nil) (pss_one ps_never))), ?_⟩
    refine ⟨_, rfl, k, rfl, _, rfl, v, rfl, ?_⟩
    rcases bad with ⟨x, rfl, hl, e⟩ | no
    · refine .inl ⟨x, rfl, hl, _, rfl, ?_⟩
      rw [e]
      exact iteT ⟨_, rfl, sh, q⟩
    · exact .inr ⟨no, _, rfl, iteT ⟨_, rfl, sh, q⟩⟩
theorem strs_ord : ([.str "exact", .str "number", .str "text"] : List V) = (["exact", "number", "text"] : List Str).map V.str := rfl
theorem okO_is_less (F : Fun K "is_less" "is_less" s_is_less f fd) (TO : TxO K mg aO) (D_need_kind : Dfn P w K mg base "_need_kind" 1 ["kind"] spNeed) (EO : OpE P w K mg base "InvalidOperation" CO) :
    FnOk P w K mg base (L2.CX P w) 6 f fd ["kind", "one", "other"] (spO3 CO) := by
  refine F.okX sc_is_less (fun vs H Q E h => ?_) (fun cdv A outer s H vs Q E hr h => ?_)
  · obtain ⟨k, u, t, rfl, _⟩ := h
    rfl
  · obtain ⟨k, u, t, rfl, hk, q⟩ := h
    refine ⟨_, (pss_cons (ps_expr (pe_d D_need_kind hr (by decide) (pa_cons (pv 0) pa_nil))) (pss_cons (ps_if (pt_cmpR (r := rNoTx K) (op_noTx (hu_of hr)) (pv 0) (pe_glob (v := .ref aO) rfl TO.g rfl) rfl) (pss_one (ps_raise rfl (takes_of rfl rfl rfl rfl) (pmk_op (i := 0) EO hr (by decide)))) pss_nil) (pss_cons ps_never (pss_one ps_never)))), ?_⟩
    refine ⟨_, rfl, k, rfl, _, rfl, aO, _, rfl, strs_ord ▸ TO.s H, .inr ⟨k.str, rfl, _, rfl, ?_⟩⟩
    have e : decide (k.str ∈ (["exact", "number", "text"] : List Str)) = false := by rcases hk with rfl | rfl <;> decide +kernel
    rw [e]
    exact iteT ⟨_, rfl, .str _ (by rcases hk with rfl | rfl <;> decide +kernel), q⟩
theorem okF_is_less (F : Fun K "is_less" "is_less" s_is_less f fd) (TO : TxO K mg aO) (D_need_kind : Dfn P w K mg base "_need_kind" 1 ["kind"] spNeed) (D_is_form : Dfn P w K mg base "is_form" 6 ["kind", "value"] (spForm K)) (EO : OpE P w K mg base "InvalidOperation" CO) :
    FnOk P w K mg base (L2.CX P w) 7 f fd ["kind", "one", "other"] (spF3 K CO) := by
  refine F.okX sc_is_less (fun vs H Q E h => ?_) (fun cdv A outer s H vs Q E hr h => ?_)
  · obtain ⟨k, u, t, rfl, _⟩ := h
    rfl
  · obtain ⟨k, u, t, rfl, hk, bad, q⟩ := h
    refine ⟨_, (pss_cons (ps_expr (pe_d D_need_kind hr (by decide) (pa_cons (pv 0) pa_nil))) (pss_cons (ps_if (pt_cmpR (r := rNoTx K) (op_noTx (hu_of hr)) (pv 0) (pe_glob (v := .ref aO) rfl TO.g rfl) rfl) (pss_one ps_never) pss_nil) (pss_cons (ps_for (passes_of rfl) rfl (pi_tup (pe_tup (pa_cons (pv 1) (pa_cons (pv 2) pa_nil)))) (pg_name (i := 3) sc_is_less.nd rfl (Or.inl rfl)) (pss_one (ps_if (pt_not (pt_val (pe_d D_is_form hr (by decide) (pa_cons (pv 0) (pa_cons (pv 3) pa_nil))))) (pss_one (ps_raise rfl (takes_of rfl rfl rfl rfl) (pmk_op (i := 3) EO hr (by decide)))) pss_nil))) (pss_one ps_never)))), ?_⟩
    refine ⟨_, rfl, k, rfl, _, rfl, aO, _, rfl, strs_ord ▸ TO.s H, .inr ⟨k.str, rfl, _, rfl, ?_⟩⟩
    have e : decide (k.str ∈ (["exact", "number", "text"] : List Str)) = true := by rcases hk with rfl | rfl | rfl <;> decide +kernel
    rw [e]
    have raise_ : ∀ {v : V} {H1 : Hp} {D : Ends} {w : Option V}, Same H H1 → BadF K k H v → tIfS (tNot (tB (tCall (spForm K) [] E0 (tCons (tVar 0) (tCons (tVar 3) tNil))))) (fun x σ H => tRO CO 3 σ H fun cls d H' => E cls d H') tNext D [some (.str k.str), some u, some t, some v] H1 := fun {v H1 D w} sm b => by
      refine ⟨_, rfl, _, rfl, k, v, rfl, ?_⟩
      rcases b with ⟨⟨x, rfl, hl, e2⟩ | no, sh⟩
      · refine .inl ⟨x, rfl, hl, fun H2 s2 => ⟨_, rfl, ?_⟩⟩
        rw [e2]
        exact iteT ⟨_, rfl, sh.up (sm.trans s2), q.up (sm.trans s2)⟩
      · exact .inr ⟨no.up sm, fun H2 s2 => ⟨_, rfl, iteT ⟨_, rfl, sh.up (sm.trans s2), q.up (sm.trans s2)⟩⟩⟩
    refine iteF ⟨_, rfl, _, rfl, (by show 2 ≤ sizeLine; decide), fun p hp => ?_⟩
    refine ⟨p, rfl, ⟨_, SqT.of upd_same⟩, for_tup (K := K) (a := p) (xs := [u, t]) (fun i σ H' => (∃ w : Option V, σ = [some (.str k.str), some u, some t, w]) ∧ Same H H' ∧ H' p = some (.tup [u, t]) ∧ (i = 0 ∨ (i = 1 ∧ BadF K k H t)))
      ⟨⟨none, rfl⟩, same_new hp, upd_same, .inl rfl⟩ (fun i σ H' _ h => SqT.of h.2.2.1) ?_ ?_⟩
    · rintro i y σ H' hi ⟨⟨w, rfl⟩, sm, hH, at_⟩
      rcases at_ with rfl | ⟨rfl, bt⟩
      · obtain rfl : u = y := Option.some.inj hi
        rcases bad with b | ⟨⟨x, rfl, hl, e2⟩, b⟩
        · exact raise_ (w := w) sm b
        · refine ⟨_, rfl, _, rfl, k, _, rfl, .inl ⟨x, rfl, hl, fun H2 s2 => ⟨_, rfl, ?_⟩⟩⟩
          rw [e2]
          exact iteF ⟨⟨_, rfl⟩, sm.trans s2, s2 _ _ hH, .inr ⟨rfl, b⟩⟩
      · obtain rfl : t = y := Option.some.inj hi
        exact raise_ (w := w) sm bt
    · rintro σ H' ⟨_, _, _, h | ⟨h, _⟩⟩
      · exact absurd h (by simp)
      · exact absurd h (by simp)
theorem okP_pattern_form (F : Fun K "pattern_form" "pattern_form" s_pattern_form f fd) (D_need_kind : Dfn P w K mg base "_need_kind" 1 ["kind"] spNeed) (D_is_pattern : Dfn P w K mg base "is_pattern" 4 ["value"] (spIsPat K)) (EO : OpE P w K mg base "InvalidOperation" CO) :
    FnOk P w K mg base (L2.CX P w) 6 f fd ["kind", "pattern"] (spP2 K CO) := by
  refine F.okX sc_pattern_form (fun vs H Q E h => ?_) (fun cdv A outer s H vs Q E hr h => ?_)
  · obtain ⟨k, v, rfl, _⟩ := h
    rfl
  · obtain ⟨k, v, rfl, ⟨bad, sh⟩, q⟩ := h
    refine ⟨_, (pss_cons (ps_expr (pe_d D_need_kind hr (by decide) (pa_cons (pv 0) pa_nil))) (pss_cons (ps_if (pt_not (pt_val (pe_d D_is_pattern hr (by decide) (pa_cons (pv 1) pa_nil)))) (pss_one (ps_raise rfl (takes_of rfl rfl rfl rfl) (pmk_op (i := 1) EO hr (by decide)))) pss_nil) (pss_cons ps_never (pss_one ps_never)))), ?_⟩
    refine ⟨_, rfl, k, rfl, _, rfl, v, rfl, ?_⟩
    rcases bad with no | ⟨a, xs, rfl, ha, n3, hl⟩ | ⟨a, f, m, l, rfl, ha, sf, sl, no | ⟨b, ys, rfl, hb, hy, hl, e⟩⟩
    · exact .inl ⟨no, _, rfl, iteT ⟨_, rfl, sh, q⟩⟩
    · exact .inr (.inl ⟨a, xs, rfl, ha, n3, hl, _, rfl, iteT ⟨_, rfl, sh, q⟩⟩)
    · exact .inr (.inr ⟨a, f, m, l, rfl, ha, sf, sl, .inl ⟨no, _, rfl, iteT ⟨_, rfl, sh, q⟩⟩⟩)
    · refine .inr (.inr ⟨a, f, _, l, rfl, ha, sf, sl, .inr ⟨b, ys, rfl, hb, hy, hl, fun H' sm => ⟨_, rfl, ?_⟩⟩⟩)
      rw [e]
      exact iteT ⟨_, rfl, sh.up sm, q.up sm⟩
theorem okP_does_match (F : Fun K "does_match" "does_match" s_does_match f fd) (DX_pattern_form : DfnX P w K mg base "pattern_form" 6 ["kind", "pattern"] (spP2 K CO)) : FnOk P w K mg base (L2.CX P w) 7 f fd ["kind", "pattern", "form"] (spP3 K CO) := by
  refine F.okX sc_does_match (fun vs H Q E h => ?_) (fun cdv A outer s H vs Q E hr h => ?_)
  · obtain ⟨k, v, u, rfl, _⟩ := h
    rfl
  · obtain ⟨k, v, u, rfl, bad, q⟩ := h
    refine ⟨_, (pss_cons (ps_set (i := 3) sc_does_match.nd rfl (Or.inl rfl) (pe_dX DX_pattern_form (takes_of rfl rfl rfl rfl) hr (by decide) (pa_cons (pv 0) (pa_cons (pv 1) pa_nil)))) (pss_cons ps_never (pss_one ps_never))), ?_⟩
    exact ⟨_, rfl, _, rfl, k, v, rfl, bad, q⟩
theorem okF_does_match (F : Fun K "does_match" "does_match" s_does_match f fd) (D_pattern_form : Dfn P w K mg base "pattern_form" 6 ["kind", "pattern"] spPF) (D_is_form : Dfn P w K mg base "is_form" 6 ["kind", "value"] (spForm K)) (EO : OpE P w K mg base "InvalidOperation" CO) :
    FnOk P w K mg base (L2.CX P w) 7 f fd ["kind", "pattern", "form"] (spM3 K CO) := by
  refine F.okX sc_does_match (fun vs H Q E h => ?_) (fun cdv A outer s H vs Q E hr h => ?_)
  · obtain ⟨k, a, f, zs, l, u, rfl, _⟩ := h
    rfl
  · obtain ⟨k, a, f, zs, l, u, rfl, pa, po, ⟨bad, sh⟩, q⟩ := h
    refine ⟨_, (pss_cons (ps_set (i := 3) sc_does_match.nd rfl (Or.inl rfl) (pe_d D_pattern_form hr (by decide) (pa_cons (pv 0) (pa_cons (pv 1) pa_nil)))) (pss_cons (ps_if (pt_not (pt_val (pe_d D_is_form hr (by decide) (pa_cons (pv 0) (pa_cons (pv 2) pa_nil))))) (pss_one (ps_raise rfl (takes_of rfl rfl rfl rfl) (pmk_op (i := 2) EO hr (by decide)))) pss_nil) (pss_one ps_never))), ?_⟩
    refine ⟨_, rfl, _, rfl, k, a, f, zs, l, rfl, pa, po, fun v H1 s1 _ => ?_⟩
    refine ⟨_, rfl, _, rfl, k, u, rfl, ?_⟩
    rcases bad with ⟨x, rfl, hl, e⟩ | no
    · refine .inl ⟨x, rfl, hl, fun H2 s2 => ⟨_, rfl, ?_⟩⟩
      rw [e]
      exact iteT ⟨_, rfl, sh.up (s1.trans s2), q.up (s1.trans s2)⟩
    · exact .inr ⟨no.up s1, fun H2 s2 => ⟨_, rfl, iteT ⟨_, rfl, sh.up (s1.trans s2), q.up (s1.trans s2)⟩⟩⟩
end
end Bw

namespace Bw
open PySem PySem.Spec L2 LamX TL PyProof.Rows

/-! ### what a call meets -/
/-- the classes of the except clauses -/
structure MetF (K : PySem.W.Frag) (mg : Str → Option Value) (CT CW CO c2 c3 c4 c5 c6 c7 c9 c10 c11 c12 c13 c14 : Addr) : Prop where
  g_InvalidText : mg "InvalidText" = some (.ref CT)
  g_InvalidWord : mg "InvalidWord" = some (.ref CW)
  g_InvalidName : mg "InvalidName" = some (.ref c2)
  g_InvalidSchema : mg "InvalidSchema" = some (.ref c3)
  g_InvalidTree : mg "InvalidTree" = some (.ref c4)
  g_InvalidDeed : mg "InvalidDeed" = some (.ref c5)
  g_InvalidFilter : mg "InvalidFilter" = some (.ref c6)
  g_InvalidLetter : mg "InvalidLetter" = some (.ref c7)
  g_InvalidOperation : mg "InvalidOperation" = some (.ref CO)
  g_ParseError : mg "ParseError" = some (.ref c9)
  g_InvalidNumber : mg "InvalidNumber" = some (.ref c10)
  g_TooMany : mg "TooMany" = some (.ref c11)
  g_UnknownNumber : mg "UnknownNumber" = some (.ref c12)
  g_UnknownName : mg "UnknownName" = some (.ref c13)
  g_Refused : mg "Refused" = some (.ref c14)
  e_TT : PySem.W.exmOne K (.ref CT) (.ref CT) = some true
  e_WT : PySem.W.exmOne K (.ref CW) (.ref CT) = some false
  e_WW : PySem.W.exmOne K (.ref CW) (.ref CW) = some true
  e_OCT : PySem.W.exmOne K (.ref CO) (.ref CT) = some false
  e_OCW : PySem.W.exmOne K (.ref CO) (.ref CW) = some false
  e_Oc2 : PySem.W.exmOne K (.ref CO) (.ref c2) = some false
  e_Oc3 : PySem.W.exmOne K (.ref CO) (.ref c3) = some false
  e_Oc4 : PySem.W.exmOne K (.ref CO) (.ref c4) = some false
  e_Oc5 : PySem.W.exmOne K (.ref CO) (.ref c5) = some false
  e_Oc6 : PySem.W.exmOne K (.ref CO) (.ref c6) = some false
  e_Oc7 : PySem.W.exmOne K (.ref CO) (.ref c7) = some false
  e_OO : PySem.W.exmOne K (.ref CO) (.ref CO) = some true
  x_InvalidText : XfC K CT
  n_InvalidText : PySem.W.findIn K (.ref CT) "value" = some none
  x_InvalidWord : XfC K CW
  n_InvalidWord : PySem.W.findIn K (.ref CW) "value" = some none
/-- what is told of an exception -/
def MetW (g : List Code) (CT CW CO : Addr) (Q : VK) : XK := fun cls d H' =>
  (cls = .ref CT ∧ ∃ dd v r, d = some dd ∧ H' dd = some (.xd [("value", v)]) ∧ RpV g H' v r ∧ Q (.str ("text " ++ r)) H') ∨
  (cls = .ref CW ∧ ∃ dd v r, d = some dd ∧ H' dd = some (.xd [("value", v)]) ∧ RpV g H' v r ∧ Q (.str ("word " ++ r)) H') ∨ (cls = .ref CO ∧ Q (.str "operation") H')
def TMet (g : List Code) (CT CW CO : Addr) : (XK → Hp → VK → Prop) → Hp → VK → Prop := fun tl H Q => tl (MetW g CT CW CO Q) H fun _ H' => Q (.str "fine") H'
section
variable {X : Cx} {CT CW CO c2 c3 c4 c5 c6 c7 c9 c10 c11 c12 c13 c14 : Addr} {g : List Code} {gM : Addr} {cdM : Value} {q : Str}
theorem short5 {y : Str} {H : Hp} {v : V} {r : Str} (h : y.length ≤ 5) (rp : RpV g H v r) : y.length + r.length ≤ sizeLine := by
  have := rp.len
  have : (200000 : Nat) ≤ sizeLine := by decide
  omega
theorem met_gives (M : MetF X.K X.mg CT CW CO c2 c3 c4 c5 c6 c7 c9 c10 c11 c12 c13 c14) (hrepr : X.mg "repr" = none) (hgd : X.A.guards = some g) (hu : X.A.units + 10 < cLine) : GivesTo X n_law_met "_law_met" (defScope s_law_met) gM cdM (defBody s_law_met) "_law_call" q (TMet g CT CW CO) := by
  intro f c' s H Q tl act hc h
  have hu2 : X.A.units + 3 + 2 < cLine := by omega
  refine ⟨_, pss_cons (ps_try_mix (X := (cxOf C8.CX0 X.prog X.w X.K X.mg X.base n_law_met "_law_met" (defScope s_law_met) gM cdM X.A X.stack s H C8.E0).nox)
      (tb := fun W D σ H => ∃ Ech : XK, (∀ cls d σ' H', Ech cls d H' → W cls d σ' H') ∧ σ[0]? = some (some (.ref f)) ∧ H c' = some (CodeO c' q) ∧ tl Ech H (fun _ H' => D.nx σ H'))
      rfl rfl LamX.takes0 (fun W pn xe tk _ => ?_) (HdsM.named (i := 1) ⟨rfl, by decide, .inl M.g_InvalidText⟩ sc_law_met.nd rfl rfl (fun a oe cls d pn hz hf => pss_one (ps_ret (pe_op op_add_str pe_str (pe_callB (r := rRp g) (call_rp hgd hu2) (by rfl) hrepr (by decide +kernel) (pa_cons (pe_xf M.x_InvalidText M.n_InvalidText hz hf (pv 1)) pa_nil))))) (HdsM.named (i := 1) ⟨rfl, by decide, .inl M.g_InvalidWord⟩ sc_law_met.nd rfl rfl (fun a oe cls d pn hz hf => pss_one (ps_ret (pe_op op_add_str pe_str (pe_callB (r := rRp g) (call_rp hgd hu2) (by rfl) hrepr (by decide +kernel) (pa_cons (pe_xf M.x_InvalidWord M.n_InvalidWord hz hf (pv 1)) pa_nil))))) (HdsM.bare ⟨rfl, by decide, .inl M.g_InvalidName⟩ (fun a oe cls d pn _ _ => pss_one ps_never) (HdsM.bare ⟨rfl, by decide, .inl M.g_InvalidSchema⟩ (fun a oe cls d pn _ _ => pss_one ps_never) (HdsM.bare ⟨rfl, by decide, .inl M.g_InvalidTree⟩ (fun a oe cls d pn _ _ => pss_one ps_never) (HdsM.bare ⟨rfl, by decide, .inl M.g_InvalidDeed⟩ (fun a oe cls d pn _ _ => pss_one ps_never) (HdsM.bare ⟨rfl, by decide, .inl M.g_InvalidFilter⟩ (fun a oe cls d pn _ _ => pss_one ps_never) (HdsM.bare ⟨rfl, by decide, .inl M.g_InvalidLetter⟩ (fun a oe cls d pn _ _ => pss_one ps_never) (HdsM.bare ⟨rfl, by decide, .inl M.g_InvalidOperation⟩ (fun a oe cls d pn _ _ => pss_one (ps_ret pe_str)) (HdsM.named (i := 1) ⟨rfl, by decide, .inl M.g_ParseError⟩ sc_law_met.nd rfl rfl (fun a oe cls d pn _ _ => pss_one ps_never) (HdsM.named (i := 1) ⟨rfl, by decide, .inl M.g_InvalidNumber⟩ sc_law_met.nd rfl rfl (fun a oe cls d pn _ _ => pss_one ps_never) (HdsM.named (i := 1) ⟨rfl, by decide, .inl M.g_TooMany⟩ sc_law_met.nd rfl rfl (fun a oe cls d pn _ _ => pss_one ps_never) (HdsM.named (i := 1) ⟨rfl, by decide, .inl M.g_UnknownNumber⟩ sc_law_met.nd rfl rfl (fun a oe cls d pn _ _ => pss_one ps_never) (HdsM.named (i := 1) ⟨rfl, by decide, .inl M.g_UnknownName⟩ sc_law_met.nd rfl rfl (fun a oe cls d pn _ _ => pss_one ps_never) (HdsM.named (i := 1) ⟨rfl, by decide, .inl M.g_Refused⟩ sc_law_met.nd rfl rfl (fun a oe cls d pn _ _ => pss_one ps_never) HdsM.nil)))))))))))))))) (pss_one (ps_ret pe_str)), ?_⟩
  · refine ⟨fun pins s' σ H' D I h' => ?_⟩
    obtain ⟨Ech, hW, h1, h2, h3⟩ := h'
    exact PSs.run (pss_one (ps_expr (act W pn xe Ech _ _ tk hW))) pins s' σ H' D I ⟨h1, h2, h3⟩
  · refine ⟨MetW g CT CW CO Q, fun cls d σ' H' hm => ?_, rfl, hc, h⟩
    rcases hm with ⟨rfl, dd, v, r, rfl, hx, rp, fin⟩ | ⟨rfl, dd, v, r, rfl, hx, rp, fin⟩ | ⟨rfl, fin⟩
    · refine ⟨true, M.e_TT, iteT fun a na hl => ?_⟩
      have s1 : (σ'.set 1 (some (V.ref a)))[1]? = some (some (V.ref a)) := by
        rw [List.getElem?_set_self (by rw [hl]; show 1 < n_law_met.length; decide)]
      exact ⟨.ref a, s1, rfl, rfl, dd, _, v, rfl, hx, by simp, v, r, rfl, rp, "text ", r, rfl, rfl, short5 (by decide +kernel) rp, fin⟩
    · refine ⟨false, M.e_WT, iteF ⟨true, M.e_WW, iteT fun a na hl => ?_⟩⟩
      have s1 : (σ'.set 1 (some (V.ref a)))[1]? = some (some (V.ref a)) := by
        rw [List.getElem?_set_self (by rw [hl]; show 1 < n_law_met.length; decide)]
      exact ⟨.ref a, s1, rfl, rfl, dd, _, v, rfl, hx, by simp, v, r, rfl, rp, "word ", r, rfl, rfl, short5 (by decide +kernel) rp, fin⟩
    · refine ⟨false, M.e_OCT, iteF ⟨false, M.e_OCW, iteF ⟨false, M.e_Oc2, iteF ⟨false, M.e_Oc3, iteF ⟨false, M.e_Oc4, iteF ⟨false, M.e_Oc5, iteF ⟨false, M.e_Oc6, iteF ⟨false, M.e_Oc7, iteF ⟨true, M.e_OO, iteT fun a na hl => ?_⟩⟩⟩⟩⟩⟩⟩⟩⟩
      exact fin
end
end Bw

namespace Bw
open PySem PySem.Spec L2 LamX TL PyProof.Rows

/-! ### the heap but for the tables -/
theorem extN_same {H H' : Hp} (s : Same H H') : ExtN H H' := fun b o e _ => s b o e
theorem NoTx.upN {H H' : Hp} {v : V} (h : NoTx H v) (e : ExtN H H') : NoTx H' v := by
  cases h with
  | non => exact .non
  | bl b => exact .bl b
  | int i => exact .int i
  | lst q => exact .lst (e _ _ q nofun)
  | tup q => exact .tup (e _ _ q nofun)
  | dct q => exact .dct (e _ _ q nofun)
theorem ShV.upN {H H' : Hp} {v : V} (h : ShV H v) (e : ExtN H H') : ShV H' v := by
  cases h with
  | str x h => exact .str x h
  | int i h hb => exact .int i h hb
  | bl b => exact .bl b
  | non => exact .non
  | lst q => exact .lst (e _ _ q nofun)
  | tup q => exact .tup (e _ _ q nofun)
  | dct q => exact .dct (e _ _ q nofun)
theorem RpV.upN {g : List Code} {H H' : Hp} {v : V} {r : Str} (h : RpV g H v r) (e : ExtN H H') : RpV g H' v r := by
  cases h with
  | non => exact .non
  | bl b => exact .bl b
  | int i h hz => exact .int i h hz
  | str x h => exact .str x h
  | tup q h hz => exact .tup (e _ _ q nofun) h hz
  | lst q h hz => exact .lst (e _ _ q nofun) h hz
  | dct q => exact .dct (e _ _ q nofun)
theorem tyX_upN {K : PySem.W.Frag} {H H' : Hp} {v : V} {t : Value} (e : ExtN H H') (ty : TyX K H v t) : TyX K H' v t := by
  cases ty with
  | base b =>
    refine .base ?_
    cases b with
    | non => exact .non
    | bl x => exact .bl x
    | int i => exact .int i
    | str x => exact .str x
    | flt x => exact .flt x
    | lst q => exact .lst (e _ _ q nofun)
    | frz q => exact .frz (e _ _ q nofun)
    | tup q => exact .tup (e _ _ q nofun)
    | dK q => exact .dK (e _ _ q nofun)
    | dT q => exact .dT (e _ _ q nofun)
    | ins q cl ha hn htk hm => exact .ins (e _ _ q nofun) cl ha hn htk hm
  | byt b => exact .byt b
  | set q => exact .set (e _ _ q nofun)
  | kList q c => exact .kList q c
  | kTuple q c => exact .kTuple q c
  | kDict q c => exact .kDict q c
  | fTuple q => exact .fTuple (e _ _ q nofun)
  | fDict q => exact .fDict (e _ _ q nofun)
theorem BadK.upN {H H' : Hp} {v : V} (h : BadK H v) (e : ExtN H H') : BadK H' v := ⟨h.1.imp (fun q => q.upN e) id, h.2.upN e⟩
theorem NotStr.upN {K : PySem.W.Frag} {H H' : Hp} {v : V} (h : NotStr K H v) (e : ExtN H H') : NotStr K H' v := h.imp fun _ q => ⟨tyX_upN e q.1, q.2⟩
theorem NotTup.upN {K : PySem.W.Frag} {H H' : Hp} {v : V} (h : NotTup K H v) (e : ExtN H H') : NotTup K H' v := h.imp fun _ q => ⟨tyX_upN e q.1, q.2⟩
theorem BadT.upN {K : PySem.W.Frag} {H H' : Hp} {v : V} (h : BadT K H v) (e : ExtN H H') : BadT K H' v := ⟨h.1.imp id fun q => q.upN e, h.2.upN e⟩
theorem BadF.upN {K : PySem.W.Frag} {k : Kd} {H H' : Hp} {v : V} (h : BadF K k H v) (e : ExtN H H') : BadF K k H' v := ⟨h.1.imp id fun q => q.upN e, h.2.upN e⟩
theorem BadT.form {K : PySem.W.Frag} {H : Hp} {v : V} (h : BadT K H v) (k : Kd) : BadF K k H v := ⟨h.1.imp (fun ⟨x, e, hl, q⟩ => ⟨x, e, hl, by rw [q]; rfl⟩) id, h.2⟩
theorem BadP.upN {K : PySem.W.Frag} {H H' : Hp} {v : V} (h : BadP K H v) (e : ExtN H H') : BadP K H' v := by
  refine ⟨?_, h.2.upN e⟩
  rcases h.1 with no | ⟨a, xs, rfl, ha, n3, hl⟩ | ⟨a, f, m, l, rfl, ha, sf, sl, q⟩
  · exact .inl (no.upN e)
  · exact .inr (.inl ⟨a, xs, rfl, e _ _ ha nofun, n3, hl⟩)
  · refine .inr (.inr ⟨a, f, m, l, rfl, e _ _ ha nofun, sf, sl, ?_⟩)
    rcases q with no | ⟨b, ys, rfl, hb, hy, hl, q⟩
    · exact .inl (no.upN e)
    · exact .inr ⟨b, ys, rfl, e _ _ hb nofun, hy, hl, q⟩
/-- repr gives some text -/
def RpAll (H : Hp) (v : V) : Prop := ∀ g, ∃ r, RpV g H v r ∧ PyData.strOk r = true
theorem RpAll.upN {H H' : Hp} {v : V} (h : RpAll H v) (e : ExtN H H') : RpAll H' v := fun g => (h g).imp fun _ q => ⟨q.1.upN e, q.2⟩

/-! ### _law_met(lambda ..) -/
/-- what the def that makes lambdas needs -/
structure LmX (X : Cx) (g : List Code) (T : List (Addr × Str)) (CT CW CO : Addr) : Prop where
  call : ∃ (gM : Addr) (fdM : FuncData), Fun X.K "_law_met" "_law_met" s_law_met gM fdM ∧ X.mg "_law_met" = some (.ref gM) ∧ Binds X.K fdM ["_law_call"] []
  met : ∃ c2 c3 c4 c5 c6 c7 c9 c10 c11 c12 c13 c14 : Addr, MetF X.K X.mg CT CW CO c2 c3 c4 c5 c6 c7 c9 c10 c11 c12 c13 c14
  rep : X.mg "repr" = none
  gds : X.A.guards = some g
  tab : ∃ c P : Addr, TabB X.base X.mg c P ∧ X.env.code = .ref c ∧ (P, X.env.qual ++ "<lambda>") ∈ T ∧ ∀ p ∈ T, p.1 = P → p.2 = X.env.qual ++ "<lambda>"
section
variable {X : Cx} {g : List Code} {T : List (Addr × Str)} {CT CW CO : Addr} {k : Nat} {params : Arguments} {body : Expr} {scope : Scope} {t : XK → TE} {p lpos pos dp : Pos} {n : Int} {j : Nat} {a : Str}
theorem pe_met0 (LX : LmX X g T CT CW CO) (hr : Room (k + 2) X.A) (inner : ∀ (A : Around) (outer : List Env) (s : Shared) (H : Hp) (E : XK) (f c' : Addr), Room k (A.deeper (lamEnv X scope s.heap.objs.size f c')) → PE (lamCx X A outer s H E scope f c') body (t E))
    {sc : Scope} (L : lamSB sc scope = true := by decide +kernel) (hsc : X.env.scope = sc := by rfl) (hdef : defaultsOf params X.env = ([], []) := by rfl)
    (hbind : ∀ (q : Str) (cl : List (Str × Addr)) (pm cv ctv : Value), bindArgs (PySem.W.kla_fn "<lambda>" q params body scope cl pm cv ctv) ⟨[], []⟩ = pure [] := by intros; rfl) (hg : Gl X "_law_met" := by rfl) :
    PE X (.Call (.Name "_law_met" p) [.Lambda params body scope lpos] [] pos) (tLam T (TMet g CT CW CO) t) := by
  subst hsc
  obtain ⟨gM, fdM, F, m, b⟩ := LX.call
  obtain ⟨c2, c3, c4, c5, c6, c7, c9, c10, c11, c12, c13, c14, M⟩ := LX.met
  obtain ⟨c, P, TB, hcode, mem, only⟩ := LX.tab
  obtain ⟨oc, od, kV, doc, pm, an, cdv, ct, osl, rfl, lk, hcd⟩ := F.ex
  have hu := hr.units
  exact pe_lamcall hg m F.kp lk hcd b sc_law_met rfl (.inl rfl) (met_gives M LX.rep LX.gds (by omega)) TB hcode mem only hr (lamS_by L) hdef hbind inner
theorem pe_met1 (LX : LmX X g T CT CW CO) (hr : Room (k + 2) X.A) (inner : ∀ (A : Around) (outer : List Env) (s : Shared) (H : Hp) (E : XK) (f c' : Addr), Room k (A.deeper (lamEnv X scope s.heap.objs.size f c')) → PE (lamCx X A outer s H E scope f c') body (t E))
    {sc : Scope} {Nn : List Str} (L : lamPB sc scope "_law_one" = true := by decide +kernel) (nop : ("_law_one" : Str) ∉ Nn := by decide) (hsc : X.env.scope = sc := by rfl) (hNn : X.N = Nn := by rfl) (hdf : params.defaults = [.Constant (.int n) j dp] := by rfl) (hkd : params.kw_defaults = [] := by rfl)
    (hbp : BindP params body scope "_law_one" := by intro q cl t doc pm cv ctv v sh h; exact BindsTo.of_defaults rfl h rfl rfl rfl) (hg : Gl X "_law_met" := by rfl) :
    PE X (.Call (.Name "_law_met" p) [.Lambda params body scope lpos] [] pos) (tLam T (TMet g CT CW CO) t) := by
  subst hsc hNn
  obtain ⟨gM, fdM, F, m, b⟩ := LX.call
  obtain ⟨c2, c3, c4, c5, c6, c7, c9, c10, c11, c12, c13, c14, M⟩ := LX.met
  obtain ⟨c, P, TB, hcode, mem, only⟩ := LX.tab
  obtain ⟨oc, od, kV, doc, pm, an, cdv, ct, osl, rfl, lk, hcd⟩ := F.ex
  have hu := hr.units
  exact pe_lampcall hg m F.kp lk hcd b sc_law_met rfl (.inl rfl) (met_gives M LX.rep LX.gds (by omega)) TB hcode mem only hr (lamP_by L) nop hdf hkd hbp inner
end
end Bw

namespace Bw
open PySem PySem.Spec L2 LamX TL PyProof.Rows

theorem met_word {g : List Code} {T : List (Addr × Str)} {CT CW CO : Addr} {v : V} {H H1 : Hp} {Q : VK} {r : Str} (rp : RpV g H v r) (e1 : ExtN H H1) (t1 : Tabs T H1) (fin : ∀ H', ExtN H H' → Tabs T H' → Q (.str ("word " ++ r)) H') : EVal CW v H1 (MetW g CT CW CO Q) :=
  fun d H' s e => .inr (.inl ⟨rfl, d, v, r, rfl, e, (rp.upN e1).up s, fin H' (e1.trans (extN_same s)) (t1.ext s)⟩)
theorem met_text {g : List Code} {T : List (Addr × Str)} {CT CW CO : Addr} {v : V} {H H1 : Hp} {Q : VK} {r : Str} (rp : RpV g H v r) (e1 : ExtN H H1) (t1 : Tabs T H1) (fin : ∀ H', ExtN H H' → Tabs T H' → Q (.str ("text " ++ r)) H') : EVal CT v H1 (MetW g CT CW CO Q) :=
  fun d H' s e => .inl ⟨rfl, d, v, r, rfl, e, (rp.upN e1).up s, fin H' (e1.trans (extN_same s)) (t1.ext s)⟩
theorem met_op {g : List Code} {T : List (Addr × Str)} {CT CW CO : Addr} {H H1 : Hp} {Q : VK} (e1 : ExtN H H1) (t1 : Tabs T H1) (fin : ∀ H', ExtN H H' → Tabs T H' → Q (.str "operation") H') : EOp CO H1 (MetW g CT CW CO Q) :=
  fun H' s => .inr (.inr ⟨rfl, fin H' (e1.trans (extN_same s)) (t1.ext s)⟩)
theorem tabs_new {T : List (Addr × Str)} {H : Hp} {p : Addr} {o : HO} (t : Tabs T H) (n : H p = none) : Tabs T (upd H p o) := t.ext (same_new n)
theorem extN_new {H H0 : Hp} {p : Addr} {o : HO} (e : ExtN H0 H) (n : H p = none) : ExtN H0 (upd H p o) := e.trans (extN_same (same_new n))
def strsD (l : List Str) : PyData := .list (l.map .str)
theorem dpla_strs {K : PySem.W.Frag} {H : Hp} : ∀ l : List Str, DpAll K H (l.map V.str) (l.map PyData.str)
  | [] => .nil
  | x :: r => .cons (.str x) (dpla_strs r)
theorem dpl_strs {K : PySem.W.Frag} {H : Hp} {a : Addr} {l : List Str} (h : H a = some (.lst (l.map V.str))) : Dp K H (.ref a) (strsD l) := .lst (SqL.of h) (dpla_strs l)
theorem laid_strs : ∀ l : List Str, (∀ x ∈ l, PyData.strOk x = true) → PyData.canLayAll0 (l.map PyData.str) = true
  | [], _ => rfl
  | x :: r, h => by
    show (PyData.strOk x && PyData.canLayAll0 (r.map PyData.str)) = true
    rw [laid_strs r fun y hy => h y (List.mem_cons_of_mem _ hy), h x (List.mem_cons_self ..)]
    rfl
theorem dep_strs : ∀ l : List Str, PyData.depthAll (l.map PyData.str) = 0
  | [] => rfl
  | x :: r => by
    show max (PyData.depth (.str x)) (PyData.depthAll (r.map PyData.str)) = 0
    rw [dep_strs r]
    rfl
theorem shd_strs {l : List Str} (h : ∀ x ∈ l, PyData.strOk x = true) : SeqAt.shaped (strsD l) = true := by
  unfold SeqAt.shaped strsD
  rw [Bool.and_eq_true, decide_eq_true_eq]
  refine ⟨laid_strs l h, ?_⟩
  show PyData.depthAll (l.map PyData.str) + 1 ≤ 64
  rw [dep_strs]
  decide
/-- two lists of the same texts -/
theorem eq_strs {K : PySem.W.Frag} {H : Hp} {a b : Addr} {l : List Str} {Q : VK} (ha : H a = some (.lst (l.map V.str))) (hb : H b = some (.lst (l.map V.str))) (h : ∀ x ∈ l, PyData.strOk x = true) (q : Q (.bl true) H) : rEqD K (.ref a) (.ref b) H Q := by
  have sh := shd_strs h
  refine ⟨strsD l, strsD l, dpl_strs ha, dpl_strs hb, sh, sh, ?_⟩
  rw [SeqAt.eqv_refl _ (SeqAt.canLay_of_shaped sh)]
  exact q
theorem strOk_app {x y : Str} (hx : PyData.strOk x = true) (hy : PyData.strOk y = true) : PyData.strOk (x ++ y) = true := by
  unfold PyData.strOk at *
  show (x.cps ++ y.cps).all _ = true
  rw [Array.all_append, hx, hy]
  rfl
def spKR (T : List (Addr × Str)) : Sp := fun vs H Q _ => ∃ v u t, vs = [v, u, t] ∧ BadK H v ∧ RpAll H v ∧ Tabs T H ∧ ∀ H', ExtN H H' → Tabs T H' → Q (.bl true) H'
section
variable {P : Program} {w : World} {K : PySem.W.Frag} {mg : Str → Option Value} {base : Heap} {f c : Addr} {fd : FuncData} {aK aO CW CT CO : Addr} {T' : List (Addr × Str)}
/-- what is wanted of the maker's surroundings -/
structure LmF (K : PySem.W.Frag) (mg : Str → Option Value) (base : Heap) (T : List (Addr × Str)) (CT CW CO : Addr) (c : Addr) (q : Str) : Prop where
  call : ∃ (gM : Addr) (fdM : FuncData), Fun K "_law_met" "_law_met" s_law_met gM fdM ∧ mg "_law_met" = some (.ref gM) ∧ Binds K fdM ["_law_call"] []
  met : ∃ c2 c3 c4 c5 c6 c7 c9 c10 c11 c12 c13 c14 : Addr, MetF K mg CT CW CO c2 c3 c4 c5 c6 c7 c9 c10 c11 c12 c13 c14
  tab : ∃ P : Addr, TabB base mg c P ∧ (P, q) ∈ T ∧ ∀ p ∈ T, p.1 = P → p.2 = q
theorem ok_law_kinds_right (F : FunC K "_law_kinds_right" "_law_kinds_right" s_law_kinds_right f fd c) (T : Txt K mg aK) (LF : LmF K mg base T' CT CW CO c "_law_kinds_right.<locals>.<lambda>")
    (DK_is_fit : DfnX P w K mg base "is_fit" 7 ["kind", "value"] (spK2 CW)) (DK_is_form : DfnX P w K mg base "is_form" 7 ["kind", "value"] (spK2 CW)) (DK_form_of : DfnX P w K mg base "form_of" 7 ["kind", "text"] (spK2 CW)) (DK_is_less : DfnX P w K mg base "is_less" 7 ["kind", "one", "other"] (spK3 CW))
    (DK_pattern_form : DfnX P w K mg base "pattern_form" 7 ["kind", "pattern"] (spK2 CW)) (DK_does_match : DfnX P w K mg base "does_match" 8 ["kind", "pattern", "form"] (spK3 CW)) : FnOk P w K mg base CX0 11 f fd ["_law_bad", "_law_odd", "_law_wrong"] (spKR T') := by
  refine okG F sc_law_kinds_right (fun vs H Q E h => ?_) (fun A g outer s H vs Q E hA hr h => ?_)
  · obtain ⟨v, u, t, rfl, _⟩ := h
    rfl
  · obtain ⟨v, u, t, rfl, bad, rpa, tabs, q⟩ := h
    obtain ⟨r, rp, rok⟩ := rpa g
    have LX : LmX (cxOf CX0 P w K mg base n_law_kinds_right "_law_kinds_right" (defScope s_law_kinds_right) f (.ref c) A outer s H E).nox g T' CT CW CO := ⟨LF.call, LF.met, T.b_repr, hA, by
      obtain ⟨P, a1, a2, a3⟩ := LF.tab
      exact ⟨c, P, a1, rfl, a2, a3⟩⟩
    have hu2 : A.units + 3 + 2 < cLine := by
      have : (A.units + 3) + 64 < cLine := hr.units
      omega
    refine ⟨_, (pss_cons (ps_set (i := 3) sc_law_kinds_right.nd rfl (Or.inl rfl) (pe_lst (pa_cons (pe_met0 (sc := defScope s_law_kinds_right) LX hr (fun A outer s H E f c' hr2 => pe_dX DK_is_fit (takes_of rfl rfl rfl rfl) hr2 (by decide) (pa_cons (pv 0) (pa_cons (pv 1) pa_nil)))) (pa_cons (pe_met1 (sc := defScope s_law_kinds_right) (Nn := n_law_kinds_right) LX hr (fun A outer s H E f c' hr2 => pe_dX DK_is_form (takes_of rfl rfl rfl rfl) hr2 (by decide) (pa_cons (pv 0) (pa_cons (pv 1) pa_nil)))) pa_nil)))) (pss_cons (ps_set (i := 3) sc_law_kinds_right.nd rfl (Or.inl rfl) (pe_op op_cat (pv 3) (pe_lst (pa_cons (pe_met0 (sc := defScope s_law_kinds_right) LX hr (fun A outer s H E f c' hr2 => pe_dX DK_form_of (takes_of rfl rfl rfl rfl) hr2 (by decide) (pa_cons (pv 0) (pa_cons (pv 1) pa_nil)))) (pa_cons (pe_met1 (sc := defScope s_law_kinds_right) (Nn := n_law_kinds_right) LX hr (fun A outer s H E f c' hr2 => pe_dX DK_is_less (takes_of rfl rfl rfl rfl) hr2 (by decide) (pa_cons (pv 0) (pa_cons (pv 1) (pa_cons (pv 1) pa_nil))))) pa_nil))))) (pss_cons (ps_set (i := 3) sc_law_kinds_right.nd rfl (Or.inl rfl) (pe_op op_cat (pv 3) (pe_lst (pa_cons (pe_met0 (sc := defScope s_law_kinds_right) LX hr (fun A outer s H E f c' hr2 => pe_dX DK_pattern_form (takes_of rfl rfl rfl rfl) hr2 (by decide) (pa_cons (pv 0) (pa_cons (pv 2) pa_nil)))) (pa_cons (pe_met1 (sc := defScope s_law_kinds_right) (Nn := n_law_kinds_right) LX hr (fun A outer s H E f c' hr2 => pe_dX DK_does_match (takes_of rfl rfl rfl rfl) hr2 (by decide) (pa_cons (pv 0) (pa_cons (pv 2) (pa_cons (pv 1) pa_nil))))) pa_nil))))) (pss_one (ps_ret (pe_cmpR (op_eqD hr.units) (pv 3) (pe_op op_rep (pe_lst (pa_cons (pe_op op_add_str pe_str (pe_callB (r := rRp g) (call_rp hA hu2) (by rfl) T.b_repr (by decide +kernel) (pa_cons (pv 0) pa_nil))) pa_nil)) pe_int) (nomark _))))))), ?_⟩
    have l2 : (2 : Nat) ≤ sizeLine := by decide
    have l4 : (4 : Nat) ≤ sizeLine := by decide
    have l6 : (6 : Nat) ≤ sizeLine := by decide
    refine ⟨tabs, fun H1 e1 t1 => ⟨_, rfl, _, rfl, v, u, rfl, bad.upN e1, met_word rp e1 t1 fun H2 e2 t2 => ?_⟩⟩
    refine ⟨t2, fun H3 e3 t3 => ⟨_, rfl, _, rfl, v, u, rfl, bad.upN (e2.trans e3), met_word rp (e2.trans e3) t3 fun H4 e4 t4 => ?_⟩⟩
    refine ⟨l2, fun p hp => ?_⟩
    have b1 := extN_new (o := .lst [.str ("word " ++ r), .str ("word " ++ r)]) e4 hp
    have u1 := tabs_new (o := .lst [.str ("word " ++ r), .str ("word " ++ r)]) t4 hp
    generalize eH : upd H4 p (.lst [.str ("word " ++ r), .str ("word " ++ r)]) = K1 at b1 u1
    have k1 : K1 p = some (.lst [.str ("word " ++ r), .str ("word " ++ r)]) := by rw [← eH]; exact upd_same
    have rp1 := rp.upN b1
    have bad1 := bad.upN b1
    show tSeq _ _ _ _ K1
    refine ⟨_, rfl, u1, fun H1 e1 t1 => ⟨_, rfl, _, rfl, v, u, rfl, bad1.upN e1, met_word rp1 e1 t1 fun H2 e2 t2 => ?_⟩⟩
    refine ⟨t2, fun H3 e3 t3 => ⟨_, rfl, _, rfl, _, rfl, v, u, u, rfl, bad1.upN (e2.trans e3), met_word rp1 (e2.trans e3) t3 fun H4 e4 t4 => ?_⟩⟩
    refine ⟨l2, fun p2 hp2 => ?_⟩
    have n2 : upd H4 p2 (.lst [.str ("word " ++ r), .str ("word " ++ r)]) p = some (.lst [.str ("word " ++ r), .str ("word " ++ r)]) := by
      rw [upd_ne (ne_of_none (e4 _ _ k1 nofun) hp2)]
      exact e4 _ _ k1 nofun
    refine ⟨p, p2, _, _, rfl, rfl, n2, upd_same, l4, fun p3 hp3 => ?_⟩
    have b2 := extN_new (o := .lst [.str ("word " ++ r), .str ("word " ++ r), .str ("word " ++ r), .str ("word " ++ r)]) (b1.trans (extN_new (o := .lst [.str ("word " ++ r), .str ("word " ++ r)]) e4 hp2)) hp3
    have u2 := tabs_new (o := .lst [.str ("word " ++ r), .str ("word " ++ r), .str ("word " ++ r), .str ("word " ++ r)]) (tabs_new (o := .lst [.str ("word " ++ r), .str ("word " ++ r)]) t4 hp2) hp3
    show tSeq _ _ _ _ (upd _ p3 (.lst [.str ("word " ++ r), .str ("word " ++ r), .str ("word " ++ r), .str ("word " ++ r)]))
    clear n2 t4 e4 t3 e3 t2 e2 t1 e1 
    generalize eK : upd (upd H4 p2 (.lst [.str ("word " ++ r), .str ("word " ++ r)])) p3 (.lst [.str ("word " ++ r), .str ("word " ++ r), .str ("word " ++ r), .str ("word " ++ r)]) = K2 at b2 u2
    have k2 : K2 p3 = some (.lst [.str ("word " ++ r), .str ("word " ++ r), .str ("word " ++ r), .str ("word " ++ r)]) := by rw [← eK]; exact upd_same
    have rp2 := rp.upN b2
    have bad2 := bad.upN b2
    refine ⟨_, rfl, u2, fun H1 e1 t1 => ⟨_, rfl, _, rfl, v, t, rfl, bad2.upN e1, met_word rp2 e1 t1 fun H2 e2 t2 => ?_⟩⟩
    refine ⟨t2, fun H3 e3 t3 => ⟨_, rfl, _, rfl, _, rfl, v, t, u, rfl, bad2.upN (e2.trans e3), met_word rp2 (e2.trans e3) t3 fun H4 e4 t4 => ?_⟩⟩
    refine ⟨l2, fun p4 hp4 => ?_⟩
    have n3 : upd H4 p4 (.lst [.str ("word " ++ r), .str ("word " ++ r)]) p3 = some (.lst [.str ("word " ++ r), .str ("word " ++ r), .str ("word " ++ r), .str ("word " ++ r)]) := by
      rw [upd_ne (ne_of_none (e4 _ _ k2 nofun) hp4)]
      exact e4 _ _ k2 nofun
    refine ⟨p3, p4, _, _, rfl, rfl, n3, upd_same, l6, fun p5 hp5 => ?_⟩
    have b3 := extN_new (o := .lst [.str ("word " ++ r), .str ("word " ++ r), .str ("word " ++ r), .str ("word " ++ r), .str ("word " ++ r), .str ("word " ++ r)]) (b2.trans (extN_new (o := .lst [.str ("word " ++ r), .str ("word " ++ r)]) e4 hp4)) hp5
    have u3 := tabs_new (o := .lst [.str ("word " ++ r), .str ("word " ++ r), .str ("word " ++ r), .str ("word " ++ r), .str ("word " ++ r), .str ("word " ++ r)]) (tabs_new (o := .lst [.str ("word " ++ r), .str ("word " ++ r)]) t4 hp4) hp5
    change gName 3 _ _ (upd _ p5 (.lst [.str ("word " ++ r), .str ("word " ++ r), .str ("word " ++ r), .str ("word " ++ r), .str ("word " ++ r), .str ("word " ++ r)])) _
    clear n3 t4 e4 t3 e3 t2 e2 t1 e1 
    generalize eK3 : upd (upd H4 p4 (.lst [.str ("word " ++ r), .str ("word " ++ r)])) p5 (.lst [.str ("word " ++ r), .str ("word " ++ r), .str ("word " ++ r), .str ("word " ++ r), .str ("word " ++ r), .str ("word " ++ r)]) = K3 at b3 u3
    have k3 : K3 p5 = some (.lst [.str ("word " ++ r), .str ("word " ++ r), .str ("word " ++ r), .str ("word " ++ r), .str ("word " ++ r), .str ("word " ++ r)]) := by rw [← eK3]; exact upd_same
    have l1 : (1 : Nat) ≤ sizeLine := by decide
    refine ⟨_, rfl, _, rfl, v, r, rfl, rp.upN b3, "word ", r, rfl, rfl, short5 (by decide +kernel) rp, l1, fun p6 hp6 => ?_⟩
    refine ⟨p6, _, _, rfl, rfl, upd_same, by decide, by decide, l6, fun p7 hp7 => ?_⟩
    have n7 := (same_new (o := .lst [.str ("word " ++ r)]) hp6).trans (same_new (o := .lst (List.replicate (Int.toNat 6) [V.str ("word " ++ r)]).flatten) hp7)
    refine eq_strs (l := List.replicate 6 ("word " ++ r)) (n7 _ _ k3) upd_same (fun x hx => ?_) (q _ (b3.trans (extN_same n7)) (u3.ext n7))
    rw [List.eq_of_mem_replicate hx]
    exact strOk_app (by decide +kernel) rok
end
end Bw

namespace Bw
open PySem PySem.Spec L2 LamX TL PyProof.Rows

def spTR (K : PySem.W.Frag) (T : List (Addr × Str)) : Sp := fun vs H Q _ => ∃ (k : Kd) (v : V), vs = [.str k.str, v] ∧ BadT K H v ∧ RpAll H v ∧ Tabs T H ∧ ∀ H', ExtN H H' → Tabs T H' → Q (.bl true) H'
section
variable {P : Program} {w : World} {K : PySem.W.Frag} {mg : Str → Option Value} {base : Heap} {f c : Addr} {fd : FuncData} {aK aO CW CT CO : Addr} {T' : List (Addr × Str)}
theorem ok_law_texts_right (F : FunC K "_law_texts_right" "_law_texts_right" s_law_texts_right f fd c) (T : Txt K mg aK) (LF : LmF K mg base T' CT CW CO c "_law_texts_right.<locals>.<lambda>")
    (DT_form_of : DfnX P w K mg base "form_of" 6 ["kind", "text"] (spT2 K CT)) (D_is_fit : Dfn P w K mg base "is_fit" 6 ["kind", "value"] (spFit K)) (D_is_form : Dfn P w K mg base "is_form" 6 ["kind", "value"] (spForm K)) : FnOk P w K mg base CX0 11 f fd ["_law_kind", "_law_odd"] (spTR K T') := by
  refine okG F sc_law_texts_right (fun vs H Q E h => ?_) (fun A g outer s H vs Q E hA hr h => ?_)
  · obtain ⟨k, v, rfl, _⟩ := h
    rfl
  · obtain ⟨k, v, rfl, bad, rpa, tabs, q⟩ := h
    obtain ⟨r, rp, rok⟩ := rpa g
    have LX : LmX (cxOf CX0 P w K mg base n_law_texts_right "_law_texts_right" (defScope s_law_texts_right) f (.ref c) A outer s H E).nox g T' CT CW CO := ⟨LF.call, LF.met, T.b_repr, hA, by
      obtain ⟨P, a1, a2, a3⟩ := LF.tab
      exact ⟨c, P, a1, rfl, a2, a3⟩⟩
    have hu2 : A.units + 3 + 2 < cLine := by
      have : (A.units + 3) + 64 < cLine := hr.units
      omega
    refine ⟨_, (pss_cons (ps_set (i := 2) sc_law_texts_right.nd rfl (Or.inl rfl) (pe_lst (pa_cons (pe_met0 (sc := defScope s_law_texts_right) LX hr (fun A outer s H E f c' hr2 => pe_dX DT_form_of (takes_of rfl rfl rfl rfl) hr2 (by decide) (pa_cons (pv 0) (pa_cons (pv 1) pa_nil)))) (pa_cons (pe_callB call_repr_bl (by rfl) T.b_repr (by decide +kernel) (pa_cons (pe_d D_is_fit hr (by decide) (pa_cons (pv 0) (pa_cons (pv 1) pa_nil))) pa_nil)) (pa_cons (pe_callB call_repr_bl (by rfl) T.b_repr (by decide +kernel) (pa_cons (pe_d D_is_form hr (by decide) (pa_cons (pv 0) (pa_cons (pv 1) pa_nil))) pa_nil)) pa_nil))))) (pss_one (ps_ret (pe_cmpR (op_eqD hr.units) (pv 2) (pe_lst (pa_cons (pe_op op_add_str pe_str (pe_callB (r := rRp g) (call_rp hA hu2) (by rfl) T.b_repr (by decide +kernel) (pa_cons (pv 1) pa_nil))) (pa_cons pe_str (pa_cons pe_str pa_nil)))) (nomark _))))), ?_⟩
    have l3 : (3 : Nat) ≤ sizeLine := by decide
    refine ⟨tabs, fun H1 e1 t1 => ⟨_, rfl, _, rfl, k, v, rfl, bad.upN e1, met_text rp e1 t1 fun H2 e2 t2 => ?_⟩⟩
    refine ⟨_, rfl, _, rfl, k, v, rfl, ?_⟩
    rcases bad.1 with ⟨x, rfl, hl, e⟩ | no
    · refine .inl ⟨x, rfl, hl, fun H3 s3 => ?_⟩
      rw [e]
      refine ⟨false, rfl, _, rfl, _, rfl, k, .str x, rfl, .inl ⟨x, rfl, hl, fun H4 s4 => ?_⟩⟩
      rw [e]
      have e3 := e2.trans (extN_same s3)
      have e4 := e3.trans (extN_same s4)
      refine ⟨false, rfl, l3, fun p hp => ⟨_, rfl, _, rfl, _, r, rfl, rp.upN (extN_new e4 hp), "text ", r, rfl, rfl, short5 (by decide +kernel) rp, l3, fun p2 hp2 => ?_⟩⟩
      have n1 := (same_new (o := .lst [V.str ("text " ++ r), .str "False", .str "False"]) hp).trans (same_new (o := .lst [V.str ("text " ++ r), .str "False", .str "False"]) hp2)
      refine eq_strs (l := ["text " ++ r, "False", "False"]) ((same_new hp2) _ _ upd_same) upd_same (fun x hx => ?_) (q _ (e4.trans (extN_same n1)) (((t2.ext s3).ext s4).ext n1))
      simp only [List.mem_cons, List.not_mem_nil, or_false] at hx
      rcases hx with rfl | rfl | rfl
      · exact strOk_app (by decide +kernel) rok
      · decide +kernel
      · decide +kernel
    · refine .inr ⟨no.upN e2, fun H3 s3 => ⟨false, rfl, _, rfl, _, rfl, k, v, rfl, .inr ⟨no.upN (e2.trans (extN_same s3)), fun H4 s4 => ?_⟩⟩⟩
      have e3 := e2.trans (extN_same s3)
      have e4 := e3.trans (extN_same s4)
      refine ⟨false, rfl, l3, fun p hp => ⟨_, rfl, _, rfl, _, r, rfl, rp.upN (extN_new e4 hp), "text ", r, rfl, rfl, short5 (by decide +kernel) rp, l3, fun p2 hp2 => ?_⟩⟩
      have n1 := (same_new (o := .lst [V.str ("text " ++ r), .str "False", .str "False"]) hp).trans (same_new (o := .lst [V.str ("text " ++ r), .str "False", .str "False"]) hp2)
      refine eq_strs (l := ["text " ++ r, "False", "False"]) ((same_new hp2) _ _ upd_same) upd_same (fun x hx => ?_) (q _ (e4.trans (extN_same n1)) (((t2.ext s3).ext s4).ext n1))
      simp only [List.mem_cons, List.not_mem_nil, or_false] at hx
      rcases hx with rfl | rfl | rfl
      · exact strOk_app (by decide +kernel) rok
      · decide +kernel
      · decide +kernel
end
end Bw

namespace Bw
open PySem PySem.Spec L2 LamX TL PyProof.Rows

/-- all but the dice and the tables is as it was -/
def MovN (d : Addr) (H H' : Hp) : Prop := (∀ b o, b ≠ d → H b = some o → (∀ ps, o ≠ .tbl ps) → H' b = some o) ∧ DiceAt H' d
theorem DiceAt.upN {d : Addr} {H H1 : Hp} (h : DiceAt H d) (e : ExtN H H1) : DiceAt H1 d := by
  obtain ⟨x, y, z, q⟩ := h
  exact ⟨x, y, z, e _ _ q nofun⟩
theorem MovN.refl {d : Addr} {H : Hp} (h : DiceAt H d) : MovN d H H := ⟨fun _ _ _ e _ => e, h⟩
theorem MovN.trans {d : Addr} {H H1 H2 : Hp} (a : MovN d H H1) (b : MovN d H1 H2) : MovN d H H2 := ⟨fun x o n h k => b.1 x o n (a.1 x o n h k) k, b.2⟩
theorem MovN.up {d : Addr} {H H1 H2 : Hp} (a : MovN d H H1) (e : ExtN H1 H2) : MovN d H H2 := ⟨fun x o n h k => e x o (a.1 x o n h k) k, a.2.upN e⟩
theorem MovN.mv {d : Addr} {H H1 H2 : Hp} (a : MovN d H H1) (m : Moved d H1 H2) : MovN d H H2 := ⟨fun x o n h k => m.1 x o n (a.1 x o n h k), m.2⟩
theorem MovN.new {d p : Addr} {o : HO} {H H1 : Hp} (a : MovN d H H1) (n : H1 p = none) : MovN d H (upd H1 p o) := a.up (extN_same (same_new n))
theorem tabs_moved {T : List (Addr × Str)} {d : Addr} {H H' : Hp} (t : Tabs T H) (hd : DiceAt H d) (m : Moved d H H') : Tabs T H' := by
  obtain ⟨x, y, z, e⟩ := hd
  intro p hp
  obtain ⟨ps, h1, h2, h3⟩ := t p hp
  refine ⟨ps, m.1 _ _ (fun h => ?_) h1, h2, fun pos cv hc => ?_⟩
  · rw [h, e] at h1
    exact nomatch h1
  · obtain ⟨c, e1, e2⟩ := h3 pos cv hc
    refine ⟨c, e1, m.1 _ _ (fun h => ?_) e2⟩
    rw [h, e] at e2
    exact nomatch e2
theorem tabs_set {T : List (Addr × Str)} {a : Addr} {xs ys : List V} {H : Hp} (t : Tabs T H) (e : H a = some (.lst xs)) : Tabs T (upd H a (.lst ys)) := by
  intro p hp
  obtain ⟨ps, h1, h2, h3⟩ := t p hp
  refine ⟨ps, (upd_ne fun h => ?_).trans h1, h2, fun pos cv hc => ?_⟩
  · rw [h, e] at h1
    exact nomatch h1
  · obtain ⟨c, e1, e2⟩ := h3 pos cv hc
    refine ⟨c, e1, (upd_ne fun h => ?_).trans e2⟩
    rw [h, e] at e2
    exact nomatch e2
/-- what is no older object -/
def Nw (d : Addr) (H : Hp) (p : Addr) : Prop := p ≠ d ∧ ∀ b o, b ≠ d → H b = some o → (∀ ps, o ≠ .tbl ps) → b ≠ p
theorem Nw.of {d p : Addr} {H H1 : Hp} (m : MovN d H H1) (hp : H1 p = none) : Nw d H p := ⟨fun h => m.2.ne hp h.symm, fun b o n e k => ne_of_none (m.1 b o n e k) hp⟩
theorem MovN.set {d p : Addr} {o : HO} {H H1 : Hp} (m : MovN d H H1) (n : Nw d H p) : MovN d H (upd H1 p o) :=
  ⟨fun b o1 hb e k => (upd_ne (n.2 b o1 hb e k)).trans (m.1 b o1 hb e k), by
    obtain ⟨x, y, z, e⟩ := m.2
    exact ⟨x, y, z, (upd_ne fun h => n.1 h.symm).trans e⟩⟩
def spOR (K : PySem.W.Frag) (T : List (Addr × Str)) : Sp := fun vs H Q _ => ∃ (d : Addr) (v : V), vs = [.ref d, v] ∧ DiceAt H d ∧ Tabs T H ∧ (∀ H', MovN d H H' → BadT K H' v) ∧ ∀ H', MovN d H H' → Tabs T H' → Q (.bl true) H'
theorem near_bad {K : PySem.W.Frag} {H : Hp} {v : V} (h : v ∈ [V.str "A", V.str " a", V.str "a  b", V.str "a ", V.str ""]) : BadF K .text H v := by
  simp only [List.mem_cons, List.not_mem_nil, or_false] at h
  rcases h with rfl | rfl | rfl | rfl | rfl <;> exact ⟨.inl ⟨_, rfl, by decide +kernel, by decide +kernel⟩, .str _ (by decide +kernel)⟩
theorem lit_bad {K : PySem.W.Frag} {k : Kd} {H : Hp} {x : Str} (h : (decide (x.length ≤ 100) && !(isTx x && decide (kform k x = some x))) = true) : BadF K k H (.str x) := by
  rw [Bool.and_eq_true, decide_eq_true_eq, Bool.not_eq_true'] at h
  exact ⟨.inl ⟨x, rfl, Nat.le_trans h.1 (by decide), h.2⟩, .str x (Nat.le_trans h.1 (by decide))⟩
section
variable {P : Program} {w : World} {K : PySem.W.Frag} {mg : Str → Option Value} {base : Heap} {f c : Addr} {fd : FuncData} {aK aO CW CT CO : Addr} {T' : List (Addr × Str)}
theorem ok_law_orders_right (F : FunC K "_law_orders_right" "_law_orders_right" s_law_orders_right f fd c) (T : Txt K mg aK) (LF : LmF K mg base T' CT CW CO c "_law_orders_right.<locals>.<lambda>")
    (D_law_one_of : Dfn P w K mg base "_law_one_of" 2 ["_law_dice_here", "_law_items"] spOne) (DO_is_less : DfnX P w K mg base "is_less" 6 ["kind", "one", "other"] (spO3 CO)) (DF_is_less : DfnX P w K mg base "is_less" 7 ["kind", "one", "other"] (spF3 K CO)) : FnOk P w K mg base CX0 11 f fd ["_law_dice_here", "_law_odd"] (spOR K T') := by
  refine okG F sc_law_orders_right (fun vs H Q E h => ?_) (fun A g outer s H vs Q E hA hr h => ?_)
  · obtain ⟨d, v, rfl, _⟩ := h
    rfl
  · obtain ⟨d, v, rfl, hd, tabs, bad, q⟩ := h
    have LX : LmX (cxOf CX0 P w K mg base n_law_orders_right "_law_orders_right" (defScope s_law_orders_right) f (.ref c) A outer s H E).nox g T' CT CW CO := ⟨LF.call, LF.met, T.b_repr, hA, by
      obtain ⟨P, a1, a2, a3⟩ := LF.tab
      exact ⟨c, P, a1, rfl, a2, a3⟩⟩
    refine ⟨_, (pss_cons (ps_set (i := 3) sc_law_orders_right.nd rfl (Or.inr rfl) (pe_d D_law_one_of hr (by decide) (pa_cons (pv 0) (pa_cons (pe_lst (pa_cons pe_str (pa_cons pe_str pa_nil))) pa_nil)))) (pss_cons (ps_set (i := 2) sc_law_orders_right.nd rfl (Or.inl rfl) (pe_lst (pa_cons (pe_met0 (sc := defScope s_law_orders_right) LX hr (fun A outer s H E f c' hr2 => pe_dX DO_is_less (takes_of rfl rfl rfl rfl) hr2 (by decide) (pa_cons (pv 3) (pa_cons pe_str (pa_cons (pv 1) pa_nil))))) (pa_cons (pe_met1 (sc := defScope s_law_orders_right) (Nn := n_law_orders_right) LX hr (fun A outer s H E f c' hr2 => pe_dX DO_is_less (takes_of rfl rfl rfl rfl) hr2 (by decide) (pa_cons (pv 3) (pa_cons pe_str (pa_cons pe_str pa_nil))))) pa_nil)))) (pss_cons (ps_set (i := 4) sc_law_orders_right.nd rfl (Or.inr rfl) (pe_d D_law_one_of hr (by decide) (pa_cons (pv 0) (pa_cons (pe_lst (pa_cons pe_str (pa_cons pe_str (pa_cons pe_str (pa_cons pe_str (pa_cons pe_str pa_nil)))))) pa_nil)))) (pss_cons (ps_set (i := 2) sc_law_orders_right.nd rfl (Or.inl rfl) (pe_op op_cat (pv 2) (pe_lst (pa_cons (pe_met0 (sc := defScope s_law_orders_right) LX hr (fun A outer s H E f c' hr2 => pe_dX DF_is_less (takes_of rfl rfl rfl rfl) hr2 (by decide) (pa_cons pe_str (pa_cons (pv 4) (pa_cons pe_str pa_nil))))) (pa_cons (pe_met1 (sc := defScope s_law_orders_right) (Nn := n_law_orders_right) LX hr (fun A outer s H E f c' hr2 => pe_dX DF_is_less (takes_of rfl rfl rfl rfl) hr2 (by decide) (pa_cons pe_str (pa_cons pe_str (pa_cons (pv 4) pa_nil))))) pa_nil))))) (pss_cons (ps_expr (pe_bm PySem.F.plainAttrs_list PySem.F.slot_list_append PySem.F.type_list_append mt_append (pv 2) (pa_cons (pe_met0 (sc := defScope s_law_orders_right) LX hr (fun A outer s H E f c' hr2 => pe_dX DF_is_less (takes_of rfl rfl rfl rfl) hr2 (by decide) (pa_cons pe_str (pa_cons pe_str (pa_cons pe_str pa_nil))))) pa_nil))) (pss_cons (ps_expr (pe_bm PySem.F.plainAttrs_list PySem.F.slot_list_append PySem.F.type_list_append mt_append (pv 2) (pa_cons (pe_met0 (sc := defScope s_law_orders_right) LX hr (fun A outer s H E f c' hr2 => pe_dX DF_is_less (takes_of rfl rfl rfl rfl) hr2 (by decide) (pa_cons pe_str (pa_cons pe_str (pa_cons pe_str pa_nil))))) pa_nil))) (pss_cons (ps_set (i := 2) sc_law_orders_right.nd rfl (Or.inl rfl) (pe_op op_cat (pv 2) (pe_lst (pa_cons (pe_met0 (sc := defScope s_law_orders_right) LX hr (fun A outer s H E f c' hr2 => pe_dX DF_is_less (takes_of rfl rfl rfl rfl) hr2 (by decide) (pa_cons pe_str (pa_cons (pv 1) (pa_cons pe_str pa_nil))))) (pa_cons (pe_met1 (sc := defScope s_law_orders_right) (Nn := n_law_orders_right) LX hr (fun A outer s H E f c' hr2 => pe_dX DF_is_less (takes_of rfl rfl rfl rfl) hr2 (by decide) (pa_cons pe_str (pa_cons pe_str (pa_cons (pv 1) pa_nil))))) pa_nil))))) (pss_one (ps_ret (pe_cmpR (op_eqD hr.units) (pv 2) (pe_op op_rep (pe_lst (pa_cons pe_str pa_nil)) pe_int) (nomark _))))))))))), ?_⟩
    have l2 : (2 : Nat) ≤ sizeLine := by decide
    have l5 : (5 : Nat) ≤ sizeLine := by decide
    have l4 : (4 : Nat) ≤ sizeLine := by decide
    have l8 : (8 : Nat) ≤ sizeLine := by decide
    refine ⟨_, rfl, l2, fun l hl => ⟨d, l, _, rfl, upd_same, fun h => hd.ne hl h.symm, nofun, (by decide), hd.same (same_new hl), fun kd K1 hk mv => ?_⟩⟩
    have m1 : MovN d H K1 := ((MovN.refl hd).new hl).mv mv
    have u1 : Tabs T' K1 := tabs_moved (tabs_new tabs hl) (hd.same (same_new hl)) mv
    obtain ⟨k, rfl, kk⟩ : ∃ k : Kd, kd = .str k.str ∧ (k = .flag ∨ k = .link) := by
      simp only [List.mem_cons, List.not_mem_nil, or_false] at hk
      rcases hk with rfl | rfl
      · exact ⟨.flag, rfl, .inl rfl⟩
      · exact ⟨.link, rfl, .inr rfl⟩
    clear mv hl l
    refine ⟨u1, fun H1 e1 t1 => ⟨_, rfl, _, rfl, k, _, _, rfl, kk, met_op e1 t1 fun H2 e2 t2 => ?_⟩⟩
    refine ⟨t2, fun H3 e3 t3 => ⟨_, rfl, k, _, _, rfl, kk, met_op (e2.trans e3) t3 fun H4 e4 t4 => ?_⟩⟩
    refine ⟨l2, fun p hp => ?_⟩
    have m2 := (m1.up e4).new (o := .lst [.str "operation", .str "operation"]) hp
    have u2 := tabs_new (o := .lst [.str "operation", .str "operation"]) t4 hp
    generalize eK : upd H4 p (.lst [.str "operation", .str "operation"]) = K2 at m2 u2
    have k2 : K2 p = some (.lst [.str "operation", .str "operation"]) := by rw [← eK]; exact upd_same
    have np : Nw d H p := Nw.of (m1.up e4) hp
    clear t4 e4 t3 e3 t2 e2 t1 e1 eK hp u1 m1
    refine ⟨_, rfl, l5, fun l hl => ⟨d, l, _, rfl, upd_same, fun h => m2.2.ne hl h.symm, nofun, (by decide), m2.2.same (same_new hl), fun near K3 hn mv => ?_⟩⟩
    have m3 : MovN d H K3 := (m2.new hl).mv mv
    have u3 : Tabs T' K3 := tabs_moved (tabs_new u2 hl) (m2.2.same (same_new hl)) mv
    have k3 : K3 p = some (.lst [.str "operation", .str "operation"]) := mv.1 p _ np.1 ((same_new hl) _ _ k2)
    clear mv hl l k2 u2 m2
    refine ⟨_, rfl, u3, fun H1 e1 t1 => ⟨_, rfl, .text, _, _, rfl, .inr (.inr rfl), .inl (near_bad hn), met_op e1 t1 fun H2 e2 t2 => ?_⟩⟩
    refine ⟨t2, fun H3 e3 t3 => ⟨_, rfl, .text, .str "a", _, rfl, .inr (.inr rfl), .inr ⟨⟨"a", rfl, by decide +kernel, by decide +kernel⟩, near_bad hn⟩, met_op (e2.trans e3) t3 fun H4 e4 t4 => ?_⟩⟩
    refine ⟨l2, fun p2 hp2 => ?_⟩
    have n2 : upd H4 p2 (.lst [.str "operation", .str "operation"]) p = some (.lst [.str "operation", .str "operation"]) := by
      rw [upd_ne (ne_of_none (e4 _ _ k3 nofun) hp2)]
      exact e4 _ _ k3 nofun
    refine ⟨p, p2, _, _, rfl, rfl, n2, upd_same, l4, fun p3 hp3 => ?_⟩
    have m4 := ((m3.up e4).new (o := .lst [.str "operation", .str "operation"]) hp2)
    have np3 : Nw d H p3 := Nw.of m4 hp3
    have m5 := m4.new (o := .lst [.str "operation", .str "operation", .str "operation", .str "operation"]) hp3
    have u5 := tabs_new (o := .lst [.str "operation", .str "operation", .str "operation", .str "operation"]) (tabs_new (o := .lst [.str "operation", .str "operation"]) t4 hp2) hp3
    show tSeq _ _ _ _ (upd _ p3 (.lst [.str "operation", .str "operation", .str "operation", .str "operation"]))
    clear n2 t4 e4 t3 e3 t2 e2 t1 e1 m4 k3 u3 m3 np hn
    generalize eK : upd (upd H4 p2 (.lst [.str "operation", .str "operation"])) p3 (.lst [.str "operation", .str "operation", .str "operation", .str "operation"]) = K5 at m5 u5
    have k5 : K5 p3 = some (.lst [.str "operation", .str "operation", .str "operation", .str "operation"]) := by rw [← eK]; exact upd_same
    clear eK hp3 hp2
    refine ⟨_, rfl, .inl ⟨rfl, _, SqL.of k5⟩, u5, fun H1 e1 t1 => ⟨.number, .str "-0", _, rfl, .inr (.inl rfl), .inl (lit_bad (by decide +kernel)), met_op e1 t1 fun H2 e2 t2 => ?_⟩⟩
    refine ⟨p3, _, _, rfl, rfl, e2 _ _ k5 nofun, (by show 4 < sizeLine; decide), ?_⟩
    have m6 := (m5.up e2).set (o := .lst [.str "operation", .str "operation", .str "operation", .str "operation", .str "operation"]) np3
    have u6 := tabs_set (ys := [.str "operation", .str "operation", .str "operation", .str "operation", .str "operation"]) t2 (e2 _ _ k5 nofun)
    show tSeq _ _ _ _ (upd _ p3 (.lst [.str "operation", .str "operation", .str "operation", .str "operation", .str "operation"]))
    clear t1 e1
    generalize eK : upd H2 p3 (.lst [.str "operation", .str "operation", .str "operation", .str "operation", .str "operation"]) = K6 at m6 u6
    have k6 : K6 p3 = some (.lst [.str "operation", .str "operation", .str "operation", .str "operation", .str "operation"]) := by rw [← eK]; exact upd_same
    clear eK t2 e2 m5 u5 k5
    refine ⟨_, rfl, .inl ⟨rfl, _, SqL.of k6⟩, u6, fun H1 e1 t1 => ⟨.number, .str "1", .str "x", rfl, .inr (.inl rfl), .inr ⟨⟨"1", rfl, by decide +kernel, by decide +kernel⟩, lit_bad (by decide +kernel)⟩, met_op e1 t1 fun H2 e2 t2 => ?_⟩⟩
    refine ⟨p3, _, _, rfl, rfl, e2 _ _ k6 nofun, (by show 5 < sizeLine; decide), ?_⟩
    have m7 := (m6.up e2).set (o := .lst [.str "operation", .str "operation", .str "operation", .str "operation", .str "operation", .str "operation"]) np3
    have u7 := tabs_set (ys := [.str "operation", .str "operation", .str "operation", .str "operation", .str "operation", .str "operation"]) t2 (e2 _ _ k6 nofun)
    show tSeq _ _ _ _ (upd _ p3 (.lst [.str "operation", .str "operation", .str "operation", .str "operation", .str "operation", .str "operation"]))
    clear t1 e1
    generalize eK : upd H2 p3 (.lst [.str "operation", .str "operation", .str "operation", .str "operation", .str "operation", .str "operation"]) = K7 at m7 u7
    have k7 : K7 p3 = some (.lst [.str "operation", .str "operation", .str "operation", .str "operation", .str "operation", .str "operation"]) := by rw [← eK]; exact upd_same
    clear eK t2 e2 m6 u6 k6
    refine ⟨_, rfl, u7, fun H1 e1 t1 => ⟨_, rfl, .exact, v, _, rfl, .inl rfl, .inl ((bad _ (m7.up e1)).form _), met_op e1 t1 fun H2 e2 t2 => ?_⟩⟩
    refine ⟨t2, fun H3 e3 t3 => ⟨_, rfl, .exact, .str "a", v, rfl, .inl rfl, .inr ⟨⟨"a", rfl, by decide +kernel, by decide +kernel⟩, (bad _ (m7.up (e2.trans e3))).form _⟩, met_op (e2.trans e3) t3 fun H4 e4 t4 => ?_⟩⟩
    refine ⟨l2, fun p4 hp4 => ?_⟩
    have n4 : upd H4 p4 (.lst [.str "operation", .str "operation"]) p3 = some (.lst [.str "operation", .str "operation", .str "operation", .str "operation", .str "operation", .str "operation"]) := by
      rw [upd_ne (ne_of_none (e4 _ _ k7 nofun) hp4)]
      exact e4 _ _ k7 nofun
    refine ⟨p3, p4, _, _, rfl, rfl, n4, upd_same, l8, fun p5 hp5 => ?_⟩
    have m8 := ((m7.up e4).new (o := .lst [.str "operation", .str "operation"]) hp4).new (o := .lst (List.replicate 8 (V.str "operation"))) hp5
    have u8 := tabs_new (o := .lst (List.replicate 8 (V.str "operation"))) (tabs_new (o := .lst [.str "operation", .str "operation"]) t4 hp4) hp5
    change gName 2 _ _ (upd _ p5 (.lst (List.replicate 8 (V.str "operation")))) _
    clear n4 t4 e4 t3 e3 t2 e2 t1 e1
    generalize eK : upd (upd H4 p4 (.lst [.str "operation", .str "operation"])) p5 (.lst (List.replicate 8 (V.str "operation"))) = K8 at m8 u8
    have k8 : K8 p5 = some (.lst (List.replicate 8 (V.str "operation"))) := by rw [← eK]; exact upd_same
    clear eK
    refine ⟨_, rfl, (by decide), fun p6 hp6 => ?_⟩
    refine ⟨p6, _, _, rfl, rfl, upd_same, by decide, by decide, l8, fun p7 hp7 => ?_⟩
    have n7 := (same_new (o := .lst [V.str "operation"]) hp6).trans (same_new (o := .lst (List.replicate (Int.toNat 8) [V.str "operation"]).flatten) hp7)
    refine eq_strs (l := List.replicate 8 "operation") (n7 _ _ k8) upd_same (fun x hx => ?_) (q _ (m8.up (extN_same n7)) (u8.ext n7))
    rw [List.eq_of_mem_replicate hx]
    decide +kernel
end
end Bw

namespace Bw
open PySem PySem.Spec L2 LamX TL PyProof.Rows

theorem patOk_lit {f l : Str} {zs : List Str} (h : (pcB (.str f) && (pcB (.str l) && (zs.all isTx && (decide (zs.length ≤ 8) && !decide (f = "" ∧ zs = [] ∧ l = ""))))) = true) : PatOk f zs l := by
  rw [Bool.and_eq_true, Bool.and_eq_true, Bool.and_eq_true, Bool.and_eq_true, decide_eq_true_eq, List.all_eq_true, Bool.not_eq_true', decide_eq_false_iff_not] at h
  obtain ⟨h1, h2, h3, h4, h5⟩ := h
  exact ⟨h1, h2, fun z hz => (isTx_iff z).mp (h3 z hz), h4, h5⟩
def spPR (K : PySem.W.Frag) (T : List (Addr × Str)) : Sp := fun vs H Q _ => ∃ (d : Addr) (v t : V), vs = [.ref d, v, t] ∧ DiceAt H d ∧ Tabs T H ∧ (∀ H', MovN d H H' → BadT K H' v ∧ BadP K H' t) ∧ ∀ H', MovN d H H' → Tabs T H' → Q (.bl true) H'
theorem kinds_str {v : V} (h : v ∈ [V.str "exact", V.str "text", V.str "number", V.str "flag", V.str "link"]) : ∃ k : Kd, v = .str k.str := by
  simp only [List.mem_cons, List.not_mem_nil, or_false] at h
  rcases h with rfl | rfl | rfl | rfl | rfl
  · exact ⟨.exact, rfl⟩
  · exact ⟨.text, rfl⟩
  · exact ⟨.number, rfl⟩
  · exact ⟨.flag, rfl⟩
  · exact ⟨.link, rfl⟩
section
variable {P : Program} {w : World} {K : PySem.W.Frag} {mg : Str → Option Value} {base : Heap} {f c : Addr} {fd : FuncData} {aK aO CW CT CO : Addr} {T' : List (Addr × Str)}
theorem ok_law_patterns_right (F : FunC K "_law_patterns_right" "_law_patterns_right" s_law_patterns_right f fd c) (T : Txt K mg aK) (LF : LmF K mg base T' CT CW CO c "_law_patterns_right.<locals>.<lambda>")
    (D_law_one_of : Dfn P w K mg base "_law_one_of" 2 ["_law_dice_here", "_law_items"] spOne) (DP_pattern_form : DfnX P w K mg base "pattern_form" 6 ["kind", "pattern"] (spP2 K CO)) (DP_does_match : DfnX P w K mg base "does_match" 7 ["kind", "pattern", "form"] (spP3 K CO))
    (DF_does_match : DfnX P w K mg base "does_match" 7 ["kind", "pattern", "form"] (spM3 K CO)) (D_is_pattern : Dfn P w K mg base "is_pattern" 4 ["value"] (spIsPat K)) : FnOk P w K mg base CX0 11 f fd ["_law_dice_here", "_law_odd", "_law_wrong"] (spPR K T') := by
  refine okG F sc_law_patterns_right (fun vs H Q E h => ?_) (fun A g outer s H vs Q E hA hr h => ?_)
  · obtain ⟨d, v, t, rfl, _⟩ := h
    rfl
  · obtain ⟨d, v, t, rfl, hd, tabs, bad, q⟩ := h
    have LX : LmX (cxOf CX0 P w K mg base n_law_patterns_right "_law_patterns_right" (defScope s_law_patterns_right) f (.ref c) A outer s H E).nox g T' CT CW CO := ⟨LF.call, LF.met, T.b_repr, hA, by
      obtain ⟨P, a1, a2, a3⟩ := LF.tab
      exact ⟨c, P, a1, rfl, a2, a3⟩⟩
    refine ⟨_, (pss_cons (ps_set (i := 4) sc_law_patterns_right.nd rfl (Or.inr rfl) (pe_d D_law_one_of hr (by decide) (pa_cons (pv 0) (pa_cons (pe_lst (pa_cons pe_str (pa_cons pe_str (pa_cons pe_str (pa_cons pe_str (pa_cons pe_str pa_nil)))))) pa_nil)))) (pss_cons (ps_set (i := 3) sc_law_patterns_right.nd rfl (Or.inl rfl) (pe_lst (pa_cons (pe_met0 (sc := defScope s_law_patterns_right) LX hr (fun A outer s H E f c' hr2 => pe_dX DP_pattern_form (takes_of rfl rfl rfl rfl) hr2 (by decide) (pa_cons (pv 4) (pa_cons (pv 2) pa_nil)))) (pa_cons (pe_met1 (sc := defScope s_law_patterns_right) (Nn := n_law_patterns_right) LX hr (fun A outer s H E f c' hr2 => pe_dX DP_does_match (takes_of rfl rfl rfl rfl) hr2 (by decide) (pa_cons (pv 4) (pa_cons (pv 2) (pa_cons (pv 1) pa_nil))))) pa_nil)))) (pss_cons (ps_set (i := 3) sc_law_patterns_right.nd rfl (Or.inl rfl) (pe_op op_cat (pv 3) (pe_lst (pa_cons (pe_met0 (sc := defScope s_law_patterns_right) LX hr (fun A outer s H E f c' hr2 => pe_dX DF_does_match (takes_of rfl rfl rfl rfl) hr2 (by decide) (pa_cons (pv 4) (pa_cons (pe_tup (pa_cons pe_str (pa_cons (pe_tup pa_nil) (pa_cons pe_str pa_nil)))) (pa_cons (pv 1) pa_nil))))) (pa_cons (pe_callB call_repr_bl (by rfl) T.b_repr (by decide +kernel) (pa_cons (pe_d D_is_pattern hr (by decide) (pa_cons (pv 2) pa_nil)) pa_nil)) pa_nil))))) (pss_cons (ps_expr (pe_bm PySem.F.plainAttrs_list PySem.F.slot_list_append PySem.F.type_list_append mt_append (pv 3) (pa_cons (pe_met0 (sc := defScope s_law_patterns_right) LX hr (fun A outer s H E f c' hr2 => pe_dX DF_does_match (takes_of rfl rfl rfl rfl) hr2 (by decide) (pa_cons pe_str (pa_cons (pe_tup (pa_cons pe_str (pa_cons (pe_tup pa_nil) (pa_cons pe_str pa_nil)))) (pa_cons pe_str pa_nil))))) pa_nil))) (pss_cons (ps_expr (pe_bm PySem.F.plainAttrs_list PySem.F.slot_list_append PySem.F.type_list_append mt_append (pv 3) (pa_cons (pe_met0 (sc := defScope s_law_patterns_right) LX hr (fun A outer s H E f c' hr2 => pe_dX DF_does_match (takes_of rfl rfl rfl rfl) hr2 (by decide) (pa_cons pe_str (pa_cons (pe_tup (pa_cons pe_str (pa_cons (pe_tup pa_nil) (pa_cons pe_str pa_nil)))) (pa_cons pe_str pa_nil))))) pa_nil))) (pss_one (ps_ret (pe_cmpR (op_eqD hr.units) (pv 3) (pe_op op_cat (pe_op op_rep (pe_lst (pa_cons pe_str pa_nil)) pe_int) (pe_lst (pa_cons pe_str (pa_cons pe_str (pa_cons pe_str pa_nil))))) (nomark _))))))))), ?_⟩
    have l0 : (0 : Nat) ≤ sizeLine := by decide
    have l1 : (1 : Nat) ≤ sizeLine := by decide
    have l2 : (2 : Nat) ≤ sizeLine := by decide
    have l3 : (3 : Nat) ≤ sizeLine := by decide
    have l5 : (5 : Nat) ≤ sizeLine := by decide
    have l4 : (4 : Nat) ≤ sizeLine := by decide
    have l6 : (6 : Nat) ≤ sizeLine := by decide
    refine ⟨_, rfl, l5, fun l hl => ⟨d, l, _, rfl, upd_same, fun h => hd.ne hl h.symm, nofun, (by decide), hd.same (same_new hl), fun kd K1 hk mv => ?_⟩⟩
    have m1 : MovN d H K1 := ((MovN.refl hd).new hl).mv mv
    have u1 : Tabs T' K1 := tabs_moved (tabs_new tabs hl) (hd.same (same_new hl)) mv
    obtain ⟨k, rfl⟩ := kinds_str hk
    clear mv hl l hk
    refine ⟨u1, fun H1 e1 t1 => ⟨_, rfl, _, rfl, k, _, rfl, (bad _ (m1.up e1)).2, met_op e1 t1 fun H2 e2 t2 => ?_⟩⟩
    refine ⟨t2, fun H3 e3 t3 => ⟨_, rfl, _, rfl, _, rfl, k, _, _, rfl, (bad _ (m1.up (e2.trans e3))).2, met_op (e2.trans e3) t3 fun H4 e4 t4 => ?_⟩⟩
    refine ⟨l2, fun p hp => ?_⟩
    have m2 := (m1.up e4).new (o := .lst [.str "operation", .str "operation"]) hp
    have u2 := tabs_new (o := .lst [.str "operation", .str "operation"]) t4 hp
    show tSeq _ _ _ _ (upd _ p (.lst [.str "operation", .str "operation"]))
    generalize eK : upd H4 p (.lst [.str "operation", .str "operation"]) = K2 at m2 u2
    have k2 : K2 p = some (.lst [.str "operation", .str "operation"]) := by rw [← eK]; exact upd_same
    clear t4 e4 t3 e3 t2 e2 t1 e1 eK hp u1 m1
    refine ⟨_, rfl, u2, fun H1 e1 t1 => ⟨_, rfl, l0, fun z hz => ⟨l3, fun y hy => ⟨_, rfl, ?_⟩⟩⟩⟩
    have ey := (e1.trans (extN_same (same_new (o := .tup []) hz))).trans (extN_same (same_new (o := .tup [.str "a", .ref z, .str ""]) hy))
    refine ⟨k, y, "a", [], "", v, rfl, ⟨z, upd_same, (same_new hy) _ _ upd_same⟩, patOk_lit (by decide +kernel), (bad _ (m2.up ey)).1.form _, met_op ey (tabs_new (tabs_new t1 hz) hy) fun H2 e2 t2 => ?_⟩
    refine ⟨_, rfl, _, rfl, ?_⟩
    have bt := (bad _ (m2.up e2)).2.1
    rcases bt with no | ⟨a, xs, eq, ha, n3, hl⟩ | ⟨a, f', m, l, eq, ha, sf, sl, no | ⟨b, ys, eq2, hb, hy', hl, e⟩⟩
    all_goals first
      | (refine .inr (.inr ⟨_, _, _, _, eq, ha, sf, sl, .inl ⟨no, ?_⟩⟩)
         obtain ⟨H3, hH, s3⟩ : ∃ H3, H3 = H2 ∧ Same H2 H3 := ⟨H2, rfl, Same.refl _⟩
         rw [← hH])
      | (refine .inr (.inr ⟨_, _, _, _, eq, ha, sf, sl, .inr ⟨_, _, eq2, hb, hy', hl, fun H3 s3 => ?_⟩⟩)
         rw [e])
      | (refine .inr (.inl ⟨_, _, eq, ha, n3, hl, ?_⟩)
         obtain ⟨H3, hH, s3⟩ : ∃ H3, H3 = H2 ∧ Same H2 H3 := ⟨H2, rfl, Same.refl _⟩
         rw [← hH])
      | (refine .inl ⟨no, ?_⟩
         obtain ⟨H3, hH, s3⟩ : ∃ H3, H3 = H2 ∧ Same H2 H3 := ⟨H2, rfl, Same.refl _⟩
         rw [← hH])
    all_goals (
      have e4 := e2.trans (extN_same s3)
      have t4 := t2.ext s3
      refine ⟨false, rfl, l2, fun p2 hp2 => ?_⟩
      have n2 : upd H3 p2 (.lst [.str "operation", .str "False"]) p = some (.lst [.str "operation", .str "operation"]) := by
        rw [upd_ne (ne_of_none (e4 _ _ k2 nofun) hp2)]
        exact e4 _ _ k2 nofun
      refine ⟨p, p2, _, _, rfl, rfl, n2, upd_same, l4, fun p3 hp3 => ?_⟩
      have m4 := ((m2.up e4).new (o := .lst [.str "operation", .str "False"]) hp2)
      have np3 : Nw d H p3 := Nw.of m4 hp3
      have m5 := m4.new (o := .lst [.str "operation", .str "operation", .str "operation", .str "False"]) hp3
      have u5 := tabs_new (o := .lst [.str "operation", .str "operation", .str "operation", .str "False"]) (tabs_new (o := .lst [.str "operation", .str "False"]) t4 hp2) hp3
      show tSeq _ _ _ _ (upd (upd H3 p2 (.lst [.str "operation", .str "False"])) p3 (.lst [.str "operation", .str "operation", .str "operation", .str "False"]))
      clear n2 t4 e4 t2 e2 t1 e1 m4 k2 u2 m2 ey
      generalize eK : upd (upd H3 p2 (.lst [.str "operation", .str "False"])) p3 (.lst [.str "operation", .str "operation", .str "operation", .str "False"]) = K5 at m5 u5
      have k5 : K5 p3 = some (.lst [.str "operation", .str "operation", .str "operation", .str "False"]) := by rw [← eK]; exact upd_same
      clear eK hp3 hp2 s3 hz hy
      refine ⟨_, rfl, .inl ⟨rfl, _, SqL.of k5⟩, u5, fun H1 e1 t1 => ⟨l0, fun z hz => ⟨l3, fun y hy => ⟨.text, y, "a", [], "", .str "A", rfl, ⟨z, upd_same, (same_new hy) _ _ upd_same⟩, patOk_lit (by decide +kernel), lit_bad (by decide +kernel), met_op ((e1.trans (extN_same (same_new (o := .tup []) hz))).trans (extN_same (same_new (o := .tup [.str "a", .ref z, .str ""]) hy))) (tabs_new (tabs_new t1 hz) hy) fun H2 e2 t2 => ?_⟩⟩⟩⟩
      refine ⟨p3, _, _, rfl, rfl, e2 _ _ k5 nofun, (by show 4 < sizeLine; decide), ?_⟩
      have m6 := (m5.up e2).set (o := .lst [.str "operation", .str "operation", .str "operation", .str "False", .str "operation"]) np3
      have u6 := tabs_set (ys := [.str "operation", .str "operation", .str "operation", .str "False", .str "operation"]) t2 (e2 _ _ k5 nofun)
      show tSeq _ _ _ _ (upd _ p3 (.lst [.str "operation", .str "operation", .str "operation", .str "False", .str "operation"]))
      clear t1 e1 hz hy
      generalize eK : upd H2 p3 (.lst [.str "operation", .str "operation", .str "operation", .str "False", .str "operation"]) = K6 at m6 u6
      have k6 : K6 p3 = some (.lst [.str "operation", .str "operation", .str "operation", .str "False", .str "operation"]) := by rw [← eK]; exact upd_same
      clear eK t2 e2 m5 u5 k5
      refine ⟨_, rfl, .inl ⟨rfl, _, SqL.of k6⟩, u6, fun H1 e1 t1 => ⟨l0, fun z hz => ⟨l3, fun y hy => ⟨.link, y, "1", [], "", .str "0", rfl, ⟨z, upd_same, (same_new hy) _ _ upd_same⟩, patOk_lit (by decide +kernel), lit_bad (by decide +kernel), met_op ((e1.trans (extN_same (same_new (o := .tup []) hz))).trans (extN_same (same_new (o := .tup [.str "1", .ref z, .str ""]) hy))) (tabs_new (tabs_new t1 hz) hy) fun H2 e2 t2 => ?_⟩⟩⟩⟩
      refine ⟨p3, _, _, rfl, rfl, e2 _ _ k6 nofun, (by show 5 < sizeLine; decide), ?_⟩
      have m7 := (m6.up e2).set (o := .lst ([.str "operation", .str "operation", .str "operation", .str "False", .str "operation"] ++ [.str "operation"])) np3
      have u7 := tabs_set (ys := [.str "operation", .str "operation", .str "operation", .str "False", .str "operation"] ++ [.str "operation"]) t2 (e2 _ _ k6 nofun)
      clear t1 e1 hz hy
      generalize eK : upd H2 p3 (.lst ([.str "operation", .str "operation", .str "operation", .str "False", .str "operation"] ++ [.str "operation"])) = K7 at m7 u7
      have k7 : K7 p3 = some (.lst [.str "operation", .str "operation", .str "operation", .str "False", .str "operation", .str "operation"]) := by rw [← eK]; exact upd_same
      clear eK t2 e2 m6 u6 k6
      refine ⟨_, rfl, l1, fun p6 hp6 => ?_⟩
      refine ⟨p6, _, _, rfl, rfl, upd_same, by decide, by decide, l3, fun p7 hp7 => ⟨l3, fun p8 hp8 => ?_⟩⟩
      have s8 := same_new (o := .lst [.str "False", .str "operation", .str "operation"]) hp8
      refine ⟨p7, p8, _, _, rfl, rfl, s8 _ _ upd_same, upd_same, l6, fun p9 hp9 => ?_⟩
      have n7 := (((same_new (o := .lst [V.str "operation"]) hp6).trans (same_new (o := .lst (List.replicate (Int.toNat 3) [V.str "operation"]).flatten) hp7)).trans s8).trans (same_new (o := .lst ((List.replicate (Int.toNat 3) [V.str "operation"]).flatten ++ [.str "False", .str "operation", .str "operation"])) hp9)
      refine eq_strs (l := ["operation", "operation", "operation", "False", "operation", "operation"]) (n7 _ _ k7) upd_same (fun x hx => ?_) (q _ (m7.up (extN_same n7)) (u7.ext n7))
      simp only [List.mem_cons, List.not_mem_nil, or_false] at hx
      rcases hx with rfl | rfl | rfl | rfl | rfl | rfl <;> decide +kernel)
end
end Bw

namespace Bw
open PySem PySem.Spec L2 LamX TL PyProof.Rows

theorem ns_non {K : PySem.W.Frag} {H : Hp} : NotStr K H .non := ⟨_, .base .non, by rfl⟩
theorem ns_int {K : PySem.W.Frag} {H : Hp} (i : Int) : NotStr K H (.int i) := ⟨_, .base (.int i), by rfl⟩
theorem ns_bl {K : PySem.W.Frag} {H : Hp} (i : Bool) : NotStr K H (.bl i) := ⟨_, .base (.bl i), by rfl⟩
theorem ns_tup {K : PySem.W.Frag} {H : Hp} {a : Addr} {xs : List V} (e : H a = some (.tup xs)) : NotStr K H (.ref a) := ⟨_, .base (.tup e), by rfl⟩
theorem ns_lst {K : PySem.W.Frag} {H : Hp} {a : Addr} {xs : List V} (e : H a = some (.lst xs)) : NotStr K H (.ref a) := ⟨_, .base (.lst e), by rfl⟩
theorem ns_dct {K : PySem.W.Frag} {H : Hp} {a : Addr} (e : H a = some (.dK [])) : NotStr K H (.ref a) := ⟨_, .base (.dK e), by rfl⟩
theorem nt_non {K : PySem.W.Frag} {H : Hp} : NotTup K H .non := ⟨_, .base .non, by rfl⟩
theorem nt_str {K : PySem.W.Frag} {H : Hp} (x : Str) : NotTup K H (.str x) := ⟨_, .base (.str x), by rfl⟩
theorem nt_lst {K : PySem.W.Frag} {H : Hp} {a : Addr} {xs : List V} (e : H a = some (.lst xs)) : NotTup K H (.ref a) := ⟨_, .base (.lst e), by rfl⟩
theorem rp_tup {H : Hp} {a : Addr} {xs : List Str} (e : H a = some (.tup (xs.map V.str))) (h : ∀ y ∈ xs, (reprText y).length ≤ 100000) (hz : (tupleText (xs.map reprText)).length ≤ 100000) (o : PyData.strOk (tupleText (xs.map reprText)) = true) : RpAll H (.ref a) := fun g => ⟨_, .tup e h hz, by
  unfold tupR
  split
  · decide +kernel
  · exact o⟩
theorem rp_lst {H : Hp} {a : Addr} {x : Str} {xs : List Str} (e : H a = some (.lst ((x :: xs).map V.str))) (h : ∀ y ∈ x :: xs, (reprText y).length ≤ 100000) (hz : (listText ((x :: xs).map reprText)).length ≤ 100000) (o : PyData.strOk (listText ((x :: xs).map reprText)) = true) : RpAll H (.ref a) := fun g => ⟨_, .lst e h hz, by
  unfold lstR
  split
  · decide +kernel
  · exact o⟩
theorem rp_dct {H : Hp} {a : Addr} (e : H a = some (.dK [])) : RpAll H (.ref a) := fun g => ⟨_, .dct e, by
  unfold dctR
  split <;> decide +kernel⟩
theorem rp_str {H : Hp} (x : Str) (h : (decide ((reprText x).length ≤ 100000) && PyData.strOk (reprText x)) = true) : RpAll H (.str x) := fun g => by
  rw [Bool.and_eq_true, decide_eq_true_eq] at h
  exact ⟨_, .str x h.1, h.2⟩
theorem rp_non {H : Hp} : RpAll H .non := fun g => ⟨_, .non, by decide +kernel⟩
theorem rp_int0 {H : Hp} : RpAll H (.int 0) := fun g => ⟨_, .int 0 (by decide +kernel) (by decide +kernel), by decide +kernel⟩
theorem rp_true {H : Hp} : RpAll H (.bl true) := fun g => ⟨_, .bl true, by decide +kernel⟩
theorem bad_ok {H : Hp} {v : V} {a1 a2 a3 : Addr} (h : v ∈ [V.non, .int 0, .str "", .str "Text", .str "string", .ref a1, .ref a2, .ref a3, .bl true, .str "numbers"]) (h1 : H a1 = some (.tup [])) (h2 : H a2 = some (.lst [.str "text"])) (h3 : H a3 = some (.dK [])) : BadK H v ∧ RpAll H v := by
  simp only [List.mem_cons, List.not_mem_nil, or_false] at h
  rcases h with rfl | rfl | rfl | rfl | rfl | rfl | rfl | rfl | rfl | rfl
  · exact ⟨⟨.inl .non, .non⟩, rp_non⟩
  · exact ⟨⟨.inl (.int 0), .int 0 (by decide +kernel) (by decide +kernel)⟩, rp_int0⟩
  · exact ⟨⟨.inr ⟨_, rfl, by decide +kernel⟩, .str _ (by decide +kernel)⟩, rp_str _ (by decide +kernel)⟩
  · exact ⟨⟨.inr ⟨_, rfl, by decide +kernel⟩, .str _ (by decide +kernel)⟩, rp_str _ (by decide +kernel)⟩
  · exact ⟨⟨.inr ⟨_, rfl, by decide +kernel⟩, .str _ (by decide +kernel)⟩, rp_str _ (by decide +kernel)⟩
  · exact ⟨⟨.inl (.tup h1), .tup h1⟩, rp_tup (xs := []) h1 (fun _ z => nomatch z) (by decide +kernel) (by decide +kernel)⟩
  · exact ⟨⟨.inl (.lst h2), .lst h2⟩, rp_lst (x := "text") (xs := []) h2 (fun y z => by rw [List.mem_singleton.mp z]; decide +kernel) (by decide +kernel) (by decide +kernel)⟩
  · exact ⟨⟨.inl (.dct h3), .dct h3⟩, rp_dct h3⟩
  · exact ⟨⟨.inl (.bl true), .bl true⟩, rp_true⟩
  · exact ⟨⟨.inr ⟨_, rfl, by decide +kernel⟩, .str _ (by decide +kernel)⟩, rp_str _ (by decide +kernel)⟩
theorem bt_lit {K : PySem.W.Frag} {H : Hp} (x : Str) (h : (decide (x.length ≤ 1000) && !isTx x) = true) : BadT K H (.str x) := by
  rw [Bool.and_eq_true, decide_eq_true_eq, Bool.not_eq_true'] at h
  exact ⟨.inl ⟨x, rfl, Nat.le_trans h.1 (by decide), h.2⟩, .str x (Nat.le_trans h.1 (by decide))⟩
theorem odd_ok {K : PySem.W.Frag} {H : Hp} {v : V} {a1 a2 a3 : Addr} (h : v ∈ [V.non, .int 0, .str "", .ref a1, .ref a2, .ref a3, .str "a\n", .str (repS "x" 101), .bl true]) (h1 : H a1 = some (.tup [.str "a"])) (h2 : H a2 = some (.lst [.str "a"])) (h3 : H a3 = some (.dK [])) : BadT K H v ∧ RpAll H v := by
  simp only [List.mem_cons, List.not_mem_nil, or_false] at h
  rcases h with rfl | rfl | rfl | rfl | rfl | rfl | rfl | rfl | rfl
  · exact ⟨⟨.inr ns_non, .non⟩, rp_non⟩
  · exact ⟨⟨.inr (ns_int 0), .int 0 (by decide +kernel) (by decide +kernel)⟩, rp_int0⟩
  · exact ⟨bt_lit _ (by decide +kernel), rp_str _ (by decide +kernel)⟩
  · exact ⟨⟨.inr (ns_tup h1), .tup h1⟩, rp_tup (xs := ["a"]) h1 (fun y z => by rw [List.mem_singleton.mp z]; decide +kernel) (by decide +kernel) (by decide +kernel)⟩
  · exact ⟨⟨.inr (ns_lst h2), .lst h2⟩, rp_lst (x := "a") (xs := []) h2 (fun y z => by rw [List.mem_singleton.mp z]; decide +kernel) (by decide +kernel) (by decide +kernel)⟩
  · exact ⟨⟨.inr (ns_dct h3), .dct h3⟩, rp_dct h3⟩
  · exact ⟨bt_lit _ (by decide +kernel), rp_str _ (by decide +kernel)⟩
  · exact ⟨bt_lit _ (by decide +kernel), rp_str _ (by decide +kernel)⟩
  · exact ⟨⟨.inr (ns_bl true), .bl true⟩, rp_true⟩
theorem sc_lit {x : Str} (h : x.length ≤ 1000) : Sc (.str x) := .inl ⟨x, rfl, h⟩
theorem wrong_ok {K : PySem.W.Frag} {H : Hp} {v : V} {e1 e2 z2 e3 z3 e4 e5 z5 : Addr} {xs : List V} (h : v ∈ [V.non, .ref e1, .ref e2, .ref e3, .ref e4, .str "a*", .ref e5]) (h1 : H e1 = some (.tup [])) (h2 : H e2 = some (.tup [.str "", .ref z2, .str ""])) (y2 : H z2 = some (.tup [])) (h3 : H e3 = some (.tup [.str "a", .ref z3, .non])) (y3 : H z3 = some (.tup []))
    (h4 : H e4 = some (.lst xs)) (h5 : H e5 = some (.tup [.str "a", .ref z5, .str ""])) (y5 : H z5 = some (.tup [.str ""])) : BadP K H v := by
  simp only [List.mem_cons, List.not_mem_nil, or_false] at h
  rcases h with rfl | rfl | rfl | rfl | rfl | rfl | rfl
  · exact ⟨.inl nt_non, .non⟩
  · exact ⟨.inr (.inl ⟨_, _, rfl, h1, by decide, by decide⟩), .tup h1⟩
  · exact ⟨.inr (.inr ⟨_, _, _, _, rfl, h2, sc_lit (by decide +kernel), sc_lit (by decide +kernel), .inr ⟨_, _, rfl, y2, (fun _ z => nomatch z), by decide, by decide +kernel⟩⟩), .tup h2⟩
  · exact ⟨.inr (.inr ⟨_, _, _, _, rfl, h3, sc_lit (by decide +kernel), .inr rfl, .inr ⟨_, _, rfl, y3, (fun _ z => nomatch z), by decide, by decide +kernel⟩⟩), .tup h3⟩
  · exact ⟨.inl (nt_lst h4), .lst h4⟩
  · exact ⟨.inl (nt_str _), .str _ (by decide +kernel)⟩
  · exact ⟨.inr (.inr ⟨_, _, _, _, rfl, h5, sc_lit (by decide +kernel), sc_lit (by decide +kernel), .inr ⟨_, _, rfl, y5, (fun y z => by rw [List.mem_singleton.mp z]; exact sc_lit (by decide +kernel)), by decide, by decide +kernel⟩⟩), .tup h5⟩
theorem SqL.upN {K : PySem.W.Frag} {H H' : Hp} {a : Addr} {xs : List V} (h : SqL K H a xs) (e : ExtN H H') : SqL K H' a xs := by
  rcases h with (h | ⟨o, h⟩) | h
  · exact .inl (.inl (e _ _ h nofun))
  · exact .inl (.inr ⟨o, e _ _ h nofun⟩)
  · exact .inr h
end Bw

namespace Bw
open PySem PySem.Spec L2 LamX TL PyProof.Rows

theorem ExtN.moved {H0 Ha H1 H2 : Hp} {d : Addr} (e : ExtN H0 Ha) (n : Ha d = none) (s : Same Ha H1) (m : MovN d H1 H2) : ExtN H0 H2 := fun b o h k => m.1 b o (ne_of_none (e b o h k) n) (s b o (e b o h k)) k
def spLawT (K : PySem.W.Frag) (T : List (Addr × Str)) : Sp := fun vs H Q _ => ∃ (a : Addr) (ns : List Int), vs = [.ref a] ∧ SqL K H a (ns.map V.int) ∧ ns.length ≤ 63 ∧ Tabs T H ∧ ∀ H', Q (.bl true) H'
section
variable {P : Program} {w : World} {K : PySem.W.Frag} {mg : Str → Option Value} {base : Heap} {f : Addr} {fd : FuncData} {aK : Addr} {T' : List (Addr × Str)}
theorem ok_law (F : Fun K "law" "law" s_law f fd) (T : Txt K mg aK) (D_law_dice : Dfn P w K mg base "_law_dice" 1 ["_law_script", "_law_at"] (spDice K)) (D_law_one_of : Dfn P w K mg base "_law_one_of" 2 ["_law_dice_here", "_law_items"] spOne)
    (D_law_kinds_right : Dfn P w K mg base "_law_kinds_right" 11 ["_law_bad", "_law_odd", "_law_wrong"] (spKR T')) (D_law_texts_right : Dfn P w K mg base "_law_texts_right" 11 ["_law_kind", "_law_odd"] (spTR K T'))
    (D_law_orders_right : Dfn P w K mg base "_law_orders_right" 11 ["_law_dice_here", "_law_odd"] (spOR K T')) (D_law_patterns_right : Dfn P w K mg base "_law_patterns_right" 11 ["_law_dice_here", "_law_odd", "_law_wrong"] (spPR K T')) : FnOk P w K mg base CX0 12 f fd ["_law_script"] (spLawT K T') := by
  refine F.ok sc_law (fun vs H Q E h => ?_) (fun cdv A outer s H vs Q E hr h => ?_)
  · obtain ⟨a, ns, rfl, _⟩ := h
    rfl
  · obtain ⟨a, ns, rfl, hS, hlen, tabs, q⟩ := h
    refine ⟨_, (pss_cons (ps_for PassesOwn.never rfl (pi_range1 (by rfl) T.b_range (pa_cons (pe_callB (call_max2 rfl) (by rfl) T.b_max (by decide +kernel) (pa_cons pe_int (pa_cons (pe_callB (call_min2 rfl) (by rfl) T.b_min (by decide +kernel) (pa_cons pe_int (pa_cons (pe_callB call_len_seq (by rfl) T.b_len (by decide +kernel) (pa_cons (pv 0) pa_nil)) pa_nil))) pa_nil))) pa_nil)) (pg_name (i := 1) sc_law.nd rfl (Or.inl rfl)) (pss_cons (ps_set (i := 2) sc_law.nd rfl (Or.inl rfl) (pe_d D_law_dice hr (by decide) (pa_cons (pv 0) (pa_cons (pv 1) pa_nil)))) (pss_one (ps_for PassesOwn.never rfl (pi_range1 (by rfl) T.b_range (pa_cons pe_int pa_nil)) (pg_name (i := 3) sc_law.nd rfl (Or.inl rfl)) (pss_cons (ps_set (i := 4) sc_law.nd rfl (Or.inl rfl) (pe_d D_law_one_of hr (by decide) (pa_cons (pv 2) (pa_cons (pe_lst (pa_cons pe_non (pa_cons pe_int (pa_cons pe_str (pa_cons pe_str (pa_cons pe_str (pa_cons (pe_tup pa_nil) (pa_cons (pe_lst (pa_cons pe_str pa_nil)) (pa_cons pe_dnewK (pa_cons pe_bl (pa_cons pe_str pa_nil))))))))))) pa_nil)))) (pss_cons (ps_set (i := 5) sc_law.nd rfl (Or.inl rfl) (pe_d D_law_one_of hr (by decide) (pa_cons (pv 2) (pa_cons (pe_lst (pa_cons pe_non (pa_cons pe_int (pa_cons pe_str (pa_cons (pe_tup (pa_cons pe_str pa_nil)) (pa_cons (pe_lst (pa_cons pe_str pa_nil)) (pa_cons pe_dnewK (pa_cons pe_str (pa_cons (pe_op op_mulS pe_str pe_int) (pa_cons pe_bl pa_nil)))))))))) pa_nil)))) (pss_cons (ps_set (i := 6) sc_law.nd rfl (Or.inl rfl) (pe_lst (pa_cons pe_non (pa_cons (pe_tup pa_nil) (pa_cons (pe_tup (pa_cons pe_str (pa_cons (pe_tup pa_nil) (pa_cons pe_str pa_nil)))) (pa_cons (pe_tup (pa_cons pe_str (pa_cons (pe_tup pa_nil) (pa_cons pe_non pa_nil)))) (pa_cons (pe_lst (pa_cons pe_str (pa_cons (pe_tup pa_nil) (pa_cons pe_str pa_nil)))) (pa_cons pe_str (pa_cons (pe_tup (pa_cons pe_str (pa_cons (pe_tup (pa_cons pe_str pa_nil)) (pa_cons pe_str pa_nil)))) pa_nil))))))))) (pss_cons (ps_set (i := 7) sc_law.nd rfl (Or.inl rfl) (pe_d D_law_one_of hr (by decide) (pa_cons (pv 2) (pa_cons (pv 6) pa_nil)))) (pss_cons (ps_set (i := 8) sc_law.nd rfl (Or.inl rfl) (pe_d D_law_one_of hr (by decide) (pa_cons (pv 2) (pa_cons (pe_lst (pa_cons pe_str (pa_cons pe_str (pa_cons pe_str (pa_cons pe_str (pa_cons pe_str pa_nil)))))) pa_nil)))) (pss_cons (ps_if (PW.pt (pw_or (pt_not (pt_val (pe_d D_law_kinds_right hr (by decide) (pa_cons (pv 4) (pa_cons (pv 5) (pa_cons (pv 7) pa_nil)))))) (pw_or1 (pt_not (pt_val (pe_d D_law_texts_right hr (by decide) (pa_cons (pv 8) (pa_cons (pv 5) pa_nil)))))))) (pss_one (ps_ret pe_bl)) pss_nil) (pss_one (ps_if (PW.pt (pw_or (pt_not (pt_val (pe_d D_law_orders_right hr (by decide) (pa_cons (pv 2) (pa_cons (pv 5) pa_nil))))) (pw_or1 (pt_not (pt_val (pe_d D_law_patterns_right hr (by decide) (pa_cons (pv 2) (pa_cons (pv 5) (pa_cons (pv 7) pa_nil))))))))) (pss_one (ps_ret pe_bl)) pss_nil)))))))))))) (pss_one (ps_ret pe_bl))), ?_⟩
    have hl2 : (ns.map V.int).length ≤ 63 := by
      rw [List.length_map]
      exact hlen
    have l0 : (0 : Nat) ≤ sizeLine := by decide
    have l1 : (1 : Nat) ≤ sizeLine := by decide
    have l3 : (3 : Nat) ≤ sizeLine := by decide
    have l5 : (5 : Nat) ≤ sizeLine := by decide
    have l7 : (7 : Nat) ≤ sizeLine := by decide
    have l9 : (9 : Nat) ≤ sizeLine := by decide
    have l10 : (10 : Nat) ≤ sizeLine := by decide
    refine ⟨_, rfl, a, _, rfl, .inl hS, _, _, rfl, _, _, rfl, _, rfl, (by split <;> (try split) <;> omega), (by split <;> (try split) <;> omega),
      for_it walk_range (fun i σ H' => ExtN H H' ∧ Tabs T' H' ∧ ∃ a1 a2 a3 a4 a5 a6 a7 a8 : Option V, σ = [some (.ref a), a1, a2, a3, a4, a5, a6, a7, a8]) ⟨ExtN.refl H, tabs, _, _, _, _, _, _, _, _, rfl⟩ (fun _ _ _ _ _ => trivial) ?_ ?_⟩
    · rintro i v σ H1 H2 hi ⟨ex, tb, a1, a2, a3, a4, a5, a6, a7, a8, rfl⟩ ⟨rfl, rfl⟩
      refine ⟨_, rfl, _, rfl, a, ns, i, (by show [V.ref a, V.int (0 + (i : Int))] = _; rw [Int.zero_add]), SqL.upN hS ex, fun d H2 hp sm2 hd => ?_⟩
      refine ⟨3, rfl, by decide, by decide, for_range (lo := 0) (n := 3) (fun i σ H' => MovN d H2 H' ∧ Tabs T' H' ∧ ∃ a1 a3 a4 a5 a6 a7 a8 : Option V, σ = [some (.ref a), a1, some (.ref d), a3, a4, a5, a6, a7, a8]) ⟨MovN.refl hd, tb.ext sm2, _, _, _, _, _, _, _, rfl⟩ ?_ ?_⟩
      · rintro j σ H3 hj ⟨mv, tb, b1, b3, b4, b5, b6, b7, b8, rfl⟩
        refine ⟨_, rfl, l0, fun p1 hp1 => ⟨l1, fun p2 hp2 p3 hp3 => ⟨l10, fun l hl => ?_⟩⟩⟩
        have c1 := (mv.new (o := .tup []) hp1)
        have c2 := (c1.new (o := .lst [.str "text"]) hp2)
        have c3 := (c2.new (o := .dK []) hp3)
        have c4 := (c3.new (o := .lst [.non, .int 0, .str "", .str "Text", .str "string", .ref p1, .ref p2, .ref p3, .bl true, .str "numbers"]) hl)
        have ub := tabs_new (o := .lst [.non, .int 0, .str "", .str "Text", .str "string", .ref p1, .ref p2, .ref p3, .bl true, .str "numbers"]) (tabs_new (o := .dK []) (tabs_new (o := .lst [.str "text"]) (tabs_new (o := .tup []) tb hp1) hp2) hp3) hl
        refine ⟨d, l, _, rfl, upd_same, fun h => c3.2.ne hl h.symm, nofun, (by show 10 < 1000000000; decide), c4.2, fun vb K1 hvb m1 => ?_⟩
        have n1 : p1 ≠ d := fun h => mv.2.ne hp1 h.symm
        have n2 : p2 ≠ d := fun h => c1.2.ne hp2 h.symm
        have n3 : p3 ≠ d := fun h => c2.2.ne hp3 h.symm
        have g1 : K1 p1 = some (.tup []) := m1.1 _ _ n1 ((same_new hl) _ _ ((same_new hp3) _ _ ((same_new hp2) _ _ upd_same)))
        have g2 : K1 p2 = some (.lst [.str "text"]) := m1.1 _ _ n2 ((same_new hl) _ _ ((same_new hp3) _ _ upd_same))
        have g3 : K1 p3 = some (.dK []) := m1.1 _ _ n3 ((same_new hl) _ _ upd_same)
        have BB : ∀ H', MovN d K1 H' → BadK H' vb ∧ RpAll H' vb := fun H' m => bad_ok hvb (m.1 _ _ n1 g1 nofun) (m.1 _ _ n2 g2 nofun) (m.1 _ _ n3 g3 nofun)
        have M1 := c4.mv m1
        have U1 : Tabs T' K1 := tabs_moved ub c4.2 m1
        clear g1 g2 g3 n1 n2 n3 c1 c2 c3 c4 ub m1 hl hp1 hp2 hp3 hvb tb mv
        clear l p1 p2 p3
        refine ⟨_, rfl, l1, fun p1 hp1 => ⟨l1, fun p2 hp2 p3 hp3 => ⟨_, _, rfl, rfl, (by decide), (by decide), (by decide +kernel), l9, fun l hl => ?_⟩⟩⟩
        have c1 := (M1.new (o := .tup [.str "a"]) hp1)
        have c2 := (c1.new (o := .lst [.str "a"]) hp2)
        have c3 := (c2.new (o := .dK []) hp3)
        have c4 := (c3.new (o := .lst [.non, .int 0, .str "", .ref p1, .ref p2, .ref p3, .str "a\n", .str (repS "x" 101), .bl true]) hl)
        have e4 : MovN d K1 _ := ((((MovN.refl M1.2).new (o := .tup [.str "a"]) hp1).new (o := .lst [.str "a"]) hp2).new (o := .dK []) hp3).new (o := .lst [.non, .int 0, .str "", .ref p1, .ref p2, .ref p3, .str "a\n", .str (repS "x" 101), .bl true]) hl
        have ub := tabs_new (o := .lst [.non, .int 0, .str "", .ref p1, .ref p2, .ref p3, .str "a\n", .str (repS "x" 101), .bl true]) (tabs_new (o := .dK []) (tabs_new (o := .lst [.str "a"]) (tabs_new (o := .tup [.str "a"]) U1 hp1) hp2) hp3) hl
        refine ⟨d, l, _, rfl, upd_same, fun h => c3.2.ne hl h.symm, nofun, (by show 9 < 1000000000; decide), c4.2, fun vo K2 hvo m1 => ?_⟩
        have n1 : p1 ≠ d := fun h => M1.2.ne hp1 h.symm
        have n2 : p2 ≠ d := fun h => c1.2.ne hp2 h.symm
        have n3 : p3 ≠ d := fun h => c2.2.ne hp3 h.symm
        have g1 : K2 p1 = some (.tup [.str "a"]) := m1.1 _ _ n1 ((same_new hl) _ _ ((same_new hp3) _ _ ((same_new hp2) _ _ upd_same)))
        have g2 : K2 p2 = some (.lst [.str "a"]) := m1.1 _ _ n2 ((same_new hl) _ _ ((same_new hp3) _ _ upd_same))
        have g3 : K2 p3 = some (.dK []) := m1.1 _ _ n3 ((same_new hl) _ _ upd_same)
        have OO : ∀ H', MovN d K2 H' → BadT K H' vo ∧ RpAll H' vo := fun H' m => odd_ok hvo (m.1 _ _ n1 g1 nofun) (m.1 _ _ n2 g2 nofun) (m.1 _ _ n3 g3 nofun)
        have M2 := c4.mv m1
        have E2 : MovN d K1 K2 := e4.mv m1
        have U2 : Tabs T' K2 := tabs_moved ub c4.2 m1
        replace BB : ∀ H', MovN d K2 H' → BadK H' vb ∧ RpAll H' vb := fun H' m => BB H' (E2.trans m)
        clear g1 g2 g3 n1 n2 n3 c1 c2 c3 c4 e4 ub m1 hl hp1 hp2 hp3 hvo U1 E2 M1
        clear l p1 p2 p3
        refine ⟨l0, fun e1 he1 => ⟨l0, fun z2 hz2 => ⟨l3, fun e2 he2 => ⟨l0, fun z3 hz3 => ⟨l3, fun e3 he3 => ⟨l0, fun z4 hz4 => ⟨l3, fun e4 he4 => ⟨l1, fun z5 hz5 => ⟨l3, fun e5 he5 => ⟨l7, fun L hL => ?_⟩⟩⟩⟩⟩⟩⟩⟩⟩⟩
        have c0 := M2.new (o := .tup []) he1
        have c1 := c0.new (o := .tup []) hz2
        have c2 := c1.new (o := .tup [.str "", .ref z2, .str ""]) he2
        have c3 := c2.new (o := .tup []) hz3
        have c4 := c3.new (o := .tup [.str "a", .ref z3, .non]) he3
        have c5 := c4.new (o := .tup []) hz4
        have c6 := c5.new (o := .lst [.str "a", .ref z4, .str "b"]) he4
        have c7 := c6.new (o := .tup [.str ""]) hz5
        have c8 := c7.new (o := .tup [.str "a", .ref z5, .str ""]) he5
        have c9 := c8.new (o := .lst [.non, .ref e1, .ref e2, .ref e3, .ref e4, .str "a*", .ref e5]) hL
        have ub := (tabs_new (o := .lst [.non, .ref e1, .ref e2, .ref e3, .ref e4, .str "a*", .ref e5]) (tabs_new (o := .tup [.str "a", .ref z5, .str ""]) (tabs_new (o := .tup [.str ""]) (tabs_new (o := .lst [.str "a", .ref z4, .str "b"]) (tabs_new (o := .tup []) (tabs_new (o := .tup [.str "a", .ref z3, .non]) (tabs_new (o := .tup []) (tabs_new (o := .tup [.str "", .ref z2, .str ""]) (tabs_new (o := .tup []) (tabs_new (o := .tup []) U2 he1) hz2) he2) hz3) he3) hz4) he4) hz5) he5) hL)
        have e4_ := (((((((((((MovN.refl M2.2).new (o := .tup []) he1).new (o := .tup []) hz2).new (o := .tup [.str "", .ref z2, .str ""]) he2).new (o := .tup []) hz3).new (o := .tup [.str "a", .ref z3, .non]) he3).new (o := .tup []) hz4).new (o := .lst [.str "a", .ref z4, .str "b"]) he4).new (o := .tup [.str ""]) hz5).new (o := .tup [.str "a", .ref z5, .str ""]) he5).new (o := .lst [.non, .ref e1, .ref e2, .ref e3, .ref e4, .str "a*", .ref e5]) hL)
        refine ⟨_, rfl, _, rfl, d, L, _, rfl, upd_same, fun h => c8.2.ne hL h.symm, nofun, (by show 7 < 1000000000; decide), c9.2, fun vw K3 hvw m1 => ?_⟩
        have ne1 : e1 ≠ d := fun h => M2.2.ne he1 h.symm
        have ge1 : K3 e1 = some (.tup []) := m1.1 _ _ ne1 ((same_new hL) _ _ ((same_new he5) _ _ ((same_new hz5) _ _ ((same_new he4) _ _ ((same_new hz4) _ _ ((same_new he3) _ _ ((same_new hz3) _ _ ((same_new he2) _ _ ((same_new hz2) _ _ upd_same)))))))))
        have nz2 : z2 ≠ d := fun h => c0.2.ne hz2 h.symm
        have gz2 : K3 z2 = some (.tup []) := m1.1 _ _ nz2 ((same_new hL) _ _ ((same_new he5) _ _ ((same_new hz5) _ _ ((same_new he4) _ _ ((same_new hz4) _ _ ((same_new he3) _ _ ((same_new hz3) _ _ ((same_new he2) _ _ upd_same))))))))
        have ne2 : e2 ≠ d := fun h => c1.2.ne he2 h.symm
        have ge2 : K3 e2 = some (.tup [.str "", .ref z2, .str ""]) := m1.1 _ _ ne2 ((same_new hL) _ _ ((same_new he5) _ _ ((same_new hz5) _ _ ((same_new he4) _ _ ((same_new hz4) _ _ ((same_new he3) _ _ ((same_new hz3) _ _ upd_same)))))))
        have nz3 : z3 ≠ d := fun h => c2.2.ne hz3 h.symm
        have gz3 : K3 z3 = some (.tup []) := m1.1 _ _ nz3 ((same_new hL) _ _ ((same_new he5) _ _ ((same_new hz5) _ _ ((same_new he4) _ _ ((same_new hz4) _ _ ((same_new he3) _ _ upd_same))))))
        have ne3 : e3 ≠ d := fun h => c3.2.ne he3 h.symm
        have ge3 : K3 e3 = some (.tup [.str "a", .ref z3, .non]) := m1.1 _ _ ne3 ((same_new hL) _ _ ((same_new he5) _ _ ((same_new hz5) _ _ ((same_new he4) _ _ ((same_new hz4) _ _ upd_same)))))
        have nz4 : z4 ≠ d := fun h => c4.2.ne hz4 h.symm
        have gz4 : K3 z4 = some (.tup []) := m1.1 _ _ nz4 ((same_new hL) _ _ ((same_new he5) _ _ ((same_new hz5) _ _ ((same_new he4) _ _ upd_same))))
        have ne4 : e4 ≠ d := fun h => c5.2.ne he4 h.symm
        have ge4 : K3 e4 = some (.lst [.str "a", .ref z4, .str "b"]) := m1.1 _ _ ne4 ((same_new hL) _ _ ((same_new he5) _ _ ((same_new hz5) _ _ upd_same)))
        have nz5 : z5 ≠ d := fun h => c6.2.ne hz5 h.symm
        have gz5 : K3 z5 = some (.tup [.str ""]) := m1.1 _ _ nz5 ((same_new hL) _ _ ((same_new he5) _ _ upd_same))
        have ne5 : e5 ≠ d := fun h => c7.2.ne he5 h.symm
        have ge5 : K3 e5 = some (.tup [.str "a", .ref z5, .str ""]) := m1.1 _ _ ne5 ((same_new hL) _ _ upd_same)
        have WW : ∀ H', MovN d K3 H' → BadP K H' vw := fun H' m => wrong_ok hvw (m.1 _ _ ne1 ge1 nofun) (m.1 _ _ ne2 ge2 nofun) (m.1 _ _ nz2 gz2 nofun) (m.1 _ _ ne3 ge3 nofun) (m.1 _ _ nz3 gz3 nofun) (m.1 _ _ ne4 ge4 nofun) (m.1 _ _ ne5 ge5 nofun) (m.1 _ _ nz5 gz5 nofun)
        have M3 := c9.mv m1
        have E3 : MovN d K2 K3 := e4_.mv m1
        have U3 : Tabs T' K3 := tabs_moved ub c9.2 m1
        replace BB : ∀ H', MovN d K3 H' → BadK H' vb ∧ RpAll H' vb := fun H' m => BB H' (E3.trans m)
        replace OO : ∀ H', MovN d K3 H' → BadT K H' vo ∧ RpAll H' vo := fun H' m => OO H' (E3.trans m)
        clear ub m1 E3 e4_ hvw he1 hz2 he2 hz3 he3 hz4 he4 hz5 he5 hL ne1 ge1 nz2 gz2 ne2 ge2 nz3 gz3 ne3 ge3 nz4 gz4 ne4 ge4 nz5 gz5 ne5 ge5 c0 c1 c2 c3 c4 c5 c6 c7 c8 c9
        clear U2 M2
        refine ⟨_, rfl, l5, fun l hl => ⟨d, l, _, rfl, upd_same, fun h => M3.2.ne hl h.symm, nofun, (by show 5 < 1000000000; decide), M3.2.same (same_new hl), fun vk K4 hvk m1 => ?_⟩⟩
        obtain ⟨k, rfl⟩ := kinds_str hvk
        have M4 := (M3.new hl).mv m1
        have E4 : MovN d K3 K4 := ((MovN.refl M3.2).new hl).mv m1
        have U4 : Tabs T' K4 := tabs_moved (tabs_new U3 hl) (M3.2.same (same_new hl)) m1
        clear hvk m1 hl U3 M3 l
        refine ⟨_, rfl, _, rfl, _, rfl, vb, vo, vw, rfl, (BB _ E4).1, (BB _ E4).2, U4, fun H5 x5 U5 => ?_⟩
        refine ⟨true, rfl, _, rfl, _, rfl, k, vo, rfl, (OO _ (E4.up x5)).1, (OO _ (E4.up x5)).2, U5, fun H6 x6 U6 => ⟨true, rfl, ?_⟩⟩
        have m6 := (M4.up x5).up x6
        have E6 := (E4.up x5).up x6
        refine ⟨_, rfl, _, rfl, d, vo, rfl, m6.2, U6, fun H' m => (OO _ (E6.trans m)).1, fun H7 m7 U7 => ?_⟩
        refine ⟨true, rfl, _, rfl, _, rfl, _, rfl, d, vo, vw, rfl, m7.2, U7, fun H' m => ⟨(OO _ ((E6.trans m7).trans m)).1, WW _ ((E6.trans m7).trans m)⟩, fun H8 m8 U8 => ⟨true, rfl, ?_⟩⟩
        exact ⟨(m6.trans m7).trans m8, U8, _, _, _, _, _, _, _, rfl⟩
      · rintro σ H3 ⟨mv, tb, b1, b3, b4, b5, b6, b7, b8, rfl⟩
        exact ⟨ExtN.moved ex hp sm2 mv, tb, _, _, _, _, _, _, _, _, rfl⟩
    · rintro σ H1 ⟨sm, tb, a1, a2, a3, a4, a5, a6, a7, a8, rfl⟩
      exact q _
end
end Bw

namespace Bw
open PySem PySem.Spec L2 LamX TL PyProof.Rows
/-! ### what the top has left -/
theorem vals_tup {K : PySem.W.Frag} {a : Addr} {d : Option Addr} {its : Array Value} {n : Nat} {sl : Array (Option Value)} {xs : List V} (hk : K.lookup a = some ⟨.type "tuple", d, .seq its n, sl⟩) (hz : its.size ≤ sizeLine) (r : Vals xs its.toList) (H : Hp) : SqT K H a xs :=
  .inr ⟨_, its, n, hk, rfl, rfl, hz, r⟩
theorem rel_str (x : Str) (t : Tok) : RelV (.str x) (.str x t) := ⟨t, rfl⟩
theorem loose_int {h : Heap} {v : Value} {n : Int} {as : List Addr} (r : PySem.W.ReadsLit h v (.int n) as) : ∃ t, v = .int n t := by
  cases r
  exact ⟨_, rfl⟩
theorem txtMk {p : Program} {K : PySem.W.Frag} {h : Heap} {mg : Str → Option Value} {aK : Addr} {dK : Option Addr} {nK : Nat} {sK : Array (Option Value)} {k1 k2 k3 k4 k5 tt t2 : Tok}
    (XP : PySem.W.XL p [(("MOST_NUMBER" : Str), .int 1000000000000), (("MOST_VALUE" : Str), .int 1000000000000000)] mg h) (KI : K.In h) (NS : h.Ns mainGlobals mg)
    (zlen : PySem.W.nsIn K mainGlobals "len" = some none)
    (zint : PySem.W.nsIn K mainGlobals "int" = some none)
    (zabs : PySem.W.nsIn K mainGlobals "abs" = some none)
    (zmax : PySem.W.nsIn K mainGlobals "max" = some none)
    (zmin : PySem.W.nsIn K mainGlobals "min" = some none)
    (zrange : PySem.W.nsIn K mainGlobals "range" = some none)
    (zisinstance : PySem.W.nsIn K mainGlobals "isinstance" = some none)
    (ztuple : PySem.W.nsIn K mainGlobals "tuple" = some none)
    (zall : PySem.W.nsIn K mainGlobals "all" = some none)
    (zstr : PySem.W.nsIn K mainGlobals "str" = some none)
    (zrepr : PySem.W.nsIn K mainGlobals "repr" = some none)
    (zlist : PySem.W.nsIn K mainGlobals "list" = some none)
    (zValueError : PySem.W.nsIn K mainGlobals "ValueError" = some none)
    (aaK : PySem.W.nsIn K mainGlobals "KINDS" = some (some (.ref aK))) (lK : K.lookup aK = some ⟨.type "tuple", dK, .seq #[.str "exact" k1, .str "flag" k2, .str "link" k3, .str "number" k4, .str "text" k5] nK, sK⟩)
    (x1 : PySem.W.nsIn K mainGlobals "MOST_TEXT" = some (some (.int 100 tt))) (x2 : PySem.W.nsIn K mainGlobals "MOST_MIDDLES" = some (some (.int 8 t2))) : ∃ aK : Addr, Txt K mg aK := by
  obtain ⟨v1, e1, r1⟩ := XP.2.val _ (List.mem_cons_self ..)
  obtain ⟨v2, e2, r2⟩ := XP.2.val _ (List.mem_cons_of_mem _ (List.mem_cons_self ..))
  obtain ⟨t1, rfl⟩ := loose_int r1
  obtain ⟨t2, rfl⟩ := loose_int r2
  exact ⟨aK, {
    b_len := PySem.W.mg_none_of KI NS zlen
    b_int := PySem.W.mg_none_of KI NS zint
    b_abs := PySem.W.mg_none_of KI NS zabs
    b_max := PySem.W.mg_none_of KI NS zmax
    b_min := PySem.W.mg_none_of KI NS zmin
    b_range := PySem.W.mg_none_of KI NS zrange
    b_isinstance := PySem.W.mg_none_of KI NS zisinstance
    b_tuple := PySem.W.mg_none_of KI NS ztuple
    b_all := PySem.W.mg_none_of KI NS zall
    b_str := PySem.W.mg_none_of KI NS zstr
    b_repr := PySem.W.mg_none_of KI NS zrepr
    b_list := PySem.W.mg_none_of KI NS zlist
    b_ValueError := PySem.W.mg_none_of KI NS zValueError
    g_KINDS := PySem.W.mg_of KI NS aaK
    s_KINDS := vals_tup lK (by show 5 ≤ sizeLine; decide) (.cons (rel_str _ _) (.cons (rel_str _ _) (.cons (rel_str _ _) (.cons (rel_str _ _) (.cons (rel_str _ _) .nil)))))
    g_number := ⟨_, e1⟩
    g_value := ⟨_, e2⟩
    g_text := ⟨_, PySem.W.mg_of KI NS x1⟩
    g_middles := ⟨_, PySem.W.mg_of KI NS x2⟩ }⟩
theorem txoMk {K : PySem.W.Frag} {h : Heap} {mg : Str → Option Value} {aO : Addr} {dO : Option Addr} {nO : Nat} {sO : Array (Option Value)} {k1 k2 k3 : Tok} (KI : K.In h) (NS : h.Ns mainGlobals mg)
    (aaO : PySem.W.nsIn K mainGlobals "ORDERED" = some (some (.ref aO))) (lO : K.lookup aO = some ⟨.type "tuple", dO, .seq #[.str "exact" k1, .str "number" k2, .str "text" k3] nO, sO⟩) : TxO K mg aO :=
  ⟨PySem.W.mg_of KI NS aaO, vals_tup lO (by show 3 ≤ sizeLine; decide) (.cons (rel_str _ _) (.cons (rel_str _ _) (.cons (rel_str _ _) .nil)))⟩
structure DefAt (K : PySem.W.Frag) (mg : Str → Option Value) (x : Str) (st : Stmt) : Prop where
  ex : ∃ (f : Addr) (fd : FuncData), Fun K x x st f fd ∧ mg x = some (.ref f)
theorem defAt {K : PySem.W.Frag} {h : Heap} {mg : Str → Option Value} {x : Str} {st : Stmt} {f : Addr} {od an : Option Addr} {sl : Array (Option Value)} {oc kV dc pm cd ct : Value} (KI : K.In h) (NS : h.Ns mainGlobals mg)
    (at_ : PySem.W.nsIn K mainGlobals x = some (some (.ref f))) (lk : K.lookup f = some ⟨oc, od, .func (PySem.W.fnOf x x (defArgs st) (defBody st) (defScope st) .none kV dc pm an cd ct), sl⟩)
    (cc : PySem.W.codeIn K cd x = true) (kk : PySem.W.keepIn K (.ref f) = true) : DefAt K mg x st := ⟨f, _, fun_mk (st := st) lk cc kk, PySem.W.mg_of KI NS at_⟩
/-- a def whose code object's table is known -/
structure RightAt (K : PySem.W.Frag) (mg : Str → Option Value) (x : Str) (st : Stmt) (c P : Addr) : Prop where
  ex : ∃ (f : Addr) (fd : FuncData), FunC K x x st f fd c ∧ mg x = some (.ref f)
  none_ : K.lookup P = none
theorem rightAt {K : PySem.W.Frag} {h : Heap} {mg : Str → Option Value} {x : Str} {st : Stmt} {f c P : Addr} {od an oe : Option Addr} {sl se : Array (Option Value)} {oc kV dc pm ct ce : Value} {vs : Array Value} (KI : K.In h) (NS : h.Ns mainGlobals mg)
    (at_ : PySem.W.nsIn K mainGlobals x = some (some (.ref f))) (lk : K.lookup f = some ⟨oc, od, .func (PySem.W.fnOf x x (defArgs st) (defBody st) (defScope st) .none kV dc pm an (.ref c) ct), sl⟩)
    (lc : K.lookup c = some ⟨ce, oe, .fields vs, se⟩) (vp : vs[11]? = some (.ref P)) (cc : PySem.W.codeIn K (.ref c) x = true) (kk : PySem.W.keepIn K (.ref f) = true) (np : K.lookup P = none) : RightAt K mg x st c P where
  ex := ⟨f, _, ⟨⟨oc, od, kV, dc, pm, an, ct, sl, rfl, lk, cc⟩, kk⟩, PySem.W.mg_of KI NS at_⟩
  none_ := np
theorem exm_of {K : PySem.W.Frag} {A B : Addr} {b : Bool} (h1 : PySem.W.subIn K (.ref B) (.type "BaseException") = some true) (h2 : PySem.W.isClsIn K B = true) (h3 : PySem.W.typeIn K (.ref B) = some (.type "type")) (h4 : PySem.W.subIn K (.ref A) (.ref B) = some b) :
    PySem.W.exmOne K (.ref A) (.ref B) = some b := by
  have e1 : (PySem.W.subIn K (.ref B) (.type "BaseException") == some true) = true := by rw [h1] <;> rfl
  have e2 : ((PySem.W.clsIn K B).isSome && PySem.W.typeIn K (.ref B) == some (.type "type")) = true := by
    have h5 : (PySem.W.clsIn K B).isSome = true := h2
    rw [h5, h3] <;> rfl
  unfold PySem.W.exmOne
  rw [if_pos e1]
  unfold PySem.W.kitCls
  exact (if_pos e2).trans h4
theorem oexMk {K : PySem.W.Frag} {C CB : Addr} {nm q : Str} {N : Addr} {bs : List Value} {sn : List Str} {sub : List Value} {ab : Bool} {col : Option Bool} {dd : Option Addr} {m0 m1 m2 m3 m5 : Option Value}
    (xL : K.lookup C = some (excClassObj nm q C N bs [.ref CB, .type "ValueError", .type "Exception", .type "BaseException", .type "object"] true sn sub ab col dd m0 m1 m2 m3 m5 "ValueError.__new__"))
    (sa : PySem.W.findIn K (.ref C) "__setattr__" = some (some (.builtin "object.__setattr__"))) (eC : PySem.W.subIn K (.ref C) (.type "BaseException") = some true) (tC : PySem.W.typeIn K (.ref C) = some (.type "type")) (kC : PySem.W.keepIn K (.ref C) = true) : OexC K C :=
  ⟨⟨nm, q, N, bs, _, sn, sub, ab, col, dd, m0, m1, m2, m3, m5, xL, by rfl⟩, sa, eC, tC, kC⟩
structure InitAt (K : PySem.W.Frag) (C : Addr) (qual : Str) (st : Stmt) : Prop where
  ex : ∃ (f : Addr) (fd : FuncData), PySem.W.findIn K (.ref C) "__init__" = some (some (.ref f)) ∧ PySem.W.typeIn K (.ref f) = some (.type "function") ∧ Fun K "__init__" qual st f fd
theorem initAt {K : PySem.W.Frag} {C f : Addr} {qual : Str} {st : Stmt} {od an : Option Addr} {sl : Array (Option Value)} {oc kV dc pm cd ct : Value} (a1 : PySem.W.findIn K (.ref C) "__init__" = some (some (.ref f))) (a2 : PySem.W.typeIn K (.ref f) = some (.type "function"))
    (lk : K.lookup f = some ⟨oc, od, .func (PySem.W.fnOf "__init__" qual (defArgs st) (defBody st) (defScope st) .none kV dc pm an cd ct), sl⟩) (cc : PySem.W.codeIn K cd qual = true) (kk : PySem.W.keepIn K (.ref f) = true) : InitAt K C qual st := ⟨f, _, a1, a2, fun_mk (st := st) lk cc kk⟩
structure BaseAt (K : PySem.W.Frag) (mg : Str → Option Value) (CO : Addr) : Prop where
  ex : ∃ (CB f : Addr) (fd : FuncData), FunD K "__init__" "BailiwickError.__init__" (defArgs s_BailiwickError___init__) (defBody s_BailiwickError___init__) (defScope s_BailiwickError___init__) [.non] [] f fd ∧ ClX.CRead K CB (.type "type") ∧
    PySem.W.findCls K (.ref CB) (.type "type") "__init__" = some (.val (.ref f)) ∧ mg "BailiwickError" = some (.ref CB) ∧ PySem.W.findIn K (.ref CO) "__init__" = some (some (.ref f)) ∧ PySem.W.typeIn K (.ref f) = some (.type "function")
theorem baseAt {K : PySem.W.Frag} {h : Heap} {mg : Str → Option Value} {CO CB f t : Addr} {od oe an : Option Addr} {sl se : Array (Option Value)} {oc kV dc pm cd ct ce : Value} {n : Nat} (KI : K.In h) (NS : h.Ns mainGlobals mg)
    (a0 : PySem.W.nsIn K mainGlobals "BailiwickError" = some (some (.ref CB))) (a1 : PySem.W.findIn K (.ref CO) "__init__" = some (some (.ref f))) (a2 : PySem.W.typeIn K (.ref f) = some (.type "function"))
    (a3 : PySem.W.readsIn K CB (.type "type") = true) (a4 : PySem.W.specialIn K (.ref CB) "__getattribute__" = some (some (.builtin "type.__getattribute__"))) (a5 : PySem.W.findCls K (.ref CB) (.type "type") "__init__" = some (.val (.ref f)))
    (a6 : K.lookup f = some ⟨oc, od, .func (PySem.W.fnOf "__init__" "BailiwickError.__init__" (defArgs s_BailiwickError___init__) (defBody s_BailiwickError___init__) (defScope s_BailiwickError___init__) (.ref t) kV dc pm an cd ct), sl⟩)
    (a7 : PySem.W.codeIn K cd "BailiwickError.__init__" = true) (a8 : PySem.W.keepIn K (.ref f) = true) (a9 : K.lookup t = some ⟨ce, oe, .seq #[.none] n, se⟩) : BaseAt K mg CO :=
  ⟨CB, f, _, ⟨⟨_, _, _, _, _, _, _, _, _, _, rfl, a6, a7, .inr ⟨by simp, t, _, [.none], n, rfl, a9, rfl, .cons rfl .nil⟩, .inl rfl⟩, a8⟩, ⟨a3, a4⟩, a5, PySem.W.mg_of KI NS a0, a1, a2⟩
theorem metMk {K : PySem.W.Frag} {h : Heap} {mg : Str → Option Value} {CT CW CO c2 c3 c4 c5 c6 c7 c9 c10 c11 c12 c13 c14 : Addr} (KI : K.In h) (NS : h.Ns mainGlobals mg)
    (n_CT : PySem.W.nsIn K mainGlobals "InvalidText" = some (some (.ref CT)))
    (n_CW : PySem.W.nsIn K mainGlobals "InvalidWord" = some (some (.ref CW)))
    (n_c2 : PySem.W.nsIn K mainGlobals "InvalidName" = some (some (.ref c2)))
    (n_c3 : PySem.W.nsIn K mainGlobals "InvalidSchema" = some (some (.ref c3)))
    (n_c4 : PySem.W.nsIn K mainGlobals "InvalidTree" = some (some (.ref c4)))
    (n_c5 : PySem.W.nsIn K mainGlobals "InvalidDeed" = some (some (.ref c5)))
    (n_c6 : PySem.W.nsIn K mainGlobals "InvalidFilter" = some (some (.ref c6)))
    (n_c7 : PySem.W.nsIn K mainGlobals "InvalidLetter" = some (some (.ref c7)))
    (n_CO : PySem.W.nsIn K mainGlobals "InvalidOperation" = some (some (.ref CO)))
    (n_c9 : PySem.W.nsIn K mainGlobals "ParseError" = some (some (.ref c9)))
    (n_c10 : PySem.W.nsIn K mainGlobals "InvalidNumber" = some (some (.ref c10)))
    (n_c11 : PySem.W.nsIn K mainGlobals "TooMany" = some (some (.ref c11)))
    (n_c12 : PySem.W.nsIn K mainGlobals "UnknownNumber" = some (some (.ref c12)))
    (n_c13 : PySem.W.nsIn K mainGlobals "UnknownName" = some (some (.ref c13)))
    (n_c14 : PySem.W.nsIn K mainGlobals "Refused" = some (some (.ref c14)))
    (a_CT : PySem.W.subIn K (.ref CT) (.type "BaseException") = some true) (b_CT : PySem.W.isClsIn K CT = true) (d_CT : PySem.W.typeIn K (.ref CT) = some (.type "type"))
    (a_CW : PySem.W.subIn K (.ref CW) (.type "BaseException") = some true) (b_CW : PySem.W.isClsIn K CW = true) (d_CW : PySem.W.typeIn K (.ref CW) = some (.type "type"))
    (a_c2 : PySem.W.subIn K (.ref c2) (.type "BaseException") = some true) (b_c2 : PySem.W.isClsIn K c2 = true) (d_c2 : PySem.W.typeIn K (.ref c2) = some (.type "type"))
    (a_c3 : PySem.W.subIn K (.ref c3) (.type "BaseException") = some true) (b_c3 : PySem.W.isClsIn K c3 = true) (d_c3 : PySem.W.typeIn K (.ref c3) = some (.type "type"))
    (a_c4 : PySem.W.subIn K (.ref c4) (.type "BaseException") = some true) (b_c4 : PySem.W.isClsIn K c4 = true) (d_c4 : PySem.W.typeIn K (.ref c4) = some (.type "type"))
    (a_c5 : PySem.W.subIn K (.ref c5) (.type "BaseException") = some true) (b_c5 : PySem.W.isClsIn K c5 = true) (d_c5 : PySem.W.typeIn K (.ref c5) = some (.type "type"))
    (a_c6 : PySem.W.subIn K (.ref c6) (.type "BaseException") = some true) (b_c6 : PySem.W.isClsIn K c6 = true) (d_c6 : PySem.W.typeIn K (.ref c6) = some (.type "type"))
    (a_c7 : PySem.W.subIn K (.ref c7) (.type "BaseException") = some true) (b_c7 : PySem.W.isClsIn K c7 = true) (d_c7 : PySem.W.typeIn K (.ref c7) = some (.type "type"))
    (a_CO : PySem.W.subIn K (.ref CO) (.type "BaseException") = some true) (b_CO : PySem.W.isClsIn K CO = true) (d_CO : PySem.W.typeIn K (.ref CO) = some (.type "type"))
    (p_TT : PySem.W.subIn K (.ref CT) (.ref CT) = some true)
    (p_WT : PySem.W.subIn K (.ref CW) (.ref CT) = some false)
    (p_WW : PySem.W.subIn K (.ref CW) (.ref CW) = some true)
    (p_OCT : PySem.W.subIn K (.ref CO) (.ref CT) = some false)
    (p_OCW : PySem.W.subIn K (.ref CO) (.ref CW) = some false)
    (p_Oc2 : PySem.W.subIn K (.ref CO) (.ref c2) = some false)
    (p_Oc3 : PySem.W.subIn K (.ref CO) (.ref c3) = some false)
    (p_Oc4 : PySem.W.subIn K (.ref CO) (.ref c4) = some false)
    (p_Oc5 : PySem.W.subIn K (.ref CO) (.ref c5) = some false)
    (p_Oc6 : PySem.W.subIn K (.ref CO) (.ref c6) = some false)
    (p_Oc7 : PySem.W.subIn K (.ref CO) (.ref c7) = some false)
    (p_OO : PySem.W.subIn K (.ref CO) (.ref CO) = some true)
    (g_CT : PySem.W.findIn K (.ref CT) "__getattribute__" = some (some (.builtin "BaseException.__getattribute__"))) (h_CT : PySem.W.findIn K (.ref CT) "__getattr__" = some none) (i_CT : PySem.W.hasDictIn K CT = true) (v_CT : PySem.W.findIn K (.ref CT) "value" = some none)
    (g_CW : PySem.W.findIn K (.ref CW) "__getattribute__" = some (some (.builtin "BaseException.__getattribute__"))) (h_CW : PySem.W.findIn K (.ref CW) "__getattr__" = some none) (i_CW : PySem.W.hasDictIn K CW = true) (v_CW : PySem.W.findIn K (.ref CW) "value" = some none)
    : MetF K mg CT CW CO c2 c3 c4 c5 c6 c7 c9 c10 c11 c12 c13 c14 where
  g_InvalidText := PySem.W.mg_of KI NS n_CT
  g_InvalidWord := PySem.W.mg_of KI NS n_CW
  g_InvalidName := PySem.W.mg_of KI NS n_c2
  g_InvalidSchema := PySem.W.mg_of KI NS n_c3
  g_InvalidTree := PySem.W.mg_of KI NS n_c4
  g_InvalidDeed := PySem.W.mg_of KI NS n_c5
  g_InvalidFilter := PySem.W.mg_of KI NS n_c6
  g_InvalidLetter := PySem.W.mg_of KI NS n_c7
  g_InvalidOperation := PySem.W.mg_of KI NS n_CO
  g_ParseError := PySem.W.mg_of KI NS n_c9
  g_InvalidNumber := PySem.W.mg_of KI NS n_c10
  g_TooMany := PySem.W.mg_of KI NS n_c11
  g_UnknownNumber := PySem.W.mg_of KI NS n_c12
  g_UnknownName := PySem.W.mg_of KI NS n_c13
  g_Refused := PySem.W.mg_of KI NS n_c14
  e_TT := exm_of a_CT b_CT d_CT p_TT
  e_WT := exm_of a_CT b_CT d_CT p_WT
  e_WW := exm_of a_CW b_CW d_CW p_WW
  e_OCT := exm_of a_CT b_CT d_CT p_OCT
  e_OCW := exm_of a_CW b_CW d_CW p_OCW
  e_Oc2 := exm_of a_c2 b_c2 d_c2 p_Oc2
  e_Oc3 := exm_of a_c3 b_c3 d_c3 p_Oc3
  e_Oc4 := exm_of a_c4 b_c4 d_c4 p_Oc4
  e_Oc5 := exm_of a_c5 b_c5 d_c5 p_Oc5
  e_Oc6 := exm_of a_c6 b_c6 d_c6 p_Oc6
  e_Oc7 := exm_of a_c7 b_c7 d_c7 p_Oc7
  e_OO := exm_of a_CO b_CO d_CO p_OO
  x_InvalidText := ⟨g_CT, h_CT, a_CT, i_CT⟩
  n_InvalidText := v_CT
  x_InvalidWord := ⟨g_CW, h_CW, a_CW, i_CW⟩
  n_InvalidWord := v_CW
theorem all_mk {l : PySem.W.OpenLaw} {w : World} {K : PySem.W.Frag} {mg : Str → Option Value} {fa aO CT CW CO c2 c3 c4 c5 c6 c7 c9 c10 c11 c12 c13 c14 k1 P1 k2 P2 k3 P3 k4 P4 : Addr} (hT : ∃ aK : Addr, Txt K mg aK) (TO : TxO K mg aO) (MF : MetF K mg CT CW CO c2 c3 c4 c5 c6 c7 c9 c10 c11 c12 c13 c14) (OT : OexC K CT) (OW : OexC K CW) (OO : OexC K CO)
    (IT : InitAt K CT "InvalidText.__init__" s_InvalidText___init__) (IW : InitAt K CW "InvalidWord.__init__" s_InvalidWord___init__) (BA : BaseAt K mg CO)
    (r1 : RightAt K mg "_law_kinds_right" s_law_kinds_right k1 P1)
    (r2 : RightAt K mg "_law_texts_right" s_law_texts_right k2 P2)
    (r3 : RightAt K mg "_law_orders_right" s_law_orders_right k3 P3)
    (r4 : RightAt K mg "_law_patterns_right" s_law_patterns_right k4 P4)
    (nd : List.Pairwise (fun a b : Addr => a ≠ b) [P1, P2, P3, P4]) (hfa : mg "law" = some (.ref fa))
    (d_shown : DefAt K mg "_shown" s_shown) (d_are_signs : DefAt K mg "are_signs" s_are_signs) (d_is_text : DefAt K mg "is_text" s_is_text) (d_need_kind : DefAt K mg "_need_kind" s_need_kind) (d_are_plain_digits : DefAt K mg "are_plain_digits" s_are_plain_digits) (d_fits_number : DefAt K mg "_fits_number" s_fits_number) (d_read_place : DefAt K mg "read_place" s_read_place) (d_read_number : DefAt K mg "read_number" s_read_number) (d_fits_exactly : DefAt K mg "_fits_exactly" s_fits_exactly) (d_known_form : DefAt K mg "known_form" s_known_form) (d_form_of : DefAt K mg "form_of" s_form_of) (d_is_fit : DefAt K mg "is_fit" s_is_fit) (d_is_form : DefAt K mg "is_form" s_is_form) (d_is_less : DefAt K mg "is_less" s_is_less) (d_is_piece : DefAt K mg "_is_piece" s_is_piece) (d_is_pattern : DefAt K mg "is_pattern" s_is_pattern) (d_squeezed : DefAt K mg "_squeezed" s_squeezed) (d_text_pattern : DefAt K mg "_text_pattern" s_text_pattern) (d_pattern_form : DefAt K mg "pattern_form" s_pattern_form) (d_does_match : DefAt K mg "does_match" s_does_match) (d_law_dice : DefAt K mg "_law_dice" s_law_dice) (d_law_roll : DefAt K mg "_law_roll" s_law_roll) (d_law_one_of : DefAt K mg "_law_one_of" s_law_one_of) (d_law_met : DefAt K mg "_law_met" s_law_met) (d_law : DefAt K mg "law" s_law) :
    ∃ fd : FuncData, (∀ (s : Shared) (v : Value), BindsTo s fd ⟨[v], []⟩ [("_law_script", v)]) ∧ ∀ base : Heap, K.In base → base.Ns mainGlobals mg → (∀ p ∈ ([(k1, P1), (k2, P2), (k3, P3), (k4, P4)] : List (Addr × Addr)), TabB base mg p.1 p.2) → FnOk l.prog w K mg base CX0 12 fa fd ["_law_script"] (spLawT K [(P1, "_law_kinds_right.<locals>.<lambda>"), (P2, "_law_texts_right.<locals>.<lambda>"), (P3, "_law_orders_right.<locals>.<lambda>"), (P4, "_law_patterns_right.<locals>.<lambda>")]) := by
  obtain ⟨aK, T⟩ := hT
  obtain ⟨f_shown, fd_shown, F_shown, m_shown⟩ := d_shown.ex
  have b_shown := F_shown.binds (ps := ["value"]) fun _ _ _ _ _ _ us hl => match us, hl with | [_], _ => rfl
  obtain ⟨f_are_signs, fd_are_signs, F_are_signs, m_are_signs⟩ := d_are_signs.ex
  have b_are_signs := F_are_signs.binds (ps := ["value", "most"]) fun _ _ _ _ _ _ us hl => match us, hl with | [_, _], _ => rfl
  obtain ⟨f_is_text, fd_is_text, F_is_text, m_is_text⟩ := d_is_text.ex
  have b_is_text := F_is_text.binds (ps := ["value"]) fun _ _ _ _ _ _ us hl => match us, hl with | [_], _ => rfl
  obtain ⟨f_need_kind, fd_need_kind, F_need_kind, m_need_kind⟩ := d_need_kind.ex
  have b_need_kind := F_need_kind.binds (ps := ["kind"]) fun _ _ _ _ _ _ us hl => match us, hl with | [_], _ => rfl
  obtain ⟨f_are_plain_digits, fd_are_plain_digits, F_are_plain_digits, m_are_plain_digits⟩ := d_are_plain_digits.ex
  have b_are_plain_digits := F_are_plain_digits.binds (ps := ["signs"]) fun _ _ _ _ _ _ us hl => match us, hl with | [_], _ => rfl
  obtain ⟨f_fits_number, fd_fits_number, F_fits_number, m_fits_number⟩ := d_fits_number.ex
  have b_fits_number := F_fits_number.binds (ps := ["text"]) fun _ _ _ _ _ _ us hl => match us, hl with | [_], _ => rfl
  obtain ⟨f_read_place, fd_read_place, F_read_place, m_read_place⟩ := d_read_place.ex
  have b_read_place := F_read_place.binds (ps := ["signs"]) fun _ _ _ _ _ _ us hl => match us, hl with | [_], _ => rfl
  obtain ⟨f_read_number, fd_read_number, F_read_number, m_read_number⟩ := d_read_number.ex
  have b_read_number := F_read_number.binds (ps := ["signs"]) fun _ _ _ _ _ _ us hl => match us, hl with | [_], _ => rfl
  obtain ⟨f_fits_exactly, fd_fits_exactly, F_fits_exactly, m_fits_exactly⟩ := d_fits_exactly.ex
  have b_fits_exactly := F_fits_exactly.binds (ps := ["kind", "text"]) fun _ _ _ _ _ _ us hl => match us, hl with | [_, _], _ => rfl
  obtain ⟨f_known_form, fd_known_form, F_known_form, m_known_form⟩ := d_known_form.ex
  have b_known_form := F_known_form.binds (ps := ["kind", "text"]) fun _ _ _ _ _ _ us hl => match us, hl with | [_, _], _ => rfl
  obtain ⟨f_form_of, fd_form_of, F_form_of, m_form_of⟩ := d_form_of.ex
  have b_form_of := F_form_of.binds (ps := ["kind", "text"]) fun _ _ _ _ _ _ us hl => match us, hl with | [_, _], _ => rfl
  obtain ⟨f_is_fit, fd_is_fit, F_is_fit, m_is_fit⟩ := d_is_fit.ex
  have b_is_fit := F_is_fit.binds (ps := ["kind", "value"]) fun _ _ _ _ _ _ us hl => match us, hl with | [_, _], _ => rfl
  obtain ⟨f_is_form, fd_is_form, F_is_form, m_is_form⟩ := d_is_form.ex
  have b_is_form := F_is_form.binds (ps := ["kind", "value"]) fun _ _ _ _ _ _ us hl => match us, hl with | [_, _], _ => rfl
  obtain ⟨f_is_less, fd_is_less, F_is_less, m_is_less⟩ := d_is_less.ex
  have b_is_less := F_is_less.binds (ps := ["kind", "one", "other"]) fun _ _ _ _ _ _ us hl => match us, hl with | [_, _, _], _ => rfl
  obtain ⟨f_is_piece, fd_is_piece, F_is_piece, m_is_piece⟩ := d_is_piece.ex
  have b_is_piece := F_is_piece.binds (ps := ["value"]) fun _ _ _ _ _ _ us hl => match us, hl with | [_], _ => rfl
  obtain ⟨f_is_pattern, fd_is_pattern, F_is_pattern, m_is_pattern⟩ := d_is_pattern.ex
  have b_is_pattern := F_is_pattern.binds (ps := ["value"]) fun _ _ _ _ _ _ us hl => match us, hl with | [_], _ => rfl
  obtain ⟨f_squeezed, fd_squeezed, F_squeezed, m_squeezed⟩ := d_squeezed.ex
  have b_squeezed := F_squeezed.binds (ps := ["piece"]) fun _ _ _ _ _ _ us hl => match us, hl with | [_], _ => rfl
  obtain ⟨f_text_pattern, fd_text_pattern, F_text_pattern, m_text_pattern⟩ := d_text_pattern.ex
  have b_text_pattern := F_text_pattern.binds (ps := ["pattern"]) fun _ _ _ _ _ _ us hl => match us, hl with | [_], _ => rfl
  obtain ⟨f_pattern_form, fd_pattern_form, F_pattern_form, m_pattern_form⟩ := d_pattern_form.ex
  have b_pattern_form := F_pattern_form.binds (ps := ["kind", "pattern"]) fun _ _ _ _ _ _ us hl => match us, hl with | [_, _], _ => rfl
  obtain ⟨f_does_match, fd_does_match, F_does_match, m_does_match⟩ := d_does_match.ex
  have b_does_match := F_does_match.binds (ps := ["kind", "pattern", "form"]) fun _ _ _ _ _ _ us hl => match us, hl with | [_, _, _], _ => rfl
  obtain ⟨f_law_dice, fd_law_dice, F_law_dice, m_law_dice⟩ := d_law_dice.ex
  have b_law_dice := F_law_dice.binds (ps := ["_law_script", "_law_at"]) fun _ _ _ _ _ _ us hl => match us, hl with | [_, _], _ => rfl
  obtain ⟨f_law_roll, fd_law_roll, F_law_roll, m_law_roll⟩ := d_law_roll.ex
  have b_law_roll := F_law_roll.binds (ps := ["_law_dice_here", "_law_total"]) fun _ _ _ _ _ _ us hl => match us, hl with | [_, _], _ => rfl
  obtain ⟨f_law_one_of, fd_law_one_of, F_law_one_of, m_law_one_of⟩ := d_law_one_of.ex
  have b_law_one_of := F_law_one_of.binds (ps := ["_law_dice_here", "_law_items"]) fun _ _ _ _ _ _ us hl => match us, hl with | [_, _], _ => rfl
  obtain ⟨f_law_met, fd_law_met, F_law_met, m_law_met⟩ := d_law_met.ex
  have b_law_met := F_law_met.binds (ps := ["_law_call"]) fun _ _ _ _ _ _ us hl => match us, hl with | [_], _ => rfl
  obtain ⟨f_law_kinds_right, fd_law_kinds_right, F_law_kinds_right, m_law_kinds_right⟩ := r1.ex
  have b_law_kinds_right := F_law_kinds_right.plain.binds (ps := ["_law_bad", "_law_odd", "_law_wrong"]) fun _ _ _ _ _ _ us hl => match us, hl with | [_, _, _], _ => rfl
  obtain ⟨f_law_texts_right, fd_law_texts_right, F_law_texts_right, m_law_texts_right⟩ := r2.ex
  have b_law_texts_right := F_law_texts_right.plain.binds (ps := ["_law_kind", "_law_odd"]) fun _ _ _ _ _ _ us hl => match us, hl with | [_, _], _ => rfl
  obtain ⟨f_law_orders_right, fd_law_orders_right, F_law_orders_right, m_law_orders_right⟩ := r3.ex
  have b_law_orders_right := F_law_orders_right.plain.binds (ps := ["_law_dice_here", "_law_odd"]) fun _ _ _ _ _ _ us hl => match us, hl with | [_, _], _ => rfl
  obtain ⟨f_law_patterns_right, fd_law_patterns_right, F_law_patterns_right, m_law_patterns_right⟩ := r4.ex
  have b_law_patterns_right := F_law_patterns_right.plain.binds (ps := ["_law_dice_here", "_law_odd", "_law_wrong"]) fun _ _ _ _ _ _ us hl => match us, hl with | [_, _, _], _ => rfl
  obtain ⟨f_law, fd_law, F_law, m_law⟩ := d_law.ex
  have b_law := F_law.binds (ps := ["_law_script"]) fun _ _ _ _ _ _ us hl => match us, hl with | [_], _ => rfl
  have e := hfa.symm.trans m_law
  cases e
  refine ⟨fd_law, fun s v => ?_, fun base _ _ hTB => ?_⟩
  · obtain ⟨_, _, _, _, _, _, _, _, _, rfl, _, _⟩ := F_law.ex
    exact .of_eq rfl
  have D_shown : Dfn l.prog w K mg base "_shown" 1 ["value"] _ := ⟨f_shown, fd_shown, ok_shown F_shown T, m_shown, F_shown.kp, b_shown⟩
  have D_are_signs : Dfn l.prog w K mg base "are_signs" 1 ["value", "most"] _ := ⟨f_are_signs, fd_are_signs, ok_are_signs F_are_signs T, m_are_signs, F_are_signs.kp, b_are_signs⟩
  have D_is_text : Dfn l.prog w K mg base "is_text" 2 ["value"] _ := ⟨f_is_text, fd_is_text, ok_is_text F_is_text T D_are_signs, m_is_text, F_is_text.kp, b_is_text⟩
  have D_need_kind : Dfn l.prog w K mg base "_need_kind" 1 ["kind"] _ := ⟨f_need_kind, fd_need_kind, ok_need_kind F_need_kind T, m_need_kind, F_need_kind.kp, b_need_kind⟩
  have D_are_plain_digits : Dfn l.prog w K mg base "are_plain_digits" 1 ["signs"] _ := ⟨f_are_plain_digits, fd_are_plain_digits, ok_are_plain_digits F_are_plain_digits , m_are_plain_digits, F_are_plain_digits.kp, b_are_plain_digits⟩
  have D_fits_number : Dfn l.prog w K mg base "_fits_number" 2 ["text"] _ := ⟨f_fits_number, fd_fits_number, ok_fits_number F_fits_number T D_are_plain_digits, m_fits_number, F_fits_number.kp, b_fits_number⟩
  have D_read_place : Dfn l.prog w K mg base "read_place" 2 ["signs"] _ := ⟨f_read_place, fd_read_place, ok_read_place F_read_place T D_are_plain_digits, m_read_place, F_read_place.kp, b_read_place⟩
  have D_read_number : Dfn l.prog w K mg base "read_number" 3 ["signs"] _ := ⟨f_read_number, fd_read_number, ok_read_number F_read_number D_read_place, m_read_number, F_read_number.kp, b_read_number⟩
  have D_fits_exactly : Dfn l.prog w K mg base "_fits_exactly" 4 ["kind", "text"] _ := ⟨f_fits_exactly, fd_fits_exactly, ok_fits_exactly F_fits_exactly D_fits_number D_read_number, m_fits_exactly, F_fits_exactly.kp, b_fits_exactly⟩
  have D_known_form : Dfn l.prog w K mg base "known_form" 5 ["kind", "text"] _ := ⟨f_known_form, fd_known_form, ok_known_form F_known_form D_fits_exactly, m_known_form, F_known_form.kp, b_known_form⟩
  have D_is_fit : Dfn l.prog w K mg base "is_fit" 6 ["kind", "value"] _ := ⟨f_is_fit, fd_is_fit, ok_is_fit F_is_fit D_need_kind D_is_text D_known_form, m_is_fit, F_is_fit.kp, b_is_fit⟩
  have D_is_form : Dfn l.prog w K mg base "is_form" 6 ["kind", "value"] _ := ⟨f_is_form, fd_is_form, ok_is_form F_is_form D_need_kind D_is_text D_known_form, m_is_form, F_is_form.kp, b_is_form⟩
  have D_is_piece : Dfn l.prog w K mg base "_is_piece" 3 ["value"] _ := ⟨f_is_piece, fd_is_piece, ok_is_piece F_is_piece T D_is_text, m_is_piece, F_is_piece.kp, b_is_piece⟩
  have D_is_pattern : Dfn l.prog w K mg base "is_pattern" 4 ["value"] _ := ⟨f_is_pattern, fd_is_pattern, ok_is_pattern F_is_pattern T D_is_text D_is_piece, m_is_pattern, F_is_pattern.kp, b_is_pattern⟩
  have D_squeezed : Dfn l.prog w K mg base "_squeezed" 1 ["piece"] _ := ⟨f_squeezed, fd_squeezed, ok_squeezed F_squeezed , m_squeezed, F_squeezed.kp, b_squeezed⟩
  have D_text_pattern : Dfn l.prog w K mg base "_text_pattern" 2 ["pattern"] _ := ⟨f_text_pattern, fd_text_pattern, ok_text_pattern F_text_pattern T D_squeezed, m_text_pattern, F_text_pattern.kp, b_text_pattern⟩
  have D_pattern_form : Dfn l.prog w K mg base "pattern_form" 6 ["kind", "pattern"] _ := ⟨f_pattern_form, fd_pattern_form, ok_pattern_form F_pattern_form T D_need_kind D_is_pattern D_text_pattern, m_pattern_form, F_pattern_form.kp, b_pattern_form⟩
  have D_law_dice : Dfn l.prog w K mg base "_law_dice" 1 ["_law_script", "_law_at"] _ := ⟨f_law_dice, fd_law_dice, ok_law_dice F_law_dice T, m_law_dice, F_law_dice.kp, b_law_dice⟩
  have D_law_roll : Dfn l.prog w K mg base "_law_roll" 1 ["_law_dice_here", "_law_total"] _ := ⟨f_law_roll, fd_law_roll, ok_law_roll F_law_roll T, m_law_roll, F_law_roll.kp, b_law_roll⟩
  have D_law_one_of : Dfn l.prog w K mg base "_law_one_of" 2 ["_law_dice_here", "_law_items"] _ := ⟨f_law_one_of, fd_law_one_of, ok_law_one_of F_law_one_of T D_law_roll, m_law_one_of, F_law_one_of.kp, b_law_one_of⟩
  obtain ⟨CB, fB, fdB, FB, cr, fc, mB, fO, tB⟩ := BA.ex
  obtain ⟨dsB, rB, bB⟩ := FB.binds1 (ps := ["self", "value"]) 2 1 (by simp) rfl (fun _ _ _ _ _ _ _ us its h1 h2 => match us, its, h1, h2 with | [_, _], [_], _, _ => ⟨_, rfl, rfl⟩)
  have eB : dsB = [] := by
    cases rB
    rfl
  subst eB
  have FoB := ok_base_init (P := l.prog) (w := w) (base := base) FB T D_shown
  have BE : BasE l.prog w K mg base fB := ⟨CB, fdB, cr, fc, mB, FB.kp, FoB, bB⟩
  obtain ⟨fT, fdT, iT, yT, FT⟩ := IT.ex
  have bT := FT.binds (ps := ["self", "value"]) fun _ _ _ _ _ _ us hl => match us, hl with | [_, _], _ => rfl
  obtain ⟨fW, fdW, iW, yW, FW⟩ := IW.ex
  have bW := FW.binds (ps := ["self", "value"]) fun _ _ _ _ _ _ us hl => match us, hl with | [_, _], _ => rfl
  have ET : ValE l.prog w K mg base "InvalidText" CT := ⟨OT, MF.n_InvalidText, MF.g_InvalidText, fT, fdT, iT, yT, ok_InvalidText_init FT BE, bT⟩
  have EW : ValE l.prog w K mg base "InvalidWord" CW := ⟨OW, MF.n_InvalidWord, MF.g_InvalidWord, fW, fdW, iW, yW, ok_InvalidWord_init FW BE, bW⟩
  have EO : OpE l.prog w K mg base "InvalidOperation" CO := ⟨OO, MF.g_InvalidOperation, fB, fdB, fO, tB, FoB, bB⟩
  have DX_need_kind : DfnX l.prog w K mg base "_need_kind" 5 ["kind"] _ := ⟨f_need_kind, fd_need_kind, okX_need_kind F_need_kind T EW, m_need_kind, F_need_kind.kp, b_need_kind⟩
  have DK_form_of : DfnX l.prog w K mg base "form_of" 7 ["kind", "text"] _ := ⟨f_form_of, fd_form_of, okK_form_of F_form_of DX_need_kind, m_form_of, F_form_of.kp, b_form_of⟩
  have DK_is_fit : DfnX l.prog w K mg base "is_fit" 7 ["kind", "value"] _ := ⟨f_is_fit, fd_is_fit, okK_is_fit F_is_fit DX_need_kind, m_is_fit, F_is_fit.kp, b_is_fit⟩
  have DK_is_form : DfnX l.prog w K mg base "is_form" 7 ["kind", "value"] _ := ⟨f_is_form, fd_is_form, okK_is_form F_is_form DX_need_kind, m_is_form, F_is_form.kp, b_is_form⟩
  have DK_pattern_form : DfnX l.prog w K mg base "pattern_form" 7 ["kind", "pattern"] _ := ⟨f_pattern_form, fd_pattern_form, okK_pattern_form F_pattern_form DX_need_kind, m_pattern_form, F_pattern_form.kp, b_pattern_form⟩
  have DK_is_less : DfnX l.prog w K mg base "is_less" 7 ["kind", "one", "other"] _ := ⟨f_is_less, fd_is_less, okK_is_less F_is_less DX_need_kind, m_is_less, F_is_less.kp, b_is_less⟩
  have DK_does_match : DfnX l.prog w K mg base "does_match" 8 ["kind", "pattern", "form"] _ := ⟨f_does_match, fd_does_match, okK_does_match F_does_match DK_pattern_form, m_does_match, F_does_match.kp, b_does_match⟩
  have DT_form_of : DfnX l.prog w K mg base "form_of" 6 ["kind", "text"] _ := ⟨f_form_of, fd_form_of, okT_form_of F_form_of D_need_kind D_is_text ET, m_form_of, F_form_of.kp, b_form_of⟩
  have DO_is_less : DfnX l.prog w K mg base "is_less" 6 ["kind", "one", "other"] _ := ⟨f_is_less, fd_is_less, okO_is_less F_is_less TO D_need_kind EO, m_is_less, F_is_less.kp, b_is_less⟩
  have DF_is_less : DfnX l.prog w K mg base "is_less" 7 ["kind", "one", "other"] _ := ⟨f_is_less, fd_is_less, okF_is_less F_is_less TO D_need_kind D_is_form EO, m_is_less, F_is_less.kp, b_is_less⟩
  have DP_pattern_form : DfnX l.prog w K mg base "pattern_form" 6 ["kind", "pattern"] _ := ⟨f_pattern_form, fd_pattern_form, okP_pattern_form F_pattern_form D_need_kind D_is_pattern EO, m_pattern_form, F_pattern_form.kp, b_pattern_form⟩
  have DP_does_match : DfnX l.prog w K mg base "does_match" 7 ["kind", "pattern", "form"] _ := ⟨f_does_match, fd_does_match, okP_does_match F_does_match DP_pattern_form, m_does_match, F_does_match.kp, b_does_match⟩
  have DF_does_match : DfnX l.prog w K mg base "does_match" 7 ["kind", "pattern", "form"] _ := ⟨f_does_match, fd_does_match, okF_does_match F_does_match D_pattern_form D_is_form EO, m_does_match, F_does_match.kp, b_does_match⟩
  have CM : ∃ (gM : Addr) (fdM : FuncData), Fun K "_law_met" "_law_met" s_law_met gM fdM ∧ mg "_law_met" = some (.ref gM) ∧ Binds K fdM ["_law_call"] [] := ⟨f_law_met, fd_law_met, F_law_met, m_law_met, b_law_met⟩
  obtain ⟨⟨n12, n13, n14⟩, ⟨n23, n24⟩, n34⟩ : (P1 ≠ P2 ∧ P1 ≠ P3 ∧ P1 ≠ P4) ∧ (P2 ≠ P3 ∧ P2 ≠ P4) ∧ P3 ≠ P4 := by
    simp only [List.pairwise_cons, List.mem_cons, List.not_mem_nil, or_false, forall_eq_or_imp, forall_eq] at nd
    exact ⟨⟨nd.1.1, nd.1.2.1, nd.1.2.2⟩, ⟨nd.2.1.1, nd.2.1.2⟩, nd.2.2.1⟩
  have L1 : LmF K mg base [(P1, "_law_kinds_right.<locals>.<lambda>"), (P2, "_law_texts_right.<locals>.<lambda>"), (P3, "_law_orders_right.<locals>.<lambda>"), (P4, "_law_patterns_right.<locals>.<lambda>")] CT CW CO k1 "_law_kinds_right.<locals>.<lambda>" := by
    refine ⟨CM, ⟨c2, c3, c4, c5, c6, c7, c9, c10, c11, c12, c13, c14, MF⟩, P1, hTB (k1, P1) (by simp), by simp, fun p hp e => ?_⟩
    simp only [List.mem_cons, List.not_mem_nil, or_false] at hp
    rcases hp with rfl | rfl | rfl | rfl
    · rfl
    · exact absurd e fun z => n12 z.symm
    · exact absurd e fun z => n13 z.symm
    · exact absurd e fun z => n14 z.symm
  have L2 : LmF K mg base [(P1, "_law_kinds_right.<locals>.<lambda>"), (P2, "_law_texts_right.<locals>.<lambda>"), (P3, "_law_orders_right.<locals>.<lambda>"), (P4, "_law_patterns_right.<locals>.<lambda>")] CT CW CO k2 "_law_texts_right.<locals>.<lambda>" := by
    refine ⟨CM, ⟨c2, c3, c4, c5, c6, c7, c9, c10, c11, c12, c13, c14, MF⟩, P2, hTB (k2, P2) (by simp), by simp, fun p hp e => ?_⟩
    simp only [List.mem_cons, List.not_mem_nil, or_false] at hp
    rcases hp with rfl | rfl | rfl | rfl
    · exact absurd e n12
    · rfl
    · exact absurd e fun z => n23 z.symm
    · exact absurd e fun z => n24 z.symm
  have L3 : LmF K mg base [(P1, "_law_kinds_right.<locals>.<lambda>"), (P2, "_law_texts_right.<locals>.<lambda>"), (P3, "_law_orders_right.<locals>.<lambda>"), (P4, "_law_patterns_right.<locals>.<lambda>")] CT CW CO k3 "_law_orders_right.<locals>.<lambda>" := by
    refine ⟨CM, ⟨c2, c3, c4, c5, c6, c7, c9, c10, c11, c12, c13, c14, MF⟩, P3, hTB (k3, P3) (by simp), by simp, fun p hp e => ?_⟩
    simp only [List.mem_cons, List.not_mem_nil, or_false] at hp
    rcases hp with rfl | rfl | rfl | rfl
    · exact absurd e n13
    · exact absurd e n23
    · rfl
    · exact absurd e fun z => n34 z.symm
  have L4 : LmF K mg base [(P1, "_law_kinds_right.<locals>.<lambda>"), (P2, "_law_texts_right.<locals>.<lambda>"), (P3, "_law_orders_right.<locals>.<lambda>"), (P4, "_law_patterns_right.<locals>.<lambda>")] CT CW CO k4 "_law_patterns_right.<locals>.<lambda>" := by
    refine ⟨CM, ⟨c2, c3, c4, c5, c6, c7, c9, c10, c11, c12, c13, c14, MF⟩, P4, hTB (k4, P4) (by simp), by simp, fun p hp e => ?_⟩
    simp only [List.mem_cons, List.not_mem_nil, or_false] at hp
    rcases hp with rfl | rfl | rfl | rfl
    · exact absurd e n14
    · exact absurd e n24
    · exact absurd e n34
    · rfl
  have D_law_kinds_right : Dfn l.prog w K mg base "_law_kinds_right" 11 ["_law_bad", "_law_odd", "_law_wrong"] _ := ⟨f_law_kinds_right, fd_law_kinds_right, ok_law_kinds_right F_law_kinds_right T L1 DK_is_fit DK_is_form DK_form_of DK_is_less DK_pattern_form DK_does_match, m_law_kinds_right, F_law_kinds_right.kp, b_law_kinds_right⟩
  have D_law_texts_right : Dfn l.prog w K mg base "_law_texts_right" 11 ["_law_kind", "_law_odd"] _ := ⟨f_law_texts_right, fd_law_texts_right, ok_law_texts_right F_law_texts_right T L2 DT_form_of D_is_fit D_is_form, m_law_texts_right, F_law_texts_right.kp, b_law_texts_right⟩
  have D_law_orders_right : Dfn l.prog w K mg base "_law_orders_right" 11 ["_law_dice_here", "_law_odd"] _ := ⟨f_law_orders_right, fd_law_orders_right, ok_law_orders_right F_law_orders_right T L3 D_law_one_of DO_is_less DF_is_less, m_law_orders_right, F_law_orders_right.kp, b_law_orders_right⟩
  have D_law_patterns_right : Dfn l.prog w K mg base "_law_patterns_right" 11 ["_law_dice_here", "_law_odd", "_law_wrong"] _ := ⟨f_law_patterns_right, fd_law_patterns_right, ok_law_patterns_right F_law_patterns_right T L4 D_law_one_of DP_pattern_form DP_does_match DF_does_match D_is_pattern, m_law_patterns_right, F_law_patterns_right.kp, b_law_patterns_right⟩
  exact ok_law F_law T D_law_dice D_law_one_of D_law_kinds_right D_law_texts_right D_law_orders_right D_law_patterns_right
theorem fin_mk {l : PySem.W.OpenLaw} {w : World} {K : PySem.W.Frag} {mg : Str → Option Value} {hh : Heap} {fa aO CT CW CO c2 c3 c4 c5 c6 c7 c9 c10 c11 c12 c13 c14 k1 P1 k2 P2 k3 P3 k4 P4 : Addr}
    (KI : K.In hh)
    (hT : ∃ aK : Addr, Txt K mg aK) (TO : TxO K mg aO) (MF : MetF K mg CT CW CO c2 c3 c4 c5 c6 c7 c9 c10 c11 c12 c13 c14) (OT : OexC K CT) (OW : OexC K CW) (OO : OexC K CO)
    (IT : InitAt K CT "InvalidText.__init__" s_InvalidText___init__) (IW : InitAt K CW "InvalidWord.__init__" s_InvalidWord___init__) (BA : BaseAt K mg CO)
    (r1 : RightAt K mg "_law_kinds_right" s_law_kinds_right k1 P1) (r2 : RightAt K mg "_law_texts_right" s_law_texts_right k2 P2) (r3 : RightAt K mg "_law_orders_right" s_law_orders_right k3 P3) (r4 : RightAt K mg "_law_patterns_right" s_law_patterns_right k4 P4)
    (nd : List.Pairwise (fun a b : Addr => a ≠ b) [P1, P2, P3, P4]) (hfa : mg "law" = some (.ref fa))
    (d_shown : DefAt K mg "_shown" s_shown) (d_are_signs : DefAt K mg "are_signs" s_are_signs) (d_is_text : DefAt K mg "is_text" s_is_text) (d_need_kind : DefAt K mg "_need_kind" s_need_kind) (d_are_plain_digits : DefAt K mg "are_plain_digits" s_are_plain_digits) (d_fits_number : DefAt K mg "_fits_number" s_fits_number) (d_read_place : DefAt K mg "read_place" s_read_place) (d_read_number : DefAt K mg "read_number" s_read_number) (d_fits_exactly : DefAt K mg "_fits_exactly" s_fits_exactly) (d_known_form : DefAt K mg "known_form" s_known_form) (d_form_of : DefAt K mg "form_of" s_form_of) (d_is_fit : DefAt K mg "is_fit" s_is_fit) (d_is_form : DefAt K mg "is_form" s_is_form) (d_is_less : DefAt K mg "is_less" s_is_less) (d_is_piece : DefAt K mg "_is_piece" s_is_piece) (d_is_pattern : DefAt K mg "is_pattern" s_is_pattern) (d_squeezed : DefAt K mg "_squeezed" s_squeezed) (d_text_pattern : DefAt K mg "_text_pattern" s_text_pattern) (d_pattern_form : DefAt K mg "pattern_form" s_pattern_form) (d_does_match : DefAt K mg "does_match" s_does_match) (d_law_dice : DefAt K mg "_law_dice" s_law_dice) (d_law_roll : DefAt K mg "_law_roll" s_law_roll) (d_law_one_of : DefAt K mg "_law_one_of" s_law_one_of) (d_law_met : DefAt K mg "_law_met" s_law_met) (d_law : DefAt K mg "law" s_law)
    (q1 : PySem.W.codeHdIn K k1 P1 = true) (g1 : hh.get? P1 = some { cls := .none, data := .fields #[] })
    (q2 : PySem.W.codeHdIn K k2 P2 = true) (g2 : hh.get? P2 = some { cls := .none, data := .fields #[] })
    (q3 : PySem.W.codeHdIn K k3 P3 = true) (g3 : hh.get? P3 = some { cls := .none, data := .fields #[] })
    (q4 : PySem.W.codeHdIn K k4 P4 = true) (g4 : hh.get? P4 = some { cls := .none, data := .fields #[] })
    : ∃ (fu : FuncData) (cs : List (Addr × Addr)) (T : List (Addr × Str)), (∀ p ∈ T, ∃ q ∈ cs, q.2 = p.1) ∧ (∀ p ∈ cs, hh.get? p.2 = some { cls := .none, data := .fields #[] }) ∧ (∀ p ∈ cs, K.lookup p.2 = none) ∧ (∀ p ∈ cs, PySem.W.CodeHd hh p.1 p.2) ∧
        (∀ (sh : Shared) (vv : Value), BindsTo sh fu ⟨[vv], []⟩ [("_law_script", vv)]) ∧ ∀ bb : Heap, K.In bb → bb.Ns mainGlobals mg → (∀ p ∈ cs, TabB bb mg p.1 p.2) → FnOk l.prog w K mg bb CX0 12 fa fu ["_law_script"] (spLawT K T) := by
  have c1 := PySem.W.codeHd_of_K KI q1
  have c2 := PySem.W.codeHd_of_K KI q2
  have c3 := PySem.W.codeHd_of_K KI q3
  have c4 := PySem.W.codeHd_of_K KI q4
  obtain ⟨fd, h1, h2⟩ := all_mk (l := l) (w := w) hT TO MF OT OW OO IT IW BA r1 r2 r3 r4 nd hfa d_shown d_are_signs d_is_text d_need_kind d_are_plain_digits d_fits_number d_read_place d_read_number d_fits_exactly d_known_form d_form_of d_is_fit d_is_form d_is_less d_is_piece d_is_pattern d_squeezed d_text_pattern d_pattern_form d_does_match d_law_dice d_law_roll d_law_one_of d_law_met d_law
  refine ⟨fd, [(k1, P1), (k2, P2), (k3, P3), (k4, P4)], _, fun p hp => ?_, fun p hp => ?_, fun p hp => ?_, fun p hp => ?_, h1, h2⟩
  · simp only [List.mem_cons, List.not_mem_nil, or_false] at hp
    rcases hp with rfl | rfl | rfl | rfl
    · exact ⟨(k1, P1), by simp, rfl⟩
    · exact ⟨(k2, P2), by simp, rfl⟩
    · exact ⟨(k3, P3), by simp, rfl⟩
    · exact ⟨(k4, P4), by simp, rfl⟩
  · simp only [List.mem_cons, List.not_mem_nil, or_false] at hp
    rcases hp with rfl | rfl | rfl | rfl
    · exact g1
    · exact g2
    · exact g3
    · exact g4
  · simp only [List.mem_cons, List.not_mem_nil, or_false] at hp
    rcases hp with rfl | rfl | rfl | rfl
    · exact r1.none_
    · exact r2.none_
    · exact r3.none_
    · exact r4.none_
  · simp only [List.mem_cons, List.not_mem_nil, or_false] at hp
    rcases hp with rfl | rfl | rfl | rfl
    · exact c1
    · exact c2
    · exact c3
    · exact c4
/-- the law's walk, with what the loose names of the top hold -/
theorem walk {ll : PySem.W.OpenLaw} {qq : Program} {ls : List Str} {XQ : (Str → Option Value) → Heap → Prop} {YQ : World → Heap → Prop} {dd : DefRec} {KK : Params → PySem.W.Frag} (hmost : ll.most = some 63) (hdef : dd.params.defaults = [])
    (hroom : Room 12 callerA) (hin : ∀ (u : World) (hh : Heap), YQ u hh → (KK u.params).In hh)
    (FF : ∀ (u : World) (nm : Str → Option Value) (ff : Addr) (hh : Heap), XQ nm hh → (KK u.params).In hh → hh.Ns mainGlobals nm → nm dd.name = some (.ref ff) → YQ u hh →
      ∃ (fu : FuncData) (cs : List (Addr × Addr)) (T : List (Addr × Str)), (∀ p ∈ T, ∃ q ∈ cs, q.2 = p.1) ∧ (∀ p ∈ cs, hh.get? p.2 = some { cls := .none, data := .fields #[] }) ∧ (∀ p ∈ cs, (KK u.params).lookup p.2 = none) ∧ (∀ p ∈ cs, PySem.W.CodeHd hh p.1 p.2) ∧
        (∀ (sh : Shared) (vv : Value), BindsTo sh fu ⟨[vv], []⟩ [("_law_script", vv)]) ∧ ∀ bb : Heap, (KK u.params).In bb → bb.Ns mainGlobals nm → (∀ p ∈ cs, TabB bb nm p.1 p.2) → FnOk ll.prog u (KK u.params) nm bb CX0 12 ff fu ["_law_script"] (spLawT (KK u.params) T)) :
    PySem.W.WalkO qq ls XQ YQ ll.row.toRowW dd [] (fun f vs => PySem.call f vs) :=
  Att.attach_call hmost hdef fun u _ sb nm _ ff _ _ _ _ aa _ nn GG YY _ _ _ hnm hob hin2 hle hgn => by
    have inK := hin u _ YY
    obtain ⟨fu, cs, T, hTc, hT, nT, C, hbi, hfn⟩ := FF u nm ff _ GG.X inK GG.T.g hnm YY
    refine LamX.law_callTs inK GG.T.g GG.T.b GG.T.builtins GG.T.nolimit hgn hT nT C GG.T.bmain hob hin2 (Nat.le_trans hle (by decide)) hroom hfn hbi (fun HH hHH hsq => ⟨aa, nn, rfl, hsq, hle, fun p hp => ?_, fun _ => rfl⟩) fun _ _ _ z => z
    obtain ⟨q, hq, e⟩ := hTc p hp
    rw [← e]
    exact TabS.nil (hHH q hq)
end Bw
open PySem PySem.W PyProof.Rows in
set_option maxRecDepth 100000 in
set_option maxHeartbeats 0 in
theorem PySem.Challenge.cw_bailiwick_k02_errors_of_kinds_and_patter_holds : PySem.Challenge.rw_bailiwick_k02_errors_of_kinds_and_patter.Holds := by
  w_on; o_law; k_head; (case hw => w_witness2)
  k_fill
  refine Bw.walk (ll := PySem.Challenge.rw_bailiwick_k02_errors_of_kinds_and_patter) rfl rfl ⟨rfl, by decide, by decide⟩ (fun w h Y => PySem.W.km_in_of Y) ?F
  case F =>
    intro w mg fa h XP KX G hmg YY
    refine' Bw.fin_mk KX (Bw.txtMk XP KX G ?zlen ?zint ?zabs ?zmax ?zmin ?zrange ?zisinstance ?ztuple ?zall ?zstr ?zrepr ?zlist ?zValueError ?aaK ?lK ?x1 ?x2) (Bw.txoMk KX G ?aaO ?lO) (Bw.metMk KX G ?n_CT ?n_CW ?n_c2 ?n_c3 ?n_c4 ?n_c5 ?n_c6 ?n_c7 ?n_CO ?n_c9 ?n_c10 ?n_c11 ?n_c12 ?n_c13 ?n_c14 ?a_CT ?b_CT ?d_CT ?a_CW ?b_CW ?d_CW ?a_c2 ?b_c2 ?d_c2 ?a_c3 ?b_c3 ?d_c3 ?a_c4 ?b_c4 ?d_c4 ?a_c5 ?b_c5 ?d_c5 ?a_c6 ?b_c6 ?d_c6 ?a_c7 ?b_c7 ?d_c7 ?a_CO ?b_CO ?d_CO ?p_TT ?p_WT ?p_WW ?p_OCT ?p_OCW ?p_Oc2 ?p_Oc3 ?p_Oc4 ?p_Oc5 ?p_Oc6 ?p_Oc7 ?p_OO ?g_CT ?h_CT ?i_CT ?v_CT ?g_CW ?h_CW ?i_CW ?v_CW) (Bw.oexMk ?xl_CT ?xs_CT ?xe_CT ?xt_CT ?xk_CT) (Bw.oexMk ?xl_CW ?xs_CW ?xe_CW ?xt_CW ?xk_CW) (Bw.oexMk ?xl_CO ?xs_CO ?xe_CO ?xt_CO ?xk_CO) (Bw.initAt ?ia_CT ?ib_CT ?ic_CT ?id_CT ?ie_CT) (Bw.initAt ?ia_CW ?ib_CW ?ic_CW ?id_CW ?ie_CW) (Bw.baseAt KX G ?ba0 ?ba1 ?ba2 ?ba3 ?ba4 ?ba5 ?ba6 ?ba7 ?ba8 ?ba9) (Bw.rightAt KX G ?ra_1 ?rl_1 ?rc_1 ?rv_1 ?rd_1 ?rk_1 ?rn_1) (Bw.rightAt KX G ?ra_2 ?rl_2 ?rc_2 ?rv_2 ?rd_2 ?rk_2 ?rn_2) (Bw.rightAt KX G ?ra_3 ?rl_3 ?rc_3 ?rv_3 ?rd_3 ?rk_3 ?rn_3) (Bw.rightAt KX G ?ra_4 ?rl_4 ?rc_4 ?rv_4 ?rd_4 ?rk_4 ?rn_4) ?nd hmg ?d_shown ?d_are_signs ?d_is_text ?d_need_kind ?d_are_plain_digits ?d_fits_number ?d_read_place ?d_read_number ?d_fits_exactly ?d_known_form ?d_form_of ?d_is_fit ?d_is_form ?d_is_less ?d_is_piece ?d_is_pattern ?d_squeezed ?d_text_pattern ?d_pattern_form ?d_does_match ?d_law_dice ?d_law_roll ?d_law_one_of ?d_law_met ?d_law ?q1 ?g1 ?q2 ?g2 ?q3 ?g3 ?q4 ?g4
    (case zlen => k_is)
    (case zint => k_is)
    (case zabs => k_is)
    (case zmax => k_is)
    (case zmin => k_is)
    (case zrange => k_is)
    (case zisinstance => k_is)
    (case ztuple => k_is)
    (case zall => k_is)
    (case zstr => k_is)
    (case zrepr => k_is)
    (case zlist => k_is)
    (case zValueError => k_is)
    (case aaK => k_is)
    (case lK => k_is)
    (case x1 => k_is)
    (case x2 => k_is)
    (case aaO => k_is)
    (case lO => k_is)
    (case n_CT => k_is)
    (case n_CW => k_is)
    (case n_c2 => k_is)
    (case n_c3 => k_is)
    (case n_c4 => k_is)
    (case n_c5 => k_is)
    (case n_c6 => k_is)
    (case n_c7 => k_is)
    (case n_CO => k_is)
    (case n_c9 => k_is)
    (case n_c10 => k_is)
    (case n_c11 => k_is)
    (case n_c12 => k_is)
    (case n_c13 => k_is)
    (case n_c14 => k_is)
    (case a_CT => k_is)
    (case b_CT => k_is)
    (case d_CT => k_is)
    (case a_CW => k_is)
    (case b_CW => k_is)
    (case d_CW => k_is)
    (case a_c2 => k_is)
    (case b_c2 => k_is)
    (case d_c2 => k_is)
    (case a_c3 => k_is)
    (case b_c3 => k_is)
    (case d_c3 => k_is)
    (case a_c4 => k_is)
    (case b_c4 => k_is)
    (case d_c4 => k_is)
    (case a_c5 => k_is)
    (case b_c5 => k_is)
    (case d_c5 => k_is)
    (case a_c6 => k_is)
    (case b_c6 => k_is)
    (case d_c6 => k_is)
    (case a_c7 => k_is)
    (case b_c7 => k_is)
    (case d_c7 => k_is)
    (case a_CO => k_is)
    (case b_CO => k_is)
    (case d_CO => k_is)
    (case p_TT => first | k_is | rfl)
    (case p_WT => first | k_is | rfl)
    (case p_WW => first | k_is | rfl)
    (case p_OCT => first | k_is | rfl)
    (case p_OCW => first | k_is | rfl)
    (case p_Oc2 => first | k_is | rfl)
    (case p_Oc3 => first | k_is | rfl)
    (case p_Oc4 => first | k_is | rfl)
    (case p_Oc5 => first | k_is | rfl)
    (case p_Oc6 => first | k_is | rfl)
    (case p_Oc7 => first | k_is | rfl)
    (case p_OO => first | k_is | rfl)
    (case g_CT => k_is)
    (case h_CT => k_is)
    (case i_CT => k_is)
    (case v_CT => k_is)
    (case g_CW => k_is)
    (case h_CW => k_is)
    (case i_CW => k_is)
    (case v_CW => k_is)
    (case xl_CT => k_is)
    (case xs_CT => k_is)
    (case xe_CT => k_is)
    (case xt_CT => k_is)
    (case xk_CT => k_is)
    (case xl_CW => k_is)
    (case xs_CW => k_is)
    (case xe_CW => k_is)
    (case xt_CW => k_is)
    (case xk_CW => k_is)
    (case xl_CO => k_is)
    (case xs_CO => k_is)
    (case xe_CO => k_is)
    (case xt_CO => k_is)
    (case xk_CO => k_is)
    (case ia_CT => k_is)
    (case ib_CT => k_is)
    (case ic_CT => k_is)
    (case id_CT => k_is)
    (case ie_CT => k_is)
    (case ia_CW => k_is)
    (case ib_CW => k_is)
    (case ic_CW => k_is)
    (case id_CW => k_is)
    (case ie_CW => k_is)
    (case ba0 => k_is)
    (case ba1 => k_is)
    (case ba2 => k_is)
    (case ba3 => k_is)
    (case ba4 => k_is)
    (case ba5 => k_is)
    (case ba6 => k_is)
    (case ba7 => k_is)
    (case ba8 => k_is)
    (case ba9 => k_is)
    (case ra_1 => k_is)
    (case rl_1 => k_is)
    (case rc_1 => k_is)
    (case rv_1 => rfl)
    (case rd_1 => k_is)
    (case rk_1 => k_is)
    (case rn_1 => first | rfl | kernel_rfl)
    (case ra_2 => k_is)
    (case rl_2 => k_is)
    (case rc_2 => k_is)
    (case rv_2 => rfl)
    (case rd_2 => k_is)
    (case rk_2 => k_is)
    (case rn_2 => first | rfl | kernel_rfl)
    (case ra_3 => k_is)
    (case rl_3 => k_is)
    (case rc_3 => k_is)
    (case rv_3 => rfl)
    (case rd_3 => k_is)
    (case rk_3 => k_is)
    (case rn_3 => first | rfl | kernel_rfl)
    (case ra_4 => k_is)
    (case rl_4 => k_is)
    (case rc_4 => k_is)
    (case rv_4 => rfl)
    (case rd_4 => k_is)
    (case rk_4 => k_is)
    (case rn_4 => first | rfl | kernel_rfl)
    (case nd => decide)
    (case d_shown => (refine' Bw.defAt KX G ?at_ ?lk ?cc ?kk; (case at_ => k_is); (case lk => k_is); (case cc => k_is); (case kk => k_is)))
    (case d_are_signs => (refine' Bw.defAt KX G ?at_ ?lk ?cc ?kk; (case at_ => k_is); (case lk => k_is); (case cc => k_is); (case kk => k_is)))
    (case d_is_text => (refine' Bw.defAt KX G ?at_ ?lk ?cc ?kk; (case at_ => k_is); (case lk => k_is); (case cc => k_is); (case kk => k_is)))
    (case d_need_kind => (refine' Bw.defAt KX G ?at_ ?lk ?cc ?kk; (case at_ => k_is); (case lk => k_is); (case cc => k_is); (case kk => k_is)))
    (case d_are_plain_digits => (refine' Bw.defAt KX G ?at_ ?lk ?cc ?kk; (case at_ => k_is); (case lk => k_is); (case cc => k_is); (case kk => k_is)))
    (case d_fits_number => (refine' Bw.defAt KX G ?at_ ?lk ?cc ?kk; (case at_ => k_is); (case lk => k_is); (case cc => k_is); (case kk => k_is)))
    (case d_read_place => (refine' Bw.defAt KX G ?at_ ?lk ?cc ?kk; (case at_ => k_is); (case lk => k_is); (case cc => k_is); (case kk => k_is)))
    (case d_read_number => (refine' Bw.defAt KX G ?at_ ?lk ?cc ?kk; (case at_ => k_is); (case lk => k_is); (case cc => k_is); (case kk => k_is)))
    (case d_fits_exactly => (refine' Bw.defAt KX G ?at_ ?lk ?cc ?kk; (case at_ => k_is); (case lk => k_is); (case cc => k_is); (case kk => k_is)))
    (case d_known_form => (refine' Bw.defAt KX G ?at_ ?lk ?cc ?kk; (case at_ => k_is); (case lk => k_is); (case cc => k_is); (case kk => k_is)))
    (case d_form_of => (refine' Bw.defAt KX G ?at_ ?lk ?cc ?kk; (case at_ => k_is); (case lk => k_is); (case cc => k_is); (case kk => k_is)))
    (case d_is_fit => (refine' Bw.defAt KX G ?at_ ?lk ?cc ?kk; (case at_ => k_is); (case lk => k_is); (case cc => k_is); (case kk => k_is)))
    (case d_is_form => (refine' Bw.defAt KX G ?at_ ?lk ?cc ?kk; (case at_ => k_is); (case lk => k_is); (case cc => k_is); (case kk => k_is)))
    (case d_is_less => (refine' Bw.defAt KX G ?at_ ?lk ?cc ?kk; (case at_ => k_is); (case lk => k_is); (case cc => k_is); (case kk => k_is)))
    (case d_is_piece => (refine' Bw.defAt KX G ?at_ ?lk ?cc ?kk; (case at_ => k_is); (case lk => k_is); (case cc => k_is); (case kk => k_is)))
    (case d_is_pattern => (refine' Bw.defAt KX G ?at_ ?lk ?cc ?kk; (case at_ => k_is); (case lk => k_is); (case cc => k_is); (case kk => k_is)))
    (case d_squeezed => (refine' Bw.defAt KX G ?at_ ?lk ?cc ?kk; (case at_ => k_is); (case lk => k_is); (case cc => k_is); (case kk => k_is)))
    (case d_text_pattern => (refine' Bw.defAt KX G ?at_ ?lk ?cc ?kk; (case at_ => k_is); (case lk => k_is); (case cc => k_is); (case kk => k_is)))
    (case d_pattern_form => (refine' Bw.defAt KX G ?at_ ?lk ?cc ?kk; (case at_ => k_is); (case lk => k_is); (case cc => k_is); (case kk => k_is)))
    (case d_does_match => (refine' Bw.defAt KX G ?at_ ?lk ?cc ?kk; (case at_ => k_is); (case lk => k_is); (case cc => k_is); (case kk => k_is)))
    (case d_law_dice => (refine' Bw.defAt KX G ?at_ ?lk ?cc ?kk; (case at_ => k_is); (case lk => k_is); (case cc => k_is); (case kk => k_is)))
    (case d_law_roll => (refine' Bw.defAt KX G ?at_ ?lk ?cc ?kk; (case at_ => k_is); (case lk => k_is); (case cc => k_is); (case kk => k_is)))
    (case d_law_one_of => (refine' Bw.defAt KX G ?at_ ?lk ?cc ?kk; (case at_ => k_is); (case lk => k_is); (case cc => k_is); (case kk => k_is)))
    (case d_law_met => (refine' Bw.defAt KX G ?at_ ?lk ?cc ?kk; (case at_ => k_is); (case lk => k_is); (case cc => k_is); (case kk => k_is)))
    (case d_law => (refine' Bw.defAt KX G ?at_ ?lk ?cc ?kk; (case at_ => k_is); (case lk => k_is); (case cc => k_is); (case kk => k_is)))
    (case q1 => kernel_rfl)
    (case g1 => exact PySem.W.km_tabs_of YY _ (by first | k_mem | simp))
    (case q2 => kernel_rfl)
    (case g2 => exact PySem.W.km_tabs_of YY _ (by first | k_mem | simp))
    (case q3 => kernel_rfl)
    (case g3 => exact PySem.W.km_tabs_of YY _ (by first | k_mem | simp))
    (case q4 => kernel_rfl)
    (case g4 => exact PySem.W.km_tabs_of YY _ (by first | k_mem | simp))
