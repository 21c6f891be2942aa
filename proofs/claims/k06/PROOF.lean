import PyProof.Rows.All
import Wide.All
import OpenK.AllK
import Wide.FinOn
import HandS.Text
import HandS.ForMost
import HandS.IsInst
import HandS.StrMore
import HandS.Style
import HandS.RaiseMore
import HandS.Wide
import HandS.TupLe
import HandS.Walk
import KE.GoesMore
import KE.KDictZip
import KE.KDictItemsList
import HandS.ListItems
import KE.DataMinMax
import HandS.MakeKw
import HandS.Defaults
import HandS.Property
import HandS.OwnEq
import HandS.CallLocal
import HandS.DictComp
import HandS.SetFor
import HandS.More
import PySem.Challenge.RW_bailiwick_k06_types_and_their_first_faul
set_option Elab.async false
set_option linter.all false
set_option maxRecDepth 100000
set_option maxHeartbeats 4000000
namespace Bw
open PySem L2 TL PyProof.Rows

/-! ### signs -/
def Sgn (l : List Nat) : Prop := ∀ c ∈ l, 32 ≤ c ∧ c ≤ 126
theorem Sgn.lt {l : List Nat} (h : Sgn l) : ∀ c ∈ l, c < 128 := fun c hc => by have := h c hc; omega
theorem Sgn.app {l m : List Nat} (h : Sgn l) (k : Sgn m) : Sgn (l ++ m) := fun c hc => by
  rcases List.mem_append.mp hc with q | q
  · exact h c q
  · exact k c q
theorem Sgn.nil : Sgn [] := fun c hc => absurd hc (by simp)
theorem Sgn.cons {c : Nat} {l : List Nat} (h : Sgn (c :: l)) : (32 ≤ c ∧ c ≤ 126) ∧ Sgn l := ⟨h c (List.mem_cons_self ..), fun d hd => h d (List.mem_cons_of_mem _ hd)⟩
theorem Sgn.mk {c : Nat} {l : List Nat} (h1 : 32 ≤ c ∧ c ≤ 126) (h : Sgn l) : Sgn (c :: l) := fun d hd => by
  rcases List.mem_cons.mp hd with rfl | q
  · exact h1
  · exact h d q
theorem Sgn.rep {n c : Nat} (h : 32 ≤ c ∧ c ≤ 126) : Sgn (List.replicate n c) := fun d hd => by
  rw [List.eq_of_mem_replicate hd]
  exact h
theorem space_sgn : ∀ c, c < 128 → 32 ≤ c → Unicode.isSpace c = decide (c = 32) := by decide +kernel
theorem print_sgn : ∀ c, c < 128 → Unicode.isPrintable c = decide (32 ≤ c ∧ c ≤ 126) := by decide +kernel
theorem digit_sgn : ∀ c, c < 128 → Unicode.isDigit c = decide (48 ≤ c ∧ c ≤ 57) := by decide +kernel
theorem Sgn.sp {l : List Nat} (h : Sgn l) {c : Nat} (hc : c ∈ l) : Unicode.isSpace c = decide (c = 32) := space_sgn c (h.lt c hc) (h c hc).1
theorem signs_iff (x : Str) : (Txt.isascii x && Txt.isprintable x) = true ↔ Sgn (tl x) := by
  unfold Txt.isascii Txt.isprintable
  rw [Bool.and_eq_true, ← Array.all_toList, ← Array.all_toList, List.all_eq_true, List.all_eq_true]
  constructor
  · rintro ⟨h1, h2⟩ c hc
    have a : c < 128 := of_decide_eq_true (h1 c hc)
    have b := h2 c hc
    rw [print_sgn c a] at b
    exact of_decide_eq_true b
  · intro h
    refine ⟨fun c hc => decide_eq_true (h.lt c hc), fun c hc => ?_⟩
    rw [print_sgn c (h.lt c hc)]
    exact decide_eq_true (h c hc)
theorem lo1_sgn {c : Nat} (h : 32 ≤ c ∧ c ≤ 126) : 32 ≤ lo1 c ∧ lo1 c ≤ 126 := by
  unfold lo1
  split <;> omega
theorem up1_sgn {c : Nat} (h : 32 ≤ c ∧ c ≤ 126) : 32 ≤ up1 c ∧ up1 c ≤ 126 := by
  unfold up1
  split <;> omega
theorem lo1_32 {c : Nat} (h : 32 ≤ c ∧ c ≤ 126) : lo1 c = 32 ↔ c = 32 := by
  unfold lo1
  split <;> omega
theorem lo1_lo1 (c : Nat) : lo1 (lo1 c) = lo1 c := by
  unfold lo1
  split <;> (try split) <;> omega
theorem lo1_up1 (c : Nat) : lo1 (up1 c) = lo1 c := by
  unfold lo1 up1
  split <;> split <;> (try split) <;> omega
theorem Sgn.low {l : List Nat} (h : Sgn l) : Sgn (l.map lo1) := fun c hc => by
  obtain ⟨d, hd, rfl⟩ := List.mem_map.mp hc
  exact lo1_sgn (h d hd)
theorem tl_lower {x : Str} (h : Sgn (tl x)) : tl (Txt.lower x) = (tl x).map lo1 := by
  rw [lower_ascii h.lt]
  show (x.cps.map lo1).toList = _
  rw [Array.toList_map]
theorem tl_upper {x : Str} (h : Sgn (tl x)) : tl (Txt.upper x) = (tl x).map up1 := by
  rw [upper_ascii h.lt]
  show (x.cps.map up1).toList = _
  rw [Array.toList_map]

/-! ### words -/
def wordsL (l : List Nat) : List (List Nat) := wfin (l.foldl wstep ([], []))
def normL (l : List Nat) : List Nat := joinL [32] (wordsL (l.map lo1))
theorem wstep_sp {st : List (List Nat) × List Nat} : wstep st 32 = if st.2 = [] then st else (st.1 ++ [st.2], []) := by
  unfold wstep
  rw [if_pos (show Unicode.isSpace 32 = true by decide +kernel)]
theorem wstep_ne {st : List (List Nat) × List Nat} {c : Nat} (h : 32 ≤ c ∧ c ≤ 126) (hc : c ≠ 32) : wstep st c = (st.1, st.2 ++ [c]) := by
  unfold wstep
  rw [space_sgn c (by omega) h.1, decide_eq_false hc]
  exact if_neg (by simp)
/-- the parts between blanks, the empty ones left out -/
theorem filter_spl : ∀ (l acc : List Nat) (ws : List (List Nat)), Sgn l → ws ++ (spl [32] 0 acc l).filter (fun p => !p.isEmpty) = wfin (l.foldl wstep (ws, acc))
  | [], acc, ws, _ => by
    rw [spl_nil]
    show _ = if acc = [] then ws else ws ++ [acc]
    cases acc with
    | nil => simp
    | cons a r => simp
  | c :: r, acc, ws, h => by
    obtain ⟨hc, hr⟩ := h.cons
    rw [List.foldl_cons]
    by_cases e : c = 32
    · subst e
      rw [spl_hit (S := [32]) (acc := acc) (r := r) (c := 32) (by unfold pre; simp), wstep_sp]
      show ws ++ List.filter _ (acc :: spl [32] 0 [] r) = _
      cases acc with
      | nil =>
        rw [if_pos rfl, List.filter_cons_of_neg (by simp)]
        exact filter_spl r [] ws hr
      | cons a q =>
        rw [if_neg (by simp), List.filter_cons_of_pos (by simp)]
        have := filter_spl r [] (ws ++ [a :: q]) hr
        rw [← this, List.append_assoc]
        rfl
    · rw [spl_miss (pre_of_head [] r e), wstep_ne hc e]
      exact filter_spl r (acc ++ [c]) ws hr
theorem low_wstep {st : List (List Nat) × List Nat} {c : Nat} (h : 32 ≤ c ∧ c ≤ 126) :
    wstep (st.1.map (·.map lo1), st.2.map lo1) (lo1 c) = ((wstep st c).1.map (·.map lo1), (wstep st c).2.map lo1) := by
  by_cases e : c = 32
  · subst e
    rw [show lo1 32 = 32 from rfl, wstep_sp, wstep_sp]
    obtain ⟨ws, u⟩ := st
    cases u with
    | nil => simp
    | cons a r => simp
  · rw [wstep_ne h e, wstep_ne (lo1_sgn h) (fun q => e ((lo1_32 h).mp q))]
    simp
theorem low_fold : ∀ (l : List Nat) (st : List (List Nat) × List Nat), Sgn l →
    (l.map lo1).foldl wstep (st.1.map (·.map lo1), st.2.map lo1) = ((l.foldl wstep st).1.map (·.map lo1), (l.foldl wstep st).2.map lo1)
  | [], _, _ => rfl
  | c :: r, st, h => by
    rw [List.map_cons, List.foldl_cons, List.foldl_cons, low_wstep h.cons.1, low_fold r _ h.cons.2]
theorem low_wfin (st : List (List Nat) × List Nat) : wfin (st.1.map (·.map lo1), st.2.map lo1) = (wfin st).map (·.map lo1) := by
  obtain ⟨ws, u⟩ := st
  unfold wfin
  cases u <;> simp
theorem wordsL_low {l : List Nat} (h : Sgn l) : wordsL (l.map lo1) = (wordsL l).map (·.map lo1) := by
  unfold wordsL
  have e := low_fold l ([], []) h
  have e2 : (l.map lo1).foldl wstep ([], []) = _ := e
  rw [e2, low_wfin]
theorem joinL_map : ∀ ps : List (List Nat), joinL [32] (ps.map (·.map lo1)) = (joinL [32] ps).map lo1
  | [] => rfl
  | [p] => rfl
  | p :: q :: r => by
    show p.map lo1 ++ ([32] ++ joinL [32] ((q :: r).map (·.map lo1))) = (p ++ ([32] ++ joinL [32] (q :: r))).map lo1
    rw [joinL_map (q :: r), List.map_append, List.map_append]
    rfl
theorem normL_eq {l : List Nat} (h : Sgn l) : normL l = (joinL [32] (wordsL l)).map lo1 := by
  unfold normL
  rw [wordsL_low h, joinL_map]
/-! words are no blanks, and made of the signs -/
def Wd (P : Nat → Prop) (ws : List (List Nat)) : Prop := ∀ p ∈ ws, p ≠ [] ∧ ∀ c ∈ p, c ≠ 32 ∧ P c
theorem wfold_wd {P : Nat → Prop} : ∀ (l : List Nat) (st : List (List Nat) × List Nat), Sgn l → (∀ c ∈ l, P c) → Wd P st.1 → (∀ c ∈ st.2, c ≠ 32 ∧ P c) →
    Wd P (l.foldl wstep st).1 ∧ ∀ c ∈ (l.foldl wstep st).2, c ≠ 32 ∧ P c
  | [], _, _, _, h1, h2 => ⟨h1, h2⟩
  | c :: r, st, h, hp, h1, h2 => by
    rw [List.foldl_cons]
    have hr : ∀ d ∈ r, P d := fun d hd => hp d (List.mem_cons_of_mem _ hd)
    by_cases e : c = 32
    · subst e
      rw [wstep_sp]
      by_cases e2 : st.2 = []
      · rw [if_pos e2]
        exact wfold_wd r st h.cons.2 hr h1 h2
      · rw [if_neg e2]
        refine wfold_wd r _ h.cons.2 hr (fun p hq => ?_) (fun d hd => absurd hd (by simp))
        rcases List.mem_append.mp hq with q | q
        · exact h1 p q
        · rw [List.mem_singleton.mp q]
          exact ⟨e2, h2⟩
    · rw [wstep_ne h.cons.1 e]
      refine wfold_wd r _ h.cons.2 hr h1 (fun d hd => ?_)
      rcases List.mem_append.mp hd with q | q
      · exact h2 d q
      · rw [List.mem_singleton.mp q]
        exact ⟨e, hp c (List.mem_cons_self ..)⟩
theorem wordsL_wd {P : Nat → Prop} {l : List Nat} (h : Sgn l) (hp : ∀ c ∈ l, P c) : Wd P (wordsL l) := by
  obtain ⟨h1, h2⟩ := wfold_wd (P := P) l ([], []) h hp (fun p hq => absurd hq (by simp)) (fun d hd => absurd hd (by simp))
  unfold wordsL wfin
  split
  · exact h1
  · rename_i e2
    intro p hq
    rcases List.mem_append.mp hq with q | q
    · exact h1 p q
    · rw [List.mem_singleton.mp q]
      exact ⟨e2, h2⟩
theorem mem_joinL {P : Nat → Prop} (h32 : P 32) : ∀ {ps : List (List Nat)}, (∀ p ∈ ps, ∀ c ∈ p, P c) → ∀ c ∈ joinL [32] ps, P c
  | [], _, c, hc => absurd hc (by simp [joinL])
  | [p], h, c, hc => h p (List.mem_singleton.mpr rfl) c hc
  | p :: q :: r, h, c, hc => by
    have hc' : c ∈ p ++ ([32] ++ joinL [32] (q :: r)) := hc
    rcases List.mem_append.mp hc' with a | a
    · exact h p (List.mem_cons_self ..) c a
    · rcases List.mem_append.mp a with b | b
      · rw [List.mem_singleton.mp b]
        exact h32
      · exact mem_joinL h32 (fun p' hp' => h p' (List.mem_cons_of_mem _ hp')) c b
theorem joined_sgn {l : List Nat} (h : Sgn l) : Sgn (joinL [32] (wordsL l)) := fun c hc =>
  mem_joinL (P := fun c => 32 ≤ c ∧ c ≤ 126) (by omega) (fun p hp d hd => ((wordsL_wd (P := fun c => 32 ≤ c ∧ c ≤ 126) h h) p hp).2 d hd |>.2) c hc
theorem normL_sgn {l : List Nat} (h : Sgn l) : Sgn (normL l) := by
  unfold normL
  exact joined_sgn h.low
theorem wordsL_join {ps : List (List Nat)} (h : Wd (fun c => 32 ≤ c ∧ c ≤ 126) ps) : wordsL (joinL [32] ps) = ps := by
  cases ps with
  | nil => rfl
  | cons p r =>
    unfold wordsL
    rw [wfold_join (p :: r) [] (by simp) fun q hq => ⟨(h q hq).1, fun c hc => by
      obtain ⟨h1, h2⟩ := (h q hq).2 c hc
      rw [space_sgn c (by omega) h2.1]
      exact decide_eq_false h1⟩]
    rfl
theorem map_lo_id : ∀ {l : List Nat}, (∀ c ∈ l, lo1 c = c) → l.map lo1 = l
  | [], _ => rfl
  | c :: r, h => by
    rw [List.map_cons, h c (List.mem_cons_self ..), map_lo_id fun d hd => h d (List.mem_cons_of_mem _ hd)]
theorem normL_norm {l : List Nat} (h : Sgn l) : normL (normL l) = normL l := by
  have hw := wordsL_wd (P := fun c => (32 ≤ c ∧ c ≤ 126) ∧ lo1 c = c) h.low (fun c hc => ⟨h.low c hc, by
    obtain ⟨d, _, rfl⟩ := List.mem_map.mp hc
    exact lo1_lo1 d⟩)
  have e : (normL l).map lo1 = normL l := map_lo_id (mem_joinL (P := fun c => lo1 c = c) rfl fun p hp c hc => ((hw p hp).2 c hc).2.2)
  show joinL [32] (wordsL ((normL l).map lo1)) = normL l
  rw [e]
  unfold normL
  rw [wordsL_join fun p hp => ⟨(hw p hp).1, fun c hc => ⟨((hw p hp).2 c hc).1, ((hw p hp).2 c hc).2.1⟩⟩]
/-! lengths -/
def wsum (ws : List (List Nat)) : Nat := (ws.map fun p => p.length + 1).sum
theorem wsum_app (ws : List (List Nat)) (p : List Nat) : wsum (ws ++ [p]) = wsum ws + (p.length + 1) := by
  unfold wsum
  rw [List.map_append, List.sum_append]
  simp
theorem wfold_len : ∀ (l : List Nat) (st : List (List Nat) × List Nat), wsum (l.foldl wstep st).1 + (l.foldl wstep st).2.length ≤ wsum st.1 + st.2.length + l.length
  | [], _ => Nat.le_refl _
  | c :: r, st => by
    rw [List.foldl_cons]
    refine Nat.le_trans (wfold_len r (wstep st c)) ?_
    have : wsum (wstep st c).1 + (wstep st c).2.length ≤ wsum st.1 + st.2.length + 1 := by
      unfold wstep
      split
      · split
        · omega
        · show wsum (st.1 ++ [st.2]) + 0 ≤ _
          rw [wsum_app]
          omega
      · show wsum st.1 + (st.2 ++ [c]).length ≤ _
        rw [List.length_append, List.length_singleton]
        omega
    rw [List.length_cons]
    omega
theorem joinL_len : ∀ ps : List (List Nat), (joinL [32] ps).length ≤ wsum ps - 1
  | [] => Nat.le_refl _
  | [p] => by
    show p.length ≤ (p.length + 1 + 0) - 1
    omega
  | p :: q :: r => by
    show (p ++ ([32] ++ joinL [32] (q :: r))).length ≤ _
    have h := joinL_len (q :: r)
    have e : wsum (p :: q :: r) = (p.length + 1) + wsum (q :: r) := by unfold wsum; simp
    have e2 : 1 ≤ wsum (q :: r) := by unfold wsum; simp; omega
    rw [e, List.length_append, List.length_append, List.length_singleton]
    omega
theorem words_len (l : List Nat) : (joinL [32] (wordsL l)).length ≤ l.length := by
  have h := wfold_len l ([], [])
  have h0 : wsum ([] : List (List Nat)) = 0 := rfl
  have hj := joinL_len (wordsL l)
  unfold wordsL wfin at hj ⊢
  simp only [h0, List.length_nil] at h
  split
  · rename_i e
    rw [if_pos e] at hj
    omega
  · rename_i e
    rw [if_neg e, wsum_app] at hj
    have : 0 < (l.foldl wstep ([], [])).2.length := List.length_pos_iff.mpr e
    omega
theorem normL_len (l : List Nat) : (normL l).length ≤ l.length := by
  unfold normL
  refine Nat.le_trans (words_len _) ?_
  rw [List.length_map]
  exact Nat.le_refl _
theorem wordsL_count (l : List Nat) : (wordsL l).length ≤ l.length + 1 := by
  have h := wfold_len l ([], [])
  have h0 : wsum ([] : List (List Nat)) = 0 := rfl
  have hl : ∀ ws : List (List Nat), ws.length ≤ wsum ws := fun ws => by
    induction ws with
    | nil => exact Nat.zero_le _
    | cons p r ih =>
      have e : wsum (p :: r) = (p.length + 1) + wsum r := by unfold wsum; simp
      rw [e, List.length_cons]
      omega
  have h1 := hl (l.foldl wstep ([], [])).1
  simp only [h0, List.length_nil] at h
  unfold wordsL wfin
  split
  · omega
  · rw [List.length_append, List.length_singleton]
    omega
/-! the blown text -/
theorem fold_sp : ∀ (n : Nat) (ws : List (List Nat)), (List.replicate n 32).foldl wstep (ws, []) = (ws, [])
  | 0, _ => rfl
  | n + 1, ws => by
    rw [List.replicate_succ, List.foldl_cons, wstep_sp, if_pos rfl]
    exact fold_sp n ws
theorem fold_sp2 (n : Nat) (st : List (List Nat) × List Nat) : (List.replicate n 32).foldl wstep (wstep st 32) = wstep st 32 := by
  rw [wstep_sp]
  split
  · rename_i e
    obtain ⟨ws, u⟩ := st
    simp only at e
    subst e
    exact fold_sp n ws
  · exact fold_sp n _
theorem wfin_sp (n : Nat) (st : List (List Nat) × List Nat) : wfin ((List.replicate n 32).foldl wstep st) = wfin st := by
  cases n with
  | zero => rfl
  | succ n =>
    rw [List.replicate_succ, List.foldl_cons, fold_sp2, wstep_sp]
    obtain ⟨ws, u⟩ := st
    cases u with
    | nil => rfl
    | cons a r => simp [wfin]
theorem map_rep_sp (n : Nat) : (List.replicate n 32).map lo1 = List.replicate n 32 := by
  rw [List.map_replicate]
  rfl
end Bw

namespace Bw
open PySem L2 TL PyProof.Rows
open NumText (AllDigits digitsVal)

/-! ### numbers -/
def Dg (l : List Nat) : Prop := l ≠ [] ∧ AllDigits l
instance (l : List Nat) : Decidable (AllDigits l) := by unfold NumText.AllDigits; infer_instance
/-- digits without needless zeros -/
def plainD (l : List Nat) : Bool := decide (l ≠ []) && decide (AllDigits l) && (decide (l = [48]) || decide (l.head? ≠ some 48))
theorem plainD_iff {l : List Nat} : plainD l = true ↔ l ≠ [] ∧ AllDigits l ∧ (l = [48] ∨ l.head? ≠ some 48) := by
  unfold plainD
  simp only [Bool.and_eq_true, Bool.or_eq_true, decide_eq_true_eq, and_assoc]
theorem ofNat_toNat {c : Nat} (h : 48 ≤ c ∧ c ≤ 57) : (Char.ofNat c).toNat = c := by
  have : ∀ d, d ≤ 57 → 48 ≤ d → (Char.ofNat d).toNat = d := by decide
  exact this c h.2 h.1
theorem map_back : ∀ {l : List Nat}, AllDigits l → (l.map Char.ofNat).map Char.toNat = l
  | [], _ => rfl
  | c :: r, h => by
    rw [List.map_cons, List.map_cons, ofNat_toNat h.head, map_back h.tail]
theorem numL_all {l : List Nat} (h : AllDigits l) : numL (digitsVal l) = (match l.dropWhile (· == 48) with
    | [] => [48]
    | c :: r => c :: r) := by
  unfold numL
  rw [NumText.toDigits_all l h]
  have hd : AllDigits (l.dropWhile (· == 48)) := fun c hc => h c ((List.dropWhile_sublist _).subset hc)
  generalize l.dropWhile (· == 48) = m at hd ⊢
  cases m with
  | nil => rfl
  | cons c r => exact map_back hd
theorem numL_plain {l : List Nat} (h : AllDigits l) (hne : l ≠ []) : numL (digitsVal l) = l ↔ (l = [48] ∨ l.head? ≠ some 48) := by
  rw [numL_all h]
  cases l with
  | nil => exact absurd rfl hne
  | cons c r =>
    by_cases e : c = 48
    · subst e
      rw [List.dropWhile_cons_of_pos (by decide)]
      constructor
      · intro q
        left
        cases e2 : r.dropWhile (· == 48) with
        | nil =>
          rw [e2] at q
          exact q.symm
        | cons d m =>
          rw [e2] at q
          have q : d :: m = 48 :: r := q
          have hd : (fun x => x == 48) d = false := by
            have := List.head?_dropWhile_not (fun x : Nat => x == 48) r
            rw [e2] at this
            simpa using this
          have : d = 48 := by injection q
          rw [this] at hd
          exact absurd hd (by decide)
      · intro q
        rcases q with q | q
        · have : r = [] := by injection q
          rw [this]
          rfl
        · exact absurd rfl q
    · rw [List.dropWhile_cons_of_neg (by rw [beq_iff_eq]; exact e)]
      refine ⟨fun _ => .inr fun q => e (Option.some.inj q), fun _ => rfl⟩
theorem digitsVal_lt {l : List Nat} (h : AllDigits l) : digitsVal l < 10 ^ l.length := by
  have : ∀ (l : List Nat) (a : Nat), AllDigits l → l.foldl (fun acc c => acc * 10 + (c - 48)) a < (a + 1) * 10 ^ l.length := by
    intro l
    induction l with
    | nil => intro a _; simp
    | cons c r ih =>
      intro a h
      rw [List.foldl_cons, List.length_cons]
      refine Nat.lt_of_lt_of_le (ih _ h.tail) ?_
      have hc := h.head
      rw [Nat.pow_succ]
      have e : (a * 10 + (c - 48) + 1) ≤ (a + 1) * 10 := by omega
      calc _ ≤ ((a + 1) * 10) * 10 ^ r.length := Nat.mul_le_mul_right _ e
        _ = _ := by rw [Nat.mul_assoc, Nat.mul_comm 10]
  have h2 := this l 0 h
  simpa [digitsVal] using h2
theorem log2_small {n : Nat} (h : n < 10 ^ 100) : n.log2 < 1920 := by
  by_cases h0 : n = 0
  · subst h0
    decide
  · rw [Nat.log2_lt h0]
    exact Nat.lt_trans h (by decide)
theorem log2_digits {l : List Nat} (h : AllDigits l) (hl : l.length ≤ 100) : (digitsVal l).log2 < 1920 :=
  log2_small (Nat.lt_of_lt_of_le (digitsVal_lt h) (Nat.pow_le_pow_right (by decide) hl))
/-- str of a negative number -/
theorem tl_neg (n : Nat) (h : 0 < n) : tl (Str.ofString (toString (-(n : Int)))) = 45 :: numL n := by
  cases n with
  | zero => exact absurd h (by decide)
  | succ m =>
    have e : (toString (-((m + 1 : Nat) : Int))) = "-" ++ toString (m + 1) := rfl
    have e2 : tl (Str.ofString (toString (m + 1))) = numL (m + 1) := tl_num (m + 1)
    rw [e, tl_ofString]
    rw [tl_ofString] at e2
    rw [String.toList_append, List.map_append, e2]
    rfl

/-! ### the program's own judge of numbers -/
def numPart (l : List Nat) : List Nat := if l.head? = some 45 then l.tail else l
def fitNum (l : List Nat) : Bool := plainD (numPart l) && decide (l ≠ [45, 48]) && decide ((digitsVal (numPart l) : Int) ≤ 10 ^ 15)
def fitLink (l : List Nat) : Bool := plainD l && decide (1 ≤ (digitsVal l : Int) ∧ (digitsVal l : Int) ≤ 10 ^ 12)
/-- the value of the text of a number -/
def numVal (l : List Nat) : Int := if l.head? = some 45 then -(digitsVal l.tail : Int) else digitsVal l
theorem int_of {x : Str} (h1 : numPart (tl x) ≠ []) (h2 : AllDigits (numPart (tl x))) (hl : x.length ≤ 100) : intText? x = some (numVal (tl x)) := by
  unfold numPart at h1 h2
  unfold numVal
  split
  · rename_i e
    rw [if_pos e] at h1 h2
    cases e2 : tl x with
    | nil => rw [e2] at h1; exact absurd rfl h1
    | cons c r =>
      rw [e2] at e h1 h2
      have : c = 45 := Option.some.inj e
      subst this
      exact intText_neg e2 h2 h1 (by omega)
  · rename_i e
    rw [if_neg e] at h1 h2
    exact intText_digits h2 h1 (by omega)
/-- what the law's own reader of whole numbers gives -/
def wholeV (l : List Nat) : Option Int := if plainD (numPart l) && decide (l ≠ [45, 48]) then some (numVal l) else none
theorem back_iff {x : Str} (h1 : numPart (tl x) ≠ []) (h2 : AllDigits (numPart (tl x))) :
    Str.ofString (toString (numVal (tl x))) = x ↔ (plainD (numPart (tl x)) && decide (tl x ≠ [45, 48])) = true := by
  rw [Bool.and_eq_true, decide_eq_true_eq, plainD_iff]
  have ex : Str.ofString (toString (numVal (tl x))) = x ↔ tl (Str.ofString (toString (numVal (tl x)))) = tl x := ⟨fun h => by rw [h], fun h => ext_tl h⟩
  rw [ex]
  unfold numPart at h1 h2 ⊢
  unfold numVal
  by_cases e : (tl x).head? = some 45
  · rw [if_pos e] at h1 h2 ⊢
    rw [if_pos e]
    cases e2 : tl x with
    | nil => rw [e2] at e; cases e
    | cons c r =>
      rw [e2] at e h1 h2
      have : c = 45 := Option.some.inj e
      subst this
      have h1 : r ≠ [] := h1
      have h2 : AllDigits r := h2
      show tl (Str.ofString (toString (-(digitsVal r : Int)))) = 45 :: r ↔ (r ≠ [] ∧ AllDigits r ∧ (r = [48] ∨ r.head? ≠ some 48)) ∧ 45 :: r ≠ [45, 48]
      by_cases z : digitsVal r = 0
      · rw [z]
        have e3 : tl (Str.ofString (toString (-((0 : Nat) : Int)))) = [48] := tl_num 0
        rw [e3]
        constructor
        · intro q
          injection q with q1 q2
          exact absurd q1 (by decide)
        · rintro ⟨⟨_, _, q⟩, q2⟩
          rcases q with q | q
          · rw [q] at q2
            exact absurd rfl q2
          · have := (numL_plain h2 h1).mpr (.inr q)
            rw [z] at this
            have z2 : numL 0 = [48] := rfl
            rw [z2] at this
            rw [← this] at q
            exact absurd rfl q
      · rw [tl_neg _ (by omega)]
        have np := numL_plain h2 h1
        constructor
        · intro q
          injection q with _ q2
          refine ⟨⟨h1, h2, np.mp q2⟩, fun q3 => ?_⟩
          have : r = [48] := by injection q3
          rw [this] at z
          exact z rfl
        · rintro ⟨⟨_, _, q⟩, _⟩
          rw [np.mpr q]
  · rw [if_neg e] at h1 h2 ⊢
    rw [if_neg e, tl_num, numL_plain h2 h1]
    refine ⟨fun q => ⟨⟨h1, h2, q⟩, fun q2 => ?_⟩, fun q => q.1.2.2⟩
    rw [q2] at e
    exact e rfl
/-- the law's bounds are the program's -/
theorem link_iff (l : List Nat) (h : Sgn l) : fitLink l = true ↔ ∃ n, wholeV l = some n ∧ 1 ≤ n ∧ n ≤ 10 ^ 12 := by
  unfold fitLink wholeV numPart numVal
  by_cases e : l.head? = some 45
  · rw [if_pos e, if_pos e]
    constructor
    · intro q
      rw [Bool.and_eq_true, plainD_iff] at q
      obtain ⟨⟨q1, q2, _⟩, _⟩ := q
      cases l with
      | nil => exact absurd rfl q1
      | cons c r =>
        have : c = 45 := Option.some.inj e
        subst this
        have := q2.head
        omega
    · rintro ⟨n, q, h1, _⟩
      split at q
      · have : -(digitsVal l.tail : Int) = n := Option.some.inj q
        omega
      · cases q
  · rw [if_neg e, if_neg e]
    constructor
    · intro q
      rw [Bool.and_eq_true, decide_eq_true_eq] at q
      have hz : l ≠ [45, 48] := fun z => by rw [z] at e; exact e rfl
      exact ⟨_, by rw [q.1, decide_eq_true hz]; rfl, q.2⟩
    · rintro ⟨n, q, h1, h2⟩
      split at q
      · rename_i q2
        rw [Bool.and_eq_true] at q2
        have : (digitsVal l : Int) = n := Option.some.inj q
        subst this
        rw [q2.1, decide_eq_true ⟨h1, h2⟩]
        rfl
      · cases q
theorem num_iff (l : List Nat) : fitNum l = true ↔ ∃ n, wholeV l = some n ∧ ((if n < 0 then -n else n) ≤ 10 ^ 15) := by
  unfold fitNum wholeV numVal numPart
  by_cases e : l.head? = some 45
  · rw [if_pos e, if_pos e]
    constructor
    · intro q
      rw [Bool.and_eq_true, decide_eq_true_eq] at q
      refine ⟨_, by rw [q.1]; rfl, ?_⟩
      split <;> omega
    · rintro ⟨n, q, h1⟩
      split at q
      · rename_i q2
        have : -(digitsVal l.tail : Int) = n := Option.some.inj q
        subst this
        rw [q2]
        refine decide_eq_true ?_
        split at h1 <;> omega
      · cases q
  · rw [if_neg e, if_neg e]
    constructor
    · intro q
      rw [Bool.and_eq_true, decide_eq_true_eq] at q
      refine ⟨_, by rw [q.1]; rfl, ?_⟩
      split <;> omega
    · rintro ⟨n, q, h1⟩
      split at q
      · rename_i q2
        have : (digitsVal l : Int) = n := Option.some.inj q
        subst this
        rw [q2]
        refine decide_eq_true ?_
        split at h1 <;> omega
      · cases q

/-! ### kinds -/
inductive Kd where | exact | flag | link | number | text
  deriving DecidableEq
def Kd.str : Kd → Str
  | .exact => "exact" | .flag => "flag" | .link => "link" | .number => "number" | .text => "text"
def kds : List Kd := [.exact, .flag, .link, .number, .text]
theorem kd_inj {a b : Kd} : a.str = b.str ↔ a = b := by
  refine ⟨fun h => ?_, fun h => by rw [h]⟩
  have : ∀ a b : Kd, decide (a.str = b.str) = decide (a = b) := by
    intro a b
    cases a <;> cases b <;> decide +kernel
  have e := this a b
  rw [decide_eq_true h] at e
  exact of_decide_eq_true e.symm
def normS (x : Str) : Str := Txt.join " " (Txt.words (Txt.lower x))
theorem tl_blank : tl (" " : Str) = [32] := by decide +kernel
theorem tl_normS {x : Str} (h : Sgn (tl x)) : tl (normS x) = normL (tl x) := by
  unfold normS normL wordsL
  rw [join_eq, tl_join, tl_blank, words_tl, tl_lower h]
def kform (k : Kd) (x : Str) : Option Str :=
  match k with
  | .exact => some x
  | .flag => if x = "yes" ∨ x = "no" then some x else none
  | .link => if fitLink (tl x) then some x else none
  | .number => if fitNum (tl x) then some x else none
  | .text => if normS x = "" then none else some (normS x)
def ov : Option Str → V
  | none => .non
  | some s => .str s
theorem ov_inj {a b : Option Str} : ov a = ov b ↔ a = b := by
  refine ⟨fun h => ?_, fun h => by rw [h]⟩
  cases a <;> cases b <;> simp [ov] at h ⊢
  exact h
/-- a text of the document -/
def IsTx (x : Str) : Prop := Sgn (tl x) ∧ x.length ≤ 100
theorem normS_tx {x : Str} (h : IsTx x) : IsTx (normS x) := by
  refine ⟨by rw [tl_normS h.1]; exact normL_sgn h.1, ?_⟩
  rw [len_tl, tl_normS h.1]
  have := normL_len (tl x)
  have e := len_tl x
  have := h.2
  omega
theorem normS_norm {x : Str} (h : IsTx x) : normS (normS x) = normS x := by
  refine ext_tl ?_
  rw [tl_normS (normS_tx h).1, tl_normS h.1, normL_norm h.1]
theorem kform_tx {k : Kd} {x d : Str} (h : IsTx x) (hx : x ≠ "") (e : kform k x = some d) : IsTx d ∧ d ≠ "" ∧ kform k d = some d := by
  cases k with
  | exact =>
    cases e
    exact ⟨h, hx, rfl⟩
  | flag =>
    have e' : (if x = "yes" ∨ x = "no" then some x else none) = some d := e
    split at e'
    · rename_i q
      cases e'
      exact ⟨h, hx, if_pos q⟩
    · cases e'
  | link =>
    have e' : (if fitLink (tl x) then some x else none) = some d := e
    split at e'
    · rename_i q
      cases e'
      exact ⟨h, hx, if_pos q⟩
    · cases e'
  | number =>
    have e' : (if fitNum (tl x) then some x else none) = some d := e
    split at e'
    · rename_i q
      cases e'
      exact ⟨h, hx, if_pos q⟩
    · cases e'
  | text =>
    have e' : (if normS x = "" then none else some (normS x)) = some d := e
    split at e'
    · cases e'
    · rename_i q
      cases e'
      refine ⟨normS_tx h, q, ?_⟩
      show (if normS (normS x) = "" then none else some (normS (normS x))) = _
      rw [normS_norm h, if_neg q]
end Bw

namespace Bw
open PySem PySem.Spec L2 TL PyProof.Rows

/-! ### rules that the layer lacks -/
def repS (x : Str) (n : Int) : Str := ⟨((List.replicate n.toNat (tl x)).flatten).toArray⟩
theorem tl_repS (x : Str) (n : Int) : tl (repS x n) = (List.replicate n.toNat (tl x)).flatten := rfl
theorem foldl_app (l : List (Array Nat)) : ∀ (a : Array Nat), (l.foldl (· ++ ·) a).toList = a.toList ++ (l.map Array.toList).flatten := by
  induction l with
  | nil => intro a; simp
  | cons b r ih =>
    intro a
    rw [List.foldl_cons, ih, Array.toList_append, List.map_cons, List.flatten_cons, List.append_assoc]
theorem repS_fold (x : Str) (n : Int) : (⟨(List.replicate n.toNat x.cps).foldl (· ++ ·) #[]⟩ : Str) = repS x n := by
  refine ext_tl ?_
  show ((List.replicate n.toNat x.cps).foldl (· ++ ·) #[]).toList = _
  rw [foldl_app, List.map_replicate, tl_repS]
  rfl
section
variable {X : Cx}
theorem call_repr_bl : CallR X (.builtin "repr") (fun xs H Q => ∃ b, xs = [.bl b] ∧ Q (.str (if b then "True" else "False")) H) := by
  intro pins s σ H xs us Q I r h
  obtain ⟨b, rfl, q⟩ := h
  obtain ⟨u, rfl, r1⟩ := vals1 r
  cases r1
  exact PySem.P.repr_of_bool ⟨.str _, H, I.tok _, ⟨_, rfl⟩, q⟩
/-- s * n -/
def rMulS : R2 := fun x y H Q => ∃ z n, x = .str z ∧ y = .int n ∧ 0 ≤ n ∧ n ≤ 1000 ∧ z.length ≤ 1000 ∧ Q (.str (repS z n)) H
theorem op_mulS : OpR X (binaryOp .Mult) rMulS := by
  intro pins s σ H x y v u Q I rx ry h
  obtain ⟨z, n, rfl, rfl, h0, h1, hz, q⟩ := h
  obtain ⟨t, rfl⟩ := rx
  obtain ⟨t', rfl⟩ := ry
  have hle : z.length * n.toNat ≤ 1000000 := by
    have := Nat.mul_le_mul hz (show n.toNat ≤ 1000 by omega)
    omega
  refine PySem.P.mul_str ?_ ?_ ?_ ?_
  · rw [decide_eq_false (by omega), decide_eq_false (by omega)]
    rfl
  · intro h2 _
    have h3 : (1 : Int) ≤ n := by omega
    have h4 : ((2 : Int) ^ 63 - 1) / 1000 ≤ (2 ^ 63 - 1) / n := by
      refine Int.le_ediv_of_mul_le (by omega) ?_
      have : ((2 : Int) ^ 63 - 1) / 1000 * n ≤ ((2 : Int) ^ 63 - 1) / 1000 * 1000 := Int.mul_le_mul_of_nonneg_left (by omega) (by decide)
      exact Int.le_trans this (by decide)
    have h5 : (1000 : Int) ≤ ((2 : Int) ^ 63 - 1) / 1000 := by decide
    omega
  · intro _ _
    unfold Builtin.Str.tooLong
    refine decide_eq_false ?_
    have : (sizeLine : Nat) = 16777216 := sizeLine_eq
    omega
  · by_cases h2 : n < 1
    · rw [if_pos h2]
      have e : n = 0 := by omega
      subst e
      exact ⟨by decide, ⟨.str _, H, I.tok _, ⟨_, rfl⟩, q⟩⟩
    · rw [if_neg h2]
      split
      · rename_i h3
        have e : repS z n = z := by
          refine ext_tl ?_
          rw [tl_repS]
          rw [Bool.or_eq_true, beq_iff_eq, beq_iff_eq] at h3
          rcases h3 with h3 | h3
          · subst h3
            show (List.replicate 1 (tl z)).flatten = _
            simp
          · have : tl z = [] := (len0_tl z).mp h3
            rw [this]
            simp
        rw [e] at q
        exact ⟨.str z, H, I, ⟨t, rfl⟩, q⟩
      · rw [repS_fold]
        exact ⟨by
          show (repS z n).length ≤ sizeLine
          rw [len_tl, tl_repS, List.length_flatten, List.map_replicate, List.sum_replicate_nat]
          have e := len_tl z
          have : (sizeLine : Nat) = 16777216 := sizeLine_eq
          have h9 : n.toNat * (tl z).length ≤ 1000000 := by rw [← e, Nat.mul_comm]; exact hle
          omega, ⟨.str _, H, I.tok _, ⟨_, rfl⟩, q⟩⟩
def CPowW (i j : Int) : Prop := 0 ≤ j ∧ (Builtin.Int.intBits i : Int) * j ≤ 2 ^ 27
theorem op_powW : OpR X (binaryOp .Pow) (rI CPowW fun i j => .int (i ^ j.toNat)) := opI fun _ _ _ _ _ _ _ hc q => pow_int hc.1 hc.2 q
end
end Bw

namespace Bw
open PySem PySem.Spec L2 TL PyProof.Rows

/-! ### for i, c in enumerate(s), s a text -/
/-- each sign in a new pair with its place -/
def Itn (x : Str) : It := ⟨fun i _ => i < x.cps.size, fun i H v H' => ∃ (T : Addr) (c : Nat), x.cps[i]? = some c ∧ v = .ref T ∧ H T = none ∧ H' = upd H T (.tup [.int (i : Nat), .str ⟨#[c]⟩]), fun i _ => i = x.cps.size⟩
theorem turn_enumS {P : Program} {w : World} {K : PySem.W.Frag} {elts : List Expr} {kk : Nat} {tpos : Pos} (en si : Addr) (x : Str) (t : Tok) :
    Turn P w K (.Tuple elts kk tpos) (Itn x) [en, si] en (fun i h => (∃ old, IsEnum h en si ((i : Nat) : Int) old) ∧ h.IsStrIter si (strIterType x) x t i ∧ en ≠ si) where
  mem := by simp
  obj := fun i h st b hb => by
    obtain ⟨⟨old, ho⟩, ⟨o, e1, e2, e3⟩, _⟩ := st
    rcases (by simpa using hb : b = en ∨ b = si) with rfl | rfl
    · exact ⟨_, ho, fun v z => nomatch z⟩
    · exact ⟨o, e1, fun v z => by rw [e3] at z; cases z⟩
  keep := fun i h h' st k => by
    obtain ⟨⟨old, ho⟩, ⟨o, e1, e2⟩, ne⟩ := st
    exact ⟨⟨old, k en (by simp) _ ho⟩, ⟨o, k si (by simp) _ e1, e2⟩, ne⟩
  item := by
    intro X e1 e2 e3 calm i pins s σ H E I hf st hgo
    subst e1 e2 e3
    obtain ⟨⟨old, ho⟩, hs, ne⟩ := st
    have le : en < s.heap.objs.size := Heap.lt_size ho
    have ls : si < s.heap.objs.size := by
      obtain ⟨_, q, _⟩ := hs
      exact Heap.lt_size q
    have D : Draws X.prog X.w X.A.in1 si [si] x.cps.size _ _ := Draws.text (show X.A.in1.handled = none from I.ok.hd calm) si x t
    refine wpAny_pyNext_enum_itemD D ho hs hgo ne (by simpa using ne) fun u h1 tk hu ho1 hs1 hT hz hk => ?_
    obtain ⟨c, t2, hc, rfl⟩ := hu
    refine ⟨_, rfl, wpAny_letOwnedTupleGo_enum (s := { s with heap := h1, toks := tk + 1 }) ho1 fun h2 ho2 sb => ?_⟩
    have hT2 : h2.get? s.heap.objs.size = some { cls := .type "tuple", data := .seq #[.int i tk, .str ⟨#[c]⟩ t2] } := (sb.2 _ (Nat.ne_of_gt le)).trans hT
    have okT : ObjOk X.prog X.w (upd H s.heap.objs.size (.tup [.int (i : Nat), .str ⟨#[c]⟩])) h2 s.heap.objs.size (.tup [.int (i : Nat), .str ⟨#[c]⟩]) :=
      ⟨by show 2 ≤ sizeLine; decide, [.int i tk, .str ⟨#[c]⟩ t2], .cons ⟨_, rfl⟩ (.cons ⟨_, rfl⟩ .nil), ⟨_, hT2, rfl, _, rfl⟩⟩
    have I2 := I.turnedNew (t' := tk + 1) (ch := [en, si]) (fun b ob hb q => (sb.2 b (fun z => hb (by simp [z]))).trans (hk b ob (fun z => hb (by simp [z])) (fun z => hb (by simp [z])) q)) hf (Nat.le_refl _) okT
    refine ⟨.ref s.heap.objs.size, _, I2, rfl, ⟨_, c, hc, rfl, I.hok.fresh (Nat.le_refl _), rfl⟩, ⟨⟨.str ⟨#[c]⟩ t2, ?_⟩, ?_, ne⟩, fun b hb => ?_⟩
    · rw [show ((i + 1 : Nat) : Int) = (i : Int) + 1 by omega]
      exact ho2
    · obtain ⟨o, q1, q2⟩ := hs1
      exact ⟨o, (sb.2 si (Ne.symm ne)).trans q1, q2⟩
    · have lb : b < s.heap.objs.size := by
        rcases (by simpa using hb : b = en ∨ b = si) with rfl | rfl
        · exact le
        · exact ls
      rw [upd_ne (Nat.ne_of_lt lb)]
      exact (hf b hb).1
  done := by
    intro X e1 e2 e3 calm i pins s σ H E I hf st hstop
    subst e1 e2 e3
    obtain ⟨⟨old, ho⟩, hs, ne⟩ := st
    obtain ⟨f0, f1, f2, f3, f4, f5⟩ := hf si (by simp)
    have hi : i = x.cps.size := hstop
    subst hi
    have D : Draws X.prog X.w X.A.in1 si [si] x.cps.size _ _ := Draws.text (show X.A.in1.handled = none from I.ok.hd calm) si x t
    exact wpAny_pyNext_enum_endD D ho hs fun h' eb => ⟨rfl, I.turned (t' := s.toks) (fun b o hb q => eb b o hb q) f0 f1 f3 f4 f5⟩
  self := fun A i s Q E st h => by
    obtain ⟨⟨_, ho⟩, _⟩ := st
    exact wpAny_pyIter_enum ho h
def iEnumS (ta : TA) : TI := fun σ H R => ta σ H fun vs H1 => ∃ x : Str, vs = [.str x] ∧ R (Itn x) H1
theorem pi_enumS {X : Cx} {e : Expr} {ta : TA} {p pos tpos : Pos} {elts : List Expr} {kk : Nat} (hg : Gl X "enumerate") (hm : X.mg "enumerate" = none) (ha : PA X [e] ta) (hs : starEach [e] X.env = [(false, eval e X.env)] := by rfl) :
    PI X (.Tuple elts kk tpos) (.Call (.Name "enumerate" p) [e] [] pos) (iEnumS ta) := by
  refine ⟨fun pins s σ H R I q => ?_⟩
  refine Call_ (ld_blt I hg hm boot_enumerate (PyProof.Rows.callWith_type1 (thn (ha.run pos pins s σ H _ I q) fun us s1 ⟨vs, H1, I1, r1, q1⟩ => ?_) hs rfl))
  obtain ⟨x, rfl, q1⟩ := q1
  obtain ⟨u, rfl, t, rfl⟩ := vals1 r1
  refine call_enumerate_str fun h' ho hsi hz hk => wpAny_pyIter_enum ho ?_
  have I2 : Inv X pins σ H1 { s1 with heap := h' } := I1.kept (t' := s1.toks) hk
  refine ⟨s1.heap.objs.size + 1, [s1.heap.objs.size + 1, s1.heap.objs.size], _, _, H1, rfl, I2, turn_enumS (s1.heap.objs.size + 1) s1.heap.objs.size x t, ⟨⟨.none, ho⟩, hsi, Nat.succ_ne_self _⟩, fun b hb => ?_, q1⟩
  have lb : s1.heap.objs.size ≤ b := by
    rcases (by simpa using hb : b = s1.heap.objs.size + 1 ∨ b = s1.heap.objs.size) with rfl | rfl
    · exact Nat.le_add_right _ _
    · exact Nat.le_refl _
  exact I1.fpOk lb (I1.hok.fresh lb)
theorem walk_enumS {x : Str} : Walk (Itn x) x.cps.size (fun _ => True) (fun i H v H' => ∃ (T : Addr) (c : Nat), x.cps[i]? = some c ∧ v = .ref T ∧ H T = none ∧ H' = upd H T (.tup [.int (i : Nat), .str ⟨#[c]⟩])) :=
  ⟨fun _ _ hi _ => hi, fun _ _ => rfl, fun _ _ _ _ _ _ y => y⟩
end Bw

namespace Bz
open PySem PySem.Calls PyProof.Rows PyProof.V PySem.Spec PySem.W

/-! ### list(zip(xs, ys)) of two lists -/
def ZSt (h : Heap) (z TI TO i1 i2 l1 l2 S : Addr) (xs ys : Array Value) (i : Nat) : Prop :=
  IsPair h TI (.ref i1) (.ref i2) ∧ h.IsListIter i1 l1 i ∧ h.IsListIter i2 l2 i ∧ h.IsList l1 xs ∧ h.IsList l2 ys ∧
    ((IsZip h z TI TO .none ∧ ∃ a b, IsPair h TO a b) ∨ ∃ T f oT, IsZipHeld h z TI TO T f ∧ h.get? T = some oT ∧ S < T)
structure ZG (xs ys : Array Value) (lo : Addr) (h : Heap) (as : List Addr) : Prop where
  rise : as.Pairwise (· < ·)
  above : ∀ a ∈ as, lo < a
  pairs : ∀ (j : Nat) (a : Addr), as[j]? = some a → ∃ x y, xs[j]? = some x ∧ ys[j]? = some y ∧ h.get? a = some { cls := .type "tuple", data := .seq #[x, y] }
theorem ZG.there {xs ys : Array Value} {lo : Addr} {h : Heap} {as : List Addr} (g : ZG xs ys lo h as) {a : Addr} (ha : a ∈ as) : a < h.objs.size := by
  obtain ⟨j, hj⟩ := List.mem_iff_getElem?.mp ha
  obtain ⟨_, _, _, _, e⟩ := g.pairs j a hj
  exact Heap.lt_size e
structure Low (z TI TO i1 i2 l1 l2 S : Addr) : Prop where
  z : z < S
  TI : TI < S
  TO : TO < S
  i1 : i1 < S
  i2 : i2 < S
  l1 : l1 < S
  l2 : l2 < S
theorem ZSt.keep {h h' : Heap} {z TI TO i1 i2 l1 l2 S : Addr} {xs ys : Array Value} {i : Nat} (L : Low z TI TO i1 i2 l1 l2 S) (st : ZSt h z TI TO i1 i2 l1 l2 S xs ys i) (k : ∀ b o, b ≠ S → h.get? b = some o → h'.get? b = some o) : ZSt h' z TI TO i1 i2 l1 l2 S xs ys i := by
  obtain ⟨hTI, h1, h2, hl1, hl2, hz⟩ := st
  refine ⟨k _ _ (Nat.ne_of_lt L.TI) hTI, h1.at fun o e => k _ o (Nat.ne_of_lt L.i1) e, h2.at fun o e => k _ o (Nat.ne_of_lt L.i2) e, hl1.at fun o e => k _ o (Nat.ne_of_lt L.l1) e, hl2.at fun o e => k _ o (Nat.ne_of_lt L.l2) e, ?_⟩
  rcases hz with ⟨hz, a, b, hTO⟩ | ⟨T, f, oT, hz, hT, hS⟩
  · exact .inl ⟨k _ _ (Nat.ne_of_lt L.z) hz, a, b, k _ _ (Nat.ne_of_lt L.TO) hTO⟩
  · exact .inr ⟨T, f, oT, k _ _ (Nat.ne_of_lt L.z) hz, k _ _ (Nat.ne_of_gt hS) hT, hS⟩
section
variable {prog : Program} {w : World} {A : Around} {E : Value → Shared → Prop} {s : Shared}
theorem zp_item {z TI TO i1 i2 l1 l2 S : Addr} {xs ys : Array Value} {i : Nat} {x y : Value} {Q : Option Value → Shared → Prop} (D : ZipApart z TI TO i1 i2 l1 l2) (L : Low z TI TO i1 i2 l1 l2 S) (st : ZSt s.heap z TI TO i1 i2 l1 l2 S xs ys i) (hS : S < s.heap.objs.size)
    (ex : xs[i]? = some x) (ey : ys[i]? = some y)
    (hQ : ∀ h', ZSt h' z TI TO i1 i2 l1 l2 S xs ys (i + 1) → h'.get? s.heap.objs.size = some { cls := .type "tuple", data := .seq #[x, y] } → h'.objs.size = s.heap.objs.size + 1 →
      (∀ b o, b ∉ [z, TO, i1, i2] → s.heap.get? b = some o → h'.get? b = some o) → Q (some (.ref s.heap.objs.size)) { s with heap := h' }) :
    wpAny (model prog w) A (pyNext (.ref z)) Q E s := by
  obtain ⟨hTI, h1, h2, hl1, hl2, hz⟩ := st
  rcases hz with ⟨hz, a, b, hTO⟩ | ⟨T, f, oT, hz, hT, hST⟩
  · refine wpAny_pyNext_zip_item D hz hTI hTO h1 h2 hl1 hl2 ex ey fun h' a1 a2 a3 a4 a5 a6 hk => ?_
    refine hQ h' ⟨hk _ _ D.TIz D.TITO D.TIi1 D.TIi2 hTI, a3, a4, hl1.at fun o e => hk _ o D.l1z D.l1TO D.l1i1 D.l1i2 e, hl2.at fun o e => hk _ o D.l2z D.l2TO D.l2i1 D.l2i2 e, .inr ⟨s.heap.objs.size, false, _, a1, a5, hS⟩⟩ a5 a6
      fun c o hc e => hk c o (fun q => hc (by simp [q])) (fun q => hc (by simp [q])) (fun q => hc (by simp [q])) (fun q => hc (by simp [q])) e
  · have r1 : T ≠ z := Nat.ne_of_gt (Nat.lt_trans L.z hST)
    have r2 : T ≠ i1 := Nat.ne_of_gt (Nat.lt_trans L.i1 hST)
    have r3 : T ≠ i2 := Nat.ne_of_gt (Nat.lt_trans L.i2 hST)
    refine wpAny_pyNext_zip_item_held D hz hT hTI h1 h2 hl1 hl2 ex ey fun h' a1 a3 a4 a5 a6 hk => ?_
    refine hQ h' ⟨hk _ _ D.TIz D.TIi1 D.TIi2 hTI, a3, a4, hl1.at fun o e => hk _ o D.l1z D.l1i1 D.l1i2 e, hl2.at fun o e => hk _ o D.l2z D.l2i1 D.l2i2 e, .inr ⟨T, true, oT, a1, hk _ _ r1 r2 r3 hT, hST⟩⟩ a5 a6
      fun c o hc e => hk c o (fun q => hc (by simp [q])) (fun q => hc (by simp [q])) (fun q => hc (by simp [q])) e
theorem zp_done {z TI TO i1 i2 l1 l2 S : Addr} {xs ys : Array Value} {i : Nat} {Q : Option Value → Shared → Prop} (hh : A.handled = none) (D : ZipApart z TI TO i1 i2 l1 l2) (st : ZSt s.heap z TI TO i1 i2 l1 l2 S xs ys i) (hend : xs[i]? = none ∨ ys[i]? = none)
    (hQ : ∀ h', (∀ b o, b ∉ [z, TO, i1, i2] → s.heap.get? b = some o → h'.get? b = some o) → Q none { s with heap := h' }) : wpAny (model prog w) A (pyNext (.ref z)) Q E s := by
  obtain ⟨hTI, h1, h2, hl1, hl2, hz⟩ := st
  rcases hz with ⟨hz, a, b, hTO⟩ | ⟨T, f, oT, hz, hT, hST⟩
  · exact wpAny_pyNext_zip_end hh D hz hTI hTO h1 h2 hl1 hl2 hend fun h' hk => hQ h' fun c o hc e => hk c o (fun q => hc (by simp [q])) (fun q => hc (by simp [q])) (fun q => hc (by simp [q])) (fun q => hc (by simp [q])) e
  · exact wpAny_pyNext_zip_end_held hh D hz hT hTI h1 h2 hl1 hl2 hend fun h' hk => hQ h' fun c o hc e => hk c o (fun q => hc (by simp [q])) (fun q => hc (by simp [q])) (fun q => hc (by simp [q])) e
end
section
variable {prog : Program} {w : World} {A : Around} {s : Shared} {R : Result → Shared → Prop} {z TI TO i1 i2 l1 l2 S : Addr} {xs ys : Array Value} {n : Nat}
theorem zp_loop (hh : A.handled = none) (D : ZipApart z TI TO i1 i2 l1 l2) (L : Low z TI TO i1 i2 l1 l2 S) (hn : n = min xs.size ys.size) (hz : n ≤ sizeLine) (res : Value) {h₁ : Heap}
    (hR : ∀ h' tk acc c as, (∀ b o, b ≠ S → b ∉ [z, TO, i1, i2] → h₁.get? b = some o → h'.get? b = some o) → h'.get? S = some { cls := .type "list", dict := none, data := .seq acc c, slots := #[] } → as.length = n → ZG xs ys S h' as →
      acc.toList = as.map Value.ref → R (.ok (.ret res)) { s with heap := h', toks := tk }) :
    ∀ (k i : Nat) (h : Heap) (tk c : Nat) (acc : Array Value) (as : List Addr), n - i = k → i ≤ n → ZSt h z TI TO i1 i2 l1 l2 S xs ys i → (∀ b o, b ≠ S → b ∉ [z, TO, i1, i2] → h₁.get? b = some o → h.get? b = some o) →
      h.get? S = some { cls := .type "list", dict := none, data := .seq acc c, slots := #[] } → acc.toList = as.map Value.ref → as.length = i → ZG xs ys S h as →
      codeAny (model prog w) A (.builtin "list.extend.loop" ⟨[.ref S, .ref z, res], []⟩) R { s with heap := h, toks := tk } := by
  have offw : ∀ b, S ≤ b → b ∉ [z, TO, i1, i2] := fun b hb hm => by
    have hm' : b = z ∨ b = TO ∨ b = i1 ∨ b = i2 := by simpa using hm
    rcases hm' with q | q | q | q
    · exact Nat.lt_irrefl _ (Nat.lt_of_lt_of_le (q ▸ L.z) hb)
    · exact Nat.lt_irrefl _ (Nat.lt_of_lt_of_le (q ▸ L.TO) hb)
    · exact Nat.lt_irrefl _ (Nat.lt_of_lt_of_le (q ▸ L.i1) hb)
    · exact Nat.lt_irrefl _ (Nat.lt_of_lt_of_le (q ▸ L.i2) hb)
  intro k
  induction k with
  | zero =>
    intro i h tk c acc as hk hi hst hkeep hS hacc hal hG
    have hin : i = n := by omega
    refine codeAny_builtin PySem.F.entry_extend_loop ?_
    rw [Around.under_plainId PySem.F.plain_extend_loop _]
    show wpAny _ A.in1 (pyNext (.ref z) >>= _) _ _ _
    have hend : xs[i]? = none ∨ ys[i]? = none := by
      rcases Nat.le_total xs.size ys.size with q | q
      · exact .inl (Array.getElem?_eq_none (by rw [Nat.min_eq_left q] at hn; omega))
      · exact .inr (Array.getElem?_eq_none (by rw [Nat.min_eq_right q] at hn; omega))
    refine wpAny_bind (zp_done (s := { s with heap := h, toks := tk }) (A := A.in1) hh D hst hend fun h' he => ?_)
    refine wpAny_pure (hR h' tk acc c as (fun b o h1 h2 e => he b o h2 (hkeep b o h1 h2 e)) (he S _ (offw S (Nat.le_refl _)) hS) (by omega) ⟨hG.rise, hG.above, fun j a hj => ?_⟩ hacc)
    obtain ⟨x, y, e1, e2, e3⟩ := hG.pairs j a hj
    exact ⟨x, y, e1, e2, he a _ (offw a (Nat.le_of_lt (hG.above a (List.mem_of_getElem? hj)))) e3⟩
  | succ k ih =>
    intro i h tk c acc as hk hi hst hkeep hS hacc hal hG
    have hlx : i < xs.size := by have := Nat.min_le_left xs.size ys.size; omega
    have hly : i < ys.size := by have := Nat.min_le_right xs.size ys.size; omega
    have ex := Array.getElem?_eq_getElem hlx
    have ey := Array.getElem?_eq_getElem hly
    have hsz : acc.size = i := by rw [← Array.length_toList, hacc, List.length_map, hal]
    refine codeAny_builtin PySem.F.entry_extend_loop ?_
    rw [Around.under_plainId PySem.F.plain_extend_loop _]
    show wpAny _ A.in1 (pyNext (.ref z) >>= _) _ _ _
    refine wpAny_bind (zp_item (s := { s with heap := h, toks := tk }) D L hst (Heap.lt_size hS) ex ey fun h' hst' ht hz' hkp => ?_)
    dsimp only at ht hz' hkp ⊢
    have hS' := hkp S _ (offw S (Nat.le_refl _)) hS
    have up : ∀ b o, b ≠ S → h'.get? b = some o → (h'.update S (Obj.mapSeq (·.push (Value.ref h.objs.size)))).get? b = some o := fun b o hb e => (Heap.get?_update_other _ _ (Ne.symm hb)).trans e
    have hSl : S < h.objs.size := Heap.lt_size hS
    show wpAny _ A.in1 (updateSeq S (·.push (Value.ref h.objs.size)) >>= _) _ _ _
    refine wpAny_bind ?_
    refine wpAny_updateSeq hS' rfl (wpAny_pure ⟨plainId_quiet PySem.F.plain_extend_loop _, ih (i + 1) _ tk _ (acc.push (Value.ref h.objs.size)) (as ++ [h.objs.size]) (by omega) (by omega) (hst'.keep L up)
      (fun b o h1 h2 e => up b o h1 (hkp b o h2 (hkeep b o h1 h2 e))) (Heap.get?_update_self _ hS' rfl) (by rw [Array.toList_push, hacc, List.map_append]; rfl) (by rw [List.length_append, hal]; rfl) ⟨?_, ?_, ?_⟩⟩) (by rw [hsz]; omega) (by show (acc.push (Value.ref h.objs.size)).size ≤ sizeLine + 1; rw [Array.size_push, hsz]; omega)
    · refine List.pairwise_append.mpr ⟨hG.rise, List.pairwise_singleton _ _, fun a ha b hb => ?_⟩
      rw [List.mem_singleton.mp hb]
      exact hG.there ha
    · intro a ha
      rcases List.mem_append.mp ha with ha | ha
      · exact hG.above a ha
      · rw [List.mem_singleton.mp ha]; exact hSl
    · intro j b hj
      rcases Nat.lt_trichotomy j as.length with h1 | h1 | h1
      · rw [List.getElem?_append_left h1] at hj
        obtain ⟨x, y, e1, e2, e3⟩ := hG.pairs j b hj
        have hb := hG.above b (List.mem_of_getElem? hj)
        exact ⟨x, y, e1, e2, up b _ (Nat.ne_of_gt hb) (hkp b _ (offw b (Nat.le_of_lt hb)) e3)⟩
      · subst h1
        have hb : h.objs.size = b := by simpa using hj
        subst hb
        subst hal
        exact ⟨_, _, ex, ey, up _ _ (Nat.ne_of_gt hSl) ht⟩
      · have hnone : (as ++ [h.objs.size])[j]? = none := List.getElem?_eq_none (by rw [List.length_append, List.length_singleton]; omega)
        rw [hnone] at hj; cases hj
end
theorem zip_no_len : typeLookup (.type "zip") "__len__" = pure none := by rw [typeLookup_type, builtinLookup_eq_fast]; kernel_rfl
theorem zip_no_hint : typeLookup (.type "zip") "__length_hint__" = pure none := by rw [typeLookup_type, builtinLookup_eq_fast]; kernel_rfl
section
variable {prog : Program} {w : World} {A : Around} {E : Value → Shared → Prop} {s : Shared} {z TI TO i1 i2 l1 l2 : Addr} {xs ys : Array Value} {n : Nat}
theorem zp_call {Q : Value → Shared → Prop} (hh : A.handled = none) (D : ZipApart z TI TO i1 i2 l1 l2) (L : Low z TI TO i1 i2 l1 l2 s.heap.objs.size) (hn : n = min xs.size ys.size) (hz : n ≤ sizeLine)
    (hzp : IsZip s.heap z TI TO .none) (hTI : IsPair s.heap TI (.ref i1) (.ref i2)) (hTO : ∃ a b, IsPair s.heap TO a b) (h1 : s.heap.IsListIter i1 l1 0) (h2 : s.heap.IsListIter i2 l2 0) (hl1 : s.heap.IsList l1 xs) (hl2 : s.heap.IsList l2 ys)
    (hQ : ∀ h' tk acc c as, (∀ b o, b ∉ [z, TO, i1, i2] → s.heap.get? b = some o → h'.get? b = some o) → h'.get? s.heap.objs.size = some { cls := .type "list", dict := none, data := .seq acc c, slots := #[] } → as.length = n → ZG xs ys s.heap.objs.size h' as →
      acc.toList = as.map Value.ref → Q (.ref s.heap.objs.size) { s with heap := h', toks := tk }) :
    wpAny (model prog w) A (call (.type "list") [.ref z]) Q E s := by
  refine callType_codes (Q₁ := fun obj s₁ => obj = .ref s.heap.objs.size ∧ s₁ = { s with heap := s.heap.push { cls := .type "list", data := .seq #[] } }) PySem.F.called_list (PySem.F.typeCall_list_1 _) PySem.F.entry_list_init
    (code_list_new _ ⟨rfl, rfl⟩) fun obj s₁ h₁ => ?_
  obtain ⟨rfl, rfl⟩ := h₁
  have hS : (s.heap.push { cls := .type "list", data := .seq #[] }).get? s.heap.objs.size = some { cls := .type "list", data := .seq #[] } := Heap.get?_push_size _ rfl
  generalize hSe : s.heap.objs.size = S at *
  refine ⟨⟨_, hS, rfl⟩, PySem.F.args_list_init_2 _ _, ?_⟩
  show wpAny _ _ (do let old ← Builtin.List.listItems (.ref S); Builtin.List.listUpdate (.ref S) (fun _ => #[]); letGo old.toList.reverse; Builtin.List.listExtendWith (.ref S) (.ref z) .none) _ _ _
  refine wpAny_bind ?_
  unfold Builtin.List.listItems
  refine wpAny_bind (wpAny_seqItems hS rfl (wpAny_pure ?_))
  show wpAny _ _ (updateSeq S (fun _ => #[]) >>= fun _ => letGo (#[] : Array Value).toList.reverse >>= fun _ => Builtin.List.listExtendWith (.ref S) (.ref z) .none) _ _ _
  refine wpAny_bind (wpAny_updateSeq hS rfl ?_)
  have hS₂ := Heap.get?_update_self (Obj.mapSeq (fun _ => (#[] : Array Value))) hS rfl
  have k2 : ∀ b o, b ≠ S → s.heap.get? b = some o → ((s.heap.push { cls := .type "list", data := .seq #[] }).update S (Obj.mapSeq (fun _ => (#[] : Array Value)))).get? b = some o :=
    fun b o hb e => (Heap.get?_update_other _ _ (Ne.symm hb)).trans (Heap.get?_push_of_some _ e)
  refine wpAny_bind (wpAny_letGo ?_)
  have zT : ∀ h' : Heap, (∀ b o, b ≠ S → s.heap.get? b = some o → h'.get? b = some o) → ∀ g d t os, (⟨h', g, d, t, os⟩ : Shared).TypeIs (.ref z) "zip" := fun h' k g d t os => ⟨_, k z _ (Nat.ne_of_lt L.z) hzp, rfl⟩
  unfold Builtin.List.listExtendWith
  refine wpAny_bind (wpAny_typeOf (T := "zip") (zT _ k2 ..) ?_)
  have e1 : Builtin.List.listSameRef (.ref S) (.ref z) = false := by
    have ne : S ≠ z := Nat.ne_of_gt L.z
    simp [Builtin.List.listSameRef, ne]
  have e2 : (Value.type "zip" == Value.type "list") = false := by decide
  have e3 : (Value.type "zip" == Value.type "tuple") = false := by decide
  simp only [e1, e2, e3, Bool.or_false, Bool.false_eq_true, if_false]
  refine wpAny_bind (wpAny_pyIter_zip (k2 _ _ (Nat.ne_of_lt L.z) hzp) ?_)
  refine wpAny_bind (wpAny_holding ?_)
  unfold Builtin.List.listLengthHint
  refine wpAny_bind (wpAny_specialOf (zT _ k2 ..) zip_no_len ?_)
  show wpAny _ A.in1.in1 (specialOf (Value.ref z) (Str.ofString "__length_hint__") >>= _) _ _ _
  refine wpAny_bind (wpAny_specialOf (zT _ k2 ..) zip_no_hint ?_)
  refine wpAny_pure ?_
  show wpAny _ A.in1.in1 (rule "list.extend.makes-room" >>= fun _ => Builtin.List.listTouch (.ref S) >>= fun _ =>
    again (.builtin "list.extend.loop" ⟨[.ref S, .ref z, .none], []⟩)) _ _ _
  refine wpAny_bind (wpAny_rule ?_)
  refine wpAny_bind ?_
  show wpAny _ A.in1.in1 (updateSeq S (·.push .none) >>= fun _ => updateSeq S (·.pop)) _ _ _
  refine wpAny_bind (wpAny_updateSeq hS₂ rfl ?_)
  have hS₃ := Heap.get?_update_self (Obj.mapSeq (·.push Value.none)) hS₂ rfl
  refine wpAny_updateSeq (hz := by seq_fits) hS₃ rfl ?_
  have hS₄ := Heap.get?_update_self (Obj.mapSeq (·.pop)) hS₃ rfl
  refine wpAny_pure ⟨plainId_quiet PySem.F.plain_extend_loop _, ?_⟩
  refine zp_loop (prog := prog) (w := w) (A := A.in1) (s := s) (R := wants (fun r s₂ => r = Value.none ∧ Q (Value.ref S) s₂) E) (h₁ := s.heap) (S := S) (n := n) (xs := xs) (ys := ys) hh D L hn hz .none (fun h' tk acc c as hk hS' hl hG hacc => ⟨rfl, hQ h' tk acc c as (fun b o hb e => ?_) hS' hl hG hacc⟩) (n - 0) 0 _ _ _ #[] [] rfl (Nat.zero_le _) ?_ ?_ hS₄ rfl rfl ⟨List.Pairwise.nil, (fun _ ha => nomatch ha), (fun j a hj => by simp at hj)⟩
  · refine hk b o (fun q => ?_) hb e
    have := Heap.lt_size e
    rw [hSe, q] at this
    exact Nat.lt_irrefl _ this
  · obtain ⟨a, b, hTO⟩ := hTO
    refine ZSt.keep L (h := s.heap) ⟨hTI, h1, h2, hl1, hl2, .inl ⟨hzp, a, b, hTO⟩⟩ fun b o hb e => ?_
    exact (Heap.get?_update_other _ _ (Ne.symm hb)).trans ((Heap.get?_update_other _ _ (Ne.symm hb)).trans (k2 b o hb e))
  · intro b o hb _ e
    exact (Heap.get?_update_other _ _ (Ne.symm hb)).trans ((Heap.get?_update_other _ _ (Ne.symm hb)).trans (k2 b o hb e))
end
end Bz

namespace Bw
open PySem PySem.Spec L2 TL PyProof.Rows

/-! ### list(zip(xs, ys)) -/
def putP : Hp → List Addr → List (V × V) → Hp
  | H, a :: as, p :: kvs => putP (upd H a (.tup [p.1, p.2])) as kvs
  | H, _, _ => H
theorem putP_off {b : Addr} : ∀ (as : List Addr) (kvs : List (V × V)) (H : Hp), b ∉ as → putP H as kvs b = H b
  | [], _, _, _ => rfl
  | _ :: _, [], _, _ => rfl
  | a :: as, p :: kvs, H, h => by
    show putP (upd H a (.tup [p.1, p.2])) as kvs b = H b
    rw [putP_off as kvs _ (fun z => h (List.mem_cons_of_mem _ z)), upd_ne (fun z => h (by rw [z]; exact List.mem_cons_self))]
theorem putP_at : ∀ (as : List Addr) (kvs : List (V × V)) (H : Hp), as.length = kvs.length → as.Nodup → Paired (fun (t : Addr) (p : V × V) => putP H as kvs t = some (.tup [p.1, p.2])) as kvs
  | [], [], _, _, _ => .nil
  | [], _ :: _, _, h, _ => by cases h
  | _ :: _, [], _, h, _ => by cases h
  | a :: as, p :: kvs, H, h, hn => by
    have hn' := List.nodup_cons.mp hn
    have ih := putP_at as kvs (upd H a (.tup [p.1, p.2])) (Nat.succ.inj h) hn'.2
    refine .cons ?_ ih
    show putP (upd H a (.tup [p.1, p.2])) as kvs a = some (.tup [p.1, p.2])
    rw [putP_off as kvs _ hn'.1, upd_same]
theorem zip_laid {X : Cx} {pins : List (Addr × Obj)} {σ : L2.St} {H : Hp} {s : Shared} {h' : Heap} {tk S : Nat} {xs ys : List V} {us ws : List Value} {acc : Array Value} {c : Nat} {as : List Addr} (I : Inv X pins σ H s) (hz : xs.length ≤ sizeLine) (rx : Vals xs us) (ry : Vals ys ws) (hlen : xs.length = ys.length)
    (hk : ∀ b o, s.heap.get? b = some o → h'.get? b = some o) (hS0 : s.heap.objs.size ≤ S) (hS : h'.get? S = some { cls := .type "list", dict := none, data := .seq acc c, slots := #[] }) (hl : as.length = xs.length) (hG : Bz.ZG us.toArray ws.toArray S h' as) (hacc : acc.toList = as.map Value.ref) :
    ∃ H' : Hp, Same H H' ∧ H S = none ∧ (∀ t ∈ as, H t = none) ∧ S ∉ as ∧ H' S = some (.lst (as.map V.ref)) ∧ Paired (fun (t : Addr) (q : V × V) => H' t = some (.tup [q.1, q.2])) as (xs.zip ys) ∧ Inv X pins σ H' { s with heap := h', toks := tk } := by
  have hSn : S ∉ as := fun z => Nat.lt_irrefl _ (hG.above _ z)
  have nd : as.Nodup := List.Pairwise.imp (fun {a b} (h : a < b) => Nat.ne_of_lt h) hG.rise
  have new : ∀ t ∈ as, H t = none := fun t ht => I.hok.fresh (Nat.le_trans hS0 (Nat.le_of_lt (hG.above t ht)))
  have newS : H S = none := I.hok.fresh hS0
  have lz : (xs.zip ys).length = xs.length := by rw [List.length_zip, ← hlen, Nat.min_self]
  have atP := putP_at as (xs.zip ys) (upd H S (.lst (as.map V.ref))) (by omega) nd
  have off : ∀ b, b ∉ as → b ≠ S → putP (upd H S (.lst (as.map V.ref))) as (xs.zip ys) b = H b := fun b h1 h2 => by rw [putP_off as _ _ h1, upd_ne h2]
  have low : ∀ b o, s.heap.get? b = some o → b ∉ as ∧ b ≠ S := fun b o e => ⟨fun z => absurd (Nat.lt_of_lt_of_le (Heap.lt_size e) hS0) (Nat.not_lt.mpr (Nat.le_of_lt (hG.above b z))), Nat.ne_of_lt (Nat.lt_of_lt_of_le (Heap.lt_size e) hS0)⟩
  have kp : ∀ b u, H b = some u → (putP (upd H S (.lst (as.map V.ref))) as (xs.zip ys)) b = some u := fun b u e => by
    rw [off b (fun z => by rw [new b z] at e; cases e) (fun z => by rw [z, newS] at e; cases e)]
    exact e
  have eS : putP (upd H S (.lst (as.map V.ref))) as (xs.zip ys) S = some (.lst (as.map V.ref)) := by rw [putP_off as _ _ hSn, upd_same]
  refine ⟨putP (upd H S (.lst (as.map V.ref))) as (xs.zip ys), kp, newS, new, hSn, eS, atP, ?_⟩
  refine I.call' (ch := []) rfl ⟨fun b o q _ _ _ => hk b o q, fun b o q _ _ _ => ⟨o.slots, hk b o q⟩, fun b o q n _ => ?_, fun b o q _ => ⟨o, hk b o q⟩, fun b xs q => kp b _ q, fun b o u q => kp b _ q, fun b ps q => ⟨#[], by rw [kp b _ q]; simp⟩⟩ (fun b u q => ?_) I.bare fun b z => by simp at z
  · obtain ⟨z1, z2⟩ := low b o q
    rw [off b z1 z2]
    exact n
  · by_cases hb : b ∈ as
    · obtain ⟨j, pk, e1, e2, e3⟩ := LiI.paired_ix atP hb
      rw [e3] at q
      cases q
      obtain ⟨x, y, f1, f2, f3⟩ := hG.pairs j b e1
      rw [List.getElem?_zip_eq_some] at e2
      obtain ⟨g1, g2⟩ := e2
      obtain ⟨u, hu, ru⟩ := rx.get g1
      obtain ⟨v, hv, rv⟩ := ry.get g2
      have f1' : us[j]? = some x := by simpa using f1
      have f2' : ws[j]? = some y := by simpa using f2
      rw [f1'] at hu
      rw [f2'] at hv
      cases hu
      cases hv
      exact ⟨by show 2 ≤ sizeLine; decide, [x, y], .cons ru (.cons rv .nil), ⟨_, f3, rfl, _, rfl⟩⟩
    · by_cases hb2 : b = S
      · rw [hb2] at q ⊢
        rw [eS] at q
        cases q
        refine ⟨by rw [List.length_map]; omega, acc.toList, c, by rw [hacc]; exact LiI.vals_refs as, ?_⟩
        rw [Array.toArray_toList]
        exact hS
      · rw [off b hb hb2] at q
        exact (I.hok b u q).stay (fun d v _ y => hk d v y) (fun d y => kp d _ y) fun d xs y => kp d _ y
def tListZip (K : PySem.W.Frag) (ta : TA) : TE := fun σ H Q => ta σ H fun vs H1 => ∃ (a b : Addr) (xs ys : List V), vs = [.ref a, .ref b] ∧ SqL K H1 a xs ∧ SqL K H1 b ys ∧ xs.length = ys.length ∧
  ∀ (H' : Hp) (p : Addr) (ts : List Addr), Same H1 H' → H1 p = none → (∀ t ∈ ts, H1 t = none) → p ∉ ts → H' p = some (.lst (ts.map V.ref)) → Paired (fun (t : Addr) (q : V × V) => H' t = some (.tup [q.1, q.2])) ts (xs.zip ys) → Q (.ref p) H'
section
variable {X : Cx}
theorem pe_listZip {e e2 : Expr} {ta : TA} {p p2 q pos : Pos} (hc : X.calm = true) (ha : PA X [e, e2] ta) (hg : Gl X "list") (hm : X.mg "list" = none) (hgz : Gl X "zip") (hmz : X.mg "zip" = none)
    (hs : starEach [.Call (.Name "zip" p2) [e, e2] [] q] X.env = (false, eval (.Call (.Name "zip" p2) [e, e2] [] q) X.env) :: starEach [] X.env := by rfl)
    (hs2 : starEach [e, e2] X.env = (false, eval e X.env) :: starEach [e2] X.env := by rfl) (hpl : (backTo q (starEach [e2] X.env)).any (·.1) = false := by rfl) :
    PE X (.Call (.Name "list" p) [.Call (.Name "zip" p2) [e, e2] [] q] [] pos) (tListZip X.K ta) := by
  refine ⟨fun pins s σ H Q I hq => ?_⟩
  refine wpAny_Call_Name_kw (ld_blt I hg hm (show bootBuiltins "list" = some (.type "list") by decide +kernel) ?_)
  refine PyProof.Rows.callWith_type1 ?_ hs rfl
  rw [hs]
  show wpAny _ _ (spliced ((false, eval (.Call (.Name "zip" p2) [e, e2] [] q) X.env) :: backTo pos (starEach [] X.env))) _ _ s
  refine Calls.spliced_cons ?_
  refine Call_ (ld_blt I hgz hmz PyProof.Rows.boot_zip (PyProof.Rows.callWith_type1 (thn (ha.run q pins s σ H _ I hq) fun us s1 ⟨vs, H1, I1, r1, q1⟩ => ?_) hs2 hpl))
  obtain ⟨a, b, xs, ys, ex, hqx, hqy, hlen, q1⟩ := q1
  subst ex
  cases r1 with
  | cons r rr =>
    cases rr with
    | cons r' rr =>
      cases rr
      cases r
      cases r'
      obtain ⟨its, rv, p1, hz⟩ := I1.list hqx
      obtain ⟨its2, rv2, p2, _⟩ := I1.list hqy
      have la : a < s1.heap.objs.size := p1.lt
      have lb : b < s1.heap.objs.size := p2.lt
      refine call_zip_2 p1.isList p2.isList fun h' hzp hTI hTO h1 h2 hsz hk => ?_
      have l1 : its.length = xs.length := rv.length.symm
      have l2 : its2.length = ys.length := rv2.length.symm
      have hlow : Bz.Low (s1.heap.objs.size + 4) (s1.heap.objs.size + 2) (s1.heap.objs.size + 3) s1.heap.objs.size (s1.heap.objs.size + 1) a b h'.objs.size := by
        have ad : ∀ k, k < 5 → s1.heap.objs.size + k < h'.objs.size := fun k hk5 => by rw [hsz]; exact Nat.add_lt_add_left hk5 _
        exact ⟨ad 4 (by decide), ad 2 (by decide), ad 3 (by decide), ad 0 (by decide), ad 1 (by decide), Nat.lt_trans la (ad 0 (by decide)), Nat.lt_trans lb (ad 0 (by decide))⟩
      refine Calls.spliced_nil ?_
      refine Bz.zp_call (s := { s1 with heap := h' }) (n := xs.length) (I1.ok.hd hc) (PySem.W.ktu_apart s1.heap.objs.size a b la lb) hlow (by rw [List.size_toArray, List.size_toArray, l1, l2, ← hlen, Nat.min_self]) hz hzp hTI ⟨_, _, hTO⟩ h1 h2 (p1.isList.at fun o e => hk _ o e) (p2.isList.at fun o e => hk _ o e) fun h2' tk acc c as hk' hS hl hG hacc => ?_
      have hkk : ∀ b o, s1.heap.get? b = some o → h2'.get? b = some o := fun b o e => hk' b o (fun hm => by
        have lt := Heap.lt_size e
        have hm' : b = s1.heap.objs.size + 4 ∨ b = s1.heap.objs.size + 3 ∨ b = s1.heap.objs.size ∨ b = s1.heap.objs.size + 1 := by simpa using hm
        rcases hm' with z | z | z | z
        · rw [z] at lt; exact Nat.not_lt.mpr (Nat.le_add_right _ 4) lt
        · rw [z] at lt; exact Nat.not_lt.mpr (Nat.le_add_right _ 3) lt
        · rw [z] at lt; exact Nat.lt_irrefl _ lt
        · rw [z] at lt; exact Nat.not_lt.mpr (Nat.le_add_right _ 1) lt) (hk b o e)
      obtain ⟨H', k1, k2, k3, k4, k5, k6, J⟩ := zip_laid (tk := tk) I1 hz rv rv2 hlen hkk (by rw [hsz]; exact Nat.le_add_right _ _) hS hl hG hacc
      exact ⟨.ref _, H', J, rfl, q1 H' _ as k1 k2 k3 k4 k5 k6⟩

/-! ### xs.count(x) of a list of texts -/
def eqkS (k : Str) (v : Value) : Bool := match v with
  | .str n _ => n == k
  | _ => false
theorem eqkS_at {A : Around} {s : Shared} {k : Str} {t : Tok} : ∀ {us : List Value} {ns : List Str}, Vals (ns.map V.str) us → ∀ y ∈ us, SeqAt.EqAt A s y (.str k t) (eqkS k y)
  | us, [], r => fun y hy => by cases r; cases hy
  | us, n :: ns, r => fun y hy => by
    cases r with
    | cons h r =>
      rcases List.mem_cons.mp hy with e | e
      · subst e
        obtain ⟨t', rfl⟩ := h
        exact eqAt_V (y := .str n) (x := .str k) ⟨_, rfl⟩ ⟨_, rfl⟩ rfl rfl
      · exact eqkS_at r y e
theorem eqkS_count {k : Str} : ∀ {us : List Value} {ns : List Str}, Vals (ns.map V.str) us → us.countP (eqkS k) = ns.count k
  | us, [], r => by cases r; rfl
  | us, n :: ns, r => by
    cases r with
    | cons h r =>
      obtain ⟨t', rfl⟩ := h
      have ih := eqkS_count (k := k) r
      rw [List.countP_cons, List.count_cons, ih] <;> rfl
def rCntS (K : PySem.W.Frag) : V → List V → Hp → VK → Prop := fun x xs H Q => ∃ (p : Addr) (ns : List Str) (k : Str), x = .ref p ∧ xs = [.str k] ∧ SqL K H p (ns.map V.str) ∧ Q (.int (ns.count k : Nat)) H
theorem mt_lcountS : MtR X "list.count" (rCntS X.K) := by
  intro pins s σ H x xs v us Q I rx rxs h
  obtain ⟨p, ns, k, rfl, rfl, hs, q⟩ := h
  cases rx
  obtain ⟨u, rfl, ru⟩ := rxs.one
  obtain ⟨t, rfl⟩ := ru
  obtain ⟨its, rv, ⟨⟨cls, dd, data, sl⟩, n, ho, hc, hdn, hd⟩, hlen⟩ := I.list hs
  simp only at hc hd
  subst hc hd
  refine call_meets PySem.F.slot_list_count ⟨_, ho, rfl⟩ PySem.F.entry_list_count (PySem.F.args_list_count_2 _ _)
    (SeqAt.list_countAt p its.toArray n dd sl (.str k t) (eqkS k)) ⟨ho, fun y hy => eqkS_at rv y (by simpa using hy), ?_⟩
  have ec : its.toArray.toList.countP (eqkS k) = ns.count k := eqkS_count rv
  refine ⟨.int (ns.count k : Nat), H, I.tok _, ⟨s.toks, ?_⟩, q⟩
  show Value.int ((its.toArray.toList.countP (eqkS k) : Nat) : Int) s.toks = Value.int ((ns.count k : Nat) : Int) s.toks
  rw [ec]

/-! ### min(xs) of a list of texts -/
def minF (a : Str) (l : List Str) : Str := l.foldl (fun a y => if PySem.W.dataLt (.str y) (.str a) then y else a) a
def minS : List Str → Str
  | [] => ""
  | a :: r => minF a r
theorem minD_strs : ∀ (l : List Str) (a : Str), PySem.W.minD (.str a) (l.map PyData.str) = .str (minF a l)
  | [], a => rfl
  | y :: r, a => by
    have ih := minD_strs r (if PySem.W.dataLt (.str y) (.str a) then y else a)
    unfold PySem.W.minD minF at ih ⊢
    rw [List.map_cons, List.foldl_cons, List.foldl_cons, ← ih]
    split <;> rfl
end
end Bw

namespace Bw
open PySem PySem.Spec L2 TL PyProof.Rows

theorem reads_strs {h : Heap} : ∀ {us : List Value} {ns : List Str}, Vals (ns.map V.str) us → ReadsAll h us (ns.map PyData.str) []
  | us, [], r => by cases r; exact .nil
  | us, n :: ns, r => by
    cases r with
    | cons h r =>
      obtain ⟨t', rfl⟩ := h
      exact ReadsAll.cons (as := []) (bs := []) (.str n t') (reads_strs r)
theorem depth_strs : ∀ ns : List Str, PyData.depthAll (ns.map PyData.str) = 0
  | [] => rfl
  | n :: ns => by
    show max (PyData.depth (.str n)) (PyData.depthAll (ns.map PyData.str)) = 0
    rw [depth_strs ns]
    rfl
def rMinS (K : PySem.W.Frag) : List V → Hp → VK → Prop := fun vs H Q => ∃ (a : Addr) (ns : List Str), vs = [V.ref a] ∧ SqL K H a (ns.map V.str) ∧ ns ≠ [] ∧ Q (.str (minS ns)) H
section
variable {X : Cx} {m : Nat}
theorem cr_minS (hc : X.calm = true) (hr : Room m X.A) : CallR X (.builtin "min") (rMinS X.K) := by
  intro pins s σ H vs us Q I r h
  obtain ⟨a, ns, rfl, hs, hne, q⟩ := h
  obtain ⟨its, rv, hl, hz⟩ := I.list hs
  rw [Vals.ref1 r]
  cases ns with
  | nil => exact absurd rfl hne
  | cons n ns =>
    have hu := hr.units
    refine PySem.W.min_list_data (x := .str n) (xs := ns.map PyData.str) (as := []) (I.ok.hd hc) hl.isList (by simpa using reads_strs rv) ⟨fun x hx y hy => ?_, fun x hx => ?_⟩ ?_ fun i v h' tk bs hv rd hk => ?_
    · have e1 : ∃ z, x = .str z := by
        rcases List.mem_cons.mp hx with e | e
        · exact ⟨_, e⟩
        · obtain ⟨z, _, e⟩ := List.mem_map.mp e
          exact ⟨z, e.symm⟩
      have e2 : ∃ z, y = .str z := by
        rcases List.mem_cons.mp hy with e | e
        · exact ⟨_, e⟩
        · obtain ⟨z, _, e⟩ := List.mem_map.mp e
          exact ⟨z, e.symm⟩
      obtain ⟨z1, rfl⟩ := e1
      obtain ⟨z2, rfl⟩ := e2
      rfl
    · rcases List.mem_cons.mp hx with e | e
      · rw [e]
        exact fun z => nomatch z
      · obtain ⟨z, _, e⟩ := List.mem_map.mp e
        rw [← e]
        exact fun z => nomatch z
    · have e : PyData.depthAll (PyData.str n :: ns.map PyData.str) = 0 := depth_strs (n :: ns)
      rw [e]
      omega
    · rw [minD_strs] at rd
      cases rd
      exact ⟨.str (minF n ns), H, I.kept hk, ⟨_, rfl⟩, q⟩

/-! ### == and != by the class's own __eq__ -/
/-- what stands right of an instance of the class at C: of the class itself, or of a built-in class -/
def RightOf (K : PySem.W.Frag) (C : Addr) (H : Hp) (y : V) : Prop := (∃ b dx fs, y = .ref b ∧ H b = some (.ins C dx fs)) ∨ (∃ z, y = .str z) ∨ ∃ b xs, y = .ref b ∧ SqT K H b xs
def rEqOwn (K : PySem.W.Frag) (C : Addr) (sp : Sp) (E : XK) : R2 := fun x y H Q => ∃ a dx fs, x = .ref a ∧ H a = some (.ins C dx fs) ∧ RightOf K C H y ∧ sp [x, y] H (fun v H' => ∃ b, v = .bl b ∧ Q (.bl b) H') E
def rNeOwn (K : PySem.W.Frag) (C : Addr) (sp : Sp) (E : XK) : R2 := fun x y H Q => ∃ a dx fs, x = .ref a ∧ H a = some (.ins C dx fs) ∧ RightOf K C H y ∧ sp [x, y] H (fun v H' => ∃ b, v = .bl b ∧ Q (.bl (!b)) H') E
/-- what the top tells of the class's == -/
structure OwnEq (K : PySem.W.Frag) (C f : Addr) : Prop where
  eq : PySem.W.findIn K (.ref C) "__eq__" = some (some (.ref f))
  ne : PySem.W.findIn K (.ref C) "__ne__" = some (some (.builtin "object.__ne__"))
  obj : PySem.W.mroIn K C (.type "object") = some true
  fn : PySem.W.isFn K (.ref f) = true
  st : PySem.W.subIn K (.type "str") (.ref C) = some false
  tu : PySem.W.subIn K (.type "tuple") (.ref C) = some false
end
end Bw

namespace Bw
open PySem PySem.Spec L2 TL PyProof.Rows
section
variable {X : Cx} {m : Nat}
theorem right_type {pins : List (Addr × Obj)} {σ : L2.St} {H : Hp} {s : Shared} {C f : Addr} {y : V} {u : Value} (I : Inv X pins σ H s) (O : OwnEq X.K C f) (r : RightOf X.K C H y) (ry : RelV y u) :
    ∃ tb, PySem.W.Looks (model X.prog X.w) s.heap (typeOf u) tb ∧ PySem.W.notFirst X.K C tb = true := by
  rcases r with ⟨b, dx, fs, rfl, hb⟩ | ⟨z, rfl⟩ | ⟨b, xs, rfl, hb⟩
  · cases ry
    obtain ⟨_, J, _⟩ := ins_get I.hok hb
    obtain ⟨od, J, _⟩ := J.look
    exact ⟨_, J.type, by simp [PySem.W.notFirst]⟩
  · obtain ⟨t, rfl⟩ := ry
    refine ⟨.type "str", PySem.W.Looks.of_pure rfl, ?_⟩
    unfold PySem.W.notFirst
    rw [O.st]
    simp
  · cases ry
    obtain ⟨its, rv, ⟨o, ho, hc, _⟩, _⟩ := I.tuple hb
    refine ⟨.type "tuple", fun A Q E s' kp q => wpAny_typeOf_ref (kp _ _ ho) (by rw [hc]; exact q), ?_⟩
    unfold PySem.W.notFirst
    rw [O.tu]
    simp
theorem run_own {CX : CXT} {f : Addr} {fd : FuncData} {ps : List Str} {sp : Sp} {E : XK} {R : Bool → Hp → Prop} {A : Around} {pins : List (Addr × Obj)} {σ : L2.St} {H : Hp} {s : Shared} {a : Addr} {y : V} {u : Value} (F : FnOk X.prog X.w X.K X.mg X.base CX m f fd ps sp) (hb : Binds X.K fd ps []) (hx : Passes CX X E)
    (sb : Sub X m A) (I : Inv X pins σ H s) (ry : RelV y u) (h : sp [.ref a, y] H (fun v H' => ∃ b, v = .bl b ∧ R b H') E) :
    wpAny (model X.prog X.w) A (call (.ref f) [.ref a, u]) (fun v s' => ∃ b H', v = .bool b ∧ Inv X pins σ H' s' ∧ R b H') X.xe s := by
  have e0 : Env0 X.prog X.w X.K X.mg X.base A X.stack s H := by
    have e := I.env0
    exact ⟨by rw [sb.fr]; exact e.frames, e.mod, e.bs, e.bsz, e.funs, e.frf, e.hok, e.bare⟩
  have hl := F.len _ _ _ _ h
  have r2 : Vals [V.ref a, y] [Value.ref a, u] := .cons rfl (.cons ry .nil)
  refine wpAny_call (codeAny_mono (F.run A X.stack s H ⟨[.ref a, u], []⟩ [.ref a, u] [.ref a, y] _ E sb.room e0 (by
    have := hb s [.ref a, u] I.kIn (by simpa using hl)
    simpa using this) r2 h) fun r s' hq => ?_)
  cases r with
  | error e => exact hx pins σ H s e s' I hq
  | ok fl =>
    cases fl with
    | ret w =>
      obtain ⟨z, H', I', rz, b, ez, rb⟩ := I.after hq
      subst ez
      cases rz
      exact ⟨b, H', rfl, I', rb⟩
    | next => exact False.elim hq
    | brk => exact False.elim hq
    | cont => exact False.elim hq
theorem op_eqOwn {CX : CXT} {C f : Addr} {fd : FuncData} {ps : List Str} {sp : Sp} {E : XK} (O : OwnEq X.K C f) (F : FnOk X.prog X.w X.K X.mg X.base CX m f fd ps sp) (hb : Binds X.K fd ps []) (hr : Room m X.A) (hx : Passes CX X E) :
    OpR X (compareOp .Eq) (rEqOwn X.K C sp E) := by
  intro pins s σ H x y v u Q I rx ry h
  obtain ⟨a, dx, fs, rfl, ha, hri, hs⟩ := h
  cases rx
  obtain ⟨tb, hty, hnf⟩ := right_type I O hri ry
  obtain ⟨_, J, _⟩ := ins_get I.hok ha
  obtain ⟨od, J, _⟩ := J.look
  obtain ⟨mF, hF⟩ := I.fr
  show wpAny (model X.prog X.w) X.A (richCompare .Eq (.ref a) u) (EP X pins σ Q) X.xe s
  refine PySem.W.cmp_K (op := .Eq) hr.units0 hF I.ok.mod.kin J hty hnf O.eq O.fn ?_
  refine wpAny_mono (run_own F hb hx ⟨hr, rfl⟩ I ry hs) (fun v s' z => ?_) fun _ _ e => e
  obtain ⟨b, H', rfl, I', q⟩ := z
  exact ⟨.bl b, H', I', rfl, q⟩
theorem ifBound_objNe {M : Model} {A : Around} {E : Value → Shared → Prop} {s : Shared} {K : PySem.W.Frag} {x C : Addr} {ox : Obj} {od : Option Obj} {args : List Value} {Q : Option Value → Shared → Prop} (X : K.In s.heap) (I : PySem.W.InstAt s.heap x ox C od) (hs : PySem.W.findIn K (.ref C) "__ne__" = some (some (.builtin "object.__ne__")))
    (h : wpAny M A (call (.builtin "object.__ne__") (.ref x :: args)) (fun v => Q (some v)) E s) : wpAny M A (callSpecialIfBound? (.ref x) "__ne__" args) Q E s := by
  simp only [callSpecialIfBound?, bindSpecialIfBound?]
  refine wpAny_holding (wpAny_bind (wpAny_bind (wpAny_bind (I.type.here ((PySem.W.looks_findIn X hs).here ?_)))))
  refine wpAny_bind (wpAny_askSetting (wpAny_ite ?_))
  have fin : wpAny M A (call (.builtin "object.__ne__") ([.ref x] ++ args) >>= fun v => pure (some v)) Q E s := wpAny_bind (wpAny_mono h (fun v s' h' => wpAny_pure h') fun _ _ h' => h')
  split
  · exact wpAny_bind (wpAny_of_eq (PySem.F.cmp_object.ne.bind _) (wpAny_pure (by exact fin)))
  · exact wpAny_tryCatch (wpAny_bind (wpAny_of_eq (PySem.F.cmp_object.ne.bind _) (wpAny_pure (by exact fin))))
theorem op_neOwn {CX : CXT} {C f : Addr} {fd : FuncData} {ps : List Str} {sp : Sp} {E : XK} (O : OwnEq X.K C f) (F : FnOk X.prog X.w X.K X.mg X.base CX m f fd ps sp) (hb : Binds X.K fd ps []) (hr : Room (m + 1) X.A) (hx : Passes CX X E) :
    OpR X (compareOp .NotEq) (rNeOwn X.K C sp E) := by
  intro pins s σ H x y v u Q I rx ry h
  obtain ⟨a, dx, fs, rfl, ha, hri, hs⟩ := h
  cases rx
  obtain ⟨tb, hty, hnf⟩ := right_type I O hri ry
  obtain ⟨_, J, _⟩ := ins_get I.hok ha
  obtain ⟨od, J, _⟩ := J.look
  have XK := I.kIn
  have one : wpAny (model X.prog X.w) X.A (tryCompare (.ref a) "__ne__" u) (fun r s' => ∃ v, r = some v ∧ EP X pins σ Q v s') X.xe s := by
    unfold tryCompare
    refine wpAny_bind (ifBound_objNe XK J O.ne ?_)
    refine wpAny_call (codeAny_call_builtin PySem.F.cmp_object.ne.plain PySem.F.cmpEntry_ne (PySem.W.check_slot PySem.F.cmpKind_ne PySem.F.cmpSplit_ne (J.type.andThen (PySem.W.looks_mroIn XK O.obj)) (PySem.F.cmpArgs_ne _ _) ?_))
    show wpAny _ X.A.in1 (Builtin.«object.__ne__» ⟨[.ref a, u], []⟩) _ _ s
    unfold Builtin.«object.__ne__»
    refine wpAny_bind (wpAny_pure ?_)
    refine wpAny_bind (wpAny_cRoomFor hr.in1.units0 ?_)
    refine wpAny_bind (PySem.W.ifBound_K XK J O.eq O.fn ?_)
    refine wpAny_mono (run_own F hb hx ⟨hr.in1, rfl⟩ I ry hs) (fun v s' z => ?_) fun _ _ e => e
    obtain ⟨b, H', rfl, I', q⟩ := z
    show wpAny _ _ (truthy (.bool b) >>= fun z => ret (.bool (!z))) _ _ s'
    refine wpAny_bind (wpAny_truthy_bool ?_)
    exact wpAny_pure (wpAny_pure ⟨_, rfl, .bl (!b), H', I', rfl, q⟩)
  show wpAny (model X.prog X.w) X.A (richCompare .NotEq (.ref a) u) (EP X pins σ Q) X.xe s
  unfold richCompare
  simp only [oneThing_ref]
  refine wpAny_holding (wpAny_bind (wpAny_cRoomFor hr.units0 ?_))
  refine wpAny_bind (J.type.here (wpAny_bind (hty.here ?_)))
  split
  · rename_i q
    have e : PySem.W.subIn X.K tb (.ref C) = some false := by
      rcases Bool.or_eq_true_iff.mp hnf with e | e
      · rw [beq_iff_eq.mp e] at q; simp at q
      · exact beq_iff_eq.mp e
    refine wpAny_bind ((PySem.W.looks_subIn XK e).here ?_)
    simp only [Bool.false_eq_true, if_false]
    refine wpAny_bind (wpAny_mono one (fun r s' z => ?_) fun _ _ e => e)
    obtain ⟨v, rfl, hq⟩ := z
    exact wpAny_pure hq
  · refine wpAny_bind (wpAny_pure ?_)
    simp only [Bool.false_eq_true, if_false]
    refine wpAny_bind (wpAny_mono one (fun r s' z => ?_) fun _ _ e => e)
    obtain ⟨v, rfl, hq⟩ := z
    exact wpAny_pure hq
end
end Bw

namespace Bw
open PySem PySem.Spec L2 TL PyProof.Rows

/-! ### xs[lo::st] of a list -/
def stepG {α : Type} (xs : List α) (lo : Option Int) (st : Int) : List α :=
  (sliceRange (sliceBounds lo none (some st) xs.length).1 (sliceBounds lo none (some st) xs.length).2.1 (sliceBounds lo none (some st) xs.length).2.2).filterMap (xs[·]?)
theorem stepG_map {α β : Type} (f : α → β) (xs : List α) (lo : Option Int) (st : Int) : stepG (xs.map f) lo st = (stepG xs lo st).map f := by
  unfold stepG
  rw [List.length_map]
  generalize (sliceRange (sliceBounds lo none (some st) xs.length).1 (sliceBounds lo none (some st) xs.length).2.1 (sliceBounds lo none (some st) xs.length).2.2) = r
  induction r with
  | nil => rfl
  | cons i r ih =>
    rw [List.filterMap_cons, List.filterMap_cons, List.getElem?_map]
    cases xs[i]? with
    | none => exact ih
    | some y =>
      show f y :: List.filterMap _ r = f y :: _
      rw [ih]
theorem vals_pick {xs : List V} {us : List Value} (r : Vals xs us) : ∀ ix : List Nat, Vals (ix.filterMap (xs[·]?)) (ix.filterMap (us[·]?))
  | [] => .nil
  | i :: ix => by
    rw [List.filterMap_cons, List.filterMap_cons]
    cases e : xs[i]? with
    | none =>
      have e2 : us[i]? = none := by
        rw [List.getElem?_eq_none_iff] at e ⊢
        rw [← r.length]
        exact e
      rw [e2]
      exact vals_pick r ix
    | some x =>
      obtain ⟨u, hu, ru⟩ := r.get e
      rw [hu]
      exact .cons ru (vals_pick r ix)
def tStep (K : PySem.W.Frag) (st : Int) (te : TE) (tl : TO) : TE := fun σ H Q => te σ H fun x H1 => tl σ H1 fun lo H2 => ∃ a xs, x = .ref a ∧ SqL K H2 a xs ∧ ∀ p, H2 p = none → Q (.ref p) (upd H2 p (.lst (stepG xs lo st)))
theorem pe_step {X : Cx} {e : Expr} {te : TE} {tl : TO} {lo : Option Expr} {st : Int} {k : Nat} {p1 p3 pos : Pos} (he : PE X e te) (hlo : PO X lo tl) (h0 : st ≠ 0) : PE X (.Subscript e (.Slice lo none (some (.Constant (.int st) k p1)) p3) pos) (tStep X.K st te tl) := by
  refine ⟨fun pins s σ H Q I h => ?_⟩
  refine Subscript_ (thn (he.run pins s σ H _ I h) fun v s1 ⟨x, H1, I1, r1, q1⟩ => ?_)
  have hst : PO X (some (.Constant (.int st) k p1)) (tPart (tC (.int st))) := po_some pe_int
  refine wpAny_Slice (thn (hlo.run pins s1 σ H1 _ I1 q1) fun vl s2 ⟨l, H2, I2, pl, q2⟩ => ?_)
  refine thn (po_none.run pins s2 σ H2 (fun o H3 => o = none ∧ H3 = H2) I2 ⟨rfl, rfl⟩) fun vu s3 ⟨u, H3, I3, pu, eu, e3⟩ => ?_
  subst eu e3
  refine thn (hst.run pins s3 σ H3 (fun o H4 => o = some st ∧ H4 = H3) I3 ⟨st, rfl, rfl, rfl⟩) fun vs s4 ⟨o, H4, I4, ps, eo, e4⟩ => ?_
  subst eo e4
  obtain ⟨a, xs, ex, hx, q⟩ := q2
  subst ex
  cases r1
  have I5 : Inv X pins σ H4 { s4 with heap := s4.heap.push { cls := .type "slice", data := .fields #[vl, vu, vs] } } := I4.kept (t' := s4.toks) fun b ob q => Heap.get?_push_of_some _ q
  obtain ⟨its, r, ht, hz⟩ := I5.list hx
  have hlen := r.length
  show wpAny (model X.prog X.w) X.A (subscriptTail e (.Slice lo none (some (.Constant (.int st) k p1)) p3) (.ref a) (.ref s4.heap.objs.size)) (EP X pins σ Q) X.xe { s4 with heap := s4.heap.push { cls := .type "slice", data := .fields #[vl, vu, vs] } }
  refine tail_any (ops := [.ref a, .ref s4.heap.objs.size]) ht.isList.typeIs (PySem.slot_list_getitem.lookup) ?_ (by with_unfolding_all rfl)
  refine wpAny_getItem_list_slice ht.isList (Heap.IsSliceOf.new _ vl vu vs) pl pu ps (by intro z; exact h0 (Option.some.inj z)) ?_ (by rw [List.size_toArray]; omega)
  have hpick : (slicePick its.toArray l none (some st)).toList = stepG its l st := by
    unfold slicePick stepG
    simp
  have hv : Vals (stepG xs l st) (slicePick its.toArray l none (some st)).toList := by
    rw [hpick]
    unfold stepG
    rw [hlen]
    exact vals_pick r _
  refine ⟨.ref _, _, I5.laid (t' := s4.toks) (o := .lst (stepG xs l st)) (fun b ob q => Heap.get?_push_of_some _ q) (Nat.le_refl _) ?_, rfl, q _ (I5.hok.fresh (Nat.le_refl _))⟩
  have hsz := slicePick_size_le its.toArray l none (some st)
  have e9 : its.toArray.size = its.length := by simp
  refine ⟨by rw [hv.length, Array.length_toList]; omega, _, 0, hv, ?_⟩
  rw [Array.toArray_toList]
  exact Heap.get?_push_size _ rfl

/-! ### for k in d, d a written dict -/
def ItkW (ks : List Str) : It := ⟨fun i _ => i < ks.length, fun i H x H' => H' = H ∧ ∃ k, ks[i]? = some k ∧ x = .str k, fun i _ => ks.length ≤ i⟩
/-- a written dict with the text keys ks -/
structure KKeys (K : PySem.W.Frag) (d : Addr) (ks : List Str) : Prop where
  ex : ∃ (es : Array DictEntry) (n : Nat), K.lookup d = some ⟨.type "dict", none, .dict es n, #[]⟩ ∧ es.size = ks.length ∧ ∀ (i : Nat) (k : Str), ks[i]? = some k → ∃ (en : DictEntry) (t : Tok), es[i]? = some en ∧ en.key = .str k t
  low : (d == sysModules) = false
theorem turn_keysW {P : Program} {w : World} {K : PySem.W.Frag} {tg : Expr} {ks : List Str} {d : Addr} {es : Array DictEntry} {n : Nat} (it : Addr) (hl : K.lookup d = some ⟨.type "dict", none, .dict es n, #[]⟩) (hsz : es.size = ks.length)
    (hk : ∀ (i : Nat) (k : Str), ks[i]? = some k → ∃ (en : DictEntry) (t : Tok), es[i]? = some en ∧ en.key = .str k t) : Turn P w K tg (ItkW ks) [it] it (fun i h => h.IsKeyIter it d i ks.length n) where
  mem := by simp
  obj := fun i h st b hb => by
    have e : b = it := by simpa using hb
    subst e
    obtain ⟨oi, e, c, dd⟩ := st
    exact ⟨oi, e, fun v z => by rw [dd] at z; cases z⟩
  keep := fun i h h' st k => st.at fun oi e => k it (by simp) oi e
  item := by
    intro X hP hw hK hc i pins s σ H E I hf st hg
    subst hP hw hK
    obtain ⟨f0, f1, f2, f3, f4, f5⟩ := hf it (by simp)
    have hi : i < ks.length := hg
    obtain ⟨en, t, hen, hkey⟩ := hk i ks[i] (List.getElem?_eq_getElem hi)
    refine next_key_item st (I.kIn d _ hl) rfl hsz hen fun h' st' sb => ?_
    have I1 : Inv X pins σ H { s with heap := h' } := I.turned (t' := s.toks) (fun b ob hb e => (sb.2 b hb).trans e) f0 f1 f3 f4 f5
    obtain ⟨oi, e, c, dd⟩ := id st'
    rw [hkey]
    exact ⟨_, rfl, go_of (s := { s with heap := h' }) e c dd (by decide) ⟨.str ks[i], H, I1, ⟨t, rfl⟩, ⟨rfl, _, List.getElem?_eq_getElem hi, rfl⟩, st', fun b hb => (hf b hb).1⟩⟩
  done := by
    intro X hP hw hK hc i pins s σ H E I hf st hg
    subst hP hw hK
    obtain ⟨f0, f1, f2, f3, f4, f5⟩ := hf it (by simp)
    exact next_key_end (I.ok.hd hc) st (I.kIn d _ hl) rfl hsz hg fun h' eb => ⟨rfl, I.turned (t' := s.toks) (fun b ob hb e => eb b ob hb e) f0 f1 f3 f4 f5⟩
  self := fun A i s Q E st h => wpAny_pyIter_keyiter st h
def iKeysW (K : PySem.W.Frag) (td : TE) : TI := fun σ H R => td σ H fun x H1 => ∃ d ks, x = .ref d ∧ KKeys K d ks ∧ R (ItkW ks) H1
theorem pi_keysW {X : Cx} {tg e : Expr} {td : TE} (he : PE X e td) : PI X tg e (iKeysW X.K td) := by
  refine ⟨fun pins s σ H R I h => ?_⟩
  refine thn (he.run pins s σ H _ I h) fun u s1 ⟨x, H1, I1, rx, d, ks, ex, kk, q⟩ => ?_
  subst ex
  obtain rfl : u = Value.ref d := rx
  obtain ⟨es, n, hl, hsz, hk⟩ := kk.ex
  refine iter_keys kk.low (I1.kIn d _ hl) ⟨rfl, rfl, rfl⟩ rfl (pi_one (tk := s1.toks) I1 _ (turn_keysW _ hl hsz hk) ⟨_, Heap.get?_push_size _ rfl, rfl, ?_⟩ q)
  rw [hsz] <;> rfl
theorem walk_keysW {ks : List Str} : Walk (ItkW ks) ks.length (fun _ => True) (fun i H x H' => H' = H ∧ ∃ k, ks[i]? = some k ∧ x = .str k) :=
  ⟨fun _ _ hi _ => hi, fun _ _ => Nat.le_refl _, fun _ _ _ _ _ _ y => y⟩
end Bw

namespace Bw
open PySem PySem.Spec L2 TL PyProof.Rows
/-! ### rules with their readings by name, for comprehensions -/
def rLenQ (K : PySem.W.Frag) : List V → Hp → VK → Prop := fun xs H Q => ∃ p ys, xs = [.ref p] ∧ (SqL K H p ys ∨ SqT K H p ys) ∧ Q (.int ys.length) H
def rLenR : List V → Hp → VK → Prop := fun xs H Q => ∃ a kvs, xs = [V.ref a] ∧ Rd H a (.dK kvs) ∧ Q (.int kvs.length) H
section
variable {X : Cx}
theorem call_lenQ : CallR X (.builtin "len") (rLenQ X.K) := call_len_seq
/-- len(d), d locked or not -/
theorem call_lenR : CallR X (.builtin "len") rLenR := by
  intro pins s σ H xs us Q I r h
  obtain ⟨a, kvs, rfl, ha, q⟩ := h
  obtain ⟨u, rfl, ru⟩ := vals1 r
  cases ru
  exact d_len I ha fun t s' I' => ⟨.int kvs.length, H, I', ⟨t, rfl⟩, q⟩
theorem pe_count {K : PySem.W.Frag} {o e : Expr} {apos cpos : Pos} {to te : TE} (hK : X.K = K) (ho : PE X o to) (he : PE X e te)
    (hbase : attributeBase o "count" X.env (eval o X.env) = eval o X.env := by rfl)
    (hfew : ((backTo cpos (starEach [e] X.env)).all (fun x => !x.1) && (backToKw cpos (keywordEach [] X.env)).all (fun x => x.1.isSome)
      && decide (([e] : List Expr).length + ([] : List Keyword).length + (if ([] : List Keyword).isEmpty then 0 else 1) < 30)) = true := by rfl)
    (hline : (apos.endLine == cpos.line) = true := by rfl) (hse : starEach [e] X.env = (false, eval e X.env) :: starEach [] X.env := by rfl) : PE X (.Call (.Attribute o "count" apos) [e] [] cpos) (tBM K "list" (rCntS K) to (tCons te tNil)) := by
  subst hK
  exact pe_bm PySem.F.plainAttrs_list PySem.F.slot_list_count PySem.F.type_list_count mt_lcountS ho (pa_cons he pa_nil hse) hbase hfew hline hse
end
end Bw
namespace Bw
open PySem PySem.Spec L2 TL PyProof.Rows
/-! ### a call of a local name that holds one of several defs -/
def tCallH (P : Program) (w : World) (K : PySem.W.Frag) (mg : Str → Option Value) (base : Heap) (k i : Nat) (t : TA) : TE := fun σ H Q => ∃ f sp, σ[i]? = some (some (.ref f)) ∧ Held P w K mg base k f sp ∧ t σ H fun vs H1 => sp vs H1 Q (fun _ _ _ => False)
theorem pe_callH {X : Cx} {k m i : Nat} {x : Str} {p pos : Pos} {e : Expr} {es : List Expr} {t : TA} (hr : Room m X.A) (hm : k ≤ m) (hN : X.N[i]? = some x) (hv : Vis X.env.scope x) (ha : PA X (e :: es) t)
    (hdb : (x == ("__debug__" : Str)) = false := by decide) (hcd : (x == ("__classdict__" : Str)) = false := by decide)
    (he : starEach (e :: es) X.env = (false, eval e X.env) :: starEach es X.env := by rfl) (hpl : (backTo pos (starEach es X.env)).any (·.1) = false := by rfl) : PE X (.Call (.Name x p) (e :: es) [] pos) (tCallH X.prog X.w X.K X.mg X.base k i t) := by
  refine ⟨fun pins s σ H Q I h => ?_⟩
  obtain ⟨f, sp, hs, A, ht⟩ := h
  obtain ⟨fd, ps, F, hk, hb⟩ := A.ex
  refine (pe_callL (i := i) (f := f) (sp := sp) (dvs := []) (E := fun _ _ _ => False) F (hr.mono hm) hN hv hk hb .nil (fun _ _ _ _ _ _ _ z => z.elim) ha hdb hcd he hpl).run pins s σ H Q I ⟨hs, ?_⟩
  have e0 : (fun (vs : List V) (H1 : Hp) => sp (vs ++ []) H1 Q (fun _ _ _ => False)) = fun vs H1 => sp vs H1 Q (fun _ _ _ => False) := by
    funext vs H1
    rw [List.append_nil]
  show t σ H (fun vs H1 => sp (vs ++ []) H1 Q (fun _ _ _ => False))
  rw [e0]
  exact ht
end Bw

namespace Bw
open PySem PySem.Spec L2 TL PyProof.Rows PySem.SeqAt
/-! ### xs == [], xs != [], whatever the items are -/
def rEqNil (K : PySem.W.Frag) : R2 := fun x y H Q => ∃ a b xs, x = .ref a ∧ y = .ref b ∧ SqL K H a xs ∧ SqL K H b [] ∧ Q (.bl xs.isEmpty) H
def rNeNil (K : PySem.W.Frag) : R2 := fun x y H Q => ∃ a b xs, x = .ref a ∧ y = .ref b ∧ SqL K H a xs ∧ SqL K H b [] ∧ Q (.bl (!xs.isEmpty)) H
theorem hsz2 {r : List V} {x : V} : ∀ its : List Value, (x :: r).length = its.length → (its.toArray.size != (([] : List Value).toArray).size) = true
  | [], h => by cases h
  | u :: us, _ => by simp
section
variable {X : Cx}
theorem op_eqNil (hu : X.A.units < cLine) : OpR X (compareOp .Eq) (rEqNil X.K) := by
  intro pins s σ H x y v u Q I rx ry h
  obtain ⟨a, b, xs, rfl, rfl, hx, hy, q⟩ := h
  cases rx
  cases ry
  obtain ⟨its, rv, ⟨⟨cls, dd, data, sl⟩, n, ho, hc, hdn, hd⟩, hlen⟩ := I.list hx
  obtain ⟨its2, rv2, ⟨⟨cls2, dd2, data2, sl2⟩, n2, ho2, hc2, hdn2, hd2⟩, hlen2⟩ := I.list hy
  simp only at hc hd hc2 hd2
  subst hc hd hc2 hd2
  cases rv2
  show wpAny (model X.prog X.w) X.A (richCompare .Eq (.ref a) (.ref b)) (EP X pins σ Q) X.xe s
  have hl := rv.length
  cases xs with
  | nil =>
    cases rv
    exact richCompare_meets_room (op := .Eq) ⟨_, ho, rfl⟩ ⟨_, ho2, rfl⟩ PySem.F.slot_list_eq PySem.F.entry_list_eq (PySem.F.args_list_eq_2 _ _) (list_eqAt a b _ _ n n2 dd dd2 sl sl2 rfl fun _ => true) ⟨ho, ho2, fun j h1 h2 => absurd h1 (by simp), (fun x => nomatch x), .bl true, H, I, rfl, q⟩ hu
  | cons x r =>
    exact richCompare_meets_room (op := .Eq) ⟨_, ho, rfl⟩ ⟨_, ho2, rfl⟩ PySem.F.slot_list_eq PySem.F.entry_list_eq (PySem.F.args_list_eq_2 _ _) (list_eq_lengthsAt a b _ _ n n2 dd dd2 sl sl2 (hsz2 _ hl)) ⟨ho, ho2, (fun x => nomatch x), .bl false, H, I, rfl, q⟩ hu
theorem op_neNil (hu : X.A.units < cLine) : OpR X (compareOp .NotEq) (rNeNil X.K) := by
  intro pins s σ H x y v u Q I rx ry h
  obtain ⟨a, b, xs, rfl, rfl, hx, hy, q⟩ := h
  cases rx
  cases ry
  obtain ⟨its, rv, ⟨⟨cls, dd, data, sl⟩, n, ho, hc, hdn, hd⟩, hlen⟩ := I.list hx
  obtain ⟨its2, rv2, ⟨⟨cls2, dd2, data2, sl2⟩, n2, ho2, hc2, hdn2, hd2⟩, hlen2⟩ := I.list hy
  simp only at hc hd hc2 hd2
  subst hc hd hc2 hd2
  cases rv2
  show wpAny (model X.prog X.w) X.A (richCompare .NotEq (.ref a) (.ref b)) (EP X pins σ Q) X.xe s
  have hl := rv.length
  cases xs with
  | nil =>
    cases rv
    exact richCompare_meets_room (op := .NotEq) ⟨_, ho, rfl⟩ ⟨_, ho2, rfl⟩ PySem.F.slot_list_ne PySem.F.entry_list_ne (PySem.F.args_list_ne_2 _ _) (list_neAt a b _ _ n n2 dd dd2 sl sl2 rfl fun _ => true) ⟨ho, ho2, fun j h1 h2 => absurd h1 (by simp), (fun x => nomatch x), .bl false, H, I, rfl, q⟩ hu
  | cons x r =>
    exact richCompare_meets_room (op := .NotEq) ⟨_, ho, rfl⟩ ⟨_, ho2, rfl⟩ PySem.F.slot_list_ne PySem.F.entry_list_ne (PySem.F.args_list_ne_2 _ _) (list_ne_lengthsAt a b _ _ n n2 dd dd2 sl sl2 (hsz2 _ hl)) ⟨ho, ho2, (fun x => nomatch x), .bl true, H, I, rfl, q⟩ hu
end
end Bw

namespace Bw
open PySem PySem.Spec L2 TL PyProof.Rows
/-! ### list comprehensions as a whole: what is made of the items that are kept -/
/-- of what stands at D, a list, the fact does not speak -/
def KeepR {α : Type} (R : Hp → α → V → Prop) : Prop := ∀ H H' D x v, (∃ l, H D = some (.lst l)) → (∀ b o, b ≠ D → H b = some o → H' b = some o) → R H x v → R H' x v
theorem keepR_val {α : Type} (g : α → V) : KeepR (fun _ x v => v = g x) := fun _ _ _ _ _ _ _ h => h
theorem paired_snoc {α β : Type} {G : α → β → Prop} : ∀ {l : List α} {m : List β} {a : α} {b : β}, Paired G l m → G a b → Paired G (l ++ [a]) (m ++ [b])
  | _, _, _, _, .nil, h => .cons h .nil
  | _, _, _, _, .cons r t, h => .cons r (paired_snoc t h)
theorem paired_val {α : Type} {g : α → V} : ∀ {l : List α} {m : List V}, Paired (fun x v => v = g x) l m → m = l.map g
  | _, _, .nil => rfl
  | _, _, .cons r t => by rw [r, paired_val t]; rfl
theorem filt_yes {α : Type} {l : List α} {i : Nat} {r : α} {q : α → Bool} (h : l[i]? = some r) (hq : q r = true) : (l.take (i + 1)).filter q = (l.take i).filter q ++ [r] := by
  rw [List.take_add_one, h, List.filter_append]
  show _ ++ List.filter q [r] = _
  rw [List.filter_cons_of_pos hq]
  rfl
theorem filt_no {α : Type} {l : List α} {i : Nat} {r : α} {q : α → Bool} (h : l[i]? = some r) (hq : q r = false) : (l.take (i + 1)).filter q = (l.take i).filter q := by
  rw [List.take_add_one, h, List.filter_append]
  show _ ++ List.filter q [r] = _
  rw [List.filter_cons_of_neg (by rw [hq]; exact Bool.false_ne_true), List.filter_nil, List.append_nil]
theorem lc_gen {α : Type} {J : It} {G : Hp → Prop} {xs : List α} {val : α → V} (w : Walk J (xs.map val).length G (YAt (xs.map val))) {tg : TG} {tt : TT} {te : TE} {vs : List Nat} {σ : L2.St} {H : Hp} {D : Addr} {Qd : Hp → Prop}
    (g : α → Bool) (R : Hp → α → V → Prop) (hR : KeepR R) (hD : H D = none) (hl : xs.length ≤ 1000) (hG : ∀ H', Same H H' → G H')
    (turn : ∀ x H2 (N : Hp → Prop) (Y : V → Hp → Prop), x ∈ xs → Same H H2 → (∃ l, H2 D = some (.lst l)) → (g x = false → ∀ H3, Same H2 H3 → N H3) → (g x = true → ∀ H3 v, Same H2 H3 → R H3 x v → Y v H3) →
      tg (val x) (wipe σ vs) H2 fun σ2 H3 => wipe σ2 vs = wipe σ vs ∧ tt σ2 H3 fun b H4 => if b = true then te σ2 H4 Y else N H4)
    (hd : ∀ H' ys, Same H H' → H' D = some (.lst ys) → Paired (R H') (xs.filter g) ys → Qd H') :
    ∃ W : Nat → Nat → Hp → Prop, (∃ m, W 0 m (upd H D (.lst []))) ∧ ∀ i m H, W i m H →
      (J.stop i H ∧ Qd H) ∨ (J.go i H ∧ ∃ Nx : Hp → Prop, (∀ H', Nx H' → ∃ m', m' < m ∧ W (i + 1) m' H') ∧ ∀ x H', J.yld i H x H' → tg x (wipe σ vs) H' fun σ2 H2 => wipe σ2 vs = wipe σ vs ∧ tt σ2 H2 fun b H3 =>
        if b = true then te σ2 H3 fun y H4 => ∃ acc, H4 D = some (.lst acc) ∧ acc.length < sizeLine ∧ Nx (upd H4 D (.lst (acc ++ [y]))) else Nx H3) := by
  refine lc_it w (fun i H' => Same H H' ∧ ∃ ys, H' D = some (.lst ys) ∧ Paired (R H') ((xs.take i).filter g) ys) ⟨fun b o e => by rw [upd_ne (ne_of_none e hD)]; exact e, [], upd_same, .nil⟩ (fun i H' _ h => hG H' h.1) ?_ ?_
  · rintro i v H1 H2 hi ⟨sm, ys, hy, hp⟩ ⟨rfl, hv⟩
    rw [List.getElem?_map] at hv
    cases e : xs[i]? with
    | none => rw [e] at hv; cases hv
    | some x =>
      rw [e] at hv
      have hv' : val x = v := Option.some.inj hv
      subst hv'
      have hil := (List.getElem?_eq_some_iff.mp e).1
      refine turn x _ _ _ (List.mem_of_getElem? e) sm ⟨_, hy⟩ (fun hg H3 sm3 => ?_) (fun hg H3 v sm3 hv => ?_)
      · refine ⟨fun b o z => sm3 b o (sm b o z), ys, sm3 _ _ hy, ?_⟩
        rw [filt_no e hg]
        exact Paired.mapP hp fun a b z => hR _ _ D a b ⟨_, hy⟩ (fun b o _ z => sm3 b o z) z
      · have hy3 := sm3 _ _ hy
        have keep : ∀ b o, b ≠ D → H3 b = some o → (upd H3 D (.lst (ys ++ [v]))) b = some o := fun b o n z => by rw [upd_ne n]; exact z
        refine ⟨ys, hy3, ?_, fun b o z => ?_, ys ++ [v], upd_same, ?_⟩
        · have := hp.length
          rw [← this]
          refine Nat.lt_of_le_of_lt (List.length_filter_le _ _) ?_
          rw [List.length_take]
          exact small1000 (by omega)
        · rw [upd_ne (ne_of_none z hD)]
          exact sm3 b o (sm b o z)
        · rw [filt_yes e hg]
          exact paired_snoc (Paired.mapP hp fun a b z => hR _ _ D a b ⟨_, hy3⟩ keep (hR _ _ D a b ⟨_, hy⟩ (fun b o _ z => sm3 b o z) z)) (hR _ _ D x v ⟨_, hy3⟩ keep hv)
  · rintro H1 ⟨sm, ys, hy, hp⟩
    rw [List.length_map, List.take_length] at hp
    exact hd H1 ys sm hy hp
end Bw

namespace Bw
open PySem PySem.Spec L2 TL PyProof.Rows
def top (i : Nat) : Stmt := PySem.Challenge.pw_bailiwick_k06_types_and_their_first_faul.main.body.getD i (.Pass ⟨0, 0, 0, 0⟩)
abbrev s_are_signs : Stmt := top 7
abbrev n_are_signs : List Str := ["value", "most"]
theorem sc_are_signs : FnScope n_are_signs ["value", "most"] (defScope s_are_signs) := ⟨rfl, rfl, rfl, by decide +kernel, rfl, by decide +kernel, by decide +kernel⟩
abbrev s_is_word : Stmt := top 8
abbrev n_is_word : List Str := ["value"]
theorem sc_is_word : FnScope n_is_word ["value"] (defScope s_is_word) := ⟨rfl, rfl, rfl, by decide +kernel, rfl, by decide +kernel, by decide +kernel⟩
abbrev s_need_word : Stmt := top 9
abbrev n_need_word : List Str := ["value"]
theorem sc_need_word : FnScope n_need_word ["value"] (defScope s_need_word) := ⟨rfl, rfl, rfl, by decide +kernel, rfl, by decide +kernel, by decide +kernel⟩
abbrev s_Type___init__ : Stmt := inClass (top 15) 0
abbrev n_Type___init__ : List Str := ["self", "name", "kind", "above", "single"]
theorem sc_Type___init__ : FnScope n_Type___init__ ["self", "name", "kind", "above", "single"] (defScope s_Type___init__) := ⟨rfl, rfl, rfl, by decide +kernel, rfl, by decide +kernel, by decide +kernel⟩
abbrev s_Type_name : Stmt := inClass (top 15) 1
abbrev n_Type_name : List Str := ["self"]
theorem sc_Type_name : FnScope n_Type_name ["self"] (defScope s_Type_name) := ⟨rfl, rfl, rfl, by decide +kernel, rfl, by decide +kernel, by decide +kernel⟩
abbrev s_Type_kind : Stmt := inClass (top 15) 2
abbrev n_Type_kind : List Str := ["self"]
theorem sc_Type_kind : FnScope n_Type_kind ["self"] (defScope s_Type_kind) := ⟨rfl, rfl, rfl, by decide +kernel, rfl, by decide +kernel, by decide +kernel⟩
abbrev s_Type_above : Stmt := inClass (top 15) 3
abbrev n_Type_above : List Str := ["self"]
theorem sc_Type_above : FnScope n_Type_above ["self"] (defScope s_Type_above) := ⟨rfl, rfl, rfl, by decide +kernel, rfl, by decide +kernel, by decide +kernel⟩
abbrev s_Type_is_single : Stmt := inClass (top 15) 4
abbrev n_Type_is_single : List Str := ["self"]
theorem sc_Type_is_single : FnScope n_Type_is_single ["self"] (defScope s_Type_is_single) := ⟨rfl, rfl, rfl, by decide +kernel, rfl, by decide +kernel, by decide +kernel⟩
abbrev s_Type___eq__ : Stmt := inClass (top 15) 5
abbrev n_Type___eq__ : List Str := ["self", "other"]
theorem sc_Type___eq__ : FnScope n_Type___eq__ ["self", "other"] (defScope s_Type___eq__) := ⟨rfl, rfl, rfl, by decide +kernel, rfl, by decide +kernel, by decide +kernel⟩
abbrev s_house_types : Stmt := top 16
abbrev n_house_types : List Str := ["name", "kind", "single"]
theorem sc_house_types : FnScope n_house_types [] (defScope s_house_types) := ⟨rfl, rfl, rfl, by decide +kernel, rfl, by decide +kernel, by decide +kernel⟩
abbrev s_are_types : Stmt := top 17
abbrev n_are_types : List Str := ["value", "each"]
theorem sc_are_types : FnScope n_are_types ["value"] (defScope s_are_types) := ⟨rfl, rfl, rfl, by decide +kernel, rfl, by decide +kernel, by decide +kernel⟩
abbrev s_upward_types : Stmt := top 18
abbrev n_upward_types : List Str := ["aboves", "name", "way"]
theorem sc_upward_types : FnScope n_upward_types ["aboves", "name"] (defScope s_upward_types) := ⟨rfl, rfl, rfl, by decide +kernel, rfl, by decide +kernel, by decide +kernel⟩
abbrev s_aboves : Stmt := top 19
abbrev n_aboves : List Str := ["types", "each"]
theorem sc_aboves : FnScope n_aboves ["types"] (defScope s_aboves) := ⟨rfl, rfl, rfl, by decide +kernel, rfl, by decide +kernel, by decide +kernel⟩
abbrev s_twice : Stmt := top 20
abbrev n_twice : List Str := ["types", "names", "house", "each", "name", "kind", "single"]
theorem sc_twice : FnScope n_twice ["types"] (defScope s_twice) := ⟨rfl, rfl, rfl, by decide +kernel, rfl, by decide +kernel, by decide +kernel⟩
abbrev s_wrong_above : Stmt := top 21
abbrev n_wrong_above : List Str := ["types", "kinds", "each"]
theorem sc_wrong_above : FnScope n_wrong_above ["types"] (defScope s_wrong_above) := ⟨rfl, rfl, rfl, by decide +kernel, rfl, by decide +kernel, by decide +kernel⟩
abbrev s_in_ring : Stmt := top 22
abbrev n_in_ring : List Str := ["types", "aboves", "name"]
theorem sc_in_ring : FnScope n_in_ring ["types"] (defScope s_in_ring) := ⟨rfl, rfl, rfl, by decide +kernel, rfl, by decide +kernel, by decide +kernel⟩
abbrev s_too_high : Stmt := top 23
abbrev n_too_high : List Str := ["types", "aboves", "name"]
theorem sc_too_high : FnScope n_too_high ["types"] (defScope s_too_high) := ⟨rfl, rfl, rfl, by decide +kernel, rfl, by decide +kernel, by decide +kernel⟩
abbrev s_too_many : Stmt := top 24
abbrev n_too_many : List Str := ["types"]
theorem sc_too_many : FnScope n_too_many ["types"] (defScope s_too_many) := ⟨rfl, rfl, rfl, by decide +kernel, rfl, by decide +kernel, by decide +kernel⟩
abbrev s_type_fault : Stmt := top 26
abbrev n_type_fault : List Str := ["types", "code", "rule", "names"]
theorem sc_type_fault : FnScope n_type_fault ["types"] (defScope s_type_fault) := ⟨rfl, rfl, rfl, by decide +kernel, rfl, by decide +kernel, by decide +kernel⟩
abbrev s_law_dice : Stmt := top 28
abbrev n_law_dice : List Str := ["_law_script", "_law_at", "_law_cell", "_law_great", "_law_left", "_law_mixed_here"]
theorem sc_law_dice : FnScope n_law_dice ["_law_script", "_law_at"] (defScope s_law_dice) := ⟨rfl, rfl, rfl, by decide +kernel, rfl, by decide +kernel, by decide +kernel⟩
abbrev s_law_roll : Stmt := top 29
abbrev n_law_roll : List Str := ["_law_dice_here", "_law_total", "_law_size", "_law_drawn", "_law_one", "_law_two"]
theorem sc_law_roll : FnScope n_law_roll ["_law_dice_here", "_law_total"] (defScope s_law_roll) := ⟨rfl, rfl, rfl, by decide +kernel, rfl, by decide +kernel, by decide +kernel⟩
abbrev s_law_one_of : Stmt := top 30
abbrev n_law_one_of : List Str := ["_law_dice_here", "_law_items"]
theorem sc_law_one_of : FnScope n_law_one_of ["_law_dice_here", "_law_items"] (defScope s_law_one_of) := ⟨rfl, rfl, rfl, by decide +kernel, rfl, by decide +kernel, by decide +kernel⟩
abbrev s_law_mixed : Stmt := top 31
abbrev n_law_mixed : List Str := ["_law_dice_here", "_law_items", "_law_left", "_law_found"]
theorem sc_law_mixed : FnScope n_law_mixed ["_law_dice_here", "_law_items"] (defScope s_law_mixed) := ⟨rfl, rfl, rfl, by decide +kernel, rfl, by decide +kernel, by decide +kernel⟩
abbrev s_law_kinds : Stmt := top 32
abbrev n_law_kinds : List Str := ["_law_way", "_law_house_here", "_law_own", "_law_words"]
theorem sc_law_kinds : FnScope n_law_kinds ["_law_way"] (defScope s_law_kinds) := ⟨rfl, rfl, rfl, by decide +kernel, rfl, by decide +kernel, by decide +kernel⟩
abbrev s_law_reached : Stmt := top 33
abbrev n_law_reached : List Str := ["_law_rows", "_law_name", "_law_above", "_law_found", "_law_row"]
theorem sc_law_reached : FnScope n_law_reached ["_law_rows", "_law_name"] (defScope s_law_reached) := ⟨rfl, rfl, rfl, by decide +kernel, rfl, by decide +kernel, by decide +kernel⟩
abbrev s_law_house : Stmt := top 34
abbrev n_law_house : List Str := []
theorem sc_law_house : FnScope n_law_house [] (defScope s_law_house) := ⟨rfl, rfl, rfl, by decide +kernel, rfl, by decide +kernel, by decide +kernel⟩
abbrev s_law_types_fault : Stmt := top 35
abbrev n_law_types_fault : List Str := ["_law_rows", "_law_names", "_law_bad", "_law_kinds_here", "_law_row", "_law_name"]
theorem sc_law_types_fault : FnScope n_law_types_fault ["_law_rows"] (defScope s_law_types_fault) := ⟨rfl, rfl, rfl, by decide +kernel, rfl, by decide +kernel, by decide +kernel⟩
abbrev s_law_is_ring : Stmt := top 36
abbrev n_law_is_ring : List Str := ["_law_rows", "_law_name", "_law_above", "_law_here", "_law_step", "_law_row"]
theorem sc_law_is_ring : FnScope n_law_is_ring ["_law_rows", "_law_name"] (defScope s_law_is_ring) := ⟨rfl, rfl, rfl, by decide +kernel, rfl, by decide +kernel, by decide +kernel⟩
abbrev s_law_made_types : Stmt := top 37
abbrev n_law_made_types : List Str := ["_law_rows", "_law_row"]
theorem sc_law_made_types : FnScope n_law_made_types ["_law_rows"] (defScope s_law_made_types) := ⟨rfl, rfl, rfl, by decide +kernel, rfl, by decide +kernel, by decide +kernel⟩
abbrev s_law_some_rows : Stmt := top 38
abbrev n_law_some_rows : List Str := ["_law_dice_here", "_law_kind", "_law_rows", "_law_names", "_law_at", "_law_name", "_law_above", "_law_lot", "_law_is_single", "_law_odd"]
theorem sc_law_some_rows : FnScope n_law_some_rows ["_law_dice_here"] (defScope s_law_some_rows) := ⟨rfl, rfl, rfl, by decide +kernel, rfl, by decide +kernel, by decide +kernel⟩
abbrev s_law_keeps : Stmt := top 39
abbrev n_law_keeps : List Str := ["_law_row", "_law_name", "_law_kind", "_law_above", "_law_is_single", "_law_one", "_law_others", "_law_other"]
theorem sc_law_keeps : FnScope n_law_keeps ["_law_row"] (defScope s_law_keeps) := ⟨rfl, rfl, rfl, by decide +kernel, rfl, by decide +kernel, by decide +kernel⟩
abbrev s_law_right : Stmt := top 40
abbrev n_law_right : List Str := ["_law_dice_here", "_law_turn", "_law_rows", "_law_row"]
theorem sc_law_right : FnScope n_law_right ["_law_dice_here"] (defScope s_law_right) := ⟨rfl, rfl, rfl, by decide +kernel, rfl, by decide +kernel, by decide +kernel⟩
abbrev s_law : Stmt := top 41
abbrev n_law : List Str := ["_law_script", "_law_at", "_law_house_here", "_law_single", "_law_chain", "_law_many", "_law_told", "_law_one", "_law_name"]
theorem sc_law : FnScope n_law ["_law_script"] (defScope s_law) := ⟨rfl, rfl, rfl, by decide +kernel, rfl, by decide +kernel, by decide +kernel⟩
/-! ### a def of the program, known by its name -/
structure Dfn (P : Program) (w : World) (K : PySem.W.Frag) (mg : Str → Option Value) (base : Heap) (x : Str) (k : Nat) (ps : List Str) (sp : Sp) : Prop where
  ex : ∃ (f : Addr) (fd : FuncData), FnOk P w K mg base CX0 k f fd ps sp ∧ mg x = some (.ref f) ∧ PySem.W.keepIn K (.ref f) = true ∧ Binds K fd ps []
section
variable {X : Cx} {x : Str} {k m : Nat} {ps : List Str} {sp : Sp} {e : Expr} {es : List Expr} {t : TA} {p pos : Pos}
theorem pe_d (D : Dfn X.prog X.w X.K X.mg X.base x k ps sp) (hr : Room m X.A) (hm : k ≤ m) (ha : PA X (e :: es) t) (hg : Gl X x := by rfl)
    (hdb : (x == ("__debug__" : Str)) = false := by decide)
    (he : starEach (e :: es) X.env = (false, eval e X.env) :: starEach es X.env := by rfl) (hpl : (backTo pos (starEach es X.env)).any (·.1) = false := by rfl) :
    PE X (.Call (.Name x p) (e :: es) [] pos) (tCall sp [] E0 t) := by
  obtain ⟨f, fd, F, mf, kp, b⟩ := D.ex
  exact pe_call F (hr.mono hm) hg mf kp b .nil pass0 ha hdb he hpl
theorem pe_d0 (D : Dfn X.prog X.w X.K X.mg X.base x k ps sp) (hr : Room m X.A) (hm : k ≤ m) (hg : Gl X x := by rfl)
    (hdb : (x == ("__debug__" : Str)) = false := by decide) :
    PE X (.Call (.Name x p) [] [] pos) (tCall sp [] E0 tNil) := by
  obtain ⟨f, fd, F, mf, kp, b⟩ := D.ex
  exact pe_call0 F (hr.mono hm) hg mf kp b .nil pass0 hdb
end
/-! ### a class of the program -/
/-- what the top tells of the class Type -/
structure TyC (K : PySem.W.Frag) (mg : Str → Option Value) (aC : Addr) : Prop where
  cl : Cls K aC
  nN : NoAttr K aC "_name"
  nK : NoAttr K aC "_kind"
  nA : NoAttr K aC "_above"
  nS : NoAttr K aC "_single"
  mgC : mg "Type" = some (.ref aC)
  ha : PySem.W.findIn K (.ref aC) "__class__" = some (some (.builtin "object.__class__"))
  hn : PySem.W.specialIn K (.builtin "object.__class__") "__get__" = some (some (.builtin "getset_descriptor.__get__"))
  htk : PySem.W.takesIn K (.builtin "object.__class__") = some true
  hm : PySem.W.mroIn K aC (.type "object") = some true
  is1 : PySem.W.kitOne K (.ref aC) (.ref aC) = some true
  is2 : PySem.W.kitOne K (.type "str") (.ref aC) = some false
  is3 : PySem.W.kitOne K (.type "tuple") (.ref aC) = some false
/-- a property of the class, read off the slot fld -/
structure Prp (P : Program) (w : World) (K : PySem.W.Frag) (mg : Str → Option Value) (base : Heap) (aC : Addr) (f fld : Str) : Prop where
  ex : ∃ (p g : Addr) (fd : FuncData), Cls K aC ∧ PropOf K aC f p g ∧ FnOk P w K mg base CX0 1 g fd ["self"] (getSp aC fld) ∧ Binds K fd ["self"] []
theorem pe_p {X : Cx} {aC : Addr} {f fld : Str} {m : Nat} {e : Expr} {ta : TE} {pos : Pos} (D : Prp X.prog X.w X.K X.mg X.base aC f fld) (hr : Room m X.A) (hm : 2 ≤ m) (he : PE X e ta) (hab : attributeBase e f X.env (eval e X.env) = eval e X.env) :
    PE X (.Attribute e f pos) (tProp aC (getSp aC fld) [] E0 ta) := by
  obtain ⟨p, g, fd, cl, hp, F, b⟩ := D.ex
  exact pe_prop he cl hp F (hr.mono hm) b .nil pass0 hab
/-- the class made by calls -/
structure MkT (P : Program) (w : World) (K : PySem.W.Frag) (mg : Str → Option Value) (base : Heap) (aC : Addr) (k : Nat) (ps : List Str) (sp : Sp) : Prop where
  ex : ∃ (f : Addr) (fd : FuncData), Mk K aC f ∧ FnOk P w K mg base CX0 k f fd ps sp ∧ mg "Type" = some (.ref aC) ∧
    (∃ its : List Value, KBn K fd ps 4 ["single"] (fun us ws => us ++ ws) (fun vs zs => vs ++ zs)) ∧ ∃ its : List Value, KBn K fd ps 3 ["single"] (fun us ws => us ++ (its ++ ws)) (fun vs zs => vs ++ ([V.non] ++ zs))
section
variable {X : Cx} {aC : Addr} {k m : Nat} {ps : List Str} {sp : Sp} {e : Expr} {es : List Expr} {kws : List Keyword} {t tk : TA} {p pos : Pos}
theorem pe_mk3 (D : MkT X.prog X.w X.K X.mg X.base aC k ps sp) (hr : Room m X.A) (hm : k + 1 ≤ m) (ha : PA X (e :: es) t) (hkw : PK X kws tk) (hg : Gl X "Type" := by rfl)
    (hall : (backToKw pos (keywordEach kws X.env)).all (·.1.isSome) = true := by rfl) (hks : (backToKw pos (keywordEach kws X.env)).filterMap (·.1) = (["single"] : List Str) := by rfl)
    (he : starEach (e :: es) X.env = (false, eval e X.env) :: starEach es X.env := by rfl)
    (hpl : ((backTo pos (starEach (e :: es) X.env)).any (·.1) || (backToKw pos (keywordEach kws X.env)).any (·.1.isNone)) = false := by rfl) :
    PE X (.Call (.Name "Type" p) (e :: es) kws pos) (tMakeN aC 3 1 sp (fun vs zs => vs ++ zs) E0 t tk) := by
  obtain ⟨f, fd, M, F, mf, ⟨its, b⟩, _⟩ := D.ex
  exact pe_makeN M F (hr.mono hm) hg mf b pass0 ha hkw hall hks (by decide) he hpl
theorem pe_mk2 (D : MkT X.prog X.w X.K X.mg X.base aC k ps sp) (hr : Room m X.A) (hm : k + 1 ≤ m) (ha : PA X (e :: es) t) (hkw : PK X kws tk) (hg : Gl X "Type" := by rfl)
    (hall : (backToKw pos (keywordEach kws X.env)).all (·.1.isSome) = true := by rfl) (hks : (backToKw pos (keywordEach kws X.env)).filterMap (·.1) = (["single"] : List Str) := by rfl)
    (he : starEach (e :: es) X.env = (false, eval e X.env) :: starEach es X.env := by rfl)
    (hpl : ((backTo pos (starEach (e :: es) X.env)).any (·.1) || (backToKw pos (keywordEach kws X.env)).any (·.1.isNone)) = false := by rfl) :
    PE X (.Call (.Name "Type" p) (e :: es) kws pos) (tMakeN aC 2 1 sp (fun vs zs => vs ++ ([V.non] ++ zs)) E0 t tk) := by
  obtain ⟨f, fd, M, F, mf, _, its, b⟩ := D.ex
  exact pe_makeN M F (hr.mono hm) hg mf b pass0 ha hkw hall hks (by decide) he hpl
end
/-- == of the class -/
structure EqT (P : Program) (w : World) (K : PySem.W.Frag) (mg : Str → Option Value) (base : Heap) (aC : Addr) (k : Nat) (ps : List Str) (sp : Sp) : Prop where
  ex : ∃ (f : Addr) (fd : FuncData), OwnEq K aC f ∧ FnOk P w K mg base CX0 k f fd ps sp ∧ Binds K fd ps []
theorem op_eqT {X : Cx} {aC : Addr} {k m : Nat} {ps : List Str} {sp : Sp} (D : EqT X.prog X.w X.K X.mg X.base aC k ps sp) (hr : Room m X.A) (hm : k ≤ m) : OpR X (compareOp .Eq) (rEqOwn X.K aC sp E0) := by
  obtain ⟨f, fd, O, F, b⟩ := D.ex
  exact op_eqOwn O F b (hr.mono hm) pass0
theorem op_neT {X : Cx} {aC : Addr} {k m : Nat} {ps : List Str} {sp : Sp} (D : EqT X.prog X.w X.K X.mg X.base aC k ps sp) (hr : Room m X.A) (hm : k + 1 ≤ m) : OpR X (compareOp .NotEq) (rNeOwn X.K aC sp E0) := by
  obtain ⟨f, fd, O, F, b⟩ := D.ex
  exact op_neOwn O F b (hr.mono hm) pass0
/-- what the top has left, apart from the defs and the class -/
structure Txt (K : PySem.W.Frag) (mg : Str → Option Value) (aK : Addr) : Prop where
  b_len : mg "len" = none
  b_int : mg "int" = none
  b_abs : mg "abs" = none
  b_max : mg "max" = none
  b_min : mg "min" = none
  b_range : mg "range" = none
  b_isinstance : mg "isinstance" = none
  b_tuple : mg "tuple" = none
  b_all : mg "all" = none
  b_str : mg "str" = none
  b_repr : mg "repr" = none
  b_list : mg "list" = none
  b_sorted : mg "sorted" = none
  b_dict : mg "dict" = none
  b_zip : mg "zip" = none
  b_enumerate : mg "enumerate" = none
  b_bool : mg "bool" = none
  g_KINDS : mg "KINDS" = some (.ref aK)
  s_KINDS : ∀ H : Hp, SqT K H aK [.str "exact", .str "flag", .str "link", .str "number", .str "text"]
  g_word : ∃ t, mg "MOST_WORD" = some (.int 12 t)
  g_types : ∃ t, mg "MAX_TYPES" = some (.int 20 t)
  g_high : ∃ t, mg "MAX_HIGH" = some (.int 4 t)
end Bw

namespace Bw
open PySem PySem.Spec L2 TL PyProof.Rows

/-! ### the judges of texts -/
/-- no text at all -/
def NotStr (K : PySem.W.Frag) (H : Hp) (v : V) : Prop := ∃ t, TyX K H v t ∧ PySem.W.kitOne K t (.type "str") = some false
def areSg (x : Str) (m : Int) : Bool := decide ((x.length : Int) ≤ m) && (Txt.isascii x && Txt.isprintable x)
theorem line_of {n : Nat} (h : n ≤ 1000000) : n ≤ sizeLine := Nat.le_trans h (by decide)

def spAre (K : PySem.W.Frag) : Sp := fun vs H Q _ => ∃ (v : V) (m : Int), vs = [v, .int m] ∧
  ((∃ x, v = .str x ∧ x.length ≤ sizeLine ∧ Q (.bl (areSg x m)) H) ∨ (NotStr K H v ∧ Q (.bl false) H))
section
variable {P : Program} {w : World} {K : PySem.W.Frag} {mg : Str → Option Value} {base : Heap} {f : Addr} {fd : FuncData} {aK : Addr}
theorem ok_are_signs (F : Fun K "are_signs" "are_signs" s_are_signs f fd) (T : Txt K mg aK) : FnOk P w K mg base CX0 1 f fd ["value", "most"] (spAre K) := by
  refine F.ok sc_are_signs (fun vs H Q E h => ?_) (fun cdv A outer s H vs Q E hr h => ?_)
  · obtain ⟨v, m, rfl, _⟩ := h
    rfl
  · obtain ⟨v, m, rfl, h⟩ := h
    refine ⟨_, (pss_one (ps_ret (pe_and (pe_callB (r := rIsi K) call_isi (by rfl) T.b_isinstance (by decide +kernel) (pa_cons (pv 0) (pa_cons (pe_bltn (v := .ty "str") (by rfl) T.b_str (by decide +kernel) rfl) pa_nil))) (pe_and (pe_cmpR op_le (pe_callB call_len_str (by rfl) T.b_len (by decide +kernel) (pa_cons (pv 0) pa_nil)) (pv 1) (nomark _)) (pe_and (pe_m0 PySem.F.slot_str_isascii PySem.F.type_str_isascii mt_isascii (pv 0)) (pe_one (pe_m0 PySem.F.slot_str_isprintable PySem.F.type_str_isprintable mt_isprintable (pv 0)))))))), ?_⟩
    rcases h with ⟨x, rfl, hl, q⟩ | ⟨⟨t, ty, kt⟩, q⟩
    · refine ⟨_, rfl, _, _, _, _, true, rfl, ClsV.ty "str", TyX.base (.str x), kit_ty (by decide +kernel), true, rfl, iteT ?_⟩
      refine ⟨_, rfl, _, rfl, hl, _, rfl, _, _, rfl, rfl, _, rfl, ?_⟩
      unfold areSg at q
      cases e : decide ((x.length : Int) ≤ m) with
      | false =>
        rw [e] at q
        exact iteF q
      | true =>
        rw [e] at q
        refine iteT ⟨_, rfl, ⟨_, rfl⟩, _, rfl, rfl, trivial, _, rfl, ?_⟩
        cases e2 : Txt.isascii x with
        | false =>
          rw [e2] at q
          exact iteF q
        | true =>
          rw [e2] at q
          exact iteT ⟨_, rfl, ⟨_, rfl⟩, _, rfl, rfl, trivial, q⟩
    · exact ⟨_, rfl, _, _, _, _, false, rfl, ClsV.ty "str", ty, kt, false, rfl, iteF q⟩
end
end Bw

namespace Bw
open PySem PySem.Spec L2 TL PyProof.Rows

/-! ### words -/
theorem same_new {H : Hp} {p : Addr} {o : HO} (h : H p = none) : Same H (upd H p o) := fun b u e => by
  rw [upd_ne (ne_of_none e h)]
  exact e
def lowC (c : Nat) : Bool := decide (97 ≤ c ∧ c ≤ 122)
def wdC (c : Nat) : Bool := lowC c || decide (48 ≤ c ∧ c ≤ 57)
def hdL : List Nat → Bool
  | [] => false
  | c :: _ => lowC c
def wdL (l : List Nat) : Bool := decide (l.length ≤ 12) && (l.all wdC && hdL l)
theorem alnum_sgn : ∀ c, c < 128 → Unicode.isAlnum c = decide ((48 ≤ c ∧ c ≤ 57) ∨ (65 ≤ c ∧ c ≤ 90) ∨ (97 ≤ c ∧ c ≤ 122)) := by decide +kernel
theorem alpha_sgn : ∀ c, c < 128 → Unicode.isAlpha c = decide ((65 ≤ c ∧ c ≤ 90) ∨ (97 ≤ c ∧ c ≤ 122)) := by decide +kernel
theorem wd_alnum {x : Str} (h : Sgn (tl x)) : (tl x).all wdC = true → tl x ≠ [] → Txt.isalnum x = true := by
  intro h1 h2
  unfold Txt.isalnum
  rw [← Array.all_toList, Bool.and_eq_true, decide_eq_true_eq, List.all_eq_true]
  refine ⟨by rw [len_tl]; exact List.length_pos_iff.mpr h2, fun c hc => ?_⟩
  have := List.all_eq_true.mp h1 c hc
  rw [alnum_sgn c (h.lt c hc)]
  unfold wdC lowC at this
  rw [Bool.or_eq_true, decide_eq_true_eq, decide_eq_true_eq] at this
  exact decide_eq_true (by omega)
theorem tl_eq_iff {x y : Str} : x = y ↔ tl x = tl y := ⟨fun h => by rw [h], ext_tl⟩
theorem wd_split {x : Str} (h : Sgn (tl x)) (h12 : x.length ≤ 12) : wdL (tl x) = (Txt.isalnum x && (decide (V.str x = V.str (Txt.lower x)) && hdL (tl x))) := by
  have e1 : decide ((tl x).length ≤ 12) = true := decide_eq_true (by rw [← len_tl]; exact h12)
  unfold wdL
  rw [e1, Bool.true_and]
  cases ha : hdL (tl x) with
  | false => simp
  | true =>
    have ne : tl x ≠ [] := fun z => by rw [z] at ha; cases ha
    rw [Bool.and_true, Bool.and_true, Bool.eq_iff_iff, Bool.and_eq_true, decide_eq_true_eq]
    constructor
    · intro w
      refine ⟨wd_alnum h w ne, ?_⟩
      have : x = Txt.lower x := by
        rw [tl_eq_iff, tl_lower h]
        refine (map_lo_id fun c hc => ?_).symm
        have := List.all_eq_true.mp w c hc
        unfold wdC lowC at this
        rw [Bool.or_eq_true, decide_eq_true_eq, decide_eq_true_eq] at this
        unfold lo1
        rw [if_neg (by omega)]
      exact congrArg V.str this
    · rintro ⟨h1, h2⟩
      have h3 : x = Txt.lower x := by injection h2
      rw [tl_eq_iff, tl_lower h] at h3
      rw [List.all_eq_true]
      intro c hc
      unfold Txt.isalnum at h1
      rw [← Array.all_toList, Bool.and_eq_true] at h1
      have h4 := List.all_eq_true.mp h1.2 c hc
      rw [alnum_sgn c (h.lt c hc)] at h4
      have h5 := of_decide_eq_true h4
      have h6 : ¬ (65 ≤ c ∧ c ≤ 90) := fun z => by
        rw [h3] at hc
        obtain ⟨d, hd, e⟩ := List.mem_map.mp hc
        unfold lo1 at e
        split at e <;> omega
      unfold wdC lowC
      rw [Bool.or_eq_true, decide_eq_true_eq, decide_eq_true_eq]
      omega
theorem at0 {x : Str} {c : Nat} {r : List Nat} (e : tl x = c :: r) : atI x.cps.toList 0 = some c := by
  have e' : x.cps.toList = c :: r := e
  rw [e']
  exact atI_nat (j := 0) rfl
def spIsWord : Sp := fun vs H Q _ => ∃ x : Str, vs = [.str x] ∧ Sgn (tl x) ∧ x.length ≤ 10000 ∧ Q (.bl (wdL (tl x))) H
section
variable {P : Program} {w : World} {K : PySem.W.Frag} {mg : Str → Option Value} {base : Heap} {f : Addr} {fd : FuncData} {aK : Addr}
theorem ok_is_word (F : Fun K "is_word" "is_word" s_is_word f fd) (T : Txt K mg aK) (D_are_signs : Dfn P w K mg base "are_signs" 1 ["value", "most"] (spAre K)) : FnOk P w K mg base CX0 2 f fd ["value"] spIsWord := by
  obtain ⟨t0, gW⟩ := T.g_word
  refine F.ok sc_is_word (fun vs H Q E h => ?_) (fun cdv A outer s H vs Q E hr h => ?_)
  · obtain ⟨x, rfl, _⟩ := h
    rfl
  · obtain ⟨x, rfl, hx, hl, q⟩ := h
    refine ⟨_, (pss_cons (ps_if (PW.pt (pw_or (pt_not (pt_val (pe_d D_are_signs hr (by decide) (pa_cons (pv 0) (pa_cons (pe_glob (v := .int 12) rfl gW ⟨_, rfl⟩) pa_nil))))) (pw_or1 (pt_not (pt_val (pe_m0 PySem.F.slot_str_isalnum PySem.F.type_str_isalnum mt_isalnum (pv 0))))))) (pss_one (ps_ret pe_bl)) pss_nil) (pss_one (ps_ret (pe_and (pe_cmpR op_eq (pv 0) (pe_lower (pv 0)) (nomark _)) (pe_one (pe_m0 PySem.F.slot_str_isalpha PySem.F.type_str_isalpha mt_isalpha (pe_ix ix_str (pv 0) pe_int (fun _ _ => rfl)))))))), ?_⟩
    refine ⟨_, rfl, _, _, rfl, .inl ⟨x, rfl, line_of (by omega), _, rfl, ?_⟩⟩
    have ea : areSg x 12 = decide (x.length ≤ 12) := by
      unfold areSg
      rw [(signs_iff x).mpr hx, Bool.and_true]
      congr 1
      exact propext (by omega)
    rw [ea]
    by_cases h12 : x.length ≤ 12
    · rw [decide_eq_true h12]
      refine iteF ⟨_, rfl, ⟨_, rfl⟩, _, rfl, rfl, trivial, _, rfl, ?_⟩
      rw [wd_split hx h12] at q
      cases e1 : Txt.isalnum x with
      | false =>
        rw [e1] at q
        exact iteT q
      | true =>
        rw [e1, Bool.true_and] at q
        refine iteF ⟨_, rfl, _, rfl, ⟨_, rfl⟩, _, rfl, rfl, by omega, rfl, _, rfl, ?_⟩
        cases e2 : decide (V.str x = V.str (Txt.lower x)) with
        | false =>
          rw [e2] at q
          exact iteF q
        | true =>
          rw [e2, Bool.true_and] at q
          cases e3 : tl x with
          | nil =>
            have : x.length = 0 := by rw [len_tl, e3]; rfl
            unfold Txt.isalnum at e1
            rw [this] at e1
            exact absurd e1 (by simp)
          | cons c r =>
            refine iteT ⟨_, rfl, _, _, c, rfl, rfl, line_of (by omega), at0 e3, ⟨_, rfl⟩, _, rfl, rfl, trivial, ?_⟩
            rw [e3] at q
            have cs := hx c (by rw [e3]; exact List.mem_cons_self ..)
            have hc : Txt.isalpha ⟨#[c]⟩ = lowC c := by
              unfold Txt.isalpha
              rw [← Array.all_toList]
              show (true && (Unicode.isAlpha c && true)) = _
              rw [alpha_sgn c (by omega), Bool.and_true, Bool.true_and]
              have h2 : x = Txt.lower x := by
                have := of_decide_eq_true e2
                injection this
              rw [tl_eq_iff, tl_lower hx, e3, List.map_cons] at h2
              have h3 : c = lo1 c := by injection h2
              unfold lo1 at h3
              unfold lowC
              congr 1
              split at h3 <;> exact propext (by omega)
            rw [hc]
            exact q
    · rw [decide_eq_false h12]
      have : wdL (tl x) = false := by
        unfold wdL
        rw [decide_eq_false (by rw [← len_tl]; exact h12)]
        rfl
      rw [this] at q
      exact iteT (iteT q)
/-- words alone are let through -/
def spNeedWord : Sp := fun vs H Q _ => ∃ x : Str, vs = [.str x] ∧ Sgn (tl x) ∧ wdL (tl x) = true ∧ Q .non H
theorem wdL_len {x : Str} (h : wdL (tl x) = true) : x.length ≤ 12 := by
  unfold wdL at h
  rw [Bool.and_eq_true] at h
  rw [len_tl]
  exact of_decide_eq_true h.1
theorem ok_need_word (F : Fun K "need_word" "need_word" s_need_word f fd) (D_is_word : Dfn P w K mg base "is_word" 2 ["value"] spIsWord) : FnOk P w K mg base CX0 3 f fd ["value"] spNeedWord := by
  refine F.ok sc_need_word (fun vs H Q E h => ?_) (fun cdv A outer s H vs Q E hr h => ?_)
  · obtain ⟨x, rfl, _⟩ := h
    rfl
  · obtain ⟨x, rfl, hs, hw, q⟩ := h
    have := wdL_len hw
    refine ⟨_, (pss_one (ps_if (pt_not (pt_val (pe_d D_is_word hr (by decide) (pa_cons (pv 0) pa_nil)))) (pss_one ps_never) pss_nil)), ?_⟩
    refine ⟨_, rfl, x, rfl, hs, by omega, _, rfl, ?_⟩
    rw [hw]
    exact iteF q
end
end Bw

namespace Bw
open PySem PySem.Spec L2 TL PyProof.Rows

/-! ### rows of types, and their first fault -/
structure Ro where
  n : Str
  k : Str
  a : Option Str
  s : Bool
  deriving DecidableEq
def houseR : List Ro := [⟨"below", "flag", none, true⟩, ⟨"chosen", "exact", none, false⟩, ⟨"grants", "flag", none, true⟩, ⟨"ground", "link", none, true⟩, ⟨"label", "text", none, true⟩, ⟨"least", "number", none, true⟩, ⟨"may", "exact", none, false⟩, ⟨"member", "link", none, false⟩, ⟨"most", "number", none, true⟩, ⟨"of", "exact", none, false⟩, ⟨"rank", "number", none, true⟩, ⟨"to", "link", none, true⟩, ⟨"unshared", "exact", none, false⟩, ⟨"what", "exact", none, false⟩, ⟨"who", "exact", none, false⟩, ⟨"whom", "link", none, false⟩, ⟨"without", "link", none, false⟩]
def houseN : List Str := houseR.map (·.n)
def kindsL : List Str := ["exact", "flag", "link", "number", "text"]
/-- a row of which a type can be made -/
def OkW (x : Str) : Prop := Sgn (tl x) ∧ wdL (tl x) = true
def OkRo (r : Ro) : Prop := OkW r.n ∧ r.k ∈ kindsL ∧ ∀ y, r.a = some y → OkW y
def nmR (rs : List Ro) : List Str := rs.map (·.n)
def bad1 (rs : List Ro) : List Str := (nmR rs).filter fun n => decide (1 < (nmR rs).count n) || decide (n ∈ houseN)
def kdR (rs : List Ro) : List (Key × V) := mergeK [] (rs.map fun r => (Sum.inr r.n, V.str r.k))
def abR (rs : List Ro) : List (Key × V) := mergeK [] (rs.map fun r => (Sum.inr r.n, ov r.a))
def isBad2 (kd : List (Key × V)) (r : Ro) : Bool := match r.a with
  | none => false
  | some a => !decide ((valV kd (Sum.inr a)).getD .non = V.str r.k)
def bad2 (rs : List Ro) : List Str := (rs.filter (isBad2 (kdR rs))).map (·.n)
/-- the type directly above -/
def upF (ab : List (Key × V)) (x : Str) : Option Str := match valV ab (Sum.inr x) with
  | some (.str y) => some y
  | _ => none
def itF (f : Str → Option Str) : Nat → Str → Option Str
  | 0, x => some x
  | k + 1, x => (f x).bind (itF f k)
def upN (f : Str → Option Str) : Nat → Str → Nat
  | 0, _ => 0
  | k + 1, x => 1 + match f x with
    | none => 0
    | some y => upN f k y
def bad3 (rs : List Ro) : List Str := (nmR rs).filter fun n => (itF (upF (abR rs)) rs.length n).isSome
def bad4 (rs : List Ro) : List Str := (nmR rs).filter fun n => (itF (upF (abR rs)) 4 n).isSome
def faultR (rs : List Ro) : Option (Str × Str) :=
  if bad1 rs ≠ [] then some ("twice", minS (bad1 rs))
  else if bad2 rs ≠ [] then some ("above", minS (bad2 rs))
  else if bad3 rs ≠ [] then some ("ring", minS (bad3 rs))
  else if bad4 rs ≠ [] then some ("high", minS (bad4 rs))
  else if 20 < rs.length then some ("many", "")
  else none
theorem itF_succ (f : Str → Option Str) : ∀ (k : Nat) (x : Str), itF f (k + 1) x = (itF f k x).bind f
  | 0, x => by
    show (f x).bind (itF f 0) = f x
    cases f x <;> rfl
  | k + 1, x => by
    show (f x).bind (itF f (k + 1)) = ((f x).bind (itF f k)).bind f
    cases f x with
    | none => rfl
    | some y => exact itF_succ f k y
theorem itF_add (f : Str → Option Str) : ∀ (j k : Nat) (x : Str), itF f (j + k) x = (itF f j x).bind (itF f k)
  | 0, k, x => by
    rw [Nat.zero_add]
    rfl
  | j + 1, k, x => by
    rw [show j + 1 + k = (j + k) + 1 by omega]
    show (f x).bind (itF f (j + k)) = ((f x).bind (itF f j)).bind (itF f k)
    cases f x with
    | none => rfl
    | some y => exact itF_add f j k y
theorem itF_mono {f : Str → Option Str} {j k : Nat} {x : Str} (h : (itF f k x).isSome) (hjk : j ≤ k) : (itF f j x).isSome := by
  obtain ⟨d, rfl⟩ := Nat.exists_eq_add_of_le hjk
  rw [itF_add] at h
  cases e : itF f j x with
  | none => rw [e] at h; cases h
  | some y => rfl
theorem upN_lt (f : Str → Option Str) : ∀ (m j : Nat) (x : Str), j < upN f m x ↔ j < m ∧ (itF f j x).isSome
  | 0, j, x => by
    show j < 0 ↔ _
    constructor
    · intro h; omega
    · rintro ⟨h, _⟩; omega
  | m + 1, 0, x => by
    show 0 < 1 + _ ↔ 0 < m + 1 ∧ (some x).isSome
    constructor
    · intro _; exact ⟨by omega, rfl⟩
    · intro _; omega
  | m + 1, j + 1, x => by
    show j + 1 < 1 + _ ↔ j + 1 < m + 1 ∧ ((f x).bind (itF f j)).isSome
    cases e : f x with
    | none =>
      constructor
      · intro h; exact absurd h (by simp)
      · rintro ⟨_, h⟩; cases h
    | some y =>
      have ih := upN_lt f m j y
      show j + 1 < 1 + upN f m y ↔ j + 1 < m + 1 ∧ (itF f j y).isSome
      constructor
      · intro h
        obtain ⟨h1, h2⟩ := ih.mp (by omega)
        exact ⟨by omega, h2⟩
      · rintro ⟨h1, h2⟩
        have := ih.mpr ⟨by omega, h2⟩
        omega
theorem upN_le (f : Str → Option Str) (m : Nat) (x : Str) : upN f m x ≤ m := by
  rcases Nat.lt_or_ge m (upN f m x) with h | h
  · have := (upN_lt f m m x).mp h
    omega
  · exact h
/-! the way that is longer than there are names never ends -/
theorem nodup_len {α : Type} [DecidableEq α] : ∀ (xs l : List α), xs.Nodup → (∀ x ∈ xs, x ∈ l) → xs.length ≤ l.length
  | [], _, _, _ => Nat.zero_le _
  | x :: xs, l, hn, hs => by
    obtain ⟨h1, h2⟩ := List.nodup_cons.mp hn
    have hx := hs x (List.mem_cons_self ..)
    have ih := nodup_len xs (l.erase x) h2 fun y hy => (List.mem_erase_of_ne (fun e : y = x => h1 (by rw [← e]; exact hy))).mpr (hs y (List.mem_cons_of_mem _ hy))
    rw [List.length_erase_of_mem hx] at ih
    have := List.length_pos_of_mem hx
    rw [List.length_cons]
    omega
theorem pigeon {α : Type} [DecidableEq α] (l : List α) (g : Nat → α) (h : ∀ i, i ≤ l.length → g i ∈ l) : ∃ i j, i < j ∧ j ≤ l.length ∧ g i = g j := by
  refine Classical.byContradiction fun hno => ?_
  have hne : ∀ i j, i < j → j ≤ l.length → g i ≠ g j := fun i j h1 h2 e => hno ⟨i, j, h1, h2, e⟩
  have hnd : ((List.range (l.length + 1)).map g).Nodup := by
    unfold List.Nodup
    rw [List.pairwise_map]
    refine List.Pairwise.imp_of_mem (fun {a b} ha hb hab => ?_) List.pairwise_lt_range
    exact hne a b hab (by have := List.mem_range.mp hb; omega)
  have := nodup_len _ l hnd fun x hx => by
    obtain ⟨i, hi, rfl⟩ := List.mem_map.mp hx
    exact h i (by have := List.mem_range.mp hi; omega)
  rw [List.length_map, List.length_range] at this
  omega
theorem ring_more {f : Str → Option Str} {l : List Str} {x : Str} (hx : x ∈ l) (hf : ∀ y ∈ l, ∀ z, f y = some z → z ∈ l) (h : (itF f l.length x).isSome) : (itF f (l.length + 1) x).isSome := by
  have hin : ∀ i y, itF f i x = some y → y ∈ l := by
    intro i
    induction i with
    | zero =>
      intro y e
      have : x = y := Option.some.inj e
      rw [← this]
      exact hx
    | succ i ih =>
      intro y e
      rw [itF_succ] at e
      cases e2 : itF f i x with
      | none => rw [e2] at e; cases e
      | some z =>
        rw [e2] at e
        exact hf z (ih z e2) y e
  have hs : ∀ i, i ≤ l.length → ∃ y, itF f i x = some y := fun i hi => Option.isSome_iff_exists.mp (itF_mono h hi)
  obtain ⟨i, j, hij, hj, e⟩ := pigeon l (fun i => (itF f i x).getD "") fun i hi => by
    obtain ⟨y, e⟩ := hs i hi
    show (itF f i x).getD "" ∈ l
    rw [e]
    exact hin i y e
  obtain ⟨y, ey⟩ := hs i (by omega)
  obtain ⟨z, ez⟩ := hs j hj
  have e' : y = z := by
    have e3 : (itF f i x).getD "" = (itF f j x).getD "" := e
    rw [ey, ez] at e3
    exact e3
  subst e'
  have a1 : itF f (l.length + 1) x = itF f (l.length + 1 - j) y := by
    rw [show l.length + 1 = j + (l.length + 1 - j) by omega, itF_add, ez, show j + (l.length + 1 - j) - j = l.length + 1 - j by omega]
    rfl
  have a2 : itF f (l.length + 1 - j + i) x = itF f (l.length + 1 - j) y := by
    rw [Nat.add_comm, itF_add, ey]
    rfl
  rw [a1, ← a2]
  exact itF_mono h (by omega)
/-! dicts of rows without a name twice -/
theorem mem_putK_key {kvs : List (Key × V)} {k : Key} {v : V} : valV kvs k = none ↔ ∀ p ∈ kvs, p.1 ≠ k := by
  unfold valV
  rw [Option.map_eq_none_iff, List.find?_eq_none]
  constructor
  · intro h p hp e
    exact h p hp (decide_eq_true e)
  · intro h p hp e
    exact h p hp (of_decide_eq_true e)
theorem mergeK_nd : ∀ (more acc : List (Key × V)), ((acc ++ more).map (·.1)).Nodup → mergeK acc more = acc ++ more
  | [], acc, _ => by
    rw [List.append_nil]
    rfl
  | p :: r, acc, h => by
    show mergeK (putK acc p.1 p.2) r = acc ++ p :: r
    have h2 : ((acc ++ [p] ++ r).map (·.1)).Nodup := by rw [List.append_assoc]; exact h
    have h1 : valV acc p.1 = none := (mem_putK_key (v := .non)).mpr fun q hq e => by
      rw [List.map_append, List.nodup_append] at h
      exact h.2.2 q.1 (List.mem_map_of_mem hq) p.1 (List.mem_map_of_mem (List.mem_cons_self ..)) e
    rw [putK_new _ h1, mergeK_nd r _ h2, List.append_assoc]
    rfl
theorem valV_some {kvs : List (Key × V)} {k : Key} {v : V} (h : valV kvs k = some v) : (k, v) ∈ kvs := by
  unfold valV at h
  rw [Option.map_eq_some_iff] at h
  obtain ⟨p, h1, h2⟩ := h
  have := List.mem_of_find?_eq_some h1
  have e0 := List.find?_some (p := fun kv : Key × V => decide (kv.1 = k)) h1
  have e := of_decide_eq_true e0
  subst e
  subst h2
  exact this
theorem keys_mergeK : ∀ (more acc : List (Key × V)) (k : Key), (∃ v, valV (mergeK acc more) k = some v) ↔ (∃ v, valV acc k = some v) ∨ ∃ p ∈ more, p.1 = k
  | [], acc, k => by
    constructor
    · intro h; exact .inl h
    · rintro (h | ⟨p, hp, _⟩)
      · exact h
      · cases hp
  | p :: r, acc, k => by
    show (∃ v, valV (mergeK (putK acc p.1 p.2) r) k = some v) ↔ _
    rw [keys_mergeK r]
    rw [valV_put]
    constructor
    · rintro (h | ⟨q, hq, e⟩)
      · by_cases e : k = p.1
        · exact .inr ⟨p, List.mem_cons_self .., e.symm⟩
        · rw [if_neg e] at h
          exact .inl h
      · exact .inr ⟨q, List.mem_cons_of_mem _ hq, e⟩
    · rintro (h | ⟨q, hq, e⟩)
      · by_cases e : k = p.1
        · rw [if_pos e]
          exact .inl ⟨_, rfl⟩
        · rw [if_neg e]
          exact .inl h
      · rcases List.mem_cons.mp hq with z | z
        · subst z
          rw [if_pos e.symm]
          exact .inl ⟨_, rfl⟩
        · exact .inr ⟨q, z, e⟩
theorem nodup_of_bad1 {rs : List Ro} (h : bad1 rs = []) : (nmR rs).Nodup := by
  rw [List.nodup_iff_count]
  intro n
  rcases Nat.lt_or_ge 1 ((nmR rs).count n) with h1 | h1
  · have hm : n ∈ nmR rs := List.count_pos_iff.mp (by omega)
    have : n ∈ bad1 rs := List.mem_filter.mpr ⟨hm, by rw [decide_eq_true h1]; rfl⟩
    rw [h] at this
    cases this
  · exact h1
theorem nodup_key {rs : List Ro} (h : (nmR rs).Nodup) (g : Ro → V) : ((([] : List (Key × V)) ++ rs.map fun r : Ro => ((Sum.inr r.n : Key), g r)).map (·.1)).Nodup := by
  rw [List.nil_append, List.map_map]
  have e : ((fun x : Key × V => x.1) ∘ fun r : Ro => ((Sum.inr r.n : Key), g r)) = (fun n : Str => (Sum.inr n : Key)) ∘ fun r : Ro => r.n := rfl
  rw [e, ← List.map_map]
  unfold List.Nodup at h ⊢
  rw [List.pairwise_map]
  exact h.imp fun hne e => hne (by injection e)
theorem abR_eq {rs : List Ro} (h : bad1 rs = []) : abR rs = rs.map fun r => (Sum.inr r.n, ov r.a) := by
  unfold abR
  exact (mergeK_nd _ _ (nodup_key (nodup_of_bad1 h) fun r => ov r.a)).trans (List.nil_append _)
/-- where each type above is there, the way upward stays among the names -/
theorem above_in {rs : List Ro} (h : bad2 rs = []) {r : Ro} (hr : r ∈ rs) {a : Str} (e : r.a = some a) : a ∈ nmR rs := by
  have h2 : isBad2 (kdR rs) r = false := by
    cases e2 : isBad2 (kdR rs) r with
    | false => rfl
    | true =>
      have : r.n ∈ bad2 rs := List.mem_map_of_mem (List.mem_filter.mpr ⟨hr, e2⟩)
      rw [h] at this
      cases this
  unfold isBad2 at h2
  rw [e] at h2
  simp only [Bool.not_eq_false', decide_eq_true_eq] at h2
  have h3 : ∃ v, valV (kdR rs) (Sum.inr a) = some v := by
    cases e3 : valV (kdR rs) (Sum.inr a) with
    | none => rw [e3] at h2; cases h2
    | some v => exact ⟨v, rfl⟩
  unfold kdR at h3
  rw [keys_mergeK] at h3
  rcases h3 with ⟨v, z⟩ | ⟨p, hp, z⟩
  · cases z
  · obtain ⟨q, hq, rfl⟩ := List.mem_map.mp hp
    have : q.n = a := by injection z
    rw [← this]
    exact List.mem_map_of_mem hq
theorem upF_in {rs : List Ro} (h1 : bad1 rs = []) (h : bad2 rs = []) {y z : Str} (e : upF (abR rs) y = some z) : z ∈ nmR rs := by
  unfold upF at e
  cases e2 : valV (abR rs) (Sum.inr y) with
  | none => rw [e2] at e; cases e
  | some v =>
    rw [e2] at e
    have hm := valV_some e2
    rw [abR_eq h1] at hm
    obtain ⟨r, hr, er⟩ := List.mem_map.mp hm
    have ev : ov r.a = v := by injection er
    cases ea : r.a with
    | none =>
      rw [ea] at ev
      subst ev
      cases e
    | some a =>
      rw [ea] at ev
      subst ev
      have : a = z := Option.some.inj e
      rw [← this]
      exact above_in h hr ea
/-- the law's look at rings is the program's -/
theorem ring_iff {rs : List Ro} (h1 : bad1 rs = []) (h2 : bad2 rs = []) {x : Str} (hx : x ∈ nmR rs) : (itF (upF (abR rs)) (rs.length + 1) x).isSome = (itF (upF (abR rs)) rs.length x).isSome := by
  have el : (nmR rs).length = rs.length := List.length_map ..
  rw [Bool.eq_iff_iff]
  constructor
  · intro h
    exact itF_mono h (Nat.le_succ _)
  · intro h
    have := ring_more hx (fun y _ z e => upF_in h1 h2 e) (by rw [el]; exact h)
    rw [el] at this
    exact this
/-- the program's look at what is too high is the law's -/
theorem high_iff {rs : List Ro} (h3 : bad3 rs = []) {x : Str} (hx : x ∈ nmR rs) : decide (4 < upN (upF (abR rs)) (rs.length + 1) x) = (itF (upF (abR rs)) 4 x).isSome := by
  rw [Bool.eq_iff_iff, decide_eq_true_eq, upN_lt]
  constructor
  · exact fun h => h.2
  · intro h
    refine ⟨?_, h⟩
    rcases Nat.lt_or_ge 4 (rs.length + 1) with q | q
    · exact q
    · have : x ∈ bad3 rs := List.mem_filter.mpr ⟨hx, itF_mono h (by omega)⟩
      rw [h3] at this
      cases this
end Bw

namespace Bw
open PySem PySem.Spec L2 TL PyProof.Rows

/-! ### types as objects -/
theorem paired_at {α β : Type} {G : α → β → Prop} {l : List α} {m : List β} (h : Paired G l m) {i : Nat} {a : α} (e : l[i]? = some a) : ∃ b, m[i]? = some b ∧ G a b := L2.paired_get h e
def fldsT (r : Ro) : List (Str × V) := putF "_single" (.bl r.s) (putF "_above" (ov r.a) (putF "_kind" (.str r.k) (putF "_name" (.str r.n) [])))
theorem tk1 : ¬ (("_name" : Str) = "_kind") := by decide +kernel
theorem tk2 : ¬ (("_name" : Str) = "_above") := by decide +kernel
theorem tk3 : ¬ (("_name" : Str) = "_single") := by decide +kernel
theorem tk4 : ¬ (("_kind" : Str) = "_above") := by decide +kernel
theorem tk5 : ¬ (("_kind" : Str) = "_single") := by decide +kernel
theorem tk6 : ¬ (("_above" : Str) = "_single") := by decide +kernel
theorem fldsT_n (r : Ro) : (fldsT r).lookup ("_name" : Str) = some (.str r.n) := by
  unfold fldsT
  rw [lookup_putF, if_neg tk3, lookup_putF, if_neg tk2, lookup_putF, if_neg tk1, lookup_putF, if_pos rfl]
theorem fldsT_k (r : Ro) : (fldsT r).lookup ("_kind" : Str) = some (.str r.k) := by
  unfold fldsT
  rw [lookup_putF, if_neg tk5, lookup_putF, if_neg tk4, lookup_putF, if_pos rfl]
theorem fldsT_a (r : Ro) : (fldsT r).lookup ("_above" : Str) = some (ov r.a) := by
  unfold fldsT
  rw [lookup_putF, if_neg tk6, lookup_putF, if_pos rfl]
theorem fldsT_s (r : Ro) : (fldsT r).lookup ("_single" : Str) = some (.bl r.s) := by
  unfold fldsT
  rw [lookup_putF, if_pos rfl]
theorem putF_len (f : Str) (v : V) : ∀ fs : List (Str × V), (putF f v fs).length ≤ fs.length + 1
  | [] => Nat.le_refl _
  | p :: r => by
    have ih := putF_len f v r
    obtain ⟨a, b⟩ := p
    unfold putF
    split
    · exact Nat.le_succ _
    · rw [List.length_cons, List.length_cons]
      omega
theorem str_dec (a b : Str) : decide (V.str a = V.str b) = decide (a = b) := decide_eq_decide.mpr ⟨fun h => by injection h, fun h => by rw [h]⟩
theorem bl_dec (a b : Bool) : decide (V.bl a = V.bl b) = decide (a = b) := decide_eq_decide.mpr ⟨fun h => by injection h, fun h => by rw [h]⟩
theorem ov_dec (a b : Option Str) : decide (ov a = ov b) = decide (a = b) := decide_eq_decide.mpr ov_inj
theorem ov_scal (a b : Option Str) : scal (ov a) (ov b) = true := by cases a <;> cases b <;> rfl
theorem ro_dec (r r' : Ro) : decide (r = r') = (decide (r.n = r'.n) && (decide (r.k = r'.k) && (decide (r.a = r'.a) && decide (r.s = r'.s)))) := by
  obtain ⟨a, b, c, d⟩ := r
  obtain ⟨a', b', c', d'⟩ := r'
  rw [Bool.eq_iff_iff]
  simp
/-- a type of this row stands at p -/
def TypeAt (aC : Addr) (H : Hp) (p : Addr) (r : Ro) : Prop := ∃ dx, H p = some (.ins aC dx (fldsT r))
theorem TypeAt.up {aC : Addr} {H H' : Hp} {p : Addr} {r : Ro} (s : Same H H') (h : TypeAt aC H p r) : TypeAt aC H' p r := h.elim fun dx e => ⟨dx, s _ _ e⟩
/-- the row itself, a tuple -/
def RowAt (H : Hp) (t : Addr) (r : Ro) : Prop := H t = some (.tup [.str r.n, .str r.k, ov r.a, .bl r.s])
def RowsAt (H : Hp) (l : Addr) (rs : List Ro) : Prop := ∃ ts : List Addr, H l = some (.lst (ts.map V.ref)) ∧ Paired (RowAt H) ts rs
def TypesAt (aC : Addr) (H : Hp) (p : Addr) (rs : List Ro) : Prop := ∃ ts : List Addr, H p = some (.tup (ts.map V.ref)) ∧ Paired (TypeAt aC H) ts rs
theorem RowsAt.up {H H' : Hp} {l : Addr} {rs : List Ro} (s : Same H H') (h : RowsAt H l rs) : RowsAt H' l rs := by
  obtain ⟨ts, h1, h2⟩ := h
  exact ⟨ts, s _ _ h1, Paired.mapP h2 fun t r q => s _ _ q⟩
theorem TypesAt.up {aC : Addr} {H H' : Hp} {l : Addr} {rs : List Ro} (s : Same H H') (h : TypesAt aC H l rs) : TypesAt aC H' l rs := by
  obtain ⟨ts, h1, h2⟩ := h
  exact ⟨ts, s _ _ h1, Paired.mapP h2 fun t r q => TypeAt.up s q⟩
def spTInit (aC : Addr) : Sp := fun vs H Q _ => ∃ (p dx : Addr) (r : Ro), vs = [.ref p, .str r.n, .str r.k, ov r.a, .bl r.s] ∧ OkRo r ∧ H p = some (.ins aC dx []) ∧
  ∀ H', (∀ b o, b ≠ p → H b = some o → H' b = some o) → H' p = some (.ins aC dx (fldsT r)) → Q .non H'
def spTEq (K : PySem.W.Frag) (aC : Addr) : Sp := fun vs H Q _ => ∃ (p : Addr) (y : V) (r : Ro), vs = [.ref p, y] ∧ TypeAt aC H p r ∧
  ((∃ q r', y = .ref q ∧ TypeAt aC H q r' ∧ Q (.bl (decide (r = r'))) H) ∨ ((∃ z, y = .str z) ∧ Q (.bl false) H) ∨ ((∃ b xs, y = .ref b ∧ H b = some (.tup xs)) ∧ Q (.bl false) H))
theorem ov_bl {a : Option Str} : scal (ov a) .non = true := by cases a <;> rfl
theorem in_kinds {k : Str} (h : k ∈ kindsL) : inV (.str k) [.str "exact", .str "flag", .str "link", .str "number", .str "text"] = true := by
  have : ∀ z ∈ kindsL, inV (.str z) [.str "exact", .str "flag", .str "link", .str "number", .str "text"] = true := by decide +kernel
  exact this k h
section
variable {P : Program} {w : World} {K : PySem.W.Frag} {mg : Str → Option Value} {base : Heap} {f : Addr} {fd : FuncData} {aK aC : Addr}
theorem ok_Type_init (F : FunD K "__init__" "Type.__init__" (defArgs s_Type___init__) (defBody s_Type___init__) (defScope s_Type___init__) [.non] [] f fd) (T : Txt K mg aK) (TC : TyC K mg aC)
    (D_need_word : Dfn P w K mg base "need_word" 3 ["value"] spNeedWord) (D_is_word : Dfn P w K mg base "is_word" 2 ["value"] spIsWord) : FnOk P w K mg base CX0 4 f fd ["self", "name", "kind", "above", "single"] (spTInit aC) := by
  refine F.ok sc_Type___init__ (fun vs H Q E h => ?_) (fun cdv A outer s H vs Q E hr h => ?_)
  · obtain ⟨p, dx, r, rfl, _⟩ := h
    rfl
  · obtain ⟨p, dx, r, rfl, ⟨⟨n1, n2⟩, kk, aa⟩, hp, q⟩ := h
    have nl := wdL_len n2
    refine ⟨_, (pss_cons (ps_expr (pe_d D_need_word hr (by decide) (pa_cons (pv 1) pa_nil))) (pss_cons (ps_if (pt_cmpR (r := rIn K true) op_notIn_seq (pv 2) (pe_glob (v := .ref aK) rfl T.g_KINDS rfl) rfl) (pss_one ps_never) pss_nil) (pss_cons (ps_if (PW.pt (pw_and (pt_cmpR op_notN (pv 3) pe_non (nomark _)) (pw_and1 (pt_not (pt_val (pe_d D_is_word hr (by decide) (pa_cons (pv 3) pa_nil))))))) (pss_one ps_never) pss_nil) (pss_cons (ps_if (pt_not (pt_val (pe_callB (r := rIsi K) call_isi (by rfl) T.b_isinstance (by decide +kernel) (pa_cons (pv 4) (pa_cons (pe_bltn (v := .ty "bool") (by rfl) T.b_bool (by decide +kernel) rfl) pa_nil))))) (pss_one ps_never) pss_nil) (pss_cons (ps_fld (pv 0) (pv 1) rfl) (pss_cons (ps_fld (pv 0) (pv 2) rfl) (pss_cons (ps_fld (pv 0) (pv 3) rfl) (pss_one (ps_fld (pv 0) (pv 4) rfl))))))))), ?_⟩
    refine ⟨_, rfl, r.n, rfl, n1, n2, ?_⟩
    refine ⟨_, rfl, aK, _, rfl, .inr (T.s_KINDS _), rfl, rfl, _, rfl, ?_⟩
    rw [in_kinds kk]
    refine iteF ?_
    have rest : tSeq (tIfS (tNot (tB (tCB (rIsi K) (tCons (tVar 4) (tCons (tC (V.ty "bool")) tNil))))) tNever tNext)
        (tSeq (sFld K (tVar 0) (tVar 1) "_name") (tSeq (sFld K (tVar 0) (tVar 2) "_kind") (tSeq (sFld K (tVar 0) (tVar 3) "_above") (sFld K (tVar 0) (tVar 4) "_single"))))
        { nx := fun x H' => Q V.non H', rt := Q } (L2.start n_Type___init__ [V.ref p, V.str r.n, V.str r.k, ov r.a, V.bl r.s]) H := by
      refine ⟨_, rfl, _, _, _, _, true, rfl, ClsV.ty "bool", TyX.base (.bl r.s), kit_ty (by decide +kernel), true, rfl, iteF ?_⟩
      refine ⟨_, rfl, _, rfl, p, aC, dx, _, rfl, hp, TC.cl, TC.nN, (by show 0 < 1000; decide), ?_⟩
      refine ⟨_, rfl, _, rfl, p, aC, dx, _, rfl, upd_same, TC.cl, TC.nK, (by show 1 < 1000; decide), ?_⟩
      refine ⟨_, rfl, _, rfl, p, aC, dx, _, rfl, upd_same, TC.cl, TC.nA, (Nat.lt_of_le_of_lt (putF_len _ _ _) (by show 2 + 0 < 1000; decide)), ?_⟩
      refine ⟨_, rfl, _, rfl, p, aC, dx, _, rfl, upd_same, TC.cl, TC.nS, (Nat.lt_of_le_of_lt (Nat.le_trans (putF_len _ _ _) (Nat.succ_le_succ (putF_len _ _ _))) (by show 3 + 0 < 1000; decide)), ?_⟩
      refine q _ (fun b o hb e => ?_) upd_same
      rw [upd_ne hb, upd_ne hb, upd_ne hb, upd_ne hb]
      exact e
    refine ⟨_, rfl, rfl, _, rfl, ?_⟩
    cases ea : r.a with
    | none => 
      rw [ea] at rest
      exact iteF (iteF rest)
    | some y =>
      rw [ea] at rest
      obtain ⟨y1, y2⟩ := aa y ea
      have yl := wdL_len y2
      refine iteT ⟨_, rfl, y, rfl, y1, by omega, _, rfl, ?_⟩
      rw [y2]
      exact iteF rest
theorem ok_Type_eq (F : Fun K "__eq__" "Type.__eq__" s_Type___eq__ f fd) (T : Txt K mg aK) (TC : TyC K mg aC) : FnOk P w K mg base CX0 1 f fd ["self", "other"] (spTEq K aC) := by
  refine F.ok sc_Type___eq__ (fun vs H Q E h => ?_) (fun cdv A outer s H vs Q E hr h => ?_)
  · obtain ⟨p, y, r, rfl, _⟩ := h
    rfl
  · obtain ⟨p, y, r, rfl, ⟨dx, hp⟩, h⟩ := h
    refine ⟨_, (pss_one (ps_ret (pe_and (pe_callB (r := rIsi K) call_isi (by rfl) T.b_isinstance (by decide +kernel) (pa_cons (pv 1) (pa_cons (pe_glob (v := .ref aC) rfl TC.mgC rfl) pa_nil))) (pe_and (pe_cmpR op_eq (pe_fld (pv 0) rfl) (pe_fld (pv 1) rfl) (nomark _)) (pe_and (pe_cmpR op_eq (pe_fld (pv 0) rfl) (pe_fld (pv 1) rfl) (nomark _)) (pe_and (pe_cmpR op_eq (pe_fld (pv 0) rfl) (pe_fld (pv 1) rfl) (nomark _)) (pe_one (pe_cmpR op_eq (pe_fld (pv 0) rfl) (pe_fld (pv 1) rfl) (nomark _))))))))), ?_⟩
    rcases h with ⟨q, r', rfl, ⟨dy, hq⟩, h⟩ | ⟨⟨z, rfl⟩, h⟩ | ⟨⟨b, xs, rfl, hb⟩, h⟩
    · refine ⟨_, rfl, _, _, _, _, true, rfl, ClsV.own aC, TyX.base (.ins hq TC.cl TC.ha TC.hn TC.htk TC.hm), TC.is1, true, rfl, iteT ?_⟩
      refine ⟨_, rfl, p, aC, dx, _, _, rfl, hp, TC.cl, TC.nN, fldsT_n r, _, rfl, q, aC, dy, _, _, rfl, hq, TC.cl, TC.nN, fldsT_n r', rfl, _, rfl, ?_⟩
      rw [ro_dec] at h
      rw [str_dec]
      cases e1 : decide (r.n = r'.n) with
      | false =>
        rw [e1] at h
        exact iteF h
      | true =>
        rw [e1] at h
        refine iteT ?_
        refine ⟨_, rfl, p, aC, dx, _, _, rfl, hp, TC.cl, TC.nK, fldsT_k r, _, rfl, q, aC, dy, _, _, rfl, hq, TC.cl, TC.nK, fldsT_k r', rfl, _, rfl, ?_⟩
        rw [str_dec]
        cases e2 : decide (r.k = r'.k) with
        | false =>
          rw [e2] at h
          exact iteF h
        | true =>
          rw [e2] at h
          refine iteT ?_
          refine ⟨_, rfl, p, aC, dx, _, _, rfl, hp, TC.cl, TC.nA, fldsT_a r, _, rfl, q, aC, dy, _, _, rfl, hq, TC.cl, TC.nA, fldsT_a r', ov_scal _ _, _, rfl, ?_⟩
          rw [ov_dec]
          cases e3 : decide (r.a = r'.a) with
          | false =>
            rw [e3] at h
            exact iteF h
          | true =>
            rw [e3] at h
            refine iteT ?_
            refine ⟨_, rfl, p, aC, dx, _, _, rfl, hp, TC.cl, TC.nS, fldsT_s r, _, rfl, q, aC, dy, _, _, rfl, hq, TC.cl, TC.nS, fldsT_s r', rfl, ?_⟩
            rw [bl_dec]
            exact h
    · refine ⟨_, rfl, _, _, _, _, false, rfl, ClsV.own aC, TyX.base (.str z), TC.is2, false, rfl, iteF h⟩
    · refine ⟨_, rfl, _, _, _, _, false, rfl, ClsV.own aC, TyX.base (.tup hb), TC.is3, false, rfl, iteF h⟩
end
end Bw

namespace Bw
open PySem PySem.Spec L2 TL PyProof.Rows

/-! ### the faults of types, by the program -/
theorem same_lock {H H' : Hp} {d : Addr} {u fz : HO} (hd : H d = some u) (s : Same (upd H d fz) H') : Same H (upd H' d u) := fun b o e => by
  by_cases hb : b = d
  · subst hb
    rw [upd_same, ← hd, e]
  · rw [upd_ne hb]
    exact s b o (by rw [upd_ne hb]; exact e)
theorem same_lock2 {H : Hp} {d : Addr} {u fz : HO} (hd : H d = some u) : ∀ b o, b ≠ d → H b = some o → (upd H d fz) b = some o := fun b o hb e => by
  rw [upd_ne hb]
  exact e
def spAreTypes (aC : Addr) : Sp := fun vs H Q _ => ∃ (p : Addr) (rs : List Ro), vs = [.ref p] ∧ TypesAt aC H p rs ∧ rs.length ≤ 1000 ∧ ∀ H', Same H H' → Q (.bl true) H'
/-- each name above is a key, too -/
def ClosedK (kvs : List (Key × V)) : Prop := ∀ y v, valV kvs (Sum.inr y) = some v → v = .non ∨ ∃ z v', v = .str z ∧ valV kvs (Sum.inr z) = some v'
def spUpward : Sp := fun vs H Q _ => ∃ (d : Addr) (kvs : List (Key × V)) (x : Str) (v : V), vs = [.ref d, .str x] ∧ Rd H d (.dK kvs) ∧ ClosedK kvs ∧ valV kvs (Sum.inr x) = some v ∧ kvs.length ≤ 1000 ∧
  ∀ H' p l, Same H H' → H' p = some (.lst l) → l.length = upN (upF kvs) (kvs.length + 1) x → Q (.ref p) H'
def spAboves (aC : Addr) : Sp := fun vs H Q _ => ∃ (p : Addr) (rs : List Ro), vs = [.ref p] ∧ TypesAt aC H p rs ∧ rs.length ≤ 1000 ∧ ∀ H' d, Same H H' → H d = none → H' d = some (.dK (abR rs)) → Q (.ref d) H'
def badN (n : Nat) (rs : List Ro) : List Str := match n with
  | 0 => bad1 rs
  | 1 => bad2 rs
  | 2 => bad3 rs
  | 3 => bad4 rs
  | _ => if 20 < rs.length then [""] else []
def spRule (aC : Addr) (n : Nat) : Sp := fun vs H Q _ => ∃ (p : Addr) (rs : List Ro), vs = [.ref p] ∧ TypesAt aC H p rs ∧ rs.length ≤ 1000 ∧ (∀ m, m < n → badN m rs = []) ∧
  ∀ H' q, Same H H' → H' q = some (.lst ((badN n rs).map V.str)) → Q (.ref q) H'
section
variable {P : Program} {w : World} {K : PySem.W.Frag} {mg : Str → Option Value} {base : Heap} {f : Addr} {fd : FuncData} {aK aC aH aR : Addr}
theorem ok_are_types (F : Fun K "are_types" "are_types" s_are_types f fd) (T : Txt K mg aK) (TC : TyC K mg aC) : FnOk P w K mg base CX0 1 f fd ["value"] (spAreTypes aC) := by
  refine F.ok sc_are_types (fun vs H Q E h => ?_) (fun cdv A outer s H vs Q E hr h => ?_)
  · obtain ⟨p, rs, rfl, _⟩ := h
    rfl
  · obtain ⟨p, rs, rfl, ⟨ts, ha, hp⟩, hl, q⟩ := h
    have hts : ts.length = rs.length := hp.length
    refine ⟨_, (pss_one (ps_ret (pe_and (pe_callB (r := rIsi K) call_isi (by rfl) T.b_isinstance (by decide +kernel) (pa_cons (pv 0) (pa_cons (pe_bltn (v := .ty "tuple") (by rfl) T.b_tuple (by decide +kernel) rfl) pa_nil))) (pe_one (pe_callB (r := rAll K) (cr_all rfl) (by rfl) T.b_all (by decide +kernel) (pa_cons (pe_lc (own := [("each", 1)]) (g := gName 1) (by rfl) sc_are_types.nd (pi_tup (pv 0)) (blkOk_by (own := [("each", 1)]) (N := n_are_types) (sc := defScope s_are_types) (by decide +kernel)) (fun _ _ _ _ _ => pg_name (i := 1) sc_are_types.nd rfl (Or.inl rfl)) (fun _ _ _ _ _ => pts_nil) (fun _ _ _ _ _ => (pe_callB (r := rIsi K) call_isi (by rfl) T.b_isinstance (by decide +kernel) (pa_cons (pv 1) (pa_cons (pe_glob (v := .ref aC) rfl TC.mgC rfl) pa_nil))))) pa_nil)))))), ?_⟩
    refine ⟨_, rfl, _, _, _, _, true, rfl, ClsV.ty "tuple", TyX.base (.tup ha), kit_ty (by decide +kernel), true, rfl, iteT ?_⟩
    refine ⟨_, rfl, p, rfl, ⟨_, SqT.of ha⟩, fun D hD => lc_it (walk_tup (K := K) (a := p) (xs := ts.map V.ref)) (fun i H' => Same H H' ∧ H' D = some (.lst ((List.replicate i true).map V.bl))) ⟨same_new hD, upd_same⟩ (fun i H' _ h => SqT.of (h.1 _ _ ha)) ?_ ?_⟩
    · rintro i v H1 H2 hi ⟨sm, hH⟩ ⟨rfl, hv⟩
      rw [List.getElem?_map] at hv
      rw [List.length_map] at hi
      cases e : ts[i]? with
      | none => rw [e] at hv; cases hv
      | some t =>
        rw [e] at hv
        have hv' : V.ref t = v := Option.some.inj hv
        subst hv'
        obtain ⟨r, hri, dx, hrt⟩ := paired_at hp e
        refine ⟨rfl, ?_⟩
        unfold tYes
        refine iteT ⟨_, rfl, _, _, _, _, true, rfl, ClsV.own aC, TyX.base (.ins (sm _ _ hrt) TC.cl TC.ha TC.hn TC.htk TC.hm), TC.is1, _, hH, ?_, fun b o hb => ?_, ?_⟩
        · rw [List.length_map, List.length_replicate]
          exact small1000 (by omega)
        · rw [upd_ne (ne_of_none hb hD)]
          exact sm b o hb
        · rw [upd_same, List.replicate_succ', List.map_append]
          rfl
    · rintro H1 ⟨sm, hH⟩
      refine ⟨D, _, rfl, SqL.of hH, ?_⟩
      have : (List.replicate (ts.map V.ref).length true).all id = true := by simp
      rw [this]
      exact q _ sm
theorem ok_upward_types (F : Fun K "upward_types" "upward_types" s_upward_types f fd) (T : Txt K mg aK) : FnOk P w K mg base CX0 1 f fd ["aboves", "name"] spUpward := by
  refine F.ok sc_upward_types (fun vs H Q E h => ?_) (fun cdv A outer s H vs Q E hr h => ?_)
  · obtain ⟨d, kvs, x, v, rfl, _⟩ := h
    rfl
  · obtain ⟨d, kvs, x, v, rfl, hd, hc, hx, hl, q⟩ := h
    refine ⟨_, (pss_cons (ps_set (i := 2) sc_upward_types.nd rfl (Or.inl rfl) (pe_lst pa_nil)) (pss_cons (ps_while PassesOwn.never (PW.pt (pw_and (pt_cmpR op_notN (pv 1) pe_non (nomark _)) (pw_and1 (pt_cmpR op_le (pe_callB (r := rLenQ K) call_lenQ (by rfl) T.b_len (by decide +kernel) (pa_cons (pv 2) pa_nil)) (pe_callB call_lenR (by rfl) T.b_len (by decide +kernel) (pa_cons (pv 0) pa_nil)) (nomark _))))) (pss_cons (ps_expr (pe_bm PySem.F.plainAttrs_list PySem.F.slot_list_append PySem.F.type_list_append mt_append (pv 2) (pa_cons (pv 1) pa_nil))) (pss_one (ps_set (i := 1) sc_upward_types.nd rfl (Or.inl rfl) (pe_dget (hu_of hr) (pv 0) (pv 1) (fun _ _ => rfl)))))) (pss_one (ps_ret (pv 2))))), ?_⟩
    refine ⟨Nat.zero_le _, fun W hW => ?_⟩
    refine ⟨fun m σ H' => ∃ (c : Option Str) (l : List V), σ = [some (.ref d), some (ov c), some (.ref W)] ∧ Same H H' ∧ H' W = some (.lst l) ∧ l.length ≤ kvs.length + 1 ∧ m = kvs.length + 1 - l.length ∧
      ((c = none ∧ l.length = upN (upF kvs) (kvs.length + 1) x) ∨ ∃ y v', c = some y ∧ valV kvs (Sum.inr y) = some v' ∧ l.length + upN (upF kvs) (kvs.length + 1 - l.length) y = upN (upF kvs) (kvs.length + 1) x),
      ⟨_, some x, [], rfl, same_new hW, upd_same, Nat.zero_le _, rfl, .inr ⟨x, v, rfl, hx, by rw [List.length_nil, Nat.zero_add]; rfl⟩⟩, ?_⟩
    rintro m σ H' ⟨c, l, rfl, sm, hw, hll, rfl, hcase⟩
    have hd' : Rd H' d (.dK kvs) := hd.elim (fun e => .inl (sm _ _ e)) fun ⟨o, e⟩ => .inr ⟨o, sm _ _ e⟩
    refine ⟨_, rfl, rfl, _, rfl, ?_⟩
    rcases hcase with ⟨rfl, he⟩ | ⟨y, v', rfl, hy, he⟩
    · exact iteF (iteF ⟨_, rfl, q H' W l sm hw he⟩)
    · refine iteT ⟨_, rfl, W, _, rfl, .inl (SqL.of hw), _, rfl, d, kvs, rfl, hd', _, _, rfl, rfl, _, rfl, ?_⟩
      by_cases hlt : l.length ≤ kvs.length
      · rw [show decide ((l.length : Int) ≤ (kvs.length : Int)) = true from decide_eq_true (by omega)]
        refine iteT ⟨_, fun σ' H' h => h, ?_⟩
        have hne : W ≠ d := fun e => by
          rcases hd' with e2 | ⟨o, e2⟩ <;> (rw [← e, hw] at e2; cases e2)
        have ek : kvs.length + 1 - l.length = (kvs.length + 1 - (l.length + 1)) + 1 := by omega
        rw [ek] at he
        have he2 : l.length + (1 + match upF kvs y with | none => 0 | some z => upN (upF kvs) (kvs.length + 1 - (l.length + 1)) z) = upN (upF kvs) (kvs.length + 1) x := he
        have hu : Rd (upd H' W (.lst (l ++ [V.str y]))) d (.dK kvs) := by
          rcases hd' with e2 | ⟨o, e2⟩
          · exact .inl (by rw [upd_ne (Ne.symm hne)]; exact e2)
          · exact .inr ⟨o, by rw [upd_ne (Ne.symm hne)]; exact e2⟩
        have sm2 : Same H (upd H' W (.lst (l ++ [V.str y]))) := fun b o e => by
          rw [upd_ne (ne_of_none e hW)]
          exact sm b o e
        refine ⟨_, rfl, .inl ⟨rfl, _, .inl (.inl hw)⟩, _, rfl, W, _, _, rfl, rfl, hw, small1000 (by omega), ?_⟩
        refine ⟨_, rfl, _, rfl, d, v', rfl, .inl ⟨kvs, Sum.inr y, hu, rfl, hy.symm⟩, ?_⟩
        have hlen : (l ++ [V.str y]).length = l.length + 1 := by rw [List.length_append]; rfl
        refine ⟨kvs.length + 1 - (l.length + 1), by omega, ?_⟩
        rcases hc y v' hy with rfl | ⟨z, v2, rfl, hz⟩
        · refine ⟨none, l ++ [V.str y], rfl, sm2, upd_same, by omega, by rw [hlen], .inl ⟨rfl, ?_⟩⟩
          have eu : upF kvs y = none := by
            unfold upF
            rw [hy]
          rw [hlen, ← he2, eu]
          rfl
        · refine ⟨some z, l ++ [V.str y], rfl, sm2, upd_same, by omega, by rw [hlen], .inr ⟨z, v2, rfl, hz, ?_⟩⟩
          rw [hlen, ← he2]
          have eu : upF kvs y = some z := by
            unfold upF
            rw [hy]
          rw [eu]
          show l.length + 1 + upN (upF kvs) (kvs.length + 1 - (l.length + 1)) z = l.length + (1 + upN (upF kvs) (kvs.length + 1 - (l.length + 1)) z)
          omega
      · rw [show decide ((l.length : Int) ≤ (kvs.length : Int)) = false from decide_eq_false (by omega)]
        refine iteF ⟨_, rfl, q H' W l sm hw ?_⟩
        have e0 : kvs.length + 1 - l.length = 0 := by omega
        rw [e0] at he
        exact he
theorem ok_aboves (F : Fun K "_aboves" "_aboves" s_aboves f fd) (T : Txt K mg aK) (P_name : Prp P w K mg base aC "name" "_name") (P_above : Prp P w K mg base aC "above" "_above") : FnOk P w K mg base CX0 3 f fd ["types"] (spAboves aC) := by
  refine F.ok sc_aboves (fun vs H Q E h => ?_) (fun cdv A outer s H vs Q E hr h => ?_)
  · obtain ⟨p, rs, rfl, _⟩ := h
    rfl
  · obtain ⟨p, rs, rfl, ⟨ts, ha, hp⟩, hl, q⟩ := h
    have hts : ts.length = rs.length := hp.length
    refine ⟨_, (pss_one (ps_ret (pe_dc (own := [("each", 1)]) (g := gName 1) (by rfl) sc_aboves.nd (pi_tup (pv 0)) (blkOk_by (own := [("each", 1)]) (N := n_aboves) (sc := defScope s_aboves) (by decide +kernel)) (fun _ _ _ _ _ => pg_name (i := 1) sc_aboves.nd rfl (Or.inl rfl)) (fun _ _ _ _ _ => pts_nil) (fun _ _ _ _ _ => (pe_p P_name hr (by decide) (pv 1) rfl)) (fun _ _ _ _ _ => (pe_p P_above hr (by decide) (pv 1) rfl))))), ?_⟩
    refine ⟨_, rfl, p, rfl, ⟨_, SqT.of ha⟩, fun D hD => dc_tup (K := K) (a := p) (xs := ts.map V.ref) (fun i H' => Same H H' ∧ H' D = some (.dK (mergeK [] ((rs.take i).map fun r => (Sum.inr r.n, ov r.a))))) ⟨same_new hD, upd_same⟩ (fun i H' _ h => SqT.of (h.1 _ _ ha)) ?_ ?_⟩
    · rintro i v H1 hv ⟨sm, hH⟩
      rw [List.getElem?_map] at hv
      cases e : ts[i]? with
      | none => rw [e] at hv; cases hv
      | some t =>
        rw [e] at hv
        have hv' : V.ref t = v := Option.some.inj hv
        subst hv'
        obtain ⟨r, hri, dx, hrt⟩ := paired_at hp e
        have hrt' := sm _ _ hrt
        have hil : i < rs.length := (List.getElem?_eq_some_iff.mp hri).1
        have hlen := length_mergeK ((rs.take i).map fun r => ((Sum.inr r.n : Key), ov r.a)) []
        rw [List.length_nil, List.length_map, List.length_take] at hlen
        refine ⟨rfl, ?_⟩
        unfold tYes
        refine iteT ⟨_, rfl, t, dx, _, rfl, hrt', t, dx, _, _, rfl, hrt', fldsT_n r, ?_⟩
        refine ⟨_, rfl, t, dx, _, rfl, hrt', t, dx, _, _, rfl, hrt', fldsT_a r, ?_⟩
        refine ⟨_, Sum.inr r.n, rfl, hH, small1000 (by omega), fun b o hb => ?_, ?_⟩
        · rw [upd_ne (ne_of_none hb hD)]
          exact sm b o hb
        · rw [upd_same, List.take_add_one, hri]
          show _ = some (HO.dK (mergeK [] (List.map _ (rs.take i ++ [r]))))
          unfold mergeK
          rw [List.map_append, List.foldl_append]
          rfl
    · rintro H1 ⟨sm, hH⟩
      rw [List.length_map, hts, List.take_length] at hH
      exact q H1 D sm hD hH
end
end Bw

namespace Bw
open PySem PySem.Spec L2 TL PyProof.Rows

/-- the house's table -/
structure HouseT (K : PySem.W.Frag) (mg : Str → Option Value) (aH : Addr) : Prop where
  g : mg "HOUSE" = some (.ref aH)
  s : ∃ ts : List Addr, (∀ H : Hp, SqT K H aH (ts.map V.ref)) ∧ Paired (fun (t : Addr) (r : Ro) => ∀ H : Hp, SqT K H t [.str r.n, .str r.k, .bl r.s]) ts houseR
theorem map_at {α : Type} {ts : List Addr} {m : List α} {G : Addr → α → Prop} (hp : Paired G ts m) {i : Nat} {v : V} (hv : (ts.map V.ref)[i]? = some v) : ∃ t r, v = V.ref t ∧ ts[i]? = some t ∧ m[i]? = some r ∧ G t r := by
  rw [List.getElem?_map] at hv
  cases e : ts[i]? with
  | none => rw [e] at hv; cases hv
  | some t =>
    rw [e] at hv
    obtain ⟨r, h1, h2⟩ := paired_at hp e
    exact ⟨t, r, (Option.some.inj hv).symm, rfl, h1, h2⟩
theorem take_snoc {α β : Type} {l : List α} {i : Nat} {r : α} (g : α → β) (h : l[i]? = some r) : (l.take (i + 1)).map g = (l.take i).map g ++ [g r] := by
  rw [List.take_add_one, h, List.map_append]
  rfl
theorem take_len {α : Type} {l : List α} {i : Nat} {r : α} (h : l[i]? = some r) : (l.take i).length = i ∧ i < l.length := by
  have := (List.getElem?_eq_some_iff.mp h).1
  rw [List.length_take]
  omega
theorem inV_str (x : Str) (l : List Str) : inV (.str x) (l.map V.str) = decide (x ∈ l) := by
  unfold inV
  rw [List.any_map, Bool.eq_iff_iff, List.any_eq_true, decide_eq_true_eq]
  constructor
  · rintro ⟨y, hy, e⟩
    have e2 : (y == x) = true := e
    rw [← eq_of_beq e2]
    exact hy
  · intro h
    exact ⟨x, h, beq_self_eq_true x⟩
theorem flat_strs : ∀ l : List Str, (l.map V.str).all flatV = true
  | [] => rfl
  | _ :: r => by
    rw [List.map_cons, List.all_cons, flat_strs r]
    rfl
section
variable {P : Program} {w : World} {K : PySem.W.Frag} {mg : Str → Option Value} {base : Heap} {f : Addr} {fd : FuncData} {aK aC aH aR : Addr}
theorem ok_twice (F : Fun K "_twice" "_twice" s_twice f fd) (T : Txt K mg aK) (HT : HouseT K mg aH) (P_name : Prp P w K mg base aC "name" "_name") : FnOk P w K mg base CX0 3 f fd ["types"] (spRule aC 0) := by
  refine F.ok sc_twice (fun vs H Q E h => ?_) (fun cdv A outer s H vs Q E hr h => ?_)
  · obtain ⟨p, rs, rfl, _⟩ := h
    rfl
  · obtain ⟨p, rs, rfl, ⟨ts, ha, hp⟩, hl, _, q⟩ := h
    have hts : ts.length = rs.length := hp.length
    have gH := HT.g
    obtain ⟨hs, hsH, hsP⟩ := HT.s
    refine ⟨_, (pss_cons (ps_set (i := 1) sc_twice.nd rfl (Or.inr rfl) (pe_lc (own := [("each", 3)]) (g := gName 3) (by rfl) sc_twice.nd (pi_tup (pv 0)) (blkOk_by (own := [("each", 3)]) (N := n_twice) (sc := defScope s_twice) (by decide +kernel)) (fun _ _ _ _ _ => pg_name (i := 3) sc_twice.nd rfl (Or.inl rfl)) (fun _ _ _ _ _ => pts_nil) (fun _ _ _ _ _ => (pe_p P_name hr (by decide) (pv 3) rfl)))) (pss_cons (ps_set (i := 2) sc_twice.nd rfl (Or.inr rfl) (pe_lc (own := [("name", 4), ("kind", 5), ("single", 6)]) (g := gTup K 3 (gCons (gName 4) (gCons (gName 5) (gCons (gName 6) gNil)))) (by rfl) sc_twice.nd (pi_tup (pe_glob (v := .ref aH) rfl gH rfl)) (blkOk_by (own := [("name", 4), ("kind", 5), ("single", 6)]) (N := n_twice) (sc := defScope s_twice) (by decide +kernel)) (fun _ _ _ _ _ => pg_tup (by rfl) (pgs_cons (pg_name (i := 4) sc_twice.nd rfl (Or.inl rfl)) (pgs_cons (pg_name (i := 5) sc_twice.nd rfl (Or.inl rfl)) (pgs_cons (pg_name (i := 6) sc_twice.nd rfl (Or.inl rfl)) pgs_nil)))) (fun _ _ _ _ _ => pts_nil) (fun _ _ _ _ _ => (pv 4)))) (pss_one (ps_ret (pe_lc (own := [("name", 4)]) (g := gName 4) (by rfl) sc_twice.nd (pi_list (pv 1)) (blkOk_by (own := [("name", 4)]) (N := n_twice) (sc := defScope s_twice) (by decide +kernel)) (fun _ _ _ _ _ => pg_name (i := 4) sc_twice.nd rfl (Or.inl rfl)) (fun _ _ _ _ _ => (pts_one (PW.pt (pw_or (pt_cmpR op_gt (pe_count (K := K) rfl (pv 1) (pv 4)) pe_int (nomark _)) (pw_or1 (pt_cmpR (r := rIn K false) op_in_seq (pv 4) (pv 2) rfl)))))) (fun _ _ _ _ _ => (pv 4))))))), ?_⟩
    refine ⟨_, rfl, p, rfl, ⟨_, SqT.of ha⟩, fun D hD => lc_it (walk_tup (K := K) (a := p) (xs := ts.map V.ref)) (fun i H' => Same H H' ∧ H' D = some (.lst ((rs.take i).map fun r => V.str r.n))) ⟨same_new hD, upd_same⟩ (fun i H' _ h => SqT.of (h.1 _ _ ha)) ?_ ?_⟩
    · rintro i v H1 H2 hi ⟨sm, hH⟩ ⟨rfl, hv⟩
      obtain ⟨t, r, rfl, _, hri, dx, hrt⟩ := map_at hp hv
      have hrt' := sm _ _ hrt
      obtain ⟨l1, l2⟩ := take_len hri
      refine ⟨rfl, ?_⟩
      unfold tYes
      refine iteT ⟨_, rfl, t, dx, _, rfl, hrt', t, dx, _, _, rfl, hrt', fldsT_n r, _, hH, by rw [List.length_map, l1]; exact small1000 (by omega), fun b o hb => ?_, ?_⟩
      · rw [upd_ne (ne_of_none hb hD)]
        exact sm b o hb
      · rw [upd_same, take_snoc _ hri]
    · rintro H1 ⟨sm, hH⟩
      rw [List.length_map, hts, List.take_length] at hH
      refine ⟨aH, rfl, ⟨_, hsH _⟩, fun D2 hD2 => lc_it (walk_tup (K := K) (a := aH) (xs := hs.map V.ref)) (fun i H' => Same H1 H' ∧ H' D2 = some (.lst ((houseR.take i).map fun r => V.str r.n))) ⟨same_new hD2, upd_same⟩ (fun i H' _ h => hsH _) ?_ ?_⟩
      · rintro i v H2 H3 hi ⟨sm2, hH2⟩ ⟨rfl, hv⟩
        obtain ⟨t, r, rfl, _, hri, hrt⟩ := map_at hsP hv
        obtain ⟨l1, l2⟩ := take_len hri
        refine ⟨t, _, rfl, hrt _, rfl, _, _, rfl, _, _, rfl, _, _, rfl, rfl, rfl, ?_⟩
        unfold tYes
        refine iteT ⟨_, rfl, _, hH2, by rw [List.length_map, l1]; exact small1000 (by have : houseR.length = 17 := rfl; omega), fun b o hb => ?_, ?_⟩
        · rw [upd_ne (ne_of_none hb hD2)]
          exact sm2 b o hb
        · rw [upd_same, take_snoc _ hri]
      · rintro H2 ⟨sm2, hH2⟩
        have el : (hs.map V.ref).length = houseR.length := by rw [List.length_map]; exact hsP.length
        rw [el, List.take_length] at hH2
        have e1 : (rs.map fun r => V.str r.n) = (nmR rs).map V.str := by
          unfold nmR
          rw [List.map_map]
          rfl
        have e2 : (houseR.map fun r => V.str r.n) = houseN.map V.str := by
          unfold houseN
          rw [List.map_map]
          rfl
        rw [e1] at hH
        rw [e2] at hH2
        have hH' := sm2 _ _ hH
        have hn : (nmR rs).length = rs.length := List.length_map ..
        refine ⟨_, rfl, D, rfl, ⟨_, SqL.of hH'⟩, fun D3 hD3 => lc_it (walk_list (K := K) (a := D) (xs := (nmR rs).map V.str)) (fun i H' => Same H2 H' ∧ H' D3 = some (.lst ((((nmR rs).take i).filter fun n => decide (1 < (nmR rs).count n) || decide (n ∈ houseN)).map V.str))) ⟨same_new hD3, upd_same⟩ (fun i H' _ h => SqL.of (h.1 _ _ hH')) ?_ ?_⟩
        · rintro i v H3 H4 hi ⟨sm3, hH3⟩ ⟨rfl, hv⟩
          rw [List.getElem?_map] at hv
          cases e : (nmR rs)[i]? with
          | none => rw [e] at hv; cases hv
          | some n =>
            rw [e] at hv
            have hv' : V.str n = v := Option.some.inj hv
            subst hv'
            have hil := (List.getElem?_eq_some_iff.mp e).1
            have hsz : ((((nmR rs).take i).filter fun n => decide (1 < (nmR rs).count n) || decide (n ∈ houseN)).map V.str).length < sizeLine := by
              rw [List.length_map]
              refine Nat.lt_of_le_of_lt (List.length_filter_le _ _) ?_
              rw [List.length_take]
              exact small1000 (by omega)
            have yes : (decide (1 < (nmR rs).count n) || decide (n ∈ houseN)) = true → Same H2 (upd H4 D3 (.lst ((((nmR rs).take i).filter fun n => decide (1 < (nmR rs).count n) || decide (n ∈ houseN)).map V.str ++ [V.str n]))) ∧
                upd H4 D3 (.lst ((((nmR rs).take i).filter fun n => decide (1 < (nmR rs).count n) || decide (n ∈ houseN)).map V.str ++ [V.str n])) D3 = some (.lst ((((nmR rs).take (i + 1)).filter fun n => decide (1 < (nmR rs).count n) || decide (n ∈ houseN)).map V.str)) := fun hq => by
              refine ⟨fun b o hb => ?_, ?_⟩
              · rw [upd_ne (ne_of_none hb hD3)]
                exact sm3 b o hb
              · rw [upd_same, filt_yes e hq, List.map_append]
                rfl
            refine ⟨rfl, ?_⟩
            refine ⟨_, rfl, .inl ⟨rfl, _, .inl (.inl (sm3 _ _ hH'))⟩, _, rfl, D, nmR rs, n, rfl, rfl, SqL.of (sm3 _ _ hH'), _, _, rfl, rfl, _, rfl, ?_⟩
            have ec : decide ((1 : Int) < ((nmR rs).count n : Int)) = decide (1 < (nmR rs).count n) := decide_eq_decide.mpr (by omega)
            rw [ec]
            cases c1 : decide (1 < (nmR rs).count n) with
            | true =>
              refine iteT (iteT ⟨_, rfl, _, hH3, hsz, yes (by rw [c1]; rfl)⟩)
            | false =>
              refine iteF ⟨_, rfl, _, rfl, D2, _, rfl, .inl (SqL.of (sm3 _ _ hH2)), rfl, flat_strs _, _, rfl, ?_⟩
              show if inV (V.str n) (houseN.map V.str) = true then _ else _
              rw [inV_str]
              cases c2 : decide (n ∈ houseN) with
              | true => exact iteT ⟨_, rfl, _, hH3, hsz, yes (by rw [c2, Bool.or_true])⟩
              | false => exact iteF ⟨sm3, by rw [filt_no e (by rw [c1, c2]; rfl)]; exact hH3⟩
        · rintro H3 ⟨sm3, hH3⟩
          rw [List.length_map, List.take_length] at hH3
          exact q H3 D3 (fun b o e => sm3 b o (sm2 b o (sm b o e))) hH3
end
end Bw

namespace Bw
open PySem PySem.Spec L2 TL PyProof.Rows

theorem get_scal (o : Option V) (k : Str) (h : ∀ v, o = some v → ∃ z, v = .str z) : scal (o.getD .non) (.str k) = true := by
  cases o with
  | none => rfl
  | some v =>
    obtain ⟨z, rfl⟩ := h v rfl
    rfl
theorem kdR_str {rs : List Ro} {k : Key} {v : V} (h : valV (kdR rs) k = some v) : ∃ z, v = .str z := by
  have gen : ∀ (more acc : List (Key × V)), (∀ p ∈ more, ∃ z, p.2 = V.str z) → (∀ k v, valV acc k = some v → ∃ z, v = V.str z) → ∀ k v, valV (mergeK acc more) k = some v → ∃ z, v = V.str z := by
    intro more
    induction more with
    | nil => intro acc _ h2 k v h; exact h2 k v h
    | cons p r ih =>
      intro acc h1 h2 k v h
      refine ih (putK acc p.1 p.2) (fun q hq => h1 q (List.mem_cons_of_mem _ hq)) (fun k v h => ?_) k v h
      rw [valV_put] at h
      split at h
      · obtain ⟨z, hz⟩ := h1 p (List.mem_cons_self ..)
        exact ⟨z, by rw [← hz]; exact (Option.some.inj h).symm⟩
      · exact h2 k v h
  unfold kdR at h
  refine gen _ [] (fun p hp => ?_) (fun k v h => by cases h) k v h
  obtain ⟨r, _, rfl⟩ := List.mem_map.mp hp
  exact ⟨_, rfl⟩
section
variable {P : Program} {w : World} {K : PySem.W.Frag} {mg : Str → Option Value} {base : Heap} {f : Addr} {fd : FuncData} {aK aC aH aR : Addr}
theorem ok_wrong_above (F : Fun K "_wrong_above" "_wrong_above" s_wrong_above f fd) (T : Txt K mg aK) (P_name : Prp P w K mg base aC "name" "_name") (P_kind : Prp P w K mg base aC "kind" "_kind") (P_above : Prp P w K mg base aC "above" "_above") : FnOk P w K mg base CX0 3 f fd ["types"] (spRule aC 1) := by
  refine F.ok sc_wrong_above (fun vs H Q E h => ?_) (fun cdv A outer s H vs Q E hr h => ?_)
  · obtain ⟨p, rs, rfl, _⟩ := h
    rfl
  · obtain ⟨p, rs, rfl, ⟨ts, ha, hp⟩, hl, _, q⟩ := h
    have hts : ts.length = rs.length := hp.length
    refine ⟨_, (pss_cons (ps_set (i := 1) sc_wrong_above.nd rfl (Or.inr rfl) (pe_dc (own := [("each", 2)]) (g := gName 2) (by rfl) sc_wrong_above.nd (pi_tup (pv 0)) (blkOk_by (own := [("each", 2)]) (N := n_wrong_above) (sc := defScope s_wrong_above) (by decide +kernel)) (fun _ _ _ _ _ => pg_name (i := 2) sc_wrong_above.nd rfl (Or.inl rfl)) (fun _ _ _ _ _ => pts_nil) (fun _ _ _ _ _ => (pe_p P_name hr (by decide) (pv 2) rfl)) (fun _ _ _ _ _ => (pe_p P_kind hr (by decide) (pv 2) rfl)))) (pss_one (ps_ret (pe_lc (own := [("each", 2)]) (g := gName 2) (by rfl) sc_wrong_above.nd (pi_tup (pv 0)) (blkOk_by (own := [("each", 2)]) (N := n_wrong_above) (sc := defScope s_wrong_above) (by decide +kernel)) (fun _ _ _ _ _ => pg_name (i := 2) sc_wrong_above.nd rfl (Or.inl rfl)) (fun _ _ _ _ _ => (pts_one (PW.pt (pw_and (pt_cmpR op_notN (pe_p P_above hr (by decide) (pv 2) rfl) pe_non (nomark _)) (pw_and1 (pt_cmpR op_ne (pe_dget1 (hu_of hr) (pv 1) (pe_p P_above hr (by decide) (pv 2) rfl) ⟨by rfl, by rfl, by rfl, by rfl⟩) (pe_p P_kind hr (by decide) (pv 2) rfl) (nomark _))))))) (fun _ _ _ _ _ => (pe_p P_name hr (by decide) (pv 2) rfl)))))), ?_⟩
    refine ⟨_, rfl, p, rfl, ⟨_, SqT.of ha⟩, fun D hD => dc_tup (K := K) (a := p) (xs := ts.map V.ref) (fun i H' => Same H H' ∧ H' D = some (.dK (mergeK [] ((rs.take i).map fun r => (Sum.inr r.n, V.str r.k))))) ⟨same_new hD, upd_same⟩ (fun i H' _ h => SqT.of (h.1 _ _ ha)) ?_ ?_⟩
    · rintro i v H1 hv ⟨sm, hH⟩
      obtain ⟨t, r, rfl, _, hri, dx, hrt⟩ := map_at hp hv
      have hrt' := sm _ _ hrt
      obtain ⟨l1, l2⟩ := take_len hri
      have hlen := length_mergeK ((rs.take i).map fun r => ((Sum.inr r.n : Key), V.str r.k)) []
      rw [List.length_nil, List.length_map, l1] at hlen
      refine ⟨rfl, ?_⟩
      unfold tYes
      refine iteT ⟨_, rfl, t, dx, _, rfl, hrt', t, dx, _, _, rfl, hrt', fldsT_n r, ?_⟩
      refine ⟨_, rfl, t, dx, _, rfl, hrt', t, dx, _, _, rfl, hrt', fldsT_k r, ?_⟩
      refine ⟨_, Sum.inr r.n, rfl, hH, small1000 (by omega), fun b o hb => ?_, ?_⟩
      · rw [upd_ne (ne_of_none hb hD)]
        exact sm b o hb
      · rw [upd_same, take_snoc _ hri]
        unfold mergeK
        rw [List.foldl_append]
        rfl
    · rintro H1 ⟨sm, hH⟩
      rw [List.length_map, hts, List.take_length] at hH
      have hH : H1 D = some (.dK (kdR rs)) := hH
      refine ⟨_, rfl, p, rfl, ⟨_, SqT.of (sm _ _ ha)⟩, fun D2 hD2 => lc_it (walk_tup (K := K) (a := p) (xs := ts.map V.ref)) (fun i H' => Same H1 H' ∧ H' D2 = some (.lst ((((rs.take i).filter (isBad2 (kdR rs))).map (·.n)).map V.str))) ⟨same_new hD2, upd_same⟩ (fun i H' _ h => SqT.of (h.1 _ _ (sm _ _ ha))) ?_ ?_⟩
      · rintro i v H2 H3 hi ⟨sm2, hH2⟩ ⟨rfl, hv⟩
        obtain ⟨t, r, rfl, _, hri, dx, hrt⟩ := map_at hp hv
        have hrt' := sm2 _ _ (sm _ _ hrt)
        obtain ⟨l1, l2⟩ := take_len hri
        have hd' := sm2 _ _ hH
        have hsz : ((((rs.take i).filter (isBad2 (kdR rs))).map (·.n)).map V.str).length < sizeLine := by
          rw [List.length_map, List.length_map]
          refine Nat.lt_of_le_of_lt (List.length_filter_le _ _) ?_
          rw [l1]
          exact small1000 (by omega)
        refine ⟨rfl, ?_⟩
        refine ⟨_, rfl, t, dx, _, rfl, hrt', t, dx, _, _, rfl, hrt', fldsT_a r, rfl, _, rfl, ?_⟩
        cases ea : r.a with
        | none =>
          have hb : isBad2 (kdR rs) r = false := by
            unfold isBad2
            rw [ea]
          refine iteF (iteF ⟨sm2, ?_⟩)
          rw [filt_no hri hb]
          exact hH2
        | some a =>
          refine iteT ?_
          have hb : isBad2 (kdR rs) r = !decide ((valV (kdR rs) (Sum.inr a)).getD .non = V.str r.k) := by
            unfold isBad2
            rw [ea]
          have fa : (fldsT r).lookup ("_above" : Str) = some (V.str a) := by
            rw [fldsT_a, ea]
            rfl
          refine ⟨_, rfl, D, rfl, .inl ⟨_, .inl hd'⟩, _, rfl, t, dx, _, rfl, hrt', t, dx, _, _, rfl, hrt', fa, valV (kdR rs) (Sum.inr a), .inl ⟨kdR rs, Sum.inr a, .inl hd', rfl, rfl⟩, ?_⟩
          refine ⟨_, rfl, t, dx, _, rfl, hrt', t, dx, _, _, rfl, hrt', fldsT_k r, get_scal _ _ (fun v h => kdR_str h), _, rfl, ?_⟩
          rw [← hb]
          cases e : isBad2 (kdR rs) r with
          | true =>
            refine iteT ⟨_, rfl, t, dx, _, rfl, hrt', t, dx, _, _, rfl, hrt', fldsT_n r, _, hH2, hsz, fun b o hb => ?_, ?_⟩
            · rw [upd_ne (ne_of_none hb hD2)]
              exact sm2 b o hb
            · rw [upd_same, filt_yes hri e, List.map_append, List.map_append]
              rfl
          | false =>
            refine iteF ⟨sm2, ?_⟩
            rw [filt_no hri e]
            exact hH2
      · rintro H2 ⟨sm2, hH2⟩
        rw [List.length_map, hts, List.take_length] at hH2
        exact q H2 D2 (fun b o e => sm2 b o (sm b o e)) hH2
theorem closed_ab {rs : List Ro} (h1 : bad1 rs = []) (h2 : bad2 rs = []) : ClosedK (abR rs) := by
  intro y v h
  have hm := valV_some h
  rw [abR_eq h1] at hm
  obtain ⟨r, hr, er⟩ := List.mem_map.mp hm
  have ev : ov r.a = v := by injection er
  cases ea : r.a with
  | none =>
    rw [ea] at ev
    exact .inl ev.symm
  | some a =>
    rw [ea] at ev
    refine .inr ⟨a, ?_⟩
    have ha := above_in h2 hr ea
    unfold nmR at ha
    obtain ⟨r2, hr2, e2⟩ := List.mem_map.mp ha
    have : ∃ v', valV (abR rs) (Sum.inr a) = some v' := by
      unfold abR
      rw [keys_mergeK]
      exact .inr ⟨_, List.mem_map_of_mem hr2, by rw [e2]⟩
    obtain ⟨v', hv'⟩ := this
    exact ⟨v', ev.symm, hv'⟩
theorem key_ab {rs : List Ro} {x : Str} (hx : x ∈ nmR rs) : ∃ v', valV (abR rs) (Sum.inr x) = some v' := by
  unfold nmR at hx
  obtain ⟨r2, hr2, e2⟩ := List.mem_map.mp hx
  unfold abR
  rw [keys_mergeK]
  exact .inr ⟨_, List.mem_map_of_mem hr2, by rw [e2]⟩
/-- the two looks upward in one -/
theorem way_list {Q : V → Hp → Prop} {rs : List Ro} {H : Hp} {d : Addr} (g : Str → Bool) (h1 : bad1 rs = []) (hl : rs.length ≤ 1000) (hd : H d = some (.dK (abR rs))) {td te : TE} {tt : TT} {σ : L2.St} {vs : List Nat} {i : Nat} (htd : ∀ H Q, Q (.ref d) H → td σ H Q)
    (hq : ∀ H' p, Same H H' → H' p = some (.lst (((nmR rs).filter g).map V.str)) → Q (.ref p) H')
    (hte : ∀ (n : Str) σ2 H2 Q2, σ2 = (wipe σ vs).set i (some (.str n)) → Q2 (.str n) H2 → te σ2 H2 Q2)
    (hw : ∀ n, wipe ((wipe σ vs).set i (some (.str n))) vs = wipe σ vs)
    (htt : ∀ (n : Str) od H2 (Q2 : Bool → Hp → Prop), n ∈ nmR rs → H2 d = some (.frz od (.dK (abR rs))) → (∀ H3, Same H2 H3 → Q2 (g n) H3) → tt ((wipe σ vs).set i (some (.str n))) H2 Q2) :
    tLockE (tLc (iKeys td) (gName i) tt te vs) σ H Q := by
  have hnm : (abR rs).map (·.1) = (nmR rs).map Sum.inr := by
    rw [abR_eq h1]
    unfold nmR
    rw [List.map_map, List.map_map]
    rfl
  have hlen : (abR rs).length = (nmR rs).length := by
    have := congrArg List.length hnm
    rw [List.length_map, List.length_map] at this
    exact this
  have hn : (nmR rs).length = rs.length := List.length_map ..
  refine ⟨d, _, hd, trivial, fun od => ?_⟩
  refine htd _ _ ⟨d, od, rfl, .inl ⟨_, upd_same, fun D hD => ?_⟩⟩
  have hDd : D ≠ d := fun e => by rw [e, upd_same] at hD; cases hD
  refine lc_it (walk_keys (d := d) (o := od) (kvs := abR rs)) (fun j H' => Same (upd H d (.frz od (.dK (abR rs)))) H' ∧ H' D = some (.lst ((((nmR rs).take j).filter g).map V.str))) ⟨same_new hD, upd_same⟩ (fun j H' _ h => h.1 _ _ upd_same) ?_ ?_
  · rintro j v H2 H3 hj ⟨sm, hH⟩ ⟨rfl, k, v2, hk, rfl⟩
    have hkey : ((abR rs).map (·.1))[j]? = some k := by
      rw [List.getElem?_map, hk]
      rfl
    rw [hnm, List.getElem?_map] at hkey
    cases e : (nmR rs)[j]? with
    | none => rw [e] at hkey; cases hkey
    | some n =>
      rw [e] at hkey
      have hk' : Sum.inr n = k := Option.some.inj hkey
      subst hk'
      obtain ⟨l1, l2⟩ := take_len e
      refine ⟨hw n, ?_⟩
      refine htt n od _ _ (List.mem_of_getElem? e) (sm _ _ upd_same) fun H4 sm4 => ?_
      have sm' : Same (upd H d (.frz od (.dK (abR rs)))) H4 := fun b o hb => sm4 b o (sm b o hb)
      cases eg : g n with
      | true =>
        refine iteT (hte n _ _ _ rfl ⟨_, sm4 _ _ hH, ?_, fun b o hb => ?_, ?_⟩)
        · rw [List.length_map]
          refine Nat.lt_of_le_of_lt (List.length_filter_le _ _) ?_
          rw [l1]
          exact small1000 (by omega)
        · rw [upd_ne (ne_of_none hb hD)]
          exact sm' b o hb
        · rw [upd_same, filt_yes e eg, List.map_append]
          rfl
      | false =>
        refine iteF ⟨sm', ?_⟩
        rw [filt_no e eg]
        exact sm4 _ _ hH
  · rintro H2 ⟨sm, hH⟩
    rw [hlen, List.take_length] at hH
    refine ⟨sm _ _ upd_same, hq _ D (same_lock hd sm) ?_⟩
    rw [upd_ne hDd]
    exact hH
theorem ok_in_ring (F : Fun K "_in_ring" "_in_ring" s_in_ring f fd) (T : Txt K mg aK) (D_aboves : Dfn P w K mg base "_aboves" 3 ["types"] (spAboves aC)) (D_upward_types : Dfn P w K mg base "upward_types" 1 ["aboves", "name"] spUpward) : FnOk P w K mg base CX0 4 f fd ["types"] (spRule aC 2) := by
  refine F.ok sc_in_ring (fun vs H Q E h => ?_) (fun cdv A outer s H vs Q E hr h => ?_)
  · obtain ⟨p, rs, rfl, _⟩ := h
    rfl
  · obtain ⟨p, rs, rfl, ht, hl, hpre, q⟩ := h
    have h1 : bad1 rs = [] := hpre 0 (by decide)
    have h2 : bad2 rs = [] := hpre 1 (by decide)
    have hn : (abR rs).length = rs.length := by rw [abR_eq h1, List.length_map]
    refine ⟨_, (pss_cons (ps_set (i := 1) sc_in_ring.nd rfl (Or.inr rfl) (pe_d D_aboves hr (by decide) (pa_cons (pv 0) pa_nil))) (pss_one (ps_ret (pe_lock (pe_lc (own := [("name", 2)]) (g := gName 2) (by rfl) sc_in_ring.nd (pi_keys (pv 1)) (blkOk_by (own := [("name", 2)]) (N := n_in_ring) (sc := defScope s_in_ring) (by decide +kernel)) (fun _ _ _ _ _ => pg_name (i := 2) sc_in_ring.nd rfl (Or.inl rfl)) (fun _ _ _ _ _ => (pts_one (pt_cmpR op_gt (pe_callB (r := rLenQ K) call_lenQ (by rfl) T.b_len (by decide +kernel) (pa_cons (pe_d D_upward_types hr (by decide) (pa_cons (pv 1) (pa_cons (pv 2) pa_nil))) pa_nil)) (pe_callB call_lenR (by rfl) T.b_len (by decide +kernel) (pa_cons (pv 1) pa_nil)) (nomark _)))) (fun _ _ _ _ _ => (pv 2))))))), ?_⟩
    refine ⟨_, rfl, p, rs, rfl, ht, hl, fun H1 d sm hd0 hd => ?_⟩
    show tLockE (tLc (iKeys (tVar 1)) (gName 2) _ _ _) _ H1 Q
    refine way_list (td := tVar 1) (fun n => (itF (upF (abR rs)) rs.length n).isSome) h1 hl hd (fun H Q h => ⟨_, rfl, h⟩) (fun H' p' sm2 hp' => q H' p' (fun b o e => sm2 b o (sm b o e)) hp') ?_ ?_ ?_
    · rintro n σ2 H2 Q2 rfl hq2
      exact ⟨_, rfl, hq2⟩
    · intro n
      rfl
    · intro n od H2 Q2 hnm hfr hq2
      obtain ⟨v', hv'⟩ := key_ab hnm
      refine ⟨_, rfl, _, rfl, d, abR rs, n, v', rfl, .inr ⟨od, hfr⟩, closed_ab h1 h2, hv', by omega, fun H3 p3 l sm3 hp3 hl3 => ?_⟩
      refine ⟨p3, _, rfl, .inl (SqL.of hp3), _, rfl, d, abR rs, rfl, .inr ⟨od, sm3 _ _ hfr⟩, _, _, rfl, rfl, _, rfl, ?_⟩
      have e : decide (((abR rs).length : Int) < (l.length : Int)) = (itF (upF (abR rs)) rs.length n).isSome := by
        rw [Bool.eq_iff_iff, decide_eq_true_eq, hl3, Int.ofNat_lt, upN_lt, hn]
        exact ⟨fun h => h.2, fun h => ⟨by omega, h⟩⟩
      rw [e]
      exact hq2 H3 sm3
theorem ok_too_high (F : Fun K "_too_high" "_too_high" s_too_high f fd) (T : Txt K mg aK) (D_aboves : Dfn P w K mg base "_aboves" 3 ["types"] (spAboves aC)) (D_upward_types : Dfn P w K mg base "upward_types" 1 ["aboves", "name"] spUpward) : FnOk P w K mg base CX0 4 f fd ["types"] (spRule aC 3) := by
  obtain ⟨tI, gI⟩ := T.g_high
  refine F.ok sc_too_high (fun vs H Q E h => ?_) (fun cdv A outer s H vs Q E hr h => ?_)
  · obtain ⟨p, rs, rfl, _⟩ := h
    rfl
  · obtain ⟨p, rs, rfl, ht, hl, hpre, q⟩ := h
    have h1 : bad1 rs = [] := hpre 0 (by decide)
    have h2 : bad2 rs = [] := hpre 1 (by decide)
    have h3 : bad3 rs = [] := hpre 2 (by decide)
    have hn : (abR rs).length = rs.length := by rw [abR_eq h1, List.length_map]
    refine ⟨_, (pss_cons (ps_set (i := 1) sc_too_high.nd rfl (Or.inr rfl) (pe_d D_aboves hr (by decide) (pa_cons (pv 0) pa_nil))) (pss_one (ps_ret (pe_lock (pe_lc (own := [("name", 2)]) (g := gName 2) (by rfl) sc_too_high.nd (pi_keys (pv 1)) (blkOk_by (own := [("name", 2)]) (N := n_too_high) (sc := defScope s_too_high) (by decide +kernel)) (fun _ _ _ _ _ => pg_name (i := 2) sc_too_high.nd rfl (Or.inl rfl)) (fun _ _ _ _ _ => (pts_one (pt_cmpR op_gt (pe_callB (r := rLenQ K) call_lenQ (by rfl) T.b_len (by decide +kernel) (pa_cons (pe_d D_upward_types hr (by decide) (pa_cons (pv 1) (pa_cons (pv 2) pa_nil))) pa_nil)) (pe_glob (v := .int 4) rfl gI ⟨_, rfl⟩) (nomark _)))) (fun _ _ _ _ _ => (pv 2))))))), ?_⟩
    refine ⟨_, rfl, p, rs, rfl, ht, hl, fun H1 d sm hd0 hd => ?_⟩
    show tLockE (tLc (iKeys (tVar 1)) (gName 2) _ _ _) _ H1 Q
    refine way_list (td := tVar 1) (fun n => (itF (upF (abR rs)) 4 n).isSome) h1 hl hd (fun H Q h => ⟨_, rfl, h⟩) (fun H' p' sm2 hp' => q H' p' (fun b o e => sm2 b o (sm b o e)) hp') ?_ ?_ ?_
    · rintro n σ2 H2 Q2 rfl hq2
      exact ⟨_, rfl, hq2⟩
    · intro n
      rfl
    · intro n od H2 Q2 hnm hfr hq2
      obtain ⟨v', hv'⟩ := key_ab hnm
      refine ⟨_, rfl, _, rfl, d, abR rs, n, v', rfl, .inr ⟨od, hfr⟩, closed_ab h1 h2, hv', by omega, fun H3 p3 l sm3 hp3 hl3 => ?_⟩
      refine ⟨p3, _, rfl, .inl (SqL.of hp3), _, _, rfl, rfl, _, rfl, ?_⟩
      have e : decide ((4 : Int) < (l.length : Int)) = (itF (upF (abR rs)) 4 n).isSome := by
        rw [← high_iff h3 hnm, hl3, hn]
        exact decide_eq_decide.mpr (by omega)
      rw [e]
      exact hq2 H3 sm3
theorem ok_too_many (F : Fun K "_too_many" "_too_many" s_too_many f fd) (T : Txt K mg aK) : FnOk P w K mg base CX0 1 f fd ["types"] (spRule aC 4) := by
  obtain ⟨tT, gT⟩ := T.g_types
  refine F.ok sc_too_many (fun vs H Q E h => ?_) (fun cdv A outer s H vs Q E hr h => ?_)
  · obtain ⟨p, rs, rfl, _⟩ := h
    rfl
  · obtain ⟨p, rs, rfl, ⟨ts, ha, hp⟩, hl, _, q⟩ := h
    have hts : ts.length = rs.length := hp.length
    refine ⟨_, (pss_one (ps_ret (pe_ifExp (pt_cmpR op_gt (pe_callB (r := rLenQ K) call_lenQ (by rfl) T.b_len (by decide +kernel) (pa_cons (pv 0) pa_nil)) (pe_glob (v := .int 20) rfl gT ⟨_, rfl⟩) (nomark _)) (pe_lst (pa_cons pe_str pa_nil)) (pe_lst pa_nil)))), ?_⟩
    refine ⟨_, rfl, p, _, rfl, .inr (SqT.of ha), _, _, rfl, rfl, _, rfl, ?_⟩
    have e : decide ((20 : Int) < ((ts.map V.ref).length : Int)) = decide (20 < rs.length) := by
      rw [List.length_map, hts]
      exact decide_eq_decide.mpr (by omega)
    rw [e]
    have eb : ∀ b, decide (20 < rs.length) = b → badN 4 rs = if b = true then ([""] : List Str) else [] := fun b hb => by
      show (if 20 < rs.length then ([""] : List Str) else []) = _
      rw [← hb]
      by_cases h : 20 < rs.length
      · rw [if_pos h, if_pos (decide_eq_true h)]
      · rw [if_neg h, if_neg (by rw [decide_eq_false h]; exact Bool.false_ne_true)]
    cases c : decide (20 < rs.length) with
    | true =>
      refine iteT ⟨by show 1 ≤ sizeLine; decide, fun D hD => q _ D (same_new hD) ?_⟩
      rw [upd_same, eb true c]
      rfl
    | false =>
      refine iteF ⟨Nat.zero_le _, fun D hD => q _ D (same_new hD) ?_⟩
      rw [upd_same, eb false c]
      rfl
end
end Bw

namespace Bw
open PySem PySem.Spec L2 TL PyProof.Rows

theorem paired_app {α β : Type} {G : α → β → Prop} : ∀ {l : List α} {m : List β} {l' : List α} {m' : List β}, Paired G l m → Paired G l' m' → Paired G (l ++ l') (m ++ m')
  | _, _, _, _, .nil, h => h
  | _, _, _, _, .cons r t, h => .cons r (paired_app t h)
def codesL : List Str := ["twice", "above", "ring", "high", "many"]
/-- the table of rules: codes, and the defs that keep their promises -/
structure RulesT (P : Program) (w : World) (K : PySem.W.Frag) (mg : Str → Option Value) (base : Heap) (aC aR : Addr) : Prop where
  g : mg "RULES" = some (.ref aR)
  keys : KKeys K aR codesL
  at_ : ∀ (i : Nat) (c : Str), codesL[i]? = some c → ∃ f, KDct K w aR c (.ref f) ∧ Held P w K mg base 4 f (spRule aC i)
/-- a fault as a value -/
def FaultV (H : Hp) (v : V) : Option (Str × Str) → Prop
  | none => v = .non
  | some p => ∃ t, v = .ref t ∧ H t = some (.tup [.str p.1, .str p.2])
def spFault (aC : Addr) : Sp := fun vs H Q _ => ∃ (p : Addr) (rs : List Ro), vs = [.ref p] ∧ TypesAt aC H p rs ∧ rs.length ≤ 1000 ∧ ∀ H' v, Same H H' → FaultV H' v (faultR rs) → Q v H'
def spHouse (aC : Addr) : Sp := fun vs H Q _ => vs = [] ∧ ∀ H' p, Same H H' → TypesAt aC H' p houseR → Q (.ref p) H'
theorem fault_at {rs : List Ro} {i : Nat} {c : Str} (hc : codesL[i]? = some c) (hpre : ∀ m, m < i → badN m rs = []) (hne : badN i rs ≠ []) : faultR rs = some (c, minS (badN i rs)) := by
  have hi : i < 5 := (List.getElem?_eq_some_iff.mp hc).1
  have z : ∀ m, m < i → badN m rs = [] := hpre
  unfold faultR
  match i, hi with
  | 0, _ =>
    have : c = "twice" := (Option.some.inj hc).symm
    subst this
    exact if_pos hne
  | 1, _ =>
    have : c = "above" := (Option.some.inj hc).symm
    subst this
    rw [if_neg (not_not_intro (show bad1 rs = [] from z 0 (by decide)))]
    exact if_pos hne
  | 2, _ =>
    have : c = "ring" := (Option.some.inj hc).symm
    subst this
    rw [if_neg (not_not_intro (show bad1 rs = [] from z 0 (by decide))), if_neg (not_not_intro (show bad2 rs = [] from z 1 (by decide)))]
    exact if_pos hne
  | 3, _ =>
    have : c = "high" := (Option.some.inj hc).symm
    subst this
    rw [if_neg (not_not_intro (show bad1 rs = [] from z 0 (by decide))), if_neg (not_not_intro (show bad2 rs = [] from z 1 (by decide))), if_neg (not_not_intro (show bad3 rs = [] from z 2 (by decide)))]
    exact if_pos hne
  | 4, _ =>
    have : c = "many" := (Option.some.inj hc).symm
    subst this
    rw [if_neg (not_not_intro (show bad1 rs = [] from z 0 (by decide))), if_neg (not_not_intro (show bad2 rs = [] from z 1 (by decide))), if_neg (not_not_intro (show bad3 rs = [] from z 2 (by decide))), if_neg (not_not_intro (show bad4 rs = [] from z 3 (by decide)))]
    by_cases h : 20 < rs.length
    · rw [if_pos h]
      have e : badN 4 rs = ([""] : List Str) := if_pos h
      rw [e]
      rfl
    · exact absurd (show badN 4 rs = [] from if_neg h) hne
theorem fault_none {rs : List Ro} (z : ∀ m, m < 5 → badN m rs = []) : faultR rs = none := by
  unfold faultR
  rw [if_neg (not_not_intro (show bad1 rs = [] from z 0 (by decide))), if_neg (not_not_intro (show bad2 rs = [] from z 1 (by decide))), if_neg (not_not_intro (show bad3 rs = [] from z 2 (by decide))), if_neg (not_not_intro (show bad4 rs = [] from z 3 (by decide)))]
  have h4 : (if 20 < rs.length then ([""] : List Str) else []) = [] := z 4 (by decide)
  by_cases h : 20 < rs.length
  · rw [if_pos h] at h4
    cases h4
  · exact if_neg h
section
variable {P : Program} {w : World} {K : PySem.W.Frag} {mg : Str → Option Value} {base : Heap} {f : Addr} {fd : FuncData} {aK aC aH aR : Addr}
theorem ok_type_fault (F : Fun K "type_fault" "type_fault" s_type_fault f fd) (T : Txt K mg aK) (RT : RulesT P w K mg base aC aR) (D_are_types : Dfn P w K mg base "are_types" 1 ["value"] (spAreTypes aC)) : FnOk P w K mg base CX0 5 f fd ["types"] (spFault aC) := by
  have gR := RT.g
  refine F.ok sc_type_fault (fun vs H Q E h => ?_) (fun cdv A outer s H vs Q E hr h => ?_)
  · obtain ⟨p, rs, rfl, _⟩ := h
    rfl
  · obtain ⟨p, rs, rfl, ht, hl, q⟩ := h
    refine ⟨_, (pss_cons (ps_if (pt_not (pt_val (pe_d D_are_types hr (by decide) (pa_cons (pv 0) pa_nil)))) (pss_one ps_never) pss_nil) (pss_cons (ps_for PassesOwn.never rfl (pi_keysW (pe_glob (v := .ref aR) rfl gR rfl)) (pg_name (i := 1) sc_type_fault.nd rfl (Or.inl rfl)) (pss_cons (ps_set (i := 2) sc_type_fault.nd rfl (Or.inl rfl) (pe_ix ix_kdict (pe_glob (v := .ref aR) rfl gR rfl) (pv 1) (fun _ _ => rfl))) (pss_cons (ps_set (i := 3) sc_type_fault.nd rfl (Or.inl rfl) (pe_callH (k := 4) (i := 2) hr (by decide) rfl (Or.inl rfl) (pa_cons (pv 0) pa_nil))) (pss_one (ps_if (pt_cmpR (r := rNeNil K) (op_neNil hr.units0) (pv 3) (pe_lst pa_nil) (nomark _)) (pss_one (ps_ret (pe_tup (pa_cons (pv 1) (pa_cons (pe_callB (cr_minS rfl hr) (by rfl) T.b_min (by decide +kernel) (pa_cons (pv 3) pa_nil)) pa_nil))))) pss_nil))))) (pss_one (ps_ret pe_non)))), ?_⟩
    refine ⟨_, rfl, p, rs, rfl, ht, hl, fun H1 sm => ⟨_, rfl, iteF ?_⟩⟩
    refine ⟨aR, codesL, rfl, RT.keys, for_it (walk_keysW (ks := codesL)) (fun i σ H' => (∃ a b c, σ = [some (.ref p), a, b, c]) ∧ Same H H' ∧ ∀ m, m < i → badN m rs = []) ⟨⟨_, _, _, rfl⟩, sm, fun m hm => absurd hm (by omega)⟩ (fun _ _ _ _ _ => trivial) ?_ ?_⟩
    · rintro i v σ H2 H3 hi ⟨⟨a, b, c, rfl⟩, sm2, hpre⟩ ⟨rfl, k, hk, rfl⟩
      obtain ⟨f2, kd, hd⟩ := RT.at_ i k hk
      refine ⟨_, rfl, aR, k, .ref f2, rfl, rfl, kd, ?_⟩
      refine ⟨f2, _, rfl, hd, _, rfl, p, rs, rfl, TypesAt.up sm2 ht, hl, hpre, fun H4 q4 sm4 hq4 => ?_⟩
      have sm5 : Same H H4 := fun b o e => sm4 b o (sm2 b o e)
      refine ⟨_, rfl, Nat.zero_le _, fun N hN => ?_⟩
      have hq5 : (upd H4 N (.lst [])) q4 = some (.lst ((badN i rs).map V.str)) := by rw [upd_ne (ne_of_none hq4 hN)]; exact hq4
      have sm6 : Same H (upd H4 N (.lst [])) := fun b o e => same_new hN b o (sm5 b o e)
      refine ⟨q4, N, _, rfl, rfl, SqL.of hq5, SqL.of upd_same, _, rfl, ?_⟩
      by_cases hne : badN i rs = []
      · rw [hne]
        refine iteF ⟨⟨_, _, _, rfl⟩, sm6, fun m hm => ?_⟩
        rcases Nat.lt_or_ge m i with z | z
        · exact hpre m z
        · have : m = i := by omega
          rw [this]
          exact hne
      · have e3 : (!((badN i rs).map V.str).isEmpty) = true := by
          cases e : badN i rs with
          | nil => exact absurd e hne
          | cons y ys => rfl
        rw [e3]
        refine iteT ⟨_, rfl, _, rfl, q4, badN i rs, rfl, SqL.of hq5, hne, by show 2 ≤ sizeLine; decide, fun U hU => ?_⟩
        refine q _ _ (fun b o z => same_new hU b o (sm6 b o z)) ?_
        rw [fault_at hk hpre hne]
        exact ⟨U, rfl, upd_same⟩
    · rintro σ H2 ⟨⟨a, b, c, rfl⟩, sm2, hpre⟩
      refine q H2 .non sm2 ?_
      rw [fault_none hpre]
      rfl
/-- a type is made -/
theorem made_type {Q : V → Hp → Prop} {H : Hp} {r : Ro} (hok : OkRo r) (k : ∀ H' p, Same H H' → H p = none → TypeAt aC H' p r → Q (.ref p) H') :
    ∀ x dx, H x = none → H dx = none → dx ≠ x → spTInit aC (.ref x :: [.str r.n, .str r.k, ov r.a, .bl r.s]) (upd (upd H dx (.own x)) x (.ins aC dx [])) (fun v H2 => v = .non ∧ Q (.ref x) H2) E0 := by
  intro x dx hx hdx hne
  refine ⟨x, dx, r, rfl, hok, upd_same, fun H' hk hat => ⟨rfl, k H' x (fun b o e => ?_) hx ⟨dx, hat⟩⟩⟩
  have b1 : b ≠ x := ne_of_none e hx
  refine hk b o b1 ?_
  rw [upd_ne b1, upd_ne (ne_of_none e hdx)]
  exact e
theorem ok_houseR : ∀ r ∈ houseR, OkRo r := by
  have h : ∀ r ∈ houseR, (signs_iff r.n).mp = (signs_iff r.n).mp ∧ (Txt.isascii r.n && Txt.isprintable r.n) = true ∧ wdL (tl r.n) = true ∧ r.k ∈ kindsL ∧ r.a = none := by
    intro r hr
    refine ⟨rfl, ?_⟩
    revert r
    decide +kernel
  intro r hr
  obtain ⟨_, h1, h2, h3, h4⟩ := h r hr
  exact ⟨⟨(signs_iff r.n).mp h1, h2⟩, h3, fun y e => by rw [h4] at e; cases e⟩
theorem ok_house_types (F : Fun K "house_types" "house_types" s_house_types f fd) (T : Txt K mg aK) (HT : HouseT K mg aH) (MK : MkT P w K mg base aC 4 ["self", "name", "kind", "above", "single"] (spTInit aC)) : FnOk P w K mg base CX0 6 f fd [] (spHouse aC) := by
  refine F.ok sc_house_types (fun vs H Q E h => ?_) (fun cdv A outer s H vs Q E hr h => ?_)
  · obtain ⟨rfl, _⟩ := h
    rfl
  · obtain ⟨rfl, q⟩ := h
    have gH := HT.g
    obtain ⟨hs, hsH, hsP⟩ := HT.s
    refine ⟨_, (pss_one (ps_ret (pe_callTy call_tuple_of (by rfl) T.b_tuple (by decide +kernel) (pa_cons (pe_lc (own := [("name", 0), ("kind", 1), ("single", 2)]) (g := gTup K 3 (gCons (gName 0) (gCons (gName 1) (gCons (gName 2) gNil)))) (by rfl) sc_house_types.nd (pi_tup (pe_glob (v := .ref aH) rfl gH rfl)) (blkOk_by (own := [("name", 0), ("kind", 1), ("single", 2)]) (N := n_house_types) (sc := defScope s_house_types) (by decide +kernel)) (fun _ _ _ _ _ => pg_tup (by rfl) (pgs_cons (pg_name (i := 0) sc_house_types.nd rfl (Or.inl rfl)) (pgs_cons (pg_name (i := 1) sc_house_types.nd rfl (Or.inl rfl)) (pgs_cons (pg_name (i := 2) sc_house_types.nd rfl (Or.inl rfl)) pgs_nil)))) (fun _ _ _ _ _ => pts_nil) (fun _ _ _ _ _ => (pe_mk2 MK hr (by decide) (pa_cons (pv 0) (pa_cons (pv 1) pa_nil)) (pk_cons (pv 2) pk_nil)))) pa_nil)))), ?_⟩
    have el : (hs.map V.ref).length = houseR.length := by rw [List.length_map]; exact hsP.length
    refine ⟨aH, rfl, ⟨_, hsH _⟩, fun D hD => lc_it (walk_tup (K := K) (a := aH) (xs := hs.map V.ref)) (fun i H' => Same H H' ∧ ∃ ts : List Addr, H' D = some (.lst (ts.map V.ref)) ∧ Paired (TypeAt aC H') ts (houseR.take i)) ⟨same_new hD, [], upd_same, .nil⟩ (fun i H' _ h => hsH _) ?_ ?_⟩
    · rintro i v H2 H3 hi ⟨sm2, ts, hD2, hp2⟩ ⟨rfl, hv⟩
      obtain ⟨t, r, rfl, _, hri, hrt⟩ := map_at hsP hv
      obtain ⟨l1, l2⟩ := take_len hri
      refine ⟨t, _, rfl, hrt _, rfl, _, _, rfl, _, _, rfl, _, _, rfl, rfl, rfl, ?_⟩
      unfold tYes
      refine iteT ?_
      refine ⟨_, rfl, _, rfl, _, rfl, rfl, rfl, ?_⟩
      have hok := ok_houseR r (List.mem_of_getElem? hri)
      have ha : r.a = none := by
        have : ∀ r ∈ houseR, r.a = none := by decide +kernel
        exact this r (List.mem_of_getElem? hri)
      have e : ov r.a = .non := by rw [ha]; rfl
      have mk := made_type (aC := aC) (H := H3) (r := r) hok (Q := fun y H4 => ∃ acc, H4 D = some (HO.lst acc) ∧ acc.length < sizeLine ∧ Same H (upd H4 D (.lst (acc ++ [y]))) ∧ ∃ ts : List Addr, upd H4 D (.lst (acc ++ [y])) D = some (.lst (ts.map V.ref)) ∧ Paired (TypeAt aC (upd H4 D (.lst (acc ++ [y])))) ts (houseR.take (i + 1))) fun H4 y sm4 hy hty => by
        have ht : ts.length = i := by rw [hp2.length, l1]
        have hyD : y ≠ D := fun z => by rw [z, hD2] at hy; cases hy
        refine ⟨_, sm4 _ _ hD2, by rw [List.length_map, ht]; exact small1000 (by have : houseR.length = 17 := rfl; omega), fun b o hb => ?_, ts ++ [y], ?_, ?_⟩
        · rw [upd_ne (ne_of_none hb hD)]
          exact sm4 _ _ (sm2 b o hb)
        · rw [upd_same, List.map_append]
          rfl
        · rw [List.take_add_one, hri]
          have up : ∀ p r', TypeAt aC H3 p r' → TypeAt aC (upd H4 D (.lst (ts.map V.ref ++ [V.ref y]))) p r' := fun p r' ⟨dx, z⟩ => ⟨dx, by
            rw [upd_ne (fun zz => by rw [zz, hD2] at z; cases z)]
            exact sm4 _ _ z⟩
          refine paired_app (Paired.mapP hp2 fun p r' z => up p r' z) (.cons ?_ .nil)
          obtain ⟨dx, z⟩ := hty
          exact ⟨dx, by rw [upd_ne hyD]; exact z⟩
      rw [e] at mk
      exact mk
    · rintro H2 ⟨sm2, ts, hD2, hp2⟩
      rw [el, List.take_length] at hp2
      refine ⟨D, _, rfl, .inl ⟨SqL.of hD2, fun l hl => q _ l (fun b o z => same_new hl b o (sm2 b o z)) ⟨ts, upd_same, Paired.mapP hp2 fun p r z => TypeAt.up (same_new hl) z⟩⟩⟩
end
end Bw

set_option exponentiation.threshold 4000
namespace Bw
open PySem PySem.Spec L2 TL PyProof.Rows

/-! ### the law's dice -/
def DiceAt (H : Hp) (d : Addr) : Prop := ∃ a b c : Int, H d = some (.lst [.int a, .int b, .int c])
/-- all but the dice is as it was -/
def Moved (d : Addr) (H H' : Hp) : Prop := (∀ b o, b ≠ d → H b = some o → H' b = some o) ∧ DiceAt H' d
theorem Moved.trans {d : Addr} {H H1 H2 : Hp} (a : Moved d H H1) (b : Moved d H1 H2) : Moved d H H2 := ⟨fun x o n h => b.1 x o n (a.1 x o n h), b.2⟩
theorem Moved.same {d : Addr} {H H1 : Hp} (h : DiceAt H d) (a : Same H H1) : Moved d H H1 := ⟨fun x o _ h => a x o h, by
  obtain ⟨x, y, z, e⟩ := h
  exact ⟨x, y, z, a _ _ e⟩⟩
theorem Moved.refl {d : Addr} {H : Hp} (h : DiceAt H d) : Moved d H H := Moved.same h (Same.refl H)
theorem DiceAt.same {d : Addr} {H H1 : Hp} (h : DiceAt H d) (a : Same H H1) : DiceAt H1 d := (Moved.same h a).2
theorem DiceAt.ne {d p : Addr} {H : Hp} (h : DiceAt H d) (hp : H p = none) : d ≠ p := by
  obtain ⟨x, y, z, e⟩ := h
  exact ne_of_none e hp
theorem moved_upd {d : Addr} {H : Hp} {a b c : Int} : Moved d H (upd H d (.lst [.int a, .int b, .int c])) := ⟨fun x o n h => by rw [upd_ne n]; exact h, a, b, c, upd_same⟩

def spDice (K : PySem.W.Frag) : Sp := fun vs H Q _ => ∃ (a : Addr) (ns : List Int) (i : Nat), vs = [.ref a, .int i] ∧ SqL K H a (ns.map V.int) ∧
  ∀ p H', H p = none → Same H H' → DiceAt H' p → Q (.ref p) H'
def spRoll : Sp := fun vs H Q _ => ∃ (d : Addr) (n : Int), vs = [.ref d, .int n] ∧ 0 < n ∧ n < 1000000000 ∧ DiceAt H d ∧
  ∀ (r : Int) H', 0 ≤ r → r < n → Moved d H H' → Q (.int r) H'
def spOne : Sp := fun vs H Q _ => ∃ (d l : Addr) (xs : List V), vs = [.ref d, .ref l] ∧ H l = some (.lst xs) ∧ l ≠ d ∧ xs ≠ [] ∧ xs.length < 1000000000 ∧ DiceAt H d ∧
  ∀ v H', v ∈ xs → Moved d H H' → Q v H'
section
variable {P : Program} {w : World} {K : PySem.W.Frag} {mg : Str → Option Value} {base : Heap} {f : Addr} {fd : FuncData} {aK : Addr}
theorem pow60 : ((10 : Int) ^ (60 : Int).toNat) = 10 ^ 60 := rfl
theorem ok_law_dice (F : Fun K "_law_dice" "_law_dice" s_law_dice f fd) (T : Txt K mg aK) : FnOk P w K mg base CX0 1 f fd ["_law_script", "_law_at"] (spDice K) := by
  refine F.ok sc_law_dice (fun vs H Q E h => ?_) (fun cdv A outer s H vs Q E hr h => ?_)
  · obtain ⟨a, ns, i, rfl, _⟩ := h
    rfl
  · obtain ⟨a, ns, i, rfl, hS, q⟩ := h
    refine ⟨_, (pss_cons (ps_set (i := 2) sc_law_dice.nd rfl (Or.inl rfl) (pe_op op_add (pe_op op_mul pe_int (pv 1)) pe_int)) (pss_cons (ps_if (pt_cmpR op_lt (pv 1) (pe_callB (r := rLenQ K) call_lenQ (by rfl) T.b_len (by decide +kernel) (pa_cons (pv 0) pa_nil)) (nomark _)) (pss_one (ps_set (i := 2) sc_law_dice.nd rfl (Or.inl rfl) (pe_ix (r := rIxL K) ix_list (pv 0) (pv 1) (fun _ _ => rfl)))) pss_nil) (pss_cons (ps_set (i := 3) sc_law_dice.nd rfl (Or.inl rfl) (pe_op op_mod (pe_callTy call_int1 (by rfl) T.b_int (by decide +kernel) (pa_cons (pe_callB call_abs (by rfl) T.b_abs (by decide +kernel) (pa_cons (pv 2) pa_nil)) pa_nil)) (pe_op op_powW (pe_op op_pow pe_int pe_int) pe_int))) (pss_cons (ps_set (i := 4) sc_law_dice.nd rfl (Or.inl rfl) (pe_op op_fdivW (pv 3) (pe_op op_pow pe_int pe_int))) (pss_cons (ps_set (i := 5) sc_law_dice.nd rfl (Or.inl rfl) (pe_op op_add (pe_op op_add (pe_op op_add (pe_op op_mul (pe_op op_mod (pv 3) pe_int) pe_int) (pe_op op_mul pe_int (pv 1))) (pe_op op_mul pe_int (pe_callTy call_int1 (by rfl) T.b_int (by decide +kernel) (pa_cons (pe_cmpR op_lt (pv 2) pe_int (nomark _)) pa_nil)))) pe_int)) (pss_one (ps_ret (pe_lst (pa_cons (pv 4) (pa_cons (pe_op op_mod (pv 5) pe_int) (pa_cons pe_int pa_nil))))))))))), ?_⟩
    refine ⟨_, rfl, _, _, rfl, rfl, .inl ⟨by decide, by decide⟩, _, _, rfl, rfl, ?_⟩
    refine ⟨_, rfl, _, rfl, a, _, rfl, .inl hS, _, _, rfl, rfl, _, rfl, ?_⟩
    have hp60 : CPow 10 60 := ⟨by decide, by decide, by decide⟩
    have hp18 : CPow 10 18 := ⟨by decide, by decide, by decide⟩
    have hpW : CPowW ((10 : Int) ^ (60 : Int).toNat) 10 := ⟨by decide, by decide +kernel⟩
    have hps : (0 : Int) < ((10 : Int) ^ (60 : Int).toNat) ^ (10 : Int).toNat := by decide +kernel
    have hdW : ∀ g : Int, CDivW g ((10 : Int) ^ (18 : Int).toNat) := fun g => ⟨by decide +kernel, by decide +kernel⟩
    refine ite2 (fun hc => ?_) (fun _ => ?_)
    · have hlt : i < ns.length := by
        have := of_decide_eq_true hc
        rw [List.length_map] at this
        omega
      refine ⟨_, rfl, _, rfl, a, _, _, _, rfl, rfl, hS, atI_nat (j := i) (v := .int ns[i]) (by simp [hlt]), ?_⟩
      refine ⟨_, rfl, _, rfl, .inl ⟨_, rfl, _, _, rfl, rfl, hp60, _, _, rfl, rfl, hpW, _, _, rfl, rfl, hps, ?_⟩⟩
      refine ⟨_, rfl, _, _, rfl, rfl, hp18, _, _, rfl, rfl, hdW _, ?_⟩
      refine ⟨_, rfl, _, _, rfl, rfl, (by show (0 : Int) < 2147482763; decide), _, _, rfl, rfl, .inr ⟨by decide, by decide⟩, _, rfl, _, _, rfl, rfl, .inl ⟨by decide, by decide⟩, _, _, rfl, rfl, _, rfl, _, _, rfl, rfl, .inr ⟨_, rfl, _, _, rfl, rfl, .inl ⟨by decide, by decide⟩, _, _, rfl, rfl, _, _, rfl, rfl, ?_⟩⟩
      exact ⟨_, rfl, _, rfl, _, _, rfl, rfl, (by show (0 : Int) < 2147482739; decide), (by show 3 ≤ sizeLine; decide), fun p hp => q p _ hp (same_new hp) ⟨_, _, _, upd_same⟩⟩
    · refine ⟨_, rfl, _, rfl, .inl ⟨_, rfl, _, _, rfl, rfl, hp60, _, _, rfl, rfl, hpW, _, _, rfl, rfl, hps, ?_⟩⟩
      refine ⟨_, rfl, _, _, rfl, rfl, hp18, _, _, rfl, rfl, hdW _, ?_⟩
      refine ⟨_, rfl, _, _, rfl, rfl, (by show (0 : Int) < 2147482763; decide), _, _, rfl, rfl, .inr ⟨by decide, by decide⟩, _, rfl, _, _, rfl, rfl, .inl ⟨by decide, by decide⟩, _, _, rfl, rfl, _, rfl, _, _, rfl, rfl, .inr ⟨_, rfl, _, _, rfl, rfl, .inl ⟨by decide, by decide⟩, _, _, rfl, rfl, _, _, rfl, rfl, ?_⟩⟩
      exact ⟨_, rfl, _, rfl, _, _, rfl, rfl, (by show (0 : Int) < 2147482739; decide), (by show 3 ≤ sizeLine; decide), fun p hp => q p _ hp (same_new hp) ⟨_, _, _, upd_same⟩⟩
theorem emod_nn (a : Int) {n : Int} (h : 0 < n) : 0 ≤ a % n ∧ a % n < n := ⟨Int.emod_nonneg a (by omega), Int.emod_lt_of_pos a h⟩
theorem ok_law_roll (F : Fun K "_law_roll" "_law_roll" s_law_roll f fd) (T : Txt K mg aK) : FnOk P w K mg base CX0 1 f fd ["_law_dice_here", "_law_total"] spRoll := by
  refine F.ok sc_law_roll (fun vs H Q E h => ?_) (fun cdv A outer s H vs Q E hr h => ?_)
  · obtain ⟨d, n, rfl, _⟩ := h
    rfl
  · obtain ⟨d, n, rfl, h0, h1, ⟨a, b, c, hd⟩, q⟩ := h
    refine ⟨_, (pss_cons (ps_set (i := 2) sc_law_roll.nd rfl (Or.inl rfl) (pe_callTy call_int1 (by rfl) T.b_int (by decide +kernel) (pa_cons (pv 1) pa_nil))) (pss_cons (ps_if (pt_cmpR op_gt (pe_ix (r := rIxL K) ix_list (pv 0) pe_int (fun _ _ => rfl)) pe_int (nomark _)) (pss_cons (ps_set (i := 3) sc_law_roll.nd rfl (Or.inl rfl) (pe_op op_mod (pe_ix (r := rIxL K) ix_list (pv 0) pe_int (fun _ _ => rfl)) (pv 2))) (pss_cons (ps_asg (pe_op op_fdiv (pe_ix (r := rIxL K) ix_list (pv 0) pe_int (fun _ _ => rfl)) (pv 2)) (pg_sub (pv 0) pe_int set_list)) (pss_one (ps_ret (pe_callTy call_int1 (by rfl) T.b_int (by decide +kernel) (pa_cons (pv 3) pa_nil)))))) pss_nil) (pss_cons (ps_asg (pe_op op_add (pe_ix (r := rIxL K) ix_list (pv 0) pe_int (fun _ _ => rfl)) pe_int) (pg_sub (pv 0) pe_int set_list)) (pss_cons (ps_set (i := 4) sc_law_roll.nd rfl (Or.inl rfl) (pe_op op_mod (pe_op op_add (pe_ix (r := rIxL K) ix_list (pv 0) pe_int (fun _ _ => rfl)) (pe_op op_mul pe_int (pe_ix (r := rIxL K) ix_list (pv 0) pe_int (fun _ _ => rfl)))) pe_int)) (pss_cons (ps_set (i := 5) sc_law_roll.nd rfl (Or.inl rfl) (pe_op op_add (pe_op op_mul (pe_op op_mod (pe_op op_mul (pv 4) (pv 4)) pe_int) (pv 4)) (pe_op op_mul pe_int (pe_ix (r := rIxL K) ix_list (pv 0) pe_int (fun _ _ => rfl))))) (pss_cons (ps_set (i := 5) sc_law_roll.nd rfl (Or.inl rfl) (pe_op op_mod (pv 5) pe_int)) (pss_one (ps_ret (pe_callTy call_int1 (by rfl) T.b_int (by decide +kernel) (pa_cons (pe_op op_mod (pe_op op_fdiv (pv 5) pe_int) (pv 2)) pa_nil)))))))))), ?_⟩
    refine ⟨_, rfl, .inl ⟨_, rfl, ?_⟩⟩
    refine ⟨_, rfl, d, _, _, _, rfl, rfl, SqL.of hd, atI_nat (j := 0) rfl, _, _, rfl, rfl, _, rfl, ?_⟩
    refine ite2 (fun hc => ?_) (fun _ => ?_)
    · refine ⟨_, rfl, d, _, _, _, rfl, rfl, SqL.of hd, atI_nat (j := 0) rfl, _, rfl, _, _, rfl, rfl, h0, ?_⟩
      refine ⟨_, rfl, d, _, _, _, rfl, rfl, SqL.of hd, atI_nat (j := 0) rfl, _, rfl, _, _, rfl, rfl, ⟨h0, by omega⟩, ?_⟩
      refine ⟨_, rfl, d, _, _, 0, rfl, rfl, hd, rfl, ?_⟩
      obtain ⟨e1, e2⟩ := emod_nn a h0
      exact ⟨_, rfl, .inl ⟨_, rfl, q _ _ e1 e2 moved_upd⟩⟩
    · refine ⟨_, rfl, d, _, _, _, rfl, rfl, SqL.of hd, atI_nat (j := 2) rfl, _, _, rfl, rfl, ?_⟩
      refine ⟨_, rfl, d, _, _, 2, rfl, rfl, hd, rfl, ?_⟩
      have hd2 : upd H d (.lst [.int a, .int b, .int (c + 1)]) d = some (.lst [.int a, .int b, .int (c + 1)]) := upd_same
      refine ⟨_, rfl, d, _, _, _, rfl, rfl, SqL.of upd_same, atI_nat (j := 1) rfl, _, rfl, d, _, _, _, rfl, rfl, SqL.of upd_same, atI_nat (j := 2) rfl, _, _, rfl, rfl, .inl ⟨by decide, by decide⟩, _, _, rfl, rfl, _, _, rfl, rfl, (by show (0 : Int) < 2305843009213693951; decide), ?_⟩
      obtain ⟨e1, e2⟩ := emod_nn (b + 1000357 * (c + 1)) (n := 2305843009213693951) (by decide)
      refine ⟨_, rfl, _, rfl, _, _, rfl, rfl, .inl ⟨by omega, by omega⟩, _, _, rfl, rfl, (by show (0 : Int) < 2305843009213693921; decide), _, rfl, _, _, rfl, rfl, .inr ⟨by omega, by omega⟩, _, rfl, d, _, _, _, rfl, rfl, SqL.of upd_same, atI_nat (j := 2) rfl, _, _, rfl, rfl, .inl ⟨by decide, by decide⟩, _, _, rfl, rfl, ?_⟩
      refine ⟨_, rfl, _, _, rfl, rfl, (by show (0 : Int) < 2305843009213693907; decide), ?_⟩
      refine ⟨_, rfl, _, _, rfl, rfl, ⟨by decide, by decide⟩, _, rfl, _, _, rfl, rfl, h0, .inl ⟨_, rfl, ?_⟩⟩
      exact q _ _ (emod_nn _ h0).1 (emod_nn _ h0).2 moved_upd
theorem ok_law_one_of (F : Fun K "_law_one_of" "_law_one_of" s_law_one_of f fd) (T : Txt K mg aK) (D_law_roll : Dfn P w K mg base "_law_roll" 1 ["_law_dice_here", "_law_total"] spRoll) :
    FnOk P w K mg base CX0 2 f fd ["_law_dice_here", "_law_items"] spOne := by
  refine F.ok sc_law_one_of (fun vs H Q E h => ?_) (fun cdv A outer s H vs Q E hr h => ?_)
  · obtain ⟨d, l, xs, rfl, _⟩ := h
    rfl
  · obtain ⟨d, l, xs, rfl, hl, nld, hne, hlen, hd, q⟩ := h
    have hpos : 0 < xs.length := List.length_pos_iff.mpr hne
    refine ⟨_, (pss_one (ps_ret (pe_ix (r := rIxL K) ix_list (pv 1) (pe_d D_law_roll hr (by decide) (pa_cons (pv 0) (pa_cons (pe_callB (r := rLenQ K) call_lenQ (by rfl) T.b_len (by decide +kernel) (pa_cons (pv 1) pa_nil)) pa_nil))) (fun _ _ => rfl)))), ?_⟩
    refine ⟨_, rfl, _, rfl, _, rfl, l, _, rfl, .inl (SqL.of hl), d, _, rfl, by omega, by omega, hd, fun r H1 r0 r1 mv => ?_⟩
    obtain ⟨j, rfl⟩ := Int.eq_ofNat_of_zero_le r0
    have hj : j < xs.length := by omega
    exact ⟨l, xs, _, xs[j], rfl, rfl, SqL.of (mv.1 l _ nld hl), atI_nat (by simp [hj]), q _ _ (List.getElem_mem hj) mv⟩
end
end Bw

namespace Bw
open PySem PySem.Spec L2 TL PyProof.Rows

/-! ### sorted texts -/
def leS (a b : Str) : Prop := ltCps b.cps.toList a.cps.toList = false
theorem leS_iff {a b : Str} : leS a b ↔ a.cps.toList ≤ b.cps.toList := by
  unfold leS
  rw [ltCps_eq, decide_eq_false_iff_not, List.not_lt]
theorem leS_trans {a b c : Str} (h : leS a b) (k : leS b c) : leS a c := by
  rw [leS_iff] at h k ⊢
  exact List.le_trans h k
theorem leS_anti {a b : Str} (h : leS a b) (k : leS b a) : a = b := by
  rw [leS_iff] at h k
  exact ext_tl (List.le_antisymm h k)
theorem rising_pw : ∀ (l : List Str) (p : Str), risingS p l = true → (∀ y ∈ l, leS p y) ∧ l.Pairwise leS
  | [], p, _ => ⟨fun y hy => (by cases hy), .nil⟩
  | x :: r, p, h => by
    unfold risingS at h
    rw [Bool.and_eq_true, Bool.not_eq_true'] at h
    obtain ⟨h1, h2⟩ := h
    obtain ⟨i1, i2⟩ := rising_pw r x h2
    have hp : leS p x := h1
    refine ⟨fun y hy => ?_, .cons i1 i2⟩
    rcases List.mem_cons.mp hy with e | e
    · rw [e]; exact hp
    · exact leS_trans hp (i1 y e)
theorem sorted_pw {l : List Str} (h : sortedS l = true) : l.Pairwise leS := by
  cases l with
  | nil => exact .nil
  | cons x r =>
    obtain ⟨i1, i2⟩ := rising_pw r x h
    exact .cons i1 i2
theorem sorted_one {l m : List Str} (p : l.Perm m) (h : sortedS l = true) (k : sortedS m = true) : l = m :=
  p.eq_of_pairwise (fun a b _ _ x y => leS_anti x y) (sorted_pw h) (sorted_pw k)

theorem seqIx_nat {j n : Nat} (h : j < n) : seqIndex? (j : Int) n = some j := by
  unfold seqIndex?
  have h1 : ¬ ((j : Int) < 0) := by omega
  simp only [h1, if_false]
  rw [decide_eq_true (show (0 : Int) ≤ j by omega), decide_eq_true (show (j : Int) < n by omega)]
  rfl
theorem paired_of_map {α β γ : Type} {G : α → β → Prop} {G' : α → γ → Prop} {g : γ → β} (h : ∀ t x, G t (g x) → G' t x) : ∀ {ts : List α} {l : List γ}, Paired G ts (l.map g) → Paired G' ts l
  | ts, [], p => by cases p; exact .nil
  | ts, x :: r, p => by
    cases p with
    | cons a b => exact .cons (h _ _ a) (paired_of_map h b)
/-! ### the law's own: mixing, the house -/
def spMixed : Sp := fun vs H Q _ => ∃ (d l : Addr) (xs : List V), vs = [.ref d, .ref l] ∧ H l = some (.lst xs) ∧ l ≠ d ∧ xs.length ≤ 1000 ∧ DiceAt H d ∧
  ∀ H' p ys, Moved d H H' → H p = none → H' p = some (.lst ys) → (∀ y ∈ ys, y ∈ xs) → ys.length = xs.length → Q (.ref p) H'
def kindsD : List (Key × V) := houseR.map fun r => (Sum.inr r.n, V.str r.k)
def kw1 : Str := "below flag chosen exact grants flag ground link label text least number may exact member link"
def kw2 : Str := " most number of exact rank number to link unshared exact what exact who exact whom link"
def kw3 : Str := " without link"
def kwAll : Str := kw1 ++ kw2 ++ kw3 ++ ""
theorem kw_names : stepG (Txt.split kwAll " ") none 2 = houseN := by decide +kernel
theorem kw_kinds : stepG (Txt.split kwAll " ") (some 1) 2 = houseR.map (·.k) := by decide +kernel
theorem kw_len : kwAll.length + 2 ≤ sizeLine ∧ kw1.length + kw2.length ≤ sizeLine ∧ (kw1 ++ kw2).length + kw3.length ≤ sizeLine ∧ (kw1 ++ kw2 ++ kw3).length + ("" : Str).length ≤ sizeLine := by decide +kernel
theorem mergeK_house : mergeK [] kindsD = kindsD := by
  refine (mergeK_nd _ _ ?_).trans (List.nil_append _)
  decide +kernel
def spKinds : Sp := fun vs H Q _ => vs = [.int 2] ∧ ∀ H' p, Same H H' → H p = none → H' p = some (.dK kindsD) → Q (.ref p) H'
def spHouseL : Sp := fun vs H Q _ => vs = [] ∧ ∀ H' p, Same H H' → H p = none → H' p = some (.lst (houseN.map V.str)) → Q (.ref p) H'
section
variable {P : Program} {w : World} {K : PySem.W.Frag} {mg : Str → Option Value} {base : Heap} {f : Addr} {fd : FuncData} {aK aC aH aR : Addr}
theorem ok_law_mixed (F : Fun K "_law_mixed" "_law_mixed" s_law_mixed f fd) (T : Txt K mg aK) (D_law_roll : Dfn P w K mg base "_law_roll" 1 ["_law_dice_here", "_law_total"] spRoll) : FnOk P w K mg base CX0 2 f fd ["_law_dice_here", "_law_items"] spMixed := by
  refine F.ok sc_law_mixed (fun vs H Q E h => ?_) (fun cdv A outer s H vs Q E hr h => ?_)
  · obtain ⟨d, l, xs, rfl, _⟩ := h
    rfl
  · obtain ⟨d, l, xs, rfl, hl, nld, hlen, hd, q⟩ := h
    refine ⟨_, (pss_cons (ps_par (i := 2) (j := 3) (by rfl) sc_law_mixed.nd rfl rfl (by decide) rfl rfl (pa_cons (pe_callTy call_list_of (by rfl) T.b_list (by decide +kernel) (pa_cons (pv 1) pa_nil)) (pa_cons (pe_lst pa_nil) pa_nil)) (by rfl)) (pss_cons (ps_while PassesOwn.never (pt_cmpR (r := rNeNil K) (op_neNil hr.units0) (pv 2) (pe_lst pa_nil) (nomark _)) (pss_one (ps_expr (pe_bm PySem.F.plainAttrs_list PySem.F.slot_list_append PySem.F.type_list_append mt_append (pv 3) (pa_cons (pe_bm PySem.F.plainAttrs_list PySem.F.slot_list_pop PySem.F.type_list_pop mt_popAt (pv 2) (pa_cons (pe_d D_law_roll hr (by decide) (pa_cons (pv 0) (pa_cons (pe_callB (r := rLenQ K) call_lenQ (by rfl) T.b_len (by decide +kernel) (pa_cons (pv 2) pa_nil)) pa_nil))) pa_nil)) pa_nil))))) (pss_one (ps_ret (pv 3))))), ?_⟩
    refine ⟨_, rfl, l, xs, rfl, .inl (SqL.of hl), fun p hp => ⟨Nat.zero_le _, fun r hr2 => ⟨_, _, rfl, ?_⟩⟩⟩
    have npd : d ≠ p := hd.ne hp
    have sm0 : Same H (upd (upd H p (.lst xs)) r (.lst [])) := fun b o e => same_new hr2 b o (same_new hp b o e)
    have hrH : H r = none := by
      cases e : H r with
      | none => rfl
      | some o => rw [same_new hp _ _ e] at hr2; cases hr2
    have npr : p ≠ r := ne_of_none (o := .lst xs) upd_same hr2
    have ndr : d ≠ r := hd.ne hrH
    refine ⟨fun m σ H' => ∃ (a b : List V), σ = [some (.ref d), some (.ref l), some (.ref p), some (.ref r)] ∧ (∀ c o, c ≠ d → H c = some o → H' c = some o) ∧ DiceAt H' d ∧ H' p = some (.lst a) ∧ H' r = some (.lst b) ∧ m = a.length ∧ a.length + b.length = xs.length ∧ (∀ y ∈ a, y ∈ xs) ∧ ∀ y ∈ b, y ∈ xs,
      ⟨_, xs, [], rfl, fun c o _ e => sm0 c o e, hd.same sm0, by rw [upd_ne npr]; exact upd_same, upd_same, rfl, rfl, fun y hy => hy, fun y hy => (by cases hy)⟩, ?_⟩
    rintro m σ H' ⟨a, b, rfl, kp, hd', hpa, hrb, rfl, hsum, ha, hb⟩
    refine ⟨_, rfl, Nat.zero_le _, fun N hN => ⟨p, N, a, rfl, rfl, SqL.of (by rw [upd_ne (ne_of_none hpa hN)]; exact hpa), SqL.of upd_same, _, rfl, ?_⟩⟩
    have kp2 : ∀ c o, c ≠ d → H c = some o → (upd H' N (.lst [])) c = some o := fun c o n e => same_new hN c o (kp c o n e)
    have hpa2 : (upd H' N (.lst [])) p = some (.lst a) := same_new hN _ _ hpa
    have hrb2 : (upd H' N (.lst [])) r = some (.lst b) := same_new hN _ _ hrb
    have hd2 : DiceAt (upd H' N (.lst [])) d := hd'.same (same_new hN)
    by_cases hae : a = []
    · subst hae
      refine iteF ⟨_, rfl, q _ r b ⟨kp2, hd2⟩ hrH hrb2 hb ?_⟩
      rw [List.length_nil, Nat.zero_add] at hsum
      exact hsum
    · have hpos : 0 < a.length := List.length_pos_iff.mpr hae
      have e3 : (!a.isEmpty) = true := by
        cases a with
        | nil => exact absurd rfl hae
        | cons y ys => rfl
      rw [e3]
      refine iteT ⟨_, fun σ' H'' h => h, ?_⟩
      refine ⟨_, rfl, .inl ⟨rfl, _, .inl (.inl hrb2)⟩, ?_⟩
      refine ⟨_, rfl, .inl ⟨rfl, _, .inl (.inl hpa2)⟩, _, rfl, _, rfl, p, a, rfl, .inl (SqL.of hpa2), d, _, rfl, by omega, by omega, hd2, fun k H3 k0 k1 mv => ?_⟩
      obtain ⟨j, rfl⟩ := Int.eq_ofNat_of_zero_le k0
      have hj : j < a.length := by omega
      refine ⟨p, a, (j : Nat), j, a[j], rfl, rfl, mv.1 p _ (Ne.symm npd) hpa2, by omega, by omega, ?_, List.getElem?_eq_getElem hj, ?_⟩
      · exact seqIx_nat hj
      · have hp3 := mv.1 p _ (Ne.symm npd) hpa2
        have hr3 := mv.1 r _ (Ne.symm ndr) hrb2
        refine ⟨r, _, _, rfl, rfl, by rw [upd_ne (Ne.symm npr)]; exact hr3, small1000 (by omega), a.length - 1, by omega, a.eraseIdx j, b ++ [a[j]], rfl, fun c o n e => ?_, ?_, by rw [upd_ne npr]; exact upd_same, upd_same, ?_, ?_, fun y hy => ha y (List.mem_of_mem_eraseIdx hy), fun y hy => ?_⟩
        · have h1 : c ≠ p := fun z => by rw [z] at e; rw [e] at hp; cases hp
          have h2 : c ≠ r := fun z => by rw [z] at e; rw [e] at hrH; cases hrH
          rw [upd_ne h2, upd_ne h1]
          exact mv.1 c o n (kp2 c o n e)
        · obtain ⟨x1, x2, x3, e⟩ := mv.2
          exact ⟨x1, x2, x3, by rw [upd_ne ndr, upd_ne npd]; exact e⟩
        · rw [List.length_eraseIdx_of_lt hj]
        · rw [List.length_eraseIdx_of_lt hj, List.length_append, List.length_singleton]
          omega
        · rcases List.mem_append.mp hy with z | z
          · exact hb y z
          · rw [List.mem_singleton.mp z]
            exact ha _ (List.getElem_mem hj)
theorem ok_law_kinds (F : Fun K "_law_kinds" "_law_kinds" s_law_kinds f fd) (T : Txt K mg aK) : FnOk P w K mg base CX0 1 f fd ["_law_way"] spKinds := by
  refine F.ok sc_law_kinds (fun vs H Q E h => ?_) (fun cdv A outer s H vs Q E hr h => ?_)
  · obtain ⟨rfl, _⟩ := h
    rfl
  · obtain ⟨rfl, q⟩ := h
    obtain ⟨z1, z2, z3, z4⟩ := kw_len
    refine ⟨_, (pss_cons (ps_set (i := 1) sc_law_kinds.nd rfl (Or.inl rfl) pe_str) (pss_cons (ps_set (i := 1) sc_law_kinds.nd rfl (Or.inl rfl) (pe_op op_add_str (pv 1) pe_str)) (pss_cons (ps_set (i := 2) sc_law_kinds.nd rfl (Or.inl rfl) (pe_lst (pa_cons pe_str pa_nil))) (pss_cons (ps_set (i := 2) sc_law_kinds.nd rfl (Or.inl rfl) (pe_op op_cat (pv 2) (pe_lst (pa_cons pe_str (pa_cons pe_str pa_nil))))) (pss_cons (ps_set (i := 3) sc_law_kinds.nd rfl (Or.inl rfl) (pe_split (pe_op op_add_str (pe_op op_add_str (pv 1) pe_str) (pe_ix (r := rIxL K) ix_list (pv 2) (pv 0) (fun _ _ => rfl))) pe_str)) (pss_one (ps_ret (pe_callTy (call_dictP rfl) (by rfl) T.b_dict (by decide +kernel) (pa_cons (pe_listZip rfl (pa_cons (pe_step (pv 3) po_none (by decide)) (pa_cons (pe_step (pv 3) (po_some pe_int) (by decide)) pa_nil)) (by rfl) T.b_list (by rfl) T.b_zip) pa_nil))))))))), ?_⟩
    refine ⟨_, rfl, kw1, kw2, rfl, rfl, z2, ?_⟩
    refine ⟨by show 1 ≤ sizeLine; decide, fun p1 h1 => ?_⟩
    refine ⟨_, rfl, by show 2 ≤ sizeLine; decide, fun p2 h2 => ⟨p1, p2, _, _, rfl, rfl, (by rw [upd_ne (ne_of_none upd_same h2)]; exact upd_same), upd_same, by show 3 ≤ sizeLine; decide, fun p3 h3 => ?_⟩⟩
    refine ⟨_, rfl, kw1 ++ kw2, kw3, rfl, rfl, z3, _, rfl, _, rfl, p3, _, _, _, rfl, rfl, SqL.of upd_same, atI_nat (j := 2) rfl, kw1 ++ kw2 ++ kw3, "", rfl, rfl, z4, ⟨_, rfl⟩, kwAll, " ", rfl, rfl, by decide +kernel, z1, fun p4 h4 => ?_⟩
    generalize hH4 : upd (upd (upd (upd H p1 _) p2 _) p3 _) p4 _ = H4
    have sm4 : Same H H4 := fun b o e => by rw [← hH4]; exact same_new h4 _ _ (same_new h3 _ _ (same_new h2 _ _ (same_new h1 _ _ e)))
    have hw4 : H4 p4 = some (.lst ((Txt.split kwAll " ").map V.str)) := by rw [← hH4]; exact upd_same
    have eN : stepG ((Txt.split kwAll " ").map V.str) none 2 = houseN.map V.str := by rw [stepG_map, kw_names]
    have eK : stepG ((Txt.split kwAll " ").map V.str) (some 1) 2 = (houseR.map (·.k)).map V.str := by rw [stepG_map, kw_kinds]
    refine ⟨_, rfl, p4, _, rfl, SqL.of hw4, fun p5 h5 => ?_⟩
    rw [eN]
    refine ⟨_, rfl, 1, rfl, p4, _, rfl, SqL.of (same_new h5 _ _ hw4), fun p6 h6 => ?_⟩
    rw [eK]
    refine ⟨p5, p6, _, _, rfl, SqL.of (same_new h6 _ _ upd_same), SqL.of upd_same, rfl, fun H' p7 ts smz n7 nts nin hp7 hpair => ?_⟩
    have sm7 : Same H H' := fun b o e => smz b o (same_new h6 _ _ (same_new h5 _ _ (sm4 b o e)))
    refine ⟨p7, ts, kindsD, rfl, SqL.of hp7, ?_, fun p8 h8 => ?_⟩
    · have ez : (houseN.map V.str).zip ((houseR.map (·.k)).map V.str) = kindsD.map fun kv => (kV kv.1, kv.2) := by decide +kernel
      rw [ez] at hpair
      exact paired_of_map (fun t kv z => SqT.of z) hpair
    · rw [mergeK_house]
      refine q _ p8 (fun b o e => same_new h8 b o (sm7 b o e)) ?_ upd_same
      cases ez : H p8 with
      | none => rfl
      | some o => rw [sm7 _ _ ez] at h8; cases h8
theorem ok_law_house (F : Fun K "_law_house" "_law_house" s_law_house f fd) (T : Txt K mg aK) (D_law_kinds : Dfn P w K mg base "_law_kinds" 1 ["_law_way"] spKinds) : FnOk P w K mg base CX0 2 f fd [] spHouseL := by
  refine F.ok sc_law_house (fun vs H Q E h => ?_) (fun cdv A outer s H vs Q E hr h => ?_)
  · obtain ⟨rfl, _⟩ := h
    rfl
  · obtain ⟨rfl, q⟩ := h
    refine ⟨_, (pss_one (ps_ret (pe_callB (call_sortedD rfl) (by rfl) T.b_sorted (by decide +kernel) (pa_cons (pe_d D_law_kinds hr (by decide) (pa_cons pe_int pa_nil)) pa_nil)))), ?_⟩
    refine ⟨rfl, fun H1 p sm hp hd => ⟨p, kindsD, houseN, rfl, .inl hd, rfl, by decide, fun ys p2 pm hs hp2 => ?_⟩⟩
    have e : ys = houseN := sorted_one pm hs (by decide +kernel)
    rw [e]
    refine q _ p2 (fun b o z => same_new hp2 b o (sm b o z)) ?_ upd_same
    cases ez : H p2 with
    | none => rfl
    | some o => rw [sm _ _ ez] at hp2; cases hp2
end
end Bw

namespace Bw
open PySem PySem.Spec L2 TL PyProof.Rows

def spMadeL (aC : Addr) : Sp := fun vs H Q _ => ∃ (l : Addr) (rs : List Ro), vs = [.ref l] ∧ RowsAt H l rs ∧ (∀ r ∈ rs, OkRo r) ∧ rs.length ≤ 1000 ∧ ∀ H' p, Same H H' → TypesAt aC H' p rs → Q (.ref p) H'
def spReached : Sp := fun vs H Q _ => ∃ (l : Addr) (rs : List Ro) (x : Str), vs = [.ref l, .str x] ∧ RowsAt H l rs ∧ rs.length ≤ 1000 ∧ ClosedK (abR rs) ∧ x ∈ nmR rs ∧
  ∀ H' p ys, Same H H' → H' p = some (.lst ys) → ys.length = upN (upF (abR rs)) 6 x → Q (.ref p) H'
def spIsRing : Sp := fun vs H Q _ => ∃ (l : Addr) (rs : List Ro) (x : Str), vs = [.ref l, .str x] ∧ RowsAt H l rs ∧ rs.length ≤ 1000 ∧ ClosedK (abR rs) ∧ x ∈ nmR rs ∧
  ∀ H', Same H H' → Q (.bl (itF (upF (abR rs)) (rs.length + 1) x).isSome) H'
def spLFault : Sp := fun vs H Q _ => ∃ (l : Addr) (rs : List Ro), vs = [.ref l] ∧ RowsAt H l rs ∧ rs.length ≤ 1000 ∧ ∀ H' v, Same H H' → FaultV H' v (faultR rs) → Q v H'
/-- the items of a list of rows -/
structure RowIs (H : Hp) (p : Addr × Ro) : Prop where
  at_ : RowAt H p.1 p.2
theorem rows_zip {H : Hp} {l : Addr} {rs : List Ro} (h : RowsAt H l rs) : ∃ zs : List (Addr × Ro), H l = some (.lst (zs.map fun z => V.ref z.1)) ∧ zs.map (·.2) = rs ∧ ∀ z ∈ zs, RowAt H z.1 z.2 := by
  obtain ⟨ts, h1, h2⟩ := h
  have : ∀ {ts : List Addr} {rs : List Ro}, Paired (RowAt H) ts rs → ∃ zs : List (Addr × Ro), ts = zs.map (·.1) ∧ zs.map (·.2) = rs ∧ ∀ z ∈ zs, RowAt H z.1 z.2 := by
    intro ts rs p
    induction p with
    | nil => exact ⟨[], rfl, rfl, fun z hz => by cases hz⟩
    | @cons a b l1 l2 r t ih =>
      obtain ⟨zs, e1, e2, e3⟩ := ih
      refine ⟨(a, b) :: zs, by rw [e1]; rfl, by rw [← e2]; rfl, fun z hz => ?_⟩
      rcases List.mem_cons.mp hz with e | e
      · rw [e]; exact r
      · exact e3 z e
  obtain ⟨zs, e1, e2, e3⟩ := this h2
  refine ⟨zs, ?_, e2, e3⟩
  rw [h1, e1, List.map_map]
  rfl
theorem keepR_type {aC : Addr} : KeepR (fun H (z : Addr × Ro) v => ∃ p, v = V.ref p ∧ TypeAt aC H p z.2) := by
  rintro H H' D x v ⟨l, hD⟩ k ⟨p, rfl, dx, h⟩
  exact ⟨p, rfl, dx, k _ _ (fun z => by rw [z, hD] at h; cases h) h⟩
theorem keepR_pair {g : Ro → V} : KeepR (fun H (z : Addr × Ro) v => ∃ p, v = V.ref p ∧ H p = some (.tup [.str z.2.n, g z.2])) := by
  rintro H H' D x v ⟨l, hD⟩ k ⟨p, rfl, h⟩
  exact ⟨p, rfl, k _ _ (fun z => by rw [z, hD] at h; cases h) h⟩
theorem filter_true {α : Type} (l : List α) : l.filter (fun _ => true) = l := List.filter_eq_self.mpr fun _ _ => rfl
theorem paired_refs {α : Type} {G : α → Addr → Prop} : ∀ {l : List α} {ys : List V}, Paired (fun x v => ∃ p, v = V.ref p ∧ G x p) l ys → ∃ ps : List Addr, ys = ps.map V.ref ∧ Paired (fun p x => G x p) ps l
  | _, _, .nil => ⟨[], rfl, .nil⟩
  | _, _, .cons ⟨p, e, h⟩ t => by
    obtain ⟨ps, e1, e2⟩ := paired_refs t
    exact ⟨p :: ps, by rw [e, e1]; rfl, .cons h e2⟩
theorem paired_map_r {α β γ : Type} {G : α → γ → Prop} {g : β → γ} : ∀ {l : List α} {m : List β}, Paired (fun a b => G a (g b)) l m → Paired G l (m.map g)
  | _, _, .nil => .nil
  | _, _, .cons r t => .cons r (paired_map_r t)
theorem ab_zip {zs : List (Addr × Ro)} {rs : List Ro} (ez : zs.map (·.2) = rs) : mergeK [] (zs.map fun z => ((Sum.inr z.2.n : Key), ov z.2.a)) = abR rs := by
  unfold abR
  rw [← ez, List.map_map]
  rfl
theorem kd_zip {zs : List (Addr × Ro)} {rs : List Ro} (ez : zs.map (·.2) = rs) : mergeK [] (zs.map fun z => ((Sum.inr z.2.n : Key), V.str z.2.k)) = kdR rs := by
  unfold kdR
  rw [← ez, List.map_map]
  rfl
/-- one step upward -/
theorem up_step {kvs : List (Key × V)} (hc : ClosedK kvs) {y : Str} {v : V} (h : valV kvs (Sum.inr y) = some v) : (v = ov (upF kvs y)) ∧ ∀ z, upF kvs y = some z → ∃ v', valV kvs (Sum.inr z) = some v' := by
  rcases hc y v h with rfl | ⟨z, v', rfl, hz⟩
  · have e : upF kvs y = none := by unfold upF; rw [h]
    rw [e]
    exact ⟨rfl, fun z hz => by cases hz⟩
  · have e : upF kvs y = some z := by unfold upF; rw [h]
    rw [e]
    exact ⟨rfl, fun z2 hz2 => by cases hz2; exact ⟨v', hz⟩⟩
section
variable {P : Program} {w : World} {K : PySem.W.Frag} {mg : Str → Option Value} {base : Heap} {f : Addr} {fd : FuncData} {aK aC aH aR : Addr}
theorem ok_law_made_types (F : Fun K "_law_made_types" "_law_made_types" s_law_made_types f fd) (T : Txt K mg aK) (MK : MkT P w K mg base aC 4 ["self", "name", "kind", "above", "single"] (spTInit aC)) : FnOk P w K mg base CX0 6 f fd ["_law_rows"] (spMadeL aC) := by
  refine F.ok sc_law_made_types (fun vs H Q E h => ?_) (fun cdv A outer s H vs Q E hr h => ?_)
  · obtain ⟨l, rs, rfl, _⟩ := h
    rfl
  · obtain ⟨l, rs, rfl, hrows, hok, hl, q⟩ := h
    obtain ⟨zs, hz, ez, hzs⟩ := rows_zip hrows
    have hlen : zs.length = rs.length := by rw [← ez, List.length_map]
    refine ⟨_, (pss_one (ps_ret (pe_callTy call_tuple_of (by rfl) T.b_tuple (by decide +kernel) (pa_cons (pe_lc (own := [("_law_row", 1)]) (g := gName 1) (by rfl) sc_law_made_types.nd (pi_list (pv 0)) (blkOk_by (own := [("_law_row", 1)]) (N := n_law_made_types) (sc := defScope s_law_made_types) (by decide +kernel)) (fun _ _ _ _ _ => pg_name (i := 1) sc_law_made_types.nd rfl (Or.inl rfl)) (fun _ _ _ _ _ => pts_nil) (fun _ _ _ _ _ => (pe_mk3 MK hr (by decide) (pa_cons (pe_ix (r := rIxT K) ix_tup (pv 1) pe_int (fun _ _ => rfl)) (pa_cons (pe_ix (r := rIxT K) ix_tup (pv 1) pe_int (fun _ _ => rfl)) (pa_cons (pe_ix (r := rIxT K) ix_tup (pv 1) pe_int (fun _ _ => rfl)) pa_nil))) (pk_cons (pe_ix (r := rIxT K) ix_tup (pv 1) pe_int (fun _ _ => rfl)) pk_nil)))) pa_nil)))), ?_⟩
    refine ⟨_, rfl, l, rfl, ⟨_, SqL.of hz⟩, fun D hD => lc_gen (walk_list (K := K) (a := l) (xs := zs.map fun z => V.ref z.1)) (fun _ => true) _ (keepR_type (aC := aC)) hD (by omega) (fun H' sm => SqL.of (sm _ _ hz)) ?_ ?_⟩
    · intro z H2 N Y hzm sm _ _ hy
      have hrow := sm _ _ (hzs z hzm)
      have ho : OkRo z.2 := hok _ (by rw [← ez]; exact List.mem_map_of_mem hzm)
      refine ⟨rfl, ?_⟩
      unfold tYes
      refine iteT ⟨_, rfl, z.1, _, _, _, rfl, rfl, SqT.of hrow, atI_nat (j := 0) rfl, _, rfl, z.1, _, _, _, rfl, rfl, SqT.of hrow, atI_nat (j := 1) rfl, _, rfl, z.1, _, _, _, rfl, rfl, SqT.of hrow, atI_nat (j := 2) rfl, _, rfl, z.1, _, _, _, rfl, rfl, SqT.of hrow, atI_nat (j := 3) rfl, rfl, rfl, ?_⟩
      exact made_type ho fun H' p sm' hp ht => hy rfl H' (.ref p) sm' ⟨p, rfl, ht⟩
    · intro H' ys sm hD' hp
      rw [filter_true] at hp
      obtain ⟨ps, rfl, hps⟩ := paired_refs hp
      have hps2 : Paired (TypeAt aC H') ps rs := by
        rw [← ez]
        exact paired_map_r hps
      exact ⟨D, _, rfl, .inl ⟨SqL.of hD', fun t ht => q _ t (fun b o e => same_new ht b o (sm b o e)) ⟨ps, upd_same, Paired.mapP hps2 fun p r z => TypeAt.up (same_new ht) z⟩⟩⟩
theorem ok_law_is_ring (F : Fun K "_law_is_ring" "_law_is_ring" s_law_is_ring f fd) (T : Txt K mg aK) : FnOk P w K mg base CX0 1 f fd ["_law_rows", "_law_name"] spIsRing := by
  refine F.ok sc_law_is_ring (fun vs H Q E h => ?_) (fun cdv A outer s H vs Q E hr h => ?_)
  · obtain ⟨l, rs, x, rfl, _⟩ := h
    rfl
  · obtain ⟨l, rs, x, rfl, hrows, hl, hc, hx, q⟩ := h
    obtain ⟨zs, hz, ez, hzs⟩ := rows_zip hrows
    have hlen : zs.length = rs.length := by rw [← ez, List.length_map]
    refine ⟨_, (pss_cons (ps_par (i := 2) (j := 3) (by rfl) sc_law_is_ring.nd rfl rfl (by decide) rfl rfl (pa_cons (pe_callTy (call_dictP rfl) (by rfl) T.b_dict (by decide +kernel) (pa_cons (pe_lc (own := [("_law_row", 5)]) (g := gName 5) (by rfl) sc_law_is_ring.nd (pi_list (pv 0)) (blkOk_by (own := [("_law_row", 5)]) (N := n_law_is_ring) (sc := defScope s_law_is_ring) (by decide +kernel)) (fun _ _ _ _ _ => pg_name (i := 5) sc_law_is_ring.nd rfl (Or.inl rfl)) (fun _ _ _ _ _ => pts_nil) (fun _ _ _ _ _ => (pe_tup (pa_cons (pe_ix (r := rIxT K) ix_tup (pv 5) pe_int (fun _ _ => rfl)) (pa_cons (pe_ix (r := rIxT K) ix_tup (pv 5) pe_int (fun _ _ => rfl)) pa_nil))))) pa_nil)) (pa_cons (pv 1) pa_nil)) (by rfl)) (pss_cons (ps_for PassesOwn.never rfl (pi_range1 (by rfl) T.b_range (pa_cons (pe_op op_add (pe_callB (r := rLenQ K) call_lenQ (by rfl) T.b_len (by decide +kernel) (pa_cons (pv 0) pa_nil)) pe_int) pa_nil)) (pg_name (i := 4) sc_law_is_ring.nd rfl (Or.inl rfl)) (pss_one (ps_set (i := 3) sc_law_is_ring.nd rfl (Or.inl rfl) (pe_ifExp (pt_cmpR op_notN (pv 3) pe_non (nomark _)) (pe_dget (hu_of hr) (pv 2) (pv 3) (fun _ _ => rfl)) pe_non)))) (pss_one (ps_ret (pe_cmpR op_notN (pv 3) pe_non (nomark _)))))), ?_⟩
    refine ⟨_, rfl, l, rfl, ⟨_, SqL.of hz⟩, fun D hD => lc_gen (walk_list (K := K) (a := l) (xs := zs.map fun z => V.ref z.1)) (fun _ => true) _ (keepR_pair (g := fun r => ov r.a)) hD (by omega) (fun H' sm => SqL.of (sm _ _ hz)) ?_ ?_⟩
    · intro z H2 N Y hzm sm _ _ hy
      have hrow := sm _ _ (hzs z hzm)
      refine ⟨rfl, ?_⟩
      unfold tYes
      refine iteT ⟨_, rfl, z.1, _, _, _, rfl, rfl, SqT.of hrow, atI_nat (j := 0) rfl, _, rfl, z.1, _, _, _, rfl, rfl, SqT.of hrow, atI_nat (j := 2) rfl, by show 2 ≤ sizeLine; decide, fun p hp => hy rfl _ _ (same_new hp) ⟨p, rfl, upd_same⟩⟩
    · intro H' ys sm hD' hp
      rw [filter_true] at hp
      obtain ⟨ps, rfl, hps⟩ := paired_refs hp
      refine ⟨D, ps, zs.map fun z => (Sum.inr z.2.n, ov z.2.a), rfl, SqL.of hD', paired_map_r (g := fun z : Addr × Ro => ((Sum.inr z.2.n : Key), ov z.2.a)) (Paired.mapP hps fun p z h => SqT.of h), fun A hA => ⟨_, rfl, _, _, rfl, ?_⟩⟩
      rw [ab_zip ez]
      have smA : Same H (upd H' A (.dK (abR rs))) := fun b o e => same_new hA b o (sm b o e)
      have hAd : (upd H' A (.dK (abR rs))) A = some (.dK (abR rs)) := upd_same
      generalize upd H' A (.dK (abR rs)) = H1 at smA hAd ⊢
      have en : (((zs.map fun z => V.ref z.1).length : Int) + 1).toNat = rs.length + 1 := by rw [List.length_map, hlen]; omega
      refine ⟨_, rfl, l, _, rfl, .inl (SqL.of (smA _ _ hz)), _, _, rfl, rfl, _, rfl, by rw [List.length_map]; omega, by rw [List.length_map]; omega,
        for_it walk_range (fun i σ H' => H' = H1 ∧ (∃ a4 a5, σ = [some (.ref l), some (.str x), some (.ref A), some (ov (itF (upF (abR rs)) i x)), a4, a5]) ∧ ∀ y, itF (upF (abR rs)) i x = some y → ∃ v, valV (abR rs) (Sum.inr y) = some v)
          ⟨rfl, ⟨_, _, rfl⟩, fun y e => by cases e; exact key_ab hx⟩ (fun _ _ _ _ _ => trivial) ?_ ?_⟩
      · rintro i v σ H2 H3 hi ⟨rfl, ⟨a4, a5, rfl⟩, hk⟩ ⟨rfl, rfl⟩
        refine ⟨_, rfl, rfl, _, rfl, ?_⟩
        cases e : itF (upF (abR rs)) i x with
        | none =>
          have e1 : itF (upF (abR rs)) (i + 1) x = none := by rw [itF_succ, e]; rfl
          refine iteF ⟨rfl, ?_, fun y e2 => ?_⟩
          · rw [e1]
            exact ⟨_, _, rfl⟩
          · rw [e1] at e2
            cases e2
        | some y =>
          obtain ⟨v', hv'⟩ := hk y e
          obtain ⟨u1, u2⟩ := up_step hc hv'
          refine iteT ⟨_, rfl, _, rfl, A, v', rfl, .inl ⟨abR rs, Sum.inr y, .inl hAd, rfl, hv'.symm⟩, rfl, ?_, fun z e2 => ?_⟩
          · have e1 : itF (upF (abR rs)) (i + 1) x = upF (abR rs) y := by rw [itF_succ, e]; rfl
            rw [e1, u1]
            exact ⟨_, _, rfl⟩
          · rw [itF_succ, e] at e2
            exact u2 z e2
      · rintro σ H2 ⟨rfl, ⟨a4, a5, rfl⟩, hk⟩
        rw [en]
        refine ⟨_, rfl, rfl, ?_⟩
        have ee : (!decide (ov (itF (upF (abR rs)) (rs.length + 1) x) = V.non)) = (itF (upF (abR rs)) (rs.length + 1) x).isSome := by
          cases itF (upF (abR rs)) (rs.length + 1) x <;> rfl
        show Q (.bl (!decide (ov (itF (upF (abR rs)) (rs.length + 1) x) = V.non))) _
        rw [ee]
        exact q _ smA
theorem ok_law_reached (F : Fun K "_law_reached" "_law_reached" s_law_reached f fd) (T : Txt K mg aK) : FnOk P w K mg base CX0 1 f fd ["_law_rows", "_law_name"] spReached := by
  refine F.ok sc_law_reached (fun vs H Q E h => ?_) (fun cdv A outer s H vs Q E hr h => ?_)
  · obtain ⟨l, rs, x, rfl, _⟩ := h
    rfl
  · obtain ⟨l, rs, x, rfl, hrows, hl, hc, hx, q⟩ := h
    obtain ⟨zs, hz, ez, hzs⟩ := rows_zip hrows
    have hlen : zs.length = rs.length := by rw [← ez, List.length_map]
    refine ⟨_, (pss_cons (ps_par (i := 2) (j := 3) (by rfl) sc_law_reached.nd rfl rfl (by decide) rfl rfl (pa_cons (pe_callTy (call_dictP rfl) (by rfl) T.b_dict (by decide +kernel) (pa_cons (pe_lc (own := [("_law_row", 4)]) (g := gName 4) (by rfl) sc_law_reached.nd (pi_list (pv 0)) (blkOk_by (own := [("_law_row", 4)]) (N := n_law_reached) (sc := defScope s_law_reached) (by decide +kernel)) (fun _ _ _ _ _ => pg_name (i := 4) sc_law_reached.nd rfl (Or.inl rfl)) (fun _ _ _ _ _ => pts_nil) (fun _ _ _ _ _ => (pe_tup (pa_cons (pe_ix (r := rIxT K) ix_tup (pv 4) pe_int (fun _ _ => rfl)) (pa_cons (pe_ix (r := rIxT K) ix_tup (pv 4) pe_int (fun _ _ => rfl)) pa_nil))))) pa_nil)) (pa_cons (pe_lst (pa_cons (pv 1) pa_nil)) pa_nil)) (by rfl)) (pss_cons (ps_while PassesOwn.never (PW.pt (pw_and (pt_cmpR op_lt (pe_callB (r := rLenQ K) call_lenQ (by rfl) T.b_len (by decide +kernel) (pa_cons (pv 3) pa_nil)) pe_int (nomark _)) (pw_and1 (pt_cmpR op_notN (pe_dget1 (hu_of hr) (pv 2) (pe_ix (r := rIxL K) ix_list (pv 3) (pe_un un_neg pe_int) (fun _ _ => rfl)) ⟨by rfl, by rfl, by rfl, by rfl⟩) pe_non (nomark _))))) (pss_one (ps_expr (pe_bm PySem.F.plainAttrs_list PySem.F.slot_list_append PySem.F.type_list_append mt_append (pv 3) (pa_cons (pe_dget (hu_of hr) (pv 2) (pe_ix (r := rIxL K) ix_list (pv 3) (pe_un un_neg pe_int) (fun _ _ => rfl)) (fun _ _ => rfl)) pa_nil))))) (pss_one (ps_ret (pv 3))))), ?_⟩
    refine ⟨_, rfl, l, rfl, ⟨_, SqL.of hz⟩, fun D hD => lc_gen (walk_list (K := K) (a := l) (xs := zs.map fun z => V.ref z.1)) (fun _ => true) _ (keepR_pair (g := fun r => ov r.a)) hD (by omega) (fun H' sm => SqL.of (sm _ _ hz)) ?_ ?_⟩
    · intro z H2 N Y hzm sm _ _ hy
      have hrow := sm _ _ (hzs z hzm)
      refine ⟨rfl, ?_⟩
      unfold tYes
      refine iteT ⟨_, rfl, z.1, _, _, _, rfl, rfl, SqT.of hrow, atI_nat (j := 0) rfl, _, rfl, z.1, _, _, _, rfl, rfl, SqT.of hrow, atI_nat (j := 2) rfl, by show 2 ≤ sizeLine; decide, fun p hp => hy rfl _ _ (same_new hp) ⟨p, rfl, upd_same⟩⟩
    · intro H' ys sm hD' hp
      rw [filter_true] at hp
      obtain ⟨ps, rfl, hps⟩ := paired_refs hp
      refine ⟨D, ps, zs.map fun z => (Sum.inr z.2.n, ov z.2.a), rfl, SqL.of hD', paired_map_r (g := fun z : Addr × Ro => ((Sum.inr z.2.n : Key), ov z.2.a)) (Paired.mapP hps fun p z h => SqT.of h), fun A hA => ⟨_, rfl, by show 1 ≤ sizeLine; decide, fun B hB => ⟨_, _, rfl, ?_⟩⟩⟩
      rw [ab_zip ez] at hB ⊢
      have hAd : (upd (upd H' A (.dK (abR rs))) B (.lst [V.str x])) A = some (.dK (abR rs)) := same_new hB _ _ upd_same
      have hBd : (upd (upd H' A (.dK (abR rs))) B (.lst [V.str x])) B = some (.lst [V.str x]) := upd_same
      have smA : Same H (upd (upd H' A (.dK (abR rs))) B (.lst [V.str x])) := fun b o e => same_new hB b o (same_new hA b o (sm b o e))
      have hB0 : H B = none := by
        cases e : H B with
        | none => rfl
        | some o => rw [same_new hA _ _ (sm _ _ e)] at hB; cases hB
      have hAB : A ≠ B := ne_of_none upd_same hB
      generalize upd (upd H' A (.dK (abR rs))) B (.lst [V.str x]) = H1 at smA hAd hBd ⊢
      refine ⟨fun m σ H' => ∃ (pre : List V) (y : Str) (v : V) (a4 : Option V), σ = [some (.ref l), some (.str x), some (.ref A), some (.ref B), a4] ∧ (∀ b o, b ≠ B → H1 b = some o → H' b = some o) ∧ H' B = some (.lst (pre ++ [.str y])) ∧ valV (abR rs) (Sum.inr y) = some v ∧ pre.length ≤ 5 ∧ m = 6 - pre.length ∧ pre.length + upN (upF (abR rs)) (6 - pre.length) y = upN (upF (abR rs)) 6 x, ?_, ?_⟩
      · obtain ⟨v, hv⟩ := key_ab hx
        exact ⟨_, [], x, v, _, rfl, fun b o _ e => e, hBd, hv, by decide, rfl, by rw [List.length_nil, Nat.zero_add]⟩
      · rintro m σ H2 ⟨pre, y, v, a4, rfl, kp, hB2, hv, hpl, rfl, htot⟩
        have hA2 := kp _ _ hAB hAd
        have sm2 : Same H H2 := fun b o e => kp b o (ne_of_none e hB0) (smA b o e)
        have hlen2 : (pre ++ [V.str y]).length = pre.length + 1 := by rw [List.length_append]; rfl
        have ek : 6 - pre.length = (6 - (pre.length + 1)) + 1 := by omega
        have htot2 : pre.length + (1 + match upF (abR rs) y with | none => 0 | some z => upN (upF (abR rs)) (6 - (pre.length + 1)) z) = upN (upF (abR rs)) 6 x := by
          rw [ek] at htot
          exact htot
        refine ⟨_, rfl, B, _, rfl, .inl (SqL.of hB2), _, _, rfl, rfl, _, rfl, ?_⟩
        obtain ⟨u1, u2⟩ := up_step hc hv
        by_cases h5 : pre.length < 5
        · rw [show decide (((pre ++ [V.str y]).length : Int) < 6) = true from decide_eq_true (by rw [hlen2]; omega)]
          refine iteT ⟨_, rfl, A, rfl, .inl ⟨_, .inl hA2⟩, _, rfl, _, rfl, B, _, _, _, rfl, rfl, SqL.of hB2, atI_last _ _, some v, .inl ⟨abR rs, Sum.inr y, .inl hA2, rfl, hv.symm⟩, rfl, _, rfl, ?_⟩
          cases e : upF (abR rs) y with
          | none =>
            rw [e] at u1 htot2
            subst u1
            refine iteF ⟨_, rfl, q H2 B _ sm2 hB2 ?_⟩
            rw [hlen2, ← htot2]
            rfl
          | some z =>
            rw [e] at u1 htot2
            subst u1
            obtain ⟨v2, hv2⟩ := u2 z e
            refine iteT ⟨_, fun σ' H' h => h, ?_⟩
            refine ⟨_, rfl, .inl ⟨rfl, _, .inl (.inl hB2)⟩, _, rfl, _, rfl, _, rfl, B, _, _, _, rfl, rfl, SqL.of hB2, atI_last _ _, A, _, rfl, .inl ⟨abR rs, Sum.inr y, .inl hA2, rfl, hv.symm⟩, B, _, _, rfl, rfl, hB2, small1000 (by omega), 6 - (pre.length + 1), by omega, pre ++ [V.str y], z, v2, _, rfl, fun b o n e2 => ?_, upd_same, hv2, by omega, by rw [hlen2], ?_⟩
            · rw [upd_ne n]
              exact kp b o n e2
            · rw [hlen2, ← htot2]
              show pre.length + 1 + upN (upF (abR rs)) (6 - (pre.length + 1)) z = pre.length + (1 + upN (upF (abR rs)) (6 - (pre.length + 1)) z)
              omega
        · rw [show decide (((pre ++ [V.str y]).length : Int) < 6) = false from decide_eq_false (by rw [hlen2]; omega)]
          refine iteF (iteF ⟨_, rfl, q H2 B _ sm2 hB2 ?_⟩)
          have e5 : 6 - (pre.length + 1) = 0 := by omega
          rw [e5] at htot2
          rw [hlen2, ← htot2]
          cases upF (abR rs) y <;> rfl
end
end Bw

namespace Bw
open PySem PySem.Spec L2 TL PyProof.Rows
/-- what a test of one name, or the next list, is: an end, or the way on -/
theorem map_filter_id {α : Type} (l : List α) (q : α → Bool) (f : α → V) : (l.filter q).map f = (l.filter q).map f := rfl
theorem filter_zip {zs : List (Addr × Ro)} {rs : List Ro} (ez : zs.map (·.2) = rs) (q : Ro → Bool) (g : Ro → V) : ((zs.filter fun z => q z.2).map fun z => g z.2) = (rs.filter q).map g := by
  rw [← ez]
  clear ez
  induction zs with
  | nil => rfl
  | cons z r ih =>
    cases e : q z.2 with
    | true =>
      rw [List.map_cons, List.filter_cons_of_pos (by exact e), List.filter_cons_of_pos e, List.map_cons, List.map_cons, ih]
    | false =>
      rw [List.map_cons, List.filter_cons_of_neg (by rw [e]; exact Bool.false_ne_true), List.filter_cons_of_neg (by rw [e]; exact Bool.false_ne_true), ih]
theorem bad_if {K : PySem.W.Frag} {code : Str} {σ : L2.St} {H : Hp} {E : Ends} {D2 : Addr} {bad : List Str} (hσ : σ[2]? = some (some (.ref D2))) (hD : H D2 = some (.lst (bad.map V.str)))
    (hyes : bad ≠ [] → ∀ H' v, Same H H' → FaultV H' v (some (code, minS bad)) → E.rt v H') (hno : bad = [] → ∀ H', Same H H' → E.nx σ H') :
    tIfS (tTest (tOp (rNeNil K) (tVar 2) (tLst tNil))) (tRet (tTup (tCons (tC (.str code)) (tCons (tCB (rMinS K) (tCons (tVar 2) tNil)) tNil)))) tNext E σ H := by
  refine ⟨_, hσ, Nat.zero_le _, fun N hN => ⟨D2, N, _, rfl, rfl, SqL.of (same_new hN _ _ hD), SqL.of upd_same, _, rfl, ?_⟩⟩
  by_cases hne : bad = []
  · rw [hne]
    exact iteF (hno hne _ (same_new hN))
  · have e3 : (!(bad.map V.str).isEmpty) = true := by
      cases bad with
      | nil => exact absurd rfl hne
      | cons y ys => rfl
    rw [e3]
    refine iteT ⟨_, hσ, D2, bad, rfl, SqL.of (same_new hN _ _ hD), hne, by show 2 ≤ sizeLine; decide, fun U hU => ?_⟩
    exact hyes hne _ _ (fun b o z => same_new hU b o (same_new hN b o z)) ⟨U, rfl, upd_same⟩
section
variable {P : Program} {w : World} {K : PySem.W.Frag} {mg : Str → Option Value} {base : Heap} {f : Addr} {fd : FuncData} {aK aC aH aR : Addr}
theorem ok_law_types_fault (F : Fun K "_law_types_fault" "_law_types_fault" s_law_types_fault f fd) (T : Txt K mg aK) (D_law_house : Dfn P w K mg base "_law_house" 2 [] spHouseL) (D_law_is_ring : Dfn P w K mg base "_law_is_ring" 1 ["_law_rows", "_law_name"] spIsRing)
    (D_law_reached : Dfn P w K mg base "_law_reached" 1 ["_law_rows", "_law_name"] spReached) : FnOk P w K mg base CX0 3 f fd ["_law_rows"] spLFault := by
  refine F.ok sc_law_types_fault (fun vs H Q E h => ?_) (fun cdv A outer s H vs Q E hr h => ?_)
  · obtain ⟨l, rs, rfl, _⟩ := h
    rfl
  · obtain ⟨l, rs, rfl, hrows, hl, q⟩ := h
    obtain ⟨zs, hz, ez, hzs⟩ := rows_zip hrows
    have hlen : zs.length = rs.length := by rw [← ez, List.length_map]
    have hn : (nmR rs).length = rs.length := List.length_map ..
    have enm : (zs.map fun z => V.str z.2.n) = (nmR rs).map V.str := by
      unfold nmR
      rw [← ez, List.map_map, List.map_map]
      rfl
    refine ⟨_, (pss_cons (ps_set (i := 1) sc_law_types_fault.nd rfl (Or.inr rfl) (pe_lc (own := [("_law_row", 4)]) (g := gName 4) (by rfl) sc_law_types_fault.nd (pi_list (pv 0)) (blkOk_by (own := [("_law_row", 4)]) (N := n_law_types_fault) (sc := defScope s_law_types_fault) (by decide +kernel)) (fun _ _ _ _ _ => pg_name (i := 4) sc_law_types_fault.nd rfl (Or.inl rfl)) (fun _ _ _ _ _ => pts_nil) (fun _ _ _ _ _ => (pe_ix (r := rIxT K) ix_tup (pv 4) pe_int (fun _ _ => rfl))))) (pss_cons (ps_setLc (i := 2) (own := [("_law_name", 5)]) (g := gName 5) (by rfl) sc_law_types_fault.nd rfl rfl (sw_true rfl rfl rfl (by decide +kernel)) (pi_list (pv 1)) (blkOk_by (own := [("_law_name", 5)]) (N := n_law_types_fault) (sc := defScope s_law_types_fault) (by decide +kernel)) (fun _ _ _ _ _ => pg_name (i := 5) sc_law_types_fault.nd rfl (Or.inl rfl)) (fun _ _ _ _ _ => (pts_one (PW.pt (pw_or (pt_cmpR op_gt (pe_count (K := K) rfl (pv 1) (pv 5)) pe_int (nomark _)) (pw_or1 (pt_cmpR (r := rIn K false) op_in_seq (pv 5) (pe_d0 D_law_house hr (by decide)) rfl)))))) (fun _ _ _ _ _ => (pv 5))) (pss_cons (ps_if (pt_cmpR (r := rNeNil K) (op_neNil hr.units0) (pv 2) (pe_lst pa_nil) (nomark _)) (pss_one (ps_ret (pe_tup (pa_cons pe_str (pa_cons (pe_callB (cr_minS rfl hr) (by rfl) T.b_min (by decide +kernel) (pa_cons (pv 2) pa_nil)) pa_nil))))) pss_nil) (pss_cons (ps_set (i := 3) sc_law_types_fault.nd rfl (Or.inr rfl) (pe_callTy (call_dictP rfl) (by rfl) T.b_dict (by decide +kernel) (pa_cons (pe_lc (own := [("_law_row", 4)]) (g := gName 4) (by rfl) sc_law_types_fault.nd (pi_list (pv 0)) (blkOk_by (own := [("_law_row", 4)]) (N := n_law_types_fault) (sc := defScope s_law_types_fault) (by decide +kernel)) (fun _ _ _ _ _ => pg_name (i := 4) sc_law_types_fault.nd rfl (Or.inl rfl)) (fun _ _ _ _ _ => pts_nil) (fun _ _ _ _ _ => (pe_tup (pa_cons (pe_ix (r := rIxT K) ix_tup (pv 4) pe_int (fun _ _ => rfl)) (pa_cons (pe_ix (r := rIxT K) ix_tup (pv 4) pe_int (fun _ _ => rfl)) pa_nil))))) pa_nil))) (pss_cons (ps_setLc (i := 2) (own := [("_law_row", 4)]) (g := gName 4) (by rfl) sc_law_types_fault.nd rfl rfl (sw_true rfl rfl rfl (by decide +kernel)) (pi_list (pv 0)) (blkOk_by (own := [("_law_row", 4)]) (N := n_law_types_fault) (sc := defScope s_law_types_fault) (by decide +kernel)) (fun _ _ _ _ _ => pg_name (i := 4) sc_law_types_fault.nd rfl (Or.inl rfl)) (fun _ _ _ _ _ => (pts_one (PW.pt (pw_and (pt_cmpR op_notN (pe_ix (r := rIxT K) ix_tup (pv 4) pe_int (fun _ _ => rfl)) pe_non (nomark _)) (pw_and1 (pt_cmpR op_ne (pe_dget1 (hu_of hr) (pv 3) (pe_ix (r := rIxT K) ix_tup (pv 4) pe_int (fun _ _ => rfl)) ⟨by rfl, by rfl, by rfl, by rfl⟩) (pe_ix (r := rIxT K) ix_tup (pv 4) pe_int (fun _ _ => rfl)) (nomark _))))))) (fun _ _ _ _ _ => (pe_ix (r := rIxT K) ix_tup (pv 4) pe_int (fun _ _ => rfl)))) (pss_cons (ps_if (pt_cmpR (r := rNeNil K) (op_neNil hr.units0) (pv 2) (pe_lst pa_nil) (nomark _)) (pss_one (ps_ret (pe_tup (pa_cons pe_str (pa_cons (pe_callB (cr_minS rfl hr) (by rfl) T.b_min (by decide +kernel) (pa_cons (pv 2) pa_nil)) pa_nil))))) pss_nil) (pss_cons (ps_setLc (i := 2) (own := [("_law_name", 5)]) (g := gName 5) (by rfl) sc_law_types_fault.nd rfl rfl (sw_true rfl rfl rfl (by decide +kernel)) (pi_list (pv 1)) (blkOk_by (own := [("_law_name", 5)]) (N := n_law_types_fault) (sc := defScope s_law_types_fault) (by decide +kernel)) (fun _ _ _ _ _ => pg_name (i := 5) sc_law_types_fault.nd rfl (Or.inl rfl)) (fun _ _ _ _ _ => (pts_one (pt_val (pe_d D_law_is_ring hr (by decide) (pa_cons (pv 0) (pa_cons (pv 5) pa_nil)))))) (fun _ _ _ _ _ => (pv 5))) (pss_cons (ps_if (pt_cmpR (r := rNeNil K) (op_neNil hr.units0) (pv 2) (pe_lst pa_nil) (nomark _)) (pss_one (ps_ret (pe_tup (pa_cons pe_str (pa_cons (pe_callB (cr_minS rfl hr) (by rfl) T.b_min (by decide +kernel) (pa_cons (pv 2) pa_nil)) pa_nil))))) pss_nil) (pss_cons (ps_setLc (i := 2) (own := [("_law_name", 5)]) (g := gName 5) (by rfl) sc_law_types_fault.nd rfl rfl (sw_true rfl rfl rfl (by decide +kernel)) (pi_list (pv 1)) (blkOk_by (own := [("_law_name", 5)]) (N := n_law_types_fault) (sc := defScope s_law_types_fault) (by decide +kernel)) (fun _ _ _ _ _ => pg_name (i := 5) sc_law_types_fault.nd rfl (Or.inl rfl)) (fun _ _ _ _ _ => (pts_one (pt_cmpR op_gt (pe_callB (r := rLenQ K) call_lenQ (by rfl) T.b_len (by decide +kernel) (pa_cons (pe_d D_law_reached hr (by decide) (pa_cons (pv 0) (pa_cons (pv 5) pa_nil))) pa_nil)) pe_int (nomark _)))) (fun _ _ _ _ _ => (pv 5))) (pss_cons (ps_if (pt_cmpR (r := rNeNil K) (op_neNil hr.units0) (pv 2) (pe_lst pa_nil) (nomark _)) (pss_one (ps_ret (pe_tup (pa_cons pe_str (pa_cons (pe_callB (cr_minS rfl hr) (by rfl) T.b_min (by decide +kernel) (pa_cons (pv 2) pa_nil)) pa_nil))))) pss_nil) (pss_one (ps_ret (pe_ifExp (pt_cmpR op_gt (pe_callB (r := rLenQ K) call_lenQ (by rfl) T.b_len (by decide +kernel) (pa_cons (pv 0) pa_nil)) pe_int (nomark _)) (pe_tup (pa_cons pe_str (pa_cons pe_str pa_nil))) pe_non))))))))))))), ?_⟩
    refine ⟨_, rfl, l, rfl, ⟨_, SqL.of hz⟩, fun D1 hD1 => lc_gen (walk_list (K := K) (a := l) (xs := zs.map fun z => V.ref z.1)) (fun _ => true) _ (keepR_val (fun z : Addr × Ro => V.str z.2.n)) hD1 (by omega) (fun H' sm => SqL.of (sm _ _ hz)) ?_ ?_⟩
    · intro z H2 N Y hzm sm _ _ hy
      have hrow := sm _ _ (hzs z hzm)
      refine ⟨rfl, ?_⟩
      unfold tYes
      exact iteT ⟨_, rfl, z.1, _, _, _, rfl, rfl, SqT.of hrow, atI_nat (j := 0) rfl, hy rfl _ _ (Same.refl _) rfl⟩
    intro H1 ys sm1 hD1' hp
    rw [filter_true] at hp
    rw [paired_val hp, enm] at hD1'
    clear hp
    -- twice
    refine ⟨_, rfl, D1, rfl, ⟨_, SqL.of hD1'⟩, fun D2 hD2 => lc_gen (walk_list (K := K) (a := D1) (xs := (nmR rs).map V.str)) (fun n => decide (1 < (nmR rs).count n) || decide (n ∈ houseN)) _ (keepR_val V.str) hD2 (by omega) (fun H' sm => SqL.of (sm _ _ hD1')) ?_ ?_⟩
    · intro n H2 N Y hnm sm _ hno hy
      have hnames := sm _ _ hD1'
      refine ⟨rfl, _, rfl, .inl ⟨rfl, _, .inl (.inl hnames)⟩, _, rfl, D1, nmR rs, n, rfl, rfl, SqL.of hnames, _, _, rfl, rfl, _, rfl, ?_⟩
      have ec : decide ((1 : Int) < ((nmR rs).count n : Int)) = decide (1 < (nmR rs).count n) := decide_eq_decide.mpr (by omega)
      rw [ec]
      cases c1 : decide (1 < (nmR rs).count n) with
      | true => exact iteT (iteT ⟨_, rfl, hy (by rw [c1]; rfl) _ _ (Same.refl _) rfl⟩)
      | false =>
        refine iteF ⟨_, rfl, rfl, fun H3 p3 sm3 hp3 hl3 => ⟨p3, _, rfl, .inl (SqL.of hl3), rfl, flat_strs _, _, rfl, ?_⟩⟩
        show if inV (V.str n) (houseN.map V.str) = true then _ else _
        rw [inV_str]
        cases c2 : decide (n ∈ houseN) with
        | true => exact iteT ⟨_, rfl, hy (by rw [c2, Bool.or_true]) _ _ sm3 rfl⟩
        | false => exact iteF (hno (by rw [c1, c2]; rfl) _ sm3)
    intro H2 ys sm2 hD2' hp
    rw [paired_val hp] at hD2'
    clear hp ys
    have hD2' : H2 D2 = some (.lst ((bad1 rs).map V.str)) := hD2'
    have smB : Same H H2 := fun b o e => sm2 b o (sm1 b o e)
    have hnm2 := sm2 _ _ hD1'
    have hz2 := smB _ _ hz
    refine bad_if (code := "twice") (bad := bad1 rs) rfl hD2' (fun hne H' v sm hf => ?_) (fun h1 H3 sm3 => ?_)
    · refine q H' v (fun b o e => sm b o (smB b o e)) ?_
      rw [fault_at (i := 0) rfl (fun m hm => absurd hm (by omega)) hne]
      exact hf
    -- above
    have hnm3 := sm3 _ _ hnm2
    have hz3 := sm3 _ _ hz2
    have smC : Same H H3 := fun b o e => sm3 b o (smB b o e)
    refine ⟨_, rfl, l, rfl, ⟨_, SqL.of hz3⟩, fun D3 hD3 => lc_gen (walk_list (K := K) (a := l) (xs := zs.map fun z => V.ref z.1)) (fun _ => true) _ (keepR_pair (g := fun r => V.str r.k)) hD3 (by omega) (fun H' sm => SqL.of (sm _ _ hz3)) ?_ ?_⟩
    · intro z H2 N Y hzm sm _ _ hy
      have hrow := sm _ _ (smC _ _ (hzs z hzm))
      refine ⟨rfl, ?_⟩
      unfold tYes
      refine iteT ⟨_, rfl, z.1, _, _, _, rfl, rfl, SqT.of hrow, atI_nat (j := 0) rfl, _, rfl, z.1, _, _, _, rfl, rfl, SqT.of hrow, atI_nat (j := 1) rfl, by show 2 ≤ sizeLine; decide, fun p hp => hy rfl _ _ (same_new hp) ⟨p, rfl, upd_same⟩⟩
    intro H4 ys sm4 hD4 hp
    rw [filter_true] at hp
    obtain ⟨ps, rfl, hps⟩ := paired_refs hp
    clear hp
    refine ⟨D3, ps, zs.map fun z => (Sum.inr z.2.n, V.str z.2.k), rfl, SqL.of hD4, paired_map_r (g := fun z : Addr × Ro => ((Sum.inr z.2.n : Key), V.str z.2.k)) (Paired.mapP hps fun p z h => SqT.of h), fun A hA => ?_⟩
    rw [kd_zip ez]
    have sm5 : Same H3 (upd H4 A (.dK (kdR rs))) := fun b o e => same_new hA b o (sm4 b o e)
    have hKd : (upd H4 A (.dK (kdR rs))) A = some (.dK (kdR rs)) := upd_same
    generalize upd H4 A (.dK (kdR rs)) = H5 at sm5 hKd ⊢
    have hnm5 := sm5 _ _ hnm3
    have hz5 := sm5 _ _ hz3
    have smD : Same H H5 := fun b o e => sm5 b o (smC b o e)
    refine ⟨_, rfl, l, rfl, ⟨_, SqL.of hz5⟩, fun D5 hD5 => lc_gen (walk_list (K := K) (a := l) (xs := zs.map fun z => V.ref z.1)) (fun z => isBad2 (kdR rs) z.2) _ (keepR_val (fun z : Addr × Ro => V.str z.2.n)) hD5 (by omega) (fun H' sm => SqL.of (sm _ _ hz5)) ?_ ?_⟩
    · intro z H2 N Y hzm sm _ hno hy
      have hrow := sm _ _ (smD _ _ (hzs z hzm))
      have hK2 := sm _ _ hKd
      refine ⟨rfl, _, rfl, z.1, _, _, _, rfl, rfl, SqT.of hrow, atI_nat (j := 2) rfl, rfl, _, rfl, ?_⟩
      cases ea : z.2.a with
      | none =>
        have hb : isBad2 (kdR rs) z.2 = false := by unfold isBad2; rw [ea]
        exact iteF (iteF (hno hb _ (Same.refl _)))
      | some a =>
        have hb : isBad2 (kdR rs) z.2 = !decide ((valV (kdR rs) (Sum.inr a)).getD .non = V.str z.2.k) := by unfold isBad2; rw [ea]
        have hrow2 : H2 z.1 = some (.tup [.str z.2.n, .str z.2.k, .str a, .bl z.2.s]) := by
          have h9 := hrow
          unfold RowAt at h9
          rw [ea] at h9
          exact h9
        refine iteT ⟨_, rfl, A, rfl, .inl ⟨_, .inl hK2⟩, _, rfl, z.1, _, _, _, rfl, rfl, SqT.of hrow2, atI_nat (j := 2) rfl, valV (kdR rs) (Sum.inr a), .inl ⟨kdR rs, Sum.inr a, .inl hK2, rfl, rfl⟩, _, rfl, z.1, _, _, _, rfl, rfl, SqT.of hrow, atI_nat (j := 1) rfl, get_scal _ _ (fun v h => kdR_str h), _, rfl, ?_⟩
        rw [← hb]
        cases e : isBad2 (kdR rs) z.2 with
        | true => exact iteT ⟨_, rfl, z.1, _, _, _, rfl, rfl, SqT.of hrow, atI_nat (j := 0) rfl, hy e _ _ (Same.refl _) rfl⟩
        | false => exact iteF (hno e _ (Same.refl _))
    intro H6 ys sm6 hD6 hp
    have eb2 : (zs.filter fun z => isBad2 (kdR rs) z.2).map (fun z : Addr × Ro => V.str z.2.n) = (bad2 rs).map V.str := by
      rw [filter_zip ez (isBad2 (kdR rs)) (fun r => V.str r.n)]
      unfold bad2
      rw [List.map_map]
      rfl
    rw [paired_val hp, eb2] at hD6
    clear hp ys
    refine bad_if (code := "above") (bad := bad2 rs) rfl hD6 (fun hne H' v sm hf => ?_) (fun h2 H7 sm7 => ?_)
    · refine q H' v (fun b o e => sm b o (sm6 b o (smD b o e))) ?_
      rw [fault_at (i := 1) rfl (fun m hm => by have : m = 0 := by omega
                                                subst this; exact h1) hne]
      exact hf
    -- ring
    have hnm7 := sm7 _ _ (sm6 _ _ hnm5)
    have smE : Same H H7 := fun b o e => sm7 b o (sm6 b o (smD b o e))
    refine ⟨_, rfl, D1, rfl, ⟨_, SqL.of hnm7⟩, fun D7 hD7 => lc_gen (walk_list (K := K) (a := D1) (xs := (nmR rs).map V.str)) (fun n => (itF (upF (abR rs)) rs.length n).isSome) _ (keepR_val V.str) hD7 (by omega) (fun H' sm => SqL.of (sm _ _ hnm7)) ?_ ?_⟩
    · intro n H2 N Y hnm sm _ hno hy
      refine ⟨rfl, _, rfl, _, rfl, l, rs, n, rfl, RowsAt.up sm (RowsAt.up smE hrows), hl, closed_ab h1 h2, hnm, fun H3 sm3 => ⟨_, rfl, ?_⟩⟩
      rw [ring_iff h1 h2 hnm]
      cases e : (itF (upF (abR rs)) rs.length n).isSome with
      | true => exact iteT ⟨_, rfl, hy e _ _ sm3 rfl⟩
      | false => exact iteF (hno e _ sm3)
    intro H8 ys sm8 hD8 hp
    rw [paired_val hp] at hD8
    clear hp ys
    refine bad_if (code := "ring") (bad := bad3 rs) rfl hD8 (fun hne H' v sm hf => ?_) (fun h3 H9 sm9 => ?_)
    · refine q H' v (fun b o e => sm b o (sm8 b o (smE b o e))) ?_
      rw [fault_at (i := 2) rfl (fun m hm => by
        rcases (show m = 0 ∨ m = 1 by omega) with z | z <;> subst z
        · exact h1
        · exact h2) hne]
      exact hf
    -- high
    have hnm9 := sm9 _ _ (sm8 _ _ hnm7)
    have smF : Same H H9 := fun b o e => sm9 b o (sm8 b o (smE b o e))
    refine ⟨_, rfl, D1, rfl, ⟨_, SqL.of hnm9⟩, fun D9 hD9 => lc_gen (walk_list (K := K) (a := D1) (xs := (nmR rs).map V.str)) (fun n => (itF (upF (abR rs)) 4 n).isSome) _ (keepR_val V.str) hD9 (by omega) (fun H' sm => SqL.of (sm _ _ hnm9)) ?_ ?_⟩
    · intro n H2 N Y hnm sm _ hno hy
      refine ⟨rfl, _, rfl, _, rfl, l, rs, n, rfl, RowsAt.up sm (RowsAt.up smF hrows), hl, closed_ab h1 h2, hnm, fun H3 p3 ys3 sm3 hp3 hl3 => ⟨p3, _, rfl, .inl (SqL.of hp3), _, _, rfl, rfl, _, rfl, ?_⟩⟩
      have e : decide ((4 : Int) < (ys3.length : Int)) = (itF (upF (abR rs)) 4 n).isSome := by
        rw [Bool.eq_iff_iff, decide_eq_true_eq, hl3]
        have := upN_lt (upF (abR rs)) 6 4 n
        constructor
        · intro h; exact (this.mp (by omega)).2
        · intro h
          have := this.mpr ⟨by decide, h⟩
          omega
      rw [e]
      cases e : (itF (upF (abR rs)) 4 n).isSome with
      | true => exact iteT ⟨_, rfl, hy e _ _ sm3 rfl⟩
      | false => exact iteF (hno e _ sm3)
    intro H10 ys sm10 hD10 hp
    rw [paired_val hp] at hD10
    clear hp ys
    refine bad_if (code := "high") (bad := bad4 rs) rfl hD10 (fun hne H' v sm hf => ?_) (fun h4 H11 sm11 => ?_)
    · refine q H' v (fun b o e => sm b o (sm10 b o (smF b o e))) ?_
      rw [fault_at (i := 3) rfl (fun m hm => by
        rcases (show m = 0 ∨ m = 1 ∨ m = 2 by omega) with z | z | z <;> subst z
        · exact h1
        · exact h2
        · exact h3) hne]
      exact hf
    -- many
    have smG : Same H H11 := fun b o e => sm11 b o (sm10 b o (smF b o e))
    refine ⟨_, rfl, l, _, rfl, .inl (SqL.of (smG _ _ hz)), _, _, rfl, rfl, _, rfl, ?_⟩
    have e : decide ((20 : Int) < ((zs.map fun z => V.ref z.1).length : Int)) = decide (20 < rs.length) := by
      rw [List.length_map, hlen]
      exact decide_eq_decide.mpr (by omega)
    rw [e]
    cases c : decide (20 < rs.length) with
    | true =>
      refine iteT ⟨by show 2 ≤ sizeLine; decide, fun U hU => q _ _ (fun b o e => same_new hU b o (smG b o e)) ?_⟩
      have e4 : badN 4 rs = ([""] : List Str) := if_pos (of_decide_eq_true c)
      rw [fault_at (i := 4) (c := "many") rfl (fun m hm => by
        rcases (show m = 0 ∨ m = 1 ∨ m = 2 ∨ m = 3 by omega) with z | z | z | z <;> subst z
        · exact h1
        · exact h2
        · exact h3
        · exact h4) (by rw [e4]; exact fun z => by cases z), e4]
      exact ⟨U, rfl, upd_same⟩
    | false =>
      refine iteF (q _ .non smG ?_)
      rw [fault_none fun m hm => by
        rcases (show m = 0 ∨ m = 1 ∨ m = 2 ∨ m = 3 ∨ m = 4 by omega) with z | z | z | z | z <;> subst z
        · exact h1
        · exact h2
        · exact h3
        · exact h4
        · exact if_neg (of_decide_eq_false c)]
      rfl
end
end Bw

namespace Bw
open PySem PySem.Spec L2 TL PyProof.Rows

/-! ### drawn rows -/
def N8 : List Str := ["a", "b", "c", "d", "e", "f", "g", "h"]
def N0 : List Str := N8 ++ (["label", "to"] : List Str)
def A0 : List Str := N0 ++ (["z"] : List Str)
def K0 : List Str := ["text", "exact", "number", "flag"]
structure DrRo (r : Ro) : Prop where
  n : r.n ∈ N0
  k : r.k ∈ K0
  a : ∀ y, r.a = some y → y ∈ A0
theorem okw_dec : ∀ x ∈ A0 ++ (["zz"] : List Str) ++ N0.map (fun x : Str => x ++ ("q" : Str)), (Txt.isascii x && Txt.isprintable x) = true ∧ wdL (tl x) = true := by decide +kernel
theorem okw_mem {x : Str} (h : x ∈ A0 ++ (["zz"] : List Str) ++ N0.map (fun x : Str => x ++ ("q" : Str))) : OkW x := ⟨(signs_iff x).mp (okw_dec x h).1, (okw_dec x h).2⟩
theorem okw_A0 {x : Str} (h : x ∈ A0) : OkW x := okw_mem (List.mem_append_left _ (List.mem_append_left _ h))
theorem N0_A0 {x : Str} (h : x ∈ N0) : x ∈ A0 := List.mem_append_left _ h
theorem N8_N0 {x : Str} (h : x ∈ N8) : x ∈ N0 := List.mem_append_left _ h
theorem K0_kinds : ∀ k ∈ K0, k ∈ kindsL := by decide +kernel
theorem ok_of_dr {r : Ro} (h : DrRo r) : OkRo r := ⟨okw_A0 (N0_A0 h.n), K0_kinds _ h.k, fun y e => okw_A0 (h.a y e)⟩
theorem kinds_link : ("link" : Str) ∈ kindsL ∧ ∀ k ∈ K0, k ≠ ("link" : Str) := by decide +kernel
theorem zz_A0 : ∀ y ∈ A0, y ≠ ("zz" : Str) := by decide +kernel
theorem q_N0 : ∀ y ∈ N0, y ++ ("q" : Str) ≠ y := by decide +kernel
theorem strOk_sgn {x : Str} (h : Sgn (tl x)) : PyData.strOk x = true := by
  unfold PyData.strOk
  rw [← Array.all_toList, List.all_eq_true]
  intro c hc
  have := h.lt c hc
  refine decide_eq_true ?_
  omega
def boolS (b : Bool) : Str := if b then "True" else "False"
def ovD : Option Str → PyData
  | none => .none
  | some s => .str s
theorem dp_ov {K : PySem.W.Frag} {H : Hp} (a : Option Str) : Dp K H (ov a) (ovD a) := by cases a; exact .non; exact .str _
def keptD (r : Ro) : PyData := .list [.str r.n, .str r.k, ovD r.a, .str (boolS r.s)]
theorem dp_kept {K : PySem.W.Frag} {H : Hp} {l : Addr} {r : Ro} (h : H l = some (.lst [.str r.n, .str r.k, ov r.a, .str (boolS r.s)])) : Dp K H (.ref l) (keptD r) :=
  .lst (SqL.of h) (.cons (.str _) (.cons (.str _) (.cons (dp_ov _) (.cons (.str _) .nil))))
theorem kinds_sgn : ∀ k ∈ kindsL, (Txt.isascii k && Txt.isprintable k) = true := by decide +kernel
theorem shaped_kept {r : Ro} (h : OkRo r) : SeqAt.shaped (keptD r) = true := by
  have h1 := strOk_sgn h.1.1
  have h2 := strOk_sgn ((signs_iff r.k).mp (kinds_sgn _ h.2.1))
  have h3 : PyData.canLay0 (ovD r.a) = true ∧ (ovD r.a).depth ≤ 1 := by
    cases e : r.a with
    | none => exact ⟨rfl, by decide⟩
    | some y =>
      refine ⟨?_, by show PyData.depth (.str y) ≤ 1; unfold PyData.depth; omega⟩
      show PyData.canLay0 (.str y) = true
      unfold PyData.canLay0
      exact strOk_sgn (h.2.2 y e).1
  have h4 : PyData.strOk (boolS r.s) = true := by cases r.s <;> decide +kernel
  unfold SeqAt.shaped keptD
  have hd : (PyData.list [PyData.str r.n, PyData.str r.k, ovD r.a, PyData.str (boolS r.s)]).depth ≤ 64 := by
    have h5 := h3.2
    simp only [PyData.depth, PyData.depthAll]
    omega
  rw [decide_eq_true hd, Bool.and_true]
  simp only [PyData.canLay0, PyData.canLayAll0, h1, h2, h3.1, h4, Bool.and_self]
def spKeeps : Sp := fun vs H Q _ => ∃ (t : Addr) (r : Ro), vs = [.ref t] ∧ RowAt H t r ∧ DrRo r ∧ ∀ H', Same H H' → Q (.bl true) H'
section
variable {P : Program} {w : World} {K : PySem.W.Frag} {mg : Str → Option Value} {base : Heap} {f : Addr} {fd : FuncData} {aK aC aH aR : Addr}
theorem made_typeA {Q : Addr → Hp → Prop} {H : Hp} {r : Ro} (hok : OkRo r) (k : ∀ H' p, Same H H' → H p = none → TypeAt aC H' p r → Q p H') :
    ∀ x dx, H x = none → H dx = none → dx ≠ x → spTInit aC (.ref x :: [.str r.n, .str r.k, ov r.a, .bl r.s]) (upd (upd H dx (.own x)) x (.ins aC dx [])) (fun v H2 => v = .non ∧ Q x H2) E0 := by
  intro x dx hx hdx hne
  refine ⟨x, dx, r, rfl, hok, upd_same, fun H' hk hat => ⟨rfl, k H' x (fun b o e => ?_) hx ⟨dx, hat⟩⟩⟩
  have b1 : b ≠ x := ne_of_none e hx
  refine hk b o b1 ?_
  rw [upd_ne b1, upd_ne (ne_of_none e hdx)]
  exact e
theorem ok_law_keeps (F : Fun K "_law_keeps" "_law_keeps" s_law_keeps f fd) (T : Txt K mg aK) (MK : MkT P w K mg base aC 4 ["self", "name", "kind", "above", "single"] (spTInit aC)) (EQ : EqT P w K mg base aC 1 ["self", "other"] (spTEq K aC))
    (P_name : Prp P w K mg base aC "name" "_name") (P_kind : Prp P w K mg base aC "kind" "_kind") (P_above : Prp P w K mg base aC "above" "_above") (P_is_single : Prp P w K mg base aC "is_single" "_single") : FnOk P w K mg base CX0 6 f fd ["_law_row"] spKeeps := by
  refine F.ok sc_law_keeps (fun vs H Q E h => ?_) (fun cdv A outer s H vs Q E hr h => ?_)
  · obtain ⟨t, r, rfl, _⟩ := h
    rfl
  · obtain ⟨t, r, rfl, hrow, hdr, q⟩ := h
    have hok := ok_of_dr hdr
    refine ⟨_, (pss_cons (ps_asg (pv 0) (pg_tup (by rfl) (pgs_cons (pg_name (i := 1) sc_law_keeps.nd rfl (Or.inl rfl)) (pgs_cons (pg_name (i := 2) sc_law_keeps.nd rfl (Or.inl rfl)) (pgs_cons (pg_name (i := 3) sc_law_keeps.nd rfl (Or.inl rfl)) (pgs_cons (pg_name (i := 4) sc_law_keeps.nd rfl (Or.inl rfl)) pgs_nil)))))) (pss_cons (ps_set (i := 5) sc_law_keeps.nd rfl (Or.inr rfl) (pe_mk3 MK hr (by decide) (pa_cons (pv 1) (pa_cons (pv 2) (pa_cons (pv 3) pa_nil))) (pk_cons (pv 4) pk_nil))) (pss_cons (ps_if (pt_cmpR (r := rNeD K) (op_neD hr.units) (pe_lst (pa_cons (pe_p P_name hr (by decide) (pv 5) rfl) (pa_cons (pe_p P_kind hr (by decide) (pv 5) rfl) (pa_cons (pe_p P_above hr (by decide) (pv 5) rfl) (pa_cons (pe_callB call_repr_bl (by rfl) T.b_repr (by decide +kernel) (pa_cons (pe_p P_is_single hr (by decide) (pv 5) rfl) pa_nil)) pa_nil))))) (pe_lst (pa_cons (pv 1) (pa_cons (pv 2) (pa_cons (pv 3) (pa_cons (pe_callB call_repr_bl (by rfl) T.b_repr (by decide +kernel) (pa_cons (pv 4) pa_nil)) pa_nil))))) (nomark _)) (pss_one (ps_ret pe_bl)) pss_nil) (pss_cons (ps_if (PW.pt (pw_or (pt_cmpR (op_neT EQ hr (by decide)) (pv 5) (pe_mk3 MK hr (by decide) (pa_cons (pv 1) (pa_cons (pv 2) (pa_cons (pv 3) pa_nil))) (pk_cons (pv 4) pk_nil)) (nomark _)) (pw_or (pt_cmpR (op_eqT EQ hr (by decide)) (pv 5) (pv 1) (nomark _)) (pw_or1 (pt_cmpR (op_eqT EQ hr (by decide)) (pv 5) (pv 0) (nomark _)))))) (pss_one (ps_ret pe_bl)) pss_nil) (pss_cons (ps_set (i := 6) sc_law_keeps.nd rfl (Or.inl rfl) (pe_lst (pa_cons (pe_mk3 MK hr (by decide) (pa_cons (pe_op op_add_str (pv 1) pe_str) (pa_cons (pv 2) (pa_cons (pv 3) pa_nil))) (pk_cons (pv 4) pk_nil)) (pa_cons (pe_mk3 MK hr (by decide) (pa_cons (pv 1) (pa_cons (pv 2) (pa_cons (pv 3) pa_nil))) (pk_cons (pe_not (pv 4)) pk_nil)) pa_nil)))) (pss_cons (ps_expr (pe_bm PySem.F.plainAttrs_list PySem.F.slot_list_append PySem.F.type_list_append mt_append (pv 6) (pa_cons (pe_mk3 MK hr (by decide) (pa_cons (pv 1) (pa_cons (pe_ifExp (pt_cmpR op_ne (pv 2) pe_str (nomark _)) pe_str pe_str) (pa_cons (pv 3) pa_nil))) (pk_cons (pv 4) pk_nil)) pa_nil))) (pss_cons (ps_expr (pe_bm PySem.F.plainAttrs_list PySem.F.slot_list_append PySem.F.type_list_append mt_append (pv 6) (pa_cons (pe_mk3 MK hr (by decide) (pa_cons (pv 1) (pa_cons (pv 2) (pa_cons pe_str pa_nil))) (pk_cons (pv 4) pk_nil)) pa_nil))) (pss_one (ps_ret (pe_cmpR (r := rEqNil K) (op_eqNil hr.units0) (pe_lc (own := [("_law_other", 7)]) (g := gName 7) (by rfl) sc_law_keeps.nd (pi_list (pv 6)) (blkOk_by (own := [("_law_other", 7)]) (N := n_law_keeps) (sc := defScope s_law_keeps) (by decide +kernel)) (fun _ _ _ _ _ => pg_name (i := 7) sc_law_keeps.nd rfl (Or.inl rfl)) (fun _ _ _ _ _ => (pts_one (pt_cmpR (r := rEqOwn K aC (spTEq K aC) E0) (op_eqT EQ hr (by decide)) (pv 7) (pv 5) (nomark _)))) (fun _ _ _ _ _ => (pv 7))) (pe_lst pa_nil) (nomark _))))))))))), ?_⟩
    refine ⟨_, rfl, t, _, rfl, SqT.of hrow, rfl, _, _, rfl, _, _, rfl, _, _, rfl, _, _, rfl, rfl, ?_⟩
    refine ⟨_, rfl, _, rfl, _, rfl, _, rfl, rfl, rfl, ?_⟩
    refine made_typeA hok fun H1 p sm1 hp ht => ?_
    obtain ⟨dx, hpt⟩ := ht
    refine ⟨_, rfl, p, dx, _, rfl, hpt, p, dx, _, _, rfl, hpt, fldsT_n r, ?_⟩
    refine ⟨_, rfl, p, dx, _, rfl, hpt, p, dx, _, _, rfl, hpt, fldsT_k r, ?_⟩
    refine ⟨_, rfl, p, dx, _, rfl, hpt, p, dx, _, _, rfl, hpt, fldsT_a r, ?_⟩
    refine ⟨_, rfl, p, dx, _, rfl, hpt, p, dx, _, _, rfl, hpt, fldsT_s r, r.s, rfl, by show 4 ≤ sizeLine; decide, fun L1 hL1 => ?_⟩
    refine ⟨_, rfl, _, rfl, _, rfl, _, rfl, r.s, rfl, by show 4 ≤ sizeLine; decide, fun L2 hL2 => ?_⟩
    refine ⟨keptD r, keptD r, dp_kept (by rw [upd_ne (ne_of_none upd_same hL2)]; exact upd_same), dp_kept upd_same, shaped_kept hok, shaped_kept hok, _, rfl, ?_⟩
    rw [SeqAt.eqv_refl _ (SeqAt.canLay_of_shaped (shaped_kept hok))]
    refine iteF ?_
    have sm2 : ∀ o1 o2, Same H (upd (upd H1 L1 o1) L2 o2) := fun o1 o2 b o e => by
      have e1 := sm1 b o e
      have n1 : b ≠ L1 := ne_of_none e1 hL1
      have e2 : (upd H1 L1 (.lst [.str r.n, .str r.k, ov r.a, .str (boolS r.s)])) b = some o := by rw [upd_ne n1]; exact e1
      have n2 : b ≠ L2 := ne_of_none e2 hL2
      rw [upd_ne n2, upd_ne n1]
      exact e1
    have hpt2 : (upd (upd H1 L1 (.lst [.str r.n, .str r.k, ov r.a, .str (boolS r.s)])) L2 (.lst [.str r.n, .str r.k, ov r.a, .str (boolS r.s)])) p = some (.ins aC dx (fldsT r)) := same_new hL2 _ _ (same_new hL1 _ _ hpt)
    have smK := sm2 (.lst [.str r.n, .str r.k, ov r.a, .str (boolS r.s)]) (.lst [.str r.n, .str r.k, ov r.a, .str (boolS r.s)])
    show tSeq _ _ _ _ (upd (upd H1 L1 (.lst [.str r.n, .str r.k, ov r.a, .str (boolS r.s)])) L2 (.lst [.str r.n, .str r.k, ov r.a, .str (boolS r.s)]))
    generalize upd (upd H1 L1 (.lst [.str r.n, .str r.k, ov r.a, .str (boolS r.s)])) L2 (.lst [.str r.n, .str r.k, ov r.a, .str (boolS r.s)]) = H2 at hpt2 smK ⊢
    -- one != Type(..), one == name, one == row
    refine ⟨_, rfl, _, rfl, _, rfl, _, rfl, _, rfl, rfl, rfl, made_typeA hok fun H3 p2 sm3 hp2 ht2 => ?_⟩
    have hpt3 := sm3 _ _ hpt2
    have smL : Same H H3 := fun b o e => sm3 b o (smK b o e)
    have hrow3 := smL _ _ hrow
    obtain ⟨dx2, hp2t⟩ := id ht2
    refine ⟨p, dx, _, rfl, hpt3, .inl ⟨p2, dx2, _, rfl, hp2t⟩, p, _, r, rfl, ⟨dx, hpt3⟩, .inl ⟨p2, r, rfl, ht2, decide (r = r), rfl, _, rfl, ?_⟩⟩
    rw [show decide (r = r) = true from decide_eq_true rfl]
    refine iteF ?_
    refine ⟨_, rfl, _, rfl, p, dx, _, rfl, hpt3, .inr (.inl ⟨_, rfl⟩), p, _, r, rfl, ⟨dx, hpt3⟩, .inr (.inl ⟨⟨_, rfl⟩, _, rfl, _, rfl, iteF ?_⟩)⟩
    refine ⟨_, rfl, _, rfl, p, dx, _, rfl, hpt3, .inr (.inr ⟨t, _, rfl, SqT.of hrow3⟩), p, _, r, rfl, ⟨dx, hpt3⟩, .inr (.inr ⟨⟨t, _, rfl, hrow3⟩, _, rfl, _, rfl, iteF ?_⟩)⟩
    -- the others
    have nq := q_N0 _ hdr.n
    have hn12 := wdL_len hok.1.2
    have hokq : OkW (r.n ++ "q") := okw_mem (List.mem_append_right _ (List.mem_map_of_mem hdr.n))
    have hokz : OkW "zz" := okw_mem (List.mem_append_left _ (List.mem_append_right _ (List.mem_singleton.mpr rfl)))
    refine ⟨_, rfl, r.n, "q", rfl, rfl, line_of (by have : ("q" : Str).length = 1 := rfl; omega), _, rfl, _, rfl, _, rfl, rfl, rfl, made_typeA (r := ⟨r.n ++ "q", r.k, r.a, r.s⟩) ⟨hokq, hok.2.1, hok.2.2⟩ fun H4 q1 sm4 hq1 ht4 => ?_⟩
    refine ⟨_, rfl, _, rfl, _, rfl, _, rfl, r.s, rfl, rfl, rfl, made_typeA (r := ⟨r.n, r.k, r.a, !r.s⟩) ⟨hok.1, hok.2.1, hok.2.2⟩ fun H5 q2 sm5 hq2 ht5 => ?_⟩
    refine ⟨by show 2 ≤ sizeLine; decide, fun L3 hL3 => ?_⟩
    have smM : Same H3 (upd H5 L3 (.lst [.ref q1, .ref q2])) := fun b o e => same_new hL3 b o (sm5 b o (sm4 b o e))
    have hL3a : (upd H5 L3 (.lst [.ref q1, .ref q2])) L3 = some (.lst [.ref q1, .ref q2]) := upd_same
    have t1 : TypeAt aC (upd H5 L3 (.lst [.ref q1, .ref q2])) q1 ⟨r.n ++ "q", r.k, r.a, r.s⟩ := TypeAt.up (same_new hL3) (TypeAt.up sm5 ht4)
    have t2 : TypeAt aC (upd H5 L3 (.lst [.ref q1, .ref q2])) q2 ⟨r.n, r.k, r.a, !r.s⟩ := TypeAt.up (same_new hL3) ht5
    have hL30 : H3 L3 = none := by
      cases e : H3 L3 with
      | none => rfl
      | some o => rw [sm5 _ _ (sm4 _ _ e)] at hL3; cases hL3
    generalize upd H5 L3 (.lst [.ref q1, .ref q2]) = H6 at smM hL3a t1 t2 ⊢
    refine ⟨_, rfl, .inl ⟨rfl, _, .inl (.inl hL3a)⟩, _, rfl, _, rfl, rfl, _, rfl, ?_⟩
    have hkl : (!decide (V.str r.k = V.str "link")) = true := by
      rw [str_dec, decide_eq_false (kinds_link.2 _ hdr.k)]
      rfl
    rw [hkl]
    refine iteT ⟨_, rfl, _, rfl, rfl, rfl, made_typeA (r := ⟨r.n, "link", r.a, r.s⟩) ⟨hok.1, kinds_link.1, hok.2.2⟩ fun H7 q3 sm7 hq3 ht7 => ?_⟩
    have hL3b := sm7 _ _ hL3a
    refine ⟨L3, _, _, rfl, rfl, hL3b, (by show 2 < sizeLine; decide), ?_⟩
    have upL : ∀ {G : Hp} {z : Addr} {r' : Ro} {o : HO} {l : List V}, G L3 = some (.lst l) → TypeAt aC G z r' → TypeAt aC (upd G L3 o) z r' := fun hG ⟨dz, e⟩ => ⟨dz, by rw [upd_ne (fun zz => by rw [zz, hG] at e; cases e)]; exact e⟩
    have t1b := upL (o := .lst ([V.ref q1, V.ref q2] ++ [V.ref q3])) hL3b (TypeAt.up sm7 t1)
    have t2b := upL (o := .lst ([V.ref q1, V.ref q2] ++ [V.ref q3])) hL3b (TypeAt.up sm7 t2)
    have t3b := upL (o := .lst ([V.ref q1, V.ref q2] ++ [V.ref q3])) hL3b ht7
    have smN : Same H3 (upd H7 L3 (.lst ([V.ref q1, V.ref q2] ++ [V.ref q3]))) := fun b o e => by
      rw [upd_ne (ne_of_none e hL30)]
      exact sm7 b o (smM b o e)
    have hL3c : (upd H7 L3 (.lst ([V.ref q1, V.ref q2] ++ [V.ref q3]))) L3 = some (.lst ([V.ref q1, V.ref q2] ++ [V.ref q3])) := upd_same
    generalize upd H7 L3 (.lst ([V.ref q1, V.ref q2] ++ [V.ref q3])) = H8 at smN hL3c t1b t2b t3b ⊢
    refine ⟨_, rfl, .inl ⟨rfl, _, .inl (.inl hL3c)⟩, _, rfl, _, rfl, _, rfl, rfl, rfl, made_typeA (r := ⟨r.n, r.k, some "zz", r.s⟩) ⟨hok.1, hok.2.1, fun y e => by cases e; exact hokz⟩ fun H9 q4 sm9 hq4 ht9 => ?_⟩
    have hL3d := sm9 _ _ hL3c
    refine ⟨L3, _, _, rfl, rfl, hL3d, (by show 3 < sizeLine; decide), ?_⟩
    have t1c := upL (o := .lst ([V.ref q1, V.ref q2] ++ [V.ref q3] ++ [V.ref q4])) hL3d (TypeAt.up sm9 t1b)
    have t2c := upL (o := .lst ([V.ref q1, V.ref q2] ++ [V.ref q3] ++ [V.ref q4])) hL3d (TypeAt.up sm9 t2b)
    have t3c := upL (o := .lst ([V.ref q1, V.ref q2] ++ [V.ref q3] ++ [V.ref q4])) hL3d (TypeAt.up sm9 t3b)
    have t4c := upL (o := .lst ([V.ref q1, V.ref q2] ++ [V.ref q3] ++ [V.ref q4])) hL3d ht9
    have smO : Same H3 (upd H9 L3 (.lst ([V.ref q1, V.ref q2] ++ [V.ref q3] ++ [V.ref q4]))) := fun b o e => by
      rw [upd_ne (ne_of_none e hL30)]
      exact sm9 b o (smN b o e)
    have hL3e : (upd H9 L3 (.lst ([V.ref q1, V.ref q2] ++ [V.ref q3] ++ [V.ref q4]))) L3 = some (.lst ([V.ref q1, V.ref q2] ++ [V.ref q3] ++ [V.ref q4])) := upd_same
    generalize upd H9 L3 (.lst ([V.ref q1, V.ref q2] ++ [V.ref q3] ++ [V.ref q4])) = H10 at smO hL3e t1c t2c t3c t4c ⊢
    let zs : List (Addr × Ro) := [(q1, ⟨r.n ++ "q", r.k, r.a, r.s⟩), (q2, ⟨r.n, r.k, r.a, !r.s⟩), (q3, ⟨r.n, "link", r.a, r.s⟩), (q4, ⟨r.n, r.k, some "zz", r.s⟩)]
    have hzs : ∀ z ∈ zs, TypeAt aC H10 z.1 z.2 ∧ z.2 ≠ r := by
      intro z hz
      have hz' : z = (q1, ⟨r.n ++ "q", r.k, r.a, r.s⟩) ∨ z = (q2, ⟨r.n, r.k, r.a, !r.s⟩) ∨ z = (q3, ⟨r.n, "link", r.a, r.s⟩) ∨ z = (q4, ⟨r.n, r.k, some "zz", r.s⟩) := by simpa [zs] using hz
      rcases hz' with e | e | e | e <;> subst e
      · exact ⟨t1c, fun e => nq (congrArg Ro.n e)⟩
      · refine ⟨t2c, fun e => ?_⟩
        have e2 : (!r.s) = r.s := congrArg Ro.s e
        cases hs : r.s <;> (rw [hs] at e2; cases e2)
      · exact ⟨t3c, fun e => kinds_link.2 _ hdr.k (congrArg Ro.k e).symm⟩
      · refine ⟨t4c, fun e => ?_⟩
        have e2 : (some "zz" : Option Str) = r.a := congrArg Ro.a e
        exact zz_A0 _ (hdr.a _ e2.symm) rfl
    have hpt10 := smO _ _ hpt3
    have hl10 : H10 L3 = some (.lst (zs.map fun z => V.ref z.1)) := hL3e
    refine ⟨_, rfl, L3, rfl, ⟨_, SqL.of hl10⟩, fun D hD => lc_gen (walk_list (K := K) (a := L3) (xs := zs.map fun z => V.ref z.1)) (fun _ => false) _ (keepR_val (fun z : Addr × Ro => V.ref z.1)) hD (by show 4 ≤ 1000; decide) (fun H' sm => SqL.of (sm _ _ hl10)) ?_ ?_⟩
    · intro z G2 N Y hzm sm _ hno hy
      obtain ⟨⟨dz, hz1⟩, hz2⟩ := hzs z hzm
      have hzg := sm _ _ hz1
      have hpg := sm _ _ hpt10
      refine ⟨rfl, _, rfl, _, rfl, z.1, dz, _, rfl, hzg, .inl ⟨p, dx, _, rfl, hpg⟩, z.1, _, z.2, rfl, ⟨dz, hzg⟩, .inl ⟨p, r, rfl, ⟨dx, hpg⟩, decide (z.2 = r), rfl, _, rfl, ?_⟩⟩
      rw [decide_eq_false hz2]
      exact iteF (hno rfl _ (Same.refl _))
    · intro H' ys sm hD' hp
      have e0 : zs.filter (fun _ => false) = [] := rfl
      rw [e0] at hp
      cases hp
      refine ⟨Nat.zero_le _, fun N hN => ⟨D, N, [], rfl, rfl, SqL.of (same_new hN _ _ hD'), SqL.of upd_same, q _ (fun b o e => same_new hN b o (sm b o (smO b o (smL b o e))))⟩⟩
end
end Bw

namespace Bw
open PySem PySem.Spec L2 TL PyProof.Rows

/-! ### drawn rows, put together -/
def NmV (y : V) : Prop := ∃ n : Str, n ∈ N8 ∧ y = .str n
def AbV (y : V) : Prop := ∃ a : Option Str, (∀ x, a = some x → x ∈ A0) ∧ y = ov a
def RwV (H : Hp) (y : V) : Prop := ∃ t r, y = .ref t ∧ RowAt H t r ∧ DrRo r
theorem NmV.ab {y : V} (h : NmV y) : AbV y := by
  obtain ⟨n, h1, h2⟩ := h
  exact ⟨some n, fun x e => by cases e; exact List.mem_append_left _ (List.mem_append_left _ h1), h2⟩
theorem RwV.up {H H' : Hp} {y : V} (h : RwV H y) (s : ∀ t r, RowAt H t r → RowAt H' t r) : RwV H' y := by
  obtain ⟨t, r, h1, h2, h3⟩ := h
  exact ⟨t, r, h1, s _ _ h2, h3⟩
theorem mem_cutV {xs : List V} {lo hi : Option Int} {y : V} (h : y ∈ cutV xs lo hi) : y ∈ xs := List.mem_of_mem_drop (List.mem_of_mem_take h)
theorem len_cutV {xs : List V} {lo hi : Option Int} : (cutV xs lo hi).length ≤ xs.length := by
  unfold cutV
  rw [List.length_take, List.length_drop]
  omega
theorem rows_of {H : Hp} {l : Addr} {ys : List V} (hl : H l = some (.lst ys)) (h : ∀ y ∈ ys, RwV H y) : ∃ rs : List Ro, RowsAt H l rs ∧ (∀ r ∈ rs, DrRo r) ∧ rs.length = ys.length := by
  have key : ∀ ys : List V, (∀ y ∈ ys, RwV H y) → ∃ (ts : List Addr) (rs : List Ro), ys = ts.map V.ref ∧ Paired (RowAt H) ts rs ∧ ∀ r ∈ rs, DrRo r := by
    intro ys
    induction ys with
    | nil => exact fun _ => ⟨[], [], rfl, .nil, fun r hr => (by cases hr)⟩
    | cons y ys ih =>
      intro h
      obtain ⟨t, r, e1, e2, e3⟩ := h y (List.mem_cons_self ..)
      obtain ⟨ts, rs, f1, f2, f3⟩ := ih fun z hz => h z (List.mem_cons_of_mem _ hz)
      refine ⟨t :: ts, r :: rs, by rw [e1, f1]; rfl, .cons e2 f2, fun q hq => ?_⟩
      rcases List.mem_cons.mp hq with z | z
      · rw [z]; exact e3
      · exact f3 q z
  obtain ⟨ts, rs, f1, f2, f3⟩ := key ys h
  refine ⟨rs, ⟨ts, by rw [← f1]; exact hl, f2⟩, f3, ?_⟩
  rw [f1, List.length_map, f2.length]
theorem ixN_at {n j : Nat} (h : j < n) : ixN n (j : Int) = some j := by
  unfold ixN
  rw [if_pos (by omega), if_pos (by omega), Int.toNat_natCast]
/-- what stands while rows are drawn -/
structure Inv (H0 H : Hp) (d R p : Addr) (ns ys ex : List V) : Prop where
  kp : ∀ b o, b ≠ d → b ≠ R → H0 b = some o → H b = some o
  di : DiceAt H d
  pn : H p = some (.lst ns)
  rw : H R = some (.lst ys)
  pd : p ≠ d
  rd : R ≠ d
  pr : p ≠ R
  ok : ∀ y ∈ ys, RwV H y
  ex : ∀ y ∈ ex, RwV H y
section
variable {H0 H H' : Hp} {d R p t : Addr} {ns ys ex : List V} {r : Ro}
theorem row_moved (hd : DiceAt H d) (mv : Moved d H H') (h : RowAt H t r) : RowAt H' t r := by
  refine mv.1 t _ (fun e => ?_) h
  obtain ⟨a, b, c, hd⟩ := hd
  rw [← e] at hd
  unfold RowAt at h
  rw [h] at hd
  cases hd
theorem Inv.moved (I : Inv H0 H d R p ns ys ex) (mv : Moved d H H') : Inv H0 H' d R p ns ys ex :=
  ⟨fun b o h1 h2 e => mv.1 b o h1 (I.kp b o h1 h2 e), mv.2, mv.1 _ _ I.pd I.pn, mv.1 _ _ I.rd I.rw, I.pd, I.rd, I.pr,
    fun y hy => (I.ok y hy).up fun t r h => row_moved I.di mv h, fun y hy => (I.ex y hy).up fun t r h => row_moved I.di mv h⟩
theorem Inv.new (I : Inv H0 H d R p ns ys ex) {x : Addr} (hx : H x = none) (o : HO) : Inv H0 (upd H x o) d R p ns ys ex :=
  ⟨fun b o h1 h2 e => same_new hx _ _ (I.kp b o h1 h2 e), I.di.same (same_new hx), same_new hx _ _ I.pn, same_new hx _ _ I.rw, I.pd, I.rd, I.pr,
    fun y hy => (I.ok y hy).up fun t r h => same_new hx _ _ h, fun y hy => (I.ex y hy).up fun t r h => same_new hx _ _ h⟩
theorem Inv.row (I : Inv H0 H d R p ns ys ex) (h : RowAt H t r) (k : DrRo r) : Inv H0 H d R p ns ys (.ref t :: ex) :=
  ⟨I.kp, I.di, I.pn, I.rw, I.pd, I.rd, I.pr, I.ok, fun y hy => (List.mem_cons.mp hy).elim (fun e => ⟨t, r, e, h, k⟩) (I.ex y)⟩
theorem Inv.set (I : Inv H0 H d R p ns ys ex) {zs : List V} (hz : ∀ z ∈ zs, z ∈ ys ∨ z ∈ ex) : Inv H0 (upd H R (.lst zs)) d R p ns zs ex := by
  have up : ∀ t r, RowAt H t r → RowAt (upd H R (.lst zs)) t r := fun t r h => by
    unfold RowAt
    rw [upd_ne (fun e => by rw [e] at h; unfold RowAt at h; rw [I.rw] at h; cases h)]
    exact h
  refine ⟨fun b o h1 h2 e => by rw [upd_ne h2]; exact I.kp b o h1 h2 e, ?_, by rw [upd_ne I.pr]; exact I.pn, upd_same, I.pd, I.rd, I.pr, fun y hy => ?_, fun y hy => (I.ex y hy).up up⟩
  · obtain ⟨a, b, c, e⟩ := I.di
    exact ⟨a, b, c, by rw [upd_ne (Ne.symm I.rd)]; exact e⟩
  · rcases hz y hy with h | h
    · exact (I.ok y h).up up
    · exact (I.ex y h).up up
end
def spSomeRows : Sp := fun vs H Q _ => ∃ d : Addr, vs = [.ref d] ∧ DiceAt H d ∧ ∀ H' l rs, Moved d H H' → RowsAt H' l rs → (∀ r ∈ rs, DrRo r) → rs.length ≤ 8 → Q (.ref l) H'
section
variable {P : Program} {w : World} {K : PySem.W.Frag} {mg : Str → Option Value} {base : Heap} {f : Addr} {fd : FuncData} {aK aC aH aR : Addr}
theorem ok_law_some_rows (F : Fun K "_law_some_rows" "_law_some_rows" s_law_some_rows f fd) (T : Txt K mg aK) (D_law_roll : Dfn P w K mg base "_law_roll" 1 ["_law_dice_here", "_law_total"] spRoll)
    (D_law_one_of : Dfn P w K mg base "_law_one_of" 2 ["_law_dice_here", "_law_items"] spOne) (D_law_mixed : Dfn P w K mg base "_law_mixed" 2 ["_law_dice_here", "_law_items"] spMixed) : FnOk P w K mg base CX0 3 f fd ["_law_dice_here"] spSomeRows := by
  refine F.ok sc_law_some_rows (fun vs H Q E h => ?_) (fun cdv A outer s H vs Q E hr h => ?_)
  · obtain ⟨d, rfl, _⟩ := h
    rfl
  · obtain ⟨d, rfl, hd, q⟩ := h
    refine ⟨_, (pss_cons (ps_par (i := 1) (j := 2) (by rfl) sc_law_some_rows.nd rfl rfl (by decide) rfl rfl (pa_cons (pe_d D_law_one_of hr (by decide) (pa_cons (pv 0) (pa_cons (pe_lst (pa_cons pe_str (pa_cons pe_str (pa_cons pe_str pa_nil)))) pa_nil))) (pa_cons (pe_lst pa_nil) pa_nil)) (by rfl)) (pss_cons (ps_set (i := 3) sc_law_some_rows.nd rfl (Or.inl rfl) (pe_slice (r := rSlL K) sl_list (pe_d D_law_mixed hr (by decide) (pa_cons (pv 0) (pa_cons (pe_lst (pa_cons pe_str (pa_cons pe_str (pa_cons pe_str (pa_cons pe_str (pa_cons pe_str (pa_cons pe_str (pa_cons pe_str (pa_cons pe_str pa_nil))))))))) pa_nil))) po_none (po_some (pe_d D_law_roll hr (by decide) (pa_cons (pv 0) (pa_cons pe_int pa_nil)))))) (pss_cons (ps_for PassesOwn.never rfl (pi_enum (by rfl) T.b_enumerate (pa_cons (pv 3) pa_nil)) (pg_tup (by rfl) (pgs_cons (pg_name (i := 4) sc_law_some_rows.nd rfl (Or.inl rfl)) (pgs_cons (pg_name (i := 5) sc_law_some_rows.nd rfl (Or.inl rfl)) pgs_nil))) (pss_cons (ps_set (i := 6) sc_law_some_rows.nd rfl (Or.inl rfl) (pe_d D_law_one_of hr (by decide) (pa_cons (pv 0) (pa_cons (pe_op op_cat (pe_op op_cat (pe_op op_cat (pe_lst (pa_cons pe_non pa_nil)) (pe_slice (r := rSlL K) sl_list (pv 3) po_none (po_some (pv 4)))) (pe_slice (r := rSlL K) sl_list (pv 3) po_none (po_some (pv 4)))) (pe_slice (r := rSlL K) sl_list (pv 3) po_none (po_some (pv 4)))) pa_nil)))) (pss_one (ps_expr (pe_bm PySem.F.plainAttrs_list PySem.F.slot_list_append PySem.F.type_list_append mt_append (pv 2) (pa_cons (pe_tup (pa_cons (pv 5) (pa_cons (pv 1) (pa_cons (pv 6) (pa_cons (pe_cmpR op_eq (pe_d D_law_roll hr (by decide) (pa_cons (pv 0) (pa_cons pe_int pa_nil))) pe_int (nomark _)) pa_nil))))) pa_nil)))))) (pss_cons (ps_set (i := 7) sc_law_some_rows.nd rfl (Or.inl rfl) (pe_d D_law_roll hr (by decide) (pa_cons (pv 0) (pa_cons pe_int pa_nil)))) (pss_cons (ps_if (PW.pt (pw_and (pt_cmpR (r := rNeNil K) (op_neNil hr.units0) (pv 2) (pe_lst pa_nil) (nomark _)) (pw_and1 (pt_cmpR op_lt (pv 7) pe_int (nomark _))))) (pss_cons (ps_set (i := 4) sc_law_some_rows.nd rfl (Or.inl rfl) (pe_d D_law_roll hr (by decide) (pa_cons (pv 0) (pa_cons (pe_callB (r := rLenQ K) call_lenQ (by rfl) T.b_len (by decide +kernel) (pa_cons (pv 2) pa_nil)) pa_nil)))) (pss_cons (ps_asg (pe_ix (r := rIxL K) ix_list (pv 2) (pv 4) (fun _ _ => rfl)) (pg_tup (by rfl) (pgs_cons (pg_name (i := 5) sc_law_some_rows.nd rfl (Or.inl rfl)) (pgs_cons (pg_name (i := 1) sc_law_some_rows.nd rfl (Or.inl rfl)) (pgs_cons (pg_name (i := 6) sc_law_some_rows.nd rfl (Or.inl rfl)) (pgs_cons (pg_name (i := 8) sc_law_some_rows.nd rfl (Or.inl rfl)) pgs_nil)))))) (pss_cons (ps_set (i := 9) sc_law_some_rows.nd rfl (Or.inl rfl) (pe_lst (pa_cons (pe_tup (pa_cons (pv 5) (pa_cons (pv 1) (pa_cons (pe_d D_law_one_of hr (by decide) (pa_cons (pv 0) (pa_cons (pv 3) pa_nil))) (pa_cons (pv 8) pa_nil))))) (pa_cons (pe_tup (pa_cons (pv 5) (pa_cons pe_str (pa_cons (pv 6) (pa_cons (pv 8) pa_nil))))) pa_nil)))) (pss_cons (ps_set (i := 9) sc_law_some_rows.nd rfl (Or.inl rfl) (pe_op op_cat (pv 9) (pe_lst (pa_cons (pe_tup (pa_cons (pe_d D_law_one_of hr (by decide) (pa_cons (pv 0) (pa_cons (pe_op op_cat (pe_lst (pa_cons pe_str (pa_cons pe_str pa_nil))) (pv 3)) pa_nil))) (pa_cons (pv 1) (pa_cons (pv 6) (pa_cons (pv 8) pa_nil))))) pa_nil)))) (pss_cons (ps_set (i := 9) sc_law_some_rows.nd rfl (Or.inl rfl) (pe_op op_cat (pv 9) (pe_lst (pa_cons (pe_tup (pa_cons (pv 5) (pa_cons (pv 1) (pa_cons pe_str (pa_cons (pv 8) pa_nil))))) (pa_cons (pe_tup (pa_cons (pv 5) (pa_cons (pv 1) (pa_cons (pe_ix (r := rIxL K) ix_list (pv 3) (pe_un un_neg pe_int) (fun _ _ => rfl)) (pa_cons (pv 8) pa_nil))))) (pa_cons (pe_ix (r := rIxL K) ix_list (pv 2) pe_int (fun _ _ => rfl)) pa_nil)))))) (pss_one (ps_asg (pe_ix (r := rIxL K) ix_list (pv 9) (pv 7) (fun _ _ => rfl)) (pg_sub (pv 2) (pv 4) set_list)))))))) pss_nil) (pss_one (ps_ret (pe_d D_law_mixed hr (by decide) (pa_cons (pv 0) (pa_cons (pv 2) pa_nil)))))))))), ?_⟩
    refine ⟨_, rfl, by show 3 ≤ sizeLine; decide, fun p1 h1 => ?_⟩
    have np1 : p1 ≠ d := (hd.ne h1).symm
    have sm1 : Same H (upd H p1 (.lst [V.str "text", V.str "exact", V.str "number"])) := same_new h1
    refine ⟨d, p1, _, rfl, upd_same, np1, by simp, by simp, hd.same sm1, fun kv H1 hk mv1 => ?_⟩
    have hkk : ∃ k : Str, k ∈ K0 ∧ kv = .str k := by
      rcases List.mem_cons.mp hk with e | e
      · exact ⟨_, by decide, e⟩
      · rcases List.mem_cons.mp e with e | e
        · exact ⟨_, by decide, e⟩
        · exact ⟨_, by decide, List.mem_singleton.mp e⟩
    obtain ⟨k, hk0, rfl⟩ := hkk
    refine ⟨Nat.zero_le _, fun R hR => ⟨_, _, rfl, ?_⟩⟩
    refine ⟨_, rfl, by show 8 ≤ sizeLine; decide, fun p2 h2 => ?_⟩
    have hd1 : DiceAt H1 d := mv1.2
    have hd2 : DiceAt (upd (upd H1 R (.lst [])) p2 (.lst [V.str "a", V.str "b", V.str "c", V.str "d", V.str "e", V.str "f", V.str "g", V.str "h"])) d := (hd1.same (same_new hR)).same (same_new h2)
    have nRd : R ≠ d := (hd1.ne hR).symm
    have hRr : (upd H1 R (.lst [])) R = some (.lst []) := upd_same
    have n2d : p2 ≠ d := ((hd1.same (same_new hR)).ne h2).symm
    refine ⟨d, p2, _, rfl, upd_same, n2d, by show 8 ≤ 1000; decide, hd2, fun H2 p3 ys mv2 h3n h3 hmem hlen => ?_⟩
    have n3d : p3 ≠ d := (hd2.ne h3n).symm
    have hR2 : H2 R = some (.lst []) := mv2.1 R _ nRd (same_new h2 _ _ hRr)
    have kp2 : ∀ b o, b ≠ d → H b = some o → H2 b = some o := fun b o n e => mv2.1 b o n (same_new h2 _ _ (same_new hR _ _ (mv1.1 b o n (same_new h1 _ _ e))))
    have hys : ∀ y ∈ ys, NmV y := fun y hy => by
      have h8 := hmem y hy
      have e8 : ([V.str "a", V.str "b", V.str "c", V.str "d", V.str "e", V.str "f", V.str "g", V.str "h"] : List V) = N8.map V.str := rfl
      rw [e8] at h8
      obtain ⟨n, hn, e⟩ := List.mem_map.mp h8
      exact ⟨n, hn, e.symm⟩
    have hl8 : ys.length = 8 := hlen
    refine ⟨_, rfl, d, 9, rfl, by decide, by decide, mv2.2, fun kk H3 k0 k1 mv3 => ⟨kk, rfl, p3, ys, rfl, SqL.of (mv3.1 _ _ n3d h3), fun p4 h4 => ?_⟩⟩
    have hns : ∀ y ∈ cutV ys none (some kk), NmV y := fun y hy => hys y (mem_cutV hy)
    have hnl : (cutV ys none (some kk)).length ≤ 8 := by have := len_cutV (xs := ys) (lo := none) (hi := some kk); omega
    generalize hcn : cutV ys none (some kk) = ns at hns hnl
    have hR3 : H3 R = some (.lst []) := mv3.1 R _ nRd hR2
    have I0 : Inv (upd H3 p4 (.lst ns)) (upd H3 p4 (.lst ns)) d R p4 ns [] [] :=
      ⟨fun b o _ _ e => e, mv3.2.same (same_new h4), upd_same, same_new h4 _ _ hR3, (mv3.2.ne h4).symm, nRd, (ne_of_none hR3 h4).symm, fun y hy => (by cases hy), fun y hy => (by cases hy)⟩
    have kp4 : ∀ b o, b ≠ d → H b = some o → (upd H3 p4 (.lst ns)) b = some o := fun b o n e => same_new h4 _ _ (mv3.1 b o n (kp2 b o n e))
    have hRH : H R = none := by
      cases e : H R with
      | none => rfl
      | some o => have := mv1.1 R o nRd (same_new h1 _ _ e); rw [hR] at this; cases this
    generalize upd H3 p4 (.lst ns) = H4 at I0 kp4 ⊢
    have fin : ∀ {H' : Hp} {ys ex : List V}, Inv H4 H' d R p4 ns ys ex → ys.length ≤ 8 → spMixed [V.ref d, V.ref R] H' (fun v H'' => Q v H'') E0 := by
      intro H' ys ex I hl
      refine ⟨d, R, ys, rfl, I.rw, I.rd, by omega, I.di, fun H'' z zs mv hz hzs hm hlz => ?_⟩
      obtain ⟨rs, g1, g2, g3⟩ := rows_of hzs fun y hy => (I.ok y (hm y hy)).up fun t r h => row_moved I.di mv h
      refine q H'' z rs ⟨fun b o n e => mv.1 b o n (I.kp b o n (fun zz => by rw [zz, hRH] at e; cases e) (kp4 b o n e)), mv.2⟩ g1 g2 (by omega)
    refine ⟨_, rfl, p4, ns, rfl, SqL.of I0.pn, for_it walk_enum (fun i σ H' => (∃ a4 a5 a6 a7 a8 a9, σ = [some (.ref d), some (.str k), some (.ref R), some (.ref p4), a4, a5, a6, a7, a8, a9]) ∧ ∃ zs, Inv H4 H' d R p4 ns zs [] ∧ zs.length = i)
      ⟨⟨_, _, _, _, _, _, rfl⟩, [], I0, rfl⟩ (fun i σ H' _ h => by obtain ⟨_, zs, I, _⟩ := h; exact SqL.of I.pn) ?_ ?_⟩
    · rintro i v σ H5 H6 hi ⟨⟨a4, a5, a6, a7, a8, a9, rfl⟩, zs, I, hz⟩ ⟨T, x, y, rfl, hT, rfl, hx, hy⟩
      cases hx
      have hyn : NmV y := hns y (List.mem_of_getElem? hy)
      obtain ⟨n, hn8, rfl⟩ := hyn
      refine ⟨T, _, rfl, SqT.of upd_same, rfl, _, _, rfl, _, _, rfl, rfl, ?_⟩
      have I := I.new hT (.tup [.int (i : Nat), .str n])
      generalize upd H5 T (.tup [.int (i : Nat), .str n]) = H7 at I ⊢
      refine ⟨_, rfl, by show 1 ≤ sizeLine; decide, fun b1 hb1 => ?_⟩
      have g1 : (upd H7 b1 (.lst [V.non])) b1 = some (.lst [V.non]) := upd_same
      have I := I.new hb1 (.lst [V.non])
      generalize upd H7 b1 (.lst [V.non]) = H8 at I g1 ⊢
      refine ⟨_, rfl, _, rfl, (i : Int), rfl, p4, ns, rfl, SqL.of I.pn, fun c1 hc1 => ?_⟩
      have hcl : (cutV ns none (some (i : Int))).length ≤ 8 := by have := len_cutV (xs := ns) (lo := none) (hi := some (i : Int)); omega
      have hcm : ∀ z ∈ cutV ns none (some (i : Int)), AbV z := fun z hz => (hns z (mem_cutV hz)).ab
      generalize hce : cutV ns none (some (i : Int)) = cs at hcl hcm
      have q1 : (upd H8 c1 (.lst cs)) c1 = some (.lst cs) := upd_same
      have g2 : (upd H8 c1 (.lst cs)) b1 = some (.lst [V.non]) := same_new hc1 _ _ g1
      have I := I.new hc1 (.lst cs)
      generalize upd H8 c1 (.lst cs) = H9 at I g2 q1 ⊢
      refine ⟨b1, c1, _, _, rfl, rfl, g2, q1, by show 1 + cs.length ≤ sizeLine; exact Nat.le_trans (show 1 + cs.length ≤ 9 by omega) (by decide), fun b2 hb2 => ?_⟩
      have g3 : (upd H9 b2 (.lst ([V.non] ++ cs))) b2 = some (.lst ([V.non] ++ cs)) := upd_same
      have I := I.new hb2 (.lst ([V.non] ++ cs))
      generalize upd H9 b2 (.lst ([V.non] ++ cs)) = H10 at I g3 ⊢
      refine ⟨_, rfl, _, rfl, (i : Int), rfl, p4, ns, rfl, SqL.of I.pn, fun c2 hc2 => ?_⟩
      rw [hce]
      have q2 : (upd H10 c2 (.lst cs)) c2 = some (.lst cs) := upd_same
      have g4 : (upd H10 c2 (.lst cs)) b2 = some (.lst ([V.non] ++ cs)) := same_new hc2 _ _ g3
      have I := I.new hc2 (.lst cs)
      generalize upd H10 c2 (.lst cs) = H11 at I g4 q2 ⊢
      refine ⟨b2, c2, _, _, rfl, rfl, g4, q2, by rw [List.length_append]; exact Nat.le_trans (show 1 + cs.length + cs.length ≤ 17 by omega) (by decide), fun b3 hb3 => ?_⟩
      have g5 : (upd H11 b3 (.lst ([V.non] ++ cs ++ cs))) b3 = some (.lst ([V.non] ++ cs ++ cs)) := upd_same
      have I := I.new hb3 (.lst ([V.non] ++ cs ++ cs))
      generalize upd H11 b3 (.lst ([V.non] ++ cs ++ cs)) = H12 at I g5 ⊢
      refine ⟨_, rfl, _, rfl, (i : Int), rfl, p4, ns, rfl, SqL.of I.pn, fun c3 hc3 => ?_⟩
      rw [hce]
      have q3 : (upd H12 c3 (.lst cs)) c3 = some (.lst cs) := upd_same
      have g6 : (upd H12 c3 (.lst cs)) b3 = some (.lst ([V.non] ++ cs ++ cs)) := same_new hc3 _ _ g5
      have I := I.new hc3 (.lst cs)
      generalize upd H12 c3 (.lst cs) = H13 at I g6 q3 ⊢
      refine ⟨b3, c3, _, _, rfl, rfl, g6, q3, by rw [List.length_append, List.length_append]; exact Nat.le_trans (show 1 + cs.length + cs.length + cs.length ≤ 25 by omega) (by decide), fun b4 hb4 => ?_⟩
      have g7 : (upd H13 b4 (.lst ([V.non] ++ cs ++ cs ++ cs))) b4 = some (.lst ([V.non] ++ cs ++ cs ++ cs)) := upd_same
      have n4d : b4 ≠ d := (I.di.ne hb4).symm
      have I := I.new hb4 (.lst ([V.non] ++ cs ++ cs ++ cs))
      generalize upd H13 b4 (.lst ([V.non] ++ cs ++ cs ++ cs)) = H14 at I g7 ⊢
      have hln : ([V.non] ++ cs ++ cs ++ cs).length ≤ 25 := by
        rw [List.length_append, List.length_append, List.length_append]
        show 1 + cs.length + cs.length + cs.length ≤ 25
        omega
      refine ⟨d, b4, _, rfl, g7, n4d, by simp, by omega, I.di, fun v H15 hv mv15 => ?_⟩
      have hva : AbV v := by
        rcases List.mem_append.mp hv with h | h
        · rcases List.mem_append.mp h with h | h
          · rcases List.mem_append.mp h with h | h
            · rw [List.mem_singleton.mp h]
              exact ⟨none, fun x e => (by cases e), rfl⟩
            · exact hcm v h
          · exact hcm v h
        · exact hcm v h
      obtain ⟨ab, hab, rfl⟩ := hva
      have I := I.moved mv15
      refine ⟨_, rfl, .inl ⟨rfl, _, .inl (.inl I.rw)⟩, _, rfl, _, rfl, _, rfl, _, rfl, d, 2, rfl, by decide, by decide, I.di, fun j H16 j0 j1 mv16 => ⟨rfl, by show 4 ≤ sizeLine; decide, fun t ht => ?_⟩⟩
      have I := I.moved mv16
      have hb2 : ∃ b : Bool, V.bl (decide (V.int j = V.int 0)) = V.bl b := ⟨_, rfl⟩
      obtain ⟨bb, hbb⟩ := hb2
      have hrow : RowAt (upd H16 t (.tup [.str n, .str k, ov ab, .bl (decide (V.int j = V.int 0))])) t ⟨n, k, ab, decide (V.int j = V.int 0)⟩ := upd_same
      have I := (I.new ht (.tup [.str n, .str k, ov ab, .bl (decide (V.int j = V.int 0))])).row hrow ⟨N8_N0 hn8, hk0, hab⟩
      generalize upd H16 t (.tup [.str n, .str k, ov ab, .bl (decide (V.int j = V.int 0))]) = H17 at I ⊢
      refine ⟨R, zs, .ref t, rfl, rfl, I.rw, small1000 (by omega), ⟨_, _, _, _, _, _, rfl⟩, zs ++ [.ref t], ?_, by rw [List.length_append]; show zs.length + 1 = i + 1; omega⟩
      have I2 := I.set (zs := zs ++ [.ref t]) fun z hz => List.mem_append.mp hz
      exact ⟨I2.kp, I2.di, I2.pn, I2.rw, I2.pd, I2.rd, I2.pr, I2.ok, fun y hy => (by cases hy)⟩
    · rintro σ H5 ⟨⟨a4, a5, a6, a7, a8, a9, rfl⟩, zs, I, hz⟩
      refine ⟨_, rfl, d, 9, rfl, by decide, by decide, I.di, fun lot H6 l0 l1 mv6 => ?_⟩
      have I := I.moved mv6
      refine ⟨_, rfl, Nat.zero_le _, fun p9 h9 => ?_⟩
      have hz9 : (upd H6 p9 (.lst [])) p9 = some (.lst []) := upd_same
      have I := I.new h9 (.lst [])
      generalize upd H6 p9 (.lst []) = H7 at I hz9 ⊢
      refine ⟨R, p9, zs, rfl, rfl, SqL.of I.rw, SqL.of hz9, _, rfl, ?_⟩
      refine ite2 (fun hc => ?_) (fun _ => ?_)
      · have hne : zs ≠ [] := fun e => by rw [e] at hc; cases hc
        have hpos : 0 < zs.length := List.length_pos_iff.mpr hne
        have hzl : zs.length ≤ 8 := by omega
        have hnn : ns ≠ [] := fun e => by rw [e] at hz; exact hne (List.eq_nil_of_length_eq_zero hz)
        refine ⟨_, rfl, _, _, rfl, rfl, _, rfl, ?_⟩
        refine ite2 (fun hc2 => ?_) (fun _ => ?_)
        · have hlot : lot < 6 := of_decide_eq_true hc2
          obtain ⟨lo, rfl⟩ := Int.eq_ofNat_of_zero_le l0
          refine ⟨_, rfl, _, rfl, R, zs, rfl, .inl (SqL.of I.rw), d, _, rfl, by omega, by omega, I.di, fun jj H8 k0 k1 mv8 => ?_⟩
          have I := I.moved mv8
          obtain ⟨j, rfl⟩ := Int.eq_ofNat_of_zero_le k0
          have hj : j < zs.length := by omega
          obtain ⟨t, r, ht, hrow, hdr⟩ := I.ok _ (List.getElem_mem hj)
          refine ⟨_, rfl, _, rfl, R, zs, _, zs[j], rfl, rfl, SqL.of I.rw, atI_nat (by simp [hj]), t, _, ht, SqT.of hrow, rfl, _, _, rfl, _, _, rfl, _, _, rfl, _, _, rfl, rfl, ?_⟩
          -- the odd rows
          refine ⟨_, rfl, _, rfl, _, rfl, _, rfl, d, p4, ns, rfl, I.pn, I.pd, hnn, by omega, I.di, fun v1 H9 hv1 mv9 => ?_⟩
          obtain ⟨m1, hm1, rfl⟩ := hns v1 hv1
          have I := I.moved mv9
          refine ⟨_, rfl, by show 4 ≤ sizeLine; decide, fun t1 g1 => ?_⟩
          have hr1 : RowAt (upd H9 t1 (.tup [.str r.n, .str r.k, .str m1, .bl r.s])) t1 ⟨r.n, r.k, some m1, r.s⟩ := upd_same
          have I := (I.new g1 (.tup [.str r.n, .str r.k, .str m1, .bl r.s])).row hr1 ⟨hdr.n, hdr.k, fun x e => by cases e; exact N0_A0 (N8_N0 hm1)⟩
          generalize upd H9 t1 (.tup [.str r.n, .str r.k, .str m1, .bl r.s]) = H10 at I ⊢
          refine ⟨_, rfl, _, rfl, _, rfl, by show 4 ≤ sizeLine; decide, fun t2 g2 => ?_⟩
          have hr2 : RowAt (upd H10 t2 (.tup [.str r.n, .str "flag", ov r.a, .bl r.s])) t2 ⟨r.n, "flag", r.a, r.s⟩ := upd_same
          have I := (I.new g2 (.tup [.str r.n, .str "flag", ov r.a, .bl r.s])).row hr2 ⟨hdr.n, by show ("flag" : Str) ∈ K0; decide, hdr.a⟩
          generalize upd H10 t2 (.tup [.str r.n, .str "flag", ov r.a, .bl r.s]) = H11 at I ⊢
          refine ⟨by show 2 ≤ sizeLine; decide, fun L1 hL1 => ?_⟩
          have nL1 : L1 ≠ d := (I.di.ne hL1).symm
          have x1 : (upd H11 L1 (.lst [.ref t1, .ref t2])) L1 = some (.lst [.ref t1, .ref t2]) := upd_same
          have I := I.new hL1 (.lst [.ref t1, .ref t2])
          generalize upd H11 L1 (.lst [.ref t1, .ref t2]) = H12 at I x1 ⊢
          refine ⟨_, rfl, _, rfl, by show 2 ≤ sizeLine; decide, fun b hb => ?_⟩
          have x2 : (upd H12 b (.lst [.str "label", .str "to"])) b = some (.lst [.str "label", .str "to"]) := upd_same
          have x1 : (upd H12 b (.lst [.str "label", .str "to"])) L1 = some (.lst [.ref t1, .ref t2]) := same_new hb _ _ x1
          have I := I.new hb (.lst [.str "label", .str "to"])
          generalize upd H12 b (.lst [.str "label", .str "to"]) = H13 at I x1 x2 ⊢
          refine ⟨_, rfl, b, p4, _, _, rfl, rfl, x2, I.pn, Nat.le_trans (show 2 + ns.length ≤ 10 by omega) (by decide), fun b2 hb2 => ?_⟩
          have nb2 : b2 ≠ d := (I.di.ne hb2).symm
          have x3 : (upd H13 b2 (.lst ([.str "label", .str "to"] ++ ns))) b2 = some (.lst ([.str "label", .str "to"] ++ ns)) := upd_same
          have x1 : (upd H13 b2 (.lst ([.str "label", .str "to"] ++ ns))) L1 = some (.lst [.ref t1, .ref t2]) := same_new hb2 _ _ x1
          have I := I.new hb2 (.lst ([.str "label", .str "to"] ++ ns))
          generalize upd H13 b2 (.lst ([.str "label", .str "to"] ++ ns)) = H14 at I x1 x3 ⊢
          refine ⟨d, b2, _, rfl, x3, nb2, by simp, (by rw [List.length_append]; show 2 + ns.length < 1000000000; omega), I.di, fun v2 H15 hv2 mv15 => ?_⟩
          have hv2n : ∃ m2 : Str, m2 ∈ N0 ∧ v2 = .str m2 := by
            rcases List.mem_append.mp hv2 with h | h
            · rcases List.mem_cons.mp h with h | h
              · exact ⟨_, by decide, h⟩
              · exact ⟨_, by decide, List.mem_singleton.mp h⟩
            · obtain ⟨m, h1, h2⟩ := hns v2 h
              exact ⟨m, N8_N0 h1, h2⟩
          obtain ⟨m2, hm2, rfl⟩ := hv2n
          have x1 := mv15.1 L1 _ nL1 x1
          have I := I.moved mv15
          refine ⟨_, rfl, _, rfl, _, rfl, by show 4 ≤ sizeLine; decide, fun t3 g3 => ?_⟩
          have hr3 : RowAt (upd H15 t3 (.tup [.str m2, .str r.k, ov r.a, .bl r.s])) t3 ⟨m2, r.k, r.a, r.s⟩ := upd_same
          have x1 : (upd H15 t3 (.tup [.str m2, .str r.k, ov r.a, .bl r.s])) L1 = some (.lst [.ref t1, .ref t2]) := same_new g3 _ _ x1
          have I := (I.new g3 (.tup [.str m2, .str r.k, ov r.a, .bl r.s])).row hr3 ⟨hm2, hdr.k, hdr.a⟩
          generalize upd H15 t3 (.tup [.str m2, .str r.k, ov r.a, .bl r.s]) = H16 at I x1 ⊢
          refine ⟨by show 1 ≤ sizeLine; decide, fun L2 hL2 => ?_⟩
          have x4 : (upd H16 L2 (.lst [.ref t3])) L2 = some (.lst [.ref t3]) := upd_same
          have x1 : (upd H16 L2 (.lst [.ref t3])) L1 = some (.lst [.ref t1, .ref t2]) := same_new hL2 _ _ x1
          have I := I.new hL2 (.lst [.ref t3])
          generalize upd H16 L2 (.lst [.ref t3]) = H17 at I x1 x4 ⊢
          refine ⟨L1, L2, _, _, rfl, rfl, x1, x4, by show 3 ≤ sizeLine; decide, fun L3 hL3 => ?_⟩
          have x5 : (upd H17 L3 (.lst [.ref t1, .ref t2, .ref t3])) L3 = some (.lst [.ref t1, .ref t2, .ref t3]) := upd_same
          have I := I.new hL3 (.lst [.ref t1, .ref t2, .ref t3])
          show tSeq _ _ _ _ (upd H17 L3 (.lst [.ref t1, .ref t2, .ref t3]))
          generalize upd H17 L3 (.lst [.ref t1, .ref t2, .ref t3]) = H18 at I x5 ⊢
          refine ⟨_, rfl, _, rfl, _, rfl, _, rfl, by show 4 ≤ sizeLine; decide, fun t4 g4 => ?_⟩
          have hr4 : RowAt (upd H18 t4 (.tup [.str r.n, .str r.k, .str "z", .bl r.s])) t4 ⟨r.n, r.k, some "z", r.s⟩ := upd_same
          have x5 : (upd H18 t4 (.tup [.str r.n, .str r.k, .str "z", .bl r.s])) L3 = some (.lst [.ref t1, .ref t2, .ref t3]) := same_new g4 _ _ x5
          have I := (I.new g4 (.tup [.str r.n, .str r.k, .str "z", .bl r.s])).row hr4 ⟨hdr.n, hdr.k, fun x e => by cases e; show ("z" : Str) ∈ A0; decide⟩
          generalize upd H18 t4 (.tup [.str r.n, .str r.k, .str "z", .bl r.s]) = H19 at I x5 ⊢
          obtain ⟨pre, y, hpre⟩ : ∃ pre y, ns = pre ++ [y] := ⟨_, _, (List.dropLast_concat_getLast hnn).symm⟩
          obtain ⟨m3, hm3, rfl⟩ := hns y (by rw [hpre]; exact List.mem_append_right _ (List.mem_singleton.mpr rfl))
          refine ⟨_, rfl, _, rfl, _, rfl, _, rfl, p4, ns, _, .str m3, rfl, rfl, SqL.of I.pn, by rw [hpre]; exact atI_last _ _, _, rfl, by show 4 ≤ sizeLine; decide, fun t5 g5 => ?_⟩
          have hr5 : RowAt (upd H19 t5 (.tup [.str r.n, .str r.k, .str m3, .bl r.s])) t5 ⟨r.n, r.k, some m3, r.s⟩ := upd_same
          have x5 : (upd H19 t5 (.tup [.str r.n, .str r.k, .str m3, .bl r.s])) L3 = some (.lst [.ref t1, .ref t2, .ref t3]) := same_new g5 _ _ x5
          have I := (I.new g5 (.tup [.str r.n, .str r.k, .str m3, .bl r.s])).row hr5 ⟨hdr.n, hdr.k, fun x e => by cases e; exact N0_A0 (N8_N0 hm3)⟩
          generalize upd H19 t5 (.tup [.str r.n, .str r.k, .str m3, .bl r.s]) = H20 at I x5 ⊢
          refine ⟨_, rfl, R, zs, _, zs[0], rfl, rfl, SqL.of I.rw, atI_nat (j := 0) (by simp [hpos]), by show 3 ≤ sizeLine; decide, fun L4 hL4 => ?_⟩
          have x6 : (upd H20 L4 (.lst [.ref t4, .ref t5, zs[0]])) L4 = some (.lst [.ref t4, .ref t5, zs[0]]) := upd_same
          have x5 : (upd H20 L4 (.lst [.ref t4, .ref t5, zs[0]])) L3 = some (.lst [.ref t1, .ref t2, .ref t3]) := same_new hL4 _ _ x5
          have I := I.new hL4 (.lst [.ref t4, .ref t5, zs[0]])
          generalize upd H20 L4 (.lst [.ref t4, .ref t5, zs[0]]) = H21 at I x5 x6 ⊢
          refine ⟨L3, L4, _, _, rfl, rfl, x5, x6, by show 6 ≤ sizeLine; decide, fun L5 hL5 => ?_⟩
          have x7 : (upd H21 L5 (.lst [.ref t1, .ref t2, .ref t3, .ref t4, .ref t5, zs[0]])) L5 = some (.lst [.ref t1, .ref t2, .ref t3, .ref t4, .ref t5, zs[0]]) := upd_same
          have I := I.new hL5 (.lst [.ref t1, .ref t2, .ref t3, .ref t4, .ref t5, zs[0]])
          have hlo : lo < [V.ref t1, .ref t2, .ref t3, .ref t4, .ref t5, zs[0]].length := by show lo < 6; omega
          refine ⟨_, rfl, _, rfl, L5, [V.ref t1, .ref t2, .ref t3, .ref t4, .ref t5, zs[0]], _, [V.ref t1, .ref t2, .ref t3, .ref t4, .ref t5, zs[0]][lo], rfl, rfl, SqL.of x7, atI_nat (by rw [List.getElem?_eq_getElem hlo]), ?_⟩
          have hm6 : [V.ref t1, .ref t2, .ref t3, .ref t4, .ref t5, zs[0]][lo] ∈ zs ∨ [V.ref t1, .ref t2, .ref t3, .ref t4, .ref t5, zs[0]][lo] ∈ [V.ref t5, .ref t4, .ref t3, .ref t2, .ref t1] := by
            have h := List.getElem_mem hlo
            generalize [V.ref t1, .ref t2, .ref t3, .ref t4, .ref t5, zs[0]][lo] = e at h
            simp only [List.mem_cons, List.not_mem_nil, or_false] at h ⊢
            rcases h with h | h | h | h | h | h
            · exact .inr (by simp [h])
            · exact .inr (by simp [h])
            · exact .inr (by simp [h])
            · exact .inr (by simp [h])
            · exact .inr (by simp [h])
            · exact .inl (by rw [h]; exact List.getElem_mem hpos)
          generalize [V.ref t1, .ref t2, .ref t3, .ref t4, .ref t5, zs[0]][lo] = e at hm6 ⊢
          refine ⟨_, rfl, _, rfl, R, zs, _, j, rfl, rfl, I.rw, ixN_at hj, ?_⟩
          have I := I.set (zs := zs.set j e) fun z hz => by
            rcases List.mem_or_eq_of_mem_set hz with h | h
            · exact .inl h
            · rw [h]; exact hm6
          exact ⟨_, rfl, _, rfl, fin I (by rw [List.length_set]; exact hzl)⟩
        · exact ⟨_, rfl, _, rfl, fin I hzl⟩
      · exact ⟨_, rfl, _, rfl, fin I (by omega)⟩
end
end Bw

namespace Bw
open PySem PySem.Spec L2 TL PyProof.Rows

/-! ### drawn types, judged -/
theorem minF_mem : ∀ (l : List Str) (a : Str), minF a l = a ∨ minF a l ∈ l
  | [], a => .inl rfl
  | y :: r, a => by
    have ih := minF_mem r (if PySem.W.dataLt (.str y) (.str a) then y else a)
    have e : minF a (y :: r) = minF (if PySem.W.dataLt (.str y) (.str a) then y else a) r := rfl
    rw [e]
    rcases ih with h | h
    · rw [h]
      split
      · exact .inr (List.mem_cons_self ..)
      · exact .inl rfl
    · exact .inr (List.mem_cons_of_mem _ h)
theorem minS_mem : ∀ {l : List Str}, l ≠ [] → minS l ∈ l
  | [], h => absurd rfl h
  | a :: r, _ => by
    rcases minF_mem r a with h | h
    · show minF a r ∈ a :: r
      rw [h]; exact List.mem_cons_self ..
    · exact List.mem_cons_of_mem _ h
theorem fault_ok {rs : List Ro} (h : ∀ n ∈ nmR rs, PyData.strOk n = true) : ∀ p, faultR rs = some p → PyData.strOk p.1 = true ∧ PyData.strOk p.2 = true := by
  intro p hp
  unfold faultR at hp
  have two : ∀ r ∈ rs, PyData.strOk r.n = true := fun r hr => h _ (List.mem_map_of_mem hr)
  split at hp
  · next h1 => cases hp; exact ⟨by show PyData.strOk ("twice" : Str) = true; decide +kernel, h _ (List.mem_filter.mp (minS_mem h1)).1 ⟩
  split at hp
  · next h1 =>
    cases hp
    obtain ⟨r, hr, e⟩ := List.mem_map.mp (minS_mem h1)
    refine ⟨by show PyData.strOk ("above" : Str) = true; decide +kernel, ?_⟩
    have e' : r.n = minS (bad2 rs) := e
    show PyData.strOk (minS (bad2 rs)) = true
    rw [← e']
    exact two r (List.mem_filter.mp hr).1
  split at hp
  · next h1 => cases hp; exact ⟨by show PyData.strOk ("ring" : Str) = true; decide +kernel, h _ (List.mem_filter.mp (minS_mem h1)).1 ⟩
  split at hp
  · next h1 => cases hp; exact ⟨by show PyData.strOk ("high" : Str) = true; decide +kernel, h _ (List.mem_filter.mp (minS_mem h1)).1 ⟩
  split at hp
  · cases hp; exact ⟨by decide +kernel, by decide +kernel⟩
  · cases hp
def fltD : Option (Str × Str) → PyData
  | none => .none
  | some p => .tuple [.str p.1, .str p.2]
theorem dp_flt {K : PySem.W.Frag} {H : Hp} {v : V} : ∀ {o : Option (Str × Str)}, FaultV H v o → Dp K H v (fltD o)
  | none, h => by
    have e : v = .non := h
    rw [e]
    exact .non
  | some p, ⟨t, e, h⟩ => by
    rw [e]
    exact .tup (SqT.of h) (.cons (.str _) (.cons (.str _) .nil))
theorem shaped_flt : ∀ {o : Option (Str × Str)}, (∀ p, o = some p → PyData.strOk p.1 = true ∧ PyData.strOk p.2 = true) → SeqAt.shaped (fltD o) = true
  | none, _ => by decide +kernel
  | some p, h => by
    obtain ⟨h1, h2⟩ := h p rfl
    unfold SeqAt.shaped fltD
    have hd : (PyData.tuple [PyData.str p.1, PyData.str p.2]).depth ≤ 64 := by
      simp only [PyData.depth, PyData.depthAll]
      omega
    rw [decide_eq_true hd, Bool.and_true]
    simp only [PyData.canLay0, PyData.canLayAll0, h1, h2, Bool.and_self]
theorem FaultV.up {H H' : Hp} {v : V} (s : Same H H') : ∀ {o : Option (Str × Str)}, FaultV H v o → FaultV H' v o
  | none, h => h
  | some p, ⟨t, e, h⟩ => ⟨t, e, s _ _ h⟩
def spRight : Sp := fun vs H Q _ => ∃ d : Addr, vs = [.ref d] ∧ DiceAt H d ∧ ∀ H', Moved d H H' → Q (.bl true) H'
section
variable {P : Program} {w : World} {K : PySem.W.Frag} {mg : Str → Option Value} {base : Heap} {f : Addr} {fd : FuncData} {aK aC aH aR : Addr}
theorem ok_law_right (F : Fun K "_law_right" "_law_right" s_law_right f fd) (T : Txt K mg aK) (D_law_some_rows : Dfn P w K mg base "_law_some_rows" 3 ["_law_dice_here"] spSomeRows) (D_type_fault : Dfn P w K mg base "type_fault" 5 ["types"] (spFault aC))
    (D_law_types_fault : Dfn P w K mg base "_law_types_fault" 3 ["_law_rows"] spLFault) (D_law_made_types : Dfn P w K mg base "_law_made_types" 6 ["_law_rows"] (spMadeL aC)) (D_law_keeps : Dfn P w K mg base "_law_keeps" 6 ["_law_row"] spKeeps) :
    FnOk P w K mg base CX0 7 f fd ["_law_dice_here"] spRight := by
  refine F.ok sc_law_right (fun vs H Q E h => ?_) (fun cdv A outer s H vs Q E hr h => ?_)
  · obtain ⟨d, rfl, _⟩ := h
    rfl
  · obtain ⟨d, rfl, hd, q⟩ := h
    refine ⟨_, (pss_cons (ps_for PassesOwn.never rfl (pi_range1 (by rfl) T.b_range (pa_cons pe_int pa_nil)) (pg_name (i := 1) sc_law_right.nd rfl (Or.inl rfl)) (pss_cons (ps_set (i := 2) sc_law_right.nd rfl (Or.inl rfl) (pe_d D_law_some_rows hr (by decide) (pa_cons (pv 0) pa_nil))) (pss_cons (ps_if (pt_cmpR (r := rNeD K) (op_neD hr.units) (pe_d D_type_fault hr (by decide) (pa_cons (pe_d D_law_made_types hr (by decide) (pa_cons (pv 2) pa_nil)) pa_nil)) (pe_d D_law_types_fault hr (by decide) (pa_cons (pv 2) pa_nil)) (nomark _)) (pss_one (ps_ret pe_bl)) pss_nil) (pss_one (ps_if (pt_cmpR (r := rNeNil K) (op_neNil hr.units0) (pe_lc (own := [("_law_row", 3)]) (g := gName 3) (by rfl) sc_law_right.nd (pi_list (pv 2)) (blkOk_by (own := [("_law_row", 3)]) (N := n_law_right) (sc := defScope s_law_right) (by decide +kernel)) (fun _ _ _ _ _ => pg_name (i := 3) sc_law_right.nd rfl (Or.inl rfl)) (fun _ _ _ _ _ => (pts_one (pt_not (pt_val (pe_d D_law_keeps hr (by decide) (pa_cons (pv 3) pa_nil)))))) (fun _ _ _ _ _ => (pv 3))) (pe_lst pa_nil) (nomark _)) (pss_one (ps_ret pe_bl)) pss_nil))))) (pss_one (ps_ret pe_bl))), ?_⟩
    refine ⟨_, rfl, by decide, by decide, for_it walk_range (fun i σ H' => (∃ a1 a2 a3, σ = [some (.ref d), a1, a2, a3]) ∧ Moved d H H') ⟨⟨_, _, _, rfl⟩, fun _ _ _ e => e, hd⟩ (fun _ _ _ _ _ => trivial) ?_ ?_⟩
    · rintro i v σ H1 H2 hi ⟨⟨a1, a2, a3, rfl⟩, mv⟩ ⟨rfl, rfl⟩
      refine ⟨_, rfl, d, rfl, mv.2, fun H3 l rs mv3 hrows hdr hl => ?_⟩
      have mvB : Moved d H H3 := ⟨fun b o n e => mv3.1 b o n (mv.1 b o n e), mv3.2⟩
      refine ⟨_, rfl, l, rs, rfl, hrows, fun r hr => ok_of_dr (hdr r hr), by omega, fun H4 p sm4 htp => ⟨p, rs, rfl, htp, by omega, fun H5 v1 sm5 hv1 => ?_⟩⟩
      have sm35 : Same H3 H5 := fun b o e => sm5 b o (sm4 b o e)
      refine ⟨_, rfl, l, rs, rfl, hrows.up sm35, by omega, fun H6 v2 sm6 hv2 => ?_⟩
      have hok : ∀ n ∈ nmR rs, PyData.strOk n = true := fun n hn => by
        obtain ⟨r, hr, e⟩ := List.mem_map.mp hn
        rw [← e]
        exact strOk_sgn (ok_of_dr (hdr r hr)).1.1
      have hsh := shaped_flt (fault_ok hok)
      refine ⟨_, _, dp_flt (hv1.up sm6), dp_flt hv2, hsh, hsh, _, rfl, ?_⟩
      rw [SeqAt.eqv_refl _ (SeqAt.canLay_of_shaped hsh)]
      refine iteF ?_
      have sm36 : Same H3 H6 := fun b o e => sm6 b o (sm35 b o e)
      obtain ⟨zs, hz, ez, hzs⟩ := rows_zip (hrows.up sm36)
      have hlen : zs.length = rs.length := by rw [← ez, List.length_map]
      refine ⟨_, rfl, l, rfl, ⟨_, SqL.of hz⟩, fun D hD => lc_gen (walk_list (K := K) (a := l) (xs := zs.map fun z => V.ref z.1)) (fun _ => false) _ (keepR_val (fun z : Addr × Ro => V.ref z.1)) hD (by omega) (fun H' sm => SqL.of (sm _ _ hz)) ?_ ?_⟩
      · intro z G2 N Y hzm sm _ hno _
        have hrow := sm _ _ (hzs z hzm)
        have hdz : DrRo z.2 := hdr _ (by rw [← ez]; exact List.mem_map_of_mem hzm)
        refine ⟨rfl, _, rfl, z.1, z.2, rfl, hrow, hdz, fun G3 sm3 => ?_⟩
        exact ⟨_, rfl, iteF (hno rfl _ sm3)⟩
      · intro H' ys sm hD' hp
        have e0 : zs.filter (fun _ => false) = [] := List.filter_eq_nil_iff.mpr (fun _ _ => Bool.false_ne_true)
        rw [e0] at hp
        cases hp
        refine ⟨Nat.zero_le _, fun N hN => ⟨D, N, [], rfl, rfl, SqL.of (same_new hN _ _ hD'), SqL.of upd_same, _, rfl, iteF ?_⟩⟩
        refine ⟨⟨_, _, _, rfl⟩, ?_⟩
        have smZ : Same H3 (upd H' N (.lst [])) := fun b o e => same_new hN b o (sm b o (sm36 b o e))
        exact ⟨fun b o n e => smZ b o (mvB.1 b o n e), mvB.2.same smZ⟩
    · rintro σ H1 ⟨_, mv⟩
      exact q H1 mv
end
end Bw

namespace Bw
open PySem PySem.Spec L2 TL PyProof.Rows

/-! ### the law -/
theorem types_zip {aC : Addr} {H : Hp} {p : Addr} {rs : List Ro} (h : TypesAt aC H p rs) : ∃ zs : List (Addr × Ro), H p = some (.tup (zs.map fun z => V.ref z.1)) ∧ zs.map (·.2) = rs ∧ ∀ z ∈ zs, TypeAt aC H z.1 z.2 := by
  obtain ⟨ts, h1, h2⟩ := h
  have : ∀ {ts : List Addr} {rs : List Ro}, Paired (TypeAt aC H) ts rs → ∃ zs : List (Addr × Ro), ts = zs.map (·.1) ∧ zs.map (·.2) = rs ∧ ∀ z ∈ zs, TypeAt aC H z.1 z.2 := by
    intro ts rs p
    induction p with
    | nil => exact ⟨[], rfl, rfl, fun z hz => by cases hz⟩
    | @cons a b l1 l2 r t ih =>
      obtain ⟨zs, e1, e2, e3⟩ := ih
      refine ⟨(a, b) :: zs, by rw [e1]; rfl, by rw [← e2]; rfl, fun z hz => ?_⟩
      rcases List.mem_cons.mp hz with e | e
      · rw [e]; exact r
      · exact e3 z e
  obtain ⟨zs, e1, e2, e3⟩ := this h2
  refine ⟨zs, ?_, e2, e3⟩
  rw [h1, e1, List.map_map]
  rfl
/-- what is told of a type: a new tuple -/
theorem keepR_tup {α : Type} (g : α → List V) : KeepR (fun H (x : α) v => ∃ p, v = V.ref p ∧ H p = some (.tup (g x))) := by
  rintro H H' D x v ⟨l, hD⟩ k ⟨p, rfl, h⟩
  exact ⟨p, rfl, k _ _ (fun z => by rw [z, hD] at h; cases h) h⟩
mutual
theorem dp_up {K : PySem.W.Frag} {H H' : Hp} (s : Same H H') : ∀ {v : V} {d : PyData}, Dp K H v d → Dp K H' v d
  | _, _, .non => .non
  | _, _, .bl b => .bl b
  | _, _, .int i => .int i
  | _, _, .str x => .str x
  | _, _, .lst h t => .lst (s.seq h) (dpA_up s t)
  | _, _, .tup h t => .tup (h.imp (fun z => z.imp (s _ _) fun ⟨o, z⟩ => ⟨o, s _ _ z⟩) id) (dpA_up s t)
theorem dpA_up {K : PySem.W.Frag} {H H' : Hp} (s : Same H H') : ∀ {v : List V} {d : List PyData}, DpAll K H v d → DpAll K H' v d
  | _, _, .nil => .nil
  | _, _, .cons h t => .cons (dp_up s h) (dpA_up s t)
end
theorem dpAll_of {α : Type} {K : PySem.W.Frag} {H : Hp} {R : α → V → Prop} {g : α → PyData} (h : ∀ x v, R x v → Dp K H v (g x)) : ∀ {xs : List α} {ys : List V}, Paired R xs ys → DpAll K H ys (xs.map g)
  | _, _, .nil => .nil
  | _, _, .cons r t => .cons (h _ _ r) (dpAll_of h t)
theorem paired_vals {α : Type} {g : α → V} : ∀ {xs : List α} {ys : List V}, Paired (fun x v => v = g x) xs ys → ys = xs.map g
  | _, _, .nil => rfl
  | _, _, .cons r t => by rw [r, paired_vals t]; rfl
theorem dpStrs {K : PySem.W.Frag} {H : Hp} : ∀ l : List Str, DpAll K H (l.map V.str) (l.map PyData.str)
  | [] => .nil
  | x :: r => .cons (.str x) (dpStrs r)
theorem walk_rangeL {n : Nat} : Walk (Itr 0 n) ((List.range n).map fun i : Nat => V.int (i : Int)).length (fun _ => True) (YAt ((List.range n).map fun i : Nat => V.int (i : Int))) := by
  rw [List.length_map, List.length_range]
  refine walk_range.mono (fun _ h => h) fun i H x H' hi _ y => ?_
  obtain ⟨e, rfl⟩ := y
  refine ⟨e, ?_⟩
  rw [List.getElem?_map, List.getElem?_range hi]
  show some (V.int (i : Int)) = some (V.int (0 + (i : Int)))
  rw [Int.zero_add]
def tS (i : Int) : Str := ("t" : Str) ++ (toString i : Str)
def chR (i : Nat) : Ro := ⟨tS i, "text", if 0 < i then some (tS ((i : Int) - 1)) else none, false⟩
def mnR (i : Nat) : Ro := ⟨tS i, "text", none, false⟩
def chL : List Ro := (List.range 5).map chR
def mnL : List Ro := (List.range 21).map mnR
theorem okro_dec (r : Ro) (h : ((Txt.isascii r.n && Txt.isprintable r.n) && wdL (tl r.n) && decide (r.k ∈ kindsL) && (match r.a with | none => true | some a => Txt.isascii a && Txt.isprintable a && wdL (tl a))) = true) : OkRo r := by
  rw [Bool.and_eq_true, Bool.and_eq_true, Bool.and_eq_true, decide_eq_true_eq] at h
  obtain ⟨⟨⟨h1, h2⟩, h3⟩, h4⟩ := h
  refine ⟨⟨(signs_iff _).mp h1, h2⟩, h3, fun y e => ?_⟩
  rw [e] at h4
  rw [Bool.and_eq_true] at h4
  exact ⟨(signs_iff _).mp h4.1, h4.2⟩
theorem num_ok : ∀ i : Nat, i < 21 → (i : Int).natAbs.log2 < 1920 ∧ ((i : Int) - 1).natAbs.log2 < 1920 ∧ ("t" : Str).length + (toString (i : Int) : Str).length ≤ sizeLine ∧ ("t" : Str).length + (toString ((i : Int) - 1) : Str).length ≤ sizeLine := by decide +kernel
theorem ch_ok : ∀ r ∈ chL, OkRo r := fun r hr => okro_dec r ((by decide +kernel : ∀ r ∈ chL, ((Txt.isascii r.n && Txt.isprintable r.n) && wdL (tl r.n) && decide (r.k ∈ kindsL) && (match r.a with | none => true | some a => Txt.isascii a && Txt.isprintable a && wdL (tl a))) = true) r hr)
theorem mn_ok : ∀ r ∈ mnL, OkRo r := fun r hr => okro_dec r ((by decide +kernel : ∀ r ∈ mnL, ((Txt.isascii r.n && Txt.isprintable r.n) && wdL (tl r.n) && decide (r.k ∈ kindsL) && (match r.a with | none => true | some a => Txt.isascii a && Txt.isprintable a && wdL (tl a))) = true) r hr)
theorem f_ch : faultR chL = some (("high" : Str), ("t4" : Str)) := by decide +kernel
theorem f_ch4 : faultR (chL.take 4) = none := by decide +kernel
theorem f_mn : faultR mnL = some (("many" : Str), ("" : Str)) := by decide +kernel
theorem f_mn1 : faultR (mnL.drop 1) = none := by decide +kernel
theorem f_nil : faultR [] = none := by decide +kernel
theorem house_none : ∀ r ∈ houseR, r.a = none := by decide +kernel
theorem house_kd : ∀ r ∈ houseR, valV kindsD (Sum.inr r.n) = some (.str r.k) := by decide +kernel
def hsD : List PyData := houseR.map fun r => PyData.tuple [.str r.n, .str r.k, .none]
theorem hs_sh : SeqAt.shaped (.list hsD) = true := by decide +kernel
def sgL : List Str := ["below", "grants", "ground", "label", "least", "most", "rank", "to"]
theorem sg_house : (houseR.filter (·.s)).map (·.n) = sgL := by decide +kernel
theorem sg_sh : SeqAt.shaped (.list (sgL.map PyData.str)) = true := by decide +kernel
theorem map_zs {β : Type} {zs : List (Addr × Ro)} {rs : List Ro} (ez : zs.map (·.2) = rs) (g : Ro → β) : zs.map (fun z => g z.2) = rs.map g := by
  rw [← ez, List.map_map]
  rfl
theorem filt_zs {zs : List (Addr × Ro)} {rs : List Ro} (ez : zs.map (·.2) = rs) (q : Ro → Bool) : (zs.filter fun z => q z.2).map (·.2) = rs.filter q := by
  rw [← ez, List.filter_map]
  rfl
theorem same_moved {H H1 H2 : Hp} {p : Addr} (s : Same H H1) (hp : H p = none) (mv : Moved p H1 H2) : Same H H2 := fun b o e => mv.1 b o (ne_of_none e hp) (s b o e)
theorem paired_drop {α β : Type} {G : α → β → Prop} : ∀ (n : Nat) {xs : List α} {ys : List β}, Paired G xs ys → Paired G (xs.drop n) (ys.drop n)
  | 0, _, _, h => h
  | n + 1, _, _, .nil => .nil
  | n + 1, _, _, .cons _ t => paired_drop n t
theorem paired_take {α β : Type} {G : α → β → Prop} : ∀ (n : Nat) {xs : List α} {ys : List β}, Paired G xs ys → Paired G (xs.take n) (ys.take n)
  | 0, _, _, _ => .nil
  | n + 1, _, _, .nil => .nil
  | n + 1, _, _, .cons h t => .cons h (paired_take n t)
theorem rows_cut {H : Hp} {ts : List Addr} {rs : List Ro} (h : Paired (RowAt H) ts rs) (lo hi : Option Int) :
    ∃ ts' : List Addr, cutV (ts.map V.ref) lo hi = ts'.map V.ref ∧ Paired (RowAt H) ts' ((rs.drop (HT.sIx rs.length 0 lo)).take (HT.sIx rs.length rs.length hi - HT.sIx rs.length 0 lo)) := by
  refine ⟨(ts.drop (HT.sIx ts.length 0 lo)).take (HT.sIx ts.length ts.length hi - HT.sIx ts.length 0 lo), ?_, ?_⟩
  · unfold cutV
    rw [List.length_map, List.map_take, List.map_drop]
  · rw [h.length]
    exact paired_take _ (paired_drop _ h)
theorem rows_made {H : Hp} {D : Addr} {n : Nat} {g : Nat → Ro} {ys : List V} (hs : ∀ i, (g i).s = false) (h : Paired (fun i v => ∃ p, v = V.ref p ∧ H p = some (.tup [.str (g i).n, .str (g i).k, ov (g i).a, .bl false])) (List.range n) ys) :
    ∃ ts : List Addr, ys = ts.map V.ref ∧ Paired (RowAt H) ts ((List.range n).map g) := by
  obtain ⟨ps, e, hp⟩ := paired_refs h
  refine ⟨ps, e, paired_map_r (Paired.mapP hp fun p i z => ?_)⟩
  unfold RowAt
  rw [hs]
  exact z
theorem ch_cut : (chL.drop (HT.sIx chL.length 0 none)).take (HT.sIx chL.length chL.length (some 4) - HT.sIx chL.length 0 none) = chL.take 4 := rfl
theorem mn_cut : (mnL.drop (HT.sIx mnL.length 0 (some 1))).take (HT.sIx mnL.length mnL.length none - HT.sIx mnL.length 0 (some 1)) = mnL.drop 1 := rfl
def tdD : List PyData := [fltD (some (("high" : Str), ("t4" : Str))), fltD none, fltD (some (("many" : Str), ("" : Str))), fltD none, fltD none]
theorem td_sh : SeqAt.shaped (.list tdD) = true := by decide +kernel
def spLaw (K : PySem.W.Frag) : Sp := fun vs H Q _ => ∃ (a : Addr) (ns : List Int), vs = [.ref a] ∧ SqL K H a (ns.map V.int) ∧ ns.length ≤ 63 ∧ ∀ H', Q (.bl true) H'
section
variable {P : Program} {w : World} {K : PySem.W.Frag} {mg : Str → Option Value} {base : Heap} {f : Addr} {fd : FuncData} {aK aC aH aR : Addr}
theorem ok_law (F : Fun K "law" "law" s_law f fd) (T : Txt K mg aK) (P_name : Prp P w K mg base aC "name" "_name") (P_kind : Prp P w K mg base aC "kind" "_kind") (P_above : Prp P w K mg base aC "above" "_above") (P_is_single : Prp P w K mg base aC "is_single" "_single")
    (D_type_fault : Dfn P w K mg base "type_fault" 5 ["types"] (spFault aC)) (D_law_right : Dfn P w K mg base "_law_right" 7 ["_law_dice_here"] spRight) (D_house_types : Dfn P w K mg base "house_types" 6 [] (spHouse aC))
    (D_law_made_types : Dfn P w K mg base "_law_made_types" 6 ["_law_rows"] (spMadeL aC)) (D_law_dice : Dfn P w K mg base "_law_dice" 1 ["_law_script", "_law_at"] (spDice K)) (D_law_house : Dfn P w K mg base "_law_house" 2 [] spHouseL) (D_law_kinds : Dfn P w K mg base "_law_kinds" 1 ["_law_way"] spKinds) :
    FnOk P w K mg base CX0 8 f fd ["_law_script"] (spLaw K) := by
  refine F.ok sc_law (fun vs H Q E h => ?_) (fun cdv A outer s H vs Q E hr h => ?_)
  · obtain ⟨a, ns, rfl, _⟩ := h
    rfl
  · obtain ⟨a, ns, rfl, hS, hlen, q⟩ := h
    refine ⟨_, (pss_cons (ps_for PassesOwn.never rfl (pi_range1 (by rfl) T.b_range (pa_cons (pe_callB (call_max2 rfl) (by rfl) T.b_max (by decide +kernel) (pa_cons pe_int (pa_cons (pe_callB (call_min2 rfl) (by rfl) T.b_min (by decide +kernel) (pa_cons pe_int (pa_cons (pe_callB (r := rLenQ K) call_lenQ (by rfl) T.b_len (by decide +kernel) (pa_cons (pv 0) pa_nil)) pa_nil))) pa_nil))) pa_nil)) (pg_name (i := 1) sc_law.nd rfl (Or.inl rfl)) (pss_one (ps_if (pt_not (pt_val (pe_d D_law_right hr (by decide) (pa_cons (pe_d D_law_dice hr (by decide) (pa_cons (pv 0) (pa_cons (pv 1) pa_nil))) pa_nil)))) (pss_one (ps_ret pe_bl)) pss_nil))) (pss_cons (ps_setLc (i := 2) (own := [("_law_one", 7)]) (g := gName 7) (by rfl) sc_law.nd rfl rfl (sw_true rfl rfl rfl (by decide +kernel)) (pi_tup (pe_d0 D_house_types hr (by decide))) (blkOk_by (own := [("_law_one", 7)]) (N := n_law) (sc := defScope s_law) (by decide +kernel)) (fun _ _ _ _ _ => pg_name (i := 7) sc_law.nd rfl (Or.inl rfl)) (fun _ _ _ _ _ => pts_nil) (fun _ _ _ _ _ => (pe_tup (pa_cons (pe_p P_name hr (by decide) (pv 7) rfl) (pa_cons (pe_p P_kind hr (by decide) (pv 7) rfl) (pa_cons (pe_p P_above hr (by decide) (pv 7) rfl) pa_nil)))))) (pss_cons (ps_if (pt_cmpR (r := rNeD K) (op_neD hr.units) (pv 2) (pe_lc (own := [("_law_name", 8)]) (g := gName 8) (by rfl) sc_law.nd (pi_list (pe_d0 D_law_house hr (by decide))) (blkOk_by (own := [("_law_name", 8)]) (N := n_law) (sc := defScope s_law) (by decide +kernel)) (fun _ _ _ _ _ => pg_name (i := 8) sc_law.nd rfl (Or.inl rfl)) (fun _ _ _ _ _ => pts_nil) (fun _ _ _ _ _ => (pe_tup (pa_cons (pv 8) (pa_cons (pe_dget (hu_of hr) (pe_d D_law_kinds hr (by decide) (pa_cons pe_int pa_nil)) (pv 8) (fun _ _ => rfl)) (pa_cons pe_non pa_nil)))))) (nomark _)) (pss_one (ps_ret pe_bl)) pss_nil) (pss_cons (ps_setLc (i := 3) (own := [("_law_one", 7)]) (g := gName 7) (by rfl) sc_law.nd rfl rfl (sw_true rfl rfl rfl (by decide +kernel)) (pi_tup (pe_d0 D_house_types hr (by decide))) (blkOk_by (own := [("_law_one", 7)]) (N := n_law) (sc := defScope s_law) (by decide +kernel)) (fun _ _ _ _ _ => pg_name (i := 7) sc_law.nd rfl (Or.inl rfl)) (fun _ _ _ _ _ => (pts_one (pt_val (pe_p P_is_single hr (by decide) (pv 7) rfl)))) (fun _ _ _ _ _ => (pe_p P_name hr (by decide) (pv 7) rfl))) (pss_cons (ps_if (pt_cmpR (r := rNeD K) (op_neD hr.units) (pv 3) (pe_lst (pa_cons pe_str (pa_cons pe_str (pa_cons pe_str (pa_cons pe_str (pa_cons pe_str (pa_cons pe_str (pa_cons pe_str (pa_cons pe_str pa_nil))))))))) (nomark _)) (pss_one (ps_ret pe_bl)) pss_nil) (pss_cons (ps_setLc (i := 4) (own := [("_law_at", 1)]) (g := gName 1) (by rfl) sc_law.nd rfl rfl (sw_true rfl rfl rfl (by decide +kernel)) (pi_range1 (by rfl) T.b_range (pa_cons pe_int pa_nil)) (blkOk_by (own := [("_law_at", 1)]) (N := n_law) (sc := defScope s_law) (by decide +kernel)) (fun _ _ _ _ _ => pg_name (i := 1) sc_law.nd rfl (Or.inl rfl)) (fun _ _ _ _ _ => pts_nil) (fun _ _ _ _ _ => (pe_tup (pa_cons (pe_op op_add_str pe_str (pe_callTy call_str_int (by rfl) T.b_str (by decide +kernel) (pa_cons (pv 1) pa_nil))) (pa_cons pe_str (pa_cons (pe_ifExp (pt_cmpR op_gt (pv 1) pe_int (nomark _)) (pe_op op_add_str pe_str (pe_callTy call_str_int (by rfl) T.b_str (by decide +kernel) (pa_cons (pe_op op_sub (pv 1) pe_int) pa_nil))) pe_non) (pa_cons pe_bl pa_nil))))))) (pss_cons (ps_setLc (i := 5) (own := [("_law_at", 1)]) (g := gName 1) (by rfl) sc_law.nd rfl rfl (sw_true rfl rfl rfl (by decide +kernel)) (pi_range1 (by rfl) T.b_range (pa_cons pe_int pa_nil)) (blkOk_by (own := [("_law_at", 1)]) (N := n_law) (sc := defScope s_law) (by decide +kernel)) (fun _ _ _ _ _ => pg_name (i := 1) sc_law.nd rfl (Or.inl rfl)) (fun _ _ _ _ _ => pts_nil) (fun _ _ _ _ _ => (pe_tup (pa_cons (pe_op op_add_str pe_str (pe_callTy call_str_int (by rfl) T.b_str (by decide +kernel) (pa_cons (pv 1) pa_nil))) (pa_cons pe_str (pa_cons pe_non (pa_cons pe_bl pa_nil))))))) (pss_cons (ps_set (i := 6) sc_law.nd rfl (Or.inl rfl) (pe_lst (pa_cons (pe_d D_type_fault hr (by decide) (pa_cons (pe_d D_law_made_types hr (by decide) (pa_cons (pv 4) pa_nil)) pa_nil)) (pa_cons (pe_d D_type_fault hr (by decide) (pa_cons (pe_d D_law_made_types hr (by decide) (pa_cons (pe_slice (r := rSlL K) sl_list (pv 4) po_none (po_some pe_int)) pa_nil)) pa_nil)) pa_nil)))) (pss_cons (ps_set (i := 6) sc_law.nd rfl (Or.inl rfl) (pe_op op_cat (pv 6) (pe_lst (pa_cons (pe_d D_type_fault hr (by decide) (pa_cons (pe_d D_law_made_types hr (by decide) (pa_cons (pv 5) pa_nil)) pa_nil)) (pa_cons (pe_d D_type_fault hr (by decide) (pa_cons (pe_d D_law_made_types hr (by decide) (pa_cons (pe_slice (r := rSlL K) sl_list (pv 5) (po_some pe_int) po_none) pa_nil)) pa_nil)) (pa_cons (pe_d D_type_fault hr (by decide) (pa_cons (pe_tup pa_nil) pa_nil)) pa_nil)))))) (pss_one (ps_ret (pe_cmpR (r := rEqD K) (op_eqD hr.units) (pv 6) (pe_lst (pa_cons (pe_tup (pa_cons pe_str (pa_cons pe_str pa_nil))) (pa_cons pe_non (pa_cons (pe_tup (pa_cons pe_str (pa_cons pe_str pa_nil))) (pa_cons pe_non (pa_cons pe_non pa_nil)))))) (nomark _))))))))))))), ?_⟩
    have hl2 : (ns.map V.int).length ≤ 63 := by
      rw [List.length_map]
      exact hlen
    refine ⟨_, rfl, a, _, rfl, .inl hS, _, _, rfl, _, _, rfl, _, rfl, (by split <;> (try split) <;> omega), (by split <;> (try split) <;> omega),
      for_it walk_range (fun i σ H' => Same H H' ∧ ∃ a1 a2 a3 a4 a5 a6 a7 a8 : Option V, σ = [some (.ref a), a1, a2, a3, a4, a5, a6, a7, a8]) ⟨Same.refl H, _, _, _, _, _, _, _, _, rfl⟩ (fun _ _ _ _ _ => trivial) ?_ ?_⟩
    · rintro i v σ H1 H2 hi ⟨sm, a1, a2, a3, a4, a5, a6, a7, a8, rfl⟩ ⟨rfl, rfl⟩
      refine ⟨_, rfl, _, rfl, a, ns, i, (by show [V.ref a, V.int (0 + (i : Int))] = _; rw [Int.zero_add]), sm.seq hS, fun p H2 hp sm2 hd => ?_⟩
      have hp0 : H p = none := sm.free hp
      refine ⟨p, rfl, hd, fun H3 mv => ⟨true, rfl, iteF ⟨same_moved (sm.trans sm2) hp0 mv, _, _, _, _, _, _, _, _, rfl⟩⟩⟩
    · rintro σ H1 ⟨sm, a1, a2, a3, a4, a5, a6, a7, a8, rfl⟩
      refine ⟨rfl, fun H2 p sm2 htp => ?_⟩
      obtain ⟨zs, hz, ez, hzs⟩ := types_zip htp
      have hzl : zs.length = 17 := by
        have := congrArg List.length ez
        rw [List.length_map] at this
        exact this
      refine ⟨p, rfl, ⟨_, SqT.of hz⟩, fun D hD => lc_gen (walk_tup (K := K) (a := p) (xs := zs.map fun z => V.ref z.1)) (fun _ => true) _ (keepR_tup fun z : Addr × Ro => [.str z.2.n, .str z.2.k, ov z.2.a]) hD (by omega) (fun H' sm => SqT.of (sm _ _ hz)) ?_ ?_⟩
      · intro z H3 N Y hzm sm3 _ _ hy
        obtain ⟨dx, hpt⟩ := hzs z hzm
        have hpt := sm3 _ _ hpt
        refine ⟨rfl, ?_⟩
        unfold tYes
        refine iteT ⟨_, rfl, z.1, dx, _, rfl, hpt, z.1, dx, _, _, rfl, hpt, fldsT_n z.2, ?_⟩
        refine ⟨_, rfl, z.1, dx, _, rfl, hpt, z.1, dx, _, _, rfl, hpt, fldsT_k z.2, ?_⟩
        refine ⟨_, rfl, z.1, dx, _, rfl, hpt, z.1, dx, _, _, rfl, hpt, fldsT_a z.2, by show 3 ≤ sizeLine; decide, fun t ht => ?_⟩
        exact hy rfl _ (.ref t) (same_new ht) ⟨t, rfl, upd_same⟩
      · intro H3 ys sm3 hys hpr
        rw [filter_true] at hpr
        have dp1 : Dp K H3 (.ref D) (.list (zs.map fun z => PyData.tuple [.str z.2.n, .str z.2.k, ovD z.2.a])) := .lst (SqL.of hys) (dpAll_of (fun z v ⟨t, e, ht⟩ => by rw [e]; exact .tup (SqT.of ht) (.cons (.str _) (.cons (.str _) (.cons (dp_ov _) .nil)))) hpr)
        have e1 : (zs.map fun z => PyData.tuple [.str z.2.n, .str z.2.k, ovD z.2.a]) = hsD := by
          rw [map_zs ez fun r => PyData.tuple [.str r.n, .str r.k, ovD r.a]]
          exact List.map_congr_left fun r hr => by rw [house_none r hr]; rfl
        rw [e1] at dp1
        have tail : ∀ {H9 : Hp}, Same H3 H9 → Dp K H9 (.ref D) (.list hsD) := fun s => dp_up s dp1
        refine ⟨_, rfl, rfl, fun H4 L sm4 hL0 hL => ⟨L, rfl, ⟨_, SqL.of hL⟩, fun D2 hD2 => ?_⟩⟩
        refine lc_gen (xs := houseR) (val := fun r => V.str r.n) (walk_list (K := K) (a := L) (xs := houseR.map fun r => V.str r.n)) (fun _ => true) _ (keepR_tup fun r : Ro => [.str r.n, .str r.k, .non]) hD2 (by decide) (fun H' sm => SqL.of (sm _ _ hL)) ?_ ?_
        · intro r H5 N Y hrm sm5 _ _ hy
          refine ⟨rfl, ?_⟩
          unfold tYes
          refine iteT ⟨_, rfl, rfl, fun H6 A sm6 hA0 hA => ⟨_, rfl, A, .str r.k, rfl, ?_, by show 3 ≤ sizeLine; decide, fun t ht => ?_⟩⟩
          · exact .inl ⟨kindsD, Sum.inr r.n, .inl hA, rfl, (house_kd r hrm).symm⟩
          · exact hy rfl _ (.ref t) (fun b o e => same_new ht b o (sm6 b o e)) ⟨t, rfl, upd_same⟩
        · intro H7 ys2 sm7 hys2 hpr2
          rw [filter_true] at hpr2
          have dp2 : Dp K H7 (.ref D2) (.list hsD) := .lst (SqL.of hys2) (dpAll_of (fun r v ⟨t, e, ht⟩ => by rw [e]; exact .tup (SqT.of ht) (.cons (.str _) (.cons (.str _) (.cons .non .nil)))) hpr2)
          refine ⟨_, _, tail (fun b o e => sm7 b o (sm4 b o e)), dp2, hs_sh, hs_sh, _, rfl, ?_⟩
          rw [SeqAt.eqv_refl _ (SeqAt.canLay_of_shaped hs_sh)]
          refine iteF ?_
          clear tail dp1 dp2 hpr hpr2 hz hzs
          -- the single ones
          refine ⟨rfl, fun H8 p8 sm8 htp8 => ?_⟩
          obtain ⟨zs, hz, ez, hzs⟩ := types_zip htp8
          have hzl : zs.length = 17 := by
            have := congrArg List.length ez
            rw [List.length_map] at this
            exact this
          refine ⟨p8, rfl, ⟨_, SqT.of hz⟩, fun D3 hD3 => lc_gen (walk_tup (K := K) (a := p8) (xs := zs.map fun z => V.ref z.1)) (fun z => z.2.s) _ (keepR_val fun z : Addr × Ro => V.str z.2.n) hD3 (by omega) (fun H' sm => SqT.of (sm _ _ hz)) ?_ ?_⟩
          · intro z G N Y hzm smG _ hno hy
            obtain ⟨dx, hpt⟩ := hzs z hzm
            have hpt := smG _ _ hpt
            refine ⟨rfl, _, rfl, z.1, dx, _, rfl, hpt, z.1, dx, _, _, rfl, hpt, fldsT_s z.2, _, rfl, ?_⟩
            refine ite2 (fun hc => ?_) (fun hc => ?_)
            · exact ⟨_, rfl, z.1, dx, _, rfl, hpt, z.1, dx, _, _, rfl, hpt, fldsT_n z.2, hy hc _ _ (Same.refl _) rfl⟩
            · exact hno (by simpa using hc) _ (Same.refl _)
          · intro H9 ys3 sm9 hys3 hpr3
            have e3 := paired_vals hpr3
            have e4 : (zs.filter fun z => z.2.s).map (fun z => V.str z.2.n) = sgL.map V.str := by
              rw [← sg_house, ← filt_zs ez, List.map_map, List.map_map]
              rfl
            rw [e4] at e3
            subst e3
            refine ⟨_, rfl, by show 8 ≤ sizeLine; decide, fun N hN => ⟨_, _, .lst (SqL.of (same_new hN _ _ hys3)) (dpStrs _), .lst (SqL.of upd_same) (dpStrs sgL), sg_sh, sg_sh, _, rfl, ?_⟩⟩
            rw [SeqAt.eqv_refl _ (SeqAt.canLay_of_shaped sg_sh)]
            refine iteF ?_
            generalize upd H9 N _ = H10
            -- the chain
            refine ⟨_, rfl, by decide, by decide, fun D4 hD4 => lc_gen (xs := List.range 5) (val := fun i : Nat => V.int (i : Int)) (walk_rangeL (n := 5)) (fun _ => true) _ (keepR_tup fun i : Nat => [.str (chR i).n, .str (chR i).k, ov (chR i).a, .bl false]) hD4 (by decide) (fun _ _ => trivial) ?_ ?_⟩
            · intro i G N Y him smG _ _ hy
              obtain ⟨z1, z2, z3, z4⟩ := num_ok i (by have := List.mem_range.mp him; omega)
              refine ⟨rfl, ?_⟩
              unfold tYes
              refine iteT ⟨_, rfl, (i : Int), rfl, z1, _, _, rfl, rfl, z3, ?_⟩
              refine ⟨_, rfl, _, _, rfl, rfl, _, rfl, ?_⟩
              refine ite2 (fun hc => ?_) (fun hc => ?_)
              · have h0 : 0 < i := by have := of_decide_eq_true hc; omega
                have ea : (chR i).a = some (tS ((i : Int) - 1)) := if_pos h0
                refine ⟨_, rfl, _, _, rfl, rfl, _, rfl, z2, _, _, rfl, rfl, z4, by show 4 ≤ sizeLine; decide, fun t ht => hy rfl _ _ (same_new ht) ⟨t, rfl, ?_⟩⟩
                rw [ea]
                exact upd_same
              · have h0 : ¬ 0 < i := fun z => hc (decide_eq_true (by omega))
                have ea : (chR i).a = none := if_neg h0
                refine ⟨by show 4 ≤ sizeLine; decide, fun t ht => hy rfl _ _ (same_new ht) ⟨t, rfl, ?_⟩⟩
                rw [ea]
                exact upd_same
            · intro H11 ys4 sm11 hys4 hpr4
              rw [filter_true] at hpr4
              obtain ⟨ts4, rfl, hp4⟩ := rows_made (D := D4) (g := chR) (fun _ => rfl) hpr4
              refine ⟨_, rfl, by decide, by decide, fun D5 hD5 => lc_gen (xs := List.range 21) (val := fun i : Nat => V.int (i : Int)) (walk_rangeL (n := 21)) (fun _ => true) _ (keepR_tup fun i : Nat => [.str (mnR i).n, .str (mnR i).k, ov (mnR i).a, .bl false]) hD5 (by decide) (fun _ _ => trivial) ?_ ?_⟩
              · intro i G N Y him smG _ _ hy
                obtain ⟨z1, z2, z3, z4⟩ := num_ok i (by have := List.mem_range.mp him; omega)
                refine ⟨rfl, ?_⟩
                unfold tYes
                exact iteT ⟨_, rfl, (i : Int), rfl, z1, _, _, rfl, rfl, z3, by show 4 ≤ sizeLine; decide, fun t ht => hy rfl _ _ (same_new ht) ⟨t, rfl, upd_same⟩⟩
              · intro H12 ys5 sm12 hys5 hpr5
                rw [filter_true] at hpr5
                obtain ⟨ts5, rfl, hp5⟩ := rows_made (D := D5) (g := mnR) (fun _ => rfl) hpr5
                have hys4 := sm12 _ _ hys4
                have hp4 : Paired (RowAt H12) ts4 chL := Paired.mapP hp4 fun _ _ z => sm12 _ _ z
                refine ⟨_, rfl, D4, chL, rfl, ⟨ts4, hys4, hp4⟩, ch_ok, by decide, fun H13 p13 sm13 ht13 => ⟨p13, chL, rfl, ht13, by decide, fun H14 v1 sm14 hv1 => ?_⟩⟩
                have smA : Same H12 H14 := fun b o e => sm14 b o (sm13 b o e)
                refine ⟨_, rfl, _, rfl, D4, _, rfl, SqL.of (smA _ _ hys4), fun L1 hL1 => ?_⟩
                obtain ⟨tc, ec, hpc⟩ := rows_cut (Paired.mapP hp4 fun _ _ z => smA _ _ z) none (some 4)
                rw [ec]
                rw [ch_cut] at hpc
                refine ⟨L1, chL.take 4, rfl, ⟨tc, upd_same, Paired.mapP hpc fun _ _ z => same_new hL1 _ _ z⟩, fun r hr => ch_ok r (List.mem_of_mem_take hr), by decide, fun H15 p15 sm15 ht15 => ⟨p15, chL.take 4, rfl, ht15, by decide, fun H16 v2 sm16 hv2 => ?_⟩⟩
                rw [f_ch] at hv1
                rw [f_ch4] at hv2
                refine ⟨by show 2 ≤ sizeLine; decide, fun T1 hT1 => ?_⟩
                have smB : Same H12 (upd H16 T1 (.lst [v1, v2])) := fun b o e => same_new hT1 b o (sm16 b o (sm15 b o (same_new hL1 b o (smA b o e))))
                have hv1 : FaultV (upd H16 T1 (.lst [v1, v2])) v1 (some (("high" : Str), ("t4" : Str))) := hv1.up fun b o e => same_new hT1 b o (sm16 b o (sm15 b o (same_new hL1 b o e)))
                have hv2 : FaultV (upd H16 T1 (.lst [v1, v2])) v2 none := hv2.up (same_new hT1)
                have hT : (upd H16 T1 (.lst [v1, v2])) T1 = some (.lst [v1, v2]) := upd_same
                show tSeq _ _ _ _ (upd H16 T1 (.lst [v1, v2]))
                generalize upd H16 T1 (.lst [v1, v2]) = H17 at smB hv1 hv2 hT ⊢
                have hys5 := smB _ _ hys5
                have hp5 : Paired (RowAt H17) ts5 mnL := Paired.mapP hp5 fun _ _ z => smB _ _ z
                refine ⟨_, rfl, _, rfl, D5, mnL, rfl, ⟨ts5, hys5, hp5⟩, mn_ok, by decide, fun H18 p18 sm18 ht18 => ⟨p18, mnL, rfl, ht18, by decide, fun H19 v3 sm19 hv3 => ?_⟩⟩
                have smC : Same H17 H19 := fun b o e => sm19 b o (sm18 b o e)
                refine ⟨_, rfl, _, rfl, D5, _, rfl, SqL.of (smC _ _ hys5), fun L2 hL2 => ?_⟩
                obtain ⟨td, ed, hpd⟩ := rows_cut (Paired.mapP hp5 fun _ _ z => smC _ _ z) (some 1) none
                rw [ed]
                rw [mn_cut] at hpd
                refine ⟨L2, mnL.drop 1, rfl, ⟨td, upd_same, Paired.mapP hpd fun _ _ z => same_new hL2 _ _ z⟩, fun r hr => mn_ok r (List.mem_of_mem_drop hr), by decide, fun H20 p20 sm20 ht20 => ⟨p20, mnL.drop 1, rfl, ht20, by decide, fun H21 v4 sm21 hv4 => ?_⟩⟩
                refine ⟨Nat.zero_le _, fun p22 h22 => ⟨p22, [], rfl, ⟨[], upd_same, .nil⟩, by decide, fun H22 v5 sm22 hv5 => ⟨by show 3 ≤ sizeLine; decide, fun T2 hT2 => ?_⟩⟩⟩
                rw [f_mn] at hv3
                rw [f_mn1] at hv4
                rw [f_nil] at hv5
                have s22 : Same H21 H22 := fun b o e => sm22 b o (same_new h22 b o e)
                have s20 : Same H19 H22 := fun b o e => s22 b o (sm21 b o (sm20 b o (same_new hL2 b o e)))
                have s17 : Same H17 H22 := fun b o e => s20 b o (smC b o e)
                have hv1 := hv1.up s17
                have hv2 := hv2.up s17
                have hv3 := hv3.up s20
                have hv4 := hv4.up s22
                refine ⟨T1, T2, _, _, rfl, rfl, same_new hT2 _ _ (s17 _ _ hT), upd_same, by show 5 ≤ sizeLine; decide, fun T3 hT3 => ?_⟩
                refine ⟨_, rfl, by show 2 ≤ sizeLine; decide, fun t1 h1 => ⟨by show 2 ≤ sizeLine; decide, fun t2 h2 => ⟨by show 5 ≤ sizeLine; decide, fun T4 hT4 => ?_⟩⟩⟩
                have dL : Dp K (upd (upd H22 T2 (.lst [v3, v4, v5])) T3 (.lst [v1, v2, v3, v4, v5])) (.ref T3) (.list tdD) := by
                  have sT : Same H22 (upd (upd H22 T2 (.lst [v3, v4, v5])) T3 (.lst [v1, v2, v3, v4, v5])) := fun b o e => same_new hT3 b o (same_new hT2 b o e)
                  exact .lst (SqL.of upd_same) (.cons (dp_flt (hv1.up sT)) (.cons (dp_flt (hv2.up sT)) (.cons (dp_flt (hv3.up sT)) (.cons (dp_flt (hv4.up sT)) (.cons (dp_flt (hv5.up sT)) .nil)))))
                refine ⟨_, _, dp_up (same_new hT4) (dp_up (same_new h2) (dp_up (same_new h1) dL)), .lst (ds := tdD) (SqL.of upd_same) (.cons (.tup (SqT.of (same_new hT4 _ _ (same_new h2 _ _ upd_same))) (.cons (.str _) (.cons (.str _) .nil))) (.cons .non (.cons (.tup (SqT.of (same_new hT4 _ _ upd_same)) (.cons (.str _) (.cons (.str _) .nil))) (.cons .non (.cons .non .nil))))), td_sh, td_sh, ?_⟩
                rw [SeqAt.eqv_refl _ (SeqAt.canLay_of_shaped td_sh)]
                exact q _
end
end Bw

namespace Bw
open PySem PySem.Spec L2 TL PyProof.Rows
/-! ### what the top has left -/
theorem vals_tup {K : PySem.W.Frag} {a : Addr} {d : Option Addr} {its : Array Value} {n : Nat} {sl : Array (Option Value)} {xs : List V} (hk : K.lookup a = some ⟨.type "tuple", d, .seq its n, sl⟩) (hz : its.size ≤ sizeLine) (r : Vals xs its.toList) (H : Hp) : SqT K H a xs :=
  .inr ⟨_, its, n, hk, rfl, rfl, hz, r⟩
theorem rel_str (x : Str) (t : Tok) : RelV (.str x) (.str x t) := ⟨t, rfl⟩
structure DefAt (K : PySem.W.Frag) (mg : Str → Option Value) (x : Str) (st : Stmt) : Prop where
  ex : ∃ (f : Addr) (fd : FuncData), Fun K x x st f fd ∧ mg x = some (.ref f)
theorem defAt {K : PySem.W.Frag} {h : Heap} {mg : Str → Option Value} {x : Str} {st : Stmt} {f : Addr} {od an : Option Addr} {sl : Array (Option Value)} {oc kV dc pm cd ct : Value} (KI : K.In h) (NS : h.Ns mainGlobals mg)
    (at_ : PySem.W.nsIn K mainGlobals x = some (some (.ref f))) (lk : K.lookup f = some ⟨oc, od, .func (PySem.W.fnOf x x (defArgs st) (defBody st) (defScope st) .none kV dc pm an cd ct), sl⟩)
    (cc : PySem.W.codeIn K cd x = true) (kk : PySem.W.keepIn K (.ref f) = true) : DefAt K mg x st := ⟨f, _, fun_mk (st := st) lk cc kk, PySem.W.mg_of KI NS at_⟩
/-- a property of the class aC: x reads the slot fld -/
structure PropAt (K : PySem.W.Frag) (aC : Addr) (x qual fld : Str) (st : Stmt) : Prop where
  ex : ∃ (p f : Addr) (fd : FuncData), PropOf K aC x p f ∧ Fun K x qual st f fd
theorem propAt {K : PySem.W.Frag} {aC p f : Addr} {x qual fld : Str} {st : Stmt} {rest : List Value} {od an : Option Addr} {sl : Array (Option Value)} {oc kV dc pm cd ct : Value}
    (a1 : PySem.W.findIn K (.ref aC) x = some (some (.ref p))) (a2 : PySem.W.specialIn K (.ref p) "__get__" = some (some (.builtin "property.__get__"))) (a3 : PySem.W.takesIn K (.ref p) = some true) (a4 : PySem.W.recIn K p "property" = some (.ref f :: rest))
    (lk : K.lookup f = some ⟨oc, od, .func (PySem.W.fnOf x qual (defArgs st) (defBody st) (defScope st) .none kV dc pm an cd ct), sl⟩) (cc : PySem.W.codeIn K cd qual = true) (kk : PySem.W.keepIn K (.ref f) = true) : PropAt K aC x qual fld st :=
  ⟨p, f, _, ⟨a1, a2, a3, rest, a4⟩, fun_mk (st := st) lk cc kk⟩
theorem prp_of {P : Program} {w : World} {K : PySem.W.Frag} {mg : Str → Option Value} {base : Heap} {aC : Addr} {x qual fld : Str} {st : Stmt} (D : PropAt K aC x qual fld st) (c : Cls K aC) (n : NoAttr K aC fld) {N : List Str} (S : FnScope N ["self"] (defScope st)) (hN : N[0]? = some ("self" : Str)) {p1 p2 p3 : Pos}
    (hb : defBody st = [.Return (some (.Attribute (.Name "self" p1) fld p2)) p3])
    (hbind : ∀ (kV doc pm : Value) (an : Option Addr) (cdv ct : Value) (us : List Value), us.length = 1 → bindArgs (PySem.W.fnOf x qual (defArgs st) (defBody st) (defScope st) .none kV doc pm an cdv ct) ⟨us, []⟩ = pure ((["self"] : List Str).zip us)) : Prp P w K mg base aC x fld := by
  obtain ⟨p, f, fd, hp, F⟩ := D.ex
  have b := F.binds (ps := ["self"]) fun kV doc pm an cdv ct us hl => hbind kV doc pm an cdv ct us hl
  obtain ⟨oc, od, kV, doc, pm, an, cdv, ct, osl, rfl, lk, hcd⟩ := F.ex
  exact ⟨p, f, _, c, hp, fn_getter lk hcd S hN hb c n, b⟩
theorem kit_refl {K : PySem.W.Frag} {C : Addr} : PySem.W.kitOne K (.ref C) (.ref C) = some true := by
  unfold PySem.W.kitOne
  rw [if_pos (beq_self_eq_true _)]
theorem kit_no {K : PySem.W.Frag} {C : Addr} {T : String} {c : ClassData} (h1 : PySem.W.clsIn K C = some c) (h2 : PySem.W.typeIn K (.ref C) = some (.type "type")) (h3 : PySem.W.subIn K (.type T) (.ref C) = some false) : PySem.W.kitOne K (.type T) (.ref C) = some false := by
  unfold PySem.W.kitOne
  rw [if_neg (by intro z; cases (eq_of_beq z))]
  unfold PySem.W.kitCls
  simp only [h1, h2, h3]
  rfl

theorem houseMk {K : PySem.W.Frag} {h : Heap} {mg : Str → Option Value} {aH : Addr} {dH : Option Addr} {nH : Nat} {sH : Array (Option Value)} {t0 t1 t2 t3 t4 t5 t6 t7 t8 t9 t10 t11 t12 t13 t14 t15 t16 : Addr} {d0 d1 d2 d3 d4 d5 d6 d7 d8 d9 d10 d11 d12 d13 d14 d15 d16 : Option Addr} {n0 n1 n2 n3 n4 n5 n6 n7 n8 n9 n10 n11 n12 n13 n14 n15 n16 : Nat} {s0 s1 s2 s3 s4 s5 s6 s7 s8 s9 s10 s11 s12 s13 s14 s15 s16 : Array (Option Value)} {a0 a1 a2 a3 a4 a5 a6 a7 a8 a9 a10 a11 a12 a13 a14 a15 a16 b0 b1 b2 b3 b4 b5 b6 b7 b8 b9 b10 b11 b12 b13 b14 b15 b16 : Tok} (KI : K.In h) (NS : h.Ns mainGlobals mg)
    (h1 : PySem.W.nsIn K mainGlobals "HOUSE" = some (some (.ref aH))) (h2 : K.lookup aH = some ⟨.type "tuple", dH, .seq #[.ref t0, .ref t1, .ref t2, .ref t3, .ref t4, .ref t5, .ref t6, .ref t7, .ref t8, .ref t9, .ref t10, .ref t11, .ref t12, .ref t13, .ref t14, .ref t15, .ref t16] nH, sH⟩)
    (l0 : K.lookup t0 = some ⟨.type "tuple", d0, .seq #[.str "below" a0, .str "flag" b0, .bool true] n0, s0⟩)
    (l1 : K.lookup t1 = some ⟨.type "tuple", d1, .seq #[.str "chosen" a1, .str "exact" b1, .bool false] n1, s1⟩)
    (l2 : K.lookup t2 = some ⟨.type "tuple", d2, .seq #[.str "grants" a2, .str "flag" b2, .bool true] n2, s2⟩)
    (l3 : K.lookup t3 = some ⟨.type "tuple", d3, .seq #[.str "ground" a3, .str "link" b3, .bool true] n3, s3⟩)
    (l4 : K.lookup t4 = some ⟨.type "tuple", d4, .seq #[.str "label" a4, .str "text" b4, .bool true] n4, s4⟩)
    (l5 : K.lookup t5 = some ⟨.type "tuple", d5, .seq #[.str "least" a5, .str "number" b5, .bool true] n5, s5⟩)
    (l6 : K.lookup t6 = some ⟨.type "tuple", d6, .seq #[.str "may" a6, .str "exact" b6, .bool false] n6, s6⟩)
    (l7 : K.lookup t7 = some ⟨.type "tuple", d7, .seq #[.str "member" a7, .str "link" b7, .bool false] n7, s7⟩)
    (l8 : K.lookup t8 = some ⟨.type "tuple", d8, .seq #[.str "most" a8, .str "number" b8, .bool true] n8, s8⟩)
    (l9 : K.lookup t9 = some ⟨.type "tuple", d9, .seq #[.str "of" a9, .str "exact" b9, .bool false] n9, s9⟩)
    (l10 : K.lookup t10 = some ⟨.type "tuple", d10, .seq #[.str "rank" a10, .str "number" b10, .bool true] n10, s10⟩)
    (l11 : K.lookup t11 = some ⟨.type "tuple", d11, .seq #[.str "to" a11, .str "link" b11, .bool true] n11, s11⟩)
    (l12 : K.lookup t12 = some ⟨.type "tuple", d12, .seq #[.str "unshared" a12, .str "exact" b12, .bool false] n12, s12⟩)
    (l13 : K.lookup t13 = some ⟨.type "tuple", d13, .seq #[.str "what" a13, .str "exact" b13, .bool false] n13, s13⟩)
    (l14 : K.lookup t14 = some ⟨.type "tuple", d14, .seq #[.str "who" a14, .str "exact" b14, .bool false] n14, s14⟩)
    (l15 : K.lookup t15 = some ⟨.type "tuple", d15, .seq #[.str "whom" a15, .str "link" b15, .bool false] n15, s15⟩)
    (l16 : K.lookup t16 = some ⟨.type "tuple", d16, .seq #[.str "without" a16, .str "link" b16, .bool false] n16, s16⟩)
    : HouseT K mg aH := ⟨PySem.W.mg_of KI NS h1, [t0, t1, t2, t3, t4, t5, t6, t7, t8, t9, t10, t11, t12, t13, t14, t15, t16], vals_tup h2 (by show 17 ≤ sizeLine; decide) (.cons rfl (.cons rfl (.cons rfl (.cons rfl (.cons rfl (.cons rfl (.cons rfl (.cons rfl (.cons rfl (.cons rfl (.cons rfl (.cons rfl (.cons rfl (.cons rfl (.cons rfl (.cons rfl (.cons rfl (.nil)))))))))))))))))),
    .cons (vals_tup l0 (by show 3 ≤ sizeLine; decide) (.cons (rel_str _ _) (.cons (rel_str _ _) (.cons rfl .nil)))) (.cons (vals_tup l1 (by show 3 ≤ sizeLine; decide) (.cons (rel_str _ _) (.cons (rel_str _ _) (.cons rfl .nil)))) (.cons (vals_tup l2 (by show 3 ≤ sizeLine; decide) (.cons (rel_str _ _) (.cons (rel_str _ _) (.cons rfl .nil)))) (.cons (vals_tup l3 (by show 3 ≤ sizeLine; decide) (.cons (rel_str _ _) (.cons (rel_str _ _) (.cons rfl .nil)))) (.cons (vals_tup l4 (by show 3 ≤ sizeLine; decide) (.cons (rel_str _ _) (.cons (rel_str _ _) (.cons rfl .nil)))) (.cons (vals_tup l5 (by show 3 ≤ sizeLine; decide) (.cons (rel_str _ _) (.cons (rel_str _ _) (.cons rfl .nil)))) (.cons (vals_tup l6 (by show 3 ≤ sizeLine; decide) (.cons (rel_str _ _) (.cons (rel_str _ _) (.cons rfl .nil)))) (.cons (vals_tup l7 (by show 3 ≤ sizeLine; decide) (.cons (rel_str _ _) (.cons (rel_str _ _) (.cons rfl .nil)))) (.cons (vals_tup l8 (by show 3 ≤ sizeLine; decide) (.cons (rel_str _ _) (.cons (rel_str _ _) (.cons rfl .nil)))) (.cons (vals_tup l9 (by show 3 ≤ sizeLine; decide) (.cons (rel_str _ _) (.cons (rel_str _ _) (.cons rfl .nil)))) (.cons (vals_tup l10 (by show 3 ≤ sizeLine; decide) (.cons (rel_str _ _) (.cons (rel_str _ _) (.cons rfl .nil)))) (.cons (vals_tup l11 (by show 3 ≤ sizeLine; decide) (.cons (rel_str _ _) (.cons (rel_str _ _) (.cons rfl .nil)))) (.cons (vals_tup l12 (by show 3 ≤ sizeLine; decide) (.cons (rel_str _ _) (.cons (rel_str _ _) (.cons rfl .nil)))) (.cons (vals_tup l13 (by show 3 ≤ sizeLine; decide) (.cons (rel_str _ _) (.cons (rel_str _ _) (.cons rfl .nil)))) (.cons (vals_tup l14 (by show 3 ≤ sizeLine; decide) (.cons (rel_str _ _) (.cons (rel_str _ _) (.cons rfl .nil)))) (.cons (vals_tup l15 (by show 3 ≤ sizeLine; decide) (.cons (rel_str _ _) (.cons (rel_str _ _) (.cons rfl .nil)))) (.cons (vals_tup l16 (by show 3 ≤ sizeLine; decide) (.cons (rel_str _ _) (.cons (rel_str _ _) (.cons rfl .nil)))) (.nil)))))))))))))))))⟩
def ruleL : List Str := ["_twice", "_wrong_above", "_in_ring", "_too_high", "_too_many"]
structure RulesA (w : World) (K : PySem.W.Frag) (mg : Str → Option Value) (aR : Addr) : Prop where
  g : mg "RULES" = some (.ref aR)
  keys : KKeys K aR codesL
  at_ : ∀ (i : Nat) (c : Str), codesL[i]? = some c → ∃ (f : Addr) (x : Str), KDct K w aR c (.ref f) ∧ ruleL[i]? = some x ∧ mg x = some (.ref f)
theorem rulesMk {w : World} {K : PySem.W.Frag} {h : Heap} {mg : Str → Option Value} {aR : Addr} {nR : Nat} {h0 h1 h2 h3 h4 : Int} {k0 k1 k2 k3 k4 : Tok} {r0 r1 r2 r3 r4 : Addr} (KI : K.In h) (NS : h.Ns mainGlobals mg)
    (g1 : PySem.W.nsIn K mainGlobals "RULES" = some (some (.ref aR))) (g2 : K.lookup aR = some ⟨.type "dict", none, .dict #[⟨h0, .str "twice" k0, .ref r0⟩, ⟨h1, .str "above" k1, .ref r1⟩, ⟨h2, .str "ring" k2, .ref r2⟩, ⟨h3, .str "high" k3, .ref r3⟩, ⟨h4, .str "many" k4, .ref r4⟩] nR, #[]⟩) (g3 : (aR == sysModules) = false) (g4 : PySem.W.KeysLit w.params [⟨h0, .str "twice" k0, .ref r0⟩, ⟨h1, .str "above" k1, .ref r1⟩, ⟨h2, .str "ring" k2, .ref r2⟩, ⟨h3, .str "high" k3, .ref r3⟩, ⟨h4, .str "many" k4, .ref r4⟩])
    (q0 : PySem.W.nsIn K aR "twice" = some (some (.ref r0))) (m0 : PySem.W.nsIn K mainGlobals "_twice" = some (some (.ref r0)))
    (q1 : PySem.W.nsIn K aR "above" = some (some (.ref r1))) (m1 : PySem.W.nsIn K mainGlobals "_wrong_above" = some (some (.ref r1)))
    (q2 : PySem.W.nsIn K aR "ring" = some (some (.ref r2))) (m2 : PySem.W.nsIn K mainGlobals "_in_ring" = some (some (.ref r2)))
    (q3 : PySem.W.nsIn K aR "high" = some (some (.ref r3))) (m3 : PySem.W.nsIn K mainGlobals "_too_high" = some (some (.ref r3)))
    (q4 : PySem.W.nsIn K aR "many" = some (some (.ref r4))) (m4 : PySem.W.nsIn K mainGlobals "_too_many" = some (some (.ref r4)))
    : RulesA w K mg aR where
  g := PySem.W.mg_of KI NS g1
  keys := ⟨⟨_, _, g2, rfl, fun i k h => by
    match i, h with
    | 0, h => cases h; exact ⟨_, _, rfl, rfl⟩
    | 1, h => cases h; exact ⟨_, _, rfl, rfl⟩
    | 2, h => cases h; exact ⟨_, _, rfl, rfl⟩
    | 3, h => cases h; exact ⟨_, _, rfl, rfl⟩
    | 4, h => cases h; exact ⟨_, _, rfl, rfl⟩
    | i + 5, h => cases h⟩, g3⟩
  at_ := fun i c h => by
    match i, h with
    | 0, h => cases h; exact ⟨r0, "_twice", ⟨_, _, _, g2, g4, q0, rfl⟩, rfl, PySem.W.mg_of KI NS m0⟩
    | 1, h => cases h; exact ⟨r1, "_wrong_above", ⟨_, _, _, g2, g4, q1, rfl⟩, rfl, PySem.W.mg_of KI NS m1⟩
    | 2, h => cases h; exact ⟨r2, "_in_ring", ⟨_, _, _, g2, g4, q2, rfl⟩, rfl, PySem.W.mg_of KI NS m2⟩
    | 3, h => cases h; exact ⟨r3, "_too_high", ⟨_, _, _, g2, g4, q3, rfl⟩, rfl, PySem.W.mg_of KI NS m3⟩
    | 4, h => cases h; exact ⟨r4, "_too_many", ⟨_, _, _, g2, g4, q4, rfl⟩, rfl, PySem.W.mg_of KI NS m4⟩
    | i + 5, h => cases h
structure InitAt (K : PySem.W.Frag) (aC : Addr) : Prop where
  ex : ∃ (f : Addr) (fd : FuncData), Mk K aC f ∧ FunD K "__init__" "Type.__init__" (defArgs s_Type___init__) (defBody s_Type___init__) (defScope s_Type___init__) [.non] [] f fd
theorem initMk {K : PySem.W.Frag} {aC f t : Addr} {od oe an : Option Addr} {sl se : Array (Option Value)} {oc kV dc pm cd ct ce : Value} {n : Nat} (a1 : PySem.W.makesIn K aC = true) (a2 : PySem.W.findIn K (.ref aC) "__init__" = some (some (.ref f))) (a3 : PySem.W.isFn K (.ref f) = true)
    (a4 : PySem.W.keepIn K (.ref aC) = true) (a5 : K.lookup f = some ⟨oc, od, .func (PySem.W.fnOf "__init__" "Type.__init__" (defArgs s_Type___init__) (defBody s_Type___init__) (defScope s_Type___init__) (.ref t) kV dc pm an cd ct), sl⟩)
    (a6 : PySem.W.codeIn K cd "Type.__init__" = true) (a7 : PySem.W.keepIn K (.ref f) = true) (a8 : K.lookup t = some ⟨ce, oe, .seq #[.none] n, se⟩) : InitAt K aC :=
  ⟨f, _, ⟨a1, a2, a3, a4⟩, ⟨⟨_, _, _, _, _, _, _, _, _, _, rfl, a5, a6, .inr ⟨by simp, t, _, [.none], n, rfl, a8, rfl, .cons rfl .nil⟩, .inl rfl⟩, a7⟩⟩
structure EqAt6 (K : PySem.W.Frag) (aC : Addr) : Prop where
  ex : ∃ (f : Addr) (fd : FuncData), OwnEq K aC f ∧ Fun K "__eq__" "Type.__eq__" s_Type___eq__ f fd
theorem eqMk {K : PySem.W.Frag} {aC f : Addr} {od an : Option Addr} {sl : Array (Option Value)} {oc kV dc pm cd ct : Value} (a1 : PySem.W.findIn K (.ref aC) "__eq__" = some (some (.ref f))) (a2 : PySem.W.findIn K (.ref aC) "__ne__" = some (some (.builtin "object.__ne__")))
    (a3 : PySem.W.mroIn K aC (.type "object") = some true) (a4 : PySem.W.isFn K (.ref f) = true) (a5 : PySem.W.subIn K (.type "str") (.ref aC) = some false) (a6 : PySem.W.subIn K (.type "tuple") (.ref aC) = some false)
    (a7 : K.lookup f = some ⟨oc, od, .func (PySem.W.fnOf "__eq__" "Type.__eq__" (defArgs s_Type___eq__) (defBody s_Type___eq__) (defScope s_Type___eq__) .none kV dc pm an cd ct), sl⟩) (a8 : PySem.W.codeIn K cd "Type.__eq__" = true) (a9 : PySem.W.keepIn K (.ref f) = true) : EqAt6 K aC :=
  ⟨f, _, ⟨a1, a2, a3, a4, a5, a6⟩, fun_mk (st := s_Type___eq__) a7 a8 a9⟩
theorem tyMk {K : PySem.W.Frag} {h : Heap} {mg : Str → Option Value} {aC : Addr} {c : ClassData} (KI : K.In h) (NS : h.Ns mainGlobals mg) (c1 : PySem.W.nsIn K mainGlobals "Type" = some (some (.ref aC))) (c2 : PySem.W.plainGet K aC Str.empty = true) (c3 : PySem.W.hasDictIn K aC = true) (c4 : PySem.W.plainOver K aC = true)
    (c5 : PySem.W.findIn K (.ref aC) "__setattr__" = some (some (.builtin "object.__setattr__"))) (c6 : PySem.W.findIn K (.ref aC) "_name" = some none) (c7 : PySem.W.findIn K (.ref aC) "_kind" = some none) (c8 : PySem.W.findIn K (.ref aC) "_above" = some none) (c9 : PySem.W.findIn K (.ref aC) "_single" = some none)
    (e1 : PySem.W.findIn K (.ref aC) "__class__" = some (some (.builtin "object.__class__"))) (e2 : PySem.W.specialIn K (.builtin "object.__class__") "__get__" = some (some (.builtin "getset_descriptor.__get__"))) (e3 : PySem.W.takesIn K (.builtin "object.__class__") = some true) (e4 : PySem.W.mroIn K aC (.type "object") = some true)
    (e5 : PySem.W.clsIn K aC = some c) (e6 : PySem.W.typeIn K (.ref aC) = some (.type "type")) (e7 : PySem.W.subIn K (.type "str") (.ref aC) = some false) (e8 : PySem.W.subIn K (.type "tuple") (.ref aC) = some false) : TyC K mg aC :=
  ⟨⟨c2, c3, c4, c5⟩, c6, c7, c8, c9, PySem.W.mg_of KI NS c1, e1, e2, e3, e4, kit_refl, kit_no e5 e6 e7, kit_no e5 e6 e8⟩
theorem txtMk {K : PySem.W.Frag} {h : Heap} {mg : Str → Option Value} {aK : Addr} {dK : Option Addr} {nK : Nat} {sK : Array (Option Value)} {k1 k2 k3 k4 k5 t1 t2 t3 : Tok} (KI : K.In h) (NS : h.Ns mainGlobals mg)
    (zlen : PySem.W.nsIn K mainGlobals "len" = some none)
    (zint : PySem.W.nsIn K mainGlobals "int" = some none)
    (zabs : PySem.W.nsIn K mainGlobals "abs" = some none)
    (zmax : PySem.W.nsIn K mainGlobals "max" = some none)
    (zmin : PySem.W.nsIn K mainGlobals "min" = some none)
    (zrange : PySem.W.nsIn K mainGlobals "range" = some none)
    (zisinstance : PySem.W.nsIn K mainGlobals "isinstance" = some none)
    (ztuple : PySem.W.nsIn K mainGlobals "tuple" = some none)
    (zall : PySem.W.nsIn K mainGlobals "all" = some none)
    (zstr : PySem.W.nsIn K mainGlobals "str" = some none)
    (zrepr : PySem.W.nsIn K mainGlobals "repr" = some none)
    (zlist : PySem.W.nsIn K mainGlobals "list" = some none)
    (zsorted : PySem.W.nsIn K mainGlobals "sorted" = some none)
    (zdict : PySem.W.nsIn K mainGlobals "dict" = some none)
    (zzip : PySem.W.nsIn K mainGlobals "zip" = some none)
    (zenumerate : PySem.W.nsIn K mainGlobals "enumerate" = some none)
    (zbool : PySem.W.nsIn K mainGlobals "bool" = some none)
    (aaK : PySem.W.nsIn K mainGlobals "KINDS" = some (some (.ref aK))) (lK : K.lookup aK = some ⟨.type "tuple", dK, .seq #[.str "exact" k1, .str "flag" k2, .str "link" k3, .str "number" k4, .str "text" k5] nK, sK⟩)
    (x1 : PySem.W.nsIn K mainGlobals "MOST_WORD" = some (some (.int 12 t1))) (x2 : PySem.W.nsIn K mainGlobals "MAX_TYPES" = some (some (.int 20 t2))) (x3 : PySem.W.nsIn K mainGlobals "MAX_HIGH" = some (some (.int 4 t3))) : Txt K mg aK where
  b_len := PySem.W.mg_none_of KI NS zlen
  b_int := PySem.W.mg_none_of KI NS zint
  b_abs := PySem.W.mg_none_of KI NS zabs
  b_max := PySem.W.mg_none_of KI NS zmax
  b_min := PySem.W.mg_none_of KI NS zmin
  b_range := PySem.W.mg_none_of KI NS zrange
  b_isinstance := PySem.W.mg_none_of KI NS zisinstance
  b_tuple := PySem.W.mg_none_of KI NS ztuple
  b_all := PySem.W.mg_none_of KI NS zall
  b_str := PySem.W.mg_none_of KI NS zstr
  b_repr := PySem.W.mg_none_of KI NS zrepr
  b_list := PySem.W.mg_none_of KI NS zlist
  b_sorted := PySem.W.mg_none_of KI NS zsorted
  b_dict := PySem.W.mg_none_of KI NS zdict
  b_zip := PySem.W.mg_none_of KI NS zzip
  b_enumerate := PySem.W.mg_none_of KI NS zenumerate
  b_bool := PySem.W.mg_none_of KI NS zbool
  g_KINDS := PySem.W.mg_of KI NS aaK
  s_KINDS := vals_tup lK (by show 5 ≤ sizeLine; decide) (.cons (rel_str _ _) (.cons (rel_str _ _) (.cons (rel_str _ _) (.cons (rel_str _ _) (.cons (rel_str _ _) .nil)))))
  g_word := ⟨_, PySem.W.mg_of KI NS x1⟩
  g_types := ⟨_, PySem.W.mg_of KI NS x2⟩
  g_high := ⟨_, PySem.W.mg_of KI NS x3⟩
theorem all_mk {l : PySem.W.OpenLaw} {w : World} {K : PySem.W.Frag} {mg : Str → Option Value} {fa aK aC aH aR : Addr} (T : Txt K mg aK) (TC : TyC K mg aC) (IA : InitAt K aC) (EA : EqAt6 K aC) (HT : HouseT K mg aH) (RA : RulesA w K mg aR) (Q_name : PropAt K aC "name" "Type.name" "_name" s_Type_name) (Q_kind : PropAt K aC "kind" "Type.kind" "_kind" s_Type_kind) (Q_above : PropAt K aC "above" "Type.above" "_above" s_Type_above) (Q_is_single : PropAt K aC "is_single" "Type.is_single" "_single" s_Type_is_single) (hfa : mg "law" = some (.ref fa))
    (d_are_signs : DefAt K mg "are_signs" s_are_signs) (d_is_word : DefAt K mg "is_word" s_is_word) (d_need_word : DefAt K mg "need_word" s_need_word) (d_are_types : DefAt K mg "are_types" s_are_types) (d_upward_types : DefAt K mg "upward_types" s_upward_types) (d_aboves : DefAt K mg "_aboves" s_aboves) (d_twice : DefAt K mg "_twice" s_twice) (d_wrong_above : DefAt K mg "_wrong_above" s_wrong_above) (d_in_ring : DefAt K mg "_in_ring" s_in_ring) (d_too_high : DefAt K mg "_too_high" s_too_high) (d_too_many : DefAt K mg "_too_many" s_too_many) (d_type_fault : DefAt K mg "type_fault" s_type_fault) (d_house_types : DefAt K mg "house_types" s_house_types) (d_law_dice : DefAt K mg "_law_dice" s_law_dice) (d_law_roll : DefAt K mg "_law_roll" s_law_roll) (d_law_one_of : DefAt K mg "_law_one_of" s_law_one_of) (d_law_mixed : DefAt K mg "_law_mixed" s_law_mixed) (d_law_kinds : DefAt K mg "_law_kinds" s_law_kinds) (d_law_house : DefAt K mg "_law_house" s_law_house) (d_law_is_ring : DefAt K mg "_law_is_ring" s_law_is_ring) (d_law_reached : DefAt K mg "_law_reached" s_law_reached) (d_law_types_fault : DefAt K mg "_law_types_fault" s_law_types_fault) (d_law_made_types : DefAt K mg "_law_made_types" s_law_made_types) (d_law_some_rows : DefAt K mg "_law_some_rows" s_law_some_rows) (d_law_keeps : DefAt K mg "_law_keeps" s_law_keeps) (d_law_right : DefAt K mg "_law_right" s_law_right) (d_law : DefAt K mg "law" s_law) :
    ∃ fd : FuncData, (∀ (s : Shared) (v : Value), BindsTo s fd ⟨[v], []⟩ [("_law_script", v)]) ∧ ∀ base : Heap, K.In base → base.Ns mainGlobals mg → FnOk l.prog w K mg base CX0 8 fa fd ["_law_script"] (spLaw K) := by
  obtain ⟨f_are_signs, fd_are_signs, F_are_signs, m_are_signs⟩ := d_are_signs.ex
  have b_are_signs := F_are_signs.binds (ps := ["value", "most"]) fun _ _ _ _ _ _ us hl => match us, hl with | [_, _], _ => rfl
  obtain ⟨f_is_word, fd_is_word, F_is_word, m_is_word⟩ := d_is_word.ex
  have b_is_word := F_is_word.binds (ps := ["value"]) fun _ _ _ _ _ _ us hl => match us, hl with | [_], _ => rfl
  obtain ⟨f_need_word, fd_need_word, F_need_word, m_need_word⟩ := d_need_word.ex
  have b_need_word := F_need_word.binds (ps := ["value"]) fun _ _ _ _ _ _ us hl => match us, hl with | [_], _ => rfl
  obtain ⟨f_are_types, fd_are_types, F_are_types, m_are_types⟩ := d_are_types.ex
  have b_are_types := F_are_types.binds (ps := ["value"]) fun _ _ _ _ _ _ us hl => match us, hl with | [_], _ => rfl
  obtain ⟨f_upward_types, fd_upward_types, F_upward_types, m_upward_types⟩ := d_upward_types.ex
  have b_upward_types := F_upward_types.binds (ps := ["aboves", "name"]) fun _ _ _ _ _ _ us hl => match us, hl with | [_, _], _ => rfl
  obtain ⟨f_aboves, fd_aboves, F_aboves, m_aboves⟩ := d_aboves.ex
  have b_aboves := F_aboves.binds (ps := ["types"]) fun _ _ _ _ _ _ us hl => match us, hl with | [_], _ => rfl
  obtain ⟨f_twice, fd_twice, F_twice, m_twice⟩ := d_twice.ex
  have b_twice := F_twice.binds (ps := ["types"]) fun _ _ _ _ _ _ us hl => match us, hl with | [_], _ => rfl
  obtain ⟨f_wrong_above, fd_wrong_above, F_wrong_above, m_wrong_above⟩ := d_wrong_above.ex
  have b_wrong_above := F_wrong_above.binds (ps := ["types"]) fun _ _ _ _ _ _ us hl => match us, hl with | [_], _ => rfl
  obtain ⟨f_in_ring, fd_in_ring, F_in_ring, m_in_ring⟩ := d_in_ring.ex
  have b_in_ring := F_in_ring.binds (ps := ["types"]) fun _ _ _ _ _ _ us hl => match us, hl with | [_], _ => rfl
  obtain ⟨f_too_high, fd_too_high, F_too_high, m_too_high⟩ := d_too_high.ex
  have b_too_high := F_too_high.binds (ps := ["types"]) fun _ _ _ _ _ _ us hl => match us, hl with | [_], _ => rfl
  obtain ⟨f_too_many, fd_too_many, F_too_many, m_too_many⟩ := d_too_many.ex
  have b_too_many := F_too_many.binds (ps := ["types"]) fun _ _ _ _ _ _ us hl => match us, hl with | [_], _ => rfl
  obtain ⟨f_type_fault, fd_type_fault, F_type_fault, m_type_fault⟩ := d_type_fault.ex
  have b_type_fault := F_type_fault.binds (ps := ["types"]) fun _ _ _ _ _ _ us hl => match us, hl with | [_], _ => rfl
  obtain ⟨f_house_types, fd_house_types, F_house_types, m_house_types⟩ := d_house_types.ex
  have b_house_types := F_house_types.binds (ps := []) fun _ _ _ _ _ _ us hl => match us, hl with | [], _ => rfl
  obtain ⟨f_law_dice, fd_law_dice, F_law_dice, m_law_dice⟩ := d_law_dice.ex
  have b_law_dice := F_law_dice.binds (ps := ["_law_script", "_law_at"]) fun _ _ _ _ _ _ us hl => match us, hl with | [_, _], _ => rfl
  obtain ⟨f_law_roll, fd_law_roll, F_law_roll, m_law_roll⟩ := d_law_roll.ex
  have b_law_roll := F_law_roll.binds (ps := ["_law_dice_here", "_law_total"]) fun _ _ _ _ _ _ us hl => match us, hl with | [_, _], _ => rfl
  obtain ⟨f_law_one_of, fd_law_one_of, F_law_one_of, m_law_one_of⟩ := d_law_one_of.ex
  have b_law_one_of := F_law_one_of.binds (ps := ["_law_dice_here", "_law_items"]) fun _ _ _ _ _ _ us hl => match us, hl with | [_, _], _ => rfl
  obtain ⟨f_law_mixed, fd_law_mixed, F_law_mixed, m_law_mixed⟩ := d_law_mixed.ex
  have b_law_mixed := F_law_mixed.binds (ps := ["_law_dice_here", "_law_items"]) fun _ _ _ _ _ _ us hl => match us, hl with | [_, _], _ => rfl
  obtain ⟨f_law_kinds, fd_law_kinds, F_law_kinds, m_law_kinds⟩ := d_law_kinds.ex
  have b_law_kinds := F_law_kinds.binds (ps := ["_law_way"]) fun _ _ _ _ _ _ us hl => match us, hl with | [_], _ => rfl
  obtain ⟨f_law_house, fd_law_house, F_law_house, m_law_house⟩ := d_law_house.ex
  have b_law_house := F_law_house.binds (ps := []) fun _ _ _ _ _ _ us hl => match us, hl with | [], _ => rfl
  obtain ⟨f_law_is_ring, fd_law_is_ring, F_law_is_ring, m_law_is_ring⟩ := d_law_is_ring.ex
  have b_law_is_ring := F_law_is_ring.binds (ps := ["_law_rows", "_law_name"]) fun _ _ _ _ _ _ us hl => match us, hl with | [_, _], _ => rfl
  obtain ⟨f_law_reached, fd_law_reached, F_law_reached, m_law_reached⟩ := d_law_reached.ex
  have b_law_reached := F_law_reached.binds (ps := ["_law_rows", "_law_name"]) fun _ _ _ _ _ _ us hl => match us, hl with | [_, _], _ => rfl
  obtain ⟨f_law_types_fault, fd_law_types_fault, F_law_types_fault, m_law_types_fault⟩ := d_law_types_fault.ex
  have b_law_types_fault := F_law_types_fault.binds (ps := ["_law_rows"]) fun _ _ _ _ _ _ us hl => match us, hl with | [_], _ => rfl
  obtain ⟨f_law_made_types, fd_law_made_types, F_law_made_types, m_law_made_types⟩ := d_law_made_types.ex
  have b_law_made_types := F_law_made_types.binds (ps := ["_law_rows"]) fun _ _ _ _ _ _ us hl => match us, hl with | [_], _ => rfl
  obtain ⟨f_law_some_rows, fd_law_some_rows, F_law_some_rows, m_law_some_rows⟩ := d_law_some_rows.ex
  have b_law_some_rows := F_law_some_rows.binds (ps := ["_law_dice_here"]) fun _ _ _ _ _ _ us hl => match us, hl with | [_], _ => rfl
  obtain ⟨f_law_keeps, fd_law_keeps, F_law_keeps, m_law_keeps⟩ := d_law_keeps.ex
  have b_law_keeps := F_law_keeps.binds (ps := ["_law_row"]) fun _ _ _ _ _ _ us hl => match us, hl with | [_], _ => rfl
  obtain ⟨f_law_right, fd_law_right, F_law_right, m_law_right⟩ := d_law_right.ex
  have b_law_right := F_law_right.binds (ps := ["_law_dice_here"]) fun _ _ _ _ _ _ us hl => match us, hl with | [_], _ => rfl
  obtain ⟨f_law, fd_law, F_law, m_law⟩ := d_law.ex
  have b_law := F_law.binds (ps := ["_law_script"]) fun _ _ _ _ _ _ us hl => match us, hl with | [_], _ => rfl
  have e := hfa.symm.trans m_law
  cases e
  refine ⟨fd_law, fun s v => ?_, fun base _ _ => ?_⟩
  · obtain ⟨_, _, _, _, _, _, _, _, _, rfl, _, _⟩ := F_law.ex
    exact .of_eq rfl
  have D_are_signs : Dfn l.prog w K mg base "are_signs" 1 ["value", "most"] _ := ⟨f_are_signs, fd_are_signs, ok_are_signs F_are_signs T, m_are_signs, F_are_signs.kp, b_are_signs⟩
  have D_is_word : Dfn l.prog w K mg base "is_word" 2 ["value"] _ := ⟨f_is_word, fd_is_word, ok_is_word F_is_word T D_are_signs, m_is_word, F_is_word.kp, b_is_word⟩
  have D_need_word : Dfn l.prog w K mg base "need_word" 3 ["value"] _ := ⟨f_need_word, fd_need_word, ok_need_word F_need_word D_is_word, m_need_word, F_need_word.kp, b_need_word⟩
  have P_name : Prp l.prog w K mg base aC "name" "_name" := prp_of Q_name TC.cl TC.nN sc_Type_name rfl rfl fun _ _ _ _ _ _ us hl => match us, hl with | [_], _ => rfl
  have P_kind : Prp l.prog w K mg base aC "kind" "_kind" := prp_of Q_kind TC.cl TC.nK sc_Type_kind rfl rfl fun _ _ _ _ _ _ us hl => match us, hl with | [_], _ => rfl
  have P_above : Prp l.prog w K mg base aC "above" "_above" := prp_of Q_above TC.cl TC.nA sc_Type_above rfl rfl fun _ _ _ _ _ _ us hl => match us, hl with | [_], _ => rfl
  have P_is_single : Prp l.prog w K mg base aC "is_single" "_single" := prp_of Q_is_single TC.cl TC.nS sc_Type_is_single rfl rfl fun _ _ _ _ _ _ us hl => match us, hl with | [_], _ => rfl
  have MK : MkT l.prog w K mg base aC 4 ["self", "name", "kind", "above", "single"] (spTInit aC) := by
    obtain ⟨f, fd, M, F⟩ := IA.ex
    exact ⟨f, fd, M, ok_Type_init F T TC D_need_word D_is_word, TC.mgC,
      F.kbindsD 4 ["single"] (fun us _ ws => us ++ ws) (by simp) (fun r1 _ r3 => r1.append r3) (fun _ _ _ _ _ _ _ us its ws h1 h2 h3 => match us, its, ws, h1, h2, h3 with | [_, _, _, _], [_], [_], _, _, _ => ⟨_, rfl, rfl⟩),
      F.kbindsD 3 ["single"] (fun us its ws => us ++ (its ++ ws)) (by simp) (fun r1 r2 r3 => r1.append (r2.append r3)) (fun _ _ _ _ _ _ _ us its ws h1 h2 h3 => match us, its, ws, h1, h2, h3 with | [_, _, _], [_], [_], _, _, _ => ⟨_, rfl, rfl⟩)⟩
  have EQ : EqT l.prog w K mg base aC 1 ["self", "other"] (spTEq K aC) := by
    obtain ⟨f, fd, O, F⟩ := EA.ex
    exact ⟨f, fd, O, ok_Type_eq F T TC, F.binds fun _ _ _ _ _ _ us hl => match us, hl with | [_, _], _ => rfl⟩
  have D_are_types : Dfn l.prog w K mg base "are_types" 1 ["value"] _ := ⟨f_are_types, fd_are_types, ok_are_types F_are_types T TC, m_are_types, F_are_types.kp, b_are_types⟩
  have D_upward_types : Dfn l.prog w K mg base "upward_types" 1 ["aboves", "name"] _ := ⟨f_upward_types, fd_upward_types, ok_upward_types F_upward_types T, m_upward_types, F_upward_types.kp, b_upward_types⟩
  have D_aboves : Dfn l.prog w K mg base "_aboves" 3 ["types"] _ := ⟨f_aboves, fd_aboves, ok_aboves F_aboves T P_name P_above, m_aboves, F_aboves.kp, b_aboves⟩
  have RT : RulesT l.prog w K mg base aC aR := by
    refine ⟨RA.g, RA.keys, fun i c h => ?_⟩
    obtain ⟨f, x, h1, h2, h3⟩ := RA.at_ i c h
    refine ⟨f, h1, ?_⟩
    match i, h2 with
    | 0, h2 => cases h2; cases h3.symm.trans m_twice; exact ⟨⟨_, _, (ok_twice F_twice T HT P_name).mono (by decide), F_twice.kp, b_twice⟩⟩
    | 1, h2 => cases h2; cases h3.symm.trans m_wrong_above; exact ⟨⟨_, _, (ok_wrong_above F_wrong_above T P_name P_kind P_above).mono (by decide), F_wrong_above.kp, b_wrong_above⟩⟩
    | 2, h2 => cases h2; cases h3.symm.trans m_in_ring; exact ⟨⟨_, _, (ok_in_ring F_in_ring T D_aboves D_upward_types).mono (by decide), F_in_ring.kp, b_in_ring⟩⟩
    | 3, h2 => cases h2; cases h3.symm.trans m_too_high; exact ⟨⟨_, _, (ok_too_high F_too_high T D_aboves D_upward_types).mono (by decide), F_too_high.kp, b_too_high⟩⟩
    | 4, h2 => cases h2; cases h3.symm.trans m_too_many; exact ⟨⟨_, _, (ok_too_many F_too_many T).mono (by decide), F_too_many.kp, b_too_many⟩⟩
    | i + 5, h2 => cases h2
  have D_type_fault : Dfn l.prog w K mg base "type_fault" 5 ["types"] _ := ⟨f_type_fault, fd_type_fault, ok_type_fault F_type_fault T RT D_are_types, m_type_fault, F_type_fault.kp, b_type_fault⟩
  have D_house_types : Dfn l.prog w K mg base "house_types" 6 [] _ := ⟨f_house_types, fd_house_types, ok_house_types F_house_types T HT MK, m_house_types, F_house_types.kp, b_house_types⟩
  have D_law_dice : Dfn l.prog w K mg base "_law_dice" 1 ["_law_script", "_law_at"] _ := ⟨f_law_dice, fd_law_dice, ok_law_dice F_law_dice T, m_law_dice, F_law_dice.kp, b_law_dice⟩
  have D_law_roll : Dfn l.prog w K mg base "_law_roll" 1 ["_law_dice_here", "_law_total"] _ := ⟨f_law_roll, fd_law_roll, ok_law_roll F_law_roll T, m_law_roll, F_law_roll.kp, b_law_roll⟩
  have D_law_one_of : Dfn l.prog w K mg base "_law_one_of" 2 ["_law_dice_here", "_law_items"] _ := ⟨f_law_one_of, fd_law_one_of, ok_law_one_of F_law_one_of T D_law_roll, m_law_one_of, F_law_one_of.kp, b_law_one_of⟩
  have D_law_mixed : Dfn l.prog w K mg base "_law_mixed" 2 ["_law_dice_here", "_law_items"] _ := ⟨f_law_mixed, fd_law_mixed, ok_law_mixed F_law_mixed T D_law_roll, m_law_mixed, F_law_mixed.kp, b_law_mixed⟩
  have D_law_kinds : Dfn l.prog w K mg base "_law_kinds" 1 ["_law_way"] _ := ⟨f_law_kinds, fd_law_kinds, ok_law_kinds F_law_kinds T, m_law_kinds, F_law_kinds.kp, b_law_kinds⟩
  have D_law_house : Dfn l.prog w K mg base "_law_house" 2 [] _ := ⟨f_law_house, fd_law_house, ok_law_house F_law_house T D_law_kinds, m_law_house, F_law_house.kp, b_law_house⟩
  have D_law_is_ring : Dfn l.prog w K mg base "_law_is_ring" 1 ["_law_rows", "_law_name"] _ := ⟨f_law_is_ring, fd_law_is_ring, ok_law_is_ring F_law_is_ring T, m_law_is_ring, F_law_is_ring.kp, b_law_is_ring⟩
  have D_law_reached : Dfn l.prog w K mg base "_law_reached" 1 ["_law_rows", "_law_name"] _ := ⟨f_law_reached, fd_law_reached, ok_law_reached F_law_reached T, m_law_reached, F_law_reached.kp, b_law_reached⟩
  have D_law_types_fault : Dfn l.prog w K mg base "_law_types_fault" 3 ["_law_rows"] _ := ⟨f_law_types_fault, fd_law_types_fault, ok_law_types_fault F_law_types_fault T D_law_house D_law_is_ring D_law_reached, m_law_types_fault, F_law_types_fault.kp, b_law_types_fault⟩
  have D_law_made_types : Dfn l.prog w K mg base "_law_made_types" 6 ["_law_rows"] _ := ⟨f_law_made_types, fd_law_made_types, ok_law_made_types F_law_made_types T MK, m_law_made_types, F_law_made_types.kp, b_law_made_types⟩
  have D_law_some_rows : Dfn l.prog w K mg base "_law_some_rows" 3 ["_law_dice_here"] _ := ⟨f_law_some_rows, fd_law_some_rows, ok_law_some_rows F_law_some_rows T D_law_roll D_law_one_of D_law_mixed, m_law_some_rows, F_law_some_rows.kp, b_law_some_rows⟩
  have D_law_keeps : Dfn l.prog w K mg base "_law_keeps" 6 ["_law_row"] _ := ⟨f_law_keeps, fd_law_keeps, ok_law_keeps F_law_keeps T MK EQ P_name P_kind P_above P_is_single, m_law_keeps, F_law_keeps.kp, b_law_keeps⟩
  have D_law_right : Dfn l.prog w K mg base "_law_right" 7 ["_law_dice_here"] _ := ⟨f_law_right, fd_law_right, ok_law_right F_law_right T D_law_some_rows D_type_fault D_law_types_fault D_law_made_types D_law_keeps, m_law_right, F_law_right.kp, b_law_right⟩
  exact ok_law F_law T P_name P_kind P_above P_is_single D_type_fault D_law_right D_house_types D_law_made_types D_law_dice D_law_house D_law_kinds
/-- the law's walk, with what the loose names of the top hold -/
theorem walk {ll : PySem.W.OpenLaw} {qq : Program} {ls : List Str} {XQ : (Str → Option Value) → Heap → Prop} {YQ : World → Heap → Prop} {dd : DefRec} {KK : Params → PySem.W.Frag} (hmost : ll.most = some 63) (hdef : dd.params.defaults = [])
    (hroom : Room 8 callerA) (hin : ∀ (u : World) (hh : Heap), YQ u hh → (KK u.params).In hh)
    (FF : ∀ (u : World) (nm : Str → Option Value) (ff : Addr) (hh : Heap), XQ nm hh → (KK u.params).In hh → hh.Ns mainGlobals nm → nm dd.name = some (.ref ff) →
      ∃ fu : FuncData, (∀ (sh : Shared) (vv : Value), BindsTo sh fu ⟨[vv], []⟩ [("_law_script", vv)]) ∧ ∀ bb : Heap, (KK u.params).In bb → bb.Ns mainGlobals nm → FnOk ll.prog u (KK u.params) nm bb CX0 8 ff fu ["_law_script"] (spLaw (KK u.params))) :
    PySem.W.WalkO qq ls XQ YQ ll.row.toRowW dd [] (fun f vs => PySem.call f vs) :=
  Att.attach_call hmost hdef fun u _ sb nm _ ff _ _ _ _ aa _ nn GG YY _ _ _ hnm hob hin2 hle hgn => by
    have inK := hin u _ YY
    obtain ⟨fu, hbi, hfn⟩ := FF u nm ff _ GG.X inK GG.T.g hnm
    exact law_call inK GG.T.g GG.T.b GG.T.builtins GG.T.nolimit hgn hob hin2 (Nat.le_trans hle (by decide)) hroom hfn hbi (fun HH _ hsq => ⟨aa, nn, rfl, hsq, hle, fun _ => rfl⟩) fun _ _ _ z => z
end Bw
open PySem PySem.W PyProof.Rows in
set_option maxRecDepth 100000 in
set_option maxHeartbeats 0 in
theorem PySem.Challenge.cw_bailiwick_k06_types_and_their_first_faul_holds : PySem.Challenge.rw_bailiwick_k06_types_and_their_first_faul.Holds := by
  w_on; o_law; k_head; (case hw => w_witness2)
  k_fill
  refine Bw.walk (ll := PySem.Challenge.rw_bailiwick_k06_types_and_their_first_faul) rfl rfl ⟨rfl, by decide, by decide⟩ (fun w h Y => PySem.W.kIn_of Y) ?F
  case F =>
    intro w mg fa h XP KX G hmg
    refine' Bw.all_mk (Bw.txtMk KX G ?zlen ?zint ?zabs ?zmax ?zmin ?zrange ?zisinstance ?ztuple ?zall ?zstr ?zrepr ?zlist ?zsorted ?zdict ?zzip ?zenumerate ?zbool ?aaK ?lK ?x1 ?x2 ?x3) (Bw.tyMk KX G ?c1 ?c2 ?c3 ?c4 ?c5 ?c6 ?c7 ?c8 ?c9 ?e1 ?e2 ?e3 ?e4 ?e5 ?e6 ?e7 ?e8) (Bw.initMk ?i1 ?i2 ?i3 ?i4 ?i5 ?i6 ?i7 ?i8) (Bw.eqMk ?q1 ?q2 ?q3 ?q4 ?q5 ?q6 ?q7 ?q8 ?q9) (Bw.houseMk KX G ?h1 ?h2 ?l0 ?l1 ?l2 ?l3 ?l4 ?l5 ?l6 ?l7 ?l8 ?l9 ?l10 ?l11 ?l12 ?l13 ?l14 ?l15 ?l16) (Bw.rulesMk KX G ?g1 ?g2 ?g3 ?g4 ?q_0 ?m_0 ?q_1 ?m_1 ?q_2 ?m_2 ?q_3 ?m_3 ?q_4 ?m_4) (Bw.propAt ?p_name_0 ?p_name_1 ?p_name_2 ?p_name_3 ?p_name_4 ?p_name_5 ?p_name_6) (Bw.propAt ?p_kind_0 ?p_kind_1 ?p_kind_2 ?p_kind_3 ?p_kind_4 ?p_kind_5 ?p_kind_6) (Bw.propAt ?p_above_0 ?p_above_1 ?p_above_2 ?p_above_3 ?p_above_4 ?p_above_5 ?p_above_6) (Bw.propAt ?p_is_single_0 ?p_is_single_1 ?p_is_single_2 ?p_is_single_3 ?p_is_single_4 ?p_is_single_5 ?p_is_single_6) hmg ?d_are_signs ?d_is_word ?d_need_word ?d_are_types ?d_upward_types ?d_aboves ?d_twice ?d_wrong_above ?d_in_ring ?d_too_high ?d_too_many ?d_type_fault ?d_house_types ?d_law_dice ?d_law_roll ?d_law_one_of ?d_law_mixed ?d_law_kinds ?d_law_house ?d_law_is_ring ?d_law_reached ?d_law_types_fault ?d_law_made_types ?d_law_some_rows ?d_law_keeps ?d_law_right ?d_law
    (case zlen => k_is)
    (case zint => k_is)
    (case zabs => k_is)
    (case zmax => k_is)
    (case zmin => k_is)
    (case zrange => k_is)
    (case zisinstance => k_is)
    (case ztuple => k_is)
    (case zall => k_is)
    (case zstr => k_is)
    (case zrepr => k_is)
    (case zlist => k_is)
    (case zsorted => k_is)
    (case zdict => k_is)
    (case zzip => k_is)
    (case zenumerate => k_is)
    (case zbool => k_is)
    (case aaK => k_is)
    (case lK => k_is)
    (case x1 => k_is)
    (case x2 => k_is)
    (case x3 => k_is)
    (case c1 => k_is)
    (case c2 => k_is)
    (case c3 => k_is)
    (case c4 => k_is)
    (case c5 => k_is)
    (case c6 => k_is)
    (case c7 => k_is)
    (case c8 => k_is)
    (case c9 => k_is)
    (case e1 => k_is)
    (case e2 => k_is)
    (case e3 => k_is)
    (case e4 => k_is)
    (case e5 => k_is)
    (case e6 => k_is)
    (case e7 => k_is)
    (case e8 => k_is)
    (case i1 => k_is)
    (case i2 => k_is)
    (case i3 => k_is)
    (case i4 => k_is)
    (case i5 => k_is)
    (case i6 => k_is)
    (case i7 => k_is)
    (case i8 => k_is)
    (case q1 => k_is)
    (case q2 => k_is)
    (case q3 => k_is)
    (case q4 => k_is)
    (case q5 => k_is)
    (case q6 => k_is)
    (case q7 => k_is)
    (case q8 => k_is)
    (case q9 => k_is)
    (case h1 => k_is)
    (case h2 => k_is)
    (case l0 => k_is)
    (case l1 => k_is)
    (case l2 => k_is)
    (case l3 => k_is)
    (case l4 => k_is)
    (case l5 => k_is)
    (case l6 => k_is)
    (case l7 => k_is)
    (case l8 => k_is)
    (case l9 => k_is)
    (case l10 => k_is)
    (case l11 => k_is)
    (case l12 => k_is)
    (case l13 => k_is)
    (case l14 => k_is)
    (case l15 => k_is)
    (case l16 => k_is)
    (case g1 => k_is)
    (case g2 => k_is)
    (case g3 => decide)
    (case g4 => k_keys)
    (case q_0 => k_is)
    (case m_0 => k_is)
    (case q_1 => k_is)
    (case m_1 => k_is)
    (case q_2 => k_is)
    (case m_2 => k_is)
    (case q_3 => k_is)
    (case m_3 => k_is)
    (case q_4 => k_is)
    (case m_4 => k_is)
    (case p_name_0 => k_is)
    (case p_name_1 => k_is)
    (case p_name_2 => k_is)
    (case p_name_3 => k_is)
    (case p_name_4 => k_is)
    (case p_name_5 => k_is)
    (case p_name_6 => k_is)
    (case p_kind_0 => k_is)
    (case p_kind_1 => k_is)
    (case p_kind_2 => k_is)
    (case p_kind_3 => k_is)
    (case p_kind_4 => k_is)
    (case p_kind_5 => k_is)
    (case p_kind_6 => k_is)
    (case p_above_0 => k_is)
    (case p_above_1 => k_is)
    (case p_above_2 => k_is)
    (case p_above_3 => k_is)
    (case p_above_4 => k_is)
    (case p_above_5 => k_is)
    (case p_above_6 => k_is)
    (case p_is_single_0 => k_is)
    (case p_is_single_1 => k_is)
    (case p_is_single_2 => k_is)
    (case p_is_single_3 => k_is)
    (case p_is_single_4 => k_is)
    (case p_is_single_5 => k_is)
    (case p_is_single_6 => k_is)
    (case d_are_signs => (refine' Bw.defAt KX G ?at_ ?lk ?cc ?kk; (case at_ => k_is); (case lk => k_is); (case cc => k_is); (case kk => k_is)))
    (case d_is_word => (refine' Bw.defAt KX G ?at_ ?lk ?cc ?kk; (case at_ => k_is); (case lk => k_is); (case cc => k_is); (case kk => k_is)))
    (case d_need_word => (refine' Bw.defAt KX G ?at_ ?lk ?cc ?kk; (case at_ => k_is); (case lk => k_is); (case cc => k_is); (case kk => k_is)))
    (case d_are_types => (refine' Bw.defAt KX G ?at_ ?lk ?cc ?kk; (case at_ => k_is); (case lk => k_is); (case cc => k_is); (case kk => k_is)))
    (case d_upward_types => (refine' Bw.defAt KX G ?at_ ?lk ?cc ?kk; (case at_ => k_is); (case lk => k_is); (case cc => k_is); (case kk => k_is)))
    (case d_aboves => (refine' Bw.defAt KX G ?at_ ?lk ?cc ?kk; (case at_ => k_is); (case lk => k_is); (case cc => k_is); (case kk => k_is)))
    (case d_twice => (refine' Bw.defAt KX G ?at_ ?lk ?cc ?kk; (case at_ => k_is); (case lk => k_is); (case cc => k_is); (case kk => k_is)))
    (case d_wrong_above => (refine' Bw.defAt KX G ?at_ ?lk ?cc ?kk; (case at_ => k_is); (case lk => k_is); (case cc => k_is); (case kk => k_is)))
    (case d_in_ring => (refine' Bw.defAt KX G ?at_ ?lk ?cc ?kk; (case at_ => k_is); (case lk => k_is); (case cc => k_is); (case kk => k_is)))
    (case d_too_high => (refine' Bw.defAt KX G ?at_ ?lk ?cc ?kk; (case at_ => k_is); (case lk => k_is); (case cc => k_is); (case kk => k_is)))
    (case d_too_many => (refine' Bw.defAt KX G ?at_ ?lk ?cc ?kk; (case at_ => k_is); (case lk => k_is); (case cc => k_is); (case kk => k_is)))
    (case d_type_fault => (refine' Bw.defAt KX G ?at_ ?lk ?cc ?kk; (case at_ => k_is); (case lk => k_is); (case cc => k_is); (case kk => k_is)))
    (case d_house_types => (refine' Bw.defAt KX G ?at_ ?lk ?cc ?kk; (case at_ => k_is); (case lk => k_is); (case cc => k_is); (case kk => k_is)))
    (case d_law_dice => (refine' Bw.defAt KX G ?at_ ?lk ?cc ?kk; (case at_ => k_is); (case lk => k_is); (case cc => k_is); (case kk => k_is)))
    (case d_law_roll => (refine' Bw.defAt KX G ?at_ ?lk ?cc ?kk; (case at_ => k_is); (case lk => k_is); (case cc => k_is); (case kk => k_is)))
    (case d_law_one_of => (refine' Bw.defAt KX G ?at_ ?lk ?cc ?kk; (case at_ => k_is); (case lk => k_is); (case cc => k_is); (case kk => k_is)))
    (case d_law_mixed => (refine' Bw.defAt KX G ?at_ ?lk ?cc ?kk; (case at_ => k_is); (case lk => k_is); (case cc => k_is); (case kk => k_is)))
    (case d_law_kinds => (refine' Bw.defAt KX G ?at_ ?lk ?cc ?kk; (case at_ => k_is); (case lk => k_is); (case cc => k_is); (case kk => k_is)))
    (case d_law_house => (refine' Bw.defAt KX G ?at_ ?lk ?cc ?kk; (case at_ => k_is); (case lk => k_is); (case cc => k_is); (case kk => k_is)))
    (case d_law_is_ring => (refine' Bw.defAt KX G ?at_ ?lk ?cc ?kk; (case at_ => k_is); (case lk => k_is); (case cc => k_is); (case kk => k_is)))
    (case d_law_reached => (refine' Bw.defAt KX G ?at_ ?lk ?cc ?kk; (case at_ => k_is); (case lk => k_is); (case cc => k_is); (case kk => k_is)))
    (case d_law_types_fault => (refine' Bw.defAt KX G ?at_ ?lk ?cc ?kk; (case at_ => k_is); (case lk => k_is); (case cc => k_is); (case kk => k_is)))
    (case d_law_made_types => (refine' Bw.defAt KX G ?at_ ?lk ?cc ?kk; (case at_ => k_is); (case lk => k_is); (case cc => k_is); (case kk => k_is)))
    (case d_law_some_rows => (refine' Bw.defAt KX G ?at_ ?lk ?cc ?kk; (case at_ => k_is); (case lk => k_is); (case cc => k_is); (case kk => k_is)))
    (case d_law_keeps => (refine' Bw.defAt KX G ?at_ ?lk ?cc ?kk; (case at_ => k_is); (case lk => k_is); (case cc => k_is); (case kk => k_is)))
    (case d_law_right => (refine' Bw.defAt KX G ?at_ ?lk ?cc ?kk; (case at_ => k_is); (case lk => k_is); (case cc => k_is); (case kk => k_is)))
    (case d_law => (refine' Bw.defAt KX G ?at_ ?lk ?cc ?kk; (case at_ => k_is); (case lk => k_is); (case cc => k_is); (case kk => k_is)))
