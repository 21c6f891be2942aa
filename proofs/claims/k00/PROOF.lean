import PyProof.Rows.All
import Wide.All
import OpenK.AllK
import Wide.FinOn
import HandS.Text
import HandS.ForMost
import HandS.IsInst
import HandS.StrMore
import HandS.Style
import HandS.RaiseMore
import HandS.Wide
import HandS.TupLe
import HandS.Walk
import PySem.Challenge.RW_bailiwick_k00_forms_of_all_kinds
set_option Elab.async false
set_option linter.all false
set_option maxRecDepth 100000
set_option maxHeartbeats 4000000
namespace Bw
open PySem L2 TL PyProof.Rows

/-! ### signs -/
def Sgn (l : List Nat) : Prop := ∀ c ∈ l, 32 ≤ c ∧ c ≤ 126
theorem Sgn.lt {l : List Nat} (h : Sgn l) : ∀ c ∈ l, c < 128 := fun c hc => by have := h c hc; omega
theorem Sgn.app {l m : List Nat} (h : Sgn l) (k : Sgn m) : Sgn (l ++ m) := fun c hc => by
  rcases List.mem_append.mp hc with q | q
  · exact h c q
  · exact k c q
theorem Sgn.nil : Sgn [] := fun c hc => absurd hc (by simp)
theorem Sgn.cons {c : Nat} {l : List Nat} (h : Sgn (c :: l)) : (32 ≤ c ∧ c ≤ 126) ∧ Sgn l := ⟨h c (List.mem_cons_self ..), fun d hd => h d (List.mem_cons_of_mem _ hd)⟩
theorem Sgn.mk {c : Nat} {l : List Nat} (h1 : 32 ≤ c ∧ c ≤ 126) (h : Sgn l) : Sgn (c :: l) := fun d hd => by
  rcases List.mem_cons.mp hd with rfl | q
  · exact h1
  · exact h d q
theorem Sgn.rep {n c : Nat} (h : 32 ≤ c ∧ c ≤ 126) : Sgn (List.replicate n c) := fun d hd => by
  rw [List.eq_of_mem_replicate hd]
  exact h
theorem space_sgn : ∀ c, c < 128 → 32 ≤ c → Unicode.isSpace c = decide (c = 32) := by decide +kernel
theorem print_sgn : ∀ c, c < 128 → Unicode.isPrintable c = decide (32 ≤ c ∧ c ≤ 126) := by decide +kernel
theorem digit_sgn : ∀ c, c < 128 → Unicode.isDigit c = decide (48 ≤ c ∧ c ≤ 57) := by decide +kernel
theorem Sgn.sp {l : List Nat} (h : Sgn l) {c : Nat} (hc : c ∈ l) : Unicode.isSpace c = decide (c = 32) := space_sgn c (h.lt c hc) (h c hc).1
theorem signs_iff (x : Str) : (Txt.isascii x && Txt.isprintable x) = true ↔ Sgn (tl x) := by
  unfold Txt.isascii Txt.isprintable
  rw [Bool.and_eq_true, ← Array.all_toList, ← Array.all_toList, List.all_eq_true, List.all_eq_true]
  constructor
  · rintro ⟨h1, h2⟩ c hc
    have a : c < 128 := of_decide_eq_true (h1 c hc)
    have b := h2 c hc
    rw [print_sgn c a] at b
    exact of_decide_eq_true b
  · intro h
    refine ⟨fun c hc => decide_eq_true (h.lt c hc), fun c hc => ?_⟩
    rw [print_sgn c (h.lt c hc)]
    exact decide_eq_true (h c hc)
theorem lo1_sgn {c : Nat} (h : 32 ≤ c ∧ c ≤ 126) : 32 ≤ lo1 c ∧ lo1 c ≤ 126 := by
  unfold lo1
  split <;> omega
theorem up1_sgn {c : Nat} (h : 32 ≤ c ∧ c ≤ 126) : 32 ≤ up1 c ∧ up1 c ≤ 126 := by
  unfold up1
  split <;> omega
theorem lo1_32 {c : Nat} (h : 32 ≤ c ∧ c ≤ 126) : lo1 c = 32 ↔ c = 32 := by
  unfold lo1
  split <;> omega
theorem lo1_lo1 (c : Nat) : lo1 (lo1 c) = lo1 c := by
  unfold lo1
  split <;> (try split) <;> omega
theorem lo1_up1 (c : Nat) : lo1 (up1 c) = lo1 c := by
  unfold lo1 up1
  split <;> split <;> (try split) <;> omega
theorem Sgn.low {l : List Nat} (h : Sgn l) : Sgn (l.map lo1) := fun c hc => by
  obtain ⟨d, hd, rfl⟩ := List.mem_map.mp hc
  exact lo1_sgn (h d hd)
theorem tl_lower {x : Str} (h : Sgn (tl x)) : tl (Txt.lower x) = (tl x).map lo1 := by
  rw [lower_ascii h.lt]
  show (x.cps.map lo1).toList = _
  rw [Array.toList_map]
theorem tl_upper {x : Str} (h : Sgn (tl x)) : tl (Txt.upper x) = (tl x).map up1 := by
  rw [upper_ascii h.lt]
  show (x.cps.map up1).toList = _
  rw [Array.toList_map]

/-! ### words -/
def wordsL (l : List Nat) : List (List Nat) := wfin (l.foldl wstep ([], []))
def normL (l : List Nat) : List Nat := joinL [32] (wordsL (l.map lo1))
theorem wstep_sp {st : List (List Nat) × List Nat} : wstep st 32 = if st.2 = [] then st else (st.1 ++ [st.2], []) := by
  unfold wstep
  rw [if_pos (show Unicode.isSpace 32 = true by decide +kernel)]
theorem wstep_ne {st : List (List Nat) × List Nat} {c : Nat} (h : 32 ≤ c ∧ c ≤ 126) (hc : c ≠ 32) : wstep st c = (st.1, st.2 ++ [c]) := by
  unfold wstep
  rw [space_sgn c (by omega) h.1, decide_eq_false hc]
  exact if_neg (by simp)
/-- the parts between blanks, the empty ones left out -/
theorem filter_spl : ∀ (l acc : List Nat) (ws : List (List Nat)), Sgn l → ws ++ (spl [32] 0 acc l).filter (fun p => !p.isEmpty) = wfin (l.foldl wstep (ws, acc))
  | [], acc, ws, _ => by
    rw [spl_nil]
    show _ = if acc = [] then ws else ws ++ [acc]
    cases acc with
    | nil => simp
    | cons a r => simp
  | c :: r, acc, ws, h => by
    obtain ⟨hc, hr⟩ := h.cons
    rw [List.foldl_cons]
    by_cases e : c = 32
    · subst e
      rw [spl_hit (S := [32]) (acc := acc) (r := r) (c := 32) (by unfold pre; simp), wstep_sp]
      show ws ++ List.filter _ (acc :: spl [32] 0 [] r) = _
      cases acc with
      | nil =>
        rw [if_pos rfl, List.filter_cons_of_neg (by simp)]
        exact filter_spl r [] ws hr
      | cons a q =>
        rw [if_neg (by simp), List.filter_cons_of_pos (by simp)]
        have := filter_spl r [] (ws ++ [a :: q]) hr
        rw [← this, List.append_assoc]
        rfl
    · rw [spl_miss (pre_of_head [] r e), wstep_ne hc e]
      exact filter_spl r (acc ++ [c]) ws hr
theorem low_wstep {st : List (List Nat) × List Nat} {c : Nat} (h : 32 ≤ c ∧ c ≤ 126) :
    wstep (st.1.map (·.map lo1), st.2.map lo1) (lo1 c) = ((wstep st c).1.map (·.map lo1), (wstep st c).2.map lo1) := by
  by_cases e : c = 32
  · subst e
    rw [show lo1 32 = 32 from rfl, wstep_sp, wstep_sp]
    obtain ⟨ws, u⟩ := st
    cases u with
    | nil => simp
    | cons a r => simp
  · rw [wstep_ne h e, wstep_ne (lo1_sgn h) (fun q => e ((lo1_32 h).mp q))]
    simp
theorem low_fold : ∀ (l : List Nat) (st : List (List Nat) × List Nat), Sgn l →
    (l.map lo1).foldl wstep (st.1.map (·.map lo1), st.2.map lo1) = ((l.foldl wstep st).1.map (·.map lo1), (l.foldl wstep st).2.map lo1)
  | [], _, _ => rfl
  | c :: r, st, h => by
    rw [List.map_cons, List.foldl_cons, List.foldl_cons, low_wstep h.cons.1, low_fold r _ h.cons.2]
theorem low_wfin (st : List (List Nat) × List Nat) : wfin (st.1.map (·.map lo1), st.2.map lo1) = (wfin st).map (·.map lo1) := by
  obtain ⟨ws, u⟩ := st
  unfold wfin
  cases u <;> simp
theorem wordsL_low {l : List Nat} (h : Sgn l) : wordsL (l.map lo1) = (wordsL l).map (·.map lo1) := by
  unfold wordsL
  have e := low_fold l ([], []) h
  have e2 : (l.map lo1).foldl wstep ([], []) = _ := e
  rw [e2, low_wfin]
theorem joinL_map : ∀ ps : List (List Nat), joinL [32] (ps.map (·.map lo1)) = (joinL [32] ps).map lo1
  | [] => rfl
  | [p] => rfl
  | p :: q :: r => by
    show p.map lo1 ++ ([32] ++ joinL [32] ((q :: r).map (·.map lo1))) = (p ++ ([32] ++ joinL [32] (q :: r))).map lo1
    rw [joinL_map (q :: r), List.map_append, List.map_append]
    rfl
theorem normL_eq {l : List Nat} (h : Sgn l) : normL l = (joinL [32] (wordsL l)).map lo1 := by
  unfold normL
  rw [wordsL_low h, joinL_map]
/-! words are no blanks, and made of the signs -/
def Wd (P : Nat → Prop) (ws : List (List Nat)) : Prop := ∀ p ∈ ws, p ≠ [] ∧ ∀ c ∈ p, c ≠ 32 ∧ P c
theorem wfold_wd {P : Nat → Prop} : ∀ (l : List Nat) (st : List (List Nat) × List Nat), Sgn l → (∀ c ∈ l, P c) → Wd P st.1 → (∀ c ∈ st.2, c ≠ 32 ∧ P c) →
    Wd P (l.foldl wstep st).1 ∧ ∀ c ∈ (l.foldl wstep st).2, c ≠ 32 ∧ P c
  | [], _, _, _, h1, h2 => ⟨h1, h2⟩
  | c :: r, st, h, hp, h1, h2 => by
    rw [List.foldl_cons]
    have hr : ∀ d ∈ r, P d := fun d hd => hp d (List.mem_cons_of_mem _ hd)
    by_cases e : c = 32
    · subst e
      rw [wstep_sp]
      by_cases e2 : st.2 = []
      · rw [if_pos e2]
        exact wfold_wd r st h.cons.2 hr h1 h2
      · rw [if_neg e2]
        refine wfold_wd r _ h.cons.2 hr (fun p hq => ?_) (fun d hd => absurd hd (by simp))
        rcases List.mem_append.mp hq with q | q
        · exact h1 p q
        · rw [List.mem_singleton.mp q]
          exact ⟨e2, h2⟩
    · rw [wstep_ne h.cons.1 e]
      refine wfold_wd r _ h.cons.2 hr h1 (fun d hd => ?_)
      rcases List.mem_append.mp hd with q | q
      · exact h2 d q
      · rw [List.mem_singleton.mp q]
        exact ⟨e, hp c (List.mem_cons_self ..)⟩
theorem wordsL_wd {P : Nat → Prop} {l : List Nat} (h : Sgn l) (hp : ∀ c ∈ l, P c) : Wd P (wordsL l) := by
  obtain ⟨h1, h2⟩ := wfold_wd (P := P) l ([], []) h hp (fun p hq => absurd hq (by simp)) (fun d hd => absurd hd (by simp))
  unfold wordsL wfin
  split
  · exact h1
  · rename_i e2
    intro p hq
    rcases List.mem_append.mp hq with q | q
    · exact h1 p q
    · rw [List.mem_singleton.mp q]
      exact ⟨e2, h2⟩
theorem mem_joinL {P : Nat → Prop} (h32 : P 32) : ∀ {ps : List (List Nat)}, (∀ p ∈ ps, ∀ c ∈ p, P c) → ∀ c ∈ joinL [32] ps, P c
  | [], _, c, hc => absurd hc (by simp [joinL])
  | [p], h, c, hc => h p (List.mem_singleton.mpr rfl) c hc
  | p :: q :: r, h, c, hc => by
    have hc' : c ∈ p ++ ([32] ++ joinL [32] (q :: r)) := hc
    rcases List.mem_append.mp hc' with a | a
    · exact h p (List.mem_cons_self ..) c a
    · rcases List.mem_append.mp a with b | b
      · rw [List.mem_singleton.mp b]
        exact h32
      · exact mem_joinL h32 (fun p' hp' => h p' (List.mem_cons_of_mem _ hp')) c b
theorem joined_sgn {l : List Nat} (h : Sgn l) : Sgn (joinL [32] (wordsL l)) := fun c hc =>
  mem_joinL (P := fun c => 32 ≤ c ∧ c ≤ 126) (by omega) (fun p hp d hd => ((wordsL_wd (P := fun c => 32 ≤ c ∧ c ≤ 126) h h) p hp).2 d hd |>.2) c hc
theorem normL_sgn {l : List Nat} (h : Sgn l) : Sgn (normL l) := by
  unfold normL
  exact joined_sgn h.low
theorem wordsL_join {ps : List (List Nat)} (h : Wd (fun c => 32 ≤ c ∧ c ≤ 126) ps) : wordsL (joinL [32] ps) = ps := by
  cases ps with
  | nil => rfl
  | cons p r =>
    unfold wordsL
    rw [wfold_join (p :: r) [] (by simp) fun q hq => ⟨(h q hq).1, fun c hc => by
      obtain ⟨h1, h2⟩ := (h q hq).2 c hc
      rw [space_sgn c (by omega) h2.1]
      exact decide_eq_false h1⟩]
    rfl
theorem map_lo_id : ∀ {l : List Nat}, (∀ c ∈ l, lo1 c = c) → l.map lo1 = l
  | [], _ => rfl
  | c :: r, h => by
    rw [List.map_cons, h c (List.mem_cons_self ..), map_lo_id fun d hd => h d (List.mem_cons_of_mem _ hd)]
theorem normL_norm {l : List Nat} (h : Sgn l) : normL (normL l) = normL l := by
  have hw := wordsL_wd (P := fun c => (32 ≤ c ∧ c ≤ 126) ∧ lo1 c = c) h.low (fun c hc => ⟨h.low c hc, by
    obtain ⟨d, _, rfl⟩ := List.mem_map.mp hc
    exact lo1_lo1 d⟩)
  have e : (normL l).map lo1 = normL l := map_lo_id (mem_joinL (P := fun c => lo1 c = c) rfl fun p hp c hc => ((hw p hp).2 c hc).2.2)
  show joinL [32] (wordsL ((normL l).map lo1)) = normL l
  rw [e]
  unfold normL
  rw [wordsL_join fun p hp => ⟨(hw p hp).1, fun c hc => ⟨((hw p hp).2 c hc).1, ((hw p hp).2 c hc).2.1⟩⟩]
/-! lengths -/
def wsum (ws : List (List Nat)) : Nat := (ws.map fun p => p.length + 1).sum
theorem wsum_app (ws : List (List Nat)) (p : List Nat) : wsum (ws ++ [p]) = wsum ws + (p.length + 1) := by
  unfold wsum
  rw [List.map_append, List.sum_append]
  simp
theorem wfold_len : ∀ (l : List Nat) (st : List (List Nat) × List Nat), wsum (l.foldl wstep st).1 + (l.foldl wstep st).2.length ≤ wsum st.1 + st.2.length + l.length
  | [], _ => Nat.le_refl _
  | c :: r, st => by
    rw [List.foldl_cons]
    refine Nat.le_trans (wfold_len r (wstep st c)) ?_
    have : wsum (wstep st c).1 + (wstep st c).2.length ≤ wsum st.1 + st.2.length + 1 := by
      unfold wstep
      split
      · split
        · omega
        · show wsum (st.1 ++ [st.2]) + 0 ≤ _
          rw [wsum_app]
          omega
      · show wsum st.1 + (st.2 ++ [c]).length ≤ _
        rw [List.length_append, List.length_singleton]
        omega
    rw [List.length_cons]
    omega
theorem joinL_len : ∀ ps : List (List Nat), (joinL [32] ps).length ≤ wsum ps - 1
  | [] => Nat.le_refl _
  | [p] => by
    show p.length ≤ (p.length + 1 + 0) - 1
    omega
  | p :: q :: r => by
    show (p ++ ([32] ++ joinL [32] (q :: r))).length ≤ _
    have h := joinL_len (q :: r)
    have e : wsum (p :: q :: r) = (p.length + 1) + wsum (q :: r) := by unfold wsum; simp
    have e2 : 1 ≤ wsum (q :: r) := by unfold wsum; simp; omega
    rw [e, List.length_append, List.length_append, List.length_singleton]
    omega
theorem words_len (l : List Nat) : (joinL [32] (wordsL l)).length ≤ l.length := by
  have h := wfold_len l ([], [])
  have h0 : wsum ([] : List (List Nat)) = 0 := rfl
  have hj := joinL_len (wordsL l)
  unfold wordsL wfin at hj ⊢
  simp only [h0, List.length_nil] at h
  split
  · rename_i e
    rw [if_pos e] at hj
    omega
  · rename_i e
    rw [if_neg e, wsum_app] at hj
    have : 0 < (l.foldl wstep ([], [])).2.length := List.length_pos_iff.mpr e
    omega
theorem normL_len (l : List Nat) : (normL l).length ≤ l.length := by
  unfold normL
  refine Nat.le_trans (words_len _) ?_
  rw [List.length_map]
  exact Nat.le_refl _
theorem wordsL_count (l : List Nat) : (wordsL l).length ≤ l.length + 1 := by
  have h := wfold_len l ([], [])
  have h0 : wsum ([] : List (List Nat)) = 0 := rfl
  have hl : ∀ ws : List (List Nat), ws.length ≤ wsum ws := fun ws => by
    induction ws with
    | nil => exact Nat.zero_le _
    | cons p r ih =>
      have e : wsum (p :: r) = (p.length + 1) + wsum r := by unfold wsum; simp
      rw [e, List.length_cons]
      omega
  have h1 := hl (l.foldl wstep ([], [])).1
  simp only [h0, List.length_nil] at h
  unfold wordsL wfin
  split
  · omega
  · rw [List.length_append, List.length_singleton]
    omega
/-! the blown text -/
theorem fold_sp : ∀ (n : Nat) (ws : List (List Nat)), (List.replicate n 32).foldl wstep (ws, []) = (ws, [])
  | 0, _ => rfl
  | n + 1, ws => by
    rw [List.replicate_succ, List.foldl_cons, wstep_sp, if_pos rfl]
    exact fold_sp n ws
theorem fold_sp2 (n : Nat) (st : List (List Nat) × List Nat) : (List.replicate n 32).foldl wstep (wstep st 32) = wstep st 32 := by
  rw [wstep_sp]
  split
  · rename_i e
    obtain ⟨ws, u⟩ := st
    simp only at e
    subst e
    exact fold_sp n ws
  · exact fold_sp n _
theorem wfin_sp (n : Nat) (st : List (List Nat) × List Nat) : wfin ((List.replicate n 32).foldl wstep st) = wfin st := by
  cases n with
  | zero => rfl
  | succ n =>
    rw [List.replicate_succ, List.foldl_cons, fold_sp2, wstep_sp]
    obtain ⟨ws, u⟩ := st
    cases u with
    | nil => rfl
    | cons a r => simp [wfin]
theorem map_rep_sp (n : Nat) : (List.replicate n 32).map lo1 = List.replicate n 32 := by
  rw [List.map_replicate]
  rfl
end Bw

namespace Bw
open PySem L2 TL PyProof.Rows
open NumText (AllDigits digitsVal)

/-! ### numbers -/
def Dg (l : List Nat) : Prop := l ≠ [] ∧ AllDigits l
instance (l : List Nat) : Decidable (AllDigits l) := by unfold NumText.AllDigits; infer_instance
/-- digits without needless zeros -/
def plainD (l : List Nat) : Bool := decide (l ≠ []) && decide (AllDigits l) && (decide (l = [48]) || decide (l.head? ≠ some 48))
theorem plainD_iff {l : List Nat} : plainD l = true ↔ l ≠ [] ∧ AllDigits l ∧ (l = [48] ∨ l.head? ≠ some 48) := by
  unfold plainD
  simp only [Bool.and_eq_true, Bool.or_eq_true, decide_eq_true_eq, and_assoc]
theorem ofNat_toNat {c : Nat} (h : 48 ≤ c ∧ c ≤ 57) : (Char.ofNat c).toNat = c := by
  have : ∀ d, d ≤ 57 → 48 ≤ d → (Char.ofNat d).toNat = d := by decide
  exact this c h.2 h.1
theorem map_back : ∀ {l : List Nat}, AllDigits l → (l.map Char.ofNat).map Char.toNat = l
  | [], _ => rfl
  | c :: r, h => by
    rw [List.map_cons, List.map_cons, ofNat_toNat h.head, map_back h.tail]
theorem numL_all {l : List Nat} (h : AllDigits l) : numL (digitsVal l) = (match l.dropWhile (· == 48) with
    | [] => [48]
    | c :: r => c :: r) := by
  unfold numL
  rw [NumText.toDigits_all l h]
  have hd : AllDigits (l.dropWhile (· == 48)) := fun c hc => h c ((List.dropWhile_sublist _).subset hc)
  generalize l.dropWhile (· == 48) = m at hd ⊢
  cases m with
  | nil => rfl
  | cons c r => exact map_back hd
theorem numL_plain {l : List Nat} (h : AllDigits l) (hne : l ≠ []) : numL (digitsVal l) = l ↔ (l = [48] ∨ l.head? ≠ some 48) := by
  rw [numL_all h]
  cases l with
  | nil => exact absurd rfl hne
  | cons c r =>
    by_cases e : c = 48
    · subst e
      rw [List.dropWhile_cons_of_pos (by decide)]
      constructor
      · intro q
        left
        cases e2 : r.dropWhile (· == 48) with
        | nil =>
          rw [e2] at q
          exact q.symm
        | cons d m =>
          rw [e2] at q
          have q : d :: m = 48 :: r := q
          have hd : (fun x => x == 48) d = false := by
            have := List.head?_dropWhile_not (fun x : Nat => x == 48) r
            rw [e2] at this
            simpa using this
          have : d = 48 := by injection q
          rw [this] at hd
          exact absurd hd (by decide)
      · intro q
        rcases q with q | q
        · have : r = [] := by injection q
          rw [this]
          rfl
        · exact absurd rfl q
    · rw [List.dropWhile_cons_of_neg (by rw [beq_iff_eq]; exact e)]
      refine ⟨fun _ => .inr fun q => e (Option.some.inj q), fun _ => rfl⟩
theorem digitsVal_lt {l : List Nat} (h : AllDigits l) : digitsVal l < 10 ^ l.length := by
  have : ∀ (l : List Nat) (a : Nat), AllDigits l → l.foldl (fun acc c => acc * 10 + (c - 48)) a < (a + 1) * 10 ^ l.length := by
    intro l
    induction l with
    | nil => intro a _; simp
    | cons c r ih =>
      intro a h
      rw [List.foldl_cons, List.length_cons]
      refine Nat.lt_of_lt_of_le (ih _ h.tail) ?_
      have hc := h.head
      rw [Nat.pow_succ]
      have e : (a * 10 + (c - 48) + 1) ≤ (a + 1) * 10 := by omega
      calc _ ≤ ((a + 1) * 10) * 10 ^ r.length := Nat.mul_le_mul_right _ e
        _ = _ := by rw [Nat.mul_assoc, Nat.mul_comm 10]
  have h2 := this l 0 h
  simpa [digitsVal] using h2
theorem log2_small {n : Nat} (h : n < 10 ^ 100) : n.log2 < 1920 := by
  by_cases h0 : n = 0
  · subst h0
    decide
  · rw [Nat.log2_lt h0]
    exact Nat.lt_trans h (by decide)
theorem log2_digits {l : List Nat} (h : AllDigits l) (hl : l.length ≤ 100) : (digitsVal l).log2 < 1920 :=
  log2_small (Nat.lt_of_lt_of_le (digitsVal_lt h) (Nat.pow_le_pow_right (by decide) hl))
/-- str of a negative number -/
theorem tl_neg (n : Nat) (h : 0 < n) : tl (Str.ofString (toString (-(n : Int)))) = 45 :: numL n := by
  cases n with
  | zero => exact absurd h (by decide)
  | succ m =>
    have e : (toString (-((m + 1 : Nat) : Int))) = "-" ++ toString (m + 1) := rfl
    have e2 : tl (Str.ofString (toString (m + 1))) = numL (m + 1) := tl_num (m + 1)
    rw [e, tl_ofString]
    rw [tl_ofString] at e2
    rw [String.toList_append, List.map_append, e2]
    rfl

/-! ### the program's own judge of numbers -/
def numPart (l : List Nat) : List Nat := if l.head? = some 45 then l.tail else l
def fitNum (l : List Nat) : Bool := plainD (numPart l) && decide (l ≠ [45, 48]) && decide ((digitsVal (numPart l) : Int) ≤ 10 ^ 15)
def fitLink (l : List Nat) : Bool := plainD l && decide (1 ≤ (digitsVal l : Int) ∧ (digitsVal l : Int) ≤ 10 ^ 12)
/-- the value of the text of a number -/
def numVal (l : List Nat) : Int := if l.head? = some 45 then -(digitsVal l.tail : Int) else digitsVal l
theorem int_of {x : Str} (h1 : numPart (tl x) ≠ []) (h2 : AllDigits (numPart (tl x))) (hl : x.length ≤ 100) : intText? x = some (numVal (tl x)) := by
  unfold numPart at h1 h2
  unfold numVal
  split
  · rename_i e
    rw [if_pos e] at h1 h2
    cases e2 : tl x with
    | nil => rw [e2] at h1; exact absurd rfl h1
    | cons c r =>
      rw [e2] at e h1 h2
      have : c = 45 := Option.some.inj e
      subst this
      exact intText_neg e2 h2 h1 (by omega)
  · rename_i e
    rw [if_neg e] at h1 h2
    exact intText_digits h2 h1 (by omega)
/-- what the law's own reader of whole numbers gives -/
def wholeV (l : List Nat) : Option Int := if plainD (numPart l) && decide (l ≠ [45, 48]) then some (numVal l) else none
theorem back_iff {x : Str} (h1 : numPart (tl x) ≠ []) (h2 : AllDigits (numPart (tl x))) :
    Str.ofString (toString (numVal (tl x))) = x ↔ (plainD (numPart (tl x)) && decide (tl x ≠ [45, 48])) = true := by
  rw [Bool.and_eq_true, decide_eq_true_eq, plainD_iff]
  have ex : Str.ofString (toString (numVal (tl x))) = x ↔ tl (Str.ofString (toString (numVal (tl x)))) = tl x := ⟨fun h => by rw [h], fun h => ext_tl h⟩
  rw [ex]
  unfold numPart at h1 h2 ⊢
  unfold numVal
  by_cases e : (tl x).head? = some 45
  · rw [if_pos e] at h1 h2 ⊢
    rw [if_pos e]
    cases e2 : tl x with
    | nil => rw [e2] at e; cases e
    | cons c r =>
      rw [e2] at e h1 h2
      have : c = 45 := Option.some.inj e
      subst this
      have h1 : r ≠ [] := h1
      have h2 : AllDigits r := h2
      show tl (Str.ofString (toString (-(digitsVal r : Int)))) = 45 :: r ↔ (r ≠ [] ∧ AllDigits r ∧ (r = [48] ∨ r.head? ≠ some 48)) ∧ 45 :: r ≠ [45, 48]
      by_cases z : digitsVal r = 0
      · rw [z]
        have e3 : tl (Str.ofString (toString (-((0 : Nat) : Int)))) = [48] := tl_num 0
        rw [e3]
        constructor
        · intro q
          injection q with q1 q2
          exact absurd q1 (by decide)
        · rintro ⟨⟨_, _, q⟩, q2⟩
          rcases q with q | q
          · rw [q] at q2
            exact absurd rfl q2
          · have := (numL_plain h2 h1).mpr (.inr q)
            rw [z] at this
            have z2 : numL 0 = [48] := rfl
            rw [z2] at this
            rw [← this] at q
            exact absurd rfl q
      · rw [tl_neg _ (by omega)]
        have np := numL_plain h2 h1
        constructor
        · intro q
          injection q with _ q2
          refine ⟨⟨h1, h2, np.mp q2⟩, fun q3 => ?_⟩
          have : r = [48] := by injection q3
          rw [this] at z
          exact z rfl
        · rintro ⟨⟨_, _, q⟩, _⟩
          rw [np.mpr q]
  · rw [if_neg e] at h1 h2 ⊢
    rw [if_neg e, tl_num, numL_plain h2 h1]
    refine ⟨fun q => ⟨⟨h1, h2, q⟩, fun q2 => ?_⟩, fun q => q.1.2.2⟩
    rw [q2] at e
    exact e rfl
/-- the law's bounds are the program's -/
theorem link_iff (l : List Nat) (h : Sgn l) : fitLink l = true ↔ ∃ n, wholeV l = some n ∧ 1 ≤ n ∧ n ≤ 10 ^ 12 := by
  unfold fitLink wholeV numPart numVal
  by_cases e : l.head? = some 45
  · rw [if_pos e, if_pos e]
    constructor
    · intro q
      rw [Bool.and_eq_true, plainD_iff] at q
      obtain ⟨⟨q1, q2, _⟩, _⟩ := q
      cases l with
      | nil => exact absurd rfl q1
      | cons c r =>
        have : c = 45 := Option.some.inj e
        subst this
        have := q2.head
        omega
    · rintro ⟨n, q, h1, _⟩
      split at q
      · have : -(digitsVal l.tail : Int) = n := Option.some.inj q
        omega
      · cases q
  · rw [if_neg e, if_neg e]
    constructor
    · intro q
      rw [Bool.and_eq_true, decide_eq_true_eq] at q
      have hz : l ≠ [45, 48] := fun z => by rw [z] at e; exact e rfl
      exact ⟨_, by rw [q.1, decide_eq_true hz]; rfl, q.2⟩
    · rintro ⟨n, q, h1, h2⟩
      split at q
      · rename_i q2
        rw [Bool.and_eq_true] at q2
        have : (digitsVal l : Int) = n := Option.some.inj q
        subst this
        rw [q2.1, decide_eq_true ⟨h1, h2⟩]
        rfl
      · cases q
theorem num_iff (l : List Nat) : fitNum l = true ↔ ∃ n, wholeV l = some n ∧ ((if n < 0 then -n else n) ≤ 10 ^ 15) := by
  unfold fitNum wholeV numVal numPart
  by_cases e : l.head? = some 45
  · rw [if_pos e, if_pos e]
    constructor
    · intro q
      rw [Bool.and_eq_true, decide_eq_true_eq] at q
      refine ⟨_, by rw [q.1]; rfl, ?_⟩
      split <;> omega
    · rintro ⟨n, q, h1⟩
      split at q
      · rename_i q2
        have : -(digitsVal l.tail : Int) = n := Option.some.inj q
        subst this
        rw [q2]
        refine decide_eq_true ?_
        split at h1 <;> omega
      · cases q
  · rw [if_neg e, if_neg e]
    constructor
    · intro q
      rw [Bool.and_eq_true, decide_eq_true_eq] at q
      refine ⟨_, by rw [q.1]; rfl, ?_⟩
      split <;> omega
    · rintro ⟨n, q, h1⟩
      split at q
      · rename_i q2
        have : (digitsVal l : Int) = n := Option.some.inj q
        subst this
        rw [q2]
        refine decide_eq_true ?_
        split at h1 <;> omega
      · cases q

/-! ### kinds -/
inductive Kd where | exact | flag | link | number | text
  deriving DecidableEq
def Kd.str : Kd → Str
  | .exact => "exact" | .flag => "flag" | .link => "link" | .number => "number" | .text => "text"
def kds : List Kd := [.exact, .flag, .link, .number, .text]
theorem kd_inj {a b : Kd} : a.str = b.str ↔ a = b := by
  refine ⟨fun h => ?_, fun h => by rw [h]⟩
  have : ∀ a b : Kd, decide (a.str = b.str) = decide (a = b) := by
    intro a b
    cases a <;> cases b <;> decide +kernel
  have e := this a b
  rw [decide_eq_true h] at e
  exact of_decide_eq_true e.symm
def normS (x : Str) : Str := Txt.join " " (Txt.words (Txt.lower x))
theorem tl_blank : tl (" " : Str) = [32] := by decide +kernel
theorem tl_normS {x : Str} (h : Sgn (tl x)) : tl (normS x) = normL (tl x) := by
  unfold normS normL wordsL
  rw [join_eq, tl_join, tl_blank, words_tl, tl_lower h]
def kform (k : Kd) (x : Str) : Option Str :=
  match k with
  | .exact => some x
  | .flag => if x = "yes" ∨ x = "no" then some x else none
  | .link => if fitLink (tl x) then some x else none
  | .number => if fitNum (tl x) then some x else none
  | .text => if normS x = "" then none else some (normS x)
def ov : Option Str → V
  | none => .non
  | some s => .str s
theorem ov_inj {a b : Option Str} : ov a = ov b ↔ a = b := by
  refine ⟨fun h => ?_, fun h => by rw [h]⟩
  cases a <;> cases b <;> simp [ov] at h ⊢
  exact h
/-- a text of the document -/
def IsTx (x : Str) : Prop := Sgn (tl x) ∧ x.length ≤ 100
theorem normS_tx {x : Str} (h : IsTx x) : IsTx (normS x) := by
  refine ⟨by rw [tl_normS h.1]; exact normL_sgn h.1, ?_⟩
  rw [len_tl, tl_normS h.1]
  have := normL_len (tl x)
  have e := len_tl x
  have := h.2
  omega
theorem normS_norm {x : Str} (h : IsTx x) : normS (normS x) = normS x := by
  refine ext_tl ?_
  rw [tl_normS (normS_tx h).1, tl_normS h.1, normL_norm h.1]
theorem kform_tx {k : Kd} {x d : Str} (h : IsTx x) (hx : x ≠ "") (e : kform k x = some d) : IsTx d ∧ d ≠ "" ∧ kform k d = some d := by
  cases k with
  | exact =>
    cases e
    exact ⟨h, hx, rfl⟩
  | flag =>
    have e' : (if x = "yes" ∨ x = "no" then some x else none) = some d := e
    split at e'
    · rename_i q
      cases e'
      exact ⟨h, hx, if_pos q⟩
    · cases e'
  | link =>
    have e' : (if fitLink (tl x) then some x else none) = some d := e
    split at e'
    · rename_i q
      cases e'
      exact ⟨h, hx, if_pos q⟩
    · cases e'
  | number =>
    have e' : (if fitNum (tl x) then some x else none) = some d := e
    split at e'
    · rename_i q
      cases e'
      exact ⟨h, hx, if_pos q⟩
    · cases e'
  | text =>
    have e' : (if normS x = "" then none else some (normS x)) = some d := e
    split at e'
    · cases e'
    · rename_i q
      cases e'
      refine ⟨normS_tx h, q, ?_⟩
      show (if normS (normS x) = "" then none else some (normS (normS x))) = _
      rw [normS_norm h, if_neg q]
end Bw

namespace Bw
open PySem PySem.Spec L2 TL PyProof.Rows

/-! ### rules that the layer lacks -/
def repS (x : Str) (n : Int) : Str := ⟨((List.replicate n.toNat (tl x)).flatten).toArray⟩
theorem tl_repS (x : Str) (n : Int) : tl (repS x n) = (List.replicate n.toNat (tl x)).flatten := rfl
theorem foldl_app (l : List (Array Nat)) : ∀ (a : Array Nat), (l.foldl (· ++ ·) a).toList = a.toList ++ (l.map Array.toList).flatten := by
  induction l with
  | nil => intro a; simp
  | cons b r ih =>
    intro a
    rw [List.foldl_cons, ih, Array.toList_append, List.map_cons, List.flatten_cons, List.append_assoc]
theorem repS_fold (x : Str) (n : Int) : (⟨(List.replicate n.toNat x.cps).foldl (· ++ ·) #[]⟩ : Str) = repS x n := by
  refine ext_tl ?_
  show ((List.replicate n.toNat x.cps).foldl (· ++ ·) #[]).toList = _
  rw [foldl_app, List.map_replicate, tl_repS]
  rfl
section
variable {X : Cx}
theorem call_repr_bl : CallR X (.builtin "repr") (fun xs H Q => ∃ b, xs = [.bl b] ∧ Q (.str (if b then "True" else "False")) H) := by
  intro pins s σ H xs us Q I r h
  obtain ⟨b, rfl, q⟩ := h
  obtain ⟨u, rfl, r1⟩ := vals1 r
  cases r1
  exact PySem.P.repr_of_bool ⟨.str _, H, I.tok _, ⟨_, rfl⟩, q⟩
/-- s * n -/
def rMulS : R2 := fun x y H Q => ∃ z n, x = .str z ∧ y = .int n ∧ 0 ≤ n ∧ n ≤ 1000 ∧ z.length ≤ 1000 ∧ Q (.str (repS z n)) H
theorem op_mulS : OpR X (binaryOp .Mult) rMulS := by
  intro pins s σ H x y v u Q I rx ry h
  obtain ⟨z, n, rfl, rfl, h0, h1, hz, q⟩ := h
  obtain ⟨t, rfl⟩ := rx
  obtain ⟨t', rfl⟩ := ry
  have hle : z.length * n.toNat ≤ 1000000 := by
    have := Nat.mul_le_mul hz (show n.toNat ≤ 1000 by omega)
    omega
  refine PySem.P.mul_str ?_ ?_ ?_ ?_
  · rw [decide_eq_false (by omega), decide_eq_false (by omega)]
    rfl
  · intro h2 _
    have h3 : (1 : Int) ≤ n := by omega
    have h4 : ((2 : Int) ^ 63 - 1) / 1000 ≤ (2 ^ 63 - 1) / n := by
      refine Int.le_ediv_of_mul_le (by omega) ?_
      have : ((2 : Int) ^ 63 - 1) / 1000 * n ≤ ((2 : Int) ^ 63 - 1) / 1000 * 1000 := Int.mul_le_mul_of_nonneg_left (by omega) (by decide)
      exact Int.le_trans this (by decide)
    have h5 : (1000 : Int) ≤ ((2 : Int) ^ 63 - 1) / 1000 := by decide
    omega
  · intro _ _
    unfold Builtin.Str.tooLong
    refine decide_eq_false ?_
    have : (sizeLine : Nat) = 16777216 := sizeLine_eq
    omega
  · by_cases h2 : n < 1
    · rw [if_pos h2]
      have e : n = 0 := by omega
      subst e
      exact ⟨by decide, ⟨.str _, H, I.tok _, ⟨_, rfl⟩, q⟩⟩
    · rw [if_neg h2]
      split
      · rename_i h3
        have e : repS z n = z := by
          refine ext_tl ?_
          rw [tl_repS]
          rw [Bool.or_eq_true, beq_iff_eq, beq_iff_eq] at h3
          rcases h3 with h3 | h3
          · subst h3
            show (List.replicate 1 (tl z)).flatten = _
            simp
          · have : tl z = [] := (len0_tl z).mp h3
            rw [this]
            simp
        rw [e] at q
        exact ⟨.str z, H, I, ⟨t, rfl⟩, q⟩
      · rw [repS_fold]
        exact ⟨by
          show (repS z n).length ≤ sizeLine
          rw [len_tl, tl_repS, List.length_flatten, List.map_replicate, List.sum_replicate_nat]
          have e := len_tl z
          have : (sizeLine : Nat) = 16777216 := sizeLine_eq
          have h9 : n.toNat * (tl z).length ≤ 1000000 := by rw [← e, Nat.mul_comm]; exact hle
          omega, ⟨.str _, H, I.tok _, ⟨_, rfl⟩, q⟩⟩
def CPowW (i j : Int) : Prop := 0 ≤ j ∧ (Builtin.Int.intBits i : Int) * j ≤ 2 ^ 27
theorem op_powW : OpR X (binaryOp .Pow) (rI CPowW fun i j => .int (i ^ j.toNat)) := opI fun _ _ _ _ _ _ _ hc q => pow_int hc.1 hc.2 q
end
end Bw

namespace Bw
open PySem PySem.Spec L2 TL PyProof.Rows
def top (i : Nat) : Stmt := PySem.Challenge.pw_bailiwick_k00_forms_of_all_kinds.main.body.getD i (.Pass ⟨0, 0, 0, 0⟩)
abbrev s_are_signs : Stmt := top 9
abbrev n_are_signs : List Str := ["value", "most"]
theorem sc_are_signs : FnScope n_are_signs ["value", "most"] (defScope s_are_signs) := ⟨rfl, rfl, rfl, by decide +kernel, rfl, by decide +kernel, by decide +kernel⟩
abbrev s_is_text : Stmt := top 10
abbrev n_is_text : List Str := ["value"]
theorem sc_is_text : FnScope n_is_text ["value"] (defScope s_is_text) := ⟨rfl, rfl, rfl, by decide +kernel, rfl, by decide +kernel, by decide +kernel⟩
abbrev s_are_plain_digits : Stmt := top 12
abbrev n_are_plain_digits : List Str := ["signs"]
theorem sc_are_plain_digits : FnScope n_are_plain_digits ["signs"] (defScope s_are_plain_digits) := ⟨rfl, rfl, rfl, by decide +kernel, rfl, by decide +kernel, by decide +kernel⟩
abbrev s_read_place : Stmt := top 13
abbrev n_read_place : List Str := ["signs", "number"]
theorem sc_read_place : FnScope n_read_place ["signs"] (defScope s_read_place) := ⟨rfl, rfl, rfl, by decide +kernel, rfl, by decide +kernel, by decide +kernel⟩
abbrev s_read_number : Stmt := top 14
abbrev n_read_number : List Str := ["signs", "number"]
theorem sc_read_number : FnScope n_read_number ["signs"] (defScope s_read_number) := ⟨rfl, rfl, rfl, by decide +kernel, rfl, by decide +kernel, by decide +kernel⟩
abbrev s_need_kind : Stmt := top 20
abbrev n_need_kind : List Str := ["kind"]
theorem sc_need_kind : FnScope n_need_kind ["kind"] (defScope s_need_kind) := ⟨rfl, rfl, rfl, by decide +kernel, rfl, by decide +kernel, by decide +kernel⟩
abbrev s_fits_number : Stmt := top 21
abbrev n_fits_number : List Str := ["text", "digits"]
theorem sc_fits_number : FnScope n_fits_number ["text"] (defScope s_fits_number) := ⟨rfl, rfl, rfl, by decide +kernel, rfl, by decide +kernel, by decide +kernel⟩
abbrev s_fits_exactly : Stmt := top 22
abbrev n_fits_exactly : List Str := ["kind", "text"]
theorem sc_fits_exactly : FnScope n_fits_exactly ["kind", "text"] (defScope s_fits_exactly) := ⟨rfl, rfl, rfl, by decide +kernel, rfl, by decide +kernel, by decide +kernel⟩
abbrev s_known_form : Stmt := top 23
abbrev n_known_form : List Str := ["kind", "text", "form"]
theorem sc_known_form : FnScope n_known_form ["kind", "text"] (defScope s_known_form) := ⟨rfl, rfl, rfl, by decide +kernel, rfl, by decide +kernel, by decide +kernel⟩
abbrev s_form_of : Stmt := top 24
abbrev n_form_of : List Str := ["kind", "text"]
theorem sc_form_of : FnScope n_form_of ["kind", "text"] (defScope s_form_of) := ⟨rfl, rfl, rfl, by decide +kernel, rfl, by decide +kernel, by decide +kernel⟩
abbrev s_is_fit : Stmt := top 25
abbrev n_is_fit : List Str := ["kind", "value"]
theorem sc_is_fit : FnScope n_is_fit ["kind", "value"] (defScope s_is_fit) := ⟨rfl, rfl, rfl, by decide +kernel, rfl, by decide +kernel, by decide +kernel⟩
abbrev s_is_form : Stmt := top 26
abbrev n_is_form : List Str := ["kind", "value"]
theorem sc_is_form : FnScope n_is_form ["kind", "value"] (defScope s_is_form) := ⟨rfl, rfl, rfl, by decide +kernel, rfl, by decide +kernel, by decide +kernel⟩
abbrev s_order_key : Stmt := top 27
abbrev n_order_key : List Str := ["kind", "form"]
theorem sc_order_key : FnScope n_order_key ["kind", "form"] (defScope s_order_key) := ⟨rfl, rfl, rfl, by decide +kernel, rfl, by decide +kernel, by decide +kernel⟩
abbrev s_is_less : Stmt := top 28
abbrev n_is_less : List Str := ["kind", "one", "other", "form"]
theorem sc_is_less : FnScope n_is_less ["kind", "one", "other"] (defScope s_is_less) := ⟨rfl, rfl, rfl, by decide +kernel, rfl, by decide +kernel, by decide +kernel⟩
abbrev s_law_dice : Stmt := top 30
abbrev n_law_dice : List Str := ["_law_script", "_law_at", "_law_cell", "_law_great", "_law_left", "_law_mixed"]
theorem sc_law_dice : FnScope n_law_dice ["_law_script", "_law_at"] (defScope s_law_dice) := ⟨rfl, rfl, rfl, by decide +kernel, rfl, by decide +kernel, by decide +kernel⟩
abbrev s_law_roll : Stmt := top 31
abbrev n_law_roll : List Str := ["_law_dice_here", "_law_total", "_law_size", "_law_drawn", "_law_one", "_law_two"]
theorem sc_law_roll : FnScope n_law_roll ["_law_dice_here", "_law_total"] (defScope s_law_roll) := ⟨rfl, rfl, rfl, by decide +kernel, rfl, by decide +kernel, by decide +kernel⟩
abbrev s_law_one_of : Stmt := top 32
abbrev n_law_one_of : List Str := ["_law_dice_here", "_law_items"]
theorem sc_law_one_of : FnScope n_law_one_of ["_law_dice_here", "_law_items"] (defScope s_law_one_of) := ⟨rfl, rfl, rfl, by decide +kernel, rfl, by decide +kernel, by decide +kernel⟩
abbrev s_law_whole : Stmt := top 33
abbrev n_law_whole : List Str := ["_law_text", "_law_digits", "_law_sign"]
theorem sc_law_whole : FnScope n_law_whole ["_law_text"] (defScope s_law_whole) := ⟨rfl, rfl, rfl, by decide +kernel, rfl, by decide +kernel, by decide +kernel⟩
abbrev s_law_due : Stmt := top 34
abbrev n_law_due : List Str := ["_law_kind", "_law_text", "_law_parts", "_law_number", "_law_part"]
theorem sc_law_due : FnScope n_law_due ["_law_kind", "_law_text"] (defScope s_law_due) := ⟨rfl, rfl, rfl, by decide +kernel, rfl, by decide +kernel, by decide +kernel⟩
abbrev s_law_signs : Stmt := top 35
abbrev n_law_signs : List Str := ["_law_dice_here", "_law_some", "_law_turn"]
theorem sc_law_signs : FnScope n_law_signs ["_law_dice_here"] (defScope s_law_signs) := ⟨rfl, rfl, rfl, by decide +kernel, rfl, by decide +kernel, by decide +kernel⟩
abbrev s_law_near_number : Stmt := top 36
abbrev n_law_near_number : List Str := ["_law_dice_here", "_law_some", "_law_great"]
theorem sc_law_near_number : FnScope n_law_near_number ["_law_dice_here"] (defScope s_law_near_number) := ⟨rfl, rfl, rfl, by decide +kernel, rfl, by decide +kernel, by decide +kernel⟩
abbrev s_law_blown : Stmt := top 37
abbrev n_law_blown : List Str := ["_law_dice_here", "_law_text", "_law_found", "_law_sign"]
theorem sc_law_blown : FnScope n_law_blown ["_law_dice_here", "_law_text"] (defScope s_law_blown) := ⟨rfl, rfl, rfl, by decide +kernel, rfl, by decide +kernel, by decide +kernel⟩
abbrev s_law_text_right : Stmt := top 38
abbrev n_law_text_right : List Str := ["_law_dice_here", "_law_text", "_law_kind", "_law_due_here"]
theorem sc_law_text_right : FnScope n_law_text_right ["_law_dice_here", "_law_text"] (defScope s_law_text_right) := ⟨rfl, rfl, rfl, by decide +kernel, rfl, by decide +kernel, by decide +kernel⟩
abbrev s_law_order_right : Stmt := top 39
abbrev n_law_order_right : List Str := ["_law_dice_here", "_law_kind", "_law_some", "_law_forms", "_law_one", "_law_other", "_law_due_here", "_law_text", "_law_form"]
theorem sc_law_order_right : FnScope n_law_order_right ["_law_dice_here"] (defScope s_law_order_right) := ⟨rfl, rfl, rfl, by decide +kernel, rfl, by decide +kernel, by decide +kernel⟩
abbrev s_law : Stmt := top 40
abbrev n_law : List Str := ["_law_script", "_law_at", "_law_dice_here", "_law_turn", "_law_text", "_law_odd", "_law_told", "_law_kind"]
theorem sc_law : FnScope n_law ["_law_script"] (defScope s_law) := ⟨rfl, rfl, rfl, by decide +kernel, rfl, by decide +kernel, by decide +kernel⟩
/-! ### a def of the program, known by its name -/
structure Dfn (P : Program) (w : World) (K : PySem.W.Frag) (mg : Str → Option Value) (base : Heap) (x : Str) (k : Nat) (ps : List Str) (sp : Sp) : Prop where
  ex : ∃ (f : Addr) (fd : FuncData), FnOk P w K mg base CX0 k f fd ps sp ∧ mg x = some (.ref f) ∧ PySem.W.keepIn K (.ref f) = true ∧ Binds K fd ps []
section
variable {X : Cx} {x : Str} {k m : Nat} {ps : List Str} {sp : Sp} {e : Expr} {es : List Expr} {t : TA} {p pos : Pos}
theorem pe_d (D : Dfn X.prog X.w X.K X.mg X.base x k ps sp) (hr : Room m X.A) (hm : k ≤ m) (ha : PA X (e :: es) t) (hg : Gl X x := by rfl)
    (hdb : (x == ("__debug__" : Str)) = false := by decide)
    (he : starEach (e :: es) X.env = (false, eval e X.env) :: starEach es X.env := by rfl) (hpl : (backTo pos (starEach es X.env)).any (·.1) = false := by rfl) :
    PE X (.Call (.Name x p) (e :: es) [] pos) (tCall sp [] E0 t) := by
  obtain ⟨f, fd, F, mf, kp, b⟩ := D.ex
  exact pe_call F (hr.mono hm) hg mf kp b .nil pass0 ha hdb he hpl
end
/-- what the top has left, apart from the defs -/
structure Txt (K : PySem.W.Frag) (mg : Str → Option Value) (aK aO aP : Addr) : Prop where
  b_len : mg "len" = none
  b_int : mg "int" = none
  b_str : mg "str" = none
  b_abs : mg "abs" = none
  b_max : mg "max" = none
  b_min : mg "min" = none
  b_repr : mg "repr" = none
  b_range : mg "range" = none
  b_list : mg "list" = none
  b_isinstance : mg "isinstance" = none
  g_KINDS : mg "KINDS" = some (.ref aK)
  g_ORDERED : mg "ORDERED" = some (.ref aO)
  g_PIECED : mg "PIECED" = some (.ref aP)
  s_KINDS : ∀ H : Hp, SqT K H aK [.str "exact", .str "flag", .str "link", .str "number", .str "text"]
  s_ORDERED : ∀ H : Hp, SqT K H aO [.str "exact", .str "number", .str "text"]
  s_PIECED : ∀ H : Hp, SqT K H aP [.str "exact", .str "text"]
  g_number : ∃ t, mg "MOST_NUMBER" = some (.int 1000000000000 t)
  g_value : ∃ t, mg "MOST_VALUE" = some (.int 1000000000000000 t)
  g_text : ∃ t, mg "MOST_TEXT" = some (.int 100 t)
end Bw

namespace Bw
open PySem PySem.Spec L2 TL PyProof.Rows

/-! ### the judges of texts -/
/-- no text at all -/
def NotStr (K : PySem.W.Frag) (H : Hp) (v : V) : Prop := ∃ t, TyX K H v t ∧ PySem.W.kitOne K t (.type "str") = some false
def areSg (x : Str) (m : Int) : Bool := decide ((x.length : Int) ≤ m) && (Txt.isascii x && Txt.isprintable x)
def isTx (x : Str) : Bool := areSg x 100 && decide (x ≠ "")
theorem isTx_iff (x : Str) : isTx x = true ↔ IsTx x ∧ x ≠ "" := by
  unfold isTx areSg IsTx
  rw [Bool.and_eq_true, Bool.and_eq_true, decide_eq_true_eq, decide_eq_true_eq, signs_iff]
  constructor
  · rintro ⟨⟨a, b⟩, c⟩
    exact ⟨⟨b, by omega⟩, c⟩
  · rintro ⟨⟨b, a⟩, c⟩
    exact ⟨⟨by omega, b⟩, c⟩
theorem line_of {n : Nat} (h : n ≤ 1000000) : n ≤ sizeLine := Nat.le_trans h (by decide)

def spAre (K : PySem.W.Frag) : Sp := fun vs H Q _ => ∃ (v : V) (m : Int), vs = [v, .int m] ∧
  ((∃ x, v = .str x ∧ x.length ≤ sizeLine ∧ Q (.bl (areSg x m)) H) ∨ (NotStr K H v ∧ Q (.bl false) H))
def spIsText (K : PySem.W.Frag) : Sp := fun vs H Q _ => ∃ v : V, vs = [v] ∧
  ((∃ x, v = .str x ∧ x.length ≤ sizeLine ∧ Q (.bl (isTx x)) H) ∨ (NotStr K H v ∧ Q (.bl false) H))
section
variable {P : Program} {w : World} {K : PySem.W.Frag} {mg : Str → Option Value} {base : Heap} {f : Addr} {fd : FuncData} {aK aO aP : Addr}
theorem ok_are_signs (F : Fun K "are_signs" "are_signs" s_are_signs f fd) (T : Txt K mg aK aO aP) : FnOk P w K mg base CX0 1 f fd ["value", "most"] (spAre K) := by
  refine F.ok sc_are_signs (fun vs H Q E h => ?_) (fun cdv A outer s H vs Q E hr h => ?_)
  · obtain ⟨v, m, rfl, _⟩ := h
    rfl
  · obtain ⟨v, m, rfl, h⟩ := h
    refine ⟨_, (pss_one (ps_ret (pe_and (pe_callB call_isi (by rfl) T.b_isinstance (by decide +kernel) (pa_cons (pv 0) (pa_cons (pe_bltn (v := .ty "str") (by rfl) T.b_str (by decide +kernel) rfl) pa_nil))) (pe_and (pe_cmpR op_le (pe_callB call_len_str (by rfl) T.b_len (by decide +kernel) (pa_cons (pv 0) pa_nil)) (pv 1) (nomark _)) (pe_and (pe_m0 PySem.F.slot_str_isascii PySem.F.type_str_isascii mt_isascii (pv 0)) (pe_one (pe_m0 PySem.F.slot_str_isprintable PySem.F.type_str_isprintable mt_isprintable (pv 0)))))))), ?_⟩
    rcases h with ⟨x, rfl, hl, q⟩ | ⟨⟨t, ty, kt⟩, q⟩
    · refine ⟨_, rfl, _, _, _, _, true, rfl, ClsV.ty "str", TyX.base (.str x), kit_ty (by decide +kernel), true, rfl, iteT ?_⟩
      refine ⟨_, rfl, _, rfl, hl, _, rfl, _, _, rfl, rfl, _, rfl, ?_⟩
      unfold areSg at q
      cases e : decide ((x.length : Int) ≤ m) with
      | false =>
        rw [e] at q
        exact iteF q
      | true =>
        rw [e] at q
        refine iteT ⟨_, rfl, ⟨_, rfl⟩, _, rfl, rfl, trivial, _, rfl, ?_⟩
        cases e2 : Txt.isascii x with
        | false =>
          rw [e2] at q
          exact iteF q
        | true =>
          rw [e2] at q
          exact iteT ⟨_, rfl, ⟨_, rfl⟩, _, rfl, rfl, trivial, q⟩
    · exact ⟨_, rfl, _, _, _, _, false, rfl, ClsV.ty "str", ty, kt, false, rfl, iteF q⟩
theorem ok_is_text (F : Fun K "is_text" "is_text" s_is_text f fd) (T : Txt K mg aK aO aP) (D_are_signs : Dfn P w K mg base "are_signs" 1 ["value", "most"] (spAre K)) :
    FnOk P w K mg base CX0 2 f fd ["value"] (spIsText K) := by
  obtain ⟨t0, gT⟩ := T.g_text
  refine F.ok sc_is_text (fun vs H Q E h => ?_) (fun cdv A outer s H vs Q E hr h => ?_)
  · obtain ⟨v, rfl, _⟩ := h
    rfl
  · obtain ⟨v, rfl, h⟩ := h
    refine ⟨_, (pss_one (ps_ret (pe_and (pe_d D_are_signs hr (by decide) (pa_cons (pv 0) (pa_cons (pe_glob (v := .int 100) rfl gT ⟨_, rfl⟩) pa_nil))) (pe_one (pe_cmpR op_ne (pv 0) pe_str (nomark _)))))), ?_⟩
    rcases h with ⟨x, rfl, hl, q⟩ | ⟨ns, q⟩
    · refine ⟨_, rfl, _, _, rfl, .inl ⟨x, rfl, hl, _, rfl, ?_⟩⟩
      unfold isTx at q
      cases e : areSg x 100 with
      | false =>
        rw [e] at q
        exact iteF q
      | true =>
        rw [e] at q
        refine iteT ⟨_, rfl, rfl, ?_⟩
        have e2 : (!decide (V.str x = V.str "")) = decide (x ≠ "") := by
          rw [decide_not]
          congr 1
          simp
        show Q (.bl (!decide (V.str x = V.str ""))) H
        rw [e2]
        exact q
    · exact ⟨_, rfl, _, _, rfl, .inr ⟨ns, _, rfl, iteF q⟩⟩
end
end Bw

namespace Bw
open PySem PySem.Spec L2 TL PyProof.Rows
open NumText (AllDigits digitsVal)

theorem len0 (x : Str) : x.length = (tl x).length := len_tl x
theorem isdigit_eq {x : Str} (h : Sgn (tl x)) : Txt.isdigit x = (decide (tl x ≠ []) && decide (AllDigits (tl x))) := by
  unfold Txt.isdigit
  rw [← Array.all_toList]
  have e1 : decide (x.length > 0) = decide (tl x ≠ []) := by
    congr 1
    rw [len_tl]
    exact propext ⟨fun q e => by rw [e] at q; exact absurd q (by simp), fun q => List.length_pos_iff.mpr q⟩
  have e2 : x.cps.toList.all Unicode.isDigit = decide (AllDigits (tl x)) := by
    rw [Bool.eq_iff_iff, decide_eq_true_eq, List.all_eq_true]
    constructor
    · intro q c hc
      have := q c hc
      rw [digit_sgn c (h.lt c hc)] at this
      exact of_decide_eq_true this
    · intro q c hc
      rw [digit_sgn c (h.lt c hc)]
      exact decide_eq_true (q c hc)
  rw [e1, e2]
theorem cut_from1 (x : Str) : tl (cutS x (some 1) none) = (tl x).tail := by
  show (List.take (HT.sIx x.length x.length none - HT.sIx x.length 0 (some 1)) (List.drop (HT.sIx x.length 0 (some 1)) x.cps.toList)) = _
  cases e : tl x with
  | nil =>
    have e' : x.cps.toList = [] := e
    rw [e']
    simp
  | cons c r =>
    have hl : x.length = r.length + 1 := by rw [len_tl, e]; rfl
    have e' : x.cps.toList = c :: r := e
    have s1 : HT.sIx x.length 0 (some 1) = 1 := by
      unfold HT.sIx
      rw [hl]
      simp
    have s2 : HT.sIx x.length x.length none = r.length + 1 := by
      unfold HT.sIx
      exact hl
    rw [s1, s2, e']
    simp
theorem at0 {x : Str} {c : Nat} {r : List Nat} (e : tl x = c :: r) : atI x.cps.toList 0 = some c := by
  have e' : x.cps.toList = c :: r := e
  rw [e']
  exact atI_nat (j := 0) rfl
theorem tl_one (c : Nat) : tl ⟨#[c]⟩ = [c] := rfl
theorem ne_of_tl {x : Str} (h : x ≠ "") : tl x ≠ [] := fun e => h (ext_tl (by rw [e]; decide +kernel))
theorem of_ne_tl {x : Str} (h : tl x ≠ []) : x ≠ "" := fun e => h (by rw [e]; decide +kernel)
theorem dstr {a b : Str} : decide (V.str a = V.str b) = decide (tl a = tl b) := by
  rw [Bool.eq_iff_iff, decide_eq_true_eq, decide_eq_true_eq]
  exact ⟨fun h => by injection h with h; rw [h], fun h => by rw [ext_tl h]⟩
theorem tl_0 : tl ("0" : Str) = [48] := by decide +kernel
theorem tl_dash : tl ("-" : Str) = [45] := by decide +kernel
theorem tl_m0 : tl ("-0" : Str) = [45, 48] := by decide +kernel
theorem plain_split {l : List Nat} : plainD l = (decide (l ≠ []) && decide (AllDigits l) && (decide (l = [48]) || decide (l.head? ≠ some 48))) := rfl

def spNeed : Sp := fun vs H Q _ => ∃ k : Kd, vs = [.str k.str] ∧ Q .non H
def spPlain : Sp := fun vs H Q _ => ∃ x : Str, vs = [.str x] ∧ Sgn (tl x) ∧ x.length ≤ 100 ∧ Q (.bl (plainD (tl x))) H
def spFitsNum : Sp := fun vs H Q _ => ∃ x : Str, vs = [.str x] ∧ IsTx x ∧ x ≠ "" ∧ Q (.bl (fitNum (tl x))) H
/-- a number or 0, told by signs -/
def plcOf (l : List Nat) : Bool := plainD l && decide ((digitsVal l : Int) ≤ 10 ^ 12)
theorem dv_from (r : List Nat) : ∀ a : Nat, 1 ≤ a → 10 ^ r.length ≤ r.foldl (fun acc c => acc * 10 + (c - 48)) a := by
  induction r with
  | nil => exact fun a h => h
  | cons c r ih =>
    intro a h
    have h1 : 1 ≤ a * 10 + (c - 48) := by omega
    rw [List.foldl_cons, List.length_cons, Nat.pow_succ]
    have h2 : ∀ (r : List Nat) (m n : Nat), n ≤ m → r.foldl (fun acc c => acc * 10 + (c - 48)) n ≤ r.foldl (fun acc c => acc * 10 + (c - 48)) m := by
      intro r
      induction r with
      | nil => exact fun m n z => z
      | cons d r ih2 => exact fun m n z => by rw [List.foldl_cons, List.foldl_cons]; exact ih2 _ _ (by omega)
    have h3 : ∀ (r : List Nat) (a : Nat), 10 ^ r.length * a ≤ r.foldl (fun acc c => acc * 10 + (c - 48)) a := by
      intro r
      induction r with
      | nil => exact fun a => by simp
      | cons d r ih3 =>
        intro a
        rw [List.foldl_cons, List.length_cons, Nat.pow_succ]
        refine Nat.le_trans ?_ (ih3 (a * 10 + (d - 48)))
        rw [Nat.mul_assoc]
        exact Nat.mul_le_mul_left _ (by omega)
    have h4 := h3 r (a * 10 + (c - 48))
    refine Nat.le_trans ?_ h4
    exact Nat.mul_le_mul_left _ (by omega)
theorem long_plain {l : List Nat} (h : plainD l = true) (hl : 13 < l.length) : ¬ ((digitsVal l : Int) ≤ 10 ^ 12) := by
  obtain ⟨h1, h2, h3⟩ := plainD_iff.mp h
  cases e : l with
  | nil => exact absurd e h1
  | cons c r =>
    rw [e] at h2 h3 hl
    rcases h3 with h3 | h3
    · rw [h3] at hl
      exact absurd hl (by decide)
    · have hc : 48 ≤ c ∧ c ≤ 57 := h2 c (List.mem_cons_self ..)
      have hn : c ≠ 48 := fun z => h3 (by rw [z]; rfl)
      have h4 : 10 ^ r.length ≤ digitsVal (c :: r) := by
        unfold digitsVal
        rw [List.foldl_cons]
        exact dv_from r _ (by omega)
      have h5 : 10 ^ 13 ≤ 10 ^ r.length := Nat.pow_le_pow_right (by decide) (by simp at hl; omega)
      intro z
      have z' : digitsVal (c :: r) ≤ 10 ^ 12 := by exact_mod_cast z
      have h6 : (10 : Nat) ^ 12 < 10 ^ 13 := by decide
      omega
theorem link_plc (l : List Nat) : fitLink l = (plcOf l && decide ((digitsVal l : Int) ≠ 0)) := by
  unfold fitLink plcOf
  rw [Bool.and_assoc]
  congr 1
  rw [Bool.eq_iff_iff, Bool.and_eq_true, decide_eq_true_eq, decide_eq_true_eq, decide_eq_true_eq]
  constructor
  · rintro ⟨a, b⟩
    exact ⟨b, by omega⟩
  · rintro ⟨a, b⟩
    exact ⟨by omega, a⟩
def spPlace : Sp := fun vs H Q _ => ∃ x : Str, vs = [.str x] ∧ IsTx x ∧ Q (if plcOf (tl x) then .int (digitsVal (tl x)) else .non) H
def spNumber : Sp := fun vs H Q _ => ∃ x : Str, vs = [.str x] ∧ IsTx x ∧ Q (if fitLink (tl x) then .int (digitsVal (tl x)) else .non) H
def fitsX (k : Kd) (x : Str) : Bool := match k with
  | .number => fitNum (tl x)
  | .flag => decide (x = "yes" ∨ x = "no")
  | .link => fitLink (tl x)
  | .exact => true
  | .text => false
def spFitsX : Sp := fun vs H Q _ => ∃ (k : Kd) (x : Str), vs = [.str k.str, .str x] ∧ IsTx x ∧ x ≠ "" ∧ ∀ H', Same H H' → Q (.bl (fitsX k x)) H'
section
variable {P : Program} {w : World} {K : PySem.W.Frag} {mg : Str → Option Value} {base : Heap} {f : Addr} {fd : FuncData} {aK aO aP : Addr}
theorem inV_kd (k : Kd) : inV (.str k.str) [.str "exact", .str "flag", .str "link", .str "number", .str "text"] = true := by
  cases k <;> decide +kernel
theorem ok_need_kind (F : Fun K "_need_kind" "_need_kind" s_need_kind f fd) (T : Txt K mg aK aO aP) : FnOk P w K mg base CX0 1 f fd ["kind"] spNeed := by
  refine F.ok sc_need_kind (fun vs H Q E h => ?_) (fun cdv A outer s H vs Q E hr h => ?_)
  · obtain ⟨k, rfl, _⟩ := h
    rfl
  · obtain ⟨k, rfl, q⟩ := h
    refine ⟨_, (pss_one (ps_if (pt_cmpR op_notIn_seq (pv 0) (pe_glob (v := .ref aK) rfl T.g_KINDS rfl) rfl) (pss_one ps_never) pss_nil)), ?_⟩
    refine ⟨_, rfl, aK, _, rfl, .inr (T.s_KINDS H), rfl, rfl, false, ?_, iteF q⟩
    rw [inV_kd]
    rfl
theorem ok_are_plain_digits (F : Fun K "are_plain_digits" "are_plain_digits" s_are_plain_digits f fd) : FnOk P w K mg base CX0 1 f fd ["signs"] spPlain := by
  refine F.ok sc_are_plain_digits (fun vs H Q E h => ?_) (fun cdv A outer s H vs Q E hr h => ?_)
  · obtain ⟨x, rfl, _⟩ := h
    rfl
  · obtain ⟨x, rfl, hx, hl, q⟩ := h
    refine ⟨_, (pss_one (ps_ret (pe_and (pe_m0 PySem.F.slot_str_isdigit PySem.F.type_str_isdigit mt_isdigit (pv 0)) (pe_one (pe_or (pe_cmpR op_eq (pv 0) pe_str (nomark _)) (pe_one (pe_cmpR op_ne (pe_ix ix_str (pv 0) pe_int (fun _ _ => rfl)) pe_str (nomark _)))))))), ?_⟩
    refine ⟨_, rfl, ⟨_, rfl⟩, _, rfl, rfl, trivial, _, rfl, ?_⟩
    rw [isdigit_eq hx]
    rw [plain_split] at q
    cases e : (decide (tl x ≠ []) && decide (AllDigits (tl x))) with
    | false =>
      rw [e] at q
      exact iteF q
    | true =>
      rw [e] at q
      refine iteT ⟨_, rfl, rfl, _, rfl, ?_⟩
      rw [dstr, tl_0]
      cases e2 : decide (tl x = [48]) with
      | true =>
        rw [e2] at q
        exact iteT q
      | false =>
        rw [e2] at q
        cases e3 : tl x with
        | nil =>
          rw [e3] at e
          exact absurd e (by decide)
        | cons c r =>
          refine iteF ⟨_, rfl, x, 0, c, rfl, rfl, line_of (by omega), at0 e3, rfl, ?_⟩
          have e4 : (!decide (V.str ⟨#[c]⟩ = V.str "0")) = decide ((tl x).head? ≠ some 48) := by
            rw [dstr, tl_0, tl_one, e3, ← decide_not]
            congr 1
            simp
          show Q (.bl (!decide (V.str ⟨#[c]⟩ = V.str "0"))) H
          rw [e4]
          exact q
theorem ok_fits_number (F : Fun K "_fits_number" "_fits_number" s_fits_number f fd) (T : Txt K mg aK aO aP) (D_are_plain_digits : Dfn P w K mg base "are_plain_digits" 1 ["signs"] spPlain) :
    FnOk P w K mg base CX0 2 f fd ["text"] spFitsNum := by
  obtain ⟨t0, gV⟩ := T.g_value
  refine F.ok sc_fits_number (fun vs H Q E h => ?_) (fun cdv A outer s H vs Q E hr h => ?_)
  · obtain ⟨x, rfl, _⟩ := h
    rfl
  · obtain ⟨x, rfl, hx, hne, q⟩ := h
    have hl := hx.2
    refine ⟨_, (pss_cons (ps_set (i := 1) sc_fits_number.nd rfl (Or.inl rfl) (pe_ifExp (pt_cmpR op_eq (pe_ix ix_str (pv 0) pe_int (fun _ _ => rfl)) pe_str (nomark _)) (pe_slice sl_str (pv 0) (po_some pe_int) po_none) (pv 0))) (pss_one (ps_ret (pe_and (pe_d D_are_plain_digits hr (by decide) (pa_cons (pv 1) pa_nil)) (pe_and (pe_cmpR op_ne (pv 0) pe_str (nomark _)) (pe_one (pe_cmpR op_le (pe_callTy call_int_str (by rfl) T.b_int (by decide +kernel) (pa_cons (pv 1) pa_nil)) (pe_glob (v := .int 1000000000000000) rfl gV ⟨_, rfl⟩) (nomark _)))))))), ?_⟩
    cases e : tl x with
    | nil => exact absurd e (ne_of_tl hne)
    | cons c r =>
      have e5 : decide (V.str ⟨#[c]⟩ = V.str "-") = decide (c = 45) := by
        rw [dstr, tl_dash, tl_one]
        congr 1
        simp
      -- what follows, once digits is known
      have key : ∀ (y : Str), tl y = numPart (tl x) → tAndV (tCall spPlain [] E0 (tCons (tVar 1) tNil)) (tAndV (tOp rNe (tVar 0) (tC (.str "-0"))) (tOp (rI0 fun i j => .bl (decide (i ≤ j))) (tCB (fun xs H Q => ∃ a n, xs = [.str a] ∧ PySem.intText? a = some n ∧ a.length ≤ 640 ∧ Q (.int n) H) (tCons (tVar 1) tNil)) (tC (.int 1000000000000000)))) [some (.str x), some (.str y)] H Q := by
        intro y hy
        have hs : Sgn (tl y) := by
          rw [hy]
          unfold numPart
          split
          · exact fun d hd => hx.1 d (List.mem_of_mem_tail hd)
          · exact hx.1
        have hyl : y.length ≤ 100 := by
          rw [len_tl, hy]
          have e9 := len_tl x
          unfold numPart
          split
          · rw [List.length_tail]
            omega
          · omega
        refine ⟨_, rfl, y, rfl, hs, hyl, _, rfl, ?_⟩
        unfold fitNum at q
        rw [← hy] at q
        cases e6 : plainD (tl y) with
        | false =>
          rw [e6] at q
          exact iteF q
        | true =>
          rw [e6] at q
          refine iteT ⟨_, rfl, rfl, _, rfl, ?_⟩
          rw [dstr, tl_m0]
          have e7 : (!decide (tl x = [45, 48])) = decide (tl x ≠ [45, 48]) := (decide_not).symm
          show if (!decide (tl x = [45, 48])) = true then _ else _
          rw [e7]
          cases e8 : decide (tl x ≠ [45, 48]) with
          | false =>
            rw [e8] at q
            exact iteF q
          | true =>
            rw [e8] at q
            obtain ⟨h1, h2, _⟩ := plainD_iff.mp e6
            exact iteT ⟨_, rfl, y, _, rfl, intText_digits h2 h1 (by omega), by omega, _, _, rfl, rfl, q⟩
      refine ⟨_, rfl, x, 0, c, rfl, rfl, line_of (by omega), at0 e, rfl, _, rfl, ?_⟩
      rw [e5]
      by_cases hc : c = 45
      · rw [decide_eq_true hc]
        refine iteT ⟨_, rfl, _, rfl, x, rfl, line_of (by omega), key _ ?_⟩
        rw [cut_from1]
        unfold numPart
        rw [if_pos (by rw [e, hc]; rfl)]
      · rw [decide_eq_false hc]
        refine iteF ⟨_, rfl, key _ ?_⟩
        unfold numPart
        rw [if_neg (by rw [e]; intro z; exact hc (Option.some.inj z))]
theorem ok_read_place (F : Fun K "read_place" "read_place" s_read_place f fd) (T : Txt K mg aK aO aP) (D_are_plain_digits : Dfn P w K mg base "are_plain_digits" 1 ["signs"] spPlain) :
    FnOk P w K mg base CX0 2 f fd ["signs"] spPlace := by
  obtain ⟨t0, gN⟩ := T.g_number
  refine F.ok sc_read_place (fun vs H Q E h => ?_) (fun cdv A outer s H vs Q E hr h => ?_)
  · obtain ⟨x, rfl, _⟩ := h
    rfl
  · obtain ⟨x, rfl, hx, q⟩ := h
    have hl := hx.2
    refine ⟨_, (pss_cons (ps_if (PW.pt (pw_or (pt_not (pt_val (pe_d D_are_plain_digits hr (by decide) (pa_cons (pv 0) pa_nil)))) (pw_or1 (pt_cmpR op_gt (pe_callB call_len_str (by rfl) T.b_len (by decide +kernel) (pa_cons (pv 0) pa_nil)) (pe_callB call_len_str (by rfl) T.b_len (by decide +kernel) (pa_cons (pe_callTy call_str_int (by rfl) T.b_str (by decide +kernel) (pa_cons (pe_glob (v := .int 1000000000000) rfl gN ⟨_, rfl⟩) pa_nil)) pa_nil)) (nomark _))))) (pss_one (ps_ret pe_non)) pss_nil) (pss_cons (ps_set (i := 1) sc_read_place.nd rfl (Or.inl rfl) (pe_callTy call_int_str (by rfl) T.b_int (by decide +kernel) (pa_cons (pv 0) pa_nil))) (pss_one (ps_ret (pe_ifExp (pt_cmpR op_le (pv 1) (pe_glob (v := .int 1000000000000) rfl gN ⟨_, rfl⟩) (nomark _)) (pv 1) pe_non))))), ?_⟩
    refine ⟨_, rfl, x, rfl, hx.1, hx.2, _, rfl, ?_⟩
    unfold plcOf at q
    cases e6 : plainD (tl x) with
    | false =>
      rw [e6] at q
      exact iteT q
    | true =>
      rw [e6] at q
      obtain ⟨h1, h2, _⟩ := plainD_iff.mp e6
      refine iteF ⟨_, rfl, _, rfl, line_of (by omega), _, rfl, by decide, _, rfl, by decide +kernel, _, _, rfl, rfl, _, rfl, ?_⟩
      have e13 : ((PySem.Str.ofString (toString (1000000000000 : Int))).length : Int) = 13 := by decide +kernel
      rw [e13]
      by_cases h13 : (13 : Int) < (x.length : Int)
      · rw [decide_eq_true h13]
        have hn := long_plain e6 (by have := len_tl x; omega)
        rw [decide_eq_false hn] at q
        exact iteT q
      · rw [decide_eq_false h13]
        refine iteF ⟨_, rfl, x, _, rfl, intText_digits h2 h1 (by omega), by omega, _, rfl, _, _, rfl, rfl, _, rfl, ?_⟩
        have e7 : decide ((digitsVal (tl x) : Int) ≤ 10 ^ 12) = decide ((digitsVal x.cps.toList : Int) ≤ 1000000000000) := rfl
        rw [e7] at q
        by_cases h14 : (digitsVal x.cps.toList : Int) ≤ 1000000000000
        · rw [decide_eq_true h14] at q ⊢
          exact iteT ⟨_, rfl, q⟩
        · rw [decide_eq_false h14] at q ⊢
          exact iteF q
theorem ok_read_number (F : Fun K "read_number" "read_number" s_read_number f fd) (D_read_place : Dfn P w K mg base "read_place" 2 ["signs"] spPlace) :
    FnOk P w K mg base CX0 3 f fd ["signs"] spNumber := by
  refine F.ok sc_read_number (fun vs H Q E h => ?_) (fun cdv A outer s H vs Q E hr h => ?_)
  · obtain ⟨x, rfl, _⟩ := h
    rfl
  · obtain ⟨x, rfl, hx, q⟩ := h
    refine ⟨_, (pss_cons (ps_set (i := 1) sc_read_number.nd rfl (Or.inl rfl) (pe_d D_read_place hr (by decide) (pa_cons (pv 0) pa_nil))) (pss_one (ps_ret (pe_ifExp (pt_cmpR op_eq (pv 1) pe_int (nomark _)) pe_non (pv 1))))), ?_⟩
    refine ⟨_, rfl, x, rfl, hx, ?_⟩
    rw [link_plc] at q
    cases e6 : plcOf (tl x) with
    | false =>
      rw [e6] at q
      exact ⟨_, rfl, rfl, _, rfl, iteF ⟨_, rfl, q⟩⟩
    | true =>
      rw [e6] at q
      refine ⟨_, rfl, rfl, _, rfl, ?_⟩
      by_cases h0 : (digitsVal (tl x) : Int) = 0
      · have h0' : decide (V.int (digitsVal (tl x) : Int) = V.int 0) = true := decide_eq_true (by rw [h0])
        rw [decide_eq_false (not_not_intro h0)] at q
        show if decide (V.int (digitsVal (tl x) : Int) = V.int 0) = true then _ else _
        rw [h0']
        exact iteT q
      · have h0' : decide (V.int (digitsVal (tl x) : Int) = V.int 0) = false := decide_eq_false (fun z => h0 (by injection z))
        rw [decide_eq_true h0] at q
        show if decide (V.int (digitsVal (tl x) : Int) = V.int 0) = true then _ else _
        rw [h0']
        exact iteF ⟨_, rfl, q⟩
theorem ok_fits_exactly (F : Fun K "_fits_exactly" "_fits_exactly" s_fits_exactly f fd) (D_fits_number : Dfn P w K mg base "_fits_number" 2 ["text"] spFitsNum) (D_read_number : Dfn P w K mg base "read_number" 3 ["signs"] spNumber) :
    FnOk P w K mg base CX0 4 f fd ["kind", "text"] spFitsX := by
  refine F.ok sc_fits_exactly (fun vs H Q E h => ?_) (fun cdv A outer s H vs Q E hr h => ?_)
  · obtain ⟨k, x, rfl, _⟩ := h
    rfl
  · obtain ⟨k, x, rfl, hx, hne, q⟩ := h
    refine ⟨_, (pss_cons (ps_if (pt_cmpR op_eq (pv 0) pe_str (nomark _)) (pss_one (ps_ret (pe_d D_fits_number hr (by decide) (pa_cons (pv 1) pa_nil)))) pss_nil) (pss_cons (ps_if (pt_cmpR op_eq (pv 0) pe_str (nomark _)) (pss_one (ps_ret (pe_cmpR op_in_seq (pv 1) (pe_tup (pa_cons pe_str (pa_cons pe_str pa_nil))) rfl))) pss_nil) (pss_cons (ps_if (pt_cmpR op_eq (pv 0) pe_str (nomark _)) (pss_one (ps_ret (pe_cmpR op_notN (pe_d D_read_number hr (by decide) (pa_cons (pv 1) pa_nil)) pe_non (nomark _)))) pss_nil) (pss_one (ps_ret (pe_cmpR op_eq (pv 0) pe_str (nomark _))))))), ?_⟩
    have kk : ∀ a : Kd, decide (V.str k.str = V.str a.str) = decide (k = a) := fun a => by
      rw [Bool.eq_iff_iff, decide_eq_true_eq, decide_eq_true_eq]
      exact ⟨fun z => kd_inj.mp (by injection z), fun z => by rw [z]⟩
    refine ⟨_, rfl, rfl, _, rfl, ?_⟩
    rw [show decide (V.str k.str = V.str "number") = decide (k = .number) from kk .number]
    cases k with
    | number => exact iteT ⟨_, rfl, x, rfl, hx, hne, q H (Same.refl H)⟩
    | flag =>
      refine iteF ⟨_, rfl, rfl, _, rfl, ?_⟩
      refine iteT ⟨_, rfl, by decide, fun p hp => ⟨p, _, rfl, .inr (SqT.of upd_same), rfl, rfl, ?_⟩⟩
      have e : inV (.str x) [.str "yes", .str "no"] = decide (x = "yes" ∨ x = "no") := by
        rw [Bool.eq_iff_iff, decide_eq_true_eq]
        unfold inV
        simp [eqV]
        constructor <;> (intro z; rcases z with z | z <;> simp [z])
      show Q (.bl (inV (.str x) [.str "yes", .str "no"])) _
      rw [e]
      exact q _ fun b o ho => by rw [upd_ne (ne_of_none ho hp)]; exact ho
    | link =>
      refine iteF ⟨_, rfl, rfl, _, rfl, ?_⟩
      refine iteF ⟨_, rfl, rfl, _, rfl, ?_⟩
      refine iteT ⟨_, rfl, x, rfl, hx, ?_⟩
      have q1 : Q (.bl (fitLink (tl x))) H := q H (Same.refl H)
      cases e : fitLink (tl x) with
      | true =>
        rw [e] at q1
        exact ⟨rfl, q1⟩
      | false =>
        rw [e] at q1
        exact ⟨rfl, q1⟩
    | exact =>
      refine iteF ⟨_, rfl, rfl, _, rfl, ?_⟩
      refine iteF ⟨_, rfl, rfl, _, rfl, ?_⟩
      refine iteF ⟨_, rfl, rfl, ?_⟩
      exact q H (Same.refl H)
    | text =>
      refine iteF ⟨_, rfl, rfl, _, rfl, ?_⟩
      refine iteF ⟨_, rfl, rfl, _, rfl, ?_⟩
      refine iteF ⟨_, rfl, rfl, ?_⟩
      exact q H (Same.refl H)
end
end Bw

namespace Bw
open PySem PySem.Spec L2 TL PyProof.Rows
open NumText (AllDigits digitsVal)

theorem same_new {H : Hp} {p : Addr} {o : HO} (h : H p = none) : Same H (upd H p o) := fun b u e => by
  rw [upd_ne (ne_of_none e h)]
  exact e
def spKnown : Sp := fun vs H Q _ => ∃ (k : Kd) (x : Str), vs = [.str k.str, .str x] ∧ IsTx x ∧ x ≠ "" ∧ ∀ H', Same H H' → Q (ov (kform k x)) H'
def spFit (K : PySem.W.Frag) : Sp := fun vs H Q _ => ∃ (k : Kd) (v : V), vs = [.str k.str, v] ∧
  ((∃ x, v = .str x ∧ x.length ≤ sizeLine ∧ ∀ H', Same H H' → Q (.bl (isTx x && (kform k x).isSome)) H') ∨ (NotStr K H v ∧ ∀ H', Same H H' → Q (.bl false) H'))
def spForm (K : PySem.W.Frag) : Sp := fun vs H Q _ => ∃ (k : Kd) (v : V), vs = [.str k.str, v] ∧
  ((∃ x, v = .str x ∧ x.length ≤ sizeLine ∧ ∀ H', Same H H' → Q (.bl (isTx x && decide (kform k x = some x))) H') ∨ (NotStr K H v ∧ ∀ H', Same H H' → Q (.bl false) H'))
/-- the order of forms -/
def lessF (k : Kd) (a b : Str) : Bool := if k = .number then decide (numVal (tl a) < numVal (tl b)) else decide (a.cps.toList < b.cps.toList)
def spLess : Sp := fun vs H Q _ => ∃ (k : Kd) (a b : Str), vs = [.str k.str, .str a, .str b] ∧ (k = .exact ∨ k = .number ∨ k = .text) ∧ IsTx a ∧ a ≠ "" ∧ IsTx b ∧ b ≠ "" ∧ kform k a = some a ∧ kform k b = some b ∧
  ∀ H', Same H H' → Q (.bl (lessF k a b)) H'
theorem NotStr.up {K : PySem.W.Frag} {H H' : Hp} {v : V} (e : Same H H') (h : NotStr K H v) : NotStr K H' v := by
  obtain ⟨t, ty, k⟩ := h
  refine ⟨t, ?_, k⟩
  cases ty with
  | base b =>
    refine .base ?_
    cases b with
    | non => exact .non
    | bl x => exact .bl x
    | int i => exact .int i
    | str x => exact .str x
    | flt x => exact .flt x
    | lst q => exact .lst (e _ _ q)
    | frz q => exact .frz (e _ _ q)
    | tup q => exact .tup (e _ _ q)
    | dK q => exact .dK (e _ _ q)
    | dT q => exact .dT (e _ _ q)
    | ins q cl ha hn htk hm => exact .ins (e _ _ q) cl ha hn htk hm
  | byt b => exact .byt b
  | set q => exact .set (e _ _ q)
  | kList q c => exact .kList q c
  | kTuple q c => exact .kTuple q c
  | kDict q c => exact .kDict q c
  | fTuple q => exact .fTuple (e _ _ q)
  | fDict q => exact .fDict (e _ _ q)
section
variable {P : Program} {w : World} {K : PySem.W.Frag} {mg : Str → Option Value} {base : Heap} {f : Addr} {fd : FuncData} {aK aO aP : Addr}
theorem kform_fits {k : Kd} (hk : k ≠ .text) (x : Str) : kform k x = if fitsX k x = true then some x else none := by
  cases k with
  | text => exact absurd rfl hk
  | exact => rfl
  | number => rfl
  | link => rfl
  | flag =>
    show (if x = "yes" ∨ x = "no" then some x else none) = if decide (x = "yes" ∨ x = "no") = true then some x else none
    by_cases h : x = "yes" ∨ x = "no"
    · rw [if_pos h, if_pos (decide_eq_true h)]
    · rw [if_neg h, if_neg (by rw [decide_eq_false h]; exact Bool.false_ne_true)]
theorem kk (k a : Kd) : decide (V.str k.str = V.str a.str) = decide (k = a) := by
  rw [Bool.eq_iff_iff, decide_eq_true_eq, decide_eq_true_eq]
  exact ⟨fun z => kd_inj.mp (by injection z), fun z => by rw [z]⟩
theorem ok_known_form (F : Fun K "known_form" "known_form" s_known_form f fd) (D_fits_exactly : Dfn P w K mg base "_fits_exactly" 4 ["kind", "text"] spFitsX) :
    FnOk P w K mg base CX0 5 f fd ["kind", "text"] spKnown := by
  refine F.ok sc_known_form (fun vs H Q E h => ?_) (fun cdv A outer s H vs Q E hr h => ?_)
  · obtain ⟨k, x, rfl, _⟩ := h
    rfl
  · obtain ⟨k, x, rfl, hx, hne, q⟩ := h
    have hl := hx.2
    refine ⟨_, (pss_cons (ps_if (pt_cmpR op_ne (pv 0) pe_str (nomark _)) (pss_one (ps_ret (pe_ifExp (pt_val (pe_d D_fits_exactly hr (by decide) (pa_cons (pv 0) (pa_cons (pv 1) pa_nil)))) (pv 1) pe_non))) pss_nil) (pss_cons (ps_set (i := 2) sc_known_form.nd rfl (Or.inl rfl) (pe_join pe_str (pe_words (pe_lower (pv 1))))) (pss_one (ps_ret (pe_ifExp (pt_cmpR op_ne (pv 2) pe_str (nomark _)) (pv 2) pe_non))))), ?_⟩
    refine ⟨_, rfl, rfl, _, rfl, ?_⟩
    rw [show decide (V.str k.str = V.str "text") = decide (k = .text) from kk k .text]
    by_cases hk : k = .text
    · subst hk
      refine iteF ?_
      -- ' '.join(text.lower().split())
      have hz : (Txt.lower x).length ≤ 100 := by
        rw [len_tl, tl_lower hx.1, List.length_map, ← len_tl]
        exact hl
      refine ⟨⟨_, rfl⟩, _, rfl, ⟨_, rfl⟩, _, rfl, rfl, by omega, ⟨_, rfl⟩, _, rfl, rfl, line_of (by omega), fun p hp => ?_⟩
      have hw : ((Txt.words (Txt.lower x)).map (·.length)).sum ≤ 1000 ∧ (Txt.words (Txt.lower x)).length ≤ 101 := by
        have e := words_tl (Txt.lower x)
        have e1 : (Txt.words (Txt.lower x)).map (·.length) = (wordsL (tl (Txt.lower x))).map List.length := by
          unfold wordsL
          rw [← e, List.map_map]
          refine List.map_congr_left fun a _ => ?_
          exact len_tl a
        have e2 := words_le (Txt.lower x)
        refine ⟨?_, by omega⟩
        rw [e1]
        have e3 := wfold_len (tl (Txt.lower x)) ([], [])
        have e4 : wsum ([] : List (List Nat)) = 0 := rfl
        simp only [e4, List.length_nil] at e3
        have e5 : ∀ ws : List (List Nat), (ws.map List.length).sum ≤ wsum ws := fun ws => by
          induction ws with
          | nil => exact Nat.le_refl _
          | cons a r ih =>
            have : wsum (a :: r) = (a.length + 1) + wsum r := by unfold wsum; simp
            rw [List.map_cons, List.sum_cons, this]
            omega
        have e6 := len_tl (Txt.lower x)
        have e7 := e5 ((tl (Txt.lower x)).foldl wstep ([], [])).1
        unfold wordsL wfin
        split
        · omega
        · rw [List.map_append, List.sum_append]
          show _ + ((List.foldl wstep ([], []) (tl (Txt.lower x))).2.length + 0) ≤ 1000
          omega
      refine ⟨" ", p, Txt.words (Txt.lower x), rfl, rfl, .inl (SqL.of upd_same), ?_, ?_⟩
      · have : (" " : Str).length = 1 := by decide +kernel
        rw [this]
        omega
      · refine ⟨_, rfl, rfl, _, rfl, ?_⟩
        have e9 : (!decide (V.str (Txt.join " " (Txt.words (Txt.lower x))) = V.str "")) = !decide (normS x = "") := by
          congr 1
          rw [Bool.eq_iff_iff, decide_eq_true_eq, decide_eq_true_eq]
          exact ⟨fun z => by injection z, fun z => by rw [← z]; rfl⟩
        rw [e9]
        have q1 := q _ (same_new hp (o := .lst ((Txt.words (Txt.lower x)).map V.str)))
        have q2 : Q (ov (if normS x = "" then none else some (normS x))) _ := q1
        by_cases z : normS x = ""
        · rw [if_pos z] at q2
          rw [decide_eq_true z]
          exact iteF q2
        · rw [if_neg z] at q2
          rw [decide_eq_false z]
          exact iteT ⟨_, rfl, q2⟩
    · rw [decide_eq_false hk]
      refine iteT ⟨_, rfl, _, rfl, k, x, rfl, hx, hne, fun H' e => ⟨_, rfl, ?_⟩⟩
      have q1 := q H' e
      rw [kform_fits hk] at q1
      cases z : fitsX k x with
      | true =>
        rw [z, if_pos rfl] at q1
        exact iteT ⟨_, rfl, q1⟩
      | false =>
        rw [z, if_neg Bool.false_ne_true] at q1
        exact iteF q1
theorem ok_form_of (F : Fun K "form_of" "form_of" s_form_of f fd) (D_need_kind : Dfn P w K mg base "_need_kind" 1 ["kind"] spNeed) (D_is_text : Dfn P w K mg base "is_text" 2 ["value"] (spIsText K))
    (D_known_form : Dfn P w K mg base "known_form" 5 ["kind", "text"] spKnown) : FnOk P w K mg base CX0 6 f fd ["kind", "text"] spKnown := by
  refine F.ok sc_form_of (fun vs H Q E h => ?_) (fun cdv A outer s H vs Q E hr h => ?_)
  · obtain ⟨k, x, rfl, _⟩ := h
    rfl
  · obtain ⟨k, x, rfl, hx, hne, q⟩ := h
    have hl := hx.2
    refine ⟨_, (pss_cons (ps_expr (pe_d D_need_kind hr (by decide) (pa_cons (pv 0) pa_nil))) (pss_cons (ps_if (pt_not (pt_val (pe_d D_is_text hr (by decide) (pa_cons (pv 1) pa_nil)))) (pss_one ps_never) pss_nil) (pss_one (ps_ret (pe_d D_known_form hr (by decide) (pa_cons (pv 0) (pa_cons (pv 1) pa_nil))))))), ?_⟩
    refine ⟨_, rfl, k, rfl, ?_⟩
    refine ⟨_, rfl, _, rfl, .inl ⟨x, rfl, line_of (by omega), _, rfl, ?_⟩⟩
    rw [(isTx_iff x).mpr ⟨hx, hne⟩]
    exact iteF ⟨_, rfl, _, rfl, k, x, rfl, hx, hne, q⟩
theorem ok_is_fit (F : Fun K "is_fit" "is_fit" s_is_fit f fd) (D_need_kind : Dfn P w K mg base "_need_kind" 1 ["kind"] spNeed) (D_is_text : Dfn P w K mg base "is_text" 2 ["value"] (spIsText K))
    (D_known_form : Dfn P w K mg base "known_form" 5 ["kind", "text"] spKnown) : FnOk P w K mg base CX0 6 f fd ["kind", "value"] (spFit K) := by
  refine F.ok sc_is_fit (fun vs H Q E h => ?_) (fun cdv A outer s H vs Q E hr h => ?_)
  · obtain ⟨k, v, rfl, _⟩ := h
    rfl
  · obtain ⟨k, v, rfl, h⟩ := h
    refine ⟨_, (pss_cons (ps_expr (pe_d D_need_kind hr (by decide) (pa_cons (pv 0) pa_nil))) (pss_one (ps_ret (pe_and (pe_d D_is_text hr (by decide) (pa_cons (pv 1) pa_nil)) (pe_one (pe_cmpR op_notN (pe_d D_known_form hr (by decide) (pa_cons (pv 0) (pa_cons (pv 1) pa_nil))) pe_non (nomark _))))))), ?_⟩
    refine ⟨_, rfl, k, rfl, ?_⟩
    rcases h with ⟨x, rfl, hl, q⟩ | ⟨ns, q⟩
    · refine ⟨_, rfl, _, rfl, .inl ⟨x, rfl, hl, _, rfl, ?_⟩⟩
      cases e : isTx x with
      | false =>
        rw [e] at q
        exact iteF (q H (Same.refl H))
      | true =>
        rw [e] at q
        obtain ⟨hx, hne⟩ := (isTx_iff x).mp e
        refine iteT ⟨_, rfl, _, rfl, k, x, rfl, hx, hne, fun H' e' => ⟨rfl, ?_⟩⟩
        have q1 := q H' e'
        cases z : kform k x with
        | none =>
          rw [z] at q1
          exact q1
        | some y =>
          rw [z] at q1
          exact q1
    · exact ⟨_, rfl, _, rfl, .inr ⟨ns, _, rfl, iteF (q H (Same.refl H))⟩⟩
theorem scal_ov (o : Option Str) (x : Str) : scal (ov o) (.str x) = true := by cases o <;> rfl
theorem dec_ov (o : Option Str) (x : Str) : decide (ov o = V.str x) = decide (o = some x) := by
  rw [Bool.eq_iff_iff, decide_eq_true_eq, decide_eq_true_eq]
  exact ov_inj (b := some x)
theorem ok_is_form (F : Fun K "is_form" "is_form" s_is_form f fd) (D_need_kind : Dfn P w K mg base "_need_kind" 1 ["kind"] spNeed) (D_is_text : Dfn P w K mg base "is_text" 2 ["value"] (spIsText K))
    (D_known_form : Dfn P w K mg base "known_form" 5 ["kind", "text"] spKnown) : FnOk P w K mg base CX0 6 f fd ["kind", "value"] (spForm K) := by
  refine F.ok sc_is_form (fun vs H Q E h => ?_) (fun cdv A outer s H vs Q E hr h => ?_)
  · obtain ⟨k, v, rfl, _⟩ := h
    rfl
  · obtain ⟨k, v, rfl, h⟩ := h
    refine ⟨_, (pss_cons (ps_expr (pe_d D_need_kind hr (by decide) (pa_cons (pv 0) pa_nil))) (pss_one (ps_ret (pe_and (pe_d D_is_text hr (by decide) (pa_cons (pv 1) pa_nil)) (pe_one (pe_cmpR op_eq (pe_d D_known_form hr (by decide) (pa_cons (pv 0) (pa_cons (pv 1) pa_nil))) (pv 1) (nomark _))))))), ?_⟩
    refine ⟨_, rfl, k, rfl, ?_⟩
    rcases h with ⟨x, rfl, hl, q⟩ | ⟨ns, q⟩
    · refine ⟨_, rfl, _, rfl, .inl ⟨x, rfl, hl, _, rfl, ?_⟩⟩
      cases e : isTx x with
      | false =>
        rw [e] at q
        exact iteF (q H (Same.refl H))
      | true =>
        rw [e] at q
        obtain ⟨hx, hne⟩ := (isTx_iff x).mp e
        refine iteT ⟨_, rfl, _, rfl, k, x, rfl, hx, hne, fun H' e' => ⟨_, rfl, scal_ov _ _, ?_⟩⟩
        rw [dec_ov]
        exact q H' e'
    · exact ⟨_, rfl, _, rfl, .inr ⟨ns, _, rfl, iteF (q H (Same.refl H))⟩⟩
theorem inV_ord {k : Kd} (h : k = .exact ∨ k = .number ∨ k = .text) : inV (.str k.str) [.str "exact", .str "number", .str "text"] = true := by
  rcases h with rfl | rfl | rfl <;> decide +kernel
theorem int_of_fit {x : Str} (hx : IsTx x) (h : kform .number x = some x) : intText? x = some (numVal (tl x)) := by
  have h' : (if fitNum (tl x) then some x else none) = some x := h
  split at h'
  · rename_i z
    unfold fitNum at z
    rw [Bool.and_eq_true, Bool.and_eq_true] at z
    obtain ⟨h1, h2, _⟩ := plainD_iff.mp z.1.1
    exact int_of h1 h2 hx.2
  · cases h'
def spKey : Sp := fun vs H Q _ => ∃ (k : Kd) (a : Str), vs = [.str k.str, .str a] ∧ IsTx a ∧ kform k a = some a ∧ Q (if k = .number then .int (numVal (tl a)) else .str a) H
theorem op_ltK {X : Cx} : OpR X (compareOp .Lt) (fun x y H Q => (∃ i j, x = .int i ∧ y = .int j ∧ Q (.bl (decide (i < j))) H) ∨ (∃ i j, x = .str i ∧ y = .str j ∧ Q (.bl (decide (i.cps.toList < j.cps.toList))) H)) := by
  intro pins s σ H x y v u Q I rx ry h
  rcases h with h | h
  · exact op_lt pins s σ H x y v u Q I rx ry h
  · exact op_lt_str pins s σ H x y v u Q I rx ry h
theorem ok_order_key (F : Fun K "order_key" "order_key" s_order_key f fd) (T : Txt K mg aK aO aP) : FnOk P w K mg base CX0 1 f fd ["kind", "form"] spKey := by
  refine F.ok sc_order_key (fun vs H Q E h => ?_) (fun cdv A outer s H vs Q E hr h => ?_)
  · obtain ⟨k, a, rfl, _⟩ := h
    rfl
  · obtain ⟨k, a, rfl, ha, fa, q⟩ := h
    have hal := ha.2
    refine ⟨_, (pss_one (ps_ret (pe_ifExp (pt_cmpR op_eq (pv 0) pe_str (nomark _)) (pe_callTy call_int_str (by rfl) T.b_int (by decide +kernel) (pa_cons (pv 1) pa_nil)) (pv 1)))), ?_⟩
    refine ⟨_, rfl, rfl, _, rfl, ?_⟩
    rw [show decide (V.str k.str = V.str "number") = decide (k = .number) from kk k .number]
    by_cases hn : k = .number
    · subst hn
      rw [if_pos rfl] at q
      rw [decide_eq_true rfl]
      exact iteT ⟨_, rfl, a, _, rfl, int_of_fit ha fa, by omega, q⟩
    · rw [if_neg hn] at q
      rw [decide_eq_false hn]
      exact iteF ⟨_, rfl, q⟩
theorem ok_is_less (F : Fun K "is_less" "is_less" s_is_less f fd) (T : Txt K mg aK aO aP) (D_need_kind : Dfn P w K mg base "_need_kind" 1 ["kind"] spNeed) (D_is_form : Dfn P w K mg base "is_form" 6 ["kind", "value"] (spForm K)) (D_order_key : Dfn P w K mg base "order_key" 1 ["kind", "form"] spKey) :
    FnOk P w K mg base CX0 7 f fd ["kind", "one", "other"] spLess := by
  refine F.ok sc_is_less (fun vs H Q E h => ?_) (fun cdv A outer s H vs Q E hr h => ?_)
  · obtain ⟨k, a, b, rfl, _⟩ := h
    rfl
  · obtain ⟨k, a, b, rfl, hk, ha, ha0, hb, hb0, fa, fb, q⟩ := h
    have hal := ha.2
    have hbl := hb.2
    refine ⟨_, (pss_cons (ps_expr (pe_d D_need_kind hr (by decide) (pa_cons (pv 0) pa_nil))) (pss_cons (ps_if (pt_cmpR op_notIn_seq (pv 0) (pe_glob (v := .ref aO) rfl T.g_ORDERED rfl) rfl) (pss_one ps_never) pss_nil) (pss_cons (ps_for PassesOwn.never rfl (pi_tup (pe_tup (pa_cons (pv 1) (pa_cons (pv 2) pa_nil)))) (pg_name (i := 3) sc_is_less.nd rfl (Or.inl rfl)) (pss_one (ps_if (pt_not (pt_val (pe_d D_is_form hr (by decide) (pa_cons (pv 0) (pa_cons (pv 3) pa_nil))))) (pss_one ps_never) pss_nil))) (pss_one (ps_ret (pe_cmpR op_ltK (pe_d D_order_key hr (by decide) (pa_cons (pv 0) (pa_cons (pv 1) pa_nil))) (pe_d D_order_key hr (by decide) (pa_cons (pv 0) (pa_cons (pv 2) pa_nil))) (nomark _))))))), ?_⟩
    refine ⟨_, rfl, k, rfl, ?_⟩
    refine ⟨_, rfl, aO, _, rfl, .inr (T.s_ORDERED H), rfl, rfl, _, rfl, ?_⟩
    rw [inV_ord hk]
    refine iteF ⟨_, rfl, _, rfl, (by show 2 ≤ sizeLine; decide), fun p hp => ?_⟩
    refine ⟨p, rfl, ⟨_, SqT.of upd_same⟩, for_tup (K := K) (a := p) (xs := [.str a, .str b]) (fun i σ H' => (∃ u : Option V, σ = [some (.str k.str), some (.str a), some (.str b), u]) ∧ Same H H' ∧ H' p = some (.tup [.str a, .str b]))
      ⟨⟨none, rfl⟩, same_new hp, upd_same⟩ (fun i σ H' _ h => SqT.of h.2.2) ?_ ?_⟩
    · rintro i y σ H' hi ⟨⟨u, rfl⟩, sm, hH⟩
      obtain ⟨z, rfl, hz, hz0, hzf⟩ : ∃ z, y = .str z ∧ IsTx z ∧ z ≠ "" ∧ kform k z = some z := by
        match i, hi with
        | 0, hi => exact ⟨a, (Option.some.inj hi).symm, ha, ha0, fa⟩
        | 1, hi => exact ⟨b, (Option.some.inj hi).symm, hb, hb0, fb⟩
        | i + 2, hi => exact absurd hi (by simp)
      have hzl := hz.2
      refine ⟨_, rfl, _, rfl, k, _, rfl, .inl ⟨z, rfl, line_of (by omega), fun H2 e2 => ⟨_, rfl, ?_⟩⟩⟩
      rw [(isTx_iff z).mpr ⟨hz, hz0⟩, decide_eq_true hzf]
      exact iteF ⟨⟨_, rfl⟩, sm.trans e2, e2 _ _ hH⟩
    · rintro σ H' ⟨⟨u, rfl⟩, sm, hH⟩
      have q1 := q H' sm
      unfold lessF at q1
      refine ⟨_, rfl, _, rfl, k, a, rfl, ha, fa, _, rfl, _, rfl, k, b, rfl, hb, fb, ?_⟩
      by_cases hn : k = .number
      · rw [if_pos hn] at q1
        rw [if_pos hn, if_pos hn]
        exact .inl ⟨_, _, rfl, rfl, q1⟩
      · rw [if_neg hn] at q1
        rw [if_neg hn, if_neg hn]
        exact .inr ⟨_, _, rfl, rfl, q1⟩
end
end Bw

set_option exponentiation.threshold 4000
namespace Bw
open PySem PySem.Spec L2 TL PyProof.Rows
open NumText (AllDigits digitsVal)

/-! ### the law's dice -/
def DiceAt (H : Hp) (d : Addr) : Prop := ∃ a b c : Int, H d = some (.lst [.int a, .int b, .int c])
/-- all but the dice is as it was -/
def Moved (d : Addr) (H H' : Hp) : Prop := (∀ b o, b ≠ d → H b = some o → H' b = some o) ∧ DiceAt H' d
theorem Moved.trans {d : Addr} {H H1 H2 : Hp} (a : Moved d H H1) (b : Moved d H1 H2) : Moved d H H2 := ⟨fun x o n h => b.1 x o n (a.1 x o n h), b.2⟩
theorem Moved.same {d : Addr} {H H1 : Hp} (h : DiceAt H d) (a : Same H H1) : Moved d H H1 := ⟨fun x o _ h => a x o h, by
  obtain ⟨x, y, z, e⟩ := h
  exact ⟨x, y, z, a _ _ e⟩⟩
theorem Moved.refl {d : Addr} {H : Hp} (h : DiceAt H d) : Moved d H H := Moved.same h (Same.refl H)
theorem DiceAt.same {d : Addr} {H H1 : Hp} (h : DiceAt H d) (a : Same H H1) : DiceAt H1 d := (Moved.same h a).2
theorem DiceAt.ne {d p : Addr} {H : Hp} (h : DiceAt H d) (hp : H p = none) : d ≠ p := by
  obtain ⟨x, y, z, e⟩ := h
  exact ne_of_none e hp
theorem moved_upd {d : Addr} {H : Hp} {a b c : Int} : Moved d H (upd H d (.lst [.int a, .int b, .int c])) := ⟨fun x o n h => by rw [upd_ne n]; exact h, a, b, c, upd_same⟩

def spDice (K : PySem.W.Frag) : Sp := fun vs H Q _ => ∃ (a : Addr) (ns : List Int) (i : Nat), vs = [.ref a, .int i] ∧ SqL K H a (ns.map V.int) ∧
  ∀ p H', H p = none → Same H H' → DiceAt H' p → Q (.ref p) H'
def spRoll : Sp := fun vs H Q _ => ∃ (d : Addr) (n : Int), vs = [.ref d, .int n] ∧ 0 < n ∧ n < 1000000000 ∧ DiceAt H d ∧
  ∀ (r : Int) H', 0 ≤ r → r < n → Moved d H H' → Q (.int r) H'
def spOne : Sp := fun vs H Q _ => ∃ (d l : Addr) (xs : List V), vs = [.ref d, .ref l] ∧ H l = some (.lst xs) ∧ l ≠ d ∧ xs ≠ [] ∧ xs.length < 1000000000 ∧ DiceAt H d ∧
  ∀ v H', v ∈ xs → Moved d H H' → Q v H'
section
variable {P : Program} {w : World} {K : PySem.W.Frag} {mg : Str → Option Value} {base : Heap} {f : Addr} {fd : FuncData} {aK aO aP : Addr}
theorem pow60 : ((10 : Int) ^ (60 : Int).toNat) = 10 ^ 60 := rfl
theorem ok_law_dice (F : Fun K "_law_dice" "_law_dice" s_law_dice f fd) (T : Txt K mg aK aO aP) : FnOk P w K mg base CX0 1 f fd ["_law_script", "_law_at"] (spDice K) := by
  refine F.ok sc_law_dice (fun vs H Q E h => ?_) (fun cdv A outer s H vs Q E hr h => ?_)
  · obtain ⟨a, ns, i, rfl, _⟩ := h
    rfl
  · obtain ⟨a, ns, i, rfl, hS, q⟩ := h
    refine ⟨_, (pss_cons (ps_set (i := 2) sc_law_dice.nd rfl (Or.inl rfl) (pe_op op_add (pe_op op_mul pe_int (pv 1)) pe_int)) (pss_cons (ps_if (pt_cmpR op_lt (pv 1) (pe_callB call_len_seq (by rfl) T.b_len (by decide +kernel) (pa_cons (pv 0) pa_nil)) (nomark _)) (pss_one (ps_set (i := 2) sc_law_dice.nd rfl (Or.inl rfl) (pe_ix ix_list (pv 0) (pv 1) (fun _ _ => rfl)))) pss_nil) (pss_cons (ps_set (i := 3) sc_law_dice.nd rfl (Or.inl rfl) (pe_op op_mod (pe_callTy call_int1 (by rfl) T.b_int (by decide +kernel) (pa_cons (pe_callB call_abs (by rfl) T.b_abs (by decide +kernel) (pa_cons (pv 2) pa_nil)) pa_nil)) (pe_op op_powW (pe_op op_pow pe_int pe_int) pe_int))) (pss_cons (ps_set (i := 4) sc_law_dice.nd rfl (Or.inl rfl) (pe_op op_fdivW (pv 3) (pe_op op_pow pe_int pe_int))) (pss_cons (ps_set (i := 5) sc_law_dice.nd rfl (Or.inl rfl) (pe_op op_add (pe_op op_add (pe_op op_add (pe_op op_mul (pe_op op_mod (pv 3) pe_int) pe_int) (pe_op op_mul pe_int (pv 1))) (pe_op op_mul pe_int (pe_callTy call_int1 (by rfl) T.b_int (by decide +kernel) (pa_cons (pe_cmpR op_lt (pv 2) pe_int (nomark _)) pa_nil)))) pe_int)) (pss_one (ps_ret (pe_lst (pa_cons (pv 4) (pa_cons (pe_op op_mod (pv 5) pe_int) (pa_cons pe_int pa_nil))))))))))), ?_⟩
    refine ⟨_, rfl, _, _, rfl, rfl, .inl ⟨by decide, by decide⟩, _, _, rfl, rfl, ?_⟩
    refine ⟨_, rfl, _, rfl, a, _, rfl, .inl hS, _, _, rfl, rfl, _, rfl, ?_⟩
    have hp60 : CPow 10 60 := ⟨by decide, by decide, by decide⟩
    have hp18 : CPow 10 18 := ⟨by decide, by decide, by decide⟩
    have hpW : CPowW ((10 : Int) ^ (60 : Int).toNat) 10 := ⟨by decide, by decide +kernel⟩
    have hps : (0 : Int) < ((10 : Int) ^ (60 : Int).toNat) ^ (10 : Int).toNat := by decide +kernel
    have hdW : ∀ g : Int, CDivW g ((10 : Int) ^ (18 : Int).toNat) := fun g => ⟨by decide +kernel, by decide +kernel⟩
    refine ite2 (fun hc => ?_) (fun _ => ?_)
    · have hlt : i < ns.length := by
        have := of_decide_eq_true hc
        rw [List.length_map] at this
        omega
      refine ⟨_, rfl, _, rfl, a, _, _, _, rfl, rfl, hS, atI_nat (j := i) (v := .int ns[i]) (by simp [hlt]), ?_⟩
      refine ⟨_, rfl, _, rfl, .inl ⟨_, rfl, _, _, rfl, rfl, hp60, _, _, rfl, rfl, hpW, _, _, rfl, rfl, hps, ?_⟩⟩
      refine ⟨_, rfl, _, _, rfl, rfl, hp18, _, _, rfl, rfl, hdW _, ?_⟩
      refine ⟨_, rfl, _, _, rfl, rfl, (by show (0 : Int) < 2147482763; decide), _, _, rfl, rfl, .inr ⟨by decide, by decide⟩, _, rfl, _, _, rfl, rfl, .inl ⟨by decide, by decide⟩, _, _, rfl, rfl, _, rfl, _, _, rfl, rfl, .inr ⟨_, rfl, _, _, rfl, rfl, .inl ⟨by decide, by decide⟩, _, _, rfl, rfl, _, _, rfl, rfl, ?_⟩⟩
      exact ⟨_, rfl, _, rfl, _, _, rfl, rfl, (by show (0 : Int) < 2147482739; decide), (by show 3 ≤ sizeLine; decide), fun p hp => q p _ hp (same_new hp) ⟨_, _, _, upd_same⟩⟩
    · refine ⟨_, rfl, _, rfl, .inl ⟨_, rfl, _, _, rfl, rfl, hp60, _, _, rfl, rfl, hpW, _, _, rfl, rfl, hps, ?_⟩⟩
      refine ⟨_, rfl, _, _, rfl, rfl, hp18, _, _, rfl, rfl, hdW _, ?_⟩
      refine ⟨_, rfl, _, _, rfl, rfl, (by show (0 : Int) < 2147482763; decide), _, _, rfl, rfl, .inr ⟨by decide, by decide⟩, _, rfl, _, _, rfl, rfl, .inl ⟨by decide, by decide⟩, _, _, rfl, rfl, _, rfl, _, _, rfl, rfl, .inr ⟨_, rfl, _, _, rfl, rfl, .inl ⟨by decide, by decide⟩, _, _, rfl, rfl, _, _, rfl, rfl, ?_⟩⟩
      exact ⟨_, rfl, _, rfl, _, _, rfl, rfl, (by show (0 : Int) < 2147482739; decide), (by show 3 ≤ sizeLine; decide), fun p hp => q p _ hp (same_new hp) ⟨_, _, _, upd_same⟩⟩
theorem emod_nn (a : Int) {n : Int} (h : 0 < n) : 0 ≤ a % n ∧ a % n < n := ⟨Int.emod_nonneg a (by omega), Int.emod_lt_of_pos a h⟩
theorem ok_law_roll (F : Fun K "_law_roll" "_law_roll" s_law_roll f fd) (T : Txt K mg aK aO aP) : FnOk P w K mg base CX0 1 f fd ["_law_dice_here", "_law_total"] spRoll := by
  refine F.ok sc_law_roll (fun vs H Q E h => ?_) (fun cdv A outer s H vs Q E hr h => ?_)
  · obtain ⟨d, n, rfl, _⟩ := h
    rfl
  · obtain ⟨d, n, rfl, h0, h1, ⟨a, b, c, hd⟩, q⟩ := h
    refine ⟨_, (pss_cons (ps_set (i := 2) sc_law_roll.nd rfl (Or.inl rfl) (pe_callTy call_int1 (by rfl) T.b_int (by decide +kernel) (pa_cons (pv 1) pa_nil))) (pss_cons (ps_if (pt_cmpR op_gt (pe_ix ix_list (pv 0) pe_int (fun _ _ => rfl)) pe_int (nomark _)) (pss_cons (ps_set (i := 3) sc_law_roll.nd rfl (Or.inl rfl) (pe_op op_mod (pe_ix ix_list (pv 0) pe_int (fun _ _ => rfl)) (pv 2))) (pss_cons (ps_asg (pe_op op_fdiv (pe_ix ix_list (pv 0) pe_int (fun _ _ => rfl)) (pv 2)) (pg_sub (pv 0) pe_int set_list)) (pss_one (ps_ret (pe_callTy call_int1 (by rfl) T.b_int (by decide +kernel) (pa_cons (pv 3) pa_nil)))))) pss_nil) (pss_cons (ps_asg (pe_op op_add (pe_ix ix_list (pv 0) pe_int (fun _ _ => rfl)) pe_int) (pg_sub (pv 0) pe_int set_list)) (pss_cons (ps_set (i := 4) sc_law_roll.nd rfl (Or.inl rfl) (pe_op op_mod (pe_op op_add (pe_ix ix_list (pv 0) pe_int (fun _ _ => rfl)) (pe_op op_mul pe_int (pe_ix ix_list (pv 0) pe_int (fun _ _ => rfl)))) pe_int)) (pss_cons (ps_set (i := 5) sc_law_roll.nd rfl (Or.inl rfl) (pe_op op_add (pe_op op_mul (pe_op op_mod (pe_op op_mul (pv 4) (pv 4)) pe_int) (pv 4)) (pe_op op_mul pe_int (pe_ix ix_list (pv 0) pe_int (fun _ _ => rfl))))) (pss_cons (ps_set (i := 5) sc_law_roll.nd rfl (Or.inl rfl) (pe_op op_mod (pv 5) pe_int)) (pss_one (ps_ret (pe_callTy call_int1 (by rfl) T.b_int (by decide +kernel) (pa_cons (pe_op op_mod (pe_op op_fdiv (pv 5) pe_int) (pv 2)) pa_nil)))))))))), ?_⟩
    refine ⟨_, rfl, .inl ⟨_, rfl, ?_⟩⟩
    refine ⟨_, rfl, d, _, _, _, rfl, rfl, SqL.of hd, atI_nat (j := 0) rfl, _, _, rfl, rfl, _, rfl, ?_⟩
    refine ite2 (fun hc => ?_) (fun _ => ?_)
    · refine ⟨_, rfl, d, _, _, _, rfl, rfl, SqL.of hd, atI_nat (j := 0) rfl, _, rfl, _, _, rfl, rfl, h0, ?_⟩
      refine ⟨_, rfl, d, _, _, _, rfl, rfl, SqL.of hd, atI_nat (j := 0) rfl, _, rfl, _, _, rfl, rfl, ⟨h0, by omega⟩, ?_⟩
      refine ⟨_, rfl, d, _, _, 0, rfl, rfl, hd, rfl, ?_⟩
      obtain ⟨e1, e2⟩ := emod_nn a h0
      exact ⟨_, rfl, .inl ⟨_, rfl, q _ _ e1 e2 moved_upd⟩⟩
    · refine ⟨_, rfl, d, _, _, _, rfl, rfl, SqL.of hd, atI_nat (j := 2) rfl, _, _, rfl, rfl, ?_⟩
      refine ⟨_, rfl, d, _, _, 2, rfl, rfl, hd, rfl, ?_⟩
      have hd2 : upd H d (.lst [.int a, .int b, .int (c + 1)]) d = some (.lst [.int a, .int b, .int (c + 1)]) := upd_same
      refine ⟨_, rfl, d, _, _, _, rfl, rfl, SqL.of upd_same, atI_nat (j := 1) rfl, _, rfl, d, _, _, _, rfl, rfl, SqL.of upd_same, atI_nat (j := 2) rfl, _, _, rfl, rfl, .inl ⟨by decide, by decide⟩, _, _, rfl, rfl, _, _, rfl, rfl, (by show (0 : Int) < 2305843009213693951; decide), ?_⟩
      obtain ⟨e1, e2⟩ := emod_nn (b + 1000357 * (c + 1)) (n := 2305843009213693951) (by decide)
      refine ⟨_, rfl, _, rfl, _, _, rfl, rfl, .inl ⟨by omega, by omega⟩, _, _, rfl, rfl, (by show (0 : Int) < 2305843009213693921; decide), _, rfl, _, _, rfl, rfl, .inr ⟨by omega, by omega⟩, _, rfl, d, _, _, _, rfl, rfl, SqL.of upd_same, atI_nat (j := 2) rfl, _, _, rfl, rfl, .inl ⟨by decide, by decide⟩, _, _, rfl, rfl, ?_⟩
      refine ⟨_, rfl, _, _, rfl, rfl, (by show (0 : Int) < 2305843009213693907; decide), ?_⟩
      refine ⟨_, rfl, _, _, rfl, rfl, ⟨by decide, by decide⟩, _, rfl, _, _, rfl, rfl, h0, .inl ⟨_, rfl, ?_⟩⟩
      exact q _ _ (emod_nn _ h0).1 (emod_nn _ h0).2 moved_upd
theorem ok_law_one_of (F : Fun K "_law_one_of" "_law_one_of" s_law_one_of f fd) (T : Txt K mg aK aO aP) (D_law_roll : Dfn P w K mg base "_law_roll" 1 ["_law_dice_here", "_law_total"] spRoll) :
    FnOk P w K mg base CX0 2 f fd ["_law_dice_here", "_law_items"] spOne := by
  refine F.ok sc_law_one_of (fun vs H Q E h => ?_) (fun cdv A outer s H vs Q E hr h => ?_)
  · obtain ⟨d, l, xs, rfl, _⟩ := h
    rfl
  · obtain ⟨d, l, xs, rfl, hl, nld, hne, hlen, hd, q⟩ := h
    have hpos : 0 < xs.length := List.length_pos_iff.mpr hne
    refine ⟨_, (pss_one (ps_ret (pe_ix ix_list (pv 1) (pe_d D_law_roll hr (by decide) (pa_cons (pv 0) (pa_cons (pe_callB call_len_seq (by rfl) T.b_len (by decide +kernel) (pa_cons (pv 1) pa_nil)) pa_nil))) (fun _ _ => rfl)))), ?_⟩
    refine ⟨_, rfl, _, rfl, _, rfl, l, _, rfl, .inl (SqL.of hl), d, _, rfl, by omega, by omega, hd, fun r H1 r0 r1 mv => ?_⟩
    obtain ⟨j, rfl⟩ := Int.eq_ofNat_of_zero_le r0
    have hj : j < xs.length := by omega
    exact ⟨l, xs, _, xs[j], rfl, rfl, SqL.of (mv.1 l _ nld hl), atI_nat (by simp [hj]), q _ _ (List.getElem_mem hj) mv⟩
end
end Bw

namespace Bw
open PySem PySem.Spec L2 TL PyProof.Rows
open NumText (AllDigits digitsVal)

/-! ### lists of texts as data -/
def strD (l : List Str) : PyData := .list (l.map .str)
theorem dpAll_strs {K : PySem.W.Frag} {H : Hp} : ∀ l : List Str, DpAll K H (l.map V.str) (l.map PyData.str)
  | [] => .nil
  | x :: r => .cons (.str x) (dpAll_strs r)
theorem dp_strs {K : PySem.W.Frag} {H : Hp} {a : Addr} {l : List Str} (h : SqL K H a (l.map V.str)) : Dp K H (.ref a) (strD l) := .lst h (dpAll_strs l)
theorem dp_nil {K : PySem.W.Frag} {H : Hp} {a : Addr} (h : H a = some (.lst [])) : Dp K H (.ref a) (.list []) := .lst (SqL.of h) .nil
theorem lay_strs : ∀ l : List Str, (∀ x ∈ l, PyData.strOk x = true) → PyData.canLayAll0 (l.map PyData.str) = true
  | [], _ => rfl
  | x :: r, h => by
    show (PyData.strOk x && PyData.canLayAll0 (r.map PyData.str)) = true
    rw [lay_strs r fun y hy => h y (List.mem_cons_of_mem _ hy), h x (List.mem_cons_self ..)]
    rfl
theorem depth_strs : ∀ l : List Str, PyData.depthAll (l.map PyData.str) = 0
  | [] => rfl
  | x :: r => by
    show max (PyData.depth (.str x)) (PyData.depthAll (r.map PyData.str)) = 0
    rw [depth_strs r]
    rfl
theorem shaped_strs {l : List Str} (h : ∀ x ∈ l, PyData.strOk x = true) : SeqAt.shaped (strD l) = true := by
  unfold SeqAt.shaped strD
  rw [Bool.and_eq_true, decide_eq_true_eq]
  refine ⟨lay_strs l h, ?_⟩
  show PyData.depthAll (l.map PyData.str) + 1 ≤ 64
  rw [depth_strs]
  decide
theorem eqv_nil (l : List Str) : PyData.eqv (strD l) (.list []) = l.isEmpty := by
  cases l <;> simp [strD, PyData.eqv, PyData.eqvAll]
theorem strOk_sgn {x : Str} (h : Sgn (tl x)) : PyData.strOk x = true := by
  unfold PyData.strOk
  rw [← Array.all_toList, List.all_eq_true]
  intro c hc
  have := h c hc
  exact decide_eq_true (by omega)
theorem cut_to1 (x : Str) : tl (cutS x none (some 1)) = (tl x).take 1 := by
  show (List.take (HT.sIx x.length x.length (some 1) - HT.sIx x.length 0 none) (List.drop (HT.sIx x.length 0 none) x.cps.toList)) = _
  cases e : tl x with
  | nil =>
    have e' : x.cps.toList = [] := e
    rw [e']
    simp
  | cons c r =>
    have hl : x.length = r.length + 1 := by rw [len_tl, e]; rfl
    have e' : x.cps.toList = c :: r := e
    have s1 : HT.sIx x.length x.length (some 1) = 1 := by
      unfold HT.sIx
      rw [hl]
      simp
    have s2 : HT.sIx x.length 0 none = 0 := rfl
    rw [s1, s2, e']
    rfl
def oi : Option Int → V
  | none => .non
  | some n => .int n
def notDigit (c : Nat) : Bool := !decide (c ∈ (Str.cps ("0123456789" : Str)).toList)
theorem notDigit_eq (c : Nat) : notDigit c = !decide (48 ≤ c ∧ c ≤ 57) := by
  unfold notDigit
  congr 1
  rw [Bool.eq_iff_iff, decide_eq_true_eq, decide_eq_true_eq]
  have e : (Str.cps ("0123456789" : Str)).toList = [48, 49, 50, 51, 52, 53, 54, 55, 56, 57] := by decide +kernel
  rw [e]
  simp only [List.mem_cons, List.not_mem_nil, or_false]
  omega
theorem noneLeft {l : List Nat} : l.filter notDigit = [] ↔ AllDigits l := by
  rw [List.filter_eq_nil_iff]
  constructor
  · intro h c hc
    have := h c hc
    rw [notDigit_eq] at this
    simpa using this
  · intro h c hc
    rw [notDigit_eq, decide_eq_true (h c hc)]
    simp
def sgnS (c : Nat) : Str := ⟨#[c]⟩
theorem take_next {α : Type} {l : List α} {i : Nat} {x : α} (h : l[i]? = some x) : l.take (i + 1) = l.take i ++ [x] := by
  rw [List.take_add_one, h]
  rfl
theorem cps_get {x : Str} {i : Nat} {c : Nat} (h : x.cps[i]? = some c) : (tl x)[i]? = some c := by
  rw [← h]
  exact Array.getElem?_toList
theorem cps_size (x : Str) : x.cps.size = (tl x).length := Array.length_toList.symm
/-- a or b by a test: both ways give one value -/
theorem tIf_val {t : TT} {ta tb : TE} {σ : L2.St} {H : Hp} {Q : VK} (b : Bool) (v : V) (ht : ∀ R : Bool → Hp → Prop, R b H → t σ H R) (h1 : b = true → ∀ R : VK, R v H → ta σ H R) (h2 : b = false → ∀ R : VK, R v H → tb σ H R)
    (h : Q v H) : tIf t ta tb σ H Q := by
  refine ht _ ?_
  cases b with
  | true => exact iteT (h1 rfl Q h)
  | false => exact iteF (h2 rfl Q h)
def spWhole : Sp := fun vs H Q _ => ∃ x : Str, vs = [.str x] ∧ IsTx x ∧ ∀ H', Same H H' → Q (oi (wholeV (tl x))) H'
def spDue : Sp := fun vs H Q _ => ∃ (k : Kd) (x : Str), vs = [.str k.str, .str x] ∧ IsTx x ∧ ∀ H', Same H H' → Q (ov (kform k x)) H'
section
variable {P : Program} {w : World} {K : PySem.W.Frag} {mg : Str → Option Value} {base : Heap} {f : Addr} {fd : FuncData} {aK aO aP : Addr}
theorem ok_law_whole (F : Fun K "_law_whole" "_law_whole" s_law_whole f fd) (T : Txt K mg aK aO aP) : FnOk P w K mg base CX0 1 f fd ["_law_text"] spWhole := by
  refine F.ok sc_law_whole (fun vs H Q E h => ?_) (fun cdv A outer s H vs Q E hr h => ?_)
  · obtain ⟨x, rfl, _⟩ := h
    rfl
  · obtain ⟨x, rfl, hx, q⟩ := h
    have hl := hx.2
    refine ⟨_, (pss_cons (ps_set (i := 1) sc_law_whole.nd rfl (Or.inl rfl) (pe_ifExp (pt_cmpR op_eq (pe_slice sl_str (pv 0) po_none (po_some pe_int)) pe_str (nomark _)) (pe_slice sl_str (pv 0) (po_some pe_int) po_none) (pv 0))) (pss_cons (ps_if (PW.pt (pw_or (pt_cmpR op_eq (pv 1) pe_str (nomark _)) (pw_or1 (pt_cmpR (op_neD hr.units) (pe_lc (own := [("_law_sign", 2)]) (g := gName 2) (by rfl) sc_law_whole.nd (pi_str (pv 1)) (blkOk_by (own := [("_law_sign", 2)]) (N := n_law_whole) (sc := defScope s_law_whole) (by decide +kernel)) (fun _ _ _ _ _ => pg_name (i := 2) sc_law_whole.nd rfl (Or.inl rfl)) (fun _ _ _ _ _ => (pts_one (pt_cmpR op_notIn_sign (pv 2) pe_str rfl))) (fun _ _ _ _ _ => (pv 2))) (pe_lst pa_nil) (nomark _))))) (pss_one (ps_ret pe_non)) pss_nil) (pss_one (ps_ret (pe_ifExp (pt_cmpR op_eq (pe_callTy call_str_int (by rfl) T.b_str (by decide +kernel) (pa_cons (pe_callTy call_int_str (by rfl) T.b_int (by decide +kernel) (pa_cons (pv 0) pa_nil)) pa_nil)) (pv 0) (nomark _)) (pe_callTy call_int_str (by rfl) T.b_int (by decide +kernel) (pa_cons (pv 0) pa_nil)) pe_non))))), ?_⟩
    have e5 : decide (V.str (cutS x none (some 1)) = V.str "-") = decide ((tl x).head? = some 45) := by
      rw [dstr, tl_dash, cut_to1]
      congr 1
      cases tl x with
      | nil => simp
      | cons c r => simp
    obtain ⟨y, hy, hyl, ey⟩ : ∃ y : Str, tl y = numPart (tl x) ∧ y.length ≤ 100 ∧ y = if (tl x).head? = some 45 then cutS x (some 1) none else x := by
      refine ⟨_, ?_, ?_, rfl⟩
      · unfold numPart
        split
        · exact cut_from1 x
        · rfl
      · split
        · rw [len_tl, cut_from1, List.length_tail, ← len_tl]
          omega
        · omega
    have hys : Sgn (tl y) := by
      rw [hy]
      unfold numPart
      split
      · exact fun d hd => hx.1 d (List.mem_of_mem_tail hd)
      · exact hx.1
    have tail0 := q
    refine tIf_val (decide ((tl x).head? = some 45)) (.str y) (fun R r => ⟨_, rfl, _, rfl, x, rfl, line_of (by omega), rfl, _, rfl, by rw [e5]; exact r⟩) (fun hc R r => ?_) (fun hc R r => ?_) ?_
    · rw [ey, if_pos (of_decide_eq_true hc)] at r
      exact ⟨_, rfl, _, rfl, x, rfl, line_of (by omega), r⟩
    · rw [ey, if_neg (of_decide_eq_false hc)] at r
      exact ⟨_, rfl, r⟩
    -- if digits == '' or [..] != []
    refine ⟨_, rfl, rfl, _, rfl, ?_⟩
    have e6 : decide (V.str y = V.str "") = decide (tl y = []) := by
      rw [dstr, show tl ("" : Str) = [] by decide +kernel]
    rw [e6]
    by_cases z : tl y = []
    · rw [decide_eq_true z]
      have : wholeV (tl x) = none := by
        unfold wholeV
        rw [← hy, z]
        rfl
      rw [this] at q
      exact iteT (iteT (q H (Same.refl H)))
    · rw [decide_eq_false z]
      refine iteF ⟨_, rfl, y, rfl, fun D hD => lc_it walk_str (fun i H' => Same H H' ∧ H' D = some (.lst ((((tl y).take i).filter notDigit).map fun c => V.str (sgnS c)))) ⟨same_new hD, upd_same⟩ (fun _ _ _ _ => trivial) ?_ ?_⟩
      · rintro i v H1 H2 hi ⟨sm, hH⟩ ⟨rfl, c, hc, rfl⟩
        have tk := take_next (cps_get hc)
        refine ⟨rfl, _, rfl, c, _, rfl, rfl, _, rfl, ?_⟩
        have e7 : (!decide (c ∈ (Str.cps ("0123456789" : Str)).toList)) = notDigit c := rfl
        rw [e7]
        cases e8 : notDigit c with
        | true =>
          refine iteT ⟨_, rfl, _, hH, ?_, ?_⟩
          · rw [List.length_map]
            have h1 := List.length_filter_le notDigit ((tl y).take i)
            have h2 := List.length_take_le i (tl y)
            have h3 := cps_size y
            have h4 := len_tl y
            exact small1000 (by omega)
          · refine ⟨fun b o hb => ?_, ?_⟩
            · have : b ≠ D := ne_of_none hb hD
              rw [upd_ne this]
              exact sm b o hb
            · rw [upd_same, tk, List.filter_append, List.map_append, List.filter_cons_of_pos e8]
              rfl
        | false =>
          refine iteF ⟨sm, ?_⟩
          rw [hH, tk, List.filter_append, List.filter_cons_of_neg (by rw [e8]; exact Bool.false_ne_true)]
          simp
      · rintro H1 ⟨sm, hH⟩
        have ea : (tl y).take y.cps.size = tl y := by
          rw [cps_size]
          exact List.take_length
        rw [ea] at hH
        have em : ((tl y).filter notDigit).map (fun c => V.str (sgnS c)) = (((tl y).filter notDigit).map sgnS).map V.str := by
          rw [List.map_map]
          rfl
        rw [em] at hH
        refine ⟨Nat.zero_le _, fun p hp => ?_⟩
        have hDp : D ≠ p := ne_of_none hH hp
        refine ⟨_, _, dp_strs (SqL.of (by rw [upd_ne hDp]; exact hH)), dp_nil upd_same, shaped_strs ?_, rfl, _, rfl, ?_⟩
        · intro u hu
          obtain ⟨c, hc, rfl⟩ := List.mem_map.mp hu
          refine strOk_sgn fun d hd => ?_
          have hd' : d ∈ [c] := hd
          rw [List.mem_singleton.mp hd']
          exact hys c (List.mem_filter.mp hc).1
        · rw [eqv_nil]
          have sm2 : Same H (upd H1 p (.lst [])) := sm.trans (same_new hp)
          have q1 := q _ sm2
          have e9 : (((tl y).filter notDigit).map sgnS).isEmpty = decide (AllDigits (tl y)) := by
            rw [Bool.eq_iff_iff, decide_eq_true_eq, ← noneLeft, List.isEmpty_iff, List.map_eq_nil_iff]
          rw [e9]
          by_cases ad : AllDigits (tl y)
          · rw [decide_eq_true ad]
            refine iteF ?_
            rw [hy] at z ad
            have ei := int_of z ad hl
            have bi := back_iff z ad
            have hlog : (numVal (tl x)).natAbs.log2 < 1920 := by
              have : (numVal (tl x)).natAbs = NumText.digitsVal (numPart (tl x)) := by
                unfold numVal numPart
                split <;> simp
              rw [this]
              exact log2_digits ad (by rw [← hy, ← len_tl]; exact hyl)
            refine ⟨_, rfl, x, _, rfl, ei, by omega, _, rfl, hlog, _, rfl, rfl, _, rfl, ?_⟩
            have e10 : decide (V.str (Str.ofString (toString (numVal (tl x)))) = V.str x) = (plainD (numPart (tl x)) && decide (tl x ≠ [45, 48])) := by
              rw [Bool.eq_iff_iff, decide_eq_true_eq, ← bi]
              exact ⟨fun u => by injection u, fun u => by rw [u]⟩
            rw [e10]
            unfold wholeV at q1
            cases e11 : (plainD (numPart (tl x)) && decide (tl x ≠ [45, 48])) with
            | true =>
              rw [e11, if_pos rfl] at q1
              exact iteT ⟨_, rfl, x, _, rfl, ei, by omega, q1⟩
            | false =>
              rw [e11, if_neg Bool.false_ne_true] at q1
              exact iteF q1
          · rw [decide_eq_false ad]
            have : wholeV (tl x) = none := by
              unfold wholeV
              have : plainD (numPart (tl x)) = false := by
                rw [Bool.eq_false_iff]
                intro u
                rw [← hy] at u
                exact ad (plainD_iff.mp u).2.1
              rw [this]
              rfl
            rw [this] at q1
            exact iteT q1
end
end Bw

namespace Bw
open PySem PySem.Spec L2 TL PyProof.Rows
open NumText (AllDigits digitsVal)

/-! ### what is due -/
theorem kd_same (k a : Kd) : decide (V.str k.str = V.str a.str) = decide (k = a) := kk k a
def partsL (l : List Nat) : List (List Nat) := (spl [32] 0 [] l).filter fun p => !p.isEmpty
theorem parts_words {l : List Nat} (h : Sgn l) : partsL l = wordsL l := by
  have := filter_spl l [] [] h
  rw [List.nil_append] at this
  exact this
theorem split_tl (x : Str) : (Txt.split x " ").map tl = spl [32] 0 [] (tl x) := by
  have := split_spl x " " (by rw [tl_blank]; simp) (kind_ok (by decide +kernel))
  rw [tl_blank] at this
  exact this
theorem spl_len (S : List Nat) : ∀ (k : Nat) (l acc : List Nat), (spl S k acc l).length ≤ l.length + 1
  | 0, [], acc => by rw [spl_nil]; exact Nat.le_refl _
  | 0, c :: r, acc => by
    cases h : pre S (c :: r) with
    | true =>
      rw [spl_hit h, List.length_cons, List.length_cons]
      have := spl_len S (S.length - 1) r []
      omega
    | false =>
      rw [spl_miss h]
      have := spl_len S 0 r (acc ++ [c])
      rw [List.length_cons]
      omega
  | k + 1, [], acc => by rw [spl_nil]; exact Nat.le_refl _
  | k + 1, c :: r, acc => by
    show (spl S k acc r).length ≤ _
    have := spl_len S k r acc
    rw [List.length_cons]
    omega
def keep (p : Str) : Bool := !decide (V.str p = V.str "")
theorem keep_eq (p : Str) : keep p = !(tl p).isEmpty := by
  unfold keep
  rw [dstr, show tl ("" : Str) = [] by decide +kernel]
  congr 1
  rw [Bool.eq_iff_iff, decide_eq_true_eq, List.isEmpty_iff]
theorem keep_parts (x : Str) : ((Txt.split x " ").filter keep).map tl = partsL (tl x) := by
  unfold partsL
  rw [← split_tl, List.filter_map]
  congr 1
  refine List.filter_congr fun p _ => ?_
  exact keep_eq p
section
variable {P : Program} {w : World} {K : PySem.W.Frag} {mg : Str → Option Value} {base : Heap} {f : Addr} {fd : FuncData} {aK aO aP : Addr}
theorem ok_law_due (F : Fun K "_law_due" "_law_due" s_law_due f fd) (T : Txt K mg aK aO aP) (D_law_whole : Dfn P w K mg base "_law_whole" 1 ["_law_text"] spWhole) :
    FnOk P w K mg base CX0 2 f fd ["_law_kind", "_law_text"] spDue := by
  refine F.ok sc_law_due (fun vs H Q E h => ?_) (fun cdv A outer s H vs Q E hr h => ?_)
  · obtain ⟨k, x, rfl, _⟩ := h
    rfl
  · obtain ⟨k, x, rfl, hx, q⟩ := h
    have hl := hx.2
    refine ⟨_, (pss_cons (ps_if (pt_cmpR op_eq (pv 0) pe_str (nomark _)) (pss_cons (ps_setLc (i := 2) (own := [("_law_part", 4)]) (g := gName 4) (by rfl) sc_law_due.nd rfl rfl (sw_true rfl rfl rfl (by decide +kernel)) (pi_list (pe_split (pv 1) pe_str)) (blkOk_by (own := [("_law_part", 4)]) (N := n_law_due) (sc := defScope s_law_due) (by decide +kernel)) (fun _ _ _ _ _ => pg_name (i := 4) sc_law_due.nd rfl (Or.inl rfl)) (fun _ _ _ _ _ => (pts_one (pt_cmpR op_ne (pv 4) pe_str (nomark _)))) (fun _ _ _ _ _ => (pv 4))) (pss_one (ps_ret (pe_ifExp (pt_cmpR (op_neD hr.units) (pv 2) (pe_lst pa_nil) (nomark _)) (pe_lower (pe_join pe_str (pv 2))) pe_non)))) pss_nil) (pss_cons (ps_if (pt_cmpR op_eq (pv 0) pe_str (nomark _)) (pss_one (ps_ret (pv 1))) pss_nil) (pss_cons (ps_if (pt_cmpR op_eq (pv 0) pe_str (nomark _)) (pss_one (ps_ret (pe_ifExp (pt_cmpR op_in_seq (pv 1) (pe_tup (pa_cons pe_str (pa_cons pe_str pa_nil))) rfl) (pv 1) pe_non))) pss_nil) (pss_cons (ps_set (i := 3) sc_law_due.nd rfl (Or.inl rfl) (pe_d D_law_whole hr (by decide) (pa_cons (pv 1) pa_nil))) (pss_cons (ps_if (pt_cmpR op_isN (pv 3) pe_non (nomark _)) (pss_one (ps_ret pe_non)) pss_nil) (pss_cons (ps_if (pt_cmpR op_eq (pv 0) pe_str (nomark _)) (pss_one (ps_ret (pe_ifExp (pt_chain op_le op_le pe_int (pv 3) (pe_op op_pow pe_int pe_int)) (pv 1) pe_non))) pss_nil) (pss_one (ps_ret (pe_ifExp (pt_cmpR op_le (pe_callB call_abs (by rfl) T.b_abs (by decide +kernel) (pa_cons (pv 3) pa_nil)) (pe_op op_pow pe_int pe_int) (nomark _)) (pv 1) pe_non))))))))), ?_⟩
    refine ⟨_, rfl, rfl, _, rfl, ?_⟩
    rw [show decide (V.str k.str = V.str "text") = decide (k = .text) from kk k .text]
    by_cases hk : k = .text
    · subst hk
      refine iteT ?_
      -- parts = [part for part in text.split(' ') if part != '']
      refine ⟨_, rfl, ⟨_, rfl⟩, _, _, rfl, rfl, by decide +kernel, Nat.le_trans (show x.length + 2 ≤ 1000 by omega) (by decide), fun p hp => ?_⟩
      refine ⟨p, rfl, ⟨_, SqL.of upd_same⟩, fun D hD => lc_it (walk_list (K := K) (a := p) (xs := (Txt.split x " ").map V.str)) (fun i H' => Same H H' ∧ H' p = some (.lst ((Txt.split x " ").map V.str)) ∧ H' D = some (.lst ((((Txt.split x " ").take i).filter keep).map V.str)))
        ⟨fun b o hb => ?_, ?_, upd_same⟩ (fun i H' _ h => SqL.of h.2.1) ?_ ?_⟩
      · have n1 : b ≠ p := ne_of_none hb hp
        have n2 : b ≠ D := ne_of_none (same_new hp b o hb) hD
        rw [upd_ne n2, upd_ne n1]
        exact hb
      · have n2 : p ≠ D := fun e => by
          rw [← e, upd_same] at hD
          cases hD
        rw [upd_ne n2]
        exact upd_same
      · rintro i v H1 H2 hi ⟨sm, hP, hH⟩ ⟨rfl, hv⟩
        rw [List.getElem?_map] at hv
        cases e : (Txt.split x " ")[i]? with
        | none =>
          rw [e] at hv
          cases hv
        | some y =>
          rw [e] at hv
          have hv' : V.str y = v := Option.some.inj hv
          subst hv'
          have tk := take_next e
          refine ⟨rfl, _, rfl, rfl, _, rfl, ?_⟩
          have e7 : (!decide (V.str y = V.str "")) = keep y := rfl
          rw [e7]
          have hpD : p ≠ D := fun z => by
            rw [z, upd_same] at hD
            cases hD
          cases e8 : keep y with
          | true =>
            refine iteT ⟨_, rfl, _, hH, ?_, ?_⟩
            · rw [List.length_map]
              have h1 := List.length_filter_le keep ((Txt.split x " ").take i)
              have h2 := List.length_take_le' i (Txt.split x " ")
              have h3 := congrArg List.length (split_tl x)
              rw [List.length_map] at h3
              have h4 := spl_len [32] 0 (tl x) []
              have h5 := len_tl x
              exact small1000 (by omega)
            · refine ⟨fun b o hb => ?_, by rw [upd_ne hpD]; exact hP, ?_⟩
              · have n1 : b ≠ D := ne_of_none (same_new hp b o hb) hD
                rw [upd_ne n1]
                exact sm b o hb
              · rw [upd_same, tk, List.filter_append, List.map_append, List.filter_cons_of_pos e8]
                rfl
          | false =>
            refine iteF ⟨sm, hP, ?_⟩
            rw [hH, tk, List.filter_append, List.filter_cons_of_neg (by rw [e8]; exact Bool.false_ne_true)]
            simp
      · rintro H1 ⟨sm, hP, hH⟩
        rw [List.length_map, List.take_length] at hH
        refine ⟨_, rfl, Nat.zero_le _, fun r hr => ?_⟩
        have hDr : D ≠ r := ne_of_none hH hr
        have hH2 : upd H1 r (.lst []) D = some (.lst (((Txt.split x " ").filter keep).map V.str)) := by
          rw [upd_ne hDr]
          exact hH
        have kp := keep_parts x
        rw [parts_words hx.1] at kp
        have sm2 : Same H (upd H1 r (.lst [])) := sm.trans (same_new hr)
        have q1 := q _ sm2
        have wd := wordsL_wd (P := fun c => 32 ≤ c ∧ c ≤ 126) hx.1 hx.1
        have sgnp : ∀ u ∈ (Txt.split x " ").filter keep, Sgn (tl u) := fun u hu c hc => by
          have : tl u ∈ wordsL (tl x) := by
            rw [← kp]
            exact List.mem_map_of_mem hu
          exact ((wd _ this).2 c hc).2
        refine ⟨_, _, dp_strs (SqL.of hH2), dp_nil upd_same, shaped_strs (fun u hu => strOk_sgn (sgnp u hu)), rfl, _, rfl, ?_⟩
        rw [eqv_nil]
        have e9 : ((Txt.split x " ").filter keep).isEmpty = decide (wordsL (tl x) = []) := by
          rw [Bool.eq_iff_iff, decide_eq_true_eq, ← kp, List.isEmpty_iff, List.map_eq_nil_iff]
        rw [e9]
        have ez : normS x = "" ↔ wordsL (tl x) = [] := by
          constructor
          · intro z
            have z2 := tl_normS hx.1
            rw [z, show tl ("" : Str) = [] by decide +kernel, normL_eq hx.1] at z2
            have z3 : joinL [32] (wordsL (tl x)) = [] := List.map_eq_nil_iff.mp z2.symm
            cases z4 : wordsL (tl x) with
            | nil => rfl
            | cons a t =>
              have := (wd a (by rw [z4]; exact List.mem_cons_self ..)).1
              rw [z4] at z3
              cases t with
              | nil => exact absurd z3 this
              | cons b t =>
                have z5 : a ++ ([32] ++ joinL [32] (b :: t)) = [] := z3
                simp at z5
          · intro z
            refine ext_tl ?_
            rw [tl_normS hx.1, normL_eq hx.1, z]
            decide +kernel
        have q2 : Q (ov (if normS x = "" then none else some (normS x))) (upd H1 r (.lst [])) := q1
        by_cases z : wordsL (tl x) = []
        · rw [decide_eq_true z]
          rw [if_pos (ez.mpr z)] at q2
          exact iteF q2
        · rw [decide_eq_false z]
          rw [if_neg (fun u => z (ez.mp u))] at q2
          -- ' '.join(parts).lower()
          have ej : tl (Txt.join " " ((Txt.split x " ").filter keep)) = joinL [32] (wordsL (tl x)) := by
            rw [join_eq, tl_join, tl_blank, kp]
          have sj : Sgn (tl (Txt.join " " ((Txt.split x " ").filter keep))) := by
            rw [ej]
            exact joined_sgn hx.1
          have lj : (Txt.join " " ((Txt.split x " ").filter keep)).length ≤ 100 := by
            rw [len_tl, ej]
            have := words_len (tl x)
            have := len_tl x
            omega
          refine iteT ⟨⟨_, rfl⟩, _, rfl, " ", D, _, rfl, rfl, .inl (SqL.of hH2), ?_, ⟨_, rfl⟩, _, rfl, rfl, by omega, ?_⟩
          · have e1 : (((Txt.split x " ").filter keep).map (·.length)).sum = ((wordsL (tl x)).map List.length).sum := by
              rw [← kp, List.map_map]
              exact congrArg List.sum (List.map_congr_left fun a _ => len_tl a)
            have e2 : ((Txt.split x " ").filter keep).length = (wordsL (tl x)).length := by
              rw [← kp, List.length_map]
            rw [e1, e2, show (" " : Str).length = 1 by decide +kernel]
            have e3 := wfold_len (tl x) ([], [])
            have e4 : wsum ([] : List (List Nat)) = 0 := rfl
            simp only [e4, List.length_nil] at e3
            have e5 : ∀ ws : List (List Nat), (ws.map List.length).sum + ws.length * 1 ≤ wsum ws := fun ws => by
              induction ws with
              | nil => exact Nat.le_refl _
              | cons a r ih =>
                have : wsum (a :: r) = (a.length + 1) + wsum r := by unfold wsum; simp
                rw [List.map_cons, List.sum_cons, this, List.length_cons]
                omega
            have e6 := len_tl x
            have e7 := e5 (wordsL (tl x))
            have e8 : wsum (wordsL (tl x)) ≤ 102 := by
              unfold wordsL wfin
              split
              · omega
              · rw [wsum_app]
                omega
            omega
          · have e10 : Txt.lower (Txt.join " " ((Txt.split x " ").filter keep)) = normS x := by
              refine ext_tl ?_
              rw [tl_lower sj, ej, tl_normS hx.1, normL_eq hx.1]
            rw [e10]
            exact q2
    · rw [decide_eq_false hk]
      refine iteF ⟨_, rfl, rfl, _, rfl, ?_⟩
      rw [show decide (V.str k.str = V.str "exact") = decide (k = .exact) from kk k .exact]
      cases k with
      | text => exact absurd rfl hk
      | exact => exact iteT ⟨_, rfl, q H (Same.refl H)⟩
      | flag =>
        refine iteF ⟨_, rfl, rfl, _, rfl, iteT ?_⟩
        refine ⟨_, rfl, (by show 2 ≤ sizeLine; decide), fun p hp => ⟨p, _, rfl, .inr (SqT.of upd_same), rfl, rfl, _, rfl, ?_⟩⟩
        have e : inV (.str x) [.str "yes", .str "no"] = decide (x = "yes" ∨ x = "no") := by
          rw [Bool.eq_iff_iff, decide_eq_true_eq]
          unfold inV
          simp [eqV]
          constructor <;> (intro z; rcases z with z | z <;> simp [z])
        have q2 : Q (ov (if x = "yes" ∨ x = "no" then some x else none)) (upd H p (.tup [.str "yes", .str "no"])) := q _ (same_new hp)
        show if inV (.str x) [.str "yes", .str "no"] = true then _ else _
        rw [e]
        by_cases z : x = "yes" ∨ x = "no"
        · rw [decide_eq_true z]
          rw [if_pos z] at q2
          exact iteT ⟨_, rfl, q2⟩
        · rw [decide_eq_false z]
          rw [if_neg z] at q2
          exact iteF q2
      | link =>
        refine iteF ⟨_, rfl, rfl, _, rfl, iteF ?_⟩
        refine ⟨_, rfl, x, rfl, hx, fun H1 sm => ?_⟩
        have q2 : Q (ov (if fitLink (tl x) then some x else none)) H1 := q _ sm
        cases e : wholeV (tl x) with
        | none =>
          have : ¬ fitLink (tl x) = true := fun z => by
            obtain ⟨n, h1, _⟩ := (link_iff _ hx.1).mp z
            rw [e] at h1
            cases h1
          rw [if_neg this] at q2
          exact ⟨_, rfl, rfl, _, rfl, iteT q2⟩
        | some n =>
          refine ⟨_, rfl, rfl, _, rfl, iteF ⟨_, rfl, rfl, _, rfl, iteT ?_⟩⟩
          refine ⟨_, rfl, _, _, rfl, rfl, _, rfl, ?_⟩
          have li := link_iff (tl x) hx.1
          by_cases h1 : (1 : Int) ≤ n
          · rw [decide_eq_true h1]
            refine iteT ⟨_, _, rfl, rfl, ⟨by decide, by decide, by decide⟩, _, _, rfl, rfl, _, rfl, ?_⟩
            by_cases h2 : n ≤ 10 ^ 12
            · have z : fitLink (tl x) = true := li.mpr ⟨n, e, h1, h2⟩
              rw [if_pos z] at q2
              rw [show decide (n ≤ (10 : Int) ^ (12 : Int).toNat) = true from decide_eq_true h2]
              exact iteT ⟨_, rfl, q2⟩
            · have z : ¬ fitLink (tl x) = true := fun z => by
                obtain ⟨m, h3, _, h4⟩ := li.mp z
                rw [e] at h3
                cases h3
                exact h2 h4
              rw [if_neg z] at q2
              rw [show decide (n ≤ (10 : Int) ^ (12 : Int).toNat) = false from decide_eq_false h2]
              exact iteF q2
          · have z : ¬ fitLink (tl x) = true := fun z => by
              obtain ⟨m, h3, h4, _⟩ := li.mp z
              rw [e] at h3
              cases h3
              exact h1 h4
            rw [if_neg z] at q2
            rw [decide_eq_false h1]
            exact iteF ⟨_, rfl, iteF q2⟩
      | number =>
        refine iteF ⟨_, rfl, rfl, _, rfl, iteF ?_⟩
        refine ⟨_, rfl, x, rfl, hx, fun H1 sm => ?_⟩
        have q2 : Q (ov (if fitNum (tl x) then some x else none)) H1 := q _ sm
        have ni := num_iff (tl x)
        cases e : wholeV (tl x) with
        | none =>
          have : ¬ fitNum (tl x) = true := fun z => by
            obtain ⟨n, h1, _⟩ := ni.mp z
            rw [e] at h1
            cases h1
          rw [if_neg this] at q2
          exact ⟨_, rfl, rfl, _, rfl, iteT q2⟩
        | some n =>
          refine ⟨_, rfl, rfl, _, rfl, iteF ⟨_, rfl, rfl, _, rfl, iteF ?_⟩⟩
          refine ⟨_, rfl, _, rfl, _, _, rfl, rfl, ⟨by decide, by decide, by decide⟩, _, _, rfl, rfl, _, rfl, ?_⟩
          by_cases h2 : (if n < 0 then -n else n) ≤ 10 ^ 15
          · have z : fitNum (tl x) = true := ni.mpr ⟨n, e, h2⟩
            rw [if_pos z] at q2
            rw [show decide ((if n < 0 then -n else n) ≤ (10 : Int) ^ (15 : Int).toNat) = true from decide_eq_true h2]
            exact iteT ⟨_, rfl, q2⟩
          · have z : ¬ fitNum (tl x) = true := fun z => by
              obtain ⟨m, h3, h4⟩ := ni.mp z
              rw [e] at h3
              cases h3
              exact h2 h4
            rw [if_neg z] at q2
            rw [show decide ((if n < 0 then -n else n) ≤ (10 : Int) ^ (15 : Int).toNat) = false from decide_eq_false h2]
            exact iteF q2
end
end Bw

namespace Bw
open PySem PySem.Spec L2 TL PyProof.Rows
open NumText (AllDigits digitsVal)

/-! ### drawn texts -/
/-- a text of signs, of at most n -/
def Tn (n : Nat) (x : Str) : Prop := Sgn (tl x) ∧ x.length ≤ n
instance (l : List Nat) : Decidable (Sgn l) := by unfold Sgn; infer_instance
instance (n : Nat) (x : Str) : Decidable (Tn n x) := by unfold Tn; infer_instance
theorem Tn.mono {m n : Nat} {x : Str} (h : Tn m x) (k : m ≤ n) : Tn n x := ⟨h.1, Nat.le_trans h.2 k⟩
theorem Tn.tx {x : Str} (h : Tn 100 x) : IsTx x := h
def spDraw (n : Nat) (C : Str → Prop) : Sp := fun vs H Q _ => ∃ d : Addr, vs = [.ref d] ∧ DiceAt H d ∧ ∀ (x : Str) H', Tn n x → C x → Moved d H H' → Q (.str x) H'
theorem join0_sgn : ∀ ps : List (List Nat), (∀ p ∈ ps, Sgn p) → Sgn (joinL [] ps)
  | [], _ => fun c hc => absurd hc (by simp [joinL])
  | [p], h => h p (List.mem_singleton.mpr rfl)
  | p :: q :: r, h => by
    show Sgn (p ++ ([] ++ joinL [] (q :: r)))
    exact (h p (List.mem_cons_self ..)).app (Sgn.nil.app (join0_sgn (q :: r) fun a ha => h a (List.mem_cons_of_mem _ ha)))
theorem join0_len (k : Nat) : ∀ ps : List (List Nat), (∀ p ∈ ps, p.length ≤ k) → (joinL [] ps).length ≤ k * ps.length
  | [], _ => Nat.zero_le _
  | [p], h => by
    show p.length ≤ k * 1
    have := h p (List.mem_singleton.mpr rfl)
    omega
  | p :: q :: r, h => by
    show (p ++ ([] ++ joinL [] (q :: r))).length ≤ _
    rw [List.length_append, List.nil_append]
    have h1 := h p (List.mem_cons_self ..)
    have h2 := join0_len k (q :: r) fun a ha => h a (List.mem_cons_of_mem _ ha)
    have e : (p :: q :: r).length = (q :: r).length + 1 := rfl
    rw [e, Nat.mul_add]
    omega
theorem sum_le {k : Nat} : ∀ {l : List Nat}, (∀ a ∈ l, a ≤ k) → l.sum ≤ k * l.length
  | [], _ => Nat.zero_le _
  | a :: r, h => by
    have h1 := h a (List.mem_cons_self ..)
    have h2 := sum_le (l := r) fun b hb => h b (List.mem_cons_of_mem _ hb)
    rw [List.sum_cons, List.length_cons, Nat.mul_add]
    omega
/-- the written signs -/
def signsW : List Str := ["A", "b", "Z", "z", " ", " ", "  ", "~", "!", "0", "7", "-", "@", "[", "q"]
theorem signsW_ok : ∀ x ∈ signsW, Tn 2 x := by decide +kernel
section
variable {P : Program} {w : World} {K : PySem.W.Frag} {mg : Str → Option Value} {base : Heap} {f : Addr} {fd : FuncData} {aK aO aP : Addr}
theorem ok_law_signs (F : Fun K "_law_signs" "_law_signs" s_law_signs f fd) (T : Txt K mg aK aO aP) (D_law_roll : Dfn P w K mg base "_law_roll" 1 ["_law_dice_here", "_law_total"] spRoll)
    (D_law_one_of : Dfn P w K mg base "_law_one_of" 2 ["_law_dice_here", "_law_items"] spOne) : FnOk P w K mg base CX0 3 f fd ["_law_dice_here"] (spDraw 19 fun _ => True) := by
  refine F.ok sc_law_signs (fun vs H Q E h => ?_) (fun cdv A outer s H vs Q E hr h => ?_)
  · obtain ⟨d, rfl, _⟩ := h
    rfl
  · obtain ⟨d, rfl, hd, q⟩ := h
    refine ⟨_, (pss_cons (ps_set (i := 1) sc_law_signs.nd rfl (Or.inr rfl) (pe_lst (pa_cons pe_str (pa_cons pe_str (pa_cons pe_str (pa_cons pe_str (pa_cons pe_str (pa_cons pe_str (pa_cons pe_str (pa_cons pe_str (pa_cons pe_str (pa_cons pe_str (pa_cons pe_str (pa_cons pe_str (pa_cons pe_str (pa_cons pe_str (pa_cons pe_str pa_nil))))))))))))))))) (pss_one (ps_ret (pe_op op_add_str (pe_join pe_str (pe_lc (own := [("_law_turn", 2)]) (g := gName 2) (by rfl) sc_law_signs.nd (pi_range1 (by rfl) T.b_range (pa_cons (pe_d D_law_roll hr (by decide) (pa_cons (pv 0) (pa_cons pe_int pa_nil))) pa_nil)) (blkOk_by (own := [("_law_turn", 2)]) (N := n_law_signs) (sc := defScope s_law_signs) (by decide +kernel)) (fun _ _ _ _ _ => pg_name (i := 2) sc_law_signs.nd rfl (Or.inl rfl)) (fun _ _ _ _ _ => pts_nil) (fun _ _ _ _ _ => (pe_d D_law_one_of hr (by decide) (pa_cons (pv 0) (pa_cons (pv 1) pa_nil)))))) (pe_d D_law_one_of hr (by decide) (pa_cons (pv 0) (pa_cons (pe_lst (pa_cons pe_str (pa_cons pe_str pa_nil))) pa_nil))))))), ?_⟩
    refine ⟨(by show 15 ≤ sizeLine; decide), fun l hl => ?_⟩
    have ndl : d ≠ l := hd.ne hl
    have hd1 := hd.same (same_new hl (o := .lst (signsW.map V.str)))
    refine ⟨⟨_, rfl⟩, _, rfl, _, _, rfl, by decide, by decide, hd1, fun r H1 r0 r1 mv => ⟨r, rfl, by omega, by omega, fun D hD => ?_⟩⟩
    have hl1 : H1 l = some (.lst (signsW.map V.str)) := mv.1 l _ ndl.symm upd_same
    have ndD : d ≠ D := mv.2.ne hD
    have nlD : l ≠ D := ne_of_none hl1 hD
    refine lc_it walk_range (fun i H' => ∃ acc : List Str, H' D = some (.lst (acc.map V.str)) ∧ acc.length = i ∧ (∀ x ∈ acc, Tn 2 x) ∧ Moved d H1 H') ⟨[], upd_same, rfl, fun x hx => absurd hx (by simp), Moved.same mv.2 (same_new hD)⟩ (fun _ _ _ _ => trivial) ?_ ?_
    · rintro i v H2 H3 hi ⟨acc, hD2, hlen, hacc, mv2⟩ ⟨rfl, rfl⟩
      refine ⟨rfl, ?_⟩
      unfold tYes
      refine iteT ?_
      refine ⟨_, rfl, _, rfl, d, l, signsW.map V.str, rfl, mv2.1 l _ ndl.symm hl1, ndl.symm, by simp [signsW], by simp [signsW], mv2.2, fun v H4 hv mv3 => ?_⟩
      obtain ⟨y, hy, rfl⟩ := List.mem_map.mp hv
      refine ⟨acc.map V.str, mv3.1 D _ ndD.symm hD2, ?_, acc ++ [y], ?_, by rw [List.length_append, hlen]; rfl, fun x hx => ?_, ?_⟩
      · rw [List.length_map, hlen]
        exact small1000 (by omega)
      · rw [upd_same, List.map_append]
        rfl
      · rcases List.mem_append.mp hx with z | z
        · exact hacc x z
        · rw [List.mem_singleton.mp z]
          exact signsW_ok y hy
      · obtain ⟨a, b, c, e⟩ := mv3.2
        exact ⟨fun b o nb hb => by rw [upd_ne (ne_of_none hb hD)]; exact (mv2.trans mv3).1 b o nb hb, a, b, c, by rw [upd_ne ndD]; exact e⟩
    · rintro H2 ⟨acc, hD2, hlen, hacc, mv2⟩
      have n9 : acc.length ≤ 9 := by omega
      have js : Sgn (tl (Txt.join "" acc)) := by
        rw [join_eq, tl_join, show tl ("" : Str) = [] by decide +kernel]
        refine join0_sgn _ fun p hp => ?_
        obtain ⟨y, hy, rfl⟩ := List.mem_map.mp hp
        exact (hacc y hy).1
      have jl : (Txt.join "" acc).length ≤ 18 := by
        rw [len_tl, join_eq, tl_join, show tl ("" : Str) = [] by decide +kernel]
        have := join0_len 2 (acc.map tl) fun p hp => by
          obtain ⟨y, hy, rfl⟩ := List.mem_map.mp hp
          rw [← len_tl]
          exact (hacc y hy).2
        rw [List.length_map] at this
        omega
      refine ⟨"", D, acc, rfl, rfl, .inl (SqL.of hD2), ?_, ?_⟩
      · have h1 := sum_le (k := 2) (l := acc.map (·.length)) fun a ha => by
          obtain ⟨y, hy, rfl⟩ := List.mem_map.mp ha
          exact (hacc y hy).2
        rw [List.length_map] at h1
        rw [show ("" : Str).length = 0 by decide +kernel]
        omega
      · refine ⟨_, rfl, (by show 2 ≤ sizeLine; decide), fun p hp => ?_⟩
        have npd : p ≠ d := (mv2.2.ne hp).symm
        refine ⟨d, p, _, rfl, upd_same, npd, by simp, by simp, mv2.2.same (same_new hp), fun v H3 hv mv3 => ?_⟩
        obtain ⟨y, rfl, hy⟩ : ∃ y : Str, v = .str y ∧ Tn 1 y := by
          rcases List.mem_cons.mp hv with rfl | hv
          · exact ⟨"", rfl, by decide +kernel⟩
          · rw [List.mem_singleton.mp hv]
            exact ⟨"x", rfl, by decide +kernel⟩
        have y1 := hy.2
        refine ⟨_, _, rfl, rfl, line_of (by omega), ?_⟩
        refine q _ _ ⟨?_, ?_⟩ trivial ?_
        · rw [tl_append]
          exact js.app hy.1
        · rw [len_tl, tl_append, List.length_append, ← len_tl, ← len_tl]
          omega
        · exact ((Moved.same hd (same_new hl)).trans (mv.trans (mv2.trans (Moved.same mv2.2 (same_new hp))))).trans mv3
end
end Bw

namespace Bw
open PySem PySem.Spec L2 TL PyProof.Rows
open NumText (AllDigits digitsVal)

theorem num_tn {g : Int} (h0 : 0 ≤ g) (h1 : g ≤ 10 ^ 18) : Tn 19 (Str.ofString (toString g)) := by
  obtain ⟨n, rfl⟩ := Int.eq_ofNat_of_zero_le h0
  refine ⟨?_, ?_⟩
  · rw [tl_num]
    intro c hc
    have := numL_digits n c hc
    omega
  · rw [len_tl, tl_num]
    exact numL_len (by decide) (by omega)
theorem num_log {g : Int} (h0 : 0 ≤ g) (h1 : g ≤ 10 ^ 18) : g.natAbs.log2 < 1920 := by
  refine log2_small ?_
  have : g.natAbs ≤ 10 ^ 18 := by omega
  exact Nat.lt_of_le_of_lt this (by decide)
theorem Tn.add {m n : Nat} {x y : Str} (h : Tn m x) (k : Tn n y) : Tn (m + n) (x ++ y) := by
  refine ⟨by rw [tl_append]; exact h.1.app k.1, ?_⟩
  rw [len_tl, tl_append, List.length_append, ← len_tl, ← len_tl]
  have := h.2
  have := k.2
  omega
theorem tl_sp (n : Int) : tl (repS " " n) = List.replicate n.toNat 32 := by
  rw [tl_repS, tl_blank]
  generalize n.toNat = k
  induction k with
  | zero => rfl
  | succ k ih =>
    rw [List.replicate_succ, List.flatten_cons, ih]
    rfl
def spBlown : Sp := fun vs H Q _ => ∃ (d : Addr) (x : Str), vs = [.ref d, .str x] ∧ IsTx x ∧ x.length ≤ 40 ∧ DiceAt H d ∧ ∀ (y : Str) H', IsTx y → normS y = normS x → Moved d H H' → Q (.str y) H'
def wf (l : List Nat) : List (List Nat) × List Nat := (l.map lo1).foldl wstep ([], [])
theorem wf_app (l m : List Nat) : wf (l ++ m) = (m.map lo1).foldl wstep (wf l) := by
  unfold wf
  rw [List.map_append, List.foldl_append]
theorem normL_wf (l : List Nat) : normL l = joinL [32] (wfin (wf l)) := rfl
section
variable {P : Program} {w : World} {K : PySem.W.Frag} {mg : Str → Option Value} {base : Heap} {f : Addr} {fd : FuncData} {aK aO aP : Addr}
theorem ok_law_near_number (F : Fun K "_law_near_number" "_law_near_number" s_law_near_number f fd) (T : Txt K mg aK aO aP) (D_law_roll : Dfn P w K mg base "_law_roll" 1 ["_law_dice_here", "_law_total"] spRoll)
    (D_law_one_of : Dfn P w K mg base "_law_one_of" 2 ["_law_dice_here", "_law_items"] spOne) : FnOk P w K mg base CX0 3 f fd ["_law_dice_here"] (spDraw 40 fun _ => True) := by
  refine F.ok sc_law_near_number (fun vs H Q E h => ?_) (fun cdv A outer s H vs Q E hr h => ?_)
  · obtain ⟨d, rfl, _⟩ := h
    rfl
  · obtain ⟨d, rfl, hd, q⟩ := h
    have hp12 : CPow 10 12 := ⟨by decide, by decide, by decide⟩
    have hp15 : CPow 10 15 := ⟨by decide, by decide, by decide⟩
    have hp18 : CPow 10 18 := ⟨by decide, by decide, by decide⟩
    refine ⟨_, (pss_cons (ps_set (i := 1) sc_law_near_number.nd rfl (Or.inl rfl) (pe_lst (pa_cons pe_int (pa_cons pe_int (pa_cons pe_int (pa_cons (pe_op op_pow pe_int pe_int) (pa_cons (pe_op op_add (pe_op op_pow pe_int pe_int) pe_int) (pa_cons (pe_op op_pow pe_int pe_int) (pa_cons (pe_op op_add (pe_op op_pow pe_int pe_int) pe_int) (pa_cons (pe_op op_pow pe_int pe_int) (pa_cons (pe_d D_law_roll hr (by decide) (pa_cons (pv 0) (pa_cons pe_int pa_nil))) pa_nil))))))))))) (pss_cons (ps_set (i := 2) sc_law_near_number.nd rfl (Or.inl rfl) (pe_d D_law_one_of hr (by decide) (pa_cons (pv 0) (pa_cons (pv 1) pa_nil)))) (pss_cons (ps_set (i := 1) sc_law_near_number.nd rfl (Or.inl rfl) (pe_lst (pa_cons (pe_callTy call_str_int (by rfl) T.b_str (by decide +kernel) (pa_cons (pv 2) pa_nil)) (pa_cons (pe_op op_add_str pe_str (pe_callTy call_str_int (by rfl) T.b_str (by decide +kernel) (pa_cons (pv 2) pa_nil))) (pa_cons (pe_op op_add_str pe_str (pe_callTy call_str_int (by rfl) T.b_str (by decide +kernel) (pa_cons (pv 2) pa_nil))) (pa_cons (pe_op op_add_str pe_str (pe_callTy call_str_int (by rfl) T.b_str (by decide +kernel) (pa_cons (pv 2) pa_nil))) (pa_cons (pe_op op_add_str pe_str (pe_callTy call_str_int (by rfl) T.b_str (by decide +kernel) (pa_cons (pv 2) pa_nil))) (pa_cons (pe_op op_add_str (pe_callTy call_str_int (by rfl) T.b_str (by decide +kernel) (pa_cons (pv 2) pa_nil)) pe_str) pa_nil)))))))) (pss_one (ps_ret (pe_d D_law_one_of hr (by decide) (pa_cons (pv 0) (pa_cons (pe_op op_cat (pv 1) (pe_lst (pa_cons pe_str (pa_cons pe_str (pa_cons pe_str (pa_cons pe_str (pa_cons pe_str (pa_cons pe_str (pa_cons pe_str (pa_cons pe_str (pa_cons pe_str (pa_cons pe_str pa_nil)))))))))))) pa_nil)))))))), ?_⟩
    refine ⟨_, _, rfl, rfl, hp12, _, _, rfl, rfl, hp12, _, _, rfl, rfl, _, _, rfl, rfl, hp15, _, _, rfl, rfl, hp15, _, _, rfl, rfl, _, _, rfl, rfl, hp18, _, rfl, _, _, rfl, by decide, by decide, hd, fun r H1 r0 r1 mv => ⟨(by show 9 ≤ sizeLine; decide), fun l hl => ?_⟩⟩
    have nld : l ≠ d := (mv.2.ne hl).symm
    refine ⟨_, rfl, _, rfl, d, l, _, rfl, upd_same, nld, by simp, by simp, mv.2.same (same_new hl), fun v H2 hv mv2 => ?_⟩
    obtain ⟨g, rfl, g0, g1⟩ : ∃ g : Int, v = .int g ∧ 0 ≤ g ∧ g ≤ 10 ^ 18 := by
      simp only [List.mem_cons, List.not_mem_nil, or_false] at hv
      rcases hv with rfl | rfl | rfl | rfl | rfl | rfl | rfl | rfl | rfl
      · exact ⟨_, rfl, by decide, by decide⟩
      · exact ⟨_, rfl, by decide, by decide⟩
      · exact ⟨_, rfl, by decide, by decide⟩
      · exact ⟨_, rfl, by decide, by decide⟩
      · exact ⟨_, rfl, by decide, by decide⟩
      · exact ⟨_, rfl, by decide, by decide⟩
      · exact ⟨_, rfl, by decide, by decide⟩
      · exact ⟨_, rfl, by decide, by decide⟩
      · exact ⟨_, rfl, r0, by omega⟩
    have hlog := num_log g0 g1
    have hn := num_tn g0 g1
    have hnl := hn.2
    have sz1 : ∀ a : Str, a.length = 1 → a.length + (Str.ofString (toString g)).length ≤ sizeLine := fun a ha => line_of (by omega)
    have sz2 : (Str.ofString (toString g)).length + (".0" : Str).length ≤ sizeLine := line_of (by
      have : (".0" : Str).length = 2 := by decide +kernel
      omega)
    refine ⟨_, rfl, _, rfl, hlog, _, rfl, _, rfl, hlog, _, _, rfl, rfl, sz1 _ (by decide +kernel), _, rfl, _, rfl, hlog, _, _, rfl, rfl, sz1 _ (by decide +kernel), _, rfl, _, rfl, hlog, _, _, rfl, rfl, sz1 _ (by decide +kernel), _, rfl, _, rfl, hlog, _, _, rfl, rfl, sz1 _ (by decide +kernel), _, rfl, _, rfl, hlog, _, _, rfl, rfl, sz2, ?_⟩
    refine ⟨(by show 6 ≤ sizeLine; decide), fun l2 hl2 => ?_⟩
    refine ⟨_, rfl, _, rfl, (by show 10 ≤ sizeLine; decide), fun l3 hl3 => ?_⟩
    have n23 : l2 ≠ l3 := ne_of_none upd_same hl3
    refine ⟨l2, l3, _, _, rfl, rfl, Eq.trans (upd_ne n23) upd_same, upd_same, (by show 16 ≤ sizeLine; decide), fun l4 hl4 => ?_⟩
    have hd2 := mv2.2.same (same_new hl2 (o := .lst [.str (Str.ofString (toString g)), .str (("-" : Str) ++ Str.ofString (toString g)), .str (("0" : Str) ++ Str.ofString (toString g)), .str (("+" : Str) ++ Str.ofString (toString g)), .str ((" " : Str) ++ Str.ofString (toString g)), .str (Str.ofString (toString g) ++ (".0" : Str))]))
    have hd3 := hd2.same (same_new hl3 (o := .lst [.str "-", .str "--1", .str "1 2", .str "yes", .str "no", .str "Yes", .str "no ", .str "1e3", .str "-0", .str "00"]))
    have n4d : l4 ≠ d := (hd3.ne hl4).symm
    refine ⟨d, l4, _, rfl, upd_same, n4d, by simp, by simp, hd3.same (same_new hl4), fun v H3 hv mv3 => ?_⟩
    obtain ⟨y, rfl, hy⟩ : ∃ y : Str, v = .str y ∧ Tn 40 y := by
      have a1 : ∀ a : Str, Tn 1 a → Tn 40 (a ++ Str.ofString (toString g)) := fun a ha => (ha.add hn).mono (by decide)
      simp only [List.cons_append, List.nil_append, List.mem_cons, List.not_mem_nil, or_false] at hv
      rcases hv with rfl | rfl | rfl | rfl | rfl | rfl | rfl | rfl | rfl | rfl | rfl | rfl | rfl | rfl | rfl | rfl
      · exact ⟨_, rfl, hn.mono (by decide)⟩
      · exact ⟨_, rfl, a1 _ (by decide +kernel)⟩
      · exact ⟨_, rfl, a1 _ (by decide +kernel)⟩
      · exact ⟨_, rfl, a1 _ (by decide +kernel)⟩
      · exact ⟨_, rfl, a1 _ (by decide +kernel)⟩
      · exact ⟨_, rfl, (hn.add (show Tn 2 (".0" : Str) by decide +kernel)).mono (by decide)⟩
      all_goals exact ⟨_, rfl, by decide +kernel⟩
    exact q y H3 hy trivial (((mv.trans (Moved.same mv.2 (same_new hl))).trans mv2).trans ((Moved.same mv2.2 (((same_new hl2).trans (same_new hl3)).trans (same_new hl4))).trans mv3))
theorem ok_law_blown (F : Fun K "_law_blown" "_law_blown" s_law_blown f fd) (T : Txt K mg aK aO aP) (D_law_roll : Dfn P w K mg base "_law_roll" 1 ["_law_dice_here", "_law_total"] spRoll) :
    FnOk P w K mg base CX0 2 f fd ["_law_dice_here", "_law_text"] spBlown := by
  refine F.ok sc_law_blown (fun vs H Q E h => ?_) (fun cdv A outer s H vs Q E hr h => ?_)
  · obtain ⟨d, x, rfl, _⟩ := h
    rfl
  · obtain ⟨d, x, rfl, hx, hl, hd, q⟩ := h
    have b1 : (" " : Str).length = 1 := by decide +kernel
    have repl : ∀ n : Int, (repS " " n).length = n.toNat := fun n => by rw [len_tl, tl_sp, List.length_replicate]
    refine ⟨_, (pss_cons (ps_set (i := 2) sc_law_blown.nd rfl (Or.inl rfl) (pe_op op_mulS pe_str (pe_d D_law_roll hr (by decide) (pa_cons (pv 0) (pa_cons pe_int pa_nil))))) (pss_cons (ps_for PassesOwn.never rfl (pi_str (pv 1)) (pg_name (i := 3) sc_law_blown.nd rfl (Or.inl rfl)) (pss_cons (ps_set (i := 3) sc_law_blown.nd rfl (Or.inl rfl) (pe_ifExp (pt_cmpR op_eq (pe_d D_law_roll hr (by decide) (pa_cons (pv 0) (pa_cons pe_int pa_nil))) pe_int (nomark _)) (pe_upper (pv 3)) (pe_lower (pv 3)))) (pss_one (ps_set (i := 2) sc_law_blown.nd rfl (Or.inl rfl) (pe_op op_add_str (pe_op op_add_str (pv 2) (pv 3)) (pe_op op_mulS pe_str (pe_op op_mul (pe_d D_law_roll hr (by decide) (pa_cons (pv 0) (pa_cons pe_int pa_nil))) (pe_callTy call_int1 (by rfl) T.b_int (by decide +kernel) (pa_cons (pe_cmpR op_eq (pv 3) pe_str (nomark _)) pa_nil))))))))) (pss_one (ps_ret (pe_op op_add_str (pv 2) (pe_op op_mulS pe_str (pe_d D_law_roll hr (by decide) (pa_cons (pv 0) (pa_cons pe_int pa_nil))))))))), ?_⟩
    refine ⟨_, rfl, _, _, rfl, by decide, by decide, hd, fun r H1 r0 r1 mv => ⟨_, _, rfl, rfl, r0, by omega, by omega, ?_⟩⟩
    refine ⟨_, rfl, x, rfl, for_it walk_str (fun i σ H' => ∃ (z : Str) (u : Option V), σ = [some (.ref d), some (.str x), some (.str z), u] ∧ Sgn (tl z) ∧ z.length ≤ 1 + 2 * i ∧ wf (tl z) = wf ((tl x).take i) ∧ Moved d H H')
      ⟨_, none, rfl, ?_, ?_, ?_, mv⟩ (fun _ _ _ _ _ => trivial) ?_ ?_⟩
    · rw [tl_sp]
      exact Sgn.rep (by omega)
    · rw [repl]
      omega
    · rw [tl_sp]
      unfold wf
      rw [map_rep_sp]
      exact fold_sp _ _
    · rintro i v σ H2 H3 hi ⟨z, u, rfl, hz, hzl, hw, mv2⟩ ⟨rfl, c, hc, rfl⟩
      have hcx := cps_get hc
      have cs : 32 ≤ c ∧ c ≤ 126 := hx.1 c (List.mem_of_getElem? hcx)
      have hi2 : i < 40 := by
        rw [cps_size, ← len_tl] at hi
        omega
      have sgc : Sgn (tl (sgnS c)) := Sgn.mk cs Sgn.nil
      have lgc : (sgnS c).length = 1 := rfl
      refine ⟨_, rfl, _, _, rfl, by decide, by decide, mv2.2, fun r2 H4 _ _ mv3 => ⟨rfl, _, rfl, ?_⟩⟩
      -- the sign in one of its two writings
      have up : ∃ c', Txt.upper (sgnS c) = sgnS c' ∧ (32 ≤ c' ∧ c' ≤ 126) ∧ lo1 c' = lo1 c := ⟨up1 c, ext_tl (by rw [tl_upper sgc]; rfl), up1_sgn cs, lo1_up1 c⟩
      have lw : ∃ c', Txt.lower (sgnS c) = sgnS c' ∧ (32 ≤ c' ∧ c' ≤ 126) ∧ lo1 c' = lo1 c := ⟨lo1 c, ext_tl (by rw [tl_lower sgc]; rfl), lo1_sgn cs, lo1_lo1 c⟩
      -- what the turn leaves, whatever the writing
      have fin : ∀ (c' : Nat) (n : Int), (32 ≤ c' ∧ c' ≤ 126) → lo1 c' = lo1 c → 0 ≤ n → n ≤ 1 → (n ≠ 0 → c' = 32) →
          Sgn (tl ((z ++ sgnS c') ++ repS " " n)) ∧ ((z ++ sgnS c') ++ repS " " n).length ≤ 1 + 2 * (i + 1) ∧ wf (tl ((z ++ sgnS c') ++ repS " " n)) = wf ((tl x).take (i + 1)) := by
        intro c' n h1 h2 n0 n1 h3
        rw [len_tl, tl_append, tl_append, tl_sp]
        have e1 : tl (sgnS c') = [c'] := rfl
        rw [e1]
        refine ⟨(hz.app (Sgn.mk h1 Sgn.nil)).app (Sgn.rep (by omega)), ?_, ?_⟩
        · rw [List.length_append, List.length_append, List.length_replicate, ← len_tl, List.length_singleton]
          omega
        · rw [take_next hcx, wf_app, wf_app, wf_app, hw, map_rep_sp]
          show List.foldl wstep (wstep (wf ((tl x).take i)) (lo1 c')) (List.replicate n.toNat 32) = wstep (wf ((tl x).take i)) (lo1 c)
          rw [h2]
          by_cases n2 : n = 0
          · rw [n2]
            rfl
          · have : lo1 c = 32 := by
              rw [← h2, h3 n2]
              rfl
            rw [this, fold_sp2]
      have isb : ∀ c' : Nat, decide (V.str (sgnS c') = V.str " ") = decide (c' = 32) := fun c' => by
        rw [dstr, tl_blank]
        congr 1
        show ([c'] = [32]) = _
        simp
      refine ite2 (fun _ => ?_) (fun _ => ?_)
      · obtain ⟨c', e, h1, h2⟩ := up
        refine ⟨_, rfl, ⟨_, rfl⟩, _, rfl, rfl, (by show (sgnS c).length ≤ _; rw [lgc]; decide), ?_⟩
        have e' : Txt.upper { cps := #[c] } = sgnS c' := e
        rw [e']
        refine ⟨_, rfl, _, rfl, _, _, rfl, rfl, line_of (by have : (sgnS c').length = 1 := rfl; omega), _, rfl, _, _, rfl, by decide, by decide, mv3.2, fun r3 H5 r30 r31 mv4 => ?_⟩
        refine ⟨_, rfl, rfl, .inr ⟨_, rfl, _, _, rfl, rfl, .inl ⟨by omega, by omega⟩, ?_⟩⟩
        rw [isb]
        have n01 : 0 ≤ r3 * (if decide (c' = 32) = true then 1 else 0) ∧ r3 * (if decide (c' = 32) = true then 1 else 0) ≤ 1 ∧ (r3 * (if decide (c' = 32) = true then 1 else 0) ≠ 0 → c' = 32) := by
          by_cases z2 : c' = 32
          · rw [decide_eq_true z2, if_pos rfl]
            exact ⟨by omega, by omega, fun _ => z2⟩
          · rw [decide_eq_false z2, if_neg Bool.false_ne_true]
            exact ⟨by omega, by omega, fun h => absurd (Int.mul_zero r3) h⟩
        obtain ⟨n0, n1, n2⟩ := n01
        obtain ⟨f1, f2, f3⟩ := fin c' _ h1 h2 n0 n1 n2
        refine ⟨_, _, rfl, rfl, n0, by omega, by omega, _, _, rfl, rfl, line_of ?_, ?_⟩
        · rw [repl, len_tl, tl_append, List.length_append, ← len_tl, ← len_tl]
          have : (sgnS c').length = 1 := rfl
          omega
        · exact ⟨_, _, rfl, f1, f2, f3, (mv2.trans mv3).trans mv4⟩
      · obtain ⟨c', e, h1, h2⟩ := lw
        refine ⟨_, rfl, ⟨_, rfl⟩, _, rfl, rfl, (by show (sgnS c).length ≤ _; rw [lgc]; decide), ?_⟩
        have e' : Txt.lower { cps := #[c] } = sgnS c' := e
        rw [e']
        refine ⟨_, rfl, _, rfl, _, _, rfl, rfl, line_of (by have : (sgnS c').length = 1 := rfl; omega), _, rfl, _, _, rfl, by decide, by decide, mv3.2, fun r3 H5 r30 r31 mv4 => ?_⟩
        refine ⟨_, rfl, rfl, .inr ⟨_, rfl, _, _, rfl, rfl, .inl ⟨by omega, by omega⟩, ?_⟩⟩
        rw [isb]
        have n01 : 0 ≤ r3 * (if decide (c' = 32) = true then 1 else 0) ∧ r3 * (if decide (c' = 32) = true then 1 else 0) ≤ 1 ∧ (r3 * (if decide (c' = 32) = true then 1 else 0) ≠ 0 → c' = 32) := by
          by_cases z2 : c' = 32
          · rw [decide_eq_true z2, if_pos rfl]
            exact ⟨by omega, by omega, fun _ => z2⟩
          · rw [decide_eq_false z2, if_neg Bool.false_ne_true]
            exact ⟨by omega, by omega, fun h => absurd (Int.mul_zero r3) h⟩
        obtain ⟨n0, n1, n2⟩ := n01
        obtain ⟨f1, f2, f3⟩ := fin c' _ h1 h2 n0 n1 n2
        refine ⟨_, _, rfl, rfl, n0, by omega, by omega, _, _, rfl, rfl, line_of ?_, ?_⟩
        · rw [repl, len_tl, tl_append, List.length_append, ← len_tl, ← len_tl]
          have : (sgnS c').length = 1 := rfl
          omega
        · exact ⟨_, _, rfl, f1, f2, f3, (mv2.trans mv3).trans mv4⟩
    · rintro σ H2 ⟨z, u, rfl, hz, hzl, hw, mv2⟩
      rw [cps_size, List.take_length] at hw
      rw [cps_size, ← len_tl] at hzl
      refine ⟨_, rfl, _, rfl, _, _, rfl, by decide, by decide, mv2.2, fun r3 H5 r30 r31 mv4 => ?_⟩
      refine ⟨_, _, rfl, rfl, r30, by omega, by omega, _, _, rfl, rfl, line_of (by rw [repl]; omega), ?_⟩
      have ts : Sgn (tl (z ++ repS " " r3)) := by
        rw [tl_append, tl_sp]
        exact hz.app (Sgn.rep (by omega))
      refine q _ _ ⟨ts, ?_⟩ ?_ (mv2.trans mv4)
      · rw [len_tl, tl_append, List.length_append, ← len_tl, ← len_tl, repl]
        omega
      · refine ext_tl ?_
        rw [tl_normS ts, tl_normS hx.1, normL_wf, normL_wf, tl_append, tl_sp, wf_app, map_rep_sp, wfin_sp, hw]
end
end Bw

namespace Bw
open PySem PySem.Spec L2 TL PyProof.Rows
open NumText (AllDigits digitsVal)

theorem kd_at {i : Nat} {v : V} (h : ([.str "exact", .str "flag", .str "link", .str "number", .str "text"] : List V)[i]? = some v) : ∃ k : Kd, v = .str k.str := by
  match i, h with
  | 0, h => exact ⟨.exact, (Option.some.inj h).symm⟩
  | 1, h => exact ⟨.flag, (Option.some.inj h).symm⟩
  | 2, h => exact ⟨.link, (Option.some.inj h).symm⟩
  | 3, h => exact ⟨.number, (Option.some.inj h).symm⟩
  | 4, h => exact ⟨.text, (Option.some.inj h).symm⟩
  | i + 5, h => exact absurd h (by simp)
theorem dec_rep (a b : Bool) (h : a = b) : (!decide (V.str (if a then "True" else "False") = V.str (if b then "True" else "False"))) = false := by
  rw [h, decide_eq_true rfl]
  rfl
def spTR : Sp := fun vs H Q _ => ∃ (d : Addr) (x : Str), vs = [.ref d, .str x] ∧ IsTx x ∧ DiceAt H d ∧ ∀ H', Moved d H H' → Q (.bl true) H'
theorem ov_none (o : Option Str) : (!decide (ov o = V.non)) = o.isSome := by
  cases o with
  | none => rfl
  | some x => rfl
theorem dec_ovov (a b : Option Str) : decide (ov a = ov b) = decide (a = b) := by
  rw [Bool.eq_iff_iff, decide_eq_true_eq, decide_eq_true_eq]
  exact ov_inj
theorem scal_oo (a b : Option Str) : scal (ov a) (ov b) = true := by cases a <;> cases b <;> rfl
section
variable {P : Program} {w : World} {K : PySem.W.Frag} {mg : Str → Option Value} {base : Heap} {f : Addr} {fd : FuncData} {aK aO aP : Addr}
theorem ok_law_text_right (F : Fun K "_law_text_right" "_law_text_right" s_law_text_right f fd) (T : Txt K mg aK aO aP)
    (D_law_due : Dfn P w K mg base "_law_due" 2 ["_law_kind", "_law_text"] spDue) (D_is_fit : Dfn P w K mg base "is_fit" 6 ["kind", "value"] (spFit K)) (D_is_form : Dfn P w K mg base "is_form" 6 ["kind", "value"] (spForm K))
    (D_form_of : Dfn P w K mg base "form_of" 6 ["kind", "text"] spKnown) (D_law_blown : Dfn P w K mg base "_law_blown" 2 ["_law_dice_here", "_law_text"] spBlown) :
    FnOk P w K mg base CX0 7 f fd ["_law_dice_here", "_law_text"] spTR := by
  refine F.ok sc_law_text_right (fun vs H Q E h => ?_) (fun cdv A outer s H vs Q E hr h => ?_)
  · obtain ⟨d, x, rfl, _⟩ := h
    rfl
  · obtain ⟨d, x, rfl, hx, hd, q⟩ := h
    have hl := hx.2
    refine ⟨_, (pss_cons (ps_for PassesOwn.never rfl (pi_tup (pe_glob (v := .ref aK) rfl T.g_KINDS rfl)) (pg_name (i := 2) sc_law_text_right.nd rfl (Or.inl rfl)) (pss_cons (ps_set (i := 3) sc_law_text_right.nd rfl (Or.inl rfl) (pe_ifExp (pt_cmpR op_ne (pv 1) pe_str (nomark _)) (pe_d D_law_due hr (by decide) (pa_cons (pv 2) (pa_cons (pv 1) pa_nil))) pe_non)) (pss_cons (ps_if (pt_cmpR op_ne (pe_callB call_repr_bl (by rfl) T.b_repr (by decide +kernel) (pa_cons (pe_d D_is_fit hr (by decide) (pa_cons (pv 2) (pa_cons (pv 1) pa_nil))) pa_nil)) (pe_callB call_repr_bl (by rfl) T.b_repr (by decide +kernel) (pa_cons (pe_cmpR op_notN (pv 3) pe_non (nomark _)) pa_nil)) (nomark _)) (pss_one (ps_ret pe_bl)) pss_nil) (pss_cons (ps_if (PW.pt (pw_and (pt_cmpR op_ne (pv 1) pe_str (nomark _)) (pw_and1 (pt_cmpR op_ne (pe_d D_form_of hr (by decide) (pa_cons (pv 2) (pa_cons (pv 1) pa_nil))) (pv 3) (nomark _))))) (pss_one (ps_ret pe_bl)) pss_nil) (pss_cons (ps_if (pt_cmpR op_ne (pe_callB call_repr_bl (by rfl) T.b_repr (by decide +kernel) (pa_cons (pe_d D_is_form hr (by decide) (pa_cons (pv 2) (pa_cons (pv 1) pa_nil))) pa_nil)) (pe_callB call_repr_bl (by rfl) T.b_repr (by decide +kernel) (pa_cons (pe_and (pe_cmpR op_notN (pv 3) pe_non (nomark _)) (pe_one (pe_cmpR op_eq (pv 3) (pv 1) (nomark _)))) pa_nil)) (nomark _)) (pss_one (ps_ret pe_bl)) pss_nil) (pss_one (ps_if (PW.pt (pw_and (pt_cmpR op_notN (pv 3) pe_non (nomark _)) (pw_and1 (PW.pt (pw_or (pt_cmpR op_ne (pe_d D_form_of hr (by decide) (pa_cons (pv 2) (pa_cons (pv 3) pa_nil))) (pv 3) (nomark _)) (pw_or1 (pt_cmpR op_isnot_bl (pe_d D_is_form hr (by decide) (pa_cons (pv 2) (pa_cons (pv 3) pa_nil))) pe_bl (nomark _)))))))) (pss_one (ps_ret pe_bl)) pss_nil))))))) (pss_cons (ps_set (i := 3) sc_law_text_right.nd rfl (Or.inl rfl) (pe_d D_law_due hr (by decide) (pa_cons pe_str (pa_cons (pv 1) pa_nil)))) (pss_one (ps_ret (pe_or (pe_cmpR op_isN (pv 3) pe_non (nomark _)) (pe_or (pe_cmpR op_gt (pe_callB call_len_str (by rfl) T.b_len (by decide +kernel) (pa_cons (pv 1) pa_nil)) pe_int (nomark _)) (pe_one (pe_cmpR op_eq (pe_d D_form_of hr (by decide) (pa_cons pe_str (pa_cons (pe_d D_law_blown hr (by decide) (pa_cons (pv 0) (pa_cons (pv 1) pa_nil))) pa_nil))) (pv 3) (nomark _))))))))), ?_⟩
    have dx : ∀ y : Str, (!decide (V.str y = V.str "")) = decide (y ≠ "") := fun y => by
      rw [decide_not]
      congr 1
      rw [Bool.eq_iff_iff, decide_eq_true_eq, decide_eq_true_eq]
      exact ⟨fun z => by injection z, fun z => by rw [z]⟩
    have itx : isTx x = decide (x ≠ "") := by
      rw [Bool.eq_iff_iff, decide_eq_true_eq, isTx_iff]
      exact ⟨fun z => z.2, fun z => ⟨hx, z⟩⟩
    refine ⟨aK, rfl, ⟨_, T.s_KINDS H⟩, for_it (walk_tup (K := K) (a := aK) (xs := [.str "exact", .str "flag", .str "link", .str "number", .str "text"])) (fun i σ H' => ∃ u v : Option V, σ = [some (.ref d), some (.str x), u, v] ∧ Same H H')
      ⟨none, none, rfl, Same.refl H⟩ (fun _ _ H' _ _ => T.s_KINDS H') ?_ ?_⟩
    · rintro i v σ H1 H2 hi ⟨u, u2, rfl, sm⟩ ⟨rfl, hv⟩
      obtain ⟨k, rfl⟩ := kd_at hv
      -- due_here = due(kind, text) if text != '' else None
      refine ⟨_, rfl, rfl, _, rfl, ?_⟩
      rw [dx]
      by_cases hz : x = ""
      · -- the empty text: nothing is due
        have hd0 : decide (x ≠ "") = false := decide_eq_false (fun z => z hz)
        rw [hd0]
        refine iteF ?_
        refine ⟨_, rfl, _, rfl, k, _, rfl, .inl ⟨x, rfl, line_of (by omega), fun H2 sm2 => ?_⟩⟩
        rw [itx, hd0]
        refine ⟨_, rfl, _, rfl, rfl, _, rfl, rfl, _, rfl, ?_⟩
        refine iteF ⟨_, rfl, rfl, _, rfl, ?_⟩
        rw [dx, hd0]
        refine iteF (iteF ?_)
        refine ⟨_, rfl, _, rfl, k, _, rfl, .inl ⟨x, rfl, line_of (by omega), fun H3 sm3 => ?_⟩⟩
        rw [itx, hd0]
        refine ⟨_, rfl, _, rfl, rfl, _, rfl, iteF ⟨_, rfl, rfl, _, rfl, ?_⟩⟩
        refine iteF ⟨_, rfl, rfl, _, rfl, iteF (iteF ?_)⟩
        exact ⟨_, _, rfl, (sm.trans sm2).trans sm3⟩
      · have hd0 : decide (x ≠ "") = true := decide_eq_true hz
        rw [hd0]
        refine iteT ⟨_, rfl, _, rfl, k, x, rfl, hx, fun H2 sm2 => ?_⟩
        refine ⟨_, rfl, _, rfl, k, _, rfl, .inl ⟨x, rfl, line_of (by omega), fun H3 sm3 => ?_⟩⟩
        rw [itx, hd0, Bool.true_and]
        refine ⟨_, rfl, _, rfl, rfl, _, rfl, rfl, _, rfl, ?_⟩
        rw [ov_none, dec_rep _ _ rfl]
        refine iteF ⟨_, rfl, rfl, _, rfl, ?_⟩
        rw [dx, hd0]
        refine iteT ⟨_, rfl, _, rfl, k, x, rfl, hx, hz, fun H4 sm4 => ⟨_, rfl, scal_oo _ _, _, rfl, ?_⟩⟩
        rw [decide_eq_true rfl]
        refine iteF ?_
        refine ⟨_, rfl, _, rfl, k, _, rfl, .inl ⟨x, rfl, line_of (by omega), fun H5 sm5 => ?_⟩⟩
        rw [itx, hd0, Bool.true_and]
        refine ⟨_, rfl, _, rfl, rfl, _, rfl, ?_⟩
        rw [ov_none]
        have smA := ((((sm.trans sm2).trans sm3).trans sm4).trans sm5)
        cases e : kform k x with
        | none =>
          refine iteF ⟨_, rfl, rfl, _, rfl, ?_⟩
          refine iteF ⟨_, rfl, rfl, _, rfl, iteF (iteF ?_)⟩
          exact ⟨_, _, rfl, smA⟩
        | some y =>
          obtain ⟨hy, hy0, hyk⟩ := kform_tx hx hz e
          have hyl := hy.2
          refine iteT ⟨_, rfl, _, rfl, rfl, _, rfl, rfl, _, rfl, ?_⟩
          have e2 : decide (ov (some y) = V.str x) = decide ((some y : Option Str) = some x) := dec_ov _ _
          rw [e2, dec_rep _ _ rfl]
          refine iteF ⟨_, rfl, rfl, _, rfl, ?_⟩
          refine iteT ⟨_, rfl, _, rfl, k, y, rfl, hy, hy0, fun H6 sm6 => ⟨_, rfl, scal_oo _ _, _, rfl, ?_⟩⟩
          rw [hyk, decide_eq_true rfl]
          refine iteF ⟨_, rfl, _, rfl, k, _, rfl, .inl ⟨y, rfl, line_of (by omega), fun H7 sm7 => ?_⟩⟩
          rw [(isTx_iff y).mpr ⟨hy, hy0⟩, hyk, decide_eq_true rfl]
          refine ⟨_, _, rfl, rfl, _, rfl, iteF ?_⟩
          exact ⟨_, _, rfl, (smA.trans sm6).trans sm7⟩
    · rintro σ H1 ⟨u, u2, rfl, sm⟩
      have hd1 := hd.same sm
      refine ⟨_, rfl, .text, x, rfl, hx, fun H2 sm2 => ?_⟩
      have q2 := q H2 ((Moved.same hd sm).trans (Moved.same hd1 sm2))
      refine ⟨_, rfl, rfl, _, rfl, ?_⟩
      cases e : kform .text x with
      | none => exact iteT q2
      | some y =>
        refine iteF ⟨_, rfl, _, rfl, line_of (by omega), _, _, rfl, rfl, _, rfl, ?_⟩
        refine ite2 (fun _ => q2) (fun h40 => ?_)
        have h40' : x.length ≤ 40 := by
          have := of_decide_eq_false (Bool.not_eq_true _ ▸ h40)
          omega
        refine ⟨_, rfl, _, rfl, d, x, rfl, hx, h40', hd1.same sm2, fun z H3 hz ez mv => ?_⟩
        have e3 : (if normS x = "" then none else some (normS x)) = some y := e
        have hz0 : z ≠ "" := by
          intro z0
          rw [z0] at ez
          rw [← ez] at e3
          rw [if_pos (by decide +kernel)] at e3
          cases e3
        have ek : kform .text z = some y := by
          show (if normS z = "" then none else some (normS z)) = _
          rw [ez]
          exact e3
        refine ⟨.text, z, rfl, hz, hz0, fun H4 sm4 => ⟨_, rfl, scal_oo _ _, ?_⟩⟩
        rw [ek, decide_eq_true rfl]
        exact q H4 ((((Moved.same hd sm).trans (Moved.same hd1 sm2)).trans mv).trans (Moved.same mv.2 sm4))
end
end Bw

namespace Bw
open PySem PySem.Spec L2 TL PyProof.Rows
open NumText (AllDigits digitsVal)

def Ordd (k : Kd) : Prop := k = .exact ∨ k = .number ∨ k = .text
theorem ord_mem {v : V} (h : v ∈ ([.str "exact", .str "number", .str "text"] : List V)) : ∃ k : Kd, Ordd k ∧ v = .str k.str := by
  simp only [List.mem_cons, List.not_mem_nil, or_false] at h
  rcases h with rfl | rfl | rfl
  · exact ⟨.exact, .inl rfl, rfl⟩
  · exact ⟨.number, .inr (.inl rfl), rfl⟩
  · exact ⟨.text, .inr (.inr rfl), rfl⟩
/-- a form of the kind -/
def Gf (k : Kd) (f : Str) : Prop := IsTx f ∧ f ≠ "" ∧ kform k f = some f
def keepO (o : Option Str) : Bool := o.isSome
def gotS (l : List (Option Str)) : List Str := l.filterMap id
theorem gotS_app (l m : List (Option Str)) : gotS (l ++ m) = gotS l ++ gotS m := by
  unfold gotS
  rw [List.filterMap_append]
theorem dxx (y : Str) : (!decide (V.str y = V.str "")) = decide (y ≠ "") := by
  rw [decide_not]
  congr 1
  rw [Bool.eq_iff_iff, decide_eq_true_eq, decide_eq_true_eq]
  exact ⟨fun z => by injection z, fun z => by rw [z]⟩
def spOR : Sp := fun vs H Q _ => ∃ d : Addr, vs = [.ref d] ∧ DiceAt H d ∧ ∀ H', Moved d H H' → Q (.bl true) H'
section
variable {P : Program} {w : World} {K : PySem.W.Frag} {mg : Str → Option Value} {base : Heap} {f : Addr} {fd : FuncData} {aK aO aP : Addr}
theorem ok_law_order_right (F : Fun K "_law_order_right" "_law_order_right" s_law_order_right f fd) (T : Txt K mg aK aO aP) (D_law_one_of : Dfn P w K mg base "_law_one_of" 2 ["_law_dice_here", "_law_items"] spOne)
    (D_law_due : Dfn P w K mg base "_law_due" 2 ["_law_kind", "_law_text"] spDue) (D_law_near_number : Dfn P w K mg base "_law_near_number" 3 ["_law_dice_here"] (spDraw 40 fun _ => True))
    (D_law_signs : Dfn P w K mg base "_law_signs" 3 ["_law_dice_here"] (spDraw 19 fun _ => True)) (D_is_less : Dfn P w K mg base "is_less" 7 ["kind", "one", "other"] spLess) :
    FnOk P w K mg base CX0 8 f fd ["_law_dice_here"] spOR := by
  refine F.ok sc_law_order_right (fun vs H Q E h => ?_) (fun cdv A outer s H vs Q E hr h => ?_)
  · obtain ⟨d, rfl, _⟩ := h
    rfl
  · obtain ⟨d, rfl, hd, q⟩ := h
    refine ⟨_, (pss_cons (ps_set (i := 1) sc_law_order_right.nd rfl (Or.inr rfl) (pe_d D_law_one_of hr (by decide) (pa_cons (pv 0) (pa_cons (pe_callTy call_list_of (by rfl) T.b_list (by decide +kernel) (pa_cons (pe_glob (v := .ref aO) rfl T.g_ORDERED rfl) pa_nil)) pa_nil)))) (pss_cons (ps_set (i := 2) sc_law_order_right.nd rfl (Or.inl rfl) (pe_lst (pa_cons (pe_d D_law_near_number hr (by decide) (pa_cons (pv 0) pa_nil)) (pa_cons (pe_d D_law_signs hr (by decide) (pa_cons (pv 0) pa_nil)) (pa_cons pe_str (pa_cons pe_str (pa_cons pe_str (pa_cons pe_str (pa_cons pe_str (pa_cons (pe_d D_law_near_number hr (by decide) (pa_cons (pv 0) pa_nil)) pa_nil)))))))))) (pss_cons (ps_setLc (i := 3) (own := [("_law_text", 7)]) (g := gName 7) (by rfl) sc_law_order_right.nd rfl rfl (sw_true rfl rfl rfl (by decide +kernel)) (pi_list (pv 2)) (blkOk_by (own := [("_law_text", 7)]) (N := n_law_order_right) (sc := defScope s_law_order_right) (by decide +kernel)) (fun _ _ _ _ _ => pg_name (i := 7) sc_law_order_right.nd rfl (Or.inl rfl)) (fun _ _ _ _ _ => (pts_one (pt_cmpR op_ne (pv 7) pe_str (nomark _)))) (fun _ _ _ _ _ => (pe_d D_law_due hr (by decide) (pa_cons (pv 1) (pa_cons (pv 7) pa_nil))))) (pss_cons (ps_setLc (i := 3) (own := [("_law_form", 8)]) (g := gName 8) (by rfl) sc_law_order_right.nd rfl rfl (sw_true rfl rfl rfl (by decide +kernel)) (pi_list (pv 3)) (blkOk_by (own := [("_law_form", 8)]) (N := n_law_order_right) (sc := defScope s_law_order_right) (by decide +kernel)) (fun _ _ _ _ _ => pg_name (i := 8) sc_law_order_right.nd rfl (Or.inl rfl)) (fun _ _ _ _ _ => (pts_one (pt_cmpR op_notN (pv 8) pe_non (nomark _)))) (fun _ _ _ _ _ => (pv 8))) (pss_cons (ps_for PassesOwn.never rfl (pi_list (pv 3)) (pg_name (i := 4) sc_law_order_right.nd rfl (Or.inl rfl)) (pss_one (ps_for PassesOwn.never rfl (pi_list (pv 3)) (pg_name (i := 5) sc_law_order_right.nd rfl (Or.inl rfl)) (pss_cons (ps_set (i := 6) sc_law_order_right.nd rfl (Or.inl rfl) (pe_ifExp (pt_cmpR op_eq (pv 1) pe_str (nomark _)) (pe_cmpR op_lt (pe_callTy call_int_str (by rfl) T.b_int (by decide +kernel) (pa_cons (pv 4) pa_nil)) (pe_callTy call_int_str (by rfl) T.b_int (by decide +kernel) (pa_cons (pv 5) pa_nil)) (nomark _)) (pe_cmpR op_lt_str (pv 4) (pv 5) (nomark _)))) (pss_one (ps_if (pt_cmpR op_ne (pe_callB call_repr_bl (by rfl) T.b_repr (by decide +kernel) (pa_cons (pe_d D_is_less hr (by decide) (pa_cons (pv 1) (pa_cons (pv 4) (pa_cons (pv 5) pa_nil)))) pa_nil)) (pe_callB call_repr_bl (by rfl) T.b_repr (by decide +kernel) (pa_cons (pv 6) pa_nil)) (nomark _)) (pss_one (ps_ret pe_bl)) pss_nil)))))) (pss_one (ps_ret pe_bl))))))), ?_⟩
    refine ⟨_, rfl, aO, _, rfl, .inr (T.s_ORDERED H), fun l hl => ?_⟩
    have nld : l ≠ d := (hd.ne hl).symm
    refine ⟨d, l, _, rfl, upd_same, nld, by simp, by simp, hd.same (same_new hl), fun v H1 hv mv1 => ?_⟩
    obtain ⟨k, hk, rfl⟩ := ord_mem hv
    -- the texts
    refine ⟨_, rfl, d, rfl, mv1.2, fun x1 H2 t1 _ mv2 => ⟨_, rfl, d, rfl, mv2.2, fun x2 H3 t2 _ mv3 => ⟨_, rfl, d, rfl, mv3.2, fun x3 H4 t3 _ mv4 => ⟨(by show 8 ≤ sizeLine; decide), fun l2 hl2 => ?_⟩⟩⟩⟩
    have mvA : Moved d H (upd H4 l2 (.lst ([x1, x2, "-3", "10", "9", "a", "b", x3].map V.str))) := (((((Moved.same hd (same_new hl)).trans mv1).trans mv2).trans mv3).trans mv4).trans (Moved.same mv4.2 (same_new hl2))
    have hS : (upd H4 l2 (.lst ([x1, x2, "-3", "10", "9", "a", "b", x3].map V.str))) l2 = some (.lst ([x1, x2, "-3", "10", "9", "a", "b", x3].map V.str)) := upd_same
    have allT : ∀ x ∈ [x1, x2, "-3", "10", "9", "a", "b", x3], IsTx x := by
      intro x hx
      simp only [List.mem_cons, List.not_mem_nil, or_false] at hx
      rcases hx with rfl | rfl | rfl | rfl | rfl | rfl | rfl | rfl
      · exact t1.mono (by decide)
      · exact t2.mono (by decide)
      · exact (show Tn 100 _ by decide +kernel)
      · exact (show Tn 100 _ by decide +kernel)
      · exact (show Tn 100 _ by decide +kernel)
      · exact (show Tn 100 _ by decide +kernel)
      · exact (show Tn 100 _ by decide +kernel)
      · exact t3.mono (by decide)
    have hSl : ([x1, x2, "-3", "10", "9", "a", "b", x3] : List Str).length = 8 := rfl
    show tSeq _ _ _ _ (upd H4 l2 (.lst ([x1, x2, "-3", "10", "9", "a", "b", x3].map V.str)))
    generalize hHA : upd H4 l2 (.lst ([x1, x2, "-3", "10", "9", "a", "b", x3].map V.str)) = HA at mvA hS ⊢
    generalize [x1, x2, "-3", "10", "9", "a", "b", x3] = xs at hS allT hSl
    clear hHA
    -- forms = [due(kind, text) for text in some if text != '']
    refine ⟨_, rfl, l2, rfl, ⟨_, SqL.of hS⟩, fun D hD => lc_it (walk_list (K := K) (a := l2) (xs := xs.map V.str)) (fun i H' => Same HA H' ∧ ∃ acc : List (Option Str), H' D = some (.lst (acc.map ov)) ∧ acc.length ≤ i ∧ ∀ o ∈ acc, ∀ g, o = some g → Gf k g)
      ⟨same_new hD, [], upd_same, Nat.le_refl _, fun o ho => absurd ho (by simp)⟩ (fun i H' _ h => SqL.of (h.1 _ _ hS)) ?_ ?_⟩
    · rintro i v H5 H6 hi ⟨sm, acc, hA, hlen, hacc⟩ ⟨rfl, hv⟩
      rw [List.length_map, hSl] at hi
      rw [List.getElem?_map] at hv
      cases e : xs[i]? with
      | none =>
        rw [e] at hv
        cases hv
      | some y =>
        rw [e] at hv
        have hv' : V.str y = v := Option.some.inj hv
        subst hv'
        have hy := allT y (List.mem_of_getElem? e)
        refine ⟨rfl, _, rfl, rfl, _, rfl, ?_⟩
        rw [dxx]
        by_cases hz : y = ""
        · rw [show decide (y ≠ "") = false from decide_eq_false (fun z => z hz)]
          exact iteF ⟨sm, acc, hA, by omega, hacc⟩
        · rw [show decide (y ≠ "") = true from decide_eq_true hz]
          refine iteT ⟨_, rfl, _, rfl, k, y, rfl, hy, fun H7 sm7 => ⟨_, sm7 _ _ hA, ?_, ⟨fun b o hb => ?_, acc ++ [kform k y], ?_, ?_, ?_⟩⟩⟩
          · rw [List.length_map]
            exact small1000 (by omega)
          · rw [upd_ne (ne_of_none hb hD)]
            exact sm7 _ _ (sm b o hb)
          · rw [upd_same, List.map_append]
            rfl
          · rw [List.length_append, List.length_singleton]
            omega
          · intro o ho g eg
            rcases List.mem_append.mp ho with z | z
            · exact hacc o z g eg
            · rw [List.mem_singleton.mp z] at eg
              exact kform_tx hy hz eg
    · rintro H5 ⟨sm, acc, hA, hlen, hacc⟩
      rw [List.length_map, hSl] at hlen
      -- forms = [form for form in forms if form is not None]
      refine ⟨_, rfl, D, rfl, ⟨_, SqL.of hA⟩, fun D2 hD2 => lc_it (walk_list (K := K) (a := D) (xs := acc.map ov)) (fun i H' => Same H5 H' ∧ H' D2 = some (.lst ((gotS (acc.take i)).map V.str)))
        ⟨same_new hD2, upd_same⟩ (fun i H' _ h => SqL.of (h.1 _ _ hA)) ?_ ?_⟩
      · rintro i v H6 H7 hi ⟨sm6, hB⟩ ⟨rfl, hv⟩
        rw [List.getElem?_map] at hv
        cases e : acc[i]? with
        | none =>
          rw [e] at hv
          cases hv
        | some o =>
          rw [e] at hv
          have hv' : ov o = v := Option.some.inj hv
          subst hv'
          have tk := take_next e
          refine ⟨rfl, _, rfl, rfl, _, rfl, ?_⟩
          rw [ov_none]
          cases o with
          | none =>
            refine iteF ⟨sm6, ?_⟩
            rw [hB, tk, gotS_app]
            simp [gotS]
          | some g =>
            refine iteT ⟨_, rfl, _, hB, ?_, fun b o hb => ?_, ?_⟩
            · rw [List.length_map]
              have h1 : (gotS (acc.take i)).length ≤ (acc.take i).length := List.length_filterMap_le _ _
              have h2 := List.length_take_le' i acc
              exact small1000 (by omega)
            · rw [upd_ne (ne_of_none hb hD2)]
              exact sm6 b o hb
            · rw [upd_same, tk, gotS_app, List.map_append]
              rfl
      · rintro H6 ⟨sm6, hB⟩
        rw [List.length_map, List.take_length] at hB
        have good : ∀ g ∈ gotS acc, Gf k g := fun g hg => by
          obtain ⟨o, ho, eo⟩ := List.mem_filterMap.mp hg
          exact hacc o ho g eo
        generalize gotS acc = fs at hB good
        have mvB : Moved d H H6 := mvA.trans (Moved.same mvA.2 (sm.trans sm6))
        -- the two loops
        refine ⟨_, rfl, D2, rfl, ⟨_, SqL.of hB⟩, for_it (walk_list (K := K) (a := D2) (xs := fs.map V.str)) (fun i σ H' => Same H6 H' ∧ ∃ a1 a2 a3 a4 a5 : Option V, σ = [some (.ref d), some (.str k.str), some (.ref l2), some (.ref D2), a1, a2, a3, a4, a5])
          ⟨Same.refl _, _, _, _, _, _, rfl⟩ (fun i σ H' _ h => SqL.of (h.1 _ _ hB)) ?_ ?_⟩
        · rintro i v σ H7 H8 hi ⟨sm7, a1, a2, a3, a4, a5, rfl⟩ ⟨rfl, hv⟩
          rw [List.getElem?_map] at hv
          cases e : fs[i]? with
          | none =>
            rw [e] at hv
            cases hv
          | some one =>
            rw [e] at hv
            have hv' : V.str one = v := Option.some.inj hv
            subst hv'
            obtain ⟨ha1, ha2, ha3⟩ := good one (List.mem_of_getElem? e)
            have hal := ha1.2
            refine ⟨_, rfl, D2, rfl, ⟨_, SqL.of (sm7 _ _ hB)⟩, for_it (walk_list (K := K) (a := D2) (xs := fs.map V.str)) (fun i σ H' => Same H6 H' ∧ ∃ a2 a3 a4 a5 : Option V, σ = [some (.ref d), some (.str k.str), some (.ref l2), some (.ref D2), some (.str one), a2, a3, a4, a5])
              ⟨sm7, _, _, _, _, rfl⟩ (fun i σ H' _ h => SqL.of (h.1 _ _ hB)) ?_ ?_⟩
            · rintro j v σ H9 H10 hj ⟨sm9, b2, b3, b4, b5, rfl⟩ ⟨rfl, hv⟩
              rw [List.getElem?_map] at hv
              cases e2 : fs[j]? with
              | none =>
                rw [e2] at hv
                cases hv
              | some other =>
                rw [e2] at hv
                have hv' : V.str other = v := Option.some.inj hv
                subst hv'
                obtain ⟨hb1, hb2, hb3⟩ := good other (List.mem_of_getElem? e2)
                have hbl := hb1.2
                -- due = int(one) < int(other) if kind == 'number' else one < other
                refine tIf_val (decide (k = .number)) (.bl (lessF k one other)) (fun R r => ⟨_, rfl, rfl, _, rfl, ?_⟩) (fun hn R r => ?_) (fun hn R r => ?_) ?_
                · rw [show decide (V.str k.str = V.str "number") = decide (k = .number) from kk k .number]
                  exact r
                · have hn' := of_decide_eq_true hn
                  subst hn'
                  exact ⟨_, rfl, one, _, rfl, int_of_fit ha1 ha3, by omega, _, rfl, other, _, rfl, int_of_fit hb1 hb3, by omega, _, _, rfl, rfl, r⟩
                · have hn' := of_decide_eq_false hn
                  unfold lessF at r
                  rw [if_neg hn'] at r
                  exact ⟨_, rfl, _, rfl, _, _, rfl, rfl, r⟩
                · refine ⟨_, rfl, _, rfl, _, rfl, k, one, other, rfl, hk, ha1, ha2, hb1, hb2, ha3, hb3, fun H11 sm11 => ⟨_, rfl, _, rfl, _, rfl, rfl, _, rfl, ?_⟩⟩
                  rw [dec_rep _ _ rfl]
                  exact iteF ⟨sm9.trans sm11, _, _, _, _, rfl⟩
            · rintro σ H9 ⟨sm9, b2, b3, b4, b5, rfl⟩
              exact ⟨sm9, _, _, _, _, _, rfl⟩
        · rintro σ H7 ⟨sm7, a1, a2, a3, a4, a5, rfl⟩
          exact q H7 (mvB.trans (Moved.same mvB.2 sm7))
end
end Bw

namespace Bw
open PySem PySem.Spec L2 TL PyProof.Rows
open NumText (AllDigits digitsVal)

theorem Same.moved {H0 H1 H2 : Hp} {d : Addr} (s : Same H0 H1) (n : H0 d = none) (m : Moved d H1 H2) : Same H0 H2 := fun b o h => m.1 b o (ne_of_none h n) (s b o h)
def spLaw (K : PySem.W.Frag) : Sp := fun vs H Q _ => ∃ (a : Addr) (ns : List Int), vs = [.ref a] ∧ SqL K H a (ns.map V.int) ∧ ns.length ≤ 63 ∧ ∀ H', Q (.bl true) H'
/-- a value that is no text -/
def Odd (K : PySem.W.Frag) (H : Hp) (v : V) : Prop := (∃ x, v = .str x ∧ x.length ≤ 1000 ∧ isTx x = false) ∨ NotStr K H v
theorem Odd.up {K : PySem.W.Frag} {H H' : Hp} {v : V} (e : Same H H') (h : Odd K H v) : Odd K H' v := by
  rcases h with h | h
  · exact .inl h
  · exact .inr (h.up e)
theorem aa_tx (r : Int) (h0 : 0 ≤ r) (h1 : r < 2) : IsTx (repS "a" (99 + r)) := by
  have : r = 0 ∨ r = 1 := by omega
  rcases this with rfl | rfl
  · exact (show Tn 100 (repS "a" (99 + 0)) by decide +kernel)
  · exact (show Tn 100 (repS "a" (99 + 1)) by decide +kernel)
section
variable {P : Program} {w : World} {K : PySem.W.Frag} {mg : Str → Option Value} {base : Heap} {f : Addr} {fd : FuncData} {aK aO aP : Addr}
theorem ok_law (F : Fun K "law" "law" s_law f fd) (T : Txt K mg aK aO aP) (D_law_dice : Dfn P w K mg base "_law_dice" 1 ["_law_script", "_law_at"] (spDice K))
    (D_law_roll : Dfn P w K mg base "_law_roll" 1 ["_law_dice_here", "_law_total"] spRoll) (D_law_one_of : Dfn P w K mg base "_law_one_of" 2 ["_law_dice_here", "_law_items"] spOne)
    (D_law_near_number : Dfn P w K mg base "_law_near_number" 3 ["_law_dice_here"] (spDraw 40 fun _ => True)) (D_law_signs : Dfn P w K mg base "_law_signs" 3 ["_law_dice_here"] (spDraw 19 fun _ => True))
    (D_law_text_right : Dfn P w K mg base "_law_text_right" 7 ["_law_dice_here", "_law_text"] spTR) (D_law_order_right : Dfn P w K mg base "_law_order_right" 8 ["_law_dice_here"] spOR)
    (D_is_fit : Dfn P w K mg base "is_fit" 6 ["kind", "value"] (spFit K)) (D_is_form : Dfn P w K mg base "is_form" 6 ["kind", "value"] (spForm K)) (D_form_of : Dfn P w K mg base "form_of" 6 ["kind", "text"] spKnown) :
    FnOk P w K mg base CX0 9 f fd ["_law_script"] (spLaw K) := by
  obtain ⟨t0, gV⟩ := T.g_value
  refine F.ok sc_law (fun vs H Q E h => ?_) (fun cdv A outer s H vs Q E hr h => ?_)
  · obtain ⟨a, ns, rfl, _⟩ := h
    rfl
  · obtain ⟨a, ns, rfl, hS, hlen, q⟩ := h
    refine ⟨_, (pss_cons (ps_for PassesOwn.never rfl (pi_range1 (by rfl) T.b_range (pa_cons (pe_callB (call_max2 rfl) (by rfl) T.b_max (by decide +kernel) (pa_cons pe_int (pa_cons (pe_callB (call_min2 rfl) (by rfl) T.b_min (by decide +kernel) (pa_cons pe_int (pa_cons (pe_callB call_len_seq (by rfl) T.b_len (by decide +kernel) (pa_cons (pv 0) pa_nil)) pa_nil))) pa_nil))) pa_nil)) (pg_name (i := 1) sc_law.nd rfl (Or.inl rfl)) (pss_cons (ps_set (i := 2) sc_law.nd rfl (Or.inl rfl) (pe_d D_law_dice hr (by decide) (pa_cons (pv 0) (pa_cons (pv 1) pa_nil)))) (pss_cons (ps_for PassesOwn.never rfl (pi_range1 (by rfl) T.b_range (pa_cons pe_int pa_nil)) (pg_name (i := 3) sc_law.nd rfl (Or.inl rfl)) (pss_one (ps_for PassesOwn.never rfl (pi_list (pe_lst (pa_cons (pe_d D_law_signs hr (by decide) (pa_cons (pv 2) pa_nil)) (pa_cons (pe_d D_law_near_number hr (by decide) (pa_cons (pv 2) pa_nil)) (pa_cons (pe_op op_mulS pe_str (pe_op op_add pe_int (pe_d D_law_roll hr (by decide) (pa_cons (pv 2) (pa_cons pe_int pa_nil))))) pa_nil))))) (pg_name (i := 4) sc_law.nd rfl (Or.inl rfl)) (pss_one (ps_if (pt_not (pt_val (pe_d D_law_text_right hr (by decide) (pa_cons (pv 2) (pa_cons (pv 4) pa_nil))))) (pss_one (ps_ret pe_bl)) pss_nil))))) (pss_cons (ps_if (pt_not (pt_val (pe_d D_law_order_right hr (by decide) (pa_cons (pv 2) pa_nil)))) (pss_one (ps_ret pe_bl)) pss_nil) (pss_cons (ps_set (i := 5) sc_law.nd rfl (Or.inr rfl) (pe_d D_law_one_of hr (by decide) (pa_cons (pv 2) (pa_cons (pe_lst (pa_cons pe_non (pa_cons pe_int (pa_cons pe_bl (pa_cons (pe_tup pa_nil) (pa_cons (pe_lst (pa_cons pe_str pa_nil)) (pa_cons pe_dnewK (pa_cons pe_str (pa_cons (pe_op op_mulS pe_str pe_int) (pa_cons pe_str pa_nil)))))))))) pa_nil)))) (pss_one (ps_if (pt_cmpR (op_neD hr.units) (pe_lc (own := [("_law_kind", 7)]) (g := gName 7) (by rfl) sc_law.nd (pi_tup (pe_glob (v := .ref aK) rfl T.g_KINDS rfl)) (blkOk_by (own := [("_law_kind", 7)]) (N := n_law) (sc := defScope s_law) (by decide +kernel)) (fun _ _ _ _ _ => pg_name (i := 7) sc_law.nd rfl (Or.inl rfl)) (fun _ _ _ _ _ => (pts_one (PW.pt (pw_or (pt_cmpR op_isnot_bl (pe_d D_is_fit hr (by decide) (pa_cons (pv 7) (pa_cons (pv 5) pa_nil))) pe_bl (nomark _)) (pw_or1 (pt_cmpR op_isnot_bl (pe_d D_is_form hr (by decide) (pa_cons (pv 7) (pa_cons (pv 5) pa_nil))) pe_bl (nomark _))))))) (fun _ _ _ _ _ => (pv 7))) (pe_lst pa_nil) (nomark _)) (pss_one (ps_ret pe_bl)) pss_nil))))))) (pss_cons (ps_set (i := 6) sc_law.nd rfl (Or.inl rfl) (pe_lst (pa_cons (pe_d D_form_of hr (by decide) (pa_cons pe_str (pa_cons pe_str pa_nil))) (pa_cons (pe_d D_form_of hr (by decide) (pa_cons pe_str (pa_cons pe_str pa_nil))) (pa_cons (pe_d D_form_of hr (by decide) (pa_cons pe_str (pa_cons pe_str pa_nil))) (pa_cons (pe_glob (v := .int 1000000000000000) rfl gV ⟨_, rfl⟩) pa_nil)))))) (pss_cons (ps_if (PW.pt (pw_or (pt_cmpR (op_neD hr.units) (pv 6) (pe_lst (pa_cons pe_str (pa_cons pe_non (pa_cons pe_non (pa_cons (pe_op op_pow pe_int pe_int) pa_nil))))) (nomark _)) (pw_or1 (pt_cmpR (op_neD hr.units) (pe_glob (v := .ref aK) rfl T.g_KINDS rfl) (pe_tup (pa_cons pe_str (pa_cons pe_str (pa_cons pe_str (pa_cons pe_str (pa_cons pe_str pa_nil)))))) (nomark _))))) (pss_one (ps_ret pe_bl)) pss_nil) (pss_one (ps_ret (pe_and (pe_cmpR (op_eqD hr.units) (pe_glob (v := .ref aO) rfl T.g_ORDERED rfl) (pe_tup (pa_cons pe_str (pa_cons pe_str (pa_cons pe_str pa_nil)))) (nomark _)) (pe_one (pe_cmpR (op_eqD hr.units) (pe_glob (v := .ref aP) rfl T.g_PIECED rfl) (pe_tup (pa_cons pe_str (pa_cons pe_str pa_nil))) (nomark _))))))))), ?_⟩
    have hl2 : (ns.map V.int).length ≤ 63 := by
      rw [List.length_map]
      exact hlen
    refine ⟨_, rfl, a, _, rfl, .inl hS, _, _, rfl, _, _, rfl, _, rfl, (by split <;> (try split) <;> omega), (by split <;> (try split) <;> omega),
      for_it walk_range (fun i σ H' => Same H H' ∧ ∃ a1 a2 a3 a4 a5 a6 a7 : Option V, σ = [some (.ref a), a1, a2, a3, a4, a5, a6, a7]) ⟨Same.refl H, _, _, _, _, _, _, _, rfl⟩ (fun _ _ _ _ _ => trivial) ?_ ?_⟩
    · rintro i v σ H1 H2 hi ⟨sm, a1, a2, a3, a4, a5, a6, a7, rfl⟩ ⟨rfl, rfl⟩
      -- dice_here = dice(script, at)
      refine ⟨_, rfl, _, rfl, a, ns, i, (by show [V.ref a, V.int (0 + (i : Int))] = _; rw [Int.zero_add]), sm.seq hS, fun p H2 hp sm2 hd => ?_⟩
      have hp0 : H p = none := sm.free hp
      have smB : Same H H2 := sm.trans sm2
      refine ⟨3, rfl, by decide, by decide, for_it walk_range (fun j σ H' => Moved p H2 H' ∧ ∃ a3 a4 a5 a6 a7 : Option V, σ = [some (.ref a), some (.int (0 + (i : Int))), some (.ref p), a3, a4, a5, a6, a7]) ⟨Moved.refl hd, _, _, _, _, _, rfl⟩ (fun _ _ _ _ _ => trivial) ?_ ?_⟩
      · rintro j v σ H3 H3' hj ⟨mv3, c3, c4, c5, c6, c7, rfl⟩ ⟨rfl, rfl⟩
        refine ⟨_, rfl, p, rfl, mv3.2, fun x1 H4 t1 _ mv4 => ⟨_, rfl, p, rfl, mv4.2, fun x2 H5 t2 _ mv5 => ⟨_, rfl, _, _, rfl, by decide, by decide, mv5.2, fun r H6 r0 r1 mv6 => ⟨_, _, rfl, rfl, _, _, rfl, rfl, by omega, by omega, by decide +kernel, (by show 3 ≤ sizeLine; decide), fun l hl => ?_⟩⟩⟩⟩
        have mvA : Moved p H2 (upd H6 l (.lst ([x1, x2, repS "a" (99 + r)].map V.str))) := (((mv3.trans mv4).trans mv5).trans mv6).trans (Moved.same mv6.2 (same_new hl))
        refine ⟨l, rfl, ⟨_, SqL.of upd_same⟩, for_it (walk_list (K := K) (a := l) (xs := [x1, x2, repS "a" (99 + r)].map V.str)) (fun m σ H' => Moved p H2 H' ∧ H' l = some (.lst ([x1, x2, repS "a" (99 + r)].map V.str)) ∧ ∃ a3 a4 a5 a6 a7 : Option V, σ = [some (.ref a), some (.int (0 + (i : Int))), some (.ref p), a3, a4, a5, a6, a7])
          ⟨mvA, upd_same, _, _, _, _, _, rfl⟩ (fun _ _ _ _ h => SqL.of h.2.1) ?_ ?_⟩
        · rintro m v σ H7 H8 hm ⟨mv7, hL, e3, e4, e5, e6, e7, rfl⟩ ⟨rfl, hv⟩
          obtain ⟨x, rfl, hx⟩ : ∃ x, v = .str x ∧ IsTx x := by
            match m, hv with
            | 0, hv => exact ⟨x1, (Option.some.inj hv).symm, t1.mono (by decide)⟩
            | 1, hv => exact ⟨x2, (Option.some.inj hv).symm, t2.mono (by decide)⟩
            | 2, hv => exact ⟨_, (Option.some.inj hv).symm, aa_tx r r0 r1⟩
            | m + 3, hv => exact absurd hv (by simp)
          have nlp : l ≠ p := (mv6.2.ne hl).symm
          refine ⟨_, rfl, _, rfl, p, x, rfl, hx, mv7.2, fun H9 mv9 => ⟨true, rfl, iteF ⟨mv7.trans mv9, mv9.1 l _ nlp hL, _, _, _, _, _, rfl⟩⟩⟩
        · rintro σ H7 ⟨mv7, hL, e3, e4, e5, e6, e7, rfl⟩
          exact ⟨mv7, _, _, _, _, _, rfl⟩
      · rintro σ H3 ⟨mv3, c3, c4, c5, c6, c7, rfl⟩
        refine ⟨_, rfl, p, rfl, mv3.2, fun H4 mv4 => ⟨true, rfl, iteF ?_⟩⟩
        have mvC := mv3.trans mv4
        -- odd = one_of(dice, [..])
        refine ⟨_, rfl, Nat.zero_le _, fun p1 hp1 => ⟨(by show 1 ≤ sizeLine; decide), fun p2 hp2 => fun p3 hp3 => ⟨_, _, rfl, rfl, by decide, by decide, by decide +kernel, (by show 9 ≤ sizeLine; decide), fun l hl => ?_⟩⟩⟩
        have s1 : Same H4 (upd H4 p1 (.tup [])) := same_new hp1
        have s2 : Same (upd H4 p1 (.tup [])) (upd (upd H4 p1 (.tup [])) p2 (.lst [.str "a"])) := same_new hp2
        have s3 : Same (upd (upd H4 p1 (.tup [])) p2 (.lst [.str "a"])) (upd (upd (upd H4 p1 (.tup [])) p2 (.lst [.str "a"])) p3 (.dK [])) := same_new hp3
        have hdl := ((mv4.2.same s1).same s2).same s3
        have nlp : l ≠ p := (hdl.ne hl).symm
        refine ⟨p, l, _, rfl, upd_same, nlp, by simp, by simp, hdl.same (same_new hl), fun v H5 hv mv5 => ?_⟩
        have np1 : p1 ≠ p := (mv4.2.ne hp1).symm
        have np2 : p2 ≠ p := ((mv4.2.same s1).ne hp2).symm
        have np3 : p3 ≠ p := (((mv4.2.same s1).same s2).ne hp3).symm
        have hodd : Odd K H5 v := by
          have o1 : H5 p1 = some (.tup []) := mv5.1 _ _ np1 (same_new hl _ _ (s3 _ _ (s2 _ _ upd_same)))
          have o2 : H5 p2 = some (.lst [.str "a"]) := mv5.1 _ _ np2 (same_new hl _ _ (s3 _ _ upd_same))
          have o3 : H5 p3 = some (.dK []) := mv5.1 _ _ np3 (same_new hl _ _ upd_same)
          simp only [List.mem_cons, List.not_mem_nil, or_false] at hv
          rcases hv with rfl | rfl | rfl | rfl | rfl | rfl | rfl | rfl | rfl
          · exact .inr ⟨_, .base .non, kit_ty (by decide +kernel)⟩
          · exact .inr ⟨_, .base (.int 0), kit_ty (by decide +kernel)⟩
          · exact .inr ⟨_, .base (.bl true), kit_ty (by decide +kernel)⟩
          · exact .inr ⟨_, .base (.tup o1), kit_ty (by decide +kernel)⟩
          · exact .inr ⟨_, .base (.lst o2), kit_ty (by decide +kernel)⟩
          · exact .inr ⟨_, .base (.dK o3), kit_ty (by decide +kernel)⟩
          · exact .inl ⟨_, rfl, by decide +kernel, by decide +kernel⟩
          · exact .inl ⟨_, rfl, by decide +kernel, by decide +kernel⟩
          · exact .inl ⟨_, rfl, by decide +kernel, by decide +kernel⟩
        have mvD : Moved p H2 H5 := (mvC.trans (Moved.same mvC.2 (((s1.trans s2).trans s3).trans (same_new hl)))).trans mv5
        -- [kind for kind in KINDS if ..] != []
        refine ⟨aK, rfl, ⟨_, T.s_KINDS H5⟩, fun D hD => lc_it (walk_tup (K := K) (a := aK) (xs := [.str "exact", .str "flag", .str "link", .str "number", .str "text"])) (fun m H' => Same H5 H' ∧ H' D = some (.lst [])) ⟨same_new hD, upd_same⟩ (fun _ H' _ _ => T.s_KINDS H') ?_ ?_⟩
        · rintro m u H6 H7 hm ⟨sm6, hE⟩ ⟨rfl, hu⟩
          obtain ⟨k, rfl⟩ := kd_at hu
          refine ⟨rfl, ?_⟩
          rcases hodd.up sm6 with ⟨x, rfl, hxl, hx⟩ | ns'
          · refine ⟨_, rfl, _, rfl, k, _, rfl, .inl ⟨x, rfl, line_of (by omega), fun H8 sm8 => ?_⟩⟩
            rw [hx]
            refine ⟨_, _, rfl, rfl, _, rfl, iteF ?_⟩
            refine ⟨_, rfl, _, rfl, k, _, rfl, .inl ⟨x, rfl, line_of (by omega), fun H9 sm9 => ?_⟩⟩
            rw [hx]
            exact ⟨_, _, rfl, rfl, _, rfl, iteF ⟨(sm6.trans sm8).trans sm9, sm9 _ _ (sm8 _ _ hE)⟩⟩
          · refine ⟨_, rfl, _, rfl, k, _, rfl, .inr ⟨ns', fun H8 sm8 => ⟨_, _, rfl, rfl, _, rfl, iteF ?_⟩⟩⟩
            exact ⟨_, rfl, _, rfl, k, _, rfl, .inr ⟨ns'.up sm8, fun H9 sm9 => ⟨_, _, rfl, rfl, _, rfl, iteF ⟨(sm6.trans sm8).trans sm9, sm9 _ _ (sm8 _ _ hE)⟩⟩⟩⟩
        · rintro H6 ⟨sm6, hE⟩
          refine ⟨Nat.zero_le _, fun r hr2 => ⟨_, _, dp_nil ((same_new hr2) _ _ hE), dp_nil upd_same, rfl, rfl, _, rfl, iteF ?_⟩⟩
          exact ⟨Same.moved smB hp0 (mvD.trans (Moved.same mvD.2 (sm6.trans (same_new hr2)))), _, _, _, _, _, _, _, rfl⟩
    · rintro σ H1 ⟨sm, a1, a2, a3, a4, a5, a6, a7, rfl⟩
      have k1 : kform .text "  Red  Ink " = some "red ink" := by decide +kernel
      have k2 : kform .text "  " = none := by decide +kernel
      have k3 : kform .number "-0" = none := by decide +kernel
      refine ⟨.text, "  Red  Ink ", rfl, (show Tn 100 _ by decide +kernel), by decide +kernel, fun H2 s2 => ⟨.text, "  ", rfl, (show Tn 100 _ by decide +kernel), by decide +kernel, fun H3 s3 => ⟨.number, "-0", rfl, (show Tn 100 _ by decide +kernel), by decide +kernel, fun H4 s4 => ⟨(by show 4 ≤ sizeLine; decide), fun l hl => ?_⟩⟩⟩⟩
      rw [k1, k2, k3]
      refine ⟨_, rfl, _, _, rfl, rfl, ⟨by decide, by decide, by decide⟩, (by show 4 ≤ sizeLine; decide), fun l2 hl2 => ?_⟩
      refine ⟨_, _, .lst (SqL.of ((same_new hl2) _ _ upd_same)) (.cons (.str _) (.cons .non (.cons .non (.cons (.int _) .nil)))), .lst (SqL.of upd_same) (.cons (.str _) (.cons .non (.cons .non (.cons (.int _) .nil)))), by decide +kernel, by decide +kernel, _, rfl, ?_⟩
      refine iteF ⟨(by show 5 ≤ sizeLine; decide), fun l3 hl3 => ⟨_, _, .tup (T.s_KINDS _) (.cons (.str _) (.cons (.str _) (.cons (.str _) (.cons (.str _) (.cons (.str _) .nil))))), .tup (SqT.of upd_same) (.cons (.str _) (.cons (.str _) (.cons (.str _) (.cons (.str _) (.cons (.str _) .nil))))), by decide +kernel, by decide +kernel, _, rfl, ?_⟩⟩
      refine iteF ⟨(by show 3 ≤ sizeLine; decide), fun l4 hl4 => ⟨_, _, .tup (T.s_ORDERED _) (.cons (.str _) (.cons (.str _) (.cons (.str _) .nil))), .tup (SqT.of upd_same) (.cons (.str _) (.cons (.str _) (.cons (.str _) .nil))), by decide +kernel, by decide +kernel, _, rfl, ?_⟩⟩
      refine iteT ⟨(by show 2 ≤ sizeLine; decide), fun l5 hl5 => ⟨_, _, .tup (T.s_PIECED _) (.cons (.str _) (.cons (.str _) .nil)), .tup (SqT.of upd_same) (.cons (.str _) (.cons (.str _) .nil)), by decide +kernel, by decide +kernel, ?_⟩⟩
      exact q _
end
end Bw

namespace Bw
open PySem PySem.Spec L2 TL PyProof.Rows
/-! ### what the top has left -/
theorem vals_tup {K : PySem.W.Frag} {a : Addr} {d : Option Addr} {its : Array Value} {n : Nat} {sl : Array (Option Value)} {xs : List V} (hk : K.lookup a = some ⟨.type "tuple", d, .seq its n, sl⟩) (hz : its.size ≤ sizeLine) (r : Vals xs its.toList) (H : Hp) : SqT K H a xs :=
  .inr ⟨_, its, n, hk, rfl, rfl, hz, r⟩
theorem rel_str (x : Str) (t : Tok) : RelV (.str x) (.str x t) := ⟨t, rfl⟩
theorem loose_int {h : Heap} {v : Value} {n : Int} {as : List Addr} (r : PySem.W.ReadsLit h v (.int n) as) : ∃ t, v = .int n t := by
  cases r
  exact ⟨_, rfl⟩
theorem txtMk {p : Program} {K : PySem.W.Frag} {h : Heap} {mg : Str → Option Value} {aK aO aP : Addr} {dK dO dP : Option Addr} {nK nO nP : Nat} {sK sO sP : Array (Option Value)} {k1 k2 k3 k4 k5 o1 o2 o3 p1 p2 tt : Tok}
    (XP : PySem.W.XL p [(("MOST_NUMBER" : Str), .int 1000000000000), (("MOST_VALUE" : Str), .int 1000000000000000)] mg h) (KI : K.In h) (NS : h.Ns mainGlobals mg)
    (zlen : PySem.W.nsIn K mainGlobals "len" = some none)
    (zint : PySem.W.nsIn K mainGlobals "int" = some none)
    (zstr : PySem.W.nsIn K mainGlobals "str" = some none)
    (zabs : PySem.W.nsIn K mainGlobals "abs" = some none)
    (zmax : PySem.W.nsIn K mainGlobals "max" = some none)
    (zmin : PySem.W.nsIn K mainGlobals "min" = some none)
    (zrepr : PySem.W.nsIn K mainGlobals "repr" = some none)
    (zrange : PySem.W.nsIn K mainGlobals "range" = some none)
    (zlist : PySem.W.nsIn K mainGlobals "list" = some none)
    (zisinstance : PySem.W.nsIn K mainGlobals "isinstance" = some none)
    (aaK : PySem.W.nsIn K mainGlobals "KINDS" = some (some (.ref aK))) (lK : K.lookup aK = some ⟨.type "tuple", dK, .seq #[.str "exact" k1, .str "flag" k2, .str "link" k3, .str "number" k4, .str "text" k5] nK, sK⟩)
    (aaO : PySem.W.nsIn K mainGlobals "ORDERED" = some (some (.ref aO))) (lO : K.lookup aO = some ⟨.type "tuple", dO, .seq #[.str "exact" o1, .str "number" o2, .str "text" o3] nO, sO⟩)
    (aaP : PySem.W.nsIn K mainGlobals "PIECED" = some (some (.ref aP))) (lP : K.lookup aP = some ⟨.type "tuple", dP, .seq #[.str "exact" p1, .str "text" p2] nP, sP⟩)
    (tx : PySem.W.nsIn K mainGlobals "MOST_TEXT" = some (some (.int 100 tt))) : ∃ aK aO aP : Addr, Txt K mg aK aO aP := by
  obtain ⟨v1, e1, r1⟩ := XP.2.val _ (List.mem_cons_self ..)
  obtain ⟨v2, e2, r2⟩ := XP.2.val _ (List.mem_cons_of_mem _ (List.mem_cons_self ..))
  obtain ⟨t1, rfl⟩ := loose_int r1
  obtain ⟨t2, rfl⟩ := loose_int r2
  exact ⟨aK, aO, aP, {
    b_len := PySem.W.mg_none_of KI NS zlen
    b_int := PySem.W.mg_none_of KI NS zint
    b_str := PySem.W.mg_none_of KI NS zstr
    b_abs := PySem.W.mg_none_of KI NS zabs
    b_max := PySem.W.mg_none_of KI NS zmax
    b_min := PySem.W.mg_none_of KI NS zmin
    b_repr := PySem.W.mg_none_of KI NS zrepr
    b_range := PySem.W.mg_none_of KI NS zrange
    b_list := PySem.W.mg_none_of KI NS zlist
    b_isinstance := PySem.W.mg_none_of KI NS zisinstance
    g_KINDS := PySem.W.mg_of KI NS aaK
    g_ORDERED := PySem.W.mg_of KI NS aaO
    g_PIECED := PySem.W.mg_of KI NS aaP
    s_KINDS := vals_tup lK (by show 5 ≤ sizeLine; decide) (.cons (rel_str _ _) (.cons (rel_str _ _) (.cons (rel_str _ _) (.cons (rel_str _ _) (.cons (rel_str _ _) .nil)))))
    s_ORDERED := vals_tup lO (by show 3 ≤ sizeLine; decide) (.cons (rel_str _ _) (.cons (rel_str _ _) (.cons (rel_str _ _) .nil)))
    s_PIECED := vals_tup lP (by show 2 ≤ sizeLine; decide) (.cons (rel_str _ _) (.cons (rel_str _ _) .nil))
    g_number := ⟨_, e1⟩
    g_value := ⟨_, e2⟩
    g_text := ⟨_, PySem.W.mg_of KI NS tx⟩ }⟩
structure DefAt (K : PySem.W.Frag) (mg : Str → Option Value) (x : Str) (st : Stmt) : Prop where
  ex : ∃ (f : Addr) (fd : FuncData), Fun K x x st f fd ∧ mg x = some (.ref f)
theorem defAt {K : PySem.W.Frag} {h : Heap} {mg : Str → Option Value} {x : Str} {st : Stmt} {f : Addr} {od an : Option Addr} {sl : Array (Option Value)} {oc kV dc pm cd ct : Value} (KI : K.In h) (NS : h.Ns mainGlobals mg)
    (at_ : PySem.W.nsIn K mainGlobals x = some (some (.ref f))) (lk : K.lookup f = some ⟨oc, od, .func (PySem.W.fnOf x x (defArgs st) (defBody st) (defScope st) .none kV dc pm an cd ct), sl⟩)
    (cc : PySem.W.codeIn K cd x = true) (kk : PySem.W.keepIn K (.ref f) = true) : DefAt K mg x st := ⟨f, _, fun_mk (st := st) lk cc kk, PySem.W.mg_of KI NS at_⟩
theorem all_mk {l : PySem.W.OpenLaw} {w : World} {K : PySem.W.Frag} {mg : Str → Option Value} {fa : Addr} (hT : ∃ aK aO aP : Addr, Txt K mg aK aO aP) (hfa : mg "law" = some (.ref fa)) (d_are_signs : DefAt K mg "are_signs" s_are_signs) (d_is_text : DefAt K mg "is_text" s_is_text) (d_need_kind : DefAt K mg "_need_kind" s_need_kind) (d_are_plain_digits : DefAt K mg "are_plain_digits" s_are_plain_digits) (d_fits_number : DefAt K mg "_fits_number" s_fits_number) (d_read_place : DefAt K mg "read_place" s_read_place) (d_read_number : DefAt K mg "read_number" s_read_number) (d_fits_exactly : DefAt K mg "_fits_exactly" s_fits_exactly) (d_known_form : DefAt K mg "known_form" s_known_form) (d_form_of : DefAt K mg "form_of" s_form_of) (d_is_fit : DefAt K mg "is_fit" s_is_fit) (d_is_form : DefAt K mg "is_form" s_is_form) (d_order_key : DefAt K mg "order_key" s_order_key) (d_is_less : DefAt K mg "is_less" s_is_less) (d_law_dice : DefAt K mg "_law_dice" s_law_dice) (d_law_roll : DefAt K mg "_law_roll" s_law_roll) (d_law_one_of : DefAt K mg "_law_one_of" s_law_one_of) (d_law_whole : DefAt K mg "_law_whole" s_law_whole) (d_law_due : DefAt K mg "_law_due" s_law_due) (d_law_signs : DefAt K mg "_law_signs" s_law_signs) (d_law_near_number : DefAt K mg "_law_near_number" s_law_near_number) (d_law_blown : DefAt K mg "_law_blown" s_law_blown) (d_law_text_right : DefAt K mg "_law_text_right" s_law_text_right) (d_law_order_right : DefAt K mg "_law_order_right" s_law_order_right) (d_law : DefAt K mg "law" s_law) :
    ∃ fd : FuncData, (∀ (s : Shared) (v : Value), BindsTo s fd ⟨[v], []⟩ [("_law_script", v)]) ∧ ∀ base : Heap, K.In base → base.Ns mainGlobals mg → FnOk l.prog w K mg base CX0 9 fa fd ["_law_script"] (spLaw K) := by
  obtain ⟨aK, aO, aP, T⟩ := hT
  obtain ⟨f_are_signs, fd_are_signs, F_are_signs, m_are_signs⟩ := d_are_signs.ex
  have b_are_signs := F_are_signs.binds (ps := ["value", "most"]) fun _ _ _ _ _ _ us hl => match us, hl with | [_, _], _ => rfl
  obtain ⟨f_is_text, fd_is_text, F_is_text, m_is_text⟩ := d_is_text.ex
  have b_is_text := F_is_text.binds (ps := ["value"]) fun _ _ _ _ _ _ us hl => match us, hl with | [_], _ => rfl
  obtain ⟨f_need_kind, fd_need_kind, F_need_kind, m_need_kind⟩ := d_need_kind.ex
  have b_need_kind := F_need_kind.binds (ps := ["kind"]) fun _ _ _ _ _ _ us hl => match us, hl with | [_], _ => rfl
  obtain ⟨f_are_plain_digits, fd_are_plain_digits, F_are_plain_digits, m_are_plain_digits⟩ := d_are_plain_digits.ex
  have b_are_plain_digits := F_are_plain_digits.binds (ps := ["signs"]) fun _ _ _ _ _ _ us hl => match us, hl with | [_], _ => rfl
  obtain ⟨f_fits_number, fd_fits_number, F_fits_number, m_fits_number⟩ := d_fits_number.ex
  have b_fits_number := F_fits_number.binds (ps := ["text"]) fun _ _ _ _ _ _ us hl => match us, hl with | [_], _ => rfl
  obtain ⟨f_read_place, fd_read_place, F_read_place, m_read_place⟩ := d_read_place.ex
  have b_read_place := F_read_place.binds (ps := ["signs"]) fun _ _ _ _ _ _ us hl => match us, hl with | [_], _ => rfl
  obtain ⟨f_read_number, fd_read_number, F_read_number, m_read_number⟩ := d_read_number.ex
  have b_read_number := F_read_number.binds (ps := ["signs"]) fun _ _ _ _ _ _ us hl => match us, hl with | [_], _ => rfl
  obtain ⟨f_fits_exactly, fd_fits_exactly, F_fits_exactly, m_fits_exactly⟩ := d_fits_exactly.ex
  have b_fits_exactly := F_fits_exactly.binds (ps := ["kind", "text"]) fun _ _ _ _ _ _ us hl => match us, hl with | [_, _], _ => rfl
  obtain ⟨f_known_form, fd_known_form, F_known_form, m_known_form⟩ := d_known_form.ex
  have b_known_form := F_known_form.binds (ps := ["kind", "text"]) fun _ _ _ _ _ _ us hl => match us, hl with | [_, _], _ => rfl
  obtain ⟨f_form_of, fd_form_of, F_form_of, m_form_of⟩ := d_form_of.ex
  have b_form_of := F_form_of.binds (ps := ["kind", "text"]) fun _ _ _ _ _ _ us hl => match us, hl with | [_, _], _ => rfl
  obtain ⟨f_is_fit, fd_is_fit, F_is_fit, m_is_fit⟩ := d_is_fit.ex
  have b_is_fit := F_is_fit.binds (ps := ["kind", "value"]) fun _ _ _ _ _ _ us hl => match us, hl with | [_, _], _ => rfl
  obtain ⟨f_is_form, fd_is_form, F_is_form, m_is_form⟩ := d_is_form.ex
  have b_is_form := F_is_form.binds (ps := ["kind", "value"]) fun _ _ _ _ _ _ us hl => match us, hl with | [_, _], _ => rfl
  obtain ⟨f_order_key, fd_order_key, F_order_key, m_order_key⟩ := d_order_key.ex
  have b_order_key := F_order_key.binds (ps := ["kind", "form"]) fun _ _ _ _ _ _ us hl => match us, hl with | [_, _], _ => rfl
  obtain ⟨f_is_less, fd_is_less, F_is_less, m_is_less⟩ := d_is_less.ex
  have b_is_less := F_is_less.binds (ps := ["kind", "one", "other"]) fun _ _ _ _ _ _ us hl => match us, hl with | [_, _, _], _ => rfl
  obtain ⟨f_law_dice, fd_law_dice, F_law_dice, m_law_dice⟩ := d_law_dice.ex
  have b_law_dice := F_law_dice.binds (ps := ["_law_script", "_law_at"]) fun _ _ _ _ _ _ us hl => match us, hl with | [_, _], _ => rfl
  obtain ⟨f_law_roll, fd_law_roll, F_law_roll, m_law_roll⟩ := d_law_roll.ex
  have b_law_roll := F_law_roll.binds (ps := ["_law_dice_here", "_law_total"]) fun _ _ _ _ _ _ us hl => match us, hl with | [_, _], _ => rfl
  obtain ⟨f_law_one_of, fd_law_one_of, F_law_one_of, m_law_one_of⟩ := d_law_one_of.ex
  have b_law_one_of := F_law_one_of.binds (ps := ["_law_dice_here", "_law_items"]) fun _ _ _ _ _ _ us hl => match us, hl with | [_, _], _ => rfl
  obtain ⟨f_law_whole, fd_law_whole, F_law_whole, m_law_whole⟩ := d_law_whole.ex
  have b_law_whole := F_law_whole.binds (ps := ["_law_text"]) fun _ _ _ _ _ _ us hl => match us, hl with | [_], _ => rfl
  obtain ⟨f_law_due, fd_law_due, F_law_due, m_law_due⟩ := d_law_due.ex
  have b_law_due := F_law_due.binds (ps := ["_law_kind", "_law_text"]) fun _ _ _ _ _ _ us hl => match us, hl with | [_, _], _ => rfl
  obtain ⟨f_law_signs, fd_law_signs, F_law_signs, m_law_signs⟩ := d_law_signs.ex
  have b_law_signs := F_law_signs.binds (ps := ["_law_dice_here"]) fun _ _ _ _ _ _ us hl => match us, hl with | [_], _ => rfl
  obtain ⟨f_law_near_number, fd_law_near_number, F_law_near_number, m_law_near_number⟩ := d_law_near_number.ex
  have b_law_near_number := F_law_near_number.binds (ps := ["_law_dice_here"]) fun _ _ _ _ _ _ us hl => match us, hl with | [_], _ => rfl
  obtain ⟨f_law_blown, fd_law_blown, F_law_blown, m_law_blown⟩ := d_law_blown.ex
  have b_law_blown := F_law_blown.binds (ps := ["_law_dice_here", "_law_text"]) fun _ _ _ _ _ _ us hl => match us, hl with | [_, _], _ => rfl
  obtain ⟨f_law_text_right, fd_law_text_right, F_law_text_right, m_law_text_right⟩ := d_law_text_right.ex
  have b_law_text_right := F_law_text_right.binds (ps := ["_law_dice_here", "_law_text"]) fun _ _ _ _ _ _ us hl => match us, hl with | [_, _], _ => rfl
  obtain ⟨f_law_order_right, fd_law_order_right, F_law_order_right, m_law_order_right⟩ := d_law_order_right.ex
  have b_law_order_right := F_law_order_right.binds (ps := ["_law_dice_here"]) fun _ _ _ _ _ _ us hl => match us, hl with | [_], _ => rfl
  obtain ⟨f_law, fd_law, F_law, m_law⟩ := d_law.ex
  have b_law := F_law.binds (ps := ["_law_script"]) fun _ _ _ _ _ _ us hl => match us, hl with | [_], _ => rfl
  have e := hfa.symm.trans m_law
  cases e
  refine ⟨fd_law, fun s v => ?_, fun base _ _ => ?_⟩
  · obtain ⟨_, _, _, _, _, _, _, _, _, rfl, _, _⟩ := F_law.ex
    exact .of_eq rfl
  have D_are_signs : Dfn l.prog w K mg base "are_signs" 1 ["value", "most"] _ := ⟨f_are_signs, fd_are_signs, ok_are_signs F_are_signs T, m_are_signs, F_are_signs.kp, b_are_signs⟩
  have D_is_text : Dfn l.prog w K mg base "is_text" 2 ["value"] _ := ⟨f_is_text, fd_is_text, ok_is_text F_is_text T D_are_signs, m_is_text, F_is_text.kp, b_is_text⟩
  have D_need_kind : Dfn l.prog w K mg base "_need_kind" 1 ["kind"] _ := ⟨f_need_kind, fd_need_kind, ok_need_kind F_need_kind T, m_need_kind, F_need_kind.kp, b_need_kind⟩
  have D_are_plain_digits : Dfn l.prog w K mg base "are_plain_digits" 1 ["signs"] _ := ⟨f_are_plain_digits, fd_are_plain_digits, ok_are_plain_digits F_are_plain_digits , m_are_plain_digits, F_are_plain_digits.kp, b_are_plain_digits⟩
  have D_fits_number : Dfn l.prog w K mg base "_fits_number" 2 ["text"] _ := ⟨f_fits_number, fd_fits_number, ok_fits_number F_fits_number T D_are_plain_digits, m_fits_number, F_fits_number.kp, b_fits_number⟩
  have D_read_place : Dfn l.prog w K mg base "read_place" 2 ["signs"] _ := ⟨f_read_place, fd_read_place, ok_read_place F_read_place T D_are_plain_digits, m_read_place, F_read_place.kp, b_read_place⟩
  have D_read_number : Dfn l.prog w K mg base "read_number" 3 ["signs"] _ := ⟨f_read_number, fd_read_number, ok_read_number F_read_number D_read_place, m_read_number, F_read_number.kp, b_read_number⟩
  have D_fits_exactly : Dfn l.prog w K mg base "_fits_exactly" 4 ["kind", "text"] _ := ⟨f_fits_exactly, fd_fits_exactly, ok_fits_exactly F_fits_exactly D_fits_number D_read_number, m_fits_exactly, F_fits_exactly.kp, b_fits_exactly⟩
  have D_known_form : Dfn l.prog w K mg base "known_form" 5 ["kind", "text"] _ := ⟨f_known_form, fd_known_form, ok_known_form F_known_form D_fits_exactly, m_known_form, F_known_form.kp, b_known_form⟩
  have D_form_of : Dfn l.prog w K mg base "form_of" 6 ["kind", "text"] _ := ⟨f_form_of, fd_form_of, ok_form_of F_form_of D_need_kind D_is_text D_known_form, m_form_of, F_form_of.kp, b_form_of⟩
  have D_is_fit : Dfn l.prog w K mg base "is_fit" 6 ["kind", "value"] _ := ⟨f_is_fit, fd_is_fit, ok_is_fit F_is_fit D_need_kind D_is_text D_known_form, m_is_fit, F_is_fit.kp, b_is_fit⟩
  have D_is_form : Dfn l.prog w K mg base "is_form" 6 ["kind", "value"] _ := ⟨f_is_form, fd_is_form, ok_is_form F_is_form D_need_kind D_is_text D_known_form, m_is_form, F_is_form.kp, b_is_form⟩
  have D_order_key : Dfn l.prog w K mg base "order_key" 1 ["kind", "form"] _ := ⟨f_order_key, fd_order_key, ok_order_key F_order_key T, m_order_key, F_order_key.kp, b_order_key⟩
  have D_is_less : Dfn l.prog w K mg base "is_less" 7 ["kind", "one", "other"] _ := ⟨f_is_less, fd_is_less, ok_is_less F_is_less T D_need_kind D_is_form D_order_key, m_is_less, F_is_less.kp, b_is_less⟩
  have D_law_dice : Dfn l.prog w K mg base "_law_dice" 1 ["_law_script", "_law_at"] _ := ⟨f_law_dice, fd_law_dice, ok_law_dice F_law_dice T, m_law_dice, F_law_dice.kp, b_law_dice⟩
  have D_law_roll : Dfn l.prog w K mg base "_law_roll" 1 ["_law_dice_here", "_law_total"] _ := ⟨f_law_roll, fd_law_roll, ok_law_roll F_law_roll T, m_law_roll, F_law_roll.kp, b_law_roll⟩
  have D_law_one_of : Dfn l.prog w K mg base "_law_one_of" 2 ["_law_dice_here", "_law_items"] _ := ⟨f_law_one_of, fd_law_one_of, ok_law_one_of F_law_one_of T D_law_roll, m_law_one_of, F_law_one_of.kp, b_law_one_of⟩
  have D_law_whole : Dfn l.prog w K mg base "_law_whole" 1 ["_law_text"] _ := ⟨f_law_whole, fd_law_whole, ok_law_whole F_law_whole T, m_law_whole, F_law_whole.kp, b_law_whole⟩
  have D_law_due : Dfn l.prog w K mg base "_law_due" 2 ["_law_kind", "_law_text"] _ := ⟨f_law_due, fd_law_due, ok_law_due F_law_due T D_law_whole, m_law_due, F_law_due.kp, b_law_due⟩
  have D_law_signs : Dfn l.prog w K mg base "_law_signs" 3 ["_law_dice_here"] _ := ⟨f_law_signs, fd_law_signs, ok_law_signs F_law_signs T D_law_roll D_law_one_of, m_law_signs, F_law_signs.kp, b_law_signs⟩
  have D_law_near_number : Dfn l.prog w K mg base "_law_near_number" 3 ["_law_dice_here"] _ := ⟨f_law_near_number, fd_law_near_number, ok_law_near_number F_law_near_number T D_law_roll D_law_one_of, m_law_near_number, F_law_near_number.kp, b_law_near_number⟩
  have D_law_blown : Dfn l.prog w K mg base "_law_blown" 2 ["_law_dice_here", "_law_text"] _ := ⟨f_law_blown, fd_law_blown, ok_law_blown F_law_blown T D_law_roll, m_law_blown, F_law_blown.kp, b_law_blown⟩
  have D_law_text_right : Dfn l.prog w K mg base "_law_text_right" 7 ["_law_dice_here", "_law_text"] _ := ⟨f_law_text_right, fd_law_text_right, ok_law_text_right F_law_text_right T D_law_due D_is_fit D_is_form D_form_of D_law_blown, m_law_text_right, F_law_text_right.kp, b_law_text_right⟩
  have D_law_order_right : Dfn l.prog w K mg base "_law_order_right" 8 ["_law_dice_here"] _ := ⟨f_law_order_right, fd_law_order_right, ok_law_order_right F_law_order_right T D_law_one_of D_law_due D_law_near_number D_law_signs D_is_less, m_law_order_right, F_law_order_right.kp, b_law_order_right⟩
  exact ok_law F_law T D_law_dice D_law_roll D_law_one_of D_law_near_number D_law_signs D_law_text_right D_law_order_right D_is_fit D_is_form D_form_of
/-- the law's walk, with what the loose names of the top hold -/
theorem walk {ll : PySem.W.OpenLaw} {qq : Program} {ls : List Str} {XQ : (Str → Option Value) → Heap → Prop} {YQ : World → Heap → Prop} {dd : DefRec} {KK : Params → PySem.W.Frag} (hmost : ll.most = some 63) (hdef : dd.params.defaults = [])
    (hroom : Room 9 callerA) (hin : ∀ (u : World) (hh : Heap), YQ u hh → (KK u.params).In hh)
    (FF : ∀ (u : World) (nm : Str → Option Value) (ff : Addr) (hh : Heap), XQ nm hh → (KK u.params).In hh → hh.Ns mainGlobals nm → nm dd.name = some (.ref ff) →
      ∃ fu : FuncData, (∀ (sh : Shared) (vv : Value), BindsTo sh fu ⟨[vv], []⟩ [("_law_script", vv)]) ∧ ∀ bb : Heap, (KK u.params).In bb → bb.Ns mainGlobals nm → FnOk ll.prog u (KK u.params) nm bb CX0 9 ff fu ["_law_script"] (spLaw (KK u.params))) :
    PySem.W.WalkO qq ls XQ YQ ll.row.toRowW dd [] (fun f vs => PySem.call f vs) :=
  Att.attach_call hmost hdef fun u _ sb nm _ ff _ _ _ _ aa _ nn GG YY _ _ _ hnm hob hin2 hle hgn => by
    have inK := hin u _ YY
    obtain ⟨fu, hbi, hfn⟩ := FF u nm ff _ GG.X inK GG.T.g hnm
    exact law_call inK GG.T.g GG.T.b GG.T.builtins GG.T.nolimit hgn hob hin2 (Nat.le_trans hle (by decide)) hroom hfn hbi (fun HH _ hsq => ⟨aa, nn, rfl, hsq, hle, fun _ => rfl⟩) fun _ _ _ z => z
end Bw
open PySem PySem.W PyProof.Rows in
set_option maxRecDepth 100000 in
set_option maxHeartbeats 0 in
theorem PySem.Challenge.cw_bailiwick_k00_forms_of_all_kinds_holds : PySem.Challenge.rw_bailiwick_k00_forms_of_all_kinds.Holds := by
  w_on; o_law; k_head; (case hw => w_witness2)
  k_fill
  refine Bw.walk (ll := PySem.Challenge.rw_bailiwick_k00_forms_of_all_kinds) rfl rfl ⟨rfl, by decide, by decide⟩ (fun w h Y => PySem.W.kIn_of Y) ?F
  case F =>
    intro w mg fa h XP KX G hmg
    refine' Bw.all_mk (Bw.txtMk XP KX G ?zlen ?zint ?zstr ?zabs ?zmax ?zmin ?zrepr ?zrange ?zlist ?zisinstance ?aaK ?lK ?aaO ?lO ?aaP ?lP ?tx) hmg ?d_are_signs ?d_is_text ?d_need_kind ?d_are_plain_digits ?d_fits_number ?d_read_place ?d_read_number ?d_fits_exactly ?d_known_form ?d_form_of ?d_is_fit ?d_is_form ?d_order_key ?d_is_less ?d_law_dice ?d_law_roll ?d_law_one_of ?d_law_whole ?d_law_due ?d_law_signs ?d_law_near_number ?d_law_blown ?d_law_text_right ?d_law_order_right ?d_law
    (case zlen => k_is)
    (case zint => k_is)
    (case zstr => k_is)
    (case zabs => k_is)
    (case zmax => k_is)
    (case zmin => k_is)
    (case zrepr => k_is)
    (case zrange => k_is)
    (case zlist => k_is)
    (case zisinstance => k_is)
    (case aaK => k_is)
    (case lK => k_is)
    (case aaO => k_is)
    (case lO => k_is)
    (case aaP => k_is)
    (case lP => k_is)
    (case tx => k_is)
    (case d_are_signs => (refine' Bw.defAt KX G ?at_ ?lk ?cc ?kk; (case at_ => k_is); (case lk => k_is); (case cc => k_is); (case kk => k_is)))
    (case d_is_text => (refine' Bw.defAt KX G ?at_ ?lk ?cc ?kk; (case at_ => k_is); (case lk => k_is); (case cc => k_is); (case kk => k_is)))
    (case d_need_kind => (refine' Bw.defAt KX G ?at_ ?lk ?cc ?kk; (case at_ => k_is); (case lk => k_is); (case cc => k_is); (case kk => k_is)))
    (case d_are_plain_digits => (refine' Bw.defAt KX G ?at_ ?lk ?cc ?kk; (case at_ => k_is); (case lk => k_is); (case cc => k_is); (case kk => k_is)))
    (case d_fits_number => (refine' Bw.defAt KX G ?at_ ?lk ?cc ?kk; (case at_ => k_is); (case lk => k_is); (case cc => k_is); (case kk => k_is)))
    (case d_read_place => (refine' Bw.defAt KX G ?at_ ?lk ?cc ?kk; (case at_ => k_is); (case lk => k_is); (case cc => k_is); (case kk => k_is)))
    (case d_read_number => (refine' Bw.defAt KX G ?at_ ?lk ?cc ?kk; (case at_ => k_is); (case lk => k_is); (case cc => k_is); (case kk => k_is)))
    (case d_fits_exactly => (refine' Bw.defAt KX G ?at_ ?lk ?cc ?kk; (case at_ => k_is); (case lk => k_is); (case cc => k_is); (case kk => k_is)))
    (case d_known_form => (refine' Bw.defAt KX G ?at_ ?lk ?cc ?kk; (case at_ => k_is); (case lk => k_is); (case cc => k_is); (case kk => k_is)))
    (case d_form_of => (refine' Bw.defAt KX G ?at_ ?lk ?cc ?kk; (case at_ => k_is); (case lk => k_is); (case cc => k_is); (case kk => k_is)))
    (case d_is_fit => (refine' Bw.defAt KX G ?at_ ?lk ?cc ?kk; (case at_ => k_is); (case lk => k_is); (case cc => k_is); (case kk => k_is)))
    (case d_is_form => (refine' Bw.defAt KX G ?at_ ?lk ?cc ?kk; (case at_ => k_is); (case lk => k_is); (case cc => k_is); (case kk => k_is)))
    (case d_order_key => (refine' Bw.defAt KX G ?at_ ?lk ?cc ?kk; (case at_ => k_is); (case lk => k_is); (case cc => k_is); (case kk => k_is)))
    (case d_is_less => (refine' Bw.defAt KX G ?at_ ?lk ?cc ?kk; (case at_ => k_is); (case lk => k_is); (case cc => k_is); (case kk => k_is)))
    (case d_law_dice => (refine' Bw.defAt KX G ?at_ ?lk ?cc ?kk; (case at_ => k_is); (case lk => k_is); (case cc => k_is); (case kk => k_is)))
    (case d_law_roll => (refine' Bw.defAt KX G ?at_ ?lk ?cc ?kk; (case at_ => k_is); (case lk => k_is); (case cc => k_is); (case kk => k_is)))
    (case d_law_one_of => (refine' Bw.defAt KX G ?at_ ?lk ?cc ?kk; (case at_ => k_is); (case lk => k_is); (case cc => k_is); (case kk => k_is)))
    (case d_law_whole => (refine' Bw.defAt KX G ?at_ ?lk ?cc ?kk; (case at_ => k_is); (case lk => k_is); (case cc => k_is); (case kk => k_is)))
    (case d_law_due => (refine' Bw.defAt KX G ?at_ ?lk ?cc ?kk; (case at_ => k_is); (case lk => k_is); (case cc => k_is); (case kk => k_is)))
    (case d_law_signs => (refine' Bw.defAt KX G ?at_ ?lk ?cc ?kk; (case at_ => k_is); (case lk => k_is); (case cc => k_is); (case kk => k_is)))
    (case d_law_near_number => (refine' Bw.defAt KX G ?at_ ?lk ?cc ?kk; (case at_ => k_is); (case lk => k_is); (case cc => k_is); (case kk => k_is)))
    (case d_law_blown => (refine' Bw.defAt KX G ?at_ ?lk ?cc ?kk; (case at_ => k_is); (case lk => k_is); (case cc => k_is); (case kk => k_is)))
    (case d_law_text_right => (refine' Bw.defAt KX G ?at_ ?lk ?cc ?kk; (case at_ => k_is); (case lk => k_is); (case cc => k_is); (case kk => k_is)))
    (case d_law_order_right => (refine' Bw.defAt KX G ?at_ ?lk ?cc ?kk; (case at_ => k_is); (case lk => k_is); (case cc => k_is); (case kk => k_is)))
    (case d_law => (refine' Bw.defAt KX G ?at_ ?lk ?cc ?kk; (case at_ => k_is); (case lk => k_is); (case cc => k_is); (case kk => k_is)))
