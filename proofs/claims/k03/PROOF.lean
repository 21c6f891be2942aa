import PyProof.Rows.All
import Wide.All
import OpenK.AllK
import Wide.FinOn
import HandS.Text
import HandS.ForMost
import HandS.IsInst
import HandS.StrMore
import HandS.Style
import HandS.RaiseMore
import HandS.Wide
import HandS.TupLe
import HandS.Walk
import KE.GoesMore
import PySem.Challenge.RW_bailiwick_k03_whole_names_written_and_re
set_option Elab.async false
set_option linter.all false
set_option maxRecDepth 100000
set_option maxHeartbeats 4000000
namespace Bw
open PySem L2 TL PyProof.Rows

/-! ### signs -/
def Sgn (l : List Nat) : Prop := ∀ c ∈ l, 32 ≤ c ∧ c ≤ 126
theorem Sgn.lt {l : List Nat} (h : Sgn l) : ∀ c ∈ l, c < 128 := fun c hc => by have := h c hc; omega
theorem Sgn.app {l m : List Nat} (h : Sgn l) (k : Sgn m) : Sgn (l ++ m) := fun c hc => by
  rcases List.mem_append.mp hc with q | q
  · exact h c q
  · exact k c q
theorem Sgn.nil : Sgn [] := fun c hc => absurd hc (by simp)
theorem Sgn.cons {c : Nat} {l : List Nat} (h : Sgn (c :: l)) : (32 ≤ c ∧ c ≤ 126) ∧ Sgn l := ⟨h c (List.mem_cons_self ..), fun d hd => h d (List.mem_cons_of_mem _ hd)⟩
theorem Sgn.mk {c : Nat} {l : List Nat} (h1 : 32 ≤ c ∧ c ≤ 126) (h : Sgn l) : Sgn (c :: l) := fun d hd => by
  rcases List.mem_cons.mp hd with rfl | q
  · exact h1
  · exact h d q
theorem Sgn.rep {n c : Nat} (h : 32 ≤ c ∧ c ≤ 126) : Sgn (List.replicate n c) := fun d hd => by
  rw [List.eq_of_mem_replicate hd]
  exact h
theorem space_sgn : ∀ c, c < 128 → 32 ≤ c → Unicode.isSpace c = decide (c = 32) := by decide +kernel
theorem print_sgn : ∀ c, c < 128 → Unicode.isPrintable c = decide (32 ≤ c ∧ c ≤ 126) := by decide +kernel
theorem digit_sgn : ∀ c, c < 128 → Unicode.isDigit c = decide (48 ≤ c ∧ c ≤ 57) := by decide +kernel
theorem Sgn.sp {l : List Nat} (h : Sgn l) {c : Nat} (hc : c ∈ l) : Unicode.isSpace c = decide (c = 32) := space_sgn c (h.lt c hc) (h c hc).1
theorem signs_iff (x : Str) : (Txt.isascii x && Txt.isprintable x) = true ↔ Sgn (tl x) := by
  unfold Txt.isascii Txt.isprintable
  rw [Bool.and_eq_true, ← Array.all_toList, ← Array.all_toList, List.all_eq_true, List.all_eq_true]
  constructor
  · rintro ⟨h1, h2⟩ c hc
    have a : c < 128 := of_decide_eq_true (h1 c hc)
    have b := h2 c hc
    rw [print_sgn c a] at b
    exact of_decide_eq_true b
  · intro h
    refine ⟨fun c hc => decide_eq_true (h.lt c hc), fun c hc => ?_⟩
    rw [print_sgn c (h.lt c hc)]
    exact decide_eq_true (h c hc)
theorem lo1_sgn {c : Nat} (h : 32 ≤ c ∧ c ≤ 126) : 32 ≤ lo1 c ∧ lo1 c ≤ 126 := by
  unfold lo1
  split <;> omega
theorem up1_sgn {c : Nat} (h : 32 ≤ c ∧ c ≤ 126) : 32 ≤ up1 c ∧ up1 c ≤ 126 := by
  unfold up1
  split <;> omega
theorem lo1_32 {c : Nat} (h : 32 ≤ c ∧ c ≤ 126) : lo1 c = 32 ↔ c = 32 := by
  unfold lo1
  split <;> omega
theorem lo1_lo1 (c : Nat) : lo1 (lo1 c) = lo1 c := by
  unfold lo1
  split <;> (try split) <;> omega
theorem lo1_up1 (c : Nat) : lo1 (up1 c) = lo1 c := by
  unfold lo1 up1
  split <;> split <;> (try split) <;> omega
theorem Sgn.low {l : List Nat} (h : Sgn l) : Sgn (l.map lo1) := fun c hc => by
  obtain ⟨d, hd, rfl⟩ := List.mem_map.mp hc
  exact lo1_sgn (h d hd)
theorem tl_lower {x : Str} (h : Sgn (tl x)) : tl (Txt.lower x) = (tl x).map lo1 := by
  rw [lower_ascii h.lt]
  show (x.cps.map lo1).toList = _
  rw [Array.toList_map]
theorem tl_upper {x : Str} (h : Sgn (tl x)) : tl (Txt.upper x) = (tl x).map up1 := by
  rw [upper_ascii h.lt]
  show (x.cps.map up1).toList = _
  rw [Array.toList_map]

/-! ### words -/
def wordsL (l : List Nat) : List (List Nat) := wfin (l.foldl wstep ([], []))
def normL (l : List Nat) : List Nat := joinL [32] (wordsL (l.map lo1))
theorem wstep_sp {st : List (List Nat) × List Nat} : wstep st 32 = if st.2 = [] then st else (st.1 ++ [st.2], []) := by
  unfold wstep
  rw [if_pos (show Unicode.isSpace 32 = true by decide +kernel)]
theorem wstep_ne {st : List (List Nat) × List Nat} {c : Nat} (h : 32 ≤ c ∧ c ≤ 126) (hc : c ≠ 32) : wstep st c = (st.1, st.2 ++ [c]) := by
  unfold wstep
  rw [space_sgn c (by omega) h.1, decide_eq_false hc]
  exact if_neg (by simp)
/-- the parts between blanks, the empty ones left out -/
theorem filter_spl : ∀ (l acc : List Nat) (ws : List (List Nat)), Sgn l → ws ++ (spl [32] 0 acc l).filter (fun p => !p.isEmpty) = wfin (l.foldl wstep (ws, acc))
  | [], acc, ws, _ => by
    rw [spl_nil]
    show _ = if acc = [] then ws else ws ++ [acc]
    cases acc with
    | nil => simp
    | cons a r => simp
  | c :: r, acc, ws, h => by
    obtain ⟨hc, hr⟩ := h.cons
    rw [List.foldl_cons]
    by_cases e : c = 32
    · subst e
      rw [spl_hit (S := [32]) (acc := acc) (r := r) (c := 32) (by unfold pre; simp), wstep_sp]
      show ws ++ List.filter _ (acc :: spl [32] 0 [] r) = _
      cases acc with
      | nil =>
        rw [if_pos rfl, List.filter_cons_of_neg (by simp)]
        exact filter_spl r [] ws hr
      | cons a q =>
        rw [if_neg (by simp), List.filter_cons_of_pos (by simp)]
        have := filter_spl r [] (ws ++ [a :: q]) hr
        rw [← this, List.append_assoc]
        rfl
    · rw [spl_miss (pre_of_head [] r e), wstep_ne hc e]
      exact filter_spl r (acc ++ [c]) ws hr
theorem low_wstep {st : List (List Nat) × List Nat} {c : Nat} (h : 32 ≤ c ∧ c ≤ 126) :
    wstep (st.1.map (·.map lo1), st.2.map lo1) (lo1 c) = ((wstep st c).1.map (·.map lo1), (wstep st c).2.map lo1) := by
  by_cases e : c = 32
  · subst e
    rw [show lo1 32 = 32 from rfl, wstep_sp, wstep_sp]
    obtain ⟨ws, u⟩ := st
    cases u with
    | nil => simp
    | cons a r => simp
  · rw [wstep_ne h e, wstep_ne (lo1_sgn h) (fun q => e ((lo1_32 h).mp q))]
    simp
theorem low_fold : ∀ (l : List Nat) (st : List (List Nat) × List Nat), Sgn l →
    (l.map lo1).foldl wstep (st.1.map (·.map lo1), st.2.map lo1) = ((l.foldl wstep st).1.map (·.map lo1), (l.foldl wstep st).2.map lo1)
  | [], _, _ => rfl
  | c :: r, st, h => by
    rw [List.map_cons, List.foldl_cons, List.foldl_cons, low_wstep h.cons.1, low_fold r _ h.cons.2]
theorem low_wfin (st : List (List Nat) × List Nat) : wfin (st.1.map (·.map lo1), st.2.map lo1) = (wfin st).map (·.map lo1) := by
  obtain ⟨ws, u⟩ := st
  unfold wfin
  cases u <;> simp
theorem wordsL_low {l : List Nat} (h : Sgn l) : wordsL (l.map lo1) = (wordsL l).map (·.map lo1) := by
  unfold wordsL
  have e := low_fold l ([], []) h
  have e2 : (l.map lo1).foldl wstep ([], []) = _ := e
  rw [e2, low_wfin]
theorem joinL_map : ∀ ps : List (List Nat), joinL [32] (ps.map (·.map lo1)) = (joinL [32] ps).map lo1
  | [] => rfl
  | [p] => rfl
  | p :: q :: r => by
    show p.map lo1 ++ ([32] ++ joinL [32] ((q :: r).map (·.map lo1))) = (p ++ ([32] ++ joinL [32] (q :: r))).map lo1
    rw [joinL_map (q :: r), List.map_append, List.map_append]
    rfl
theorem normL_eq {l : List Nat} (h : Sgn l) : normL l = (joinL [32] (wordsL l)).map lo1 := by
  unfold normL
  rw [wordsL_low h, joinL_map]
/-! words are no blanks, and made of the signs -/
def Wd (P : Nat → Prop) (ws : List (List Nat)) : Prop := ∀ p ∈ ws, p ≠ [] ∧ ∀ c ∈ p, c ≠ 32 ∧ P c
theorem wfold_wd {P : Nat → Prop} : ∀ (l : List Nat) (st : List (List Nat) × List Nat), Sgn l → (∀ c ∈ l, P c) → Wd P st.1 → (∀ c ∈ st.2, c ≠ 32 ∧ P c) →
    Wd P (l.foldl wstep st).1 ∧ ∀ c ∈ (l.foldl wstep st).2, c ≠ 32 ∧ P c
  | [], _, _, _, h1, h2 => ⟨h1, h2⟩
  | c :: r, st, h, hp, h1, h2 => by
    rw [List.foldl_cons]
    have hr : ∀ d ∈ r, P d := fun d hd => hp d (List.mem_cons_of_mem _ hd)
    by_cases e : c = 32
    · subst e
      rw [wstep_sp]
      by_cases e2 : st.2 = []
      · rw [if_pos e2]
        exact wfold_wd r st h.cons.2 hr h1 h2
      · rw [if_neg e2]
        refine wfold_wd r _ h.cons.2 hr (fun p hq => ?_) (fun d hd => absurd hd (by simp))
        rcases List.mem_append.mp hq with q | q
        · exact h1 p q
        · rw [List.mem_singleton.mp q]
          exact ⟨e2, h2⟩
    · rw [wstep_ne h.cons.1 e]
      refine wfold_wd r _ h.cons.2 hr h1 (fun d hd => ?_)
      rcases List.mem_append.mp hd with q | q
      · exact h2 d q
      · rw [List.mem_singleton.mp q]
        exact ⟨e, hp c (List.mem_cons_self ..)⟩
theorem wordsL_wd {P : Nat → Prop} {l : List Nat} (h : Sgn l) (hp : ∀ c ∈ l, P c) : Wd P (wordsL l) := by
  obtain ⟨h1, h2⟩ := wfold_wd (P := P) l ([], []) h hp (fun p hq => absurd hq (by simp)) (fun d hd => absurd hd (by simp))
  unfold wordsL wfin
  split
  · exact h1
  · rename_i e2
    intro p hq
    rcases List.mem_append.mp hq with q | q
    · exact h1 p q
    · rw [List.mem_singleton.mp q]
      exact ⟨e2, h2⟩
theorem mem_joinL {P : Nat → Prop} (h32 : P 32) : ∀ {ps : List (List Nat)}, (∀ p ∈ ps, ∀ c ∈ p, P c) → ∀ c ∈ joinL [32] ps, P c
  | [], _, c, hc => absurd hc (by simp [joinL])
  | [p], h, c, hc => h p (List.mem_singleton.mpr rfl) c hc
  | p :: q :: r, h, c, hc => by
    have hc' : c ∈ p ++ ([32] ++ joinL [32] (q :: r)) := hc
    rcases List.mem_append.mp hc' with a | a
    · exact h p (List.mem_cons_self ..) c a
    · rcases List.mem_append.mp a with b | b
      · rw [List.mem_singleton.mp b]
        exact h32
      · exact mem_joinL h32 (fun p' hp' => h p' (List.mem_cons_of_mem _ hp')) c b
theorem joined_sgn {l : List Nat} (h : Sgn l) : Sgn (joinL [32] (wordsL l)) := fun c hc =>
  mem_joinL (P := fun c => 32 ≤ c ∧ c ≤ 126) (by omega) (fun p hp d hd => ((wordsL_wd (P := fun c => 32 ≤ c ∧ c ≤ 126) h h) p hp).2 d hd |>.2) c hc
theorem normL_sgn {l : List Nat} (h : Sgn l) : Sgn (normL l) := by
  unfold normL
  exact joined_sgn h.low
theorem wordsL_join {ps : List (List Nat)} (h : Wd (fun c => 32 ≤ c ∧ c ≤ 126) ps) : wordsL (joinL [32] ps) = ps := by
  cases ps with
  | nil => rfl
  | cons p r =>
    unfold wordsL
    rw [wfold_join (p :: r) [] (by simp) fun q hq => ⟨(h q hq).1, fun c hc => by
      obtain ⟨h1, h2⟩ := (h q hq).2 c hc
      rw [space_sgn c (by omega) h2.1]
      exact decide_eq_false h1⟩]
    rfl
theorem map_lo_id : ∀ {l : List Nat}, (∀ c ∈ l, lo1 c = c) → l.map lo1 = l
  | [], _ => rfl
  | c :: r, h => by
    rw [List.map_cons, h c (List.mem_cons_self ..), map_lo_id fun d hd => h d (List.mem_cons_of_mem _ hd)]
theorem normL_norm {l : List Nat} (h : Sgn l) : normL (normL l) = normL l := by
  have hw := wordsL_wd (P := fun c => (32 ≤ c ∧ c ≤ 126) ∧ lo1 c = c) h.low (fun c hc => ⟨h.low c hc, by
    obtain ⟨d, _, rfl⟩ := List.mem_map.mp hc
    exact lo1_lo1 d⟩)
  have e : (normL l).map lo1 = normL l := map_lo_id (mem_joinL (P := fun c => lo1 c = c) rfl fun p hp c hc => ((hw p hp).2 c hc).2.2)
  show joinL [32] (wordsL ((normL l).map lo1)) = normL l
  rw [e]
  unfold normL
  rw [wordsL_join fun p hp => ⟨(hw p hp).1, fun c hc => ⟨((hw p hp).2 c hc).1, ((hw p hp).2 c hc).2.1⟩⟩]
/-! lengths -/
def wsum (ws : List (List Nat)) : Nat := (ws.map fun p => p.length + 1).sum
theorem wsum_app (ws : List (List Nat)) (p : List Nat) : wsum (ws ++ [p]) = wsum ws + (p.length + 1) := by
  unfold wsum
  rw [List.map_append, List.sum_append]
  simp
theorem wfold_len : ∀ (l : List Nat) (st : List (List Nat) × List Nat), wsum (l.foldl wstep st).1 + (l.foldl wstep st).2.length ≤ wsum st.1 + st.2.length + l.length
  | [], _ => Nat.le_refl _
  | c :: r, st => by
    rw [List.foldl_cons]
    refine Nat.le_trans (wfold_len r (wstep st c)) ?_
    have : wsum (wstep st c).1 + (wstep st c).2.length ≤ wsum st.1 + st.2.length + 1 := by
      unfold wstep
      split
      · split
        · omega
        · show wsum (st.1 ++ [st.2]) + 0 ≤ _
          rw [wsum_app]
          omega
      · show wsum st.1 + (st.2 ++ [c]).length ≤ _
        rw [List.length_append, List.length_singleton]
        omega
    rw [List.length_cons]
    omega
theorem joinL_len : ∀ ps : List (List Nat), (joinL [32] ps).length ≤ wsum ps - 1
  | [] => Nat.le_refl _
  | [p] => by
    show p.length ≤ (p.length + 1 + 0) - 1
    omega
  | p :: q :: r => by
    show (p ++ ([32] ++ joinL [32] (q :: r))).length ≤ _
    have h := joinL_len (q :: r)
    have e : wsum (p :: q :: r) = (p.length + 1) + wsum (q :: r) := by unfold wsum; simp
    have e2 : 1 ≤ wsum (q :: r) := by unfold wsum; simp; omega
    rw [e, List.length_append, List.length_append, List.length_singleton]
    omega
theorem words_len (l : List Nat) : (joinL [32] (wordsL l)).length ≤ l.length := by
  have h := wfold_len l ([], [])
  have h0 : wsum ([] : List (List Nat)) = 0 := rfl
  have hj := joinL_len (wordsL l)
  unfold wordsL wfin at hj ⊢
  simp only [h0, List.length_nil] at h
  split
  · rename_i e
    rw [if_pos e] at hj
    omega
  · rename_i e
    rw [if_neg e, wsum_app] at hj
    have : 0 < (l.foldl wstep ([], [])).2.length := List.length_pos_iff.mpr e
    omega
theorem normL_len (l : List Nat) : (normL l).length ≤ l.length := by
  unfold normL
  refine Nat.le_trans (words_len _) ?_
  rw [List.length_map]
  exact Nat.le_refl _
theorem wordsL_count (l : List Nat) : (wordsL l).length ≤ l.length + 1 := by
  have h := wfold_len l ([], [])
  have h0 : wsum ([] : List (List Nat)) = 0 := rfl
  have hl : ∀ ws : List (List Nat), ws.length ≤ wsum ws := fun ws => by
    induction ws with
    | nil => exact Nat.zero_le _
    | cons p r ih =>
      have e : wsum (p :: r) = (p.length + 1) + wsum r := by unfold wsum; simp
      rw [e, List.length_cons]
      omega
  have h1 := hl (l.foldl wstep ([], [])).1
  simp only [h0, List.length_nil] at h
  unfold wordsL wfin
  split
  · omega
  · rw [List.length_append, List.length_singleton]
    omega
/-! the blown text -/
theorem fold_sp : ∀ (n : Nat) (ws : List (List Nat)), (List.replicate n 32).foldl wstep (ws, []) = (ws, [])
  | 0, _ => rfl
  | n + 1, ws => by
    rw [List.replicate_succ, List.foldl_cons, wstep_sp, if_pos rfl]
    exact fold_sp n ws
theorem fold_sp2 (n : Nat) (st : List (List Nat) × List Nat) : (List.replicate n 32).foldl wstep (wstep st 32) = wstep st 32 := by
  rw [wstep_sp]
  split
  · rename_i e
    obtain ⟨ws, u⟩ := st
    simp only at e
    subst e
    exact fold_sp n ws
  · exact fold_sp n _
theorem wfin_sp (n : Nat) (st : List (List Nat) × List Nat) : wfin ((List.replicate n 32).foldl wstep st) = wfin st := by
  cases n with
  | zero => rfl
  | succ n =>
    rw [List.replicate_succ, List.foldl_cons, fold_sp2, wstep_sp]
    obtain ⟨ws, u⟩ := st
    cases u with
    | nil => rfl
    | cons a r => simp [wfin]
theorem map_rep_sp (n : Nat) : (List.replicate n 32).map lo1 = List.replicate n 32 := by
  rw [List.map_replicate]
  rfl
end Bw

namespace Bw
open PySem L2 TL PyProof.Rows
open NumText (AllDigits digitsVal)

/-! ### numbers -/
def Dg (l : List Nat) : Prop := l ≠ [] ∧ AllDigits l
instance (l : List Nat) : Decidable (AllDigits l) := by unfold NumText.AllDigits; infer_instance
/-- digits without needless zeros -/
def plainD (l : List Nat) : Bool := decide (l ≠ []) && decide (AllDigits l) && (decide (l = [48]) || decide (l.head? ≠ some 48))
theorem plainD_iff {l : List Nat} : plainD l = true ↔ l ≠ [] ∧ AllDigits l ∧ (l = [48] ∨ l.head? ≠ some 48) := by
  unfold plainD
  simp only [Bool.and_eq_true, Bool.or_eq_true, decide_eq_true_eq, and_assoc]
theorem ofNat_toNat {c : Nat} (h : 48 ≤ c ∧ c ≤ 57) : (Char.ofNat c).toNat = c := by
  have : ∀ d, d ≤ 57 → 48 ≤ d → (Char.ofNat d).toNat = d := by decide
  exact this c h.2 h.1
theorem map_back : ∀ {l : List Nat}, AllDigits l → (l.map Char.ofNat).map Char.toNat = l
  | [], _ => rfl
  | c :: r, h => by
    rw [List.map_cons, List.map_cons, ofNat_toNat h.head, map_back h.tail]
theorem numL_all {l : List Nat} (h : AllDigits l) : numL (digitsVal l) = (match l.dropWhile (· == 48) with
    | [] => [48]
    | c :: r => c :: r) := by
  unfold numL
  rw [NumText.toDigits_all l h]
  have hd : AllDigits (l.dropWhile (· == 48)) := fun c hc => h c ((List.dropWhile_sublist _).subset hc)
  generalize l.dropWhile (· == 48) = m at hd ⊢
  cases m with
  | nil => rfl
  | cons c r => exact map_back hd
theorem numL_plain {l : List Nat} (h : AllDigits l) (hne : l ≠ []) : numL (digitsVal l) = l ↔ (l = [48] ∨ l.head? ≠ some 48) := by
  rw [numL_all h]
  cases l with
  | nil => exact absurd rfl hne
  | cons c r =>
    by_cases e : c = 48
    · subst e
      rw [List.dropWhile_cons_of_pos (by decide)]
      constructor
      · intro q
        left
        cases e2 : r.dropWhile (· == 48) with
        | nil =>
          rw [e2] at q
          exact q.symm
        | cons d m =>
          rw [e2] at q
          have q : d :: m = 48 :: r := q
          have hd : (fun x => x == 48) d = false := by
            have := List.head?_dropWhile_not (fun x : Nat => x == 48) r
            rw [e2] at this
            simpa using this
          have : d = 48 := by injection q
          rw [this] at hd
          exact absurd hd (by decide)
      · intro q
        rcases q with q | q
        · have : r = [] := by injection q
          rw [this]
          rfl
        · exact absurd rfl q
    · rw [List.dropWhile_cons_of_neg (by rw [beq_iff_eq]; exact e)]
      refine ⟨fun _ => .inr fun q => e (Option.some.inj q), fun _ => rfl⟩
theorem digitsVal_lt {l : List Nat} (h : AllDigits l) : digitsVal l < 10 ^ l.length := by
  have : ∀ (l : List Nat) (a : Nat), AllDigits l → l.foldl (fun acc c => acc * 10 + (c - 48)) a < (a + 1) * 10 ^ l.length := by
    intro l
    induction l with
    | nil => intro a _; simp
    | cons c r ih =>
      intro a h
      rw [List.foldl_cons, List.length_cons]
      refine Nat.lt_of_lt_of_le (ih _ h.tail) ?_
      have hc := h.head
      rw [Nat.pow_succ]
      have e : (a * 10 + (c - 48) + 1) ≤ (a + 1) * 10 := by omega
      calc _ ≤ ((a + 1) * 10) * 10 ^ r.length := Nat.mul_le_mul_right _ e
        _ = _ := by rw [Nat.mul_assoc, Nat.mul_comm 10]
  have h2 := this l 0 h
  simpa [digitsVal] using h2
theorem log2_small {n : Nat} (h : n < 10 ^ 100) : n.log2 < 1920 := by
  by_cases h0 : n = 0
  · subst h0
    decide
  · rw [Nat.log2_lt h0]
    exact Nat.lt_trans h (by decide)
theorem log2_digits {l : List Nat} (h : AllDigits l) (hl : l.length ≤ 100) : (digitsVal l).log2 < 1920 :=
  log2_small (Nat.lt_of_lt_of_le (digitsVal_lt h) (Nat.pow_le_pow_right (by decide) hl))
/-- str of a negative number -/
theorem tl_neg (n : Nat) (h : 0 < n) : tl (Str.ofString (toString (-(n : Int)))) = 45 :: numL n := by
  cases n with
  | zero => exact absurd h (by decide)
  | succ m =>
    have e : (toString (-((m + 1 : Nat) : Int))) = "-" ++ toString (m + 1) := rfl
    have e2 : tl (Str.ofString (toString (m + 1))) = numL (m + 1) := tl_num (m + 1)
    rw [e, tl_ofString]
    rw [tl_ofString] at e2
    rw [String.toList_append, List.map_append, e2]
    rfl

/-! ### the program's own judge of numbers -/
def numPart (l : List Nat) : List Nat := if l.head? = some 45 then l.tail else l
def fitNum (l : List Nat) : Bool := plainD (numPart l) && decide (l ≠ [45, 48]) && decide ((digitsVal (numPart l) : Int) ≤ 10 ^ 15)
def fitLink (l : List Nat) : Bool := plainD l && decide (1 ≤ (digitsVal l : Int) ∧ (digitsVal l : Int) ≤ 10 ^ 12)
/-- the value of the text of a number -/
def numVal (l : List Nat) : Int := if l.head? = some 45 then -(digitsVal l.tail : Int) else digitsVal l
theorem int_of {x : Str} (h1 : numPart (tl x) ≠ []) (h2 : AllDigits (numPart (tl x))) (hl : x.length ≤ 100) : intText? x = some (numVal (tl x)) := by
  unfold numPart at h1 h2
  unfold numVal
  split
  · rename_i e
    rw [if_pos e] at h1 h2
    cases e2 : tl x with
    | nil => rw [e2] at h1; exact absurd rfl h1
    | cons c r =>
      rw [e2] at e h1 h2
      have : c = 45 := Option.some.inj e
      subst this
      exact intText_neg e2 h2 h1 (by omega)
  · rename_i e
    rw [if_neg e] at h1 h2
    exact intText_digits h2 h1 (by omega)
/-- what the law's own reader of whole numbers gives -/
def wholeV (l : List Nat) : Option Int := if plainD (numPart l) && decide (l ≠ [45, 48]) then some (numVal l) else none
theorem back_iff {x : Str} (h1 : numPart (tl x) ≠ []) (h2 : AllDigits (numPart (tl x))) :
    Str.ofString (toString (numVal (tl x))) = x ↔ (plainD (numPart (tl x)) && decide (tl x ≠ [45, 48])) = true := by
  rw [Bool.and_eq_true, decide_eq_true_eq, plainD_iff]
  have ex : Str.ofString (toString (numVal (tl x))) = x ↔ tl (Str.ofString (toString (numVal (tl x)))) = tl x := ⟨fun h => by rw [h], fun h => ext_tl h⟩
  rw [ex]
  unfold numPart at h1 h2 ⊢
  unfold numVal
  by_cases e : (tl x).head? = some 45
  · rw [if_pos e] at h1 h2 ⊢
    rw [if_pos e]
    cases e2 : tl x with
    | nil => rw [e2] at e; cases e
    | cons c r =>
      rw [e2] at e h1 h2
      have : c = 45 := Option.some.inj e
      subst this
      have h1 : r ≠ [] := h1
      have h2 : AllDigits r := h2
      show tl (Str.ofString (toString (-(digitsVal r : Int)))) = 45 :: r ↔ (r ≠ [] ∧ AllDigits r ∧ (r = [48] ∨ r.head? ≠ some 48)) ∧ 45 :: r ≠ [45, 48]
      by_cases z : digitsVal r = 0
      · rw [z]
        have e3 : tl (Str.ofString (toString (-((0 : Nat) : Int)))) = [48] := tl_num 0
        rw [e3]
        constructor
        · intro q
          injection q with q1 q2
          exact absurd q1 (by decide)
        · rintro ⟨⟨_, _, q⟩, q2⟩
          rcases q with q | q
          · rw [q] at q2
            exact absurd rfl q2
          · have := (numL_plain h2 h1).mpr (.inr q)
            rw [z] at this
            have z2 : numL 0 = [48] := rfl
            rw [z2] at this
            rw [← this] at q
            exact absurd rfl q
      · rw [tl_neg _ (by omega)]
        have np := numL_plain h2 h1
        constructor
        · intro q
          injection q with _ q2
          refine ⟨⟨h1, h2, np.mp q2⟩, fun q3 => ?_⟩
          have : r = [48] := by injection q3
          rw [this] at z
          exact z rfl
        · rintro ⟨⟨_, _, q⟩, _⟩
          rw [np.mpr q]
  · rw [if_neg e] at h1 h2 ⊢
    rw [if_neg e, tl_num, numL_plain h2 h1]
    refine ⟨fun q => ⟨⟨h1, h2, q⟩, fun q2 => ?_⟩, fun q => q.1.2.2⟩
    rw [q2] at e
    exact e rfl
/-- the law's bounds are the program's -/
theorem link_iff (l : List Nat) (h : Sgn l) : fitLink l = true ↔ ∃ n, wholeV l = some n ∧ 1 ≤ n ∧ n ≤ 10 ^ 12 := by
  unfold fitLink wholeV numPart numVal
  by_cases e : l.head? = some 45
  · rw [if_pos e, if_pos e]
    constructor
    · intro q
      rw [Bool.and_eq_true, plainD_iff] at q
      obtain ⟨⟨q1, q2, _⟩, _⟩ := q
      cases l with
      | nil => exact absurd rfl q1
      | cons c r =>
        have : c = 45 := Option.some.inj e
        subst this
        have := q2.head
        omega
    · rintro ⟨n, q, h1, _⟩
      split at q
      · have : -(digitsVal l.tail : Int) = n := Option.some.inj q
        omega
      · cases q
  · rw [if_neg e, if_neg e]
    constructor
    · intro q
      rw [Bool.and_eq_true, decide_eq_true_eq] at q
      have hz : l ≠ [45, 48] := fun z => by rw [z] at e; exact e rfl
      exact ⟨_, by rw [q.1, decide_eq_true hz]; rfl, q.2⟩
    · rintro ⟨n, q, h1, h2⟩
      split at q
      · rename_i q2
        rw [Bool.and_eq_true] at q2
        have : (digitsVal l : Int) = n := Option.some.inj q
        subst this
        rw [q2.1, decide_eq_true ⟨h1, h2⟩]
        rfl
      · cases q
theorem num_iff (l : List Nat) : fitNum l = true ↔ ∃ n, wholeV l = some n ∧ ((if n < 0 then -n else n) ≤ 10 ^ 15) := by
  unfold fitNum wholeV numVal numPart
  by_cases e : l.head? = some 45
  · rw [if_pos e, if_pos e]
    constructor
    · intro q
      rw [Bool.and_eq_true, decide_eq_true_eq] at q
      refine ⟨_, by rw [q.1]; rfl, ?_⟩
      split <;> omega
    · rintro ⟨n, q, h1⟩
      split at q
      · rename_i q2
        have : -(digitsVal l.tail : Int) = n := Option.some.inj q
        subst this
        rw [q2]
        refine decide_eq_true ?_
        split at h1 <;> omega
      · cases q
  · rw [if_neg e, if_neg e]
    constructor
    · intro q
      rw [Bool.and_eq_true, decide_eq_true_eq] at q
      refine ⟨_, by rw [q.1]; rfl, ?_⟩
      split <;> omega
    · rintro ⟨n, q, h1⟩
      split at q
      · rename_i q2
        have : (digitsVal l : Int) = n := Option.some.inj q
        subst this
        rw [q2]
        refine decide_eq_true ?_
        split at h1 <;> omega
      · cases q

/-! ### kinds -/
inductive Kd where | exact | flag | link | number | text
  deriving DecidableEq
def Kd.str : Kd → Str
  | .exact => "exact" | .flag => "flag" | .link => "link" | .number => "number" | .text => "text"
def kds : List Kd := [.exact, .flag, .link, .number, .text]
theorem kd_inj {a b : Kd} : a.str = b.str ↔ a = b := by
  refine ⟨fun h => ?_, fun h => by rw [h]⟩
  have : ∀ a b : Kd, decide (a.str = b.str) = decide (a = b) := by
    intro a b
    cases a <;> cases b <;> decide +kernel
  have e := this a b
  rw [decide_eq_true h] at e
  exact of_decide_eq_true e.symm
def normS (x : Str) : Str := Txt.join " " (Txt.words (Txt.lower x))
theorem tl_blank : tl (" " : Str) = [32] := by decide +kernel
theorem tl_normS {x : Str} (h : Sgn (tl x)) : tl (normS x) = normL (tl x) := by
  unfold normS normL wordsL
  rw [join_eq, tl_join, tl_blank, words_tl, tl_lower h]
def kform (k : Kd) (x : Str) : Option Str :=
  match k with
  | .exact => some x
  | .flag => if x = "yes" ∨ x = "no" then some x else none
  | .link => if fitLink (tl x) then some x else none
  | .number => if fitNum (tl x) then some x else none
  | .text => if normS x = "" then none else some (normS x)
def ov : Option Str → V
  | none => .non
  | some s => .str s
theorem ov_inj {a b : Option Str} : ov a = ov b ↔ a = b := by
  refine ⟨fun h => ?_, fun h => by rw [h]⟩
  cases a <;> cases b <;> simp [ov] at h ⊢
  exact h
/-- a text of the document -/
def IsTx (x : Str) : Prop := Sgn (tl x) ∧ x.length ≤ 100
theorem normS_tx {x : Str} (h : IsTx x) : IsTx (normS x) := by
  refine ⟨by rw [tl_normS h.1]; exact normL_sgn h.1, ?_⟩
  rw [len_tl, tl_normS h.1]
  have := normL_len (tl x)
  have e := len_tl x
  have := h.2
  omega
theorem normS_norm {x : Str} (h : IsTx x) : normS (normS x) = normS x := by
  refine ext_tl ?_
  rw [tl_normS (normS_tx h).1, tl_normS h.1, normL_norm h.1]
theorem kform_tx {k : Kd} {x d : Str} (h : IsTx x) (hx : x ≠ "") (e : kform k x = some d) : IsTx d ∧ d ≠ "" ∧ kform k d = some d := by
  cases k with
  | exact =>
    cases e
    exact ⟨h, hx, rfl⟩
  | flag =>
    have e' : (if x = "yes" ∨ x = "no" then some x else none) = some d := e
    split at e'
    · rename_i q
      cases e'
      exact ⟨h, hx, if_pos q⟩
    · cases e'
  | link =>
    have e' : (if fitLink (tl x) then some x else none) = some d := e
    split at e'
    · rename_i q
      cases e'
      exact ⟨h, hx, if_pos q⟩
    · cases e'
  | number =>
    have e' : (if fitNum (tl x) then some x else none) = some d := e
    split at e'
    · rename_i q
      cases e'
      exact ⟨h, hx, if_pos q⟩
    · cases e'
  | text =>
    have e' : (if normS x = "" then none else some (normS x)) = some d := e
    split at e'
    · cases e'
    · rename_i q
      cases e'
      refine ⟨normS_tx h, q, ?_⟩
      show (if normS (normS x) = "" then none else some (normS (normS x))) = _
      rw [normS_norm h, if_neg q]
end Bw

namespace Bw
open PySem PySem.Spec L2 TL PyProof.Rows

/-! ### rules that the layer lacks -/
def repS (x : Str) (n : Int) : Str := ⟨((List.replicate n.toNat (tl x)).flatten).toArray⟩
theorem tl_repS (x : Str) (n : Int) : tl (repS x n) = (List.replicate n.toNat (tl x)).flatten := rfl
theorem foldl_app (l : List (Array Nat)) : ∀ (a : Array Nat), (l.foldl (· ++ ·) a).toList = a.toList ++ (l.map Array.toList).flatten := by
  induction l with
  | nil => intro a; simp
  | cons b r ih =>
    intro a
    rw [List.foldl_cons, ih, Array.toList_append, List.map_cons, List.flatten_cons, List.append_assoc]
theorem repS_fold (x : Str) (n : Int) : (⟨(List.replicate n.toNat x.cps).foldl (· ++ ·) #[]⟩ : Str) = repS x n := by
  refine ext_tl ?_
  show ((List.replicate n.toNat x.cps).foldl (· ++ ·) #[]).toList = _
  rw [foldl_app, List.map_replicate, tl_repS]
  rfl
section
variable {X : Cx}
theorem call_repr_bl : CallR X (.builtin "repr") (fun xs H Q => ∃ b, xs = [.bl b] ∧ Q (.str (if b then "True" else "False")) H) := by
  intro pins s σ H xs us Q I r h
  obtain ⟨b, rfl, q⟩ := h
  obtain ⟨u, rfl, r1⟩ := vals1 r
  cases r1
  exact PySem.P.repr_of_bool ⟨.str _, H, I.tok _, ⟨_, rfl⟩, q⟩
/-- s * n -/
def rMulS : R2 := fun x y H Q => ∃ z n, x = .str z ∧ y = .int n ∧ 0 ≤ n ∧ n ≤ 1000 ∧ z.length ≤ 1000 ∧ Q (.str (repS z n)) H
theorem op_mulS : OpR X (binaryOp .Mult) rMulS := by
  intro pins s σ H x y v u Q I rx ry h
  obtain ⟨z, n, rfl, rfl, h0, h1, hz, q⟩ := h
  obtain ⟨t, rfl⟩ := rx
  obtain ⟨t', rfl⟩ := ry
  have hle : z.length * n.toNat ≤ 1000000 := by
    have := Nat.mul_le_mul hz (show n.toNat ≤ 1000 by omega)
    omega
  refine PySem.P.mul_str ?_ ?_ ?_ ?_
  · rw [decide_eq_false (by omega), decide_eq_false (by omega)]
    rfl
  · intro h2 _
    have h3 : (1 : Int) ≤ n := by omega
    have h4 : ((2 : Int) ^ 63 - 1) / 1000 ≤ (2 ^ 63 - 1) / n := by
      refine Int.le_ediv_of_mul_le (by omega) ?_
      have : ((2 : Int) ^ 63 - 1) / 1000 * n ≤ ((2 : Int) ^ 63 - 1) / 1000 * 1000 := Int.mul_le_mul_of_nonneg_left (by omega) (by decide)
      exact Int.le_trans this (by decide)
    have h5 : (1000 : Int) ≤ ((2 : Int) ^ 63 - 1) / 1000 := by decide
    omega
  · intro _ _
    unfold Builtin.Str.tooLong
    refine decide_eq_false ?_
    have : (sizeLine : Nat) = 16777216 := sizeLine_eq
    omega
  · by_cases h2 : n < 1
    · rw [if_pos h2]
      have e : n = 0 := by omega
      subst e
      exact ⟨by decide, ⟨.str _, H, I.tok _, ⟨_, rfl⟩, q⟩⟩
    · rw [if_neg h2]
      split
      · rename_i h3
        have e : repS z n = z := by
          refine ext_tl ?_
          rw [tl_repS]
          rw [Bool.or_eq_true, beq_iff_eq, beq_iff_eq] at h3
          rcases h3 with h3 | h3
          · subst h3
            show (List.replicate 1 (tl z)).flatten = _
            simp
          · have : tl z = [] := (len0_tl z).mp h3
            rw [this]
            simp
        rw [e] at q
        exact ⟨.str z, H, I, ⟨t, rfl⟩, q⟩
      · rw [repS_fold]
        exact ⟨by
          show (repS z n).length ≤ sizeLine
          rw [len_tl, tl_repS, List.length_flatten, List.map_replicate, List.sum_replicate_nat]
          have e := len_tl z
          have : (sizeLine : Nat) = 16777216 := sizeLine_eq
          have h9 : n.toNat * (tl z).length ≤ 1000000 := by rw [← e, Nat.mul_comm]; exact hle
          omega, ⟨.str _, H, I.tok _, ⟨_, rfl⟩, q⟩⟩
def CPowW (i j : Int) : Prop := 0 ≤ j ∧ (Builtin.Int.intBits i : Int) * j ≤ 2 ^ 27
theorem op_powW : OpR X (binaryOp .Pow) (rI CPowW fun i j => .int (i ^ j.toNat)) := opI fun _ _ _ _ _ _ _ hc q => pow_int hc.1 hc.2 q
end
end Bw

namespace Bw
open PySem PySem.Spec L2 TL PyProof.Rows

/-! ### for i, c in enumerate(s), s a text -/
/-- each sign in a new pair with its place -/
def Itn (x : Str) : It := ⟨fun i _ => i < x.cps.size, fun i H v H' => ∃ (T : Addr) (c : Nat), x.cps[i]? = some c ∧ v = .ref T ∧ H T = none ∧ H' = upd H T (.tup [.int (i : Nat), .str ⟨#[c]⟩]), fun i _ => i = x.cps.size⟩
theorem turn_enumS {P : Program} {w : World} {K : PySem.W.Frag} {elts : List Expr} {kk : Nat} {tpos : Pos} (en si : Addr) (x : Str) (t : Tok) :
    Turn P w K (.Tuple elts kk tpos) (Itn x) [en, si] en (fun i h => (∃ old, IsEnum h en si ((i : Nat) : Int) old) ∧ h.IsStrIter si (strIterType x) x t i ∧ en ≠ si) where
  mem := by simp
  obj := fun i h st b hb => by
    obtain ⟨⟨old, ho⟩, ⟨o, e1, e2, e3⟩, _⟩ := st
    rcases (by simpa using hb : b = en ∨ b = si) with rfl | rfl
    · exact ⟨_, ho, fun v z => nomatch z⟩
    · exact ⟨o, e1, fun v z => by rw [e3] at z; cases z⟩
  keep := fun i h h' st k => by
    obtain ⟨⟨old, ho⟩, ⟨o, e1, e2⟩, ne⟩ := st
    exact ⟨⟨old, k en (by simp) _ ho⟩, ⟨o, k si (by simp) _ e1, e2⟩, ne⟩
  item := by
    intro X e1 e2 e3 calm i pins s σ H E I hf st hgo
    subst e1 e2 e3
    obtain ⟨⟨old, ho⟩, hs, ne⟩ := st
    have le : en < s.heap.objs.size := Heap.lt_size ho
    have ls : si < s.heap.objs.size := by
      obtain ⟨_, q, _⟩ := hs
      exact Heap.lt_size q
    have D : Draws X.prog X.w X.A.in1 si [si] x.cps.size _ _ := Draws.text (show X.A.in1.handled = none from I.ok.hd calm) si x t
    refine wpAny_pyNext_enum_itemD D ho hs hgo ne (by simpa using ne) fun u h1 tk hu ho1 hs1 hT hz hk => ?_
    obtain ⟨c, t2, hc, rfl⟩ := hu
    refine ⟨_, rfl, wpAny_letOwnedTupleGo_enum (s := { s with heap := h1, toks := tk + 1 }) ho1 fun h2 ho2 sb => ?_⟩
    have hT2 : h2.get? s.heap.objs.size = some { cls := .type "tuple", data := .seq #[.int i tk, .str ⟨#[c]⟩ t2] } := (sb.2 _ (Nat.ne_of_gt le)).trans hT
    have okT : ObjOk X.prog X.w (upd H s.heap.objs.size (.tup [.int (i : Nat), .str ⟨#[c]⟩])) h2 s.heap.objs.size (.tup [.int (i : Nat), .str ⟨#[c]⟩]) :=
      ⟨by show 2 ≤ sizeLine; decide, [.int i tk, .str ⟨#[c]⟩ t2], .cons ⟨_, rfl⟩ (.cons ⟨_, rfl⟩ .nil), ⟨_, hT2, rfl, _, rfl⟩⟩
    have I2 := I.turnedNew (t' := tk + 1) (ch := [en, si]) (fun b ob hb q => (sb.2 b (fun z => hb (by simp [z]))).trans (hk b ob (fun z => hb (by simp [z])) (fun z => hb (by simp [z])) q)) hf (Nat.le_refl _) okT
    refine ⟨.ref s.heap.objs.size, _, I2, rfl, ⟨_, c, hc, rfl, I.hok.fresh (Nat.le_refl _), rfl⟩, ⟨⟨.str ⟨#[c]⟩ t2, ?_⟩, ?_, ne⟩, fun b hb => ?_⟩
    · rw [show ((i + 1 : Nat) : Int) = (i : Int) + 1 by omega]
      exact ho2
    · obtain ⟨o, q1, q2⟩ := hs1
      exact ⟨o, (sb.2 si (Ne.symm ne)).trans q1, q2⟩
    · have lb : b < s.heap.objs.size := by
        rcases (by simpa using hb : b = en ∨ b = si) with rfl | rfl
        · exact le
        · exact ls
      rw [upd_ne (Nat.ne_of_lt lb)]
      exact (hf b hb).1
  done := by
    intro X e1 e2 e3 calm i pins s σ H E I hf st hstop
    subst e1 e2 e3
    obtain ⟨⟨old, ho⟩, hs, ne⟩ := st
    obtain ⟨f0, f1, f2, f3, f4, f5⟩ := hf si (by simp)
    have hi : i = x.cps.size := hstop
    subst hi
    have D : Draws X.prog X.w X.A.in1 si [si] x.cps.size _ _ := Draws.text (show X.A.in1.handled = none from I.ok.hd calm) si x t
    exact wpAny_pyNext_enum_endD D ho hs fun h' eb => ⟨rfl, I.turned (t' := s.toks) (fun b o hb q => eb b o hb q) f0 f1 f3 f4 f5⟩
  self := fun A i s Q E st h => by
    obtain ⟨⟨_, ho⟩, _⟩ := st
    exact wpAny_pyIter_enum ho h
def iEnumS (ta : TA) : TI := fun σ H R => ta σ H fun vs H1 => ∃ x : Str, vs = [.str x] ∧ R (Itn x) H1
theorem pi_enumS {X : Cx} {e : Expr} {ta : TA} {p pos tpos : Pos} {elts : List Expr} {kk : Nat} (hg : Gl X "enumerate") (hm : X.mg "enumerate" = none) (ha : PA X [e] ta) (hs : starEach [e] X.env = [(false, eval e X.env)] := by rfl) :
    PI X (.Tuple elts kk tpos) (.Call (.Name "enumerate" p) [e] [] pos) (iEnumS ta) := by
  refine ⟨fun pins s σ H R I q => ?_⟩
  refine Call_ (ld_blt I hg hm boot_enumerate (PyProof.Rows.callWith_type1 (thn (ha.run pos pins s σ H _ I q) fun us s1 ⟨vs, H1, I1, r1, q1⟩ => ?_) hs rfl))
  obtain ⟨x, rfl, q1⟩ := q1
  obtain ⟨u, rfl, t, rfl⟩ := vals1 r1
  refine call_enumerate_str fun h' ho hsi hz hk => wpAny_pyIter_enum ho ?_
  have I2 : Inv X pins σ H1 { s1 with heap := h' } := I1.kept (t' := s1.toks) hk
  refine ⟨s1.heap.objs.size + 1, [s1.heap.objs.size + 1, s1.heap.objs.size], _, _, H1, rfl, I2, turn_enumS (s1.heap.objs.size + 1) s1.heap.objs.size x t, ⟨⟨.none, ho⟩, hsi, Nat.succ_ne_self _⟩, fun b hb => ?_, q1⟩
  have lb : s1.heap.objs.size ≤ b := by
    rcases (by simpa using hb : b = s1.heap.objs.size + 1 ∨ b = s1.heap.objs.size) with rfl | rfl
    · exact Nat.le_add_right _ _
    · exact Nat.le_refl _
  exact I1.fpOk lb (I1.hok.fresh lb)
theorem walk_enumS {x : Str} : Walk (Itn x) x.cps.size (fun _ => True) (fun i H v H' => ∃ (T : Addr) (c : Nat), x.cps[i]? = some c ∧ v = .ref T ∧ H T = none ∧ H' = upd H T (.tup [.int (i : Nat), .str ⟨#[c]⟩])) :=
  ⟨fun _ _ hi _ => hi, fun _ _ => rfl, fun _ _ _ _ _ _ y => y⟩
end Bw

namespace Bw
open PySem PySem.Spec L2 TL PyProof.Rows
def top (i : Nat) : Stmt := PySem.Challenge.pw_bailiwick_k03_whole_names_written_and_re.main.body.getD i (.Pass ⟨0, 0, 0, 0⟩)
abbrev s_are_signs : Stmt := top 9
abbrev n_are_signs : List Str := ["value", "most"]
theorem sc_are_signs : FnScope n_are_signs ["value", "most"] (defScope s_are_signs) := ⟨rfl, rfl, rfl, by decide +kernel, rfl, by decide +kernel, by decide +kernel⟩
abbrev s_is_text : Stmt := top 10
abbrev n_is_text : List Str := ["value"]
theorem sc_is_text : FnScope n_is_text ["value"] (defScope s_is_text) := ⟨rfl, rfl, rfl, by decide +kernel, rfl, by decide +kernel, by decide +kernel⟩
abbrev s_is_word : Stmt := top 11
abbrev n_is_word : List Str := ["value"]
theorem sc_is_word : FnScope n_is_word ["value"] (defScope s_is_word) := ⟨rfl, rfl, rfl, by decide +kernel, rfl, by decide +kernel, by decide +kernel⟩
abbrev s_is_pair : Stmt := top 12
abbrev n_is_pair : List Str := ["value"]
theorem sc_is_pair : FnScope n_is_pair ["value"] (defScope s_is_pair) := ⟨rfl, rfl, rfl, by decide +kernel, rfl, by decide +kernel, by decide +kernel⟩
abbrev s_are_pairs : Stmt := top 13
abbrev n_are_pairs : List Str := ["value", "each"]
theorem sc_are_pairs : FnScope n_are_pairs ["value"] (defScope s_are_pairs) := ⟨rfl, rfl, rfl, by decide +kernel, rfl, by decide +kernel, by decide +kernel⟩
abbrev s_is_name : Stmt := top 18
abbrev n_is_name : List Str := ["value"]
theorem sc_is_name : FnScope n_is_name ["value"] (defScope s_is_name) := ⟨rfl, rfl, rfl, by decide +kernel, rfl, by decide +kernel, by decide +kernel⟩
abbrev s_text_of_value : Stmt := top 19
abbrev n_text_of_value : List Str := ["text", "signs", "at", "sign", "is_outer"]
theorem sc_text_of_value : FnScope n_text_of_value ["text"] (defScope s_text_of_value) := ⟨rfl, rfl, rfl, by decide +kernel, rfl, by decide +kernel, by decide +kernel⟩
abbrev s_name_text : Stmt := top 20
abbrev n_name_text : List Str := ["name", "word", "text"]
theorem sc_name_text : FnScope n_name_text ["name"] (defScope s_name_text) := ⟨rfl, rfl, rfl, by decide +kernel, rfl, by decide +kernel, by decide +kernel⟩
abbrev s_behind_blanks : Stmt := top 21
abbrev n_behind_blanks : List Str := ["text", "at"]
theorem sc_behind_blanks : FnScope n_behind_blanks ["text", "at"] (defScope s_behind_blanks) := ⟨rfl, rfl, rfl, by decide +kernel, rfl, by decide +kernel, by decide +kernel⟩
abbrev s_read_word : Stmt := top 22
abbrev n_read_word : List Str := ["text", "at", "begin", "end"]
theorem sc_read_word : FnScope n_read_word ["text", "at"] (defScope s_read_word) := ⟨rfl, rfl, rfl, by decide +kernel, rfl, by decide +kernel, by decide +kernel⟩
abbrev s_read_sign : Stmt := top 23
abbrev n_read_sign : List Str := ["text", "at"]
theorem sc_read_sign : FnScope n_read_sign ["text", "at"] (defScope s_read_sign) := ⟨rfl, rfl, rfl, by decide +kernel, rfl, by decide +kernel, by decide +kernel⟩
abbrev s_read_value : Stmt := top 24
abbrev n_read_value : List Str := ["text", "at", "value", "begin", "sign", "behind", "blanks"]
theorem sc_read_value : FnScope n_read_value ["text", "at"] (defScope s_read_value) := ⟨rfl, rfl, rfl, by decide +kernel, rfl, by decide +kernel, by decide +kernel⟩
abbrev s_read_name : Stmt := top 25
abbrev n_read_name : List Str := ["text", "pairs", "at", "word", "begin", "value"]
theorem sc_read_name : FnScope n_read_name ["text"] (defScope s_read_name) := ⟨rfl, rfl, rfl, by decide +kernel, rfl, by decide +kernel, by decide +kernel⟩
abbrev s_law_dice : Stmt := top 27
abbrev n_law_dice : List Str := ["_law_script", "_law_at", "_law_cell", "_law_great", "_law_left", "_law_mixed"]
theorem sc_law_dice : FnScope n_law_dice ["_law_script", "_law_at"] (defScope s_law_dice) := ⟨rfl, rfl, rfl, by decide +kernel, rfl, by decide +kernel, by decide +kernel⟩
abbrev s_law_roll : Stmt := top 28
abbrev n_law_roll : List Str := ["_law_dice_here", "_law_total", "_law_size", "_law_drawn", "_law_one", "_law_two"]
theorem sc_law_roll : FnScope n_law_roll ["_law_dice_here", "_law_total"] (defScope s_law_roll) := ⟨rfl, rfl, rfl, by decide +kernel, rfl, by decide +kernel, by decide +kernel⟩
abbrev s_law_one_of : Stmt := top 29
abbrev n_law_one_of : List Str := ["_law_dice_here", "_law_items"]
theorem sc_law_one_of : FnScope n_law_one_of ["_law_dice_here", "_law_items"] (defScope s_law_one_of) := ⟨rfl, rfl, rfl, by decide +kernel, rfl, by decide +kernel, by decide +kernel⟩
abbrev s_law_name_pair : Stmt := top 30
abbrev n_law_name_pair : List Str := ["_law_dice_here", "_law_name", "_law_some"]
theorem sc_law_name_pair : FnScope n_law_name_pair ["_law_dice_here"] (defScope s_law_name_pair) := ⟨rfl, rfl, rfl, by decide +kernel, rfl, by decide +kernel, by decide +kernel⟩
abbrev s_law_some_name : Stmt := top 31
abbrev n_law_some_name : List Str := ["_law_dice_here", "_law_most", "_law_turn"]
theorem sc_law_some_name : FnScope n_law_some_name ["_law_dice_here", "_law_most"] (defScope s_law_some_name) := ⟨rfl, rfl, rfl, by decide +kernel, rfl, by decide +kernel, by decide +kernel⟩
abbrev s_law_escaped : Stmt := top 32
abbrev n_law_escaped : List Str := ["_law_text", "_law_found", "_law_at", "_law_sign", "_law_is_edge"]
theorem sc_law_escaped : FnScope n_law_escaped ["_law_text"] (defScope s_law_escaped) := ⟨rfl, rfl, rfl, by decide +kernel, rfl, by decide +kernel, by decide +kernel⟩
abbrev s_law_written : Stmt := top 33
abbrev n_law_written : List Str := ["_law_name", "_law_pair"]
theorem sc_law_written : FnScope n_law_written ["_law_name"] (defScope s_law_written) := ⟨rfl, rfl, rfl, by decide +kernel, rfl, by decide +kernel, by decide +kernel⟩
abbrev s_law_otherwise : Stmt := top 34
abbrev n_law_otherwise : List Str := ["_law_dice_here", "_law_name", "_law_rows", "_law_word", "_law_text", "_law_found", "_law_at", "_law_sign", "_law_is_edge", "_law_is_free", "_law_blanks", "_law_turn"]
theorem sc_law_otherwise : FnScope n_law_otherwise ["_law_dice_here", "_law_name"] (defScope s_law_otherwise) := ⟨rfl, rfl, rfl, by decide +kernel, rfl, by decide +kernel, by decide +kernel⟩
abbrev s_law_right : Stmt := top 35
abbrev n_law_right : List Str := ["_law_dice_here", "_law_name", "_law_other", "_law_text", "_law_turn"]
theorem sc_law_right : FnScope n_law_right ["_law_dice_here"] (defScope s_law_right) := ⟨rfl, rfl, rfl, by decide +kernel, rfl, by decide +kernel, by decide +kernel⟩
abbrev s_law : Stmt := top 36
abbrev n_law : List Str := ["_law_script", "_law_at", "_law_dice_here", "_law_told"]
theorem sc_law : FnScope n_law ["_law_script"] (defScope s_law) := ⟨rfl, rfl, rfl, by decide +kernel, rfl, by decide +kernel, by decide +kernel⟩
/-! ### a def of the program, known by its name -/
structure Dfn (P : Program) (w : World) (K : PySem.W.Frag) (mg : Str → Option Value) (base : Heap) (x : Str) (k : Nat) (ps : List Str) (sp : Sp) : Prop where
  ex : ∃ (f : Addr) (fd : FuncData), FnOk P w K mg base CX0 k f fd ps sp ∧ mg x = some (.ref f) ∧ PySem.W.keepIn K (.ref f) = true ∧ Binds K fd ps []
section
variable {X : Cx} {x : Str} {k m : Nat} {ps : List Str} {sp : Sp} {e : Expr} {es : List Expr} {t : TA} {p pos : Pos}
theorem pe_d (D : Dfn X.prog X.w X.K X.mg X.base x k ps sp) (hr : Room m X.A) (hm : k ≤ m) (ha : PA X (e :: es) t) (hg : Gl X x := by rfl)
    (hdb : (x == ("__debug__" : Str)) = false := by decide)
    (he : starEach (e :: es) X.env = (false, eval e X.env) :: starEach es X.env := by rfl) (hpl : (backTo pos (starEach es X.env)).any (·.1) = false := by rfl) :
    PE X (.Call (.Name x p) (e :: es) [] pos) (tCall sp [] E0 t) := by
  obtain ⟨f, fd, F, mf, kp, b⟩ := D.ex
  exact pe_call F (hr.mono hm) hg mf kp b .nil pass0 ha hdb he hpl
end
/-- what the top has left, apart from the defs -/
structure Txt (K : PySem.W.Frag) (mg : Str → Option Value) : Prop where
  b_len : mg "len" = none
  b_int : mg "int" = none
  b_abs : mg "abs" = none
  b_max : mg "max" = none
  b_min : mg "min" = none
  b_range : mg "range" = none
  b_isinstance : mg "isinstance" = none
  b_tuple : mg "tuple" = none
  b_enumerate : mg "enumerate" = none
  b_all : mg "all" = none
  b_str : mg "str" = none
  g_text : ∃ t, mg "MOST_TEXT" = some (.int 100 t)
  g_word : ∃ t, mg "MOST_WORD" = some (.int 12 t)
  g_levels : ∃ t, mg "MOST_LEVELS" = some (.int 8 t)
  g_signs : ∃ t, mg "MOST_SIGNS" = some (.int 4000 t)
  g_special : ∃ t, mg "SPECIAL" = some (.str ",=+\"\\" t)
end Bw

namespace Bw
open PySem PySem.Spec L2 TL PyProof.Rows

/-! ### the judges of texts -/
/-- no text at all -/
def NotStr (K : PySem.W.Frag) (H : Hp) (v : V) : Prop := ∃ t, TyX K H v t ∧ PySem.W.kitOne K t (.type "str") = some false
def areSg (x : Str) (m : Int) : Bool := decide ((x.length : Int) ≤ m) && (Txt.isascii x && Txt.isprintable x)
def isTx (x : Str) : Bool := areSg x 100 && decide (x ≠ "")
theorem isTx_iff (x : Str) : isTx x = true ↔ IsTx x ∧ x ≠ "" := by
  unfold isTx areSg IsTx
  rw [Bool.and_eq_true, Bool.and_eq_true, decide_eq_true_eq, decide_eq_true_eq, signs_iff]
  constructor
  · rintro ⟨⟨a, b⟩, c⟩
    exact ⟨⟨b, by omega⟩, c⟩
  · rintro ⟨⟨b, a⟩, c⟩
    exact ⟨⟨by omega, b⟩, c⟩
theorem line_of {n : Nat} (h : n ≤ 1000000) : n ≤ sizeLine := Nat.le_trans h (by decide)

def spAre (K : PySem.W.Frag) : Sp := fun vs H Q _ => ∃ (v : V) (m : Int), vs = [v, .int m] ∧
  ((∃ x, v = .str x ∧ x.length ≤ sizeLine ∧ Q (.bl (areSg x m)) H) ∨ (NotStr K H v ∧ Q (.bl false) H))
def spIsText (K : PySem.W.Frag) : Sp := fun vs H Q _ => ∃ v : V, vs = [v] ∧
  ((∃ x, v = .str x ∧ x.length ≤ sizeLine ∧ Q (.bl (isTx x)) H) ∨ (NotStr K H v ∧ Q (.bl false) H))
section
variable {P : Program} {w : World} {K : PySem.W.Frag} {mg : Str → Option Value} {base : Heap} {f : Addr} {fd : FuncData}
theorem ok_are_signs (F : Fun K "are_signs" "are_signs" s_are_signs f fd) (T : Txt K mg) : FnOk P w K mg base CX0 1 f fd ["value", "most"] (spAre K) := by
  refine F.ok sc_are_signs (fun vs H Q E h => ?_) (fun cdv A outer s H vs Q E hr h => ?_)
  · obtain ⟨v, m, rfl, _⟩ := h
    rfl
  · obtain ⟨v, m, rfl, h⟩ := h
    refine ⟨_, (pss_one (ps_ret (pe_and (pe_callB call_isi (by rfl) T.b_isinstance (by decide +kernel) (pa_cons (pv 0) (pa_cons (pe_bltn (v := .ty "str") (by rfl) T.b_str (by decide +kernel) rfl) pa_nil))) (pe_and (pe_cmpR op_le (pe_callB call_len_str (by rfl) T.b_len (by decide +kernel) (pa_cons (pv 0) pa_nil)) (pv 1) (nomark _)) (pe_and (pe_m0 PySem.F.slot_str_isascii PySem.F.type_str_isascii mt_isascii (pv 0)) (pe_one (pe_m0 PySem.F.slot_str_isprintable PySem.F.type_str_isprintable mt_isprintable (pv 0)))))))), ?_⟩
    rcases h with ⟨x, rfl, hl, q⟩ | ⟨⟨t, ty, kt⟩, q⟩
    · refine ⟨_, rfl, _, _, _, _, true, rfl, ClsV.ty "str", TyX.base (.str x), kit_ty (by decide +kernel), true, rfl, iteT ?_⟩
      refine ⟨_, rfl, _, rfl, hl, _, rfl, _, _, rfl, rfl, _, rfl, ?_⟩
      unfold areSg at q
      cases e : decide ((x.length : Int) ≤ m) with
      | false =>
        rw [e] at q
        exact iteF q
      | true =>
        rw [e] at q
        refine iteT ⟨_, rfl, ⟨_, rfl⟩, _, rfl, rfl, trivial, _, rfl, ?_⟩
        cases e2 : Txt.isascii x with
        | false =>
          rw [e2] at q
          exact iteF q
        | true =>
          rw [e2] at q
          exact iteT ⟨_, rfl, ⟨_, rfl⟩, _, rfl, rfl, trivial, q⟩
    · exact ⟨_, rfl, _, _, _, _, false, rfl, ClsV.ty "str", ty, kt, false, rfl, iteF q⟩
theorem ok_is_text (F : Fun K "is_text" "is_text" s_is_text f fd) (T : Txt K mg) (D_are_signs : Dfn P w K mg base "are_signs" 1 ["value", "most"] (spAre K)) :
    FnOk P w K mg base CX0 2 f fd ["value"] (spIsText K) := by
  obtain ⟨t0, gT⟩ := T.g_text
  refine F.ok sc_is_text (fun vs H Q E h => ?_) (fun cdv A outer s H vs Q E hr h => ?_)
  · obtain ⟨v, rfl, _⟩ := h
    rfl
  · obtain ⟨v, rfl, h⟩ := h
    refine ⟨_, (pss_one (ps_ret (pe_and (pe_d D_are_signs hr (by decide) (pa_cons (pv 0) (pa_cons (pe_glob (v := .int 100) rfl gT ⟨_, rfl⟩) pa_nil))) (pe_one (pe_cmpR op_ne (pv 0) pe_str (nomark _)))))), ?_⟩
    rcases h with ⟨x, rfl, hl, q⟩ | ⟨ns, q⟩
    · refine ⟨_, rfl, _, _, rfl, .inl ⟨x, rfl, hl, _, rfl, ?_⟩⟩
      unfold isTx at q
      cases e : areSg x 100 with
      | false =>
        rw [e] at q
        exact iteF q
      | true =>
        rw [e] at q
        refine iteT ⟨_, rfl, rfl, ?_⟩
        have e2 : (!decide (V.str x = V.str "")) = decide (x ≠ "") := by
          rw [decide_not]
          congr 1
          simp
        show Q (.bl (!decide (V.str x = V.str ""))) H
        rw [e2]
        exact q
    · exact ⟨_, rfl, _, _, rfl, .inr ⟨ns, _, rfl, iteF q⟩⟩
end
end Bw

namespace Bw
open PySem PySem.Spec L2 TL PyProof.Rows

/-! ### words -/
theorem same_new {H : Hp} {p : Addr} {o : HO} (h : H p = none) : Same H (upd H p o) := fun b u e => by
  rw [upd_ne (ne_of_none e h)]
  exact e
def lowC (c : Nat) : Bool := decide (97 ≤ c ∧ c ≤ 122)
def wdC (c : Nat) : Bool := lowC c || decide (48 ≤ c ∧ c ≤ 57)
def hdL : List Nat → Bool
  | [] => false
  | c :: _ => lowC c
def wdL (l : List Nat) : Bool := decide (l.length ≤ 12) && (l.all wdC && hdL l)
theorem alnum_sgn : ∀ c, c < 128 → Unicode.isAlnum c = decide ((48 ≤ c ∧ c ≤ 57) ∨ (65 ≤ c ∧ c ≤ 90) ∨ (97 ≤ c ∧ c ≤ 122)) := by decide +kernel
theorem alpha_sgn : ∀ c, c < 128 → Unicode.isAlpha c = decide ((65 ≤ c ∧ c ≤ 90) ∨ (97 ≤ c ∧ c ≤ 122)) := by decide +kernel
theorem wd_alnum {x : Str} (h : Sgn (tl x)) : (tl x).all wdC = true → tl x ≠ [] → Txt.isalnum x = true := by
  intro h1 h2
  unfold Txt.isalnum
  rw [← Array.all_toList, Bool.and_eq_true, decide_eq_true_eq, List.all_eq_true]
  refine ⟨by rw [len_tl]; exact List.length_pos_iff.mpr h2, fun c hc => ?_⟩
  have := List.all_eq_true.mp h1 c hc
  rw [alnum_sgn c (h.lt c hc)]
  unfold wdC lowC at this
  rw [Bool.or_eq_true, decide_eq_true_eq, decide_eq_true_eq] at this
  exact decide_eq_true (by omega)
theorem tl_eq_iff {x y : Str} : x = y ↔ tl x = tl y := ⟨fun h => by rw [h], ext_tl⟩
theorem wd_split {x : Str} (h : Sgn (tl x)) (h12 : x.length ≤ 12) : wdL (tl x) = (Txt.isalnum x && (decide (V.str x = V.str (Txt.lower x)) && hdL (tl x))) := by
  have e1 : decide ((tl x).length ≤ 12) = true := decide_eq_true (by rw [← len_tl]; exact h12)
  unfold wdL
  rw [e1, Bool.true_and]
  cases ha : hdL (tl x) with
  | false => simp
  | true =>
    have ne : tl x ≠ [] := fun z => by rw [z] at ha; cases ha
    rw [Bool.and_true, Bool.and_true, Bool.eq_iff_iff, Bool.and_eq_true, decide_eq_true_eq]
    constructor
    · intro w
      refine ⟨wd_alnum h w ne, ?_⟩
      have : x = Txt.lower x := by
        rw [tl_eq_iff, tl_lower h]
        refine (map_lo_id fun c hc => ?_).symm
        have := List.all_eq_true.mp w c hc
        unfold wdC lowC at this
        rw [Bool.or_eq_true, decide_eq_true_eq, decide_eq_true_eq] at this
        unfold lo1
        rw [if_neg (by omega)]
      exact congrArg V.str this
    · rintro ⟨h1, h2⟩
      have h3 : x = Txt.lower x := by injection h2
      rw [tl_eq_iff, tl_lower h] at h3
      rw [List.all_eq_true]
      intro c hc
      unfold Txt.isalnum at h1
      rw [← Array.all_toList, Bool.and_eq_true] at h1
      have h4 := List.all_eq_true.mp h1.2 c hc
      rw [alnum_sgn c (h.lt c hc)] at h4
      have h5 := of_decide_eq_true h4
      have h6 : ¬ (65 ≤ c ∧ c ≤ 90) := fun z => by
        rw [h3] at hc
        obtain ⟨d, hd, e⟩ := List.mem_map.mp hc
        unfold lo1 at e
        split at e <;> omega
      unfold wdC lowC
      rw [Bool.or_eq_true, decide_eq_true_eq, decide_eq_true_eq]
      omega
theorem at0 {x : Str} {c : Nat} {r : List Nat} (e : tl x = c :: r) : atI x.cps.toList 0 = some c := by
  have e' : x.cps.toList = c :: r := e
  rw [e']
  exact atI_nat (j := 0) rfl
def spIsWord : Sp := fun vs H Q _ => ∃ x : Str, vs = [.str x] ∧ Sgn (tl x) ∧ x.length ≤ 10000 ∧ Q (.bl (wdL (tl x))) H
/-! ### names -/
abbrev Nm := List (Str × Str)
def OkP (p : Str × Str) : Prop := Sgn (tl p.1) ∧ wdL (tl p.1) = true ∧ IsTx p.2 ∧ p.2 ≠ ""
def PairAt (H : Hp) (t : Addr) (p : Str × Str) : Prop := H t = some (.tup [.str p.1, .str p.2])
def NameAt (H : Hp) (a : Addr) (nm : Nm) : Prop := ∃ ts : List Addr, H a = some (.tup (ts.map V.ref)) ∧ Paired (PairAt H) ts nm
theorem NameAt.up {H H' : Hp} {a : Addr} {nm : Nm} (s : Same H H') (h : NameAt H a nm) : NameAt H' a nm := by
  obtain ⟨ts, h1, h2⟩ := h
  exact ⟨ts, s _ _ h1, Paired.mapP h2 fun t p q => s _ _ q⟩
theorem paired_at {α β : Type} {G : α → β → Prop} {l : List α} {m : List β} (h : Paired G l m) {i : Nat} {a : α} (e : l[i]? = some a) : ∃ b, m[i]? = some b ∧ G a b := paired_get h e
def spIsPair : Sp := fun vs H Q _ => ∃ (a : Addr) (p : Str × Str), vs = [.ref a] ∧ PairAt H a p ∧ OkP p ∧ Q (.bl true) H
def spIsName : Sp := fun vs H Q _ => ∃ (a : Addr) (nm : Nm), vs = [.ref a] ∧ NameAt H a nm ∧ (∀ p ∈ nm, OkP p) ∧ nm.length ≤ 8 ∧ ∀ H', Same H H' → Q (.bl true) H'
def blanksFrom (l : List Nat) (n : Nat) : Nat := n + ((l.drop n).takeWhile (· == 32)).length
def spBehind : Sp := fun vs H Q _ => ∃ (x : Str) (n : Nat), vs = [.str x, .int n] ∧ x.length ≤ 10000 ∧ n ≤ x.length ∧ Q (.int (blanksFrom (tl x) n)) H
section
variable {P : Program} {w : World} {K : PySem.W.Frag} {mg : Str → Option Value} {base : Heap} {f : Addr} {fd : FuncData}
theorem ok_is_word (F : Fun K "is_word" "is_word" s_is_word f fd) (T : Txt K mg) (D_are_signs : Dfn P w K mg base "are_signs" 1 ["value", "most"] (spAre K)) : FnOk P w K mg base CX0 2 f fd ["value"] spIsWord := by
  obtain ⟨t0, gW⟩ := T.g_word
  refine F.ok sc_is_word (fun vs H Q E h => ?_) (fun cdv A outer s H vs Q E hr h => ?_)
  · obtain ⟨x, rfl, _⟩ := h
    rfl
  · obtain ⟨x, rfl, hx, hl, q⟩ := h
    refine ⟨_, (pss_cons (ps_if (PW.pt (pw_or (pt_not (pt_val (pe_d D_are_signs hr (by decide) (pa_cons (pv 0) (pa_cons (pe_glob (v := .int 12) rfl gW ⟨_, rfl⟩) pa_nil))))) (pw_or1 (pt_not (pt_val (pe_m0 PySem.F.slot_str_isalnum PySem.F.type_str_isalnum mt_isalnum (pv 0))))))) (pss_one (ps_ret pe_bl)) pss_nil) (pss_one (ps_ret (pe_and (pe_cmpR op_eq (pv 0) (pe_lower (pv 0)) (nomark _)) (pe_one (pe_m0 PySem.F.slot_str_isalpha PySem.F.type_str_isalpha mt_isalpha (pe_ix ix_str (pv 0) pe_int (fun _ _ => rfl)))))))), ?_⟩
    refine ⟨_, rfl, _, _, rfl, .inl ⟨x, rfl, line_of (by omega), _, rfl, ?_⟩⟩
    have ea : areSg x 12 = decide (x.length ≤ 12) := by
      unfold areSg
      rw [(signs_iff x).mpr hx, Bool.and_true]
      congr 1
      exact propext (by omega)
    rw [ea]
    by_cases h12 : x.length ≤ 12
    · rw [decide_eq_true h12]
      refine iteF ⟨_, rfl, ⟨_, rfl⟩, _, rfl, rfl, trivial, _, rfl, ?_⟩
      rw [wd_split hx h12] at q
      cases e1 : Txt.isalnum x with
      | false =>
        rw [e1] at q
        exact iteT q
      | true =>
        rw [e1, Bool.true_and] at q
        refine iteF ⟨_, rfl, _, rfl, ⟨_, rfl⟩, _, rfl, rfl, by omega, rfl, _, rfl, ?_⟩
        cases e2 : decide (V.str x = V.str (Txt.lower x)) with
        | false =>
          rw [e2] at q
          exact iteF q
        | true =>
          rw [e2, Bool.true_and] at q
          cases e3 : tl x with
          | nil =>
            have : x.length = 0 := by rw [len_tl, e3]; rfl
            unfold Txt.isalnum at e1
            rw [this] at e1
            exact absurd e1 (by simp)
          | cons c r =>
            refine iteT ⟨_, rfl, _, _, c, rfl, rfl, line_of (by omega), at0 e3, ⟨_, rfl⟩, _, rfl, rfl, trivial, ?_⟩
            rw [e3] at q
            have cs := hx c (by rw [e3]; exact List.mem_cons_self ..)
            have hc : Txt.isalpha ⟨#[c]⟩ = lowC c := by
              unfold Txt.isalpha
              rw [← Array.all_toList]
              show (true && (Unicode.isAlpha c && true)) = _
              rw [alpha_sgn c (by omega), Bool.and_true, Bool.true_and]
              have h2 : x = Txt.lower x := by
                have := of_decide_eq_true e2
                injection this
              rw [tl_eq_iff, tl_lower hx, e3, List.map_cons] at h2
              have h3 : c = lo1 c := by injection h2
              unfold lo1 at h3
              unfold lowC
              congr 1
              split at h3 <;> exact propext (by omega)
            rw [hc]
            exact q
    · rw [decide_eq_false h12]
      have : wdL (tl x) = false := by
        unfold wdL
        rw [decide_eq_false (by rw [← len_tl]; exact h12)]
        rfl
      rw [this] at q
      exact iteT (iteT q)
theorem ok_is_pair (F : Fun K "is_pair" "is_pair" s_is_pair f fd) (T : Txt K mg) (D_is_word : Dfn P w K mg base "is_word" 2 ["value"] spIsWord) (D_is_text : Dfn P w K mg base "is_text" 2 ["value"] (spIsText K)) :
    FnOk P w K mg base CX0 3 f fd ["value"] spIsPair := by
  refine F.ok sc_is_pair (fun vs H Q E h => ?_) (fun cdv A outer s H vs Q E hr h => ?_)
  · obtain ⟨a, p, rfl, _⟩ := h
    rfl
  · obtain ⟨a, p, rfl, ha, ⟨h1, h2, h3, h4⟩, q⟩ := h
    have hwl : p.1.length ≤ 12 := by
      unfold wdL at h2
      rw [Bool.and_eq_true] at h2
      rw [len_tl]
      exact of_decide_eq_true h2.1
    have h3l := h3.2
    refine ⟨_, (pss_one (ps_ret (pe_and (pe_callB call_isi (by rfl) T.b_isinstance (by decide +kernel) (pa_cons (pv 0) (pa_cons (pe_bltn (v := .ty "tuple") (by rfl) T.b_tuple (by decide +kernel) rfl) pa_nil))) (pe_and (pe_cmpR op_eq (pe_callB call_len_seq (by rfl) T.b_len (by decide +kernel) (pa_cons (pv 0) pa_nil)) pe_int (nomark _)) (pe_and (pe_d D_is_word hr (by decide) (pa_cons (pe_ix ix_tup (pv 0) pe_int (fun _ _ => rfl)) pa_nil)) (pe_one (pe_d D_is_text hr (by decide) (pa_cons (pe_ix ix_tup (pv 0) pe_int (fun _ _ => rfl)) pa_nil)))))))), ?_⟩
    refine ⟨_, rfl, _, _, _, _, true, rfl, ClsV.ty "tuple", TyX.base (.tup ha), kit_ty (by decide +kernel), true, rfl, iteT ?_⟩
    refine ⟨_, rfl, a, _, rfl, .inr (SqT.of ha), rfl, _, rfl, iteT ?_⟩
    refine ⟨_, rfl, a, _, _, _, rfl, rfl, SqT.of ha, atI_nat (j := 0) rfl, p.1, rfl, h1, by omega, _, rfl, ?_⟩
    rw [h2]
    refine iteT ⟨_, rfl, a, _, _, _, rfl, rfl, SqT.of ha, atI_nat (j := 1) rfl, _, rfl, .inl ⟨p.2, rfl, line_of (by omega), ?_⟩⟩
    rw [(isTx_iff p.2).mpr ⟨h3, h4⟩]
    exact q
theorem ok_are_pairs (F : Fun K "are_pairs" "are_pairs" s_are_pairs f fd) (T : Txt K mg) (D_is_pair : Dfn P w K mg base "is_pair" 3 ["value"] spIsPair) : FnOk P w K mg base CX0 4 f fd ["value"] spIsName := by
  refine F.ok sc_are_pairs (fun vs H Q E h => ?_) (fun cdv A outer s H vs Q E hr h => ?_)
  · obtain ⟨a, nm, rfl, _⟩ := h
    rfl
  · obtain ⟨a, nm, rfl, ⟨ts, ha, hp⟩, hok, hl, q⟩ := h
    have hts : ts.length = nm.length := hp.length
    refine ⟨_, (pss_one (ps_ret (pe_and (pe_callB call_isi (by rfl) T.b_isinstance (by decide +kernel) (pa_cons (pv 0) (pa_cons (pe_bltn (v := .ty "tuple") (by rfl) T.b_tuple (by decide +kernel) rfl) pa_nil))) (pe_one (pe_callB (cr_all rfl) (by rfl) T.b_all (by decide +kernel) (pa_cons (pe_lc (own := [("each", 1)]) (g := gName 1) (by rfl) sc_are_pairs.nd (pi_tup (pv 0)) (blkOk_by (own := [("each", 1)]) (N := n_are_pairs) (sc := defScope s_are_pairs) (by decide +kernel)) (fun _ _ _ _ _ => pg_name (i := 1) sc_are_pairs.nd rfl (Or.inl rfl)) (fun _ _ _ _ _ => pts_nil) (fun _ _ _ _ _ => (pe_d D_is_pair hr (by decide) (pa_cons (pv 1) pa_nil)))) pa_nil)))))), ?_⟩
    refine ⟨_, rfl, _, _, _, _, true, rfl, ClsV.ty "tuple", TyX.base (.tup ha), kit_ty (by decide +kernel), true, rfl, iteT ?_⟩
    refine ⟨_, rfl, a, rfl, ⟨_, SqT.of ha⟩, fun D hD => lc_it (walk_tup (K := K) (a := a) (xs := ts.map V.ref)) (fun i H' => Same H H' ∧ H' D = some (.lst ((List.replicate i true).map V.bl))) ⟨same_new hD, upd_same⟩ (fun i H' _ h => SqT.of (h.1 _ _ ha)) ?_ ?_⟩
    · rintro i v H1 H2 hi ⟨sm, hH⟩ ⟨rfl, hv⟩
      rw [List.getElem?_map] at hv
      rw [List.length_map] at hi
      cases e : ts[i]? with
      | none =>
        rw [e] at hv
        cases hv
      | some t =>
        rw [e] at hv
        have hv' : V.ref t = v := Option.some.inj hv
        subst hv'
        obtain ⟨p, hpi, hpt⟩ := paired_at hp e
        refine ⟨rfl, ?_⟩
        unfold tYes
        refine iteT ⟨_, rfl, t, p, rfl, sm _ _ hpt, hok p (List.mem_of_getElem? hpi), _, hH, ?_, fun b o hb => ?_, ?_⟩
        · rw [List.length_map, List.length_replicate]
          exact small1000 (by omega)
        · rw [upd_ne (ne_of_none hb hD)]
          exact sm b o hb
        · rw [upd_same, List.replicate_succ', List.map_append]
          rfl
    · rintro H1 ⟨sm, hH⟩
      refine ⟨D, _, rfl, SqL.of hH, ?_⟩
      have : (List.replicate (ts.map V.ref).length true).all id = true := by simp
      rw [this]
      exact q _ sm
theorem ok_is_name (F : Fun K "is_name" "is_name" s_is_name f fd) (T : Txt K mg) (D_are_pairs : Dfn P w K mg base "are_pairs" 4 ["value"] spIsName) : FnOk P w K mg base CX0 5 f fd ["value"] spIsName := by
  obtain ⟨t0, gL⟩ := T.g_levels
  refine F.ok sc_is_name (fun vs H Q E h => ?_) (fun cdv A outer s H vs Q E hr h => ?_)
  · obtain ⟨a, nm, rfl, _⟩ := h
    rfl
  · obtain ⟨a, nm, rfl, ⟨ts, ha, hp⟩, hok, hl, q⟩ := h
    have hts : ts.length = nm.length := hp.length
    refine ⟨_, (pss_one (ps_ret (pe_and (pe_d D_are_pairs hr (by decide) (pa_cons (pv 0) pa_nil)) (pe_one (pe_cmpR op_le (pe_callB call_len_seq (by rfl) T.b_len (by decide +kernel) (pa_cons (pv 0) pa_nil)) (pe_glob (v := .int 8) rfl gL ⟨_, rfl⟩) (nomark _)))))), ?_⟩
    refine ⟨_, rfl, a, nm, rfl, ⟨ts, ha, hp⟩, hok, hl, fun H' sm => ⟨_, rfl, iteT ?_⟩⟩
    refine ⟨_, rfl, a, _, rfl, .inr (SqT.of (sm _ _ ha)), _, _, rfl, rfl, ?_⟩
    show Q (.bl (decide (((ts.map V.ref).length : Int) ≤ 8))) H'
    rw [show decide (((ts.map V.ref).length : Int) ≤ (8 : Int)) = true from decide_eq_true (by rw [List.length_map]; omega)]
    exact q _ sm
end
end Bw

namespace Bw
open PySem PySem.Spec L2 TL PyProof.Rows

/-! ### tests and values whose outcome is known -/
theorem tIf_val {t : TT} {ta tb : TE} {σ : L2.St} {H : Hp} {Q : VK} (b : Bool) (v : V) (ht : ∀ R : Bool → Hp → Prop, R b H → t σ H R) (h1 : b = true → ∀ R : VK, R v H → ta σ H R) (h2 : b = false → ∀ R : VK, R v H → tb σ H R)
    (h : Q v H) : tIf t ta tb σ H Q := by
  refine ht _ ?_
  cases b with
  | true => exact iteT (h1 rfl Q h)
  | false => exact iteF (h2 rfl Q h)
theorem tIfS_val {c : TT} {t u : TS} {D : Ends} {σ : L2.St} {H : Hp} (b : Bool) (hc : ∀ R : Bool → Hp → Prop, R b H → c σ H R) (h1 : b = true → t D σ H) (h2 : b = false → u D σ H) : tIfS c t u D σ H := by
  refine hc _ ?_
  cases b with
  | true => exact iteT (h1 rfl)
  | false => exact iteF (h2 rfl)
theorem tOr_val {t u : TT} {σ : L2.St} {H : Hp} (b1 b2 : Bool) (h1 : ∀ R : Bool → Hp → Prop, R b1 H → t σ H R) (h2 : b1 = false → ∀ R : Bool → Hp → Prop, R b2 H → u σ H R) (R : Bool → Hp → Prop) (r : R (b1 || b2) H) : tOr t u σ H R := by
  refine h1 _ ?_
  cases b1 with
  | true => exact iteT r
  | false => exact iteF (h2 rfl R r)
theorem tAnd_val {t u : TT} {σ : L2.St} {H : Hp} (b1 b2 : Bool) (h1 : ∀ R : Bool → Hp → Prop, R b1 H → t σ H R) (h2 : b1 = true → ∀ R : Bool → Hp → Prop, R b2 H → u σ H R) (R : Bool → Hp → Prop) (r : R (b1 && b2) H) : tAnd t u σ H R := by
  refine h1 _ ?_
  cases b1 with
  | true => exact iteT (h2 rfl R r)
  | false => exact iteF r
theorem tOrV_val {ta tb : TE} {σ : L2.St} {H : Hp} (b1 b2 : Bool) (h1 : ∀ R : VK, R (.bl b1) H → ta σ H R) (h2 : b1 = false → ∀ R : VK, R (.bl b2) H → tb σ H R) (R : VK) (r : R (.bl (b1 || b2)) H) : tOrV ta tb σ H R := by
  refine h1 _ ⟨_, rfl, ?_⟩
  cases b1 with
  | true => exact iteT r
  | false => exact iteF (h2 rfl R r)
theorem tAndV_val {ta tb : TE} {σ : L2.St} {H : Hp} (b1 b2 : Bool) (h1 : ∀ R : VK, R (.bl b1) H → ta σ H R) (h2 : b1 = true → ∀ R : VK, R (.bl b2) H → tb σ H R) (R : VK) (r : R (.bl (b1 && b2)) H) : tAndV ta tb σ H R := by
  refine h1 _ ⟨_, rfl, ?_⟩
  cases b1 with
  | true => exact iteT (h2 rfl R r)
  | false => exact iteF r
theorem blanks_sp {l : List Nat} {k : Nat} (h : l[k]? = some 32) : blanksFrom l k = blanksFrom l (k + 1) := by
  unfold blanksFrom
  obtain ⟨h1, h2⟩ := List.getElem?_eq_some_iff.mp h
  rw [List.drop_eq_getElem_cons h1, h2, List.takeWhile_cons_of_pos (by decide), List.length_cons]
  omega
theorem blanks_ne {l : List Nat} {k : Nat} (h : l[k]? ≠ some 32) : blanksFrom l k = k := by
  unfold blanksFrom
  cases e : l.drop k with
  | nil => rfl
  | cons c r =>
    have : l[k]? = some c := by
      rw [← List.head?_drop, e]
      rfl
    rw [List.takeWhile_cons_of_neg (by rw [beq_iff_eq]; intro z; exact h (by rw [this, z]))]
    rfl
theorem dsgn (c d : Nat) (x : Str) (hx : tl x = [d]) : decide (V.str ⟨#[c]⟩ = V.str x) = decide (c = d) := by
  rw [Bool.eq_iff_iff, decide_eq_true_eq, decide_eq_true_eq]
  constructor
  · intro h
    have : (⟨#[c]⟩ : Str) = x := by injection h
    rw [tl_eq_iff, hx] at this
    have e : [c] = [d] := this
    injection e
  · intro h
    have : (⟨#[c]⟩ : Str) = x := ext_tl (by rw [hx, h])
    rw [this]
theorem tl_comma : tl ("," : Str) = [44] := by decide +kernel
theorem tl_eqs : tl ("=" : Str) = [61] := by decide +kernel
theorem tl_bs : tl ("\\" : Str) = [92] := by decide +kernel
theorem tl_e : tl ("" : Str) = [] := by decide +kernel
def special (c : Nat) : Bool := decide (c ∈ (Str.cps (",=+\"\\" : Str)).toList)
theorem special_iff (c : Nat) : special c = true ↔ c = 44 ∨ c = 61 ∨ c = 43 ∨ c = 34 ∨ c = 92 := by
  unfold special
  rw [decide_eq_true_eq]
  have e : (Str.cps (",=+\"\\" : Str)).toList = [44, 61, 43, 34, 92] := by decide +kernel
  rw [e]
  simp
/-- a sign of a value as it is written: by itself, or behind a backslash -/
def encI (p : Nat × Bool) : List Nat := if p.2 then [92, p.1] else [p.1]
def encL (l : List (Nat × Bool)) : List Nat := l.flatMap encI
theorem encL_app (l m : List (Nat × Bool)) : encL (l ++ m) = encL l ++ encL m := List.flatMap_append
/-- whether the sign at a place of a value of n signs needs a backslash -/
def needs (n : Nat) (i : Nat) (c : Nat) : Bool := special c || (decide (c = 32) && (decide (i = 0) || decide (i + 1 = n)))
def itemsV (l : List Nat) : List (Nat × Bool) := l.mapIdx fun i c => (c, needs l.length i c)
def escL (l : List Nat) : List Nat := encL (itemsV l)
theorem items_at {l : List Nat} {i c : Nat} (h : l[i]? = some c) : (itemsV l)[i]? = some (c, needs l.length i c) := by
  unfold itemsV
  rw [List.getElem?_mapIdx, h]
  rfl
theorem items_len (l : List Nat) : (itemsV l).length = l.length := List.length_mapIdx
theorem encL_len : ∀ l : List (Nat × Bool), (encL l).length ≤ 2 * l.length
  | [] => Nat.zero_le _
  | p :: r => by
    show (encI p ++ encL r).length ≤ _
    have := encL_len r
    have e : (encI p).length ≤ 2 := by unfold encI; split <;> simp
    rw [List.length_append, List.length_cons]
    omega
theorem encL_sgn {l : List (Nat × Bool)} (h : ∀ p ∈ l, 32 ≤ p.1 ∧ p.1 ≤ 126) : Sgn (encL l) := by
  intro c hc
  obtain ⟨p, hp, hc⟩ := List.mem_flatMap.mp hc
  unfold encI at hc
  split at hc
  · rcases List.mem_cons.mp hc with rfl | hc
    · omega
    · rw [List.mem_singleton.mp hc]
      exact h p hp
  · rw [List.mem_singleton.mp hc]
    exact h p hp
theorem items_mem {l : List Nat} {p : Nat × Bool} (h : p ∈ itemsV l) : p.1 ∈ l := by
  obtain ⟨i, hi, e⟩ := List.mem_iff_getElem.mp h
  rw [items_len] at hi
  have h2 : l[i]? = some l[i] := List.getElem?_eq_getElem hi
  have h3 := items_at h2
  rw [List.getElem?_eq_getElem (by rw [items_len]; exact hi), e] at h3
  rw [Option.some.inj h3]
  exact List.getElem_mem hi
theorem take_next {α : Type} {l : List α} {i : Nat} {x : α} (h : l[i]? = some x) : l.take (i + 1) = l.take i ++ [x] := by
  rw [List.take_add_one, h]
  rfl
theorem cps_get {x : Str} {i : Nat} {c : Nat} (h : x.cps[i]? = some c) : (tl x)[i]? = some c := by
  rw [← h]
  exact Array.getElem?_toList
theorem cps_size (x : Str) : x.cps.size = (tl x).length := Array.length_toList.symm
def sgnS (c : Nat) : Str := ⟨#[c]⟩
theorem join_signs : ∀ l : List Nat, joinL [] ((l.map sgnS).map tl) = l
  | [] => rfl
  | [c] => rfl
  | c :: d :: r => by
    show [c] ++ ([] ++ joinL [] (((d :: r).map sgnS).map tl)) = _
    rw [join_signs (d :: r)]
    rfl
theorem join_signsS (l : List Nat) : tl (Txt.join "" (l.map sgnS)) = l := by
  rw [join_eq, tl_join, tl_e, join_signs]
theorem sum_ones (l : List Nat) : ((l.map sgnS).map (·.length)).sum = l.length := by
  induction l with
  | nil => rfl
  | cons c r ih =>
    rw [List.map_cons, List.map_cons, List.sum_cons, ih, List.length_cons]
    have : (sgnS c).length = 1 := rfl
    omega
/-- a pair and a name as they are written -/
def rowL (p : Str × Str) : List Nat := tl p.1 ++ ([61] ++ escL (tl p.2))
def nameL (nm : Nm) : List Nat := joinL [44] (nm.map rowL)
def spTV : Sp := fun vs H Q _ => ∃ x : Str, vs = [.str x] ∧ IsTx x ∧ ∀ (y : Str) H', tl y = escL (tl x) → Same H H' → Q (.str y) H'
def spNT : Sp := fun vs H Q _ => ∃ (a : Addr) (nm : Nm), vs = [.ref a] ∧ NameAt H a nm ∧ (∀ p ∈ nm, OkP p) ∧ nm.length ≤ 8 ∧ ∀ (y : Str) H', tl y = nameL nm → Same H H' → Q (.str y) H'
section
variable {P : Program} {w : World} {K : PySem.W.Frag} {mg : Str → Option Value} {base : Heap} {f : Addr} {fd : FuncData}
theorem ok_behind_blanks (F : Fun K "_behind_blanks" "_behind_blanks" s_behind_blanks f fd) (T : Txt K mg) : FnOk P w K mg base CX0 1 f fd ["text", "at"] spBehind := by
  refine F.ok sc_behind_blanks (fun vs H Q E h => ?_) (fun cdv A outer s H vs Q E hr h => ?_)
  · obtain ⟨x, n, rfl, _⟩ := h
    rfl
  · obtain ⟨x, n, rfl, hl, hn, q⟩ := h
    refine ⟨_, (pss_cons (ps_while PassesOwn.never (PW.pt (pw_and (pt_cmpR op_lt (pv 1) (pe_callB call_len_str (by rfl) T.b_len (by decide +kernel) (pa_cons (pv 0) pa_nil)) (nomark _)) (pw_and1 (pt_cmpR op_eq (pe_ix ix_str (pv 0) (pv 1) (fun _ _ => rfl)) pe_str (nomark _))))) (pss_one (ps_aug (i := 1) sc_behind_blanks.nd rfl (Or.inl rfl) pe_int ip_add))) (pss_one (ps_ret (pv 1)))), ?_⟩
    refine ⟨fun m σ H' => ∃ k : Nat, σ = [some (.str x), some (.int k)] ∧ k ≤ x.length ∧ m = x.length - k ∧ blanksFrom (tl x) k = blanksFrom (tl x) n ∧ H' = H, ⟨_, n, rfl, hn, rfl, rfl, rfl⟩, ?_⟩
    rintro m σ H' ⟨k, rfl, hk, rfl, eb, rfl⟩
    refine ⟨_, rfl, _, rfl, _, rfl, line_of (by omega), _, _, rfl, rfl, _, rfl, ?_⟩
    by_cases hlt : k < x.length
    · rw [show decide ((k : Int) < (x.length : Int)) = true from decide_eq_true (by omega)]
      obtain ⟨c, hc⟩ : ∃ c, (tl x)[k]? = some c := ⟨_, List.getElem?_eq_getElem (by rw [← len_tl]; exact hlt)⟩
      refine iteT ⟨_, rfl, _, rfl, x, _, c, rfl, rfl, line_of (by omega), atI_nat (j := k) hc, rfl, _, rfl, ?_⟩
      rw [dsgn c 32 " " tl_blank]
      by_cases h32 : c = 32
      · rw [decide_eq_true h32]
        refine iteT ⟨_, fun σ' H' h => h, ?_⟩
        rw [h32] at hc
        refine ⟨_, rfl, _, _, rfl, rfl, ⟨x.length - (k + 1), by omega, k + 1, rfl, by omega, rfl, ?_, rfl⟩⟩
        rw [← blanks_sp hc]
        exact eb
      · rw [decide_eq_false h32]
        refine iteF ⟨_, rfl, ?_⟩
        rw [← eb, blanks_ne (by rw [hc]; intro z; exact h32 (Option.some.inj z))] at q
        exact q
    · rw [show decide ((k : Int) < (x.length : Int)) = false from decide_eq_false (by omega)]
      refine iteF (iteF ⟨_, rfl, ?_⟩)
      rw [← eb, blanks_ne (by rw [List.getElem?_eq_none (by rw [← len_tl]; omega)]; intro z; cases z)] at q
      exact q
theorem ok_text_of_value (F : Fun K "_text_of_value" "_text_of_value" s_text_of_value f fd) (T : Txt K mg) : FnOk P w K mg base CX0 1 f fd ["text"] spTV := by
  obtain ⟨t0, gP⟩ := T.g_special
  refine F.ok sc_text_of_value (fun vs H Q E h => ?_) (fun cdv A outer s H vs Q E hr h => ?_)
  · obtain ⟨x, rfl, _⟩ := h
    rfl
  · obtain ⟨x, rfl, hx, q⟩ := h
    have hl := hx.2
    refine ⟨_, (pss_cons (ps_set (i := 1) sc_text_of_value.nd rfl (Or.inl rfl) (pe_lst pa_nil)) (pss_cons (ps_for PassesOwn.never rfl (pi_enumS (by rfl) T.b_enumerate (pa_cons (pv 0) pa_nil)) (pg_tup (by rfl) (pgs_cons (pg_name (i := 2) sc_text_of_value.nd rfl (Or.inl rfl)) (pgs_cons (pg_name (i := 3) sc_text_of_value.nd rfl (Or.inl rfl)) pgs_nil))) (pss_cons (ps_set (i := 4) sc_text_of_value.nd rfl (Or.inl rfl) (pe_or (pe_cmpR op_eq (pv 2) pe_int (nomark _)) (pe_one (pe_cmpR op_eq (pv 2) (pe_op op_sub (pe_callB call_len_str (by rfl) T.b_len (by decide +kernel) (pa_cons (pv 0) pa_nil)) pe_int) (nomark _))))) (pss_cons (ps_if (PW.pt (pw_or (pt_cmpR op_in_sign (pv 3) (pe_glob (v := .str ",=+\"\\") rfl gP ⟨_, rfl⟩) rfl) (pw_or1 (PW.pt (pw_and (pt_cmpR op_eq (pv 3) pe_str (nomark _)) (pw_and1 (pt_val (pv 4)))))))) (pss_one (ps_expr (pe_bm PySem.F.plainAttrs_list PySem.F.slot_list_append PySem.F.type_list_append mt_append (pv 1) (pa_cons pe_str pa_nil)))) pss_nil) (pss_one (ps_expr (pe_bm PySem.F.plainAttrs_list PySem.F.slot_list_append PySem.F.type_list_append mt_append (pv 1) (pa_cons (pv 3) pa_nil))))))) (pss_one (ps_ret (pe_join pe_str (pv 1)))))), ?_⟩
    refine ⟨Nat.zero_le _, fun l hl0 => ?_⟩
    refine ⟨_, rfl, x, rfl, for_it walk_enumS (fun i σ H' => (∃ a b c : Option V, σ = [some (.str x), some (.ref l), a, b, c]) ∧ Same H H' ∧ H' l = some (.lst (((encL ((itemsV (tl x)).take i)).map sgnS).map V.str))) ⟨⟨_, _, _, rfl⟩, same_new hl0, upd_same⟩ (fun _ _ _ _ _ => trivial) ?_ ?_⟩
    · rintro i v σ H1 H2 hi ⟨⟨a, b, c, rfl⟩, sm, hL⟩ ⟨Tp, d, hd, rfl, hT, rfl⟩
      have hd2 := cps_get hd
      have hi2 : i < x.length := by
        rw [cps_size, ← len_tl] at hi
        exact hi
      have nTl : l ≠ Tp := ne_of_none hL hT
      have sm2 : Same H (upd H1 Tp (.tup [.int (i : Nat), .str ⟨#[d]⟩])) := sm.trans (same_new hT)
      have hL2 : (upd H1 Tp (.tup [.int (i : Nat), .str ⟨#[d]⟩])) l = some (.lst (((encL ((itemsV (tl x)).take i)).map sgnS).map V.str)) := by
        rw [upd_ne nTl]
        exact hL
      have it := items_at hd2
      have tk := take_next it
      have hcount : (encL ((itemsV (tl x)).take i)).length ≤ 200 := by
        have h1 := encL_len ((itemsV (tl x)).take i)
        have h2 := List.length_take_le i (itemsV (tl x))
        omega
      refine ⟨Tp, _, rfl, SqT.of upd_same, rfl, _, _, rfl, _, _, rfl, rfl, ?_⟩
      have ln : (tl x).length = x.length := (len_tl x).symm
      have need : needs (tl x).length i d = (special d || (decide (d = 32) && (decide (i = 0) || decide (i + 1 = x.length)))) := by
        unfold needs
        rw [ln]
      have bare : needs (tl x).length i d = false → encL ((itemsV (tl x)).take (i + 1)) = encL ((itemsV (tl x)).take i) ++ [d] := fun e => by
        rw [tk, encL_app, e]
        rfl
      have slash : needs (tl x).length i d = true → encL ((itemsV (tl x)).take (i + 1)) = encL ((itemsV (tl x)).take i) ++ [92] ++ [d] := fun e => by
        rw [tk, encL_app, e, List.append_assoc]
        rfl
      have mp : ∀ (a : List Nat) (u : Nat), ((a.map sgnS).map V.str) ++ [V.str ⟨#[u]⟩] = ((a ++ [u]).map sgnS).map V.str := fun a u => by
        rw [List.map_append, List.map_append]
        rfl
      have bs : V.str ("\\" : Str) = V.str ⟨#[92]⟩ := by
        exact congrArg V.str (ext_tl tl_bs)
      have szn : ∀ a : List Nat, a.length ≤ 500 → ((a.map sgnS).map V.str).length < sizeLine := fun a ha => by
        rw [List.length_map, List.length_map]
        exact small1000 (by omega)
      -- is_outer = at == 0 or at == len(text) - 1
      have e0 : decide (V.int (i : Nat) = V.int 0) = decide (i = 0) := by
        rw [Bool.eq_iff_iff, decide_eq_true_eq, decide_eq_true_eq]
        exact ⟨fun z => by injection z with z; omega, fun z => by rw [z]; rfl⟩
      have e9 : decide (V.int (i : Nat) = V.int ((x.length : Int) - 1)) = decide (i + 1 = x.length) := by
        rw [Bool.eq_iff_iff, decide_eq_true_eq, decide_eq_true_eq]
        exact ⟨fun z => by injection z with z; omega, fun z => by congr 1; omega⟩
      refine tOrV_val (decide (i = 0)) (decide (i + 1 = x.length)) (fun R r => ⟨_, rfl, rfl, by rw [e0]; exact r⟩)
        (fun _ R r => ⟨_, rfl, _, rfl, _, rfl, line_of (by omega), _, _, rfl, rfl, rfl, by
          show R (.bl (decide (V.int (i : Nat) = V.int ((x.length : Int) - 1)))) _
          rw [e9]
          exact r⟩) _ ?_
      unfold gName tSeq
      dsimp only
      refine tIfS_val (needs (tl x).length i d) (fun R r => ?_) (fun hn => ?_) (fun hn => ?_)
      · rw [need] at r
        exact tOr_val (special d) _ (fun R r => ⟨_, rfl, d, _, rfl, rfl, _, rfl, r⟩) (fun _ R r => tAnd_val (decide (d = 32)) _ (fun R r => ⟨_, rfl, rfl, _, rfl, by rw [dsgn d 32 " " tl_blank]; exact r⟩) (fun _ R r => ⟨_, rfl, _, rfl, r⟩) R r) R r
      · -- a backslash ahead
        refine ⟨_, rfl, .inl ⟨rfl, _, SqL.of hL2⟩, l, _, _, rfl, rfl, hL2, szn _ (by omega), ?_⟩
        refine ⟨_, rfl, .inl ⟨rfl, _, SqL.of upd_same⟩, _, rfl, l, _, _, rfl, rfl, upd_same, ?_, ⟨_, _, _, rfl⟩, fun b o hb => ?_, ?_⟩
        · rw [bs, mp]
          refine szn _ ?_
          rw [List.length_append, List.length_singleton]
          omega
        · rw [upd_ne (ne_of_none hb hl0), upd_ne (ne_of_none hb hl0)]
          exact sm2 b o hb
        · rw [upd_same, bs, mp, mp, slash hn]
      · refine ⟨_, rfl, .inl ⟨rfl, _, SqL.of hL2⟩, _, rfl, l, _, _, rfl, rfl, hL2, szn _ (by omega), ⟨_, _, _, rfl⟩, fun b o hb => ?_, ?_⟩
        · rw [upd_ne (ne_of_none hb hl0)]
          exact sm2 b o hb
        · rw [upd_same, mp, bare hn]
    · rintro σ H1 ⟨⟨a, b, c, rfl⟩, sm, hL⟩
      have e : (itemsV (tl x)).take x.cps.size = itemsV (tl x) := by
        rw [cps_size, ← items_len]
        exact List.take_length
      rw [e] at hL
      refine ⟨⟨_, rfl⟩, _, rfl, "", l, _, rfl, rfl, .inl (SqL.of hL), ?_, q _ _ (join_signsS _) sm⟩
      rw [sum_ones, show ("" : Str).length = 0 by decide +kernel]
      have := encL_len (itemsV (tl x))
      rw [items_len, ← len_tl] at this
      omega
end
end Bw

namespace Bw
open PySem PySem.Spec L2 TL PyProof.Rows

theorem wd_len {w : List Nat} (h : wdL w = true) : w.length ≤ 12 := by
  unfold wdL at h
  rw [Bool.and_eq_true] at h
  exact of_decide_eq_true h.1
theorem esc_len (l : List Nat) : (escL l).length ≤ 2 * l.length := by
  unfold escL
  have := encL_len (itemsV l)
  rw [items_len] at this
  exact this
theorem esc_sgn {l : List Nat} (h : Sgn l) : Sgn (escL l) := encL_sgn fun p hp => h _ (items_mem hp)
theorem row_len {p : Str × Str} (h : OkP p) : (rowL p).length ≤ 213 := by
  obtain ⟨_, h2, h3, _⟩ := h
  have := wd_len h2
  have := esc_len (tl p.2)
  have := h3.2
  have := len_tl p.2
  unfold rowL
  rw [List.length_append, List.length_append, List.length_singleton]
  omega
theorem sum_le {k : Nat} : ∀ {l : List Nat}, (∀ a ∈ l, a ≤ k) → l.sum ≤ k * l.length
  | [], _ => Nat.zero_le _
  | a :: r, h => by
    have h1 := h a (List.mem_cons_self ..)
    have h2 := sum_le (l := r) fun b hb => h b (List.mem_cons_of_mem _ hb)
    rw [List.sum_cons, List.length_cons, Nat.mul_add]
    omega
theorem lens_tl (ys : List Str) : ys.map (·.length) = (ys.map tl).map List.length := by
  rw [List.map_map]
  exact List.map_congr_left fun a _ => len_tl a
section
variable {P : Program} {w : World} {K : PySem.W.Frag} {mg : Str → Option Value} {base : Heap} {f : Addr} {fd : FuncData}
theorem ok_name_text (F : Fun K "name_text" "name_text" s_name_text f fd) (D_is_name : Dfn P w K mg base "is_name" 5 ["value"] spIsName) (D_text_of_value : Dfn P w K mg base "_text_of_value" 1 ["text"] spTV) :
    FnOk P w K mg base CX0 6 f fd ["name"] spNT := by
  refine F.ok sc_name_text (fun vs H Q E h => ?_) (fun cdv A outer s H vs Q E hr h => ?_)
  · obtain ⟨a, nm, rfl, _⟩ := h
    rfl
  · obtain ⟨a, nm, rfl, hN, hok, hl, q⟩ := h
    refine ⟨_, (pss_cons (ps_if (pt_not (pt_val (pe_d D_is_name hr (by decide) (pa_cons (pv 0) pa_nil)))) (pss_one ps_never) pss_nil) (pss_one (ps_ret (pe_join pe_str (pe_lc (own := [("word", 1), ("text", 2)]) (g := gTup K 2 (gCons (gName 1) (gCons (gName 2) gNil))) (by rfl) sc_name_text.nd (pi_tup (pv 0)) (blkOk_by (own := [("word", 1), ("text", 2)]) (N := n_name_text) (sc := defScope s_name_text) (by decide +kernel)) (fun _ _ _ _ _ => pg_tup (by rfl) (pgs_cons (pg_name (i := 1) sc_name_text.nd rfl (Or.inl rfl)) (pgs_cons (pg_name (i := 2) sc_name_text.nd rfl (Or.inl rfl)) pgs_nil))) (fun _ _ _ _ _ => pts_nil) (fun _ _ _ _ _ => (pe_op op_add_str (pe_op op_add_str (pv 1) pe_str) (pe_d D_text_of_value hr (by decide) (pa_cons (pv 2) pa_nil))))))))), ?_⟩
    refine ⟨_, rfl, a, nm, rfl, hN, hok, hl, fun H1 sm => ⟨true, rfl, iteF ?_⟩⟩
    obtain ⟨ts, ha, hp⟩ := hN.up sm
    have hts : ts.length = nm.length := hp.length
    refine ⟨⟨_, rfl⟩, _, rfl, a, rfl, ⟨_, SqT.of ha⟩, fun D hD => lc_it (walk_tup (K := K) (a := a) (xs := ts.map V.ref)) (fun i H' => Same H1 H' ∧ ∃ ys : List Str, H' D = some (.lst (ys.map V.str)) ∧ ys.map tl = (nm.take i).map rowL) ⟨same_new hD, [], upd_same, rfl⟩ (fun i H' _ h => SqT.of (h.1 _ _ ha)) ?_ ?_⟩
    · rintro i v H2 H3 hi ⟨sm2, ys, hH, ey⟩ ⟨rfl, hv⟩
      rw [List.getElem?_map] at hv
      rw [List.length_map] at hi
      cases e : ts[i]? with
      | none =>
        rw [e] at hv
        cases hv
      | some t =>
        rw [e] at hv
        have hv' : V.ref t = v := Option.some.inj hv
        subst hv'
        obtain ⟨p, hpi, hpt⟩ := paired_at hp e
        have okp := hok p (List.mem_of_getElem? hpi)
        have hw := wd_len okp.2.1
        have hx := okp.2.2.1
        have hxl := hx.2
        refine ⟨t, _, rfl, SqT.of (sm2 _ _ hpt), rfl, _, _, rfl, _, _, rfl, rfl, rfl, ?_⟩
        unfold tYes
        have l1 : ("=" : Str).length = 1 := by decide +kernel
        have lw := len_tl p.1
        refine iteT ⟨_, rfl, _, _, rfl, rfl, line_of (by omega), _, rfl, p.2, rfl, hx, fun y H4 hy sm4 => ?_⟩
        have ly : y.length ≤ 200 := by
          have := esc_len (tl p.2)
          have := len_tl p.2
          rw [len_tl, hy]
          omega
        refine ⟨_, _, rfl, rfl, line_of ?_, _, sm4 _ _ hH, ?_, fun b o hb => ?_, ys ++ [(p.1 ++ "=") ++ y], ?_, ?_⟩
        · rw [len_tl, tl_append, List.length_append, ← len_tl, ← len_tl]
          omega
        · have := congrArg List.length ey
          rw [List.length_map, List.length_map] at this
          have := List.length_take_le i nm
          rw [List.length_map]
          exact small1000 (by omega)
        · rw [upd_ne (ne_of_none hb hD)]
          exact sm4 _ _ (sm2 _ _ hb)
        · rw [upd_same, List.map_append]
          rfl
        · rw [take_next hpi, List.map_append, List.map_append, ey]
          congr 1
          show [tl ((p.1 ++ "=") ++ y)] = [rowL p]
          rw [tl_append, tl_append, tl_eqs, hy, List.append_assoc]
          rfl
    · rintro H2 ⟨sm2, ys, hH, ey⟩
      rw [List.length_map, hts, List.take_length] at ey
      have hyl : ys.length = nm.length := by
        have := congrArg List.length ey
        rw [List.length_map, List.length_map] at this
        exact this
      refine ⟨",", D, ys, rfl, rfl, .inl (SqL.of hH), ?_, q _ _ ?_ (sm.trans sm2)⟩
      · have h1 : (ys.map (·.length)).sum ≤ 213 * ys.length := by
          have := sum_le (k := 213) (l := ys.map (·.length)) fun n hn => by
            rw [lens_tl, ey, List.map_map] at hn
            obtain ⟨p, hp2, rfl⟩ := List.mem_map.mp hn
            exact row_len (hok p hp2)
          rw [List.length_map] at this
          exact this
        rw [show ("," : Str).length = 1 by decide +kernel]
        omega
      · rw [join_eq, tl_join, tl_comma, ey]
        rfl
end
end Bw

set_option exponentiation.threshold 4000
namespace Bw
open PySem PySem.Spec L2 TL PyProof.Rows
open NumText (AllDigits digitsVal)

/-! ### the law's dice -/
def DiceAt (H : Hp) (d : Addr) : Prop := ∃ a b c : Int, H d = some (.lst [.int a, .int b, .int c])
/-- all but the dice is as it was -/
def Moved (d : Addr) (H H' : Hp) : Prop := (∀ b o, b ≠ d → H b = some o → H' b = some o) ∧ DiceAt H' d
theorem Moved.trans {d : Addr} {H H1 H2 : Hp} (a : Moved d H H1) (b : Moved d H1 H2) : Moved d H H2 := ⟨fun x o n h => b.1 x o n (a.1 x o n h), b.2⟩
theorem Moved.same {d : Addr} {H H1 : Hp} (h : DiceAt H d) (a : Same H H1) : Moved d H H1 := ⟨fun x o _ h => a x o h, by
  obtain ⟨x, y, z, e⟩ := h
  exact ⟨x, y, z, a _ _ e⟩⟩
theorem Moved.refl {d : Addr} {H : Hp} (h : DiceAt H d) : Moved d H H := Moved.same h (Same.refl H)
theorem DiceAt.same {d : Addr} {H H1 : Hp} (h : DiceAt H d) (a : Same H H1) : DiceAt H1 d := (Moved.same h a).2
theorem DiceAt.ne {d p : Addr} {H : Hp} (h : DiceAt H d) (hp : H p = none) : d ≠ p := by
  obtain ⟨x, y, z, e⟩ := h
  exact ne_of_none e hp
theorem moved_upd {d : Addr} {H : Hp} {a b c : Int} : Moved d H (upd H d (.lst [.int a, .int b, .int c])) := ⟨fun x o n h => by rw [upd_ne n]; exact h, a, b, c, upd_same⟩

def spDice (K : PySem.W.Frag) : Sp := fun vs H Q _ => ∃ (a : Addr) (ns : List Int) (i : Nat), vs = [.ref a, .int i] ∧ SqL K H a (ns.map V.int) ∧
  ∀ p H', H p = none → Same H H' → DiceAt H' p → Q (.ref p) H'
def spRoll : Sp := fun vs H Q _ => ∃ (d : Addr) (n : Int), vs = [.ref d, .int n] ∧ 0 < n ∧ n < 1000000000 ∧ DiceAt H d ∧
  ∀ (r : Int) H', 0 ≤ r → r < n → Moved d H H' → Q (.int r) H'
def spOne : Sp := fun vs H Q _ => ∃ (d l : Addr) (xs : List V), vs = [.ref d, .ref l] ∧ H l = some (.lst xs) ∧ l ≠ d ∧ xs ≠ [] ∧ xs.length < 1000000000 ∧ DiceAt H d ∧
  ∀ v H', v ∈ xs → Moved d H H' → Q v H'
section
variable {P : Program} {w : World} {K : PySem.W.Frag} {mg : Str → Option Value} {base : Heap} {f : Addr} {fd : FuncData}
theorem pow60 : ((10 : Int) ^ (60 : Int).toNat) = 10 ^ 60 := rfl
theorem ok_law_dice (F : Fun K "_law_dice" "_law_dice" s_law_dice f fd) (T : Txt K mg) : FnOk P w K mg base CX0 1 f fd ["_law_script", "_law_at"] (spDice K) := by
  refine F.ok sc_law_dice (fun vs H Q E h => ?_) (fun cdv A outer s H vs Q E hr h => ?_)
  · obtain ⟨a, ns, i, rfl, _⟩ := h
    rfl
  · obtain ⟨a, ns, i, rfl, hS, q⟩ := h
    refine ⟨_, (pss_cons (ps_set (i := 2) sc_law_dice.nd rfl (Or.inl rfl) (pe_op op_add (pe_op op_mul pe_int (pv 1)) pe_int)) (pss_cons (ps_if (pt_cmpR op_lt (pv 1) (pe_callB call_len_seq (by rfl) T.b_len (by decide +kernel) (pa_cons (pv 0) pa_nil)) (nomark _)) (pss_one (ps_set (i := 2) sc_law_dice.nd rfl (Or.inl rfl) (pe_ix ix_list (pv 0) (pv 1) (fun _ _ => rfl)))) pss_nil) (pss_cons (ps_set (i := 3) sc_law_dice.nd rfl (Or.inl rfl) (pe_op op_mod (pe_callTy call_int1 (by rfl) T.b_int (by decide +kernel) (pa_cons (pe_callB call_abs (by rfl) T.b_abs (by decide +kernel) (pa_cons (pv 2) pa_nil)) pa_nil)) (pe_op op_powW (pe_op op_pow pe_int pe_int) pe_int))) (pss_cons (ps_set (i := 4) sc_law_dice.nd rfl (Or.inl rfl) (pe_op op_fdivW (pv 3) (pe_op op_pow pe_int pe_int))) (pss_cons (ps_set (i := 5) sc_law_dice.nd rfl (Or.inl rfl) (pe_op op_add (pe_op op_add (pe_op op_add (pe_op op_mul (pe_op op_mod (pv 3) pe_int) pe_int) (pe_op op_mul pe_int (pv 1))) (pe_op op_mul pe_int (pe_callTy call_int1 (by rfl) T.b_int (by decide +kernel) (pa_cons (pe_cmpR op_lt (pv 2) pe_int (nomark _)) pa_nil)))) pe_int)) (pss_one (ps_ret (pe_lst (pa_cons (pv 4) (pa_cons (pe_op op_mod (pv 5) pe_int) (pa_cons pe_int pa_nil))))))))))), ?_⟩
    refine ⟨_, rfl, _, _, rfl, rfl, .inl ⟨by decide, by decide⟩, _, _, rfl, rfl, ?_⟩
    refine ⟨_, rfl, _, rfl, a, _, rfl, .inl hS, _, _, rfl, rfl, _, rfl, ?_⟩
    have hp60 : CPow 10 60 := ⟨by decide, by decide, by decide⟩
    have hp18 : CPow 10 18 := ⟨by decide, by decide, by decide⟩
    have hpW : CPowW ((10 : Int) ^ (60 : Int).toNat) 10 := ⟨by decide, by decide +kernel⟩
    have hps : (0 : Int) < ((10 : Int) ^ (60 : Int).toNat) ^ (10 : Int).toNat := by decide +kernel
    have hdW : ∀ g : Int, CDivW g ((10 : Int) ^ (18 : Int).toNat) := fun g => ⟨by decide +kernel, by decide +kernel⟩
    refine ite2 (fun hc => ?_) (fun _ => ?_)
    · have hlt : i < ns.length := by
        have := of_decide_eq_true hc
        rw [List.length_map] at this
        omega
      refine ⟨_, rfl, _, rfl, a, _, _, _, rfl, rfl, hS, atI_nat (j := i) (v := .int ns[i]) (by simp [hlt]), ?_⟩
      refine ⟨_, rfl, _, rfl, .inl ⟨_, rfl, _, _, rfl, rfl, hp60, _, _, rfl, rfl, hpW, _, _, rfl, rfl, hps, ?_⟩⟩
      refine ⟨_, rfl, _, _, rfl, rfl, hp18, _, _, rfl, rfl, hdW _, ?_⟩
      refine ⟨_, rfl, _, _, rfl, rfl, (by show (0 : Int) < 2147482763; decide), _, _, rfl, rfl, .inr ⟨by decide, by decide⟩, _, rfl, _, _, rfl, rfl, .inl ⟨by decide, by decide⟩, _, _, rfl, rfl, _, rfl, _, _, rfl, rfl, .inr ⟨_, rfl, _, _, rfl, rfl, .inl ⟨by decide, by decide⟩, _, _, rfl, rfl, _, _, rfl, rfl, ?_⟩⟩
      exact ⟨_, rfl, _, rfl, _, _, rfl, rfl, (by show (0 : Int) < 2147482739; decide), (by show 3 ≤ sizeLine; decide), fun p hp => q p _ hp (same_new hp) ⟨_, _, _, upd_same⟩⟩
    · refine ⟨_, rfl, _, rfl, .inl ⟨_, rfl, _, _, rfl, rfl, hp60, _, _, rfl, rfl, hpW, _, _, rfl, rfl, hps, ?_⟩⟩
      refine ⟨_, rfl, _, _, rfl, rfl, hp18, _, _, rfl, rfl, hdW _, ?_⟩
      refine ⟨_, rfl, _, _, rfl, rfl, (by show (0 : Int) < 2147482763; decide), _, _, rfl, rfl, .inr ⟨by decide, by decide⟩, _, rfl, _, _, rfl, rfl, .inl ⟨by decide, by decide⟩, _, _, rfl, rfl, _, rfl, _, _, rfl, rfl, .inr ⟨_, rfl, _, _, rfl, rfl, .inl ⟨by decide, by decide⟩, _, _, rfl, rfl, _, _, rfl, rfl, ?_⟩⟩
      exact ⟨_, rfl, _, rfl, _, _, rfl, rfl, (by show (0 : Int) < 2147482739; decide), (by show 3 ≤ sizeLine; decide), fun p hp => q p _ hp (same_new hp) ⟨_, _, _, upd_same⟩⟩
theorem emod_nn (a : Int) {n : Int} (h : 0 < n) : 0 ≤ a % n ∧ a % n < n := ⟨Int.emod_nonneg a (by omega), Int.emod_lt_of_pos a h⟩
theorem ok_law_roll (F : Fun K "_law_roll" "_law_roll" s_law_roll f fd) (T : Txt K mg) : FnOk P w K mg base CX0 1 f fd ["_law_dice_here", "_law_total"] spRoll := by
  refine F.ok sc_law_roll (fun vs H Q E h => ?_) (fun cdv A outer s H vs Q E hr h => ?_)
  · obtain ⟨d, n, rfl, _⟩ := h
    rfl
  · obtain ⟨d, n, rfl, h0, h1, ⟨a, b, c, hd⟩, q⟩ := h
    refine ⟨_, (pss_cons (ps_set (i := 2) sc_law_roll.nd rfl (Or.inl rfl) (pe_callTy call_int1 (by rfl) T.b_int (by decide +kernel) (pa_cons (pv 1) pa_nil))) (pss_cons (ps_if (pt_cmpR op_gt (pe_ix ix_list (pv 0) pe_int (fun _ _ => rfl)) pe_int (nomark _)) (pss_cons (ps_set (i := 3) sc_law_roll.nd rfl (Or.inl rfl) (pe_op op_mod (pe_ix ix_list (pv 0) pe_int (fun _ _ => rfl)) (pv 2))) (pss_cons (ps_asg (pe_op op_fdiv (pe_ix ix_list (pv 0) pe_int (fun _ _ => rfl)) (pv 2)) (pg_sub (pv 0) pe_int set_list)) (pss_one (ps_ret (pe_callTy call_int1 (by rfl) T.b_int (by decide +kernel) (pa_cons (pv 3) pa_nil)))))) pss_nil) (pss_cons (ps_asg (pe_op op_add (pe_ix ix_list (pv 0) pe_int (fun _ _ => rfl)) pe_int) (pg_sub (pv 0) pe_int set_list)) (pss_cons (ps_set (i := 4) sc_law_roll.nd rfl (Or.inl rfl) (pe_op op_mod (pe_op op_add (pe_ix ix_list (pv 0) pe_int (fun _ _ => rfl)) (pe_op op_mul pe_int (pe_ix ix_list (pv 0) pe_int (fun _ _ => rfl)))) pe_int)) (pss_cons (ps_set (i := 5) sc_law_roll.nd rfl (Or.inl rfl) (pe_op op_add (pe_op op_mul (pe_op op_mod (pe_op op_mul (pv 4) (pv 4)) pe_int) (pv 4)) (pe_op op_mul pe_int (pe_ix ix_list (pv 0) pe_int (fun _ _ => rfl))))) (pss_cons (ps_set (i := 5) sc_law_roll.nd rfl (Or.inl rfl) (pe_op op_mod (pv 5) pe_int)) (pss_one (ps_ret (pe_callTy call_int1 (by rfl) T.b_int (by decide +kernel) (pa_cons (pe_op op_mod (pe_op op_fdiv (pv 5) pe_int) (pv 2)) pa_nil)))))))))), ?_⟩
    refine ⟨_, rfl, .inl ⟨_, rfl, ?_⟩⟩
    refine ⟨_, rfl, d, _, _, _, rfl, rfl, SqL.of hd, atI_nat (j := 0) rfl, _, _, rfl, rfl, _, rfl, ?_⟩
    refine ite2 (fun hc => ?_) (fun _ => ?_)
    · refine ⟨_, rfl, d, _, _, _, rfl, rfl, SqL.of hd, atI_nat (j := 0) rfl, _, rfl, _, _, rfl, rfl, h0, ?_⟩
      refine ⟨_, rfl, d, _, _, _, rfl, rfl, SqL.of hd, atI_nat (j := 0) rfl, _, rfl, _, _, rfl, rfl, ⟨h0, by omega⟩, ?_⟩
      refine ⟨_, rfl, d, _, _, 0, rfl, rfl, hd, rfl, ?_⟩
      obtain ⟨e1, e2⟩ := emod_nn a h0
      exact ⟨_, rfl, .inl ⟨_, rfl, q _ _ e1 e2 moved_upd⟩⟩
    · refine ⟨_, rfl, d, _, _, _, rfl, rfl, SqL.of hd, atI_nat (j := 2) rfl, _, _, rfl, rfl, ?_⟩
      refine ⟨_, rfl, d, _, _, 2, rfl, rfl, hd, rfl, ?_⟩
      have hd2 : upd H d (.lst [.int a, .int b, .int (c + 1)]) d = some (.lst [.int a, .int b, .int (c + 1)]) := upd_same
      refine ⟨_, rfl, d, _, _, _, rfl, rfl, SqL.of upd_same, atI_nat (j := 1) rfl, _, rfl, d, _, _, _, rfl, rfl, SqL.of upd_same, atI_nat (j := 2) rfl, _, _, rfl, rfl, .inl ⟨by decide, by decide⟩, _, _, rfl, rfl, _, _, rfl, rfl, (by show (0 : Int) < 2305843009213693951; decide), ?_⟩
      obtain ⟨e1, e2⟩ := emod_nn (b + 1000357 * (c + 1)) (n := 2305843009213693951) (by decide)
      refine ⟨_, rfl, _, rfl, _, _, rfl, rfl, .inl ⟨by omega, by omega⟩, _, _, rfl, rfl, (by show (0 : Int) < 2305843009213693921; decide), _, rfl, _, _, rfl, rfl, .inr ⟨by omega, by omega⟩, _, rfl, d, _, _, _, rfl, rfl, SqL.of upd_same, atI_nat (j := 2) rfl, _, _, rfl, rfl, .inl ⟨by decide, by decide⟩, _, _, rfl, rfl, ?_⟩
      refine ⟨_, rfl, _, _, rfl, rfl, (by show (0 : Int) < 2305843009213693907; decide), ?_⟩
      refine ⟨_, rfl, _, _, rfl, rfl, ⟨by decide, by decide⟩, _, rfl, _, _, rfl, rfl, h0, .inl ⟨_, rfl, ?_⟩⟩
      exact q _ _ (emod_nn _ h0).1 (emod_nn _ h0).2 moved_upd
theorem ok_law_one_of (F : Fun K "_law_one_of" "_law_one_of" s_law_one_of f fd) (T : Txt K mg) (D_law_roll : Dfn P w K mg base "_law_roll" 1 ["_law_dice_here", "_law_total"] spRoll) :
    FnOk P w K mg base CX0 2 f fd ["_law_dice_here", "_law_items"] spOne := by
  refine F.ok sc_law_one_of (fun vs H Q E h => ?_) (fun cdv A outer s H vs Q E hr h => ?_)
  · obtain ⟨d, l, xs, rfl, _⟩ := h
    rfl
  · obtain ⟨d, l, xs, rfl, hl, nld, hne, hlen, hd, q⟩ := h
    have hpos : 0 < xs.length := List.length_pos_iff.mpr hne
    refine ⟨_, (pss_one (ps_ret (pe_ix ix_list (pv 1) (pe_d D_law_roll hr (by decide) (pa_cons (pv 0) (pa_cons (pe_callB call_len_seq (by rfl) T.b_len (by decide +kernel) (pa_cons (pv 1) pa_nil)) pa_nil))) (fun _ _ => rfl)))), ?_⟩
    refine ⟨_, rfl, _, rfl, _, rfl, l, _, rfl, .inl (SqL.of hl), d, _, rfl, by omega, by omega, hd, fun r H1 r0 r1 mv => ?_⟩
    obtain ⟨j, rfl⟩ := Int.eq_ofNat_of_zero_le r0
    have hj : j < xs.length := by omega
    exact ⟨l, xs, _, xs[j], rfl, rfl, SqL.of (mv.1 l _ nld hl), atI_nat (by simp [hj]), q _ _ (List.getElem_mem hj) mv⟩
end
end Bw

namespace Bw
open PySem PySem.Spec L2 TL PyProof.Rows

/-! ### reading -/
theorem blanks_run : ∀ (k : Nat) {l : List Nat} {n : Nat} {r : List Nat}, l.drop n = List.replicate k 32 ++ r → r.head? ≠ some 32 → blanksFrom l n = n + k
  | k, l, n, r, h, hr => by
    unfold blanksFrom
    rw [h]
    have e : (List.replicate k 32 ++ r).takeWhile (· == 32) = List.replicate k 32 := by
      rw [List.takeWhile_append_of_pos (by intro c hc; rw [List.eq_of_mem_replicate hc]; rfl)]
      cases r with
      | nil => simp
      | cons c r =>
        rw [List.takeWhile_cons_of_neg (by rw [beq_iff_eq]; intro z; exact hr (by rw [z]; rfl)), List.append_nil]
    rw [e, List.length_replicate]
theorem drop_next {l : List Nat} {n k : Nat} {a r : List Nat} (h : l.drop n = a ++ r) (e : a.length = k) : l.drop (n + k) = r := by
  rw [← List.drop_drop, h, ← e, List.drop_left]
theorem drop_get {l : List Nat} {n c : Nat} {r : List Nat} (h : l.drop n = c :: r) : l[n]? = some c := by
  rw [← List.head?_drop, h]
  rfl
theorem drop_le {l : List Nat} {n : Nat} {a r : List Nat} (h : l.drop n = a ++ r) (hn : n ≤ l.length) : n + a.length ≤ l.length := by
  have := congrArg List.length h
  rw [List.length_drop, List.length_append] at this
  omega
theorem tl_cut (x : Str) (a b : Nat) (h1 : a ≤ x.length) (h2 : b ≤ x.length) : tl (cutS x (some (a : Int)) (some (b : Int))) = ((tl x).drop a).take (b - a) := by
  show (List.take (HT.sIx x.length x.length (some (b : Int)) - HT.sIx x.length 0 (some (a : Int))) (List.drop (HT.sIx x.length 0 (some (a : Int))) x.cps.toList)) = _
  rw [HT.sIx_nat, HT.sIx_nat, Nat.min_eq_left h1, Nat.min_eq_left h2]
theorem wd_take {w : List Nat} (h : wdL w = true) {j : Nat} (hj : j < w.length) : wdL (w.take (j + 1)) = true := by
  unfold wdL at h ⊢
  rw [Bool.and_eq_true, Bool.and_eq_true, decide_eq_true_eq] at h ⊢
  obtain ⟨h1, h2, h3⟩ := h
  refine ⟨by rw [List.length_take]; omega, List.all_eq_true.mpr fun c hc => List.all_eq_true.mp h2 c (List.mem_of_mem_take hc), ?_⟩
  cases w with
  | nil => exact h3
  | cons c r => exact h3
theorem wd_more {w : List Nat} {c : Nat} (h : wdC c = false) : wdL (w ++ [c]) = false := by
  rw [Bool.eq_false_iff]
  intro z
  unfold wdL at z
  rw [Bool.and_eq_true, Bool.and_eq_true] at z
  have := List.all_eq_true.mp z.2.1 c (List.mem_append_right _ (List.mem_singleton.mpr rfl))
  rw [h] at this
  cases this
theorem wd_head {w : List Nat} (h : wdL w = true) : ∃ c r, w = c :: r ∧ 97 ≤ c ∧ c ≤ 122 := by
  unfold wdL at h
  rw [Bool.and_eq_true, Bool.and_eq_true] at h
  cases w with
  | nil => exact absurd h.2.2 (by decide)
  | cons c r =>
    have : lowC c = true := h.2.2
    unfold lowC at this
    exact ⟨c, r, rfl, of_decide_eq_true this⟩
theorem dec_nat (a b : Nat) : decide (V.int (a : Nat) = V.int (b : Nat)) = decide (a = b) := by
  rw [Bool.eq_iff_iff, decide_eq_true_eq, decide_eq_true_eq]
  exact ⟨fun z => by injection z with z; omega, fun z => by rw [z]⟩
theorem add1 (a : Nat) : ((a : Nat) : Int) + 1 = ((a + 1 : Nat) : Int) := by omega
theorem Sgn.take {l : List Nat} (h : Sgn l) (n : Nat) : Sgn (l.take n) := fun c hc => h c (List.mem_of_mem_take hc)
theorem Sgn.drop {l : List Nat} (h : Sgn l) (n : Nat) : Sgn (l.drop n) := fun c hc => h c (List.mem_of_mem_drop hc)
def spRW : Sp := fun vs H Q _ => ∃ (x : Str) (n k1 k2 : Nat) (W R : List Nat), vs = [.str x, .int n] ∧ Sgn (tl x) ∧ x.length ≤ 4000 ∧ n ≤ x.length ∧
  (tl x).drop n = List.replicate k1 32 ++ (W ++ (List.replicate k2 32 ++ 61 :: R)) ∧ wdL W = true ∧
  ∀ (p : Addr) (w : Str) (m : Nat) H', tl w = W → (tl x).drop m = R → m ≤ x.length → Same H H' → H' p = some (.tup [.str w, .int m]) → Q (.ref p) H'
def OkI (i : Nat × Bool) : Prop := (i.2 = true → special i.1 = true ∨ i.1 = 32) ∧ (i.2 = false → special i.1 = false)
def spRS : Sp := fun vs H Q _ => ∃ (x : Str) (n : Nat) (i : Nat × Bool) (R : List Nat), vs = [.str x, .int n] ∧ x.length ≤ 4000 ∧ n ≤ x.length ∧ (tl x).drop n = encI i ++ R ∧ OkI i ∧
  ∀ (p : Addr) (m : Nat) H', (tl x).drop m = R → m ≤ x.length → Same H H' → H' p = some (.tup [.str (sgnS i.1), .int m]) → Q (.ref p) H'
section
variable {P : Program} {w : World} {K : PySem.W.Frag} {mg : Str → Option Value} {base : Heap} {f : Addr} {fd : FuncData}
theorem ok_read_word (F : Fun K "_read_word" "_read_word" s_read_word f fd) (T : Txt K mg) (D_behind_blanks : Dfn P w K mg base "_behind_blanks" 1 ["text", "at"] spBehind) (D_is_word : Dfn P w K mg base "is_word" 2 ["value"] spIsWord) :
    FnOk P w K mg base CX0 3 f fd ["text", "at"] spRW := by
  refine F.ok sc_read_word (fun vs H Q E h => ?_) (fun cdv A outer s H vs Q E hr h => ?_)
  · obtain ⟨x, n, k1, k2, W, R, rfl, _⟩ := h
    rfl
  · obtain ⟨x, n, k1, k2, W, R, rfl, hx, hl, hn, hd, hW, q⟩ := h
    have hlx := len_tl x
    refine ⟨_, (pss_cons (ps_set (i := 2) sc_read_word.nd rfl (Or.inl rfl) (pe_d D_behind_blanks hr (by decide) (pa_cons (pv 0) (pa_cons (pv 1) pa_nil)))) (pss_cons (ps_set (i := 3) sc_read_word.nd rfl (Or.inl rfl) (pv 2)) (pss_cons (ps_while PassesOwn.never (PW.pt (pw_and (pt_cmpR op_lt (pv 3) (pe_callB call_len_str (by rfl) T.b_len (by decide +kernel) (pa_cons (pv 0) pa_nil)) (nomark _)) (pw_and1 (pt_val (pe_d D_is_word hr (by decide) (pa_cons (pe_slice sl_str (pv 0) (po_some (pv 2)) (po_some (pe_op op_add (pv 3) pe_int))) pa_nil)))))) (pss_one (ps_aug (i := 3) sc_read_word.nd rfl (Or.inl rfl) pe_int ip_add))) (pss_cons (ps_if (pt_cmpR op_eq (pv 3) (pv 2) (nomark _)) (pss_one ps_never) pss_nil) (pss_cons (ps_set (i := 1) sc_read_word.nd rfl (Or.inl rfl) (pe_d D_behind_blanks hr (by decide) (pa_cons (pv 0) (pa_cons (pv 3) pa_nil)))) (pss_cons (ps_if (PW.pt (pw_or (pt_cmpR op_eq (pv 1) (pe_callB call_len_str (by rfl) T.b_len (by decide +kernel) (pa_cons (pv 0) pa_nil)) (nomark _)) (pw_or1 (pt_cmpR op_ne (pe_ix ix_str (pv 0) (pv 1) (fun _ _ => rfl)) pe_str (nomark _))))) (pss_one ps_never) pss_nil) (pss_one (ps_ret (pe_tup (pa_cons (pe_slice sl_str (pv 0) (po_some (pv 2)) (po_some (pv 3))) (pa_cons (pe_op op_add (pv 1) pe_int) pa_nil))))))))))), ?_⟩
    obtain ⟨c0, r0, eW, hc0⟩ := wd_head hW
    have e1 : blanksFrom (tl x) n = n + k1 := blanks_run k1 hd (by rw [eW]; show some c0 ≠ some 32; intro z; have := Option.some.inj z; omega)
    have d1 : (tl x).drop (n + k1) = W ++ (List.replicate k2 32 ++ 61 :: R) := drop_next hd List.length_replicate
    have d2 : (tl x).drop (n + k1 + W.length) = List.replicate k2 32 ++ 61 :: R := drop_next d1 rfl
    have e2 : blanksFrom (tl x) (n + k1 + W.length) = n + k1 + W.length + k2 := blanks_run k2 d2 (by show some 61 ≠ some 32; decide)
    have d3 : (tl x).drop (n + k1 + W.length + k2) = 61 :: R := drop_next d2 List.length_replicate
    have l3 : n + k1 + W.length + k2 < (tl x).length := by
      have := congrArg List.length d3
      rw [List.length_drop, List.length_cons] at this
      omega
    have hWl := wd_len hW
    have hWp : 1 ≤ W.length := by rw [eW, List.length_cons]; omega
    refine ⟨_, rfl, _, rfl, x, n, rfl, by omega, hn, ?_⟩
    rw [e1]
    refine ⟨_, rfl, ?_⟩
    refine ⟨fun m σ H' => ∃ j : Nat, j ≤ W.length ∧ σ = [some (.str x), some (.int n), some (.int (n + k1 : Nat)), some (.int (n + k1 + j : Nat))] ∧ m = W.length - j ∧ H' = H, ⟨_, 0, Nat.zero_le _, rfl, rfl, rfl⟩, ?_⟩
    rintro m σ H' ⟨j, hj, rfl, rfl, rfl⟩
    refine ⟨_, rfl, _, rfl, _, rfl, line_of (by omega), _, _, rfl, rfl, _, rfl, ?_⟩
    rw [show decide (((n + k1 + j : Nat) : Int) < (x.length : Int)) = true from decide_eq_true (by omega)]
    have hcut : tl (cutS x (some ((n + k1 : Nat) : Int)) (some ((n + k1 + j + 1 : Nat) : Int))) = ((tl x).drop (n + k1)).take (j + 1) := by
      rw [tl_cut x _ _ (by omega) (by omega)]
      congr 1
      omega
    have hcl : (cutS x (some ((n + k1 : Nat) : Int)) (some (((n + k1 + j : Nat) : Int) + 1))).length ≤ 4000 := by
      rw [add1, len_tl, hcut, List.length_take, List.length_drop]
      omega
    have hcs : Sgn (tl (cutS x (some ((n + k1 : Nat) : Int)) (some (((n + k1 + j : Nat) : Int) + 1)))) := by
      rw [add1, hcut]
      exact (hx.drop _).take _
    refine iteT ⟨_, rfl, ⟨_, rfl, _, rfl, _, rfl, _, _, rfl, rfl, _, rfl, x, rfl, line_of (by omega), _, rfl, hcs, by omega, ?_⟩⟩
    by_cases hjl : j < W.length
    · have hw : wdL (tl (cutS x (some ((n + k1 : Nat) : Int)) (some ((n + k1 + j + 1 : Nat) : Int)))) = true := by
        rw [hcut, d1, List.take_append_of_le_length (by omega)]
        exact wd_take hW hjl
      refine ⟨_, rfl, ?_⟩
      rw [show wdL (tl (cutS x (some ((n + k1 : Nat) : Int)) (some (((n + k1 + j : Nat) : Int) + 1)))) = true from by rw [add1]; exact hw]
      refine iteT ⟨_, fun σ' H' h => h, ?_⟩
      exact ⟨_, rfl, _, _, rfl, rfl, W.length - (j + 1), by omega, j + 1, by omega, by show [_, _, _, some (V.int (((n + k1 + j : Nat) : Int) + 1))] = _; rw [add1]; rfl, rfl, rfl⟩
    · have ej : j = W.length := by omega
      have hw : wdL (tl (cutS x (some ((n + k1 : Nat) : Int)) (some ((n + k1 + j + 1 : Nat) : Int)))) = false := by
        rw [hcut, d1, ej, List.take_length_add_append]
        cases k2 with
        | zero => exact wd_more (c := 61) (by decide)
        | succ k => exact wd_more (c := 32) (by decide)
      refine ⟨_, rfl, ?_⟩
      rw [show wdL (tl (cutS x (some ((n + k1 : Nat) : Int)) (some (((n + k1 + j : Nat) : Int) + 1)))) = false from by rw [add1]; exact hw]
      subst ej
      refine iteF ?_
      refine ⟨_, rfl, _, rfl, rfl, _, rfl, ?_⟩
      rw [dec_nat, decide_eq_false (by omega)]
      refine iteF ⟨_, rfl, _, rfl, x, _, rfl, by omega, by omega, ?_⟩
      rw [e2]
      refine ⟨_, rfl, _, rfl, _, rfl, line_of (by omega), rfl, _, rfl, ?_⟩
      rw [dec_nat, decide_eq_false (by omega)]
      refine iteF ⟨_, rfl, _, rfl, x, _, 61, rfl, rfl, line_of (by omega), atI_nat (drop_get d3), rfl, _, rfl, ?_⟩
      rw [dsgn 61 61 "=" tl_eqs]
      refine iteF ?_
      refine ⟨_, rfl, _, rfl, _, rfl, _, rfl, _, rfl, x, rfl, line_of (by omega), _, rfl, _, _, rfl, rfl, (by show 2 ≤ sizeLine; decide), fun p hp => ?_⟩
      refine q p _ (n + k1 + W.length + k2 + 1) _ ?_ ?_ ?_ (same_new hp) (by rw [upd_same]; show some (HO.tup [_, V.int (((n + k1 + W.length + k2 : Nat) : Int) + 1)]) = _; rw [add1])
      · rw [tl_cut x _ _ (by omega) (by omega), d1, Nat.add_sub_cancel_left, List.take_left]
      · exact drop_next (a := [61]) d3 rfl
      · omega
theorem ok_read_sign (F : Fun K "_read_sign" "_read_sign" s_read_sign f fd) (T : Txt K mg) : FnOk P w K mg base CX0 1 f fd ["text", "at"] spRS := by
  obtain ⟨t0, gP⟩ := T.g_special
  refine F.ok sc_read_sign (fun vs H Q E h => ?_) (fun cdv A outer s H vs Q E hr h => ?_)
  · obtain ⟨x, n, i, R, rfl, _⟩ := h
    rfl
  · obtain ⟨x, n, ⟨c, e⟩, R, rfl, hl, hn, hd, ⟨o1, o2⟩, q⟩ := h
    have hlx := len_tl x
    refine ⟨_, (pss_cons (ps_if (pt_cmpR op_ne (pe_ix ix_str (pv 0) (pv 1) (fun _ _ => rfl)) pe_str (nomark _)) (pss_cons (ps_if (pt_cmpR op_in_sign (pe_ix ix_str (pv 0) (pv 1) (fun _ _ => rfl)) (pe_glob (v := .str ",=+\"\\") rfl gP ⟨_, rfl⟩) rfl) (pss_one ps_never) pss_nil) (pss_one (ps_ret (pe_tup (pa_cons (pe_ix ix_str (pv 0) (pv 1) (fun _ _ => rfl)) (pa_cons (pe_op op_add (pv 1) pe_int) pa_nil)))))) pss_nil) (pss_cons (ps_if (PW.pt (pw_or (pt_cmpR op_eq (pe_op op_add (pv 1) pe_int) (pe_callB call_len_str (by rfl) T.b_len (by decide +kernel) (pa_cons (pv 0) pa_nil)) (nomark _)) (pw_or1 (pt_not (PW.pt (pw_or (pt_cmpR op_in_sign (pe_ix ix_str (pv 0) (pe_op op_add (pv 1) pe_int) (fun _ _ => rfl)) (pe_glob (v := .str ",=+\"\\") rfl gP ⟨_, rfl⟩) rfl) (pw_or1 (pt_cmpR op_eq (pe_ix ix_str (pv 0) (pe_op op_add (pv 1) pe_int) (fun _ _ => rfl)) pe_str (nomark _))))))))) (pss_one ps_never) pss_nil) (pss_one (ps_ret (pe_tup (pa_cons (pe_ix ix_str (pv 0) (pe_op op_add (pv 1) pe_int) (fun _ _ => rfl)) (pa_cons (pe_op op_add (pv 1) pe_int) pa_nil))))))), ?_⟩
    cases e with
    | false =>
      have hd' : (tl x).drop n = c :: R := hd
      have g := drop_get hd'
      have sc := o2 rfl
      have n92 : c ≠ 92 := fun z => by
        have : special c = true := (special_iff c).mpr (by omega)
        rw [sc] at this
        cases this
      have ln : n < (tl x).length := by
        have := congrArg List.length hd'
        rw [List.length_drop, List.length_cons] at this
        omega
      refine ⟨_, rfl, _, rfl, x, _, c, rfl, rfl, line_of (by omega), atI_nat g, rfl, _, rfl, ?_⟩
      rw [dsgn c 92 "\\" tl_bs, decide_eq_false n92]
      refine iteT ⟨_, rfl, _, rfl, x, _, c, rfl, rfl, line_of (by omega), atI_nat g, c, _, rfl, rfl, _, rfl, ?_⟩
      rw [show decide (c ∈ (Str.cps (",=+\"\\" : Str)).toList) = false from sc]
      refine iteF ⟨_, rfl, _, rfl, x, _, c, rfl, rfl, line_of (by omega), atI_nat g, _, rfl, _, _, rfl, rfl, (by show 2 ≤ sizeLine; decide), fun p hp => ?_⟩
      exact q p (n + 1) _ (drop_next (a := [c]) hd' rfl) (by omega) (same_new hp) (by rw [upd_same]; show some (HO.tup [_, V.int (((n : Nat) : Int) + 1)]) = _; rw [add1]; rfl)
    | true =>
      have hd' : (tl x).drop n = 92 :: c :: R := hd
      have g := drop_get hd'
      have d1 : (tl x).drop (n + 1) = c :: R := drop_next (a := [92]) hd' rfl
      have g1 := drop_get d1
      have ln : n + 1 < (tl x).length := by
        have := congrArg List.length d1
        rw [List.length_drop, List.length_cons] at this
        omega
      refine ⟨_, rfl, _, rfl, x, _, 92, rfl, rfl, line_of (by omega), atI_nat g, rfl, _, rfl, ?_⟩
      rw [dsgn 92 92 "\\" tl_bs]
      refine iteF ⟨_, rfl, _, _, rfl, rfl, _, rfl, _, rfl, line_of (by omega), rfl, _, rfl, ?_⟩
      rw [show decide (V.int (((n : Nat) : Int) + 1) = V.int ((x.length : Nat) : Int)) = false from by rw [add1, dec_nat]; exact decide_eq_false (by omega)]
      refine iteF ⟨_, rfl, _, rfl, _, _, rfl, rfl, x, _, c, rfl, rfl, line_of (by omega), (by rw [add1]; exact atI_nat g1), c, _, rfl, rfl, _, rfl, ?_⟩
      have fin : ∀ R2 : Bool → Hp → Prop, R2 true H → (if special c = true then R2 true H else tTest (tOp rEq (tOp rIxS (tVar 0) (tOp (rI0 fun i j => .int (i + j)) (tVar 1) (tC (.int 1)))) (tC (.str " "))) [some (.str x), some (.int n)] H R2) := by
        intro R2 r2
        rcases o1 rfl with h | h
        · rw [h]
          exact iteT r2
        · subst h
          rw [show special 32 = false by decide +kernel]
          refine iteF ⟨_, rfl, _, rfl, _, _, rfl, rfl, x, _, 32, rfl, rfl, line_of (by omega), (by show atI x.cps.toList ((n : Int) + 1) = _; rw [add1]; exact atI_nat g1), rfl, _, rfl, ?_⟩
          rw [dsgn 32 32 " " tl_blank]
          exact r2
      refine fin _ ?_
      refine iteF ?_
      refine ⟨_, rfl, _, rfl, _, _, rfl, rfl, x, _, c, rfl, rfl, line_of (by omega), (by rw [add1]; exact atI_nat g1), _, rfl, _, _, rfl, rfl, (by show 2 ≤ sizeLine; decide), fun p hp => ?_⟩
      have a2 : ((n : Nat) : Int) + 2 = ((n + 2 : Nat) : Int) := by omega
      exact q p (n + 2) _ (drop_next (a := [92, c]) hd' rfl) (by omega) (same_new hp) (by rw [upd_same]; show some (HO.tup [_, V.int (((n : Nat) : Int) + 2)]) = _; rw [a2]; rfl)
end
end Bw

namespace Bw
open PySem PySem.Spec L2 TL PyProof.Rows

/-! ### values read -/
abbrev Its := List (Nat × Bool)
def raw : Nat × Bool := (32, false)
theorem its_split : ∀ {l : Its}, l ≠ [] → l.getLast? ≠ some raw → ∃ (k : Nat) (i : Nat × Bool) (r : Its), l = List.replicate k raw ++ i :: r ∧ i ≠ raw ∧ (r ≠ [] → r.getLast? ≠ some raw)
  | [], h, _ => absurd rfl h
  | i :: r, _, hl => by
    by_cases hi : i = raw
    · have hr : r ≠ [] := by
        rintro rfl
        exact hl (by rw [hi]; rfl)
      have hl2 : r.getLast? ≠ some raw := by
        intro z
        apply hl
        rw [List.getLast?_cons, z]
        rfl
      obtain ⟨k, j, r2, e, h1, h2⟩ := its_split hr hl2
      exact ⟨k + 1, j, r2, by rw [hi, e]; rfl, h1, h2⟩
    · refine ⟨0, i, r, rfl, hi, fun hr z => hl ?_⟩
      rw [List.getLast?_cons, z]
      rfl
theorem encL_raw : ∀ k : Nat, encL (List.replicate k raw) = List.replicate k 32
  | 0 => rfl
  | k + 1 => by
    rw [List.replicate_succ, List.replicate_succ]
    show encI raw ++ encL (List.replicate k raw) = _
    rw [encL_raw k]
    rfl
theorem enc_head {i : Nat × Bool} (h : OkI i) (h2 : i ≠ raw) (r : List Nat) : ∃ c t, encI i ++ r = c :: t ∧ c ≠ 32 ∧ c ≠ 44 := by
  obtain ⟨c, e⟩ := i
  cases e with
  | true => exact ⟨92, c :: r, rfl, by decide, by decide⟩
  | false =>
    refine ⟨c, r, rfl, fun z => h2 (by rw [z]; rfl), fun z => ?_⟩
    have : special c = true := (special_iff c).mpr (.inl z)
    have h3 : special c = false := h.2 rfl
    rw [h3] at this
    cases this
def spRV : Sp := fun vs H Q _ => ∃ (x : Str) (n k0 k3 : Nat) (its : Its) (R : List Nat), vs = [.str x, .int n] ∧ x.length ≤ 4000 ∧ n ≤ x.length ∧
  (tl x).drop n = List.replicate k0 32 ++ (encL its ++ (List.replicate k3 32 ++ R)) ∧ (R = [] ∨ R.head? = some 44) ∧ (∀ i ∈ its, OkI i) ∧ its ≠ [] ∧ its.length ≤ 100 ∧ its.head? ≠ some raw ∧ its.getLast? ≠ some raw ∧
  ∀ (p : Addr) (v : Str) (m : Nat) H', tl v = its.map Prod.fst → (tl x).drop m = R → m ≤ x.length → Same H H' → H' p = some (.tup [.str v, .int m]) → Q (.ref p) H'
theorem stop_head {R : List Nat} (h : R = [] ∨ R.head? = some 44) : R.head? ≠ some 32 := by
  rcases h with rfl | h
  · intro z; cases z
  · rw [h]; decide
theorem end_at {l R : List Nat} {m : Nat} (h : l.drop m = R) (hm : m ≤ l.length) (hR : R = [] ∨ R.head? = some 44) : m = l.length ∨ (m < l.length ∧ l[m]? = some 44) := by
  rcases hR with rfl | hR
  · left
    have := congrArg List.length h
    rw [List.length_drop] at this
    have e : ([] : List Nat).length = 0 := rfl
    omega
  · right
    rw [← h, List.head?_drop] at hR
    exact ⟨(List.getElem?_eq_some_iff.mp hR).1, hR⟩
section
variable {P : Program} {w : World} {K : PySem.W.Frag} {mg : Str → Option Value} {base : Heap} {f : Addr} {fd : FuncData}
theorem ok_read_value (F : Fun K "_read_value" "_read_value" s_read_value f fd) (T : Txt K mg) (D_behind_blanks : Dfn P w K mg base "_behind_blanks" 1 ["text", "at"] spBehind) (D_read_sign : Dfn P w K mg base "_read_sign" 1 ["text", "at"] spRS) :
    FnOk P w K mg base CX0 2 f fd ["text", "at"] spRV := by
  obtain ⟨t0, gT⟩ := T.g_text
  refine F.ok sc_read_value (fun vs H Q E h => ?_) (fun cdv A outer s H vs Q E hr h => ?_)
  · obtain ⟨x, n, k0, k3, its, R, rfl, _⟩ := h
    rfl
  · obtain ⟨x, n, k0, k3, its, R, rfl, hl, hn, hd, hR, ok, ne, h100, hh, hg, q⟩ := h
    have hlx := len_tl x
    refine ⟨_, (pss_cons (ps_set (i := 1) sc_read_value.nd rfl (Or.inl rfl) (pe_d D_behind_blanks hr (by decide) (pa_cons (pv 0) (pa_cons (pv 1) pa_nil)))) (pss_cons (ps_set (i := 2) sc_read_value.nd rfl (Or.inl rfl) pe_str) (pss_cons (ps_while PassesOwn.never (PW.pt (pw_and (pt_cmpR op_lt (pv 1) (pe_callB call_len_str (by rfl) T.b_len (by decide +kernel) (pa_cons (pv 0) pa_nil)) (nomark _)) (pw_and1 (pt_cmpR op_ne (pe_ix ix_str (pv 0) (pv 1) (fun _ _ => rfl)) pe_str (nomark _))))) (pss_cons (ps_set (i := 3) sc_read_value.nd rfl (Or.inl rfl) (pe_d D_behind_blanks hr (by decide) (pa_cons (pv 0) (pa_cons (pv 1) pa_nil)))) (pss_cons (ps_if (PW.pt (pw_or (pt_cmpR op_eq (pv 3) (pe_callB call_len_str (by rfl) T.b_len (by decide +kernel) (pa_cons (pv 0) pa_nil)) (nomark _)) (pw_or1 (pt_cmpR op_eq (pe_ix ix_str (pv 0) (pv 3) (fun _ _ => rfl)) pe_str (nomark _))))) (pss_one (ps_ret (pe_tup (pa_cons (pv 2) (pa_cons (pv 3) pa_nil))))) pss_nil) (pss_cons (ps_asg (pe_d D_read_sign hr (by decide) (pa_cons (pv 0) (pa_cons (pv 3) pa_nil))) (pg_tup (by rfl) (pgs_cons (pg_name (i := 4) sc_read_value.nd rfl (Or.inl rfl)) (pgs_cons (pg_name (i := 5) sc_read_value.nd rfl (Or.inl rfl)) pgs_nil)))) (pss_cons (ps_set (i := 6) sc_read_value.nd rfl (Or.inl rfl) (pe_slice sl_str (pv 0) (po_some (pv 1)) (po_some (pv 3)))) (pss_cons (ps_if (pt_cmpR op_gt (pe_op op_add (pe_op op_add (pe_callB call_len_str (by rfl) T.b_len (by decide +kernel) (pa_cons (pv 2) pa_nil)) (pe_callB call_len_str (by rfl) T.b_len (by decide +kernel) (pa_cons (pv 6) pa_nil))) pe_int) (pe_glob (v := .int 100) rfl gT ⟨_, rfl⟩) (nomark _)) (pss_one ps_never) pss_nil) (pss_cons (ps_set (i := 2) sc_read_value.nd rfl (Or.inl rfl) (pe_op op_add_str (pe_op op_add_str (pv 2) (pv 6)) (pv 4))) (pss_one (ps_set (i := 1) sc_read_value.nd rfl (Or.inl rfl) (pv 5)))))))))) (pss_cons (ps_if (pt_cmpR op_eq (pv 2) pe_str (nomark _)) (pss_one ps_never) pss_nil) (pss_one (ps_ret (pe_tup (pa_cons (pv 2) (pa_cons (pv 1) pa_nil))))))))), ?_⟩
    have hb : (encL its ++ (List.replicate k3 32 ++ R)).head? ≠ some 32 := by
      cases its with
      | nil => exact absurd rfl ne
      | cons i r =>
        obtain ⟨c, t, e, n32, _⟩ := enc_head (ok i (List.mem_cons_self ..)) (fun z => hh (by rw [z]; rfl)) (encL r ++ (List.replicate k3 32 ++ R))
        show (encI i ++ encL r ++ (List.replicate k3 32 ++ R)).head? ≠ _
        rw [List.append_assoc, e]
        intro z
        exact n32 (Option.some.inj z)
    have e0 := blanks_run k0 hd hb
    have d0 := drop_next hd List.length_replicate
    have l0 : n + k0 ≤ x.length := by
      have := drop_le hd (by omega)
      rw [List.length_replicate] at this
      omega
    refine ⟨_, rfl, _, rfl, x, n, rfl, by omega, hn, ?_⟩
    rw [e0]
    refine ⟨fun m σ H' => ∃ (done rest : Its) (p : Nat) (v : Str) (a b c d : Option V), its = done ++ rest ∧ p ≤ x.length ∧ (tl x).drop p = encL rest ++ (List.replicate k3 32 ++ R) ∧ tl v = done.map Prod.fst ∧ σ = [some (.str x), some (.int p), some (.str v), a, b, c, d] ∧ m = rest.length ∧ Same H H', ⟨_, [], its, n + k0, "", _, _, _, _, rfl, l0, d0, tl_e, rfl, rfl, fun b u e => e⟩, ?_⟩
    rintro m σ H1 ⟨done, rest, p, v, a, b, c, d, eI, hp, hd1, hv, rfl, rfl, sm⟩
    have leaves : ∀ (m : Nat) (B : Bool → Hp → Prop), (tl x).drop m = R → m ≤ x.length → ∀ (σ : L2.St) (Hq : Hp) (u w : TE), True := fun _ _ _ _ _ _ _ _ => trivial
    clear leaves
    by_cases hr0 : rest = []
    · subst hr0
      rw [List.append_nil] at eI
      have hv2 : tl v = its.map Prod.fst := by rw [hv, eI]
      have hvne : v ≠ "" := fun z => by
        rw [z, tl_e] at hv2
        exact ne (List.map_eq_nil_iff.mp hv2.symm)
      have d2 : (tl x).drop p = List.replicate k3 32 ++ R := hd1
      cases k3 with
      | zero =>
        have d3 : (tl x).drop p = R := d2
        have fin : (tSeq (tIfS (tTest (tOp rEq (tVar 2) (tC (V.str "")))) tNever tNext) (tRet (tTup (tCons (tVar 2) (tCons (tVar 1) tNil))))) { nx := fun x H' => Q V.non H', rt := Q } [some (.str x), some (.int p), some (.str v), a, b, c, d] H1 := by
          refine ⟨_, rfl, rfl, _, rfl, ?_⟩
          rw [decide_eq_false (fun z => hvne (by injection z))]
          refine iteF ⟨_, rfl, _, rfl, (by show 2 ≤ sizeLine; decide), fun pp hpp => ?_⟩
          exact q pp v p _ hv2 d3 hp (sm.trans (same_new hpp)) upd_same
        refine ⟨_, rfl, _, rfl, _, rfl, line_of (by omega), _, _, rfl, rfl, _, rfl, ?_⟩
        rcases end_at d3 (by omega) hR with e | ⟨e1, e2⟩
        · rw [show decide ((p : Int) < (x.length : Int)) = false from decide_eq_false (by omega)]
          exact iteF (iteF fin)
        · rw [show decide ((p : Int) < (x.length : Int)) = true from decide_eq_true (by omega)]
          refine iteT ⟨_, rfl, _, rfl, x, _, 44, rfl, rfl, line_of (by omega), atI_nat e2, rfl, _, rfl, ?_⟩
          rw [dsgn 44 44 "," tl_comma]
          exact iteF fin
      | succ k =>
        obtain ⟨c32, hc32⟩ : ∃ t, (tl x)[p]? = some t ∧ t = 32 := ⟨32, drop_get (r := List.replicate k 32 ++ R) (by rw [d2]; rfl), rfl⟩
        have e2 : blanksFrom (tl x) p = p + (k + 1) := blanks_run (k + 1) d2 (stop_head hR)
        have d3 : (tl x).drop (p + (k + 1)) = R := drop_next d2 List.length_replicate
        have l3 : p + (k + 1) ≤ x.length := by
          have := drop_le d2 (by omega)
          rw [List.length_replicate] at this
          omega
        refine ⟨_, rfl, _, rfl, _, rfl, line_of (by omega), _, _, rfl, rfl, _, rfl, ?_⟩
        rw [show decide ((p : Int) < (x.length : Int)) = true from decide_eq_true (by omega)]
        refine iteT ⟨_, rfl, _, rfl, x, _, c32, rfl, rfl, line_of (by omega), atI_nat hc32.1, rfl, _, rfl, ?_⟩
        rw [dsgn c32 44 "," tl_comma, hc32.2]
        refine iteT ⟨_, fun σ' H' h => h, ?_⟩
        refine ⟨_, rfl, _, rfl, x, p, rfl, by omega, hp, ?_⟩
        rw [e2]
        have ret : (tRet (tTup (tCons (tVar 2) (tCons (tVar 3) tNil)))) { nx := fun x H' => Q V.non H', rt := Q } [some (.str x), some (.int p), some (.str v), some (.int (p + (k + 1) : Nat)), b, c, d] H1 := by
          refine ⟨_, rfl, _, rfl, (by show 2 ≤ sizeLine; decide), fun pp hpp => ?_⟩
          exact q pp v (p + (k + 1)) _ hv2 d3 l3 (sm.trans (same_new hpp)) upd_same
        refine ⟨_, rfl, _, rfl, x, rfl, line_of (by omega), rfl, _, rfl, ?_⟩
        rw [dec_nat]
        rcases end_at d3 (by omega) hR with e | ⟨e1, e2⟩
        · rw [decide_eq_true (by omega)]
          exact iteT (iteT ret)
        · rw [decide_eq_false (by omega)]
          refine iteF ⟨_, rfl, _, rfl, x, _, 44, rfl, rfl, line_of (by omega), atI_nat e2, rfl, _, rfl, ?_⟩
          rw [dsgn 44 44 "," tl_comma]
          exact iteT ret
    · have hg2 : rest.getLast? ≠ some raw := by
        intro z
        apply hg
        rw [eI, List.getLast?_append, z]
        rfl
      obtain ⟨k, i, r, eR, hi, hr1⟩ := its_split hr0 hg2
      have oi : OkI i := ok i (by rw [eI, eR]; exact List.mem_append_right _ (List.mem_append_right _ (List.mem_cons_self ..)))
      have d1 : (tl x).drop p = List.replicate k 32 ++ (encI i ++ (encL r ++ (List.replicate k3 32 ++ R))) := by
        rw [hd1, eR, encL_app, encL_raw, List.append_assoc]
        show _ ++ (encI i ++ encL r ++ _) = _
        rw [List.append_assoc]
      obtain ⟨c0, t0, eh, n32, n44⟩ := enc_head oi hi (encL r ++ (List.replicate k3 32 ++ R))
      have e2 : blanksFrom (tl x) p = p + k := blanks_run k d1 (by rw [eh]; intro z; exact n32 (Option.some.inj z))
      have d2 := drop_next d1 List.length_replicate
      have d2h : (tl x).drop (p + k) = c0 :: t0 := d2.trans eh
      have l2 : p + k < x.length := by
        have := congrArg List.length d2h
        rw [List.length_drop, List.length_cons] at this
        omega
      obtain ⟨cp, hcp, n44p⟩ : ∃ t, (tl x)[p]? = some t ∧ t ≠ 44 := by
        cases k with
        | zero => exact ⟨c0, drop_get d2h, n44⟩
        | succ k => exact ⟨32, drop_get (r := List.replicate k 32 ++ (encI i ++ (encL r ++ (List.replicate k3 32 ++ R)))) (by rw [d1]; rfl), by decide⟩
      refine ⟨_, rfl, _, rfl, _, rfl, line_of (by omega), _, _, rfl, rfl, _, rfl, ?_⟩
      rw [show decide ((p : Int) < (x.length : Int)) = true from decide_eq_true (by omega)]
      refine iteT ⟨_, rfl, _, rfl, x, _, cp, rfl, rfl, line_of (by omega), atI_nat hcp, rfl, _, rfl, ?_⟩
      rw [dsgn cp 44 "," tl_comma, decide_eq_false n44p]
      refine iteT ⟨_, fun σ' H' h => h, ?_⟩
      refine ⟨_, rfl, _, rfl, x, p, rfl, by omega, hp, ?_⟩
      rw [e2]
      refine ⟨_, rfl, _, rfl, x, rfl, line_of (by omega), rfl, _, rfl, ?_⟩
      rw [dec_nat, decide_eq_false (by omega)]
      refine iteF ⟨_, rfl, _, rfl, x, _, c0, rfl, rfl, line_of (by omega), atI_nat (drop_get d2h), rfl, _, rfl, ?_⟩
      rw [dsgn c0 44 "," tl_comma, decide_eq_false n44]
      refine iteF ?_
      refine ⟨_, rfl, _, rfl, x, p + k, i, encL r ++ (List.replicate k3 32 ++ R), rfl, hl, by omega, d2, oi, fun tp m H2 hm lm sm2 ht => ?_⟩
      have hcut : tl (cutS x (some (p : Int)) (some ((p + k : Nat) : Int))) = List.replicate k 32 := by
        rw [tl_cut x _ _ hp (by omega), d1, Nat.add_sub_cancel_left]
        exact List.take_left' List.length_replicate
      have hvl : v.length = done.length := by rw [len_tl, hv, List.length_map]
      have hcl : (cutS x (some (p : Int)) (some ((p + k : Nat) : Int))).length = k := by rw [len_tl, hcut, List.length_replicate]
      have hdl : done.length + k + 1 ≤ 100 := by
        rw [eI, eR] at h100
        rw [List.length_append, List.length_append, List.length_replicate, List.length_cons] at h100
        omega
      refine ⟨tp, _, rfl, SqT.of ht, rfl, ?_⟩
      refine ⟨_, _, rfl, _, _, rfl, rfl, ?_⟩
      refine ⟨_, rfl, _, rfl, _, rfl, _, rfl, _, rfl, x, rfl, line_of (by omega), ?_⟩
      refine ⟨_, rfl, v, rfl, line_of (by omega), _, rfl, _, rfl, line_of (by omega), _, _, rfl, rfl, _, _, rfl, rfl, _, _, rfl, rfl, _, rfl, ?_⟩
      rw [show decide ((100 : Int) < ((v.length : Nat) : Int) + (((cutS x (some (p : Int)) (some ((p + k : Nat) : Int))).length : Nat) : Int) + 1) = false from decide_eq_false (by rw [hcl]; omega)]
      refine iteF ?_
      have ws1 : (sgnS i.1).length = 1 := rfl
      have wl1 : (v ++ cutS x (some (p : Int)) (some ((p + k : Nat) : Int))).length = done.length + k := by rw [len_tl, tl_append, List.length_append, ← len_tl, ← len_tl, hcl, hvl]
      refine ⟨_, rfl, _, rfl, _, _, rfl, rfl, line_of (by omega), _, rfl, _, _, rfl, rfl, line_of (by rw [wl1, ws1]; omega), ?_⟩
      refine ⟨_, rfl, ?_⟩
      refine ⟨r.length, by rw [eR, List.length_append, List.length_cons]; omega, done ++ List.replicate k raw ++ [i], r, m, _, _, _, _, _, by rw [eI, eR]; simp, lm, hm, ?_, rfl, rfl, sm.trans sm2⟩
      rw [tl_append, tl_append, hv, hcut, List.map_append, List.map_append, List.map_replicate]
      rfl
end
end Bw

namespace Bw
open PySem PySem.Spec L2 TL PyProof.Rows

/-! ### names read -/
theorem strip_ne {x : Str} {k c : Nat} (h : (tl x)[k]? = some c) (hc : c ≠ 32) : Txt.stripChars x " " ≠ "" := by
  intro z
  unfold Txt.stripChars at z
  rw [stripBy_eq] at z
  obtain ⟨l1, l2, _⟩ := lo_facts (Str.cps " ").contains x
  obtain ⟨h1, h2, h3, _⟩ := hi_facts (Str.cps " ").contains x _ l1
  have e := congrArg Str.length z
  generalize stripHi (Str.cps " ").contains true x (stripLo (Str.cps " ").contains true x) = hi at e h1 h2 h3
  generalize stripLo (Str.cps " ").contains true x = lo at e l1 l2 h1
  change (x.cps.extract lo hi).size = _ at e
  rw [Array.size_extract] at e
  have es : x.cps.size = x.length := rfl
  have e0 : ("" : Str).length = 0 := rfl
  have hk : k < x.length := by
    have := (List.getElem?_eq_some_iff.mp h).1
    rw [len_tl]
    exact this
  have g : (Str.cps " ").contains (x.cps.getD k 0) = true := by
    by_cases q : k < lo
    · exact l2 k q
    · exact h3 k (by omega) hk
  have gx : x.cps.getD k 0 = c := by
    rw [← getD_list]
    show (tl x).getD k 0 = c
    rw [List.getD, h]
    rfl
  rw [gx] at g
  have e2 : Str.cps " " = #[32] := by decide +kernel
  rw [e2] at g
  simp at g
  exact hc g
theorem szl {n : Nat} (h : n ≤ 1000) : n < sizeLine := by
  have : (1000 : Nat) < sizeLine := by decide
  omega
structure Rw where
  (k1 : Nat) (W : List Nat) (k2 k0 : Nat) (its : Its) (k3 : Nat)
def rL (r : Rw) : List Nat := List.replicate r.k1 32 ++ (r.W ++ (List.replicate r.k2 32 ++ 61 :: (List.replicate r.k0 32 ++ (encL r.its ++ List.replicate r.k3 32))))
def RwOk (r : Rw) : Prop := wdL r.W = true ∧ (∀ i ∈ r.its, OkI i) ∧ r.its ≠ [] ∧ r.its.length ≤ 100 ∧ r.its.head? ≠ some raw ∧ r.its.getLast? ≠ some raw
def Told (p : Str × Str) (r : Rw) : Prop := tl p.1 = r.W ∧ tl p.2 = r.its.map Prod.fst
/-- what stands behind a row -/
def behindL : List Rw → List Nat
  | [] => []
  | r :: rs => 44 :: joinL [44] ((r :: rs).map rL)
theorem join_rows (r : Rw) : ∀ rs : List Rw, joinL [44] ((r :: rs).map rL) = List.replicate r.k1 32 ++ (r.W ++ (List.replicate r.k2 32 ++ 61 :: (List.replicate r.k0 32 ++ (encL r.its ++ (List.replicate r.k3 32 ++ behindL rs)))))
  | [] => by
    show rL r = _
    unfold rL behindL
    rw [List.append_nil]
  | s :: rs => by
    show rL r ++ ([44] ++ joinL [44] ((s :: rs).map rL)) = _
    have e : rL r = List.replicate r.k1 32 ++ (r.W ++ (List.replicate r.k2 32 ++ 61 :: (List.replicate r.k0 32 ++ (encL r.its ++ List.replicate r.k3 32)))) := rfl
    rw [e]
    unfold behindL
    simp only [List.append_assoc, List.cons_append, List.nil_append]
def spRN : Sp := fun vs H Q _ => ∃ (x : Str) (rs : List Rw), vs = [.str x] ∧ Sgn (tl x) ∧ x.length ≤ 4000 ∧ (∀ r ∈ rs, RwOk r) ∧ rs.length ≤ 8 ∧ tl x = joinL [44] (rs.map rL) ∧
  ∀ (a : Addr) (nm : Nm) H', Paired Told nm rs → Same H H' → NameAt H' a nm → Q (.ref a) H'
section
variable {P : Program} {w : World} {K : PySem.W.Frag} {mg : Str → Option Value} {base : Heap} {f : Addr} {fd : FuncData}
theorem ok_read_name (F : Fun K "read_name" "read_name" s_read_name f fd) (T : Txt K mg) (D_are_signs : Dfn P w K mg base "are_signs" 1 ["value", "most"] (spAre K)) (D_read_word : Dfn P w K mg base "_read_word" 3 ["text", "at"] spRW)
    (D_read_value : Dfn P w K mg base "_read_value" 2 ["text", "at"] spRV) :
    FnOk P w K mg base CX0 4 f fd ["text"] spRN := by
  obtain ⟨t0, gS⟩ := T.g_signs
  obtain ⟨t1, gL⟩ := T.g_levels
  refine F.ok sc_read_name (fun vs H Q E h => ?_) (fun cdv A outer s H vs Q E hr h => ?_)
  · obtain ⟨x, rs, rfl, _⟩ := h
    rfl
  · obtain ⟨x, rs, rfl, hx, hl, ok, h8, ex, q⟩ := h
    have hlx := len_tl x
    refine ⟨_, (pss_cons (ps_if (pt_not (pt_val (pe_d D_are_signs hr (by decide) (pa_cons (pv 0) (pa_cons (pe_glob (v := .int 4000) rfl gS ⟨_, rfl⟩) pa_nil))))) (pss_one ps_never) pss_nil) (pss_cons (ps_if (pt_cmpR op_eq (pe_bm PySem.F.plainAttrs_str PySem.F.slot_str_strip PySem.F.type_str_strip mt_stripChars (pv 0) (pa_cons pe_str pa_nil)) pe_str (nomark _)) (pss_one (ps_ret (pe_tup pa_nil))) pss_nil) (pss_cons (ps_set (i := 1) sc_read_name.nd rfl (Or.inl rfl) (pe_lst pa_nil)) (pss_cons (ps_set (i := 2) sc_read_name.nd rfl (Or.inl rfl) (pe_un un_neg pe_int)) (pss_cons (ps_while PassesOwn.never (pt_cmpR op_lt (pv 2) (pe_callB call_len_str (by rfl) T.b_len (by decide +kernel) (pa_cons (pv 0) pa_nil)) (nomark _)) (pss_cons (ps_if (pt_cmpR op_eq (pe_callB call_len_seq (by rfl) T.b_len (by decide +kernel) (pa_cons (pv 1) pa_nil)) (pe_glob (v := .int 8) rfl gL ⟨_, rfl⟩) (nomark _)) (pss_one ps_never) pss_nil) (pss_cons (ps_asg (pe_d D_read_word hr (by decide) (pa_cons (pv 0) (pa_cons (pe_op op_add (pv 2) pe_int) pa_nil))) (pg_tup (by rfl) (pgs_cons (pg_name (i := 3) sc_read_name.nd rfl (Or.inl rfl)) (pgs_cons (pg_name (i := 4) sc_read_name.nd rfl (Or.inl rfl)) pgs_nil)))) (pss_cons (ps_asg (pe_d D_read_value hr (by decide) (pa_cons (pv 0) (pa_cons (pv 4) pa_nil))) (pg_tup (by rfl) (pgs_cons (pg_name (i := 5) sc_read_name.nd rfl (Or.inl rfl)) (pgs_cons (pg_name (i := 2) sc_read_name.nd rfl (Or.inl rfl)) pgs_nil)))) (pss_one (ps_expr (pe_bm PySem.F.plainAttrs_list PySem.F.slot_list_append PySem.F.type_list_append mt_append (pv 1) (pa_cons (pe_tup (pa_cons (pv 3) (pa_cons (pv 5) pa_nil))) pa_nil)))))))) (pss_one (ps_ret (pe_callTy call_tuple_of (by rfl) T.b_tuple (by decide +kernel) (pa_cons (pv 1) pa_nil))))))))), ?_⟩
    refine ⟨_, rfl, _, _, rfl, .inl ⟨x, rfl, line_of (by omega), ?_⟩⟩
    have ea : areSg x 4000 = true := by
      unfold areSg
      rw [(signs_iff x).mpr hx, Bool.and_true]
      exact decide_eq_true (by omega)
    rw [ea]
    refine ⟨_, rfl, iteF ?_⟩
    refine ⟨_, rfl, rfl, _, _, rfl, rfl, line_of (by omega), rfl, _, rfl, ?_⟩
    cases rs with
    | nil =>
      have e0 : x = "" := ext_tl (by rw [ex, tl_e]; rfl)
      rw [show decide (V.str (Txt.stripChars x " ") = V.str "") = true from by rw [e0]; decide +kernel]
      exact iteT ⟨Nat.zero_le _, fun p hp => q p [] _ .nil (same_new hp) ⟨[], upd_same, .nil⟩⟩
    | cons r0 rs0 =>
      have hne : Txt.stripChars x " " ≠ "" := by
        have m61 : 61 ∈ tl x := by
          rw [ex, join_rows]
          simp
        obtain ⟨k, hk⟩ := List.mem_iff_getElem?.mp m61
        exact strip_ne hk (by decide)
      rw [decide_eq_false (fun z => hne (by injection z))]
      refine iteF ⟨Nat.zero_le _, fun l hl0 => ?_⟩
      refine ⟨_, rfl, ?_⟩
      refine ⟨fun m σ H' => ∃ (done rest : List Rw) (s : Nat) (ts : List Addr) (nm : Nm) (a b c : Option V), r0 :: rs0 = done ++ rest ∧ σ = [some (.str x), some (.ref l), some (.int ((s : Int) - 1)), a, b, c] ∧ m = rest.length ∧ Same H H' ∧ H' l = some (.lst (ts.map V.ref)) ∧
        Paired (PairAt H') ts nm ∧ Paired Told nm done ∧ (rest = [] → s = x.length + 1) ∧ (rest ≠ [] → s ≤ x.length ∧ (tl x).drop s = joinL [44] (rest.map rL)),
        ⟨_, [], r0 :: rs0, 0, [], [], _, _, _, rfl, rfl, rfl, same_new hl0, upd_same, .nil, .nil, (fun z => nomatch z), fun _ => ⟨Nat.zero_le _, ex⟩⟩, ?_⟩
      rintro m σ H1 ⟨done, rest, s, ts, nm, a, b, c, eR, rfl, rfl, sm, hL, hP, hT, i1, i2⟩
      have e1 : ts.length = nm.length := hP.length
      have e2 : nm.length = done.length := hT.length
      refine ⟨_, rfl, _, rfl, _, rfl, line_of (by omega), _, _, rfl, rfl, _, rfl, ?_⟩
      cases rest with
      | nil =>
        have es := i1 rfl
        rw [List.append_nil] at eR
        rw [show decide (((s : Nat) : Int) - 1 < (x.length : Int)) = false from decide_eq_false (by omega)]
        refine iteF ⟨_, rfl, l, _, rfl, .inl ⟨SqL.of hL, fun p hp => ?_⟩⟩
        rw [eR] at q
        exact q p nm _ hT (sm.trans (same_new hp)) ⟨ts, upd_same, Paired.mapP hP fun t p q => same_new hp _ _ q⟩
      | cons r rs =>
        obtain ⟨hs, hd⟩ := i2 (by simp)
        have hr8 : done.length + (rs.length + 1) ≤ 8 := by
          rw [eR, List.length_append, List.length_cons] at h8
          exact h8
        obtain ⟨oW, oI, oN, o100, oH, oG⟩ := ok r (by rw [eR]; exact List.mem_append_right _ (List.mem_cons_self ..))
        rw [join_rows] at hd
        have hlt : s < x.length := by
          have := congrArg List.length hd
          rw [List.length_drop] at this
          simp only [List.length_append, List.length_cons] at this
          omega
        rw [show decide (((s : Nat) : Int) - 1 < (x.length : Int)) = true from decide_eq_true (by omega)]
        refine iteT ⟨_, fun σ' H' h => h, ?_⟩
        refine ⟨_, rfl, l, _, rfl, .inl (SqL.of hL), rfl, _, rfl, ?_⟩
        rw [show decide (V.int (((ts.map V.ref).length : Nat) : Int) = V.int 8) = false from decide_eq_false (fun z => by injection z with z; rw [List.length_map] at z; omega)]
        refine iteF ?_
        refine ⟨_, rfl, _, rfl, _, _, rfl, rfl, x, s, _, _, _, _, (by show [_, V.int (((s : Nat) : Int) - 1 + 1)] = _; rw [Int.sub_add_cancel]), hx, hl, hs, hd, oW, fun tp w m1 H2 hw hd1 hm1 sm1 ht => ?_⟩
        refine ⟨tp, _, rfl, SqT.of ht, rfl, _, _, rfl, _, _, rfl, rfl, ?_⟩
        refine ⟨_, rfl, _, rfl, x, m1, r.k0, r.k3, r.its, behindL rs, rfl, hl, hm1, hd1, (by cases rs with | nil => exact .inl rfl | cons r2 rs2 => exact .inr rfl), oI, oN, o100, oH, oG, fun tp2 v m2 H3 hv hd2 hm2 sm2 ht2 => ?_⟩
        refine ⟨tp2, _, rfl, SqT.of ht2, rfl, _, _, rfl, _, _, rfl, rfl, ?_⟩
        have hL3 := sm2 _ _ (sm1 _ _ hL)
        refine ⟨_, rfl, .inl ⟨rfl, _, SqL.of hL3⟩, _, rfl, _, rfl, (by show 2 ≤ sizeLine; decide), fun p3 hp3 => ?_⟩
        have nlp : l ≠ p3 := ne_of_none hL3 hp3
        refine ⟨l, _, _, rfl, rfl, (by rw [upd_ne nlp]; exact hL3), (by rw [List.length_map]; exact szl (by omega)), ?_⟩
        have keep : ∀ (b : Addr) (o : HO), b ≠ l → H1 b = some o → upd (upd H3 p3 (.tup [.str w, .str v])) l (.lst (ts.map V.ref ++ [V.ref p3])) b = some o := fun b o nb hb => by
          have h3 := sm2 _ _ (sm1 _ _ hb)
          rw [upd_ne nb, upd_ne (ne_of_none h3 hp3)]
          exact h3
        refine ⟨rs.length, by rw [List.length_cons]; omega, done ++ [r], rs, m2 + 1, ts ++ [p3], nm ++ [(w, v)], _, _, _, by rw [eR]; simp, (by show [_, _, some (V.int (m2 : Int)), _, _, _] = _; rw [show (((m2 + 1 : Nat) : Int) - 1) = (m2 : Int) from by omega]), rfl, fun b o hb => ?_, (by rw [upd_same, List.map_append]; rfl), ?_, ?_, fun z => ?_, fun z => ?_⟩
        · exact keep b o (ne_of_none (sm b o hb |> fun _ => hb) hl0) (sm b o hb)
        · refine Paired.snoc (Paired.mapP hP fun t p q => ?_) ?_
          · exact keep t _ (ne_of q hL (by simp)) q
          · show upd _ l _ p3 = _
            rw [upd_ne (Ne.symm nlp), upd_same]
        · exact Paired.snoc hT ⟨hw, hv⟩
        · subst z
          have := congrArg List.length hd2
          rw [List.length_drop] at this
          have e : (behindL []).length = 0 := rfl
          omega
        · cases rs with
          | nil => exact absurd rfl z
          | cons r2 rs2 =>
            have d4 : (tl x).drop m2 = [44] ++ joinL [44] ((r2 :: rs2).map rL) := hd2
            exact ⟨by have := drop_le d4 (by omega); rw [List.length_singleton] at this; omega, drop_next d4 rfl⟩
end
end Bw

namespace Bw
open PySem PySem.Spec L2 TL PyProof.Rows

/-! ### the law's names -/
def spNP : Sp := fun vs H Q _ => ∃ d : Addr, vs = [.ref d] ∧ DiceAt H d ∧ ∀ (p : Addr) (pr : Str × Str) H', OkP pr → Moved d H H' → PairAt H' p pr → Q (.ref p) H'
def okW : V → Bool
  | .str x => isTx x && wdL (tl x)
  | _ => false
def okT : V → Bool
  | .str x => isTx x
  | _ => false
theorem okW_str {v : V} (h : okW v = true) : ∃ x, v = .str x ∧ Sgn (tl x) ∧ wdL (tl x) = true := by
  cases v with
  | str x =>
    have h : (isTx x && wdL (tl x)) = true := h
    rw [Bool.and_eq_true] at h
    exact ⟨x, rfl, ((isTx_iff x).mp h.1).1.1, h.2⟩
  | _ => cases h
theorem okT_str {v : V} (h : okT v = true) : ∃ x, v = .str x ∧ IsTx x ∧ x ≠ "" := by
  cases v with
  | str x => exact ⟨x, rfl, (isTx_iff x).mp h⟩
  | _ => cases h
section
variable {P : Program} {w : World} {K : PySem.W.Frag} {mg : Str → Option Value} {base : Heap} {f : Addr} {fd : FuncData}
theorem ok_law_name_pair (F : Fun K "_law_name_pair" "_law_name_pair" s_law_name_pair f fd) (T : Txt K mg) (D_law_one_of : Dfn P w K mg base "_law_one_of" 2 ["_law_dice_here", "_law_items"] spOne) :
    FnOk P w K mg base CX0 3 f fd ["_law_dice_here"] spNP := by
  refine F.ok sc_law_name_pair (fun vs H Q E h => ?_) (fun cdv A outer s H vs Q E hr h => ?_)
  · obtain ⟨d, rfl, _⟩ := h
    rfl
  · obtain ⟨d, rfl, hd, q⟩ := h
    refine ⟨_, (pss_cons (ps_set (i := 1) sc_law_name_pair.nd rfl (Or.inl rfl) (pe_d D_law_one_of hr (by decide) (pa_cons (pv 0) (pa_cons (pe_lst (pa_cons pe_str (pa_cons pe_str (pa_cons pe_str (pa_cons pe_str (pa_cons pe_str (pa_cons pe_str pa_nil))))))) pa_nil)))) (pss_cons (ps_set (i := 2) sc_law_name_pair.nd rfl (Or.inl rfl) (pe_lst (pa_cons pe_str (pa_cons pe_str (pa_cons pe_str (pa_cons pe_str (pa_cons pe_str (pa_cons pe_str (pa_cons pe_str (pa_cons pe_str (pa_cons pe_str (pa_cons pe_str (pa_cons pe_str (pa_cons pe_str (pa_cons pe_str (pa_cons pe_str pa_nil)))))))))))))))) (pss_cons (ps_set (i := 2) sc_law_name_pair.nd rfl (Or.inl rfl) (pe_op op_cat (pv 2) (pe_lst (pa_cons (pe_op op_mulS pe_str pe_int) (pa_cons pe_str pa_nil))))) (pss_one (ps_ret (pe_tup (pa_cons (pv 1) (pa_cons (pe_d D_law_one_of hr (by decide) (pa_cons (pv 0) (pa_cons (pv 2) pa_nil))) pa_nil)))))))), ?_⟩
    refine ⟨_, rfl, (by show 6 ≤ sizeLine; decide), fun l1 hl1 => ?_⟩
    refine ⟨d, l1, _, rfl, upd_same, (hd.ne hl1).symm, (by simp), (by decide), hd.same (same_new hl1), fun v1 H1 hv1 mv1 => ?_⟩
    refine ⟨(by show 14 ≤ sizeLine; decide), fun l2 hl2 => ?_⟩
    refine ⟨_, rfl, _, _, rfl, rfl, by decide, by decide, by decide +kernel, (by show 2 ≤ sizeLine; decide), fun l3 hl3 => ?_⟩
    refine ⟨l2, l3, _, _, rfl, rfl, (by rw [upd_ne (ne_of_none upd_same hl3), upd_same]), upd_same, (by show 16 ≤ sizeLine; decide), fun l4 hl4 => ?_⟩
    refine ⟨_, rfl, _, rfl, _, rfl, d, l4, _, rfl, upd_same, (DiceAt.ne (DiceAt.same (mv1.2.same (same_new hl2)) (same_new hl3)) hl4).symm, (by simp), (by decide), DiceAt.same (DiceAt.same (mv1.2.same (same_new hl2)) (same_new hl3)) (same_new hl4), fun v2 H2 hv2 mv2 => ⟨(by show 2 ≤ sizeLine; decide), fun p hp => ?_⟩⟩
    obtain ⟨w1, rfl, s1, ww⟩ := okW_str ((by decide +kernel : ∀ v ∈ [V.str "cn", V.str "a", V.str "ou1", V.str "abcdefghijkl", V.str "x9", V.str "name"], okW v = true) v1 hv1)
    have all2 : ∀ v ∈ [V.str "Eve, A", V.str " x", V.str "x ", V.str "a=b+c", V.str " ", V.str "  ", V.str "\\", V.str "\"q\"", V.str "a\\ ", V.str "plain", V.str "a  b", V.str "~", V.str ",", V.str "7"] ++ [V.str (repS "x" 100), V.str " #(a)*; "], okT v = true := by decide +kernel
    obtain ⟨t1, rfl, tx, tn⟩ := okT_str (all2 v2 hv2)
    refine q p (w1, t1) _ ⟨s1, ww, tx, tn⟩ ?_ upd_same
    exact ((((Moved.same hd (same_new hl1)).trans mv1).trans (Moved.same mv1.2 (((same_new hl2).trans (same_new hl3)).trans (same_new hl4)))).trans mv2).trans (Moved.same mv2.2 (same_new hp))
end
end Bw

namespace Bw
open PySem PySem.Spec L2 TL PyProof.Rows

def spSN : Sp := fun vs H Q _ => ∃ (d : Addr) (n : Nat), vs = [.ref d, .int n] ∧ n ≤ 8 ∧ DiceAt H d ∧ ∀ (a : Addr) (nm : Nm) H', (∀ p ∈ nm, OkP p) → nm.length ≤ n → NameAt H' a nm → Moved d H H' → Q (.ref a) H'
theorem DiceAt.upd {d D : Addr} {H : Hp} {o : HO} (h : DiceAt H d) (n : d ≠ D) : DiceAt (upd H D o) d := by
  obtain ⟨x, y, z, e⟩ := h
  exact ⟨x, y, z, by rw [upd_ne n]; exact e⟩
theorem Moved.back {d D : Addr} {H H1 : Hp} {o : HO} (m : Moved d H H1) (hd : DiceAt H d) (hD : H D = none) : Moved d H (upd H1 D o) :=
  ⟨fun b u nb hb => by rw [upd_ne (ne_of_none hb hD)]; exact m.1 b u nb hb, m.2.upd (hd.ne hD)⟩
theorem tup_ne {H : Hp} {d t : Addr} {xs : List V} (hd : DiceAt H d) (h : H t = some (.tup xs)) : t ≠ d := by
  obtain ⟨x, y, z, e⟩ := hd
  exact ne_of h e (by simp)
theorem PairAt.moved {H H1 : Hp} {d t : Addr} {p : Str × Str} (m : Moved d H H1) (hd : DiceAt H d) (h : PairAt H t p) : PairAt H1 t p := m.1 _ _ (tup_ne hd h) h
theorem PairAt.upd {H : Hp} {D t : Addr} {p : Str × Str} {o : HO} (h : PairAt H t p) (n : t ≠ D) : PairAt (upd H D o) t p := (upd_ne n).trans h
theorem NameAt.moved {H H1 : Hp} {d a : Addr} {nm : Nm} (m : Moved d H H1) (hd : DiceAt H d) (h : NameAt H a nm) : NameAt H1 a nm := by
  obtain ⟨ts, h1, h2⟩ := h
  exact ⟨ts, m.1 _ _ (tup_ne hd h1) h1, Paired.mapP h2 fun t p q => PairAt.moved m hd q⟩
section
variable {P : Program} {w : World} {K : PySem.W.Frag} {mg : Str → Option Value} {base : Heap} {f : Addr} {fd : FuncData}
theorem ok_law_some_name (F : Fun K "_law_some_name" "_law_some_name" s_law_some_name f fd) (T : Txt K mg) (D_law_roll : Dfn P w K mg base "_law_roll" 1 ["_law_dice_here", "_law_total"] spRoll) (D_law_name_pair : Dfn P w K mg base "_law_name_pair" 3 ["_law_dice_here"] spNP) :
    FnOk P w K mg base CX0 4 f fd ["_law_dice_here", "_law_most"] spSN := by
  refine F.ok sc_law_some_name (fun vs H Q E h => ?_) (fun cdv A outer s H vs Q E hr h => ?_)
  · obtain ⟨d, n, rfl, _⟩ := h
    rfl
  · obtain ⟨d, n, rfl, hn, hd, q⟩ := h
    refine ⟨_, (pss_one (ps_ret (pe_callTy call_tuple_of (by rfl) T.b_tuple (by decide +kernel) (pa_cons (pe_lc (own := [("_law_turn", 2)]) (g := gName 2) (by rfl) sc_law_some_name.nd (pi_range1 (by rfl) T.b_range (pa_cons (pe_d D_law_roll hr (by decide) (pa_cons (pv 0) (pa_cons (pe_op op_add (pv 1) pe_int) pa_nil))) pa_nil)) (blkOk_by (own := [("_law_turn", 2)]) (N := n_law_some_name) (sc := defScope s_law_some_name) (by decide +kernel)) (fun _ _ _ _ _ => pg_name (i := 2) sc_law_some_name.nd rfl (Or.inl rfl)) (fun _ _ _ _ _ => pts_nil) (fun _ _ _ _ _ => (pe_d D_law_name_pair hr (by decide) (pa_cons (pv 0) pa_nil)))) pa_nil)))), ?_⟩
    refine ⟨_, rfl, _, rfl, _, _, rfl, rfl, d, _, rfl, by omega, by omega, hd, fun r H1 r0 r1 mv => ?_⟩
    refine ⟨r, rfl, by omega, by omega, fun D hD => lc_range (lo := 0) (n := r.toNat) (fun i H' => Moved d H1 H' ∧ ∃ (ts : List Addr) (nm : Nm), H' D = some (.lst (ts.map V.ref)) ∧ Paired (PairAt H') ts nm ∧ (∀ p ∈ nm, OkP p) ∧ nm.length = i) ⟨Moved.same mv.2 (same_new hD), [], [], upd_same, .nil, (fun _ z => nomatch z), rfl⟩ ?_ ?_⟩
    · rintro i H2 hi ⟨mv2, ts, nm, hL, hP, ok, ei⟩
      refine ⟨rfl, ?_⟩
      unfold tYes
      refine iteT ?_
      refine ⟨_, rfl, d, rfl, mv2.2, fun p pr H3 okp mv3 hp => ?_⟩
      have hL3 : H3 D = some (.lst (ts.map V.ref)) := mv3.1 _ _ (mv.2.ne hD).symm hL
      refine ⟨_, hL3, by rw [List.length_map, hP.length, ei]; exact szl (by omega), (mv2.trans mv3).back mv.2 hD, ts ++ [p], nm ++ [pr], by rw [upd_same, List.map_append]; rfl, Paired.snoc (Paired.mapP hP fun t q h => ?_) ?_, ?_, by rw [List.length_append, ei]; rfl⟩
      · exact (PairAt.moved mv3 mv2.2 h).upd (ne_of h hL (by simp))
      · exact hp.upd (ne_of hp hL3 (by simp))
      · intro q hq
        rcases List.mem_append.mp hq with hq | hq
        · exact ok q hq
        · rw [List.mem_singleton.mp hq]
          exact okp
    · rintro H2 ⟨mv2, ts, nm, hL, hP, ok, ei⟩
      refine ⟨D, _, rfl, .inl ⟨SqL.of hL, fun p hp => ?_⟩⟩
      exact q p nm _ ok (by omega) ⟨ts, upd_same, Paired.mapP hP fun t q h => h.upd (ne_of_none h hp)⟩ ((mv.trans mv2).trans (Moved.same mv2.2 (same_new hp)))
end
end Bw

namespace Bw
open PySem PySem.Spec L2 TL PyProof.Rows

abbrev rCS : R2 := fun x y H Q => ∃ i j, x = V.str i ∧ y = V.str j ∧ i.length + j.length ≤ sizeLine ∧ Q (V.str (i ++ j)) H
abbrev rInS : R2 := fun x y H Q => ∃ c z, x = V.str { cps := #[c] } ∧ y = V.str z ∧ Q (V.bl (decide (c ∈ z.cps.toList))) H
theorem slash_enc (b : Bool) (d : Nat) (y : Str) : tl ((y ++ (if b = true then ("\\" : Str) else "")) ++ sgnS d) = tl y ++ encI (d, b) := by
  rw [tl_append, tl_append]
  cases b with
  | true => rw [if_pos rfl, tl_bs, List.append_assoc]; rfl
  | false => rw [if_neg (by simp), tl_e, List.append_nil]; rfl
theorem slash_len (b : Bool) : (if b = true then ("\\" : Str) else "").length ≤ 1 := by
  cases b <;> decide +kernel
theorem edge_in (i n : Nat) : inV (.int i) [.int 0, .int ((n : Int) - 1)] = (decide (i = 0) || decide (i + 1 = n)) := by
  show ((0 : Int) == (i : Int) || (((n : Int) - 1 == (i : Int)) || false)) = _
  rw [Bool.or_false, Bool.eq_iff_iff, Bool.or_eq_true, Bool.or_eq_true, beq_iff_eq, beq_iff_eq, decide_eq_true_eq, decide_eq_true_eq]
  omega
section
variable {P : Program} {w : World} {K : PySem.W.Frag} {mg : Str → Option Value} {base : Heap} {f : Addr} {fd : FuncData}
theorem ok_law_escaped (F : Fun K "_law_escaped" "_law_escaped" s_law_escaped f fd) (T : Txt K mg) : FnOk P w K mg base CX0 1 f fd ["_law_text"] spTV := by
  refine F.ok sc_law_escaped (fun vs H Q E h => ?_) (fun cdv A outer s H vs Q E hr h => ?_)
  · obtain ⟨x, rfl, _⟩ := h
    rfl
  · obtain ⟨x, rfl, hx, q⟩ := h
    have hl := hx.2
    refine ⟨_, (pss_cons (ps_set (i := 1) sc_law_escaped.nd rfl (Or.inl rfl) pe_str) (pss_cons (ps_for PassesOwn.never rfl (pi_enumS (by rfl) T.b_enumerate (pa_cons (pv 0) pa_nil)) (pg_tup (by rfl) (pgs_cons (pg_name (i := 2) sc_law_escaped.nd rfl (Or.inl rfl)) (pgs_cons (pg_name (i := 3) sc_law_escaped.nd rfl (Or.inl rfl)) pgs_nil))) (pss_cons (ps_set (i := 4) sc_law_escaped.nd rfl (Or.inl rfl) (pe_and (pe_cmpR op_eq (pv 3) pe_str (nomark _)) (pe_one (pe_cmpR op_in_seq (pv 2) (pe_tup (pa_cons pe_int (pa_cons (pe_op op_sub (pe_callB call_len_str (by rfl) T.b_len (by decide +kernel) (pa_cons (pv 0) pa_nil)) pe_int) pa_nil))) rfl)))) (pss_one (ps_set (i := 1) sc_law_escaped.nd rfl (Or.inl rfl) (pe_op op_add_str (pe_op op_add_str (pv 1) (pe_ifExp (PW.pt (pw_or (pt_val (pv 4)) (pw_or1 (pt_cmpR op_in_sign (pv 3) pe_str rfl)))) pe_str pe_str)) (pv 3)))))) (pss_one (ps_ret (pv 1))))), ?_⟩
    refine ⟨_, rfl, x, rfl, for_it walk_enumS (fun i σ H' => (∃ (y : Str) (a b c : Option V), σ = [some (.str x), some (.str y), a, b, c] ∧ tl y = encL ((itemsV (tl x)).take i)) ∧ Same H H') ⟨⟨_, _, _, _, rfl, tl_e⟩, Same.refl H⟩ (fun _ _ _ _ _ => trivial) ?_ ?_⟩
    · rintro i v σ H1 H2 hi ⟨⟨y, a, b, c, rfl, ey⟩, sm⟩ ⟨Tp, d, hd, rfl, hT, rfl⟩
      have hd2 := cps_get hd
      have hi2 : i < x.length := by
        rw [cps_size, ← len_tl] at hi
        exact hi
      have it := items_at hd2
      have tk := take_next it
      refine ⟨Tp, _, rfl, SqT.of upd_same, rfl, _, _, rfl, _, _, rfl, rfl, ?_⟩
      have ln : (tl x).length = x.length := (len_tl x).symm
      have need : needs (tl x).length i d = (special d || (decide (d = 32) && (decide (i = 0) || decide (i + 1 = x.length)))) := by
        unfold needs
        rw [ln]
      have hcount : (encL ((itemsV (tl x)).take i)).length ≤ 200 := by
        have h1 := encL_len ((itemsV (tl x)).take i)
        have h2 := List.length_take_le i (itemsV (tl x))
        omega
      have yl : y.length ≤ 200 := by rw [len_tl, ey]; exact hcount
      have rest : ∀ (e : Bool) (H2 : Hp) (D : Ends), e = (decide (d = 32) && (decide (i = 0) || decide (i + 1 = x.length))) → Same H H2 →
          (∀ σ H', (∃ y a b c, σ = [some (V.str x), some (V.str y), a, b, c] ∧ tl y = encL (List.take (i + 1) (itemsV (tl x)))) ∧ Same H H' → D.nx σ H') →
          (tAsg (tOp rCS (tOp rCS (tVar 1) (tIf (tOr (tB (tVar 4)) (tTest (tOp rInS (tVar 3) (tC (V.str (Str.ofString ",=+\"\\")))))) (tC (V.str (Str.ofString "\\"))) (tC (V.str (Str.ofString ""))))) (tVar 3)) (gName 1))
          D [some (V.str x), some (V.str y), some (V.int i), some (V.str ⟨#[d]⟩), some (V.bl e)] H2 := by
        intro e H2 D he sm2 hD
        refine ⟨_, rfl, ?_⟩
        refine tIf_val (needs (tl x).length i d) (V.str (if needs (tl x).length i d = true then "\\" else "")) (fun R r => ?_) (fun hn R r => ?_) (fun hn R r => ?_) ?_
        · rw [need, ← he, Bool.or_comm] at r
          exact tOr_val e (special d) (fun R r => ⟨_, rfl, _, rfl, r⟩) (fun _ R r => ⟨_, rfl, d, _, rfl, rfl, _, rfl, r⟩) R r
        · rw [hn, if_pos rfl] at r
          exact r
        · rw [hn, if_neg (by simp)] at r
          exact r
        · have sl := slash_len (needs (tl x).length i d)
          have w1 : (⟨#[d]⟩ : Str).length = 1 := rfl
          have e2 := slash_enc (needs (tl x).length i d) d y
          generalize (if needs (tl x).length i d = true then ("\\" : Str) else "") = z at sl e2
          have l2 : (y ++ z).length = y.length + z.length := by rw [len_tl, tl_append, List.length_append, ← len_tl, ← len_tl]
          refine ⟨_, _, rfl, rfl, line_of (by omega), _, rfl, _, _, rfl, rfl, line_of (by rw [l2, w1]; omega), hD _ _ ⟨⟨_, _, _, _, rfl, ?_⟩, sm2⟩⟩
          rw [tk, encL_app, ← ey]
          show tl _ = tl y ++ (encI _ ++ [])
          rw [List.append_nil]
          exact e2
      have sm1 : Same H (upd H1 Tp (.tup [.int (i : Nat), .str ⟨#[d]⟩])) := sm.trans (same_new hT)
      refine ⟨_, rfl, rfl, _, rfl, ?_⟩
      rw [dsgn d 32 " " tl_blank]
      cases e32 : decide (d = 32) with
      | false => exact iteF (rest _ _ _ (by rw [e32]; rfl) sm1 fun σ H' h => h)
      | true =>
        refine iteT ?_
        refine ⟨_, rfl, _, rfl, x, rfl, line_of (by omega), _, _, rfl, rfl, (by show 2 ≤ sizeLine; decide), fun t ht => ⟨t, _, rfl, .inr (SqT.of upd_same), rfl, rfl, ?_⟩⟩
        refine rest _ _ _ ?_ (sm1.trans (same_new ht)) fun σ H' h => h
        rw [e32, Bool.true_and]
        exact edge_in i x.length
    · rintro σ H1 ⟨⟨y, a, b, c, rfl, ey⟩, sm⟩
      have e : (itemsV (tl x)).take x.cps.size = itemsV (tl x) := by
        rw [cps_size, ← items_len]
        exact List.take_length
      rw [e] at ey
      exact ⟨_, rfl, q _ _ ey sm⟩
end
end Bw

namespace Bw
open PySem PySem.Spec L2 TL PyProof.Rows

section
variable {P : Program} {w : World} {K : PySem.W.Frag} {mg : Str → Option Value} {base : Heap} {f : Addr} {fd : FuncData}
theorem ok_law_written (F : Fun K "_law_written" "_law_written" s_law_written f fd) (D_law_escaped : Dfn P w K mg base "_law_escaped" 1 ["_law_text"] spTV) :
    FnOk P w K mg base CX0 2 f fd ["_law_name"] spNT := by
  refine F.ok sc_law_written (fun vs H Q E h => ?_) (fun cdv A outer s H vs Q E hr h => ?_)
  · obtain ⟨a, nm, rfl, _⟩ := h
    rfl
  · obtain ⟨a, nm, rfl, hN, hok, hl, q⟩ := h
    refine ⟨_, (pss_one (ps_ret (pe_join pe_str (pe_lc (own := [("_law_pair", 1)]) (g := gName 1) (by rfl) sc_law_written.nd (pi_tup (pv 0)) (blkOk_by (own := [("_law_pair", 1)]) (N := n_law_written) (sc := defScope s_law_written) (by decide +kernel)) (fun _ _ _ _ _ => pg_name (i := 1) sc_law_written.nd rfl (Or.inl rfl)) (fun _ _ _ _ _ => pts_nil) (fun _ _ _ _ _ => (pe_op op_add_str (pe_op op_add_str (pe_ix (r := rIxT K) ix_tup (pv 1) pe_int (fun _ _ => rfl)) pe_str) (pe_d D_law_escaped hr (by decide) (pa_cons (pe_ix (r := rIxT K) ix_tup (pv 1) pe_int (fun _ _ => rfl)) pa_nil)))))))), ?_⟩
    have sm := Same.refl H
    generalize eH : H = H1 at hN sm
    subst eH
    obtain ⟨ts, ha, hp⟩ := hN
    have hts : ts.length = nm.length := hp.length
    refine ⟨⟨_, rfl⟩, _, rfl, a, rfl, ⟨_, SqT.of ha⟩, fun D hD => lc_it (walk_tup (K := K) (a := a) (xs := ts.map V.ref)) (fun i H' => Same H H' ∧ ∃ ys : List Str, H' D = some (.lst (ys.map V.str)) ∧ ys.map tl = (nm.take i).map rowL) ⟨same_new hD, [], upd_same, rfl⟩ (fun i H' _ h => SqT.of (h.1 _ _ ha)) ?_ ?_⟩
    · rintro i v H2 H3 hi ⟨sm2, ys, hH, ey⟩ ⟨rfl, hv⟩
      rw [List.getElem?_map] at hv
      rw [List.length_map] at hi
      cases e : ts[i]? with
      | none =>
        rw [e] at hv
        cases hv
      | some t =>
        rw [e] at hv
        have hv' : V.ref t = v := Option.some.inj hv
        subst hv'
        obtain ⟨p, hpi, hpt⟩ := paired_at hp e
        have okp := hok p (List.mem_of_getElem? hpi)
        have hw := wd_len okp.2.1
        have hx := okp.2.2.1
        have hxl := hx.2
        refine ⟨rfl, ?_⟩
        unfold tYes
        have l1 : ("=" : Str).length = 1 := by decide +kernel
        have lw := len_tl p.1
        refine iteT ⟨_, rfl, t, _, _, _, rfl, rfl, SqT.of (sm2 _ _ hpt), atI_nat (j := 0) rfl, _, _, rfl, rfl, line_of (by omega), _, rfl, t, _, _, _, rfl, rfl, SqT.of (sm2 _ _ hpt), atI_nat (j := 1) rfl, p.2, rfl, hx, fun y H4 hy sm4 => ?_⟩
        have ly : y.length ≤ 200 := by
          have := esc_len (tl p.2)
          have := len_tl p.2
          rw [len_tl, hy]
          omega
        refine ⟨_, _, rfl, rfl, line_of ?_, _, sm4 _ _ hH, ?_, fun b o hb => ?_, ys ++ [(p.1 ++ "=") ++ y], ?_, ?_⟩
        · rw [len_tl, tl_append, List.length_append, ← len_tl, ← len_tl]
          omega
        · have := congrArg List.length ey
          rw [List.length_map, List.length_map] at this
          have := List.length_take_le i nm
          rw [List.length_map]
          exact small1000 (by omega)
        · rw [upd_ne (ne_of_none hb hD)]
          exact sm4 _ _ (sm2 _ _ hb)
        · rw [upd_same, List.map_append]
          rfl
        · rw [take_next hpi, List.map_append, List.map_append, ey]
          congr 1
          show [tl ((p.1 ++ "=") ++ y)] = [rowL p]
          rw [tl_append, tl_append, tl_eqs, hy, List.append_assoc]
          rfl
    · rintro H2 ⟨sm2, ys, hH, ey⟩
      rw [List.length_map, hts, List.take_length] at ey
      have hyl : ys.length = nm.length := by
        have := congrArg List.length ey
        rw [List.length_map, List.length_map] at this
        exact this
      refine ⟨",", D, ys, rfl, rfl, .inl (SqL.of hH), ?_, q _ _ ?_ (sm.trans sm2)⟩
      · have h1 : (ys.map (·.length)).sum ≤ 213 * ys.length := by
          have := sum_le (k := 213) (l := ys.map (·.length)) fun n hn => by
            rw [lens_tl, ey, List.map_map] at hn
            obtain ⟨p, hp2, rfl⟩ := List.mem_map.mp hn
            exact row_len (hok p hp2)
          rw [List.length_map] at this
          exact this
        rw [show ("," : Str).length = 1 by decide +kernel]
        omega
      · rw [join_eq, tl_join, tl_comma, ey]
        rfl
end
end Bw

namespace Bw
open PySem PySem.Spec L2 TL PyProof.Rows

/-! ### written in another way -/
theorem tl_sp (n : Int) : tl (repS " " n) = List.replicate n.toNat 32 := by
  rw [tl_repS, tl_blank]
  generalize n.toNat = k
  induction k with
  | zero => rfl
  | succ k ih =>
    rw [List.replicate_succ, List.flatten_cons, ih]
    rfl
def FlagOk (n j : Nat) (p : Nat × Bool) : Prop := (needs n j p.1 = true → p.2 = true) ∧ (p.2 = true → special p.1 = true ∨ p.1 = 32)
theorem FlagOk.item {n j : Nat} {p : Nat × Bool} (h : FlagOk n j p) : OkI p := by
  refine ⟨h.2, fun e => ?_⟩
  cases hs : special p.1 with
  | false => rfl
  | true =>
    have := h.1 (by unfold needs; rw [hs]; rfl)
    rw [e] at this
    cases this
structure RwTold (r : Rw) : Prop where
  ok : RwOk r
  a1 : r.k1 ≤ 2
  a2 : r.k2 ≤ 2
  a3 : r.k0 ≤ 2
  a4 : r.k3 ≤ 2
  s1 : Sgn r.W
  s2 : ∀ p ∈ r.its, 32 ≤ p.1 ∧ p.1 ≤ 126
theorem RwTold.len {r : Rw} (h : RwTold r) : (rL r).length ≤ 221 := by
  obtain ⟨⟨w, _, _, h2, _, _⟩, a1, a2, a3, a4, _, _⟩ := h
  have := wd_len w
  have := encL_len r.its
  unfold rL
  simp only [List.length_append, List.length_replicate, List.length_cons]
  omega
theorem sgn_rep (k : Nat) : Sgn (List.replicate k 32) := fun c hc => by
  rw [List.eq_of_mem_replicate hc]
  omega
theorem RwTold.sgn {r : Rw} (h : RwTold r) : Sgn (rL r) := by
  obtain ⟨_, _, _, _, _, s1, s2⟩ := h
  have := encL_sgn s2
  unfold rL
  intro c hc
  simp only [List.mem_append, List.mem_cons] at hc
  rcases hc with h | h | h | h | h | h | h
  · exact sgn_rep _ c h
  · exact s1 c h
  · exact sgn_rep _ c h
  · omega
  · exact sgn_rep _ c h
  · exact this c h
  · exact sgn_rep _ c h
def spOth : Sp := fun vs H Q _ => ∃ (d a : Addr) (nm : Nm), vs = [.ref d, .ref a] ∧ DiceAt H d ∧ NameAt H a nm ∧ (∀ p ∈ nm, OkP p) ∧ nm.length ≤ 8 ∧
  ∀ (y : Str) (rs : List Rw) H', Paired Told nm rs → (∀ r ∈ rs, RwTold r) → tl y = joinL [44] (rs.map rL) → Moved d H H' → Q (.str y) H'
section
variable {P : Program} {w : World} {K : PySem.W.Frag} {mg : Str → Option Value} {base : Heap} {f : Addr} {fd : FuncData}
theorem ok_law_otherwise (F : Fun K "_law_otherwise" "_law_otherwise" s_law_otherwise f fd) (T : Txt K mg) (D_law_roll : Dfn P w K mg base "_law_roll" 1 ["_law_dice_here", "_law_total"] spRoll) :
    FnOk P w K mg base CX0 2 f fd ["_law_dice_here", "_law_name"] spOth := by
  refine F.ok sc_law_otherwise (fun vs H Q E h => ?_) (fun cdv A outer s H vs Q E hr h => ?_)
  · obtain ⟨d, a, nm, rfl, _⟩ := h
    rfl
  · obtain ⟨d, a, nm, rfl, hd, hN, hok, hl, q⟩ := h
    refine ⟨_, (pss_cons (ps_set (i := 2) sc_law_otherwise.nd rfl (Or.inl rfl) (pe_lst pa_nil)) (pss_cons (ps_for PassesOwn.never rfl (pi_tup (pv 1)) (pg_tup (by rfl) (pgs_cons (pg_name (i := 3) sc_law_otherwise.nd rfl (Or.inl rfl)) (pgs_cons (pg_name (i := 4) sc_law_otherwise.nd rfl (Or.inl rfl)) pgs_nil))) (pss_cons (ps_set (i := 5) sc_law_otherwise.nd rfl (Or.inl rfl) pe_str) (pss_cons (ps_for PassesOwn.never rfl (pi_enumS (by rfl) T.b_enumerate (pa_cons (pv 4) pa_nil)) (pg_tup (by rfl) (pgs_cons (pg_name (i := 6) sc_law_otherwise.nd rfl (Or.inl rfl)) (pgs_cons (pg_name (i := 7) sc_law_otherwise.nd rfl (Or.inl rfl)) pgs_nil))) (pss_cons (ps_set (i := 8) sc_law_otherwise.nd rfl (Or.inl rfl) (pe_and (pe_cmpR op_eq (pv 7) pe_str (nomark _)) (pe_one (pe_cmpR op_in_seq (pv 6) (pe_tup (pa_cons pe_int (pa_cons (pe_op op_sub (pe_callB call_len_str (by rfl) T.b_len (by decide +kernel) (pa_cons (pv 4) pa_nil)) pe_int) pa_nil))) rfl)))) (pss_cons (ps_set (i := 9) sc_law_otherwise.nd rfl (Or.inl rfl) (pe_and (pe_cmpR op_eq (pv 7) pe_str (nomark _)) (pe_one (pe_cmpR op_eq (pe_d D_law_roll hr (by decide) (pa_cons (pv 0) (pa_cons pe_int pa_nil))) pe_int (nomark _))))) (pss_one (ps_set (i := 5) sc_law_otherwise.nd rfl (Or.inl rfl) (pe_op op_add_str (pe_op op_add_str (pv 5) (pe_ifExp (PW.pt (pw_or (pt_val (pv 8)) (pw_or (pt_val (pv 9)) (pw_or1 (pt_cmpR op_in_sign (pv 7) pe_str rfl))))) pe_str pe_str)) (pv 7))))))) (pss_cons (ps_setLc (i := 10) (own := [("_law_turn", 11)]) (g := gName 11) (by rfl) sc_law_otherwise.nd rfl rfl (sw_true rfl rfl rfl (by decide +kernel)) (pi_range1 (by rfl) T.b_range (pa_cons pe_int pa_nil)) (blkOk_by (own := [("_law_turn", 11)]) (N := n_law_otherwise) (sc := defScope s_law_otherwise) (by decide +kernel)) (fun _ _ _ _ _ => pg_name (i := 11) sc_law_otherwise.nd rfl (Or.inl rfl)) (fun _ _ _ _ _ => pts_nil) (fun _ _ _ _ _ => (pe_op op_mulS pe_str (pe_d D_law_roll hr (by decide) (pa_cons (pv 0) (pa_cons pe_int pa_nil)))))) (pss_one (ps_expr (pe_bm PySem.F.plainAttrs_list PySem.F.slot_list_append PySem.F.type_list_append mt_append (pv 2) (pa_cons (pe_op op_add_str (pe_op op_add_str (pe_op op_add_str (pe_op op_add_str (pe_op op_add_str (pe_op op_add_str (pe_ix ix_list (pv 10) pe_int (fun _ _ => rfl)) (pv 3)) (pe_ix ix_list (pv 10) pe_int (fun _ _ => rfl))) pe_str) (pe_ix ix_list (pv 10) pe_int (fun _ _ => rfl))) (pv 5)) (pe_ix ix_list (pv 10) pe_int (fun _ _ => rfl))) pa_nil)))))))) (pss_one (ps_ret (pe_join pe_str (pv 2)))))), ?_⟩
    obtain ⟨ts, ha, hp⟩ := hN
    have hts : ts.length = nm.length := hp.length
    have nad : a ≠ d := tup_ne hd ha
    refine ⟨Nat.zero_le _, fun L hL0 => ?_⟩
    have nLd : L ≠ d := (hd.ne hL0).symm
    refine ⟨_, rfl, a, rfl, ⟨_, SqT.of (same_new hL0 _ _ ha)⟩, for_tup (K := K) (a := a) (xs := ts.map V.ref) (fun i σ H' => (∃ o3 o4 o5 o6 o7 o8 o9 o10 o11 : Option V, σ = [some (.ref d), some (.ref a), some (.ref L), o3, o4, o5, o6, o7, o8, o9, o10, o11]) ∧ Moved d H H' ∧
      ∃ (ys : List Str) (rs : List Rw), H' L = some (.lst (ys.map V.str)) ∧ ys.map tl = rs.map rL ∧ Paired Told (nm.take i) rs ∧ ∀ r ∈ rs, RwTold r)
      ⟨⟨_, _, _, _, _, _, _, _, _, rfl⟩, Moved.same hd (same_new hL0), [], [], upd_same, rfl, .nil, fun _ z => nomatch z⟩ (fun i σ H' _ h => SqT.of (h.2.1.1 _ _ nad ha)) ?_ ?_⟩
    · rintro i v σ H1 hv ⟨⟨o3, o4, o5, o6, o7, o8, o9, o10, o11, rfl⟩, mv, ys, rs, hL, ey, hT, hR⟩
      rw [List.getElem?_map] at hv
      cases e : ts[i]? with
      | none =>
        rw [e] at hv
        cases hv
      | some t =>
        rw [e] at hv
        have hv' : V.ref t = v := Option.some.inj hv
        subst hv'
        obtain ⟨p, hpi, hpt⟩ := paired_at hp e
        obtain ⟨ps1, pw, px, pn⟩ := hok p (List.mem_of_getElem? hpi)
        have pxl := px.2
        have hpt1 : PairAt H1 t p := PairAt.moved mv hd hpt
        have hi8 : i < nm.length := (List.getElem?_eq_some_iff.mp hpi).1
        refine ⟨t, _, rfl, SqT.of hpt1, rfl, _, _, rfl, _, _, rfl, rfl, ?_⟩
        refine ⟨_, rfl, p.2, rfl, for_it walk_enumS (fun i σ H' => (∃ (y : Str) (its : Its) (o6 o7 o8 o9 : Option V), σ = [some (.ref d), some (.ref a), some (.ref L), some (.str p.1), some (.str p.2), some (.str y), o6, o7, o8, o9, o10, o11] ∧ tl y = encL its ∧ its.map Prod.fst = (tl p.2).take i ∧ ∀ j q, its[j]? = some q → FlagOk (tl p.2).length j q) ∧ Moved d H1 H')
          ⟨⟨"", [], _, _, _, _, rfl, tl_e, rfl, fun _ _ z => nomatch z⟩, Moved.refl mv.2⟩ (fun _ _ _ _ _ => trivial) ?_ ?_⟩
        · rintro k v σ H2 H3 hk ⟨⟨y, its, o6, o7, o8, o9, rfl, ey2, ei, hf⟩, mv2⟩ ⟨Tp, c, hc, rfl, hT2, rfl⟩
          have hc2 := cps_get hc
          have hk2 : k < p.2.length := by
            rw [cps_size, ← len_tl] at hk
            exact hk
          have tk := take_next hc2
          have li : its.length = k := by
            have := congrArg List.length ei
            rw [List.length_map, List.length_take, ← len_tl] at this
            omega
          have ln : (tl p.2).length = p.2.length := (len_tl p.2).symm
          have need : needs (tl p.2).length k c = (special c || (decide (c = 32) && (decide (k = 0) || decide (k + 1 = p.2.length)))) := by
            unfold needs
            rw [ln]
          have yl : y.length ≤ 200 := by
            have := encL_len its
            rw [len_tl, ey2]
            omega
          have rest : ∀ (e1 e2 : Bool) (H2 : Hp) (D : Ends), e1 = (decide (c = 32) && (decide (k = 0) || decide (k + 1 = p.2.length))) → (e2 = true → c = 32) → Moved d H1 H2 →
              (∀ σ H', (∃ (y : Str) (its : Its) (o6 o7 o8 o9 : Option V), σ = [some (.ref d), some (.ref a), some (.ref L), some (.str p.1), some (.str p.2), some (.str y), o6, o7, o8, o9, o10, o11] ∧ tl y = encL its ∧ its.map Prod.fst = (tl p.2).take (k + 1) ∧ ∀ j q, its[j]? = some q → FlagOk (tl p.2).length j q) ∧ Moved d H1 H' → D.nx σ H') →
              (tAsg (tOp rCS (tOp rCS (tVar 5) (tIf (tOr (tB (tVar 8)) (tOr (tB (tVar 9)) (tTest (tOp rInS (tVar 7) (tC (V.str (Str.ofString ",=+\"\\"))))))) (tC (V.str (Str.ofString "\\"))) (tC (V.str (Str.ofString ""))))) (tVar 7)) (gName 5))
              D [some (.ref d), some (.ref a), some (.ref L), some (.str p.1), some (.str p.2), some (.str y), some (.int k), some (.str ⟨#[c]⟩), some (.bl e1), some (.bl e2), o10, o11] H2 := by
            intro e1 e2 H2 D he1 he2 mvx hD
            refine ⟨_, rfl, ?_⟩
            refine tIf_val (e1 || (e2 || special c)) (V.str (if (e1 || (e2 || special c)) = true then "\\" else "")) (fun R r => ?_) (fun hn R r => ?_) (fun hn R r => ?_) ?_
            · exact tOr_val e1 (e2 || special c) (fun R r => ⟨_, rfl, _, rfl, r⟩) (fun _ R r => tOr_val e2 (special c) (fun R r => ⟨_, rfl, _, rfl, r⟩) (fun _ R r => ⟨_, rfl, c, _, rfl, rfl, _, rfl, r⟩) R r) R r
            · rw [hn, if_pos rfl] at r
              exact r
            · rw [hn, if_neg (by simp)] at r
              exact r
            · have flag : FlagOk (tl p.2).length k (c, e1 || (e2 || special c)) := by
                refine ⟨fun h => ?_, fun h => ?_⟩
                · have h' : needs (tl p.2).length k c = true := h
                  rw [need, ← he1] at h'
                  show (e1 || (e2 || special c)) = true
                  revert h'
                  cases e1 <;> cases e2 <;> cases special c <;> simp
                · have h' : (e1 || (e2 || special c)) = true := h
                  show special c = true ∨ c = 32
                  rw [Bool.or_eq_true, Bool.or_eq_true] at h'
                  rcases h' with h | h | h
                  · rw [he1, Bool.and_eq_true, decide_eq_true_eq] at h
                    exact .inr h.1
                  · exact .inr (he2 h)
                  · exact .inl h
              generalize (e1 || (e2 || special c)) = b at flag
              have sl := slash_len b
              have w1 : (⟨#[c]⟩ : Str).length = 1 := rfl
              have e2 := slash_enc b c y
              generalize (if b = true then ("\\" : Str) else "") = z at sl e2
              have l2 : (y ++ z).length = y.length + z.length := by rw [len_tl, tl_append, List.length_append, ← len_tl, ← len_tl]
              refine ⟨_, _, rfl, rfl, line_of (by omega), _, rfl, _, _, rfl, rfl, line_of (by rw [l2, w1]; omega), hD _ _ ⟨⟨_, its ++ [(c, b)], _, _, _, _, rfl, ?_, ?_, ?_⟩, mvx⟩⟩
              · rw [encL_app, ← ey2]
                show tl _ = tl y ++ (encI _ ++ [])
                rw [List.append_nil]
                exact e2
              · rw [List.map_append, ei, tk]
                rfl
              · intro j q hq
                by_cases hj : j < its.length
                · rw [List.getElem?_append_left hj] at hq
                  exact hf j q hq
                · rw [List.getElem?_append_right (by omega)] at hq
                  have ej : j - its.length = 0 := by
                    have := (List.getElem?_eq_some_iff.mp hq).1
                    rw [List.length_singleton] at this
                    omega
                  rw [ej] at hq
                  have := Option.some.inj hq
                  have ejk : j = k := by omega
                  rw [ejk, ← this]
                  exact flag
          refine ⟨Tp, _, rfl, SqT.of upd_same, rfl, _, _, rfl, _, _, rfl, rfl, ?_⟩
          have mv3 : Moved d H1 (upd H2 Tp (.tup [.int (k : Nat), .str ⟨#[c]⟩])) := mv2.trans (Moved.same mv2.2 (same_new hT2))
          refine ⟨_, rfl, rfl, _, rfl, ?_⟩
          rw [dsgn c 32 " " tl_blank]
          cases e32 : decide (c = 32) with
          | false =>
            refine iteF ⟨_, rfl, rfl, _, rfl, ?_⟩
            rw [dsgn c 32 " " tl_blank, e32]
            exact iteF (rest _ _ _ _ (by rw [e32]; rfl) (fun z => nomatch z) mv3 fun σ H' h => h)
          | true =>
            refine iteT ?_
            refine ⟨_, rfl, _, rfl, p.2, rfl, line_of (by omega), _, _, rfl, rfl, (by show 2 ≤ sizeLine; decide), fun u hu => ⟨u, _, rfl, .inr (SqT.of upd_same), rfl, rfl, ?_⟩⟩
            have mv4 := mv3.trans (Moved.same mv3.2 (same_new (o := .tup [.int 0, .int ((p.2.length : Int) - 1)]) hu))
            refine ⟨_, rfl, rfl, _, rfl, ?_⟩
            rw [dsgn c 32 " " tl_blank, e32]
            refine iteT ⟨_, rfl, d, _, rfl, by decide, by decide, mv4.2, fun r H4 r0 r1 mv5 => ⟨rfl, ?_⟩⟩
            refine rest _ _ _ _ ?_ (fun _ => of_decide_eq_true e32) (mv4.trans mv5) fun σ H' h => h
            rw [e32, Bool.true_and]
            exact edge_in k p.2.length
        · rintro σ H2 ⟨⟨y, its, o6, o7, o8, o9, rfl, ey2, ei, hf⟩, mv2⟩
          have tkA : (tl p.2).take p.2.cps.size = tl p.2 := by
            rw [cps_size]
            exact List.take_length
          rw [tkA] at ei
          have li : its.length = p.2.length := by rw [len_tl, ← ei, List.length_map]
          have lim : its.length = (tl p.2).length := by rw [← ei, List.length_map]
          have ne : its ≠ [] := by
            rintro rfl
            exact pn (ext_tl (by rw [← ei, tl_e]; rfl))
          have okI : ∀ q ∈ its, OkI q := fun q hq => by
            obtain ⟨j, hj⟩ := List.mem_iff_getElem?.mp hq
            exact (hf j q hj).item
          have nraw : ∀ j, (j = 0 ∨ j + 1 = its.length) → its[j]? ≠ some raw := fun j hj z => by
            have h1 := (hf j raw z).1
            have : needs (tl p.2).length j 32 = true := by
              unfold needs
              rw [lim] at hj
              rw [show special 32 = false by decide +kernel]
              rcases hj with h | h
              · rw [decide_eq_true h]; rfl
              · rw [decide_eq_true h, Bool.or_true]; rfl
            exact absurd (h1 this) (by decide)
          have hsg : ∀ q ∈ its, 32 ≤ q.1 ∧ q.1 ≤ 126 := fun q hq => px.1 _ (by rw [← ei]; exact List.mem_map_of_mem hq)
          have hip : 0 < its.length := List.length_pos_iff.mpr ne
          refine ⟨_, rfl, by decide, by decide, fun B hB0 => lc_range (lo := 0) (n := 4) (fun i H' => Moved d H2 H' ∧ ∃ ks : List Nat, ks.length = i ∧ (∀ k ∈ ks, k ≤ 2) ∧ H' B = some (.lst (ks.map fun k : Nat => V.str (repS " " (k : Int))))) ⟨Moved.same mv2.2 (same_new hB0), [], rfl, (fun _ z => nomatch z), upd_same⟩ ?_ ?_⟩
          · rintro k H3 hk ⟨mv3, ks, lk, hk2, hB⟩
            refine ⟨rfl, ?_⟩
            unfold tYes
            refine iteT ?_
            refine ⟨_, rfl, d, _, rfl, by decide, by decide, mv3.2, fun r H4 r0 r1 mv4 => ?_⟩
            obtain ⟨m, rfl⟩ := Int.eq_ofNat_of_zero_le r0
            refine ⟨_, _, rfl, rfl, r0, by omega, by decide +kernel, ?_⟩
            have nBd : B ≠ d := (mv2.2.ne hB0).symm
            refine ⟨_, mv4.1 _ _ nBd hB, by rw [List.length_map, lk]; exact szl (by omega), (mv3.trans mv4).back mv2.2 hB0, ks ++ [m], by rw [List.length_append, lk]; rfl, fun q hq => ?_, by rw [upd_same, List.map_append]; rfl⟩
            rcases List.mem_append.mp hq with hq | hq
            · exact hk2 q hq
            · rw [List.mem_singleton.mp hq]
              omega
          · rintro H3 ⟨mv3, ks, lk, hk2, hB⟩
            obtain ⟨b0, b1, b2, b3, rfl⟩ : ∃ b0 b1 b2 b3, ks = [b0, b1, b2, b3] := by
              match ks, lk with
              | [b0, b1, b2, b3], _ => exact ⟨b0, b1, b2, b3, rfl⟩
            have k0 := hk2 b0 (by simp)
            have k1 := hk2 b1 (by simp)
            have k2 := hk2 b2 (by simp)
            have k3 := hk2 b3 (by simp)
            have mvA := mv2.trans mv3
            have hL3 : H3 L = some (.lst (ys.map V.str)) := mvA.1 _ _ nLd hL
            have repl : ∀ n : Nat, (repS " " n).length = n := fun n => by rw [len_tl, tl_sp, List.length_replicate]; rfl
            have lw : p.1.length ≤ 12 := by rw [len_tl]; exact wd_len pw
            have ly : y.length ≤ 200 := by
              have := encL_len its
              rw [len_tl, ey2]
              omega
            have lap : ∀ a b : Str, (a ++ b).length = a.length + b.length := fun a b => by rw [len_tl, tl_append, List.length_append, ← len_tl, ← len_tl]
            have leq : ("=" : Str).length = 1 := by decide +kernel
            have r0 := repl b0
            have r1 := repl b1
            have r2 := repl b2
            have r3 := repl b3
            refine ⟨_, rfl, .inl ⟨rfl, _, SqL.of hL3⟩, ?_⟩
            refine ⟨_, rfl, B, _, _, _, rfl, rfl, SqL.of hB, atI_nat (j := 0) rfl, _, rfl, _, _, rfl, rfl, line_of (by omega), ?_⟩
            refine ⟨_, rfl, B, _, _, _, rfl, rfl, SqL.of hB, atI_nat (j := 1) rfl, _, _, rfl, rfl, line_of (by rw [lap]; omega), ?_⟩
            refine ⟨_, _, rfl, rfl, line_of (by rw [lap, lap]; omega), ?_⟩
            refine ⟨_, rfl, B, _, _, _, rfl, rfl, SqL.of hB, atI_nat (j := 2) rfl, _, _, rfl, rfl, line_of (by rw [lap, lap, lap]; omega), ?_⟩
            refine ⟨_, rfl, _, _, rfl, rfl, line_of (by rw [lap, lap, lap, lap]; omega), ?_⟩
            refine ⟨_, rfl, B, _, _, _, rfl, rfl, SqL.of hB, atI_nat (j := 3) rfl, _, _, rfl, rfl, line_of (by rw [lap, lap, lap, lap, lap]; omega), ?_⟩
            have lyn : ys.length = i := by
              have h1 := congrArg List.length ey
              have h2 := hT.length
              rw [List.length_map, List.length_map] at h1
              rw [List.length_take] at h2
              omega
            refine ⟨L, _, _, rfl, rfl, hL3, (by rw [List.length_map]; exact szl (by omega)), ?_⟩
            refine ⟨⟨_, _, _, _, _, _, _, _, _, rfl⟩, (mv.trans mvA).back hd hL0, ys ++ [repS " " b0 ++ p.1 ++ repS " " b1 ++ "=" ++ repS " " b2 ++ y ++ repS " " b3], rs ++ [⟨b0, tl p.1, b1, b2, its, b3⟩], by rw [upd_same, List.map_append]; rfl, ?_, ?_, ?_⟩
            · rw [List.map_append, List.map_append, ey]
              congr 1
              show [tl _] = [rL _]
              congr 1
              simp only [tl_append, tl_sp, tl_eqs, ey2]
              unfold rL
              simp only [List.append_assoc, List.singleton_append, List.cons_append, List.nil_append, Int.toNat_natCast]
            · rw [take_next hpi]
              exact Paired.snoc hT ⟨rfl, ei.symm⟩
            · intro r hr
              rcases List.mem_append.mp hr with hr | hr
              · exact hR r hr
              · rw [List.mem_singleton.mp hr]
                refine ⟨⟨pw, okI, ne, (by show its.length ≤ 100; omega), fun z => ?_, fun z => ?_⟩, k0, k1, k2, k3, ps1, hsg⟩
                · exact nraw 0 (.inl rfl) (by rw [← List.head?_eq_getElem?]; exact z)
                · exact nraw (its.length - 1) (.inr (by omega)) (by rw [← List.getLast?_eq_getElem?]; exact z)
    · rintro σ H1 ⟨⟨o3, o4, o5, o6, o7, o8, o9, o10, o11, rfl⟩, mv, ys, rs, hL, ey, hT, hR⟩
      rw [List.length_map, hts, List.take_length] at hT
      have hyl : ys.length = nm.length := by
        have := congrArg List.length ey
        rw [List.length_map, List.length_map] at this
        exact this.trans hT.length.symm
      refine ⟨⟨_, rfl⟩, _, rfl, ",", L, ys, rfl, rfl, .inl (SqL.of hL), ?_, q _ rs _ hT hR ?_ mv⟩
      · have h1 : (ys.map (·.length)).sum ≤ 221 * ys.length := by
          have := sum_le (k := 221) (l := ys.map (·.length)) fun n hn => by
            rw [lens_tl, ey, List.map_map] at hn
            obtain ⟨r, hr, rfl⟩ := List.mem_map.mp hn
            exact (hR r hr).len
          rw [List.length_map] at this
          exact this
        rw [show ("," : Str).length = 1 by decide +kernel]
        omega
      · rw [join_eq, tl_join, tl_comma, ey]
end
end Bw

namespace Bw
open PySem PySem.Spec L2 TL PyProof.Rows

/-! ### names as data -/
def pairD (p : Str × Str) : PyData := .tuple [.str p.1, .str p.2]
def nameD (nm : Nm) : PyData := .tuple (nm.map pairD)
theorem dp_pair {K : PySem.W.Frag} {H : Hp} {t : Addr} {p : Str × Str} (h : PairAt H t p) : Dp K H (.ref t) (pairD p) := .tup (SqT.of h) (.cons (.str _) (.cons (.str _) .nil))
theorem dp_pairs {K : PySem.W.Frag} {H : Hp} : ∀ {ts : List Addr} {nm : Nm}, Paired (PairAt H) ts nm → DpAll K H (ts.map V.ref) (nm.map pairD)
  | _, _, .nil => .nil
  | _, _, .cons h r => .cons (dp_pair h) (dp_pairs r)
theorem dp_name {K : PySem.W.Frag} {H : Hp} {a : Addr} {nm : Nm} (h : NameAt H a nm) : Dp K H (.ref a) (nameD nm) := by
  obtain ⟨ts, h1, h2⟩ := h
  exact .tup (SqT.of h1) (dp_pairs h2)
theorem strOk_sgn {x : Str} (h : Sgn (tl x)) : PyData.strOk x = true := by
  unfold PyData.strOk
  rw [← Array.all_toList, List.all_eq_true]
  intro c hc
  have := h c hc
  exact decide_eq_true (by omega)
theorem lay_pairs : ∀ {nm : Nm}, (∀ p ∈ nm, OkP p) → PyData.canLayAll0 (nm.map pairD) = true
  | [], _ => rfl
  | p :: r, h => by
    obtain ⟨h1, _, h2, _⟩ := h p (List.mem_cons_self ..)
    have ih := lay_pairs (nm := r) fun q hq => h q (List.mem_cons_of_mem _ hq)
    simp only [List.map_cons, PyData.canLayAll0, pairD, PyData.canLay0, strOk_sgn h1, strOk_sgn h2.1, ih, Bool.and_self]
theorem depth_pairs : ∀ nm : Nm, PyData.depthAll (nm.map pairD) ≤ 4
  | [] => by simp [PyData.depthAll]
  | p :: r => by
    have := depth_pairs r
    simp only [List.map_cons, PyData.depthAll, pairD, PyData.depth]
    omega
theorem shaped_name {nm : Nm} (h : ∀ p ∈ nm, OkP p) : SeqAt.shaped (nameD nm) = true := by
  unfold SeqAt.shaped nameD
  rw [Bool.and_eq_true]
  refine ⟨?_, decide_eq_true ?_⟩
  · simp only [PyData.canLay0]
    exact lay_pairs h
  · have := depth_pairs nm
    simp only [PyData.depth]
    omega
theorem eqv_pairs : ∀ a b : Nm, PyData.eqvAll (a.map pairD) (b.map pairD) = decide (a = b)
  | [], [] => by simp [PyData.eqvAll]
  | [], _ :: _ => by simp [PyData.eqvAll]
  | _ :: _, [] => by simp [PyData.eqvAll]
  | (x, y) :: r, (u, v) :: t => by
    have ih := eqv_pairs r t
    simp only [List.map_cons, PyData.eqvAll, pairD, PyData.eqv, ih]
    rw [Bool.eq_iff_iff]
    simp [and_assoc]
theorem eqv_name (a b : Nm) : PyData.eqv (nameD a) (nameD b) = decide (a = b) := by
  simp only [nameD, PyData.eqv]
  exact eqv_pairs a b
/-! ### what is written tells the name -/
theorem enc_inj : ∀ {l m : Its} {R S : List Nat}, (∀ i ∈ l, OkI i) → (∀ i ∈ m, OkI i) → (R = [] ∨ R.head? = some 44) → (S = [] ∨ S.head? = some 44) → encL l ++ R = encL m ++ S → l = m ∧ R = S
  | [], [], R, S, _, _, _, _, h => ⟨rfl, h⟩
  | [], i :: r, R, S, _, hm, hR, _, h => by
    exfalso
    have h' : R = encI i ++ encL r ++ S := h
    have oi := hm i (List.mem_cons_self ..)
    obtain ⟨c, e⟩ := i
    cases e with
    | true =>
      rw [h'] at hR
      rcases hR with z | z <;> cases z
    | false =>
      rw [h'] at hR
      rcases hR with z | z
      · cases z
      · have z2 : some c = some 44 := z
        have h3 : special c = false := oi.2 rfl
        rw [Option.some.inj z2] at h3
        exact absurd h3 (by decide +kernel)
  | i :: r, [], R, S, hl, _, _, hS, h => by
    exfalso
    have h' : encI i ++ encL r ++ R = S := h
    have oi := hl i (List.mem_cons_self ..)
    obtain ⟨c, e⟩ := i
    cases e with
    | true =>
      rw [← h'] at hS
      rcases hS with z | z <;> cases z
    | false =>
      rw [← h'] at hS
      rcases hS with z | z
      · cases z
      · have z2 : some c = some 44 := z
        have h3 : special c = false := oi.2 rfl
        rw [Option.some.inj z2] at h3
        exact absurd h3 (by decide +kernel)
  | (c, e) :: r, (d, f) :: t, R, S, hl, hm, hR, hS, h => by
    have oc := hl _ (List.mem_cons_self ..)
    have od := hm _ (List.mem_cons_self ..)
    have again : ∀ {X Y : List Nat}, X = encL r ++ R → Y = encL t ++ S → X = Y → r = t ∧ R = S := fun e1 e2 e3 =>
      enc_inj (fun i hi => hl i (List.mem_cons_of_mem _ hi)) (fun i hi => hm i (List.mem_cons_of_mem _ hi)) hR hS (by rw [← e1, ← e2, e3])
    have n92 : ∀ {x : Nat}, special x = false → x ≠ 92 := fun h z => by rw [z] at h; exact absurd h (by decide +kernel)
    cases e with
    | true =>
      cases f with
      | true =>
        have h' : 92 :: c :: (encL r ++ R) = 92 :: d :: (encL t ++ S) := h
        injection h' with _ h'
        injection h' with h1 h2
        obtain ⟨a, b⟩ := again rfl rfl h2
        exact ⟨by rw [h1, a], b⟩
      | false =>
        have h' : 92 :: c :: (encL r ++ R) = d :: (encL t ++ S) := h
        injection h' with h1 _
        exact absurd h1.symm (n92 (od.2 rfl))
    | false =>
      cases f with
      | true =>
        have h' : c :: (encL r ++ R) = 92 :: d :: (encL t ++ S) := h
        injection h' with h1 _
        exact absurd h1 (n92 (oc.2 rfl))
      | false =>
        have h' : c :: (encL r ++ R) = d :: (encL t ++ S) := h
        injection h' with h1 h2
        obtain ⟨a, b⟩ := again rfl rfl h2
        exact ⟨by rw [h1, a], b⟩
theorem head_inj {k : Nat} : ∀ {u v Y Z : List Nat}, (∀ c ∈ u, c ≠ k) → (∀ c ∈ v, c ≠ k) → u ++ k :: Y = v ++ k :: Z → u = v ∧ Y = Z
  | [], [], _, _, _, _, h => by
    injection h with _ h
    exact ⟨rfl, h⟩
  | [], c :: v, _, _, _, hv, h => by
    injection h with h _
    exact absurd h.symm (hv c (List.mem_cons_self ..))
  | c :: u, [], _, _, hu, _, h => by
    injection h with h _
    exact absurd h (hu c (List.mem_cons_self ..))
  | c :: u, d :: v, _, _, hu, hv, h => by
    injection h with h1 h2
    obtain ⟨a, b⟩ := head_inj (fun x hx => hu x (List.mem_cons_of_mem _ hx)) (fun x hx => hv x (List.mem_cons_of_mem _ hx)) h2
    exact ⟨by rw [h1, a], b⟩
theorem wd_no61 {w : List Nat} (h : wdL w = true) : ∀ c ∈ w, c ≠ 61 := by
  intro c hc z
  unfold wdL at h
  rw [Bool.and_eq_true, Bool.and_eq_true] at h
  have := List.all_eq_true.mp h.2.1 c hc
  rw [z] at this
  exact absurd this (by decide)
theorem items_flag {l : List Nat} {j : Nat} {q : Nat × Bool} (h : (itemsV l)[j]? = some q) : FlagOk l.length j q := by
  have hj : j < l.length := by
    have := (List.getElem?_eq_some_iff.mp h).1
    rw [items_len] at this
    exact this
  have h2 := items_at (List.getElem?_eq_getElem hj)
  rw [h] at h2
  rw [Option.some.inj h2]
  refine ⟨fun z => z, fun z => ?_⟩
  have z' : needs l.length j l[j] = true := z
  unfold needs at z'
  rw [Bool.or_eq_true, Bool.and_eq_true, decide_eq_true_eq] at z'
  rcases z' with z | z
  · exact .inl z
  · exact .inr z.1
theorem items_ok {l : List Nat} : ∀ i ∈ itemsV l, OkI i := fun i hi => by
  obtain ⟨j, hj⟩ := List.mem_iff_getElem?.mp hi
  exact (items_flag hj).item
theorem items_fst (l : List Nat) : (itemsV l).map Prod.fst = l := by
  apply List.ext_getElem?
  intro j
  rw [List.getElem?_map]
  cases e : l[j]? with
  | none =>
    rw [List.getElem?_eq_none (by rw [items_len]; exact List.getElem?_eq_none_iff.mp e)]
    rfl
  | some c => rw [items_at e]; rfl
def behindN : Nm → List Nat
  | [] => []
  | p :: r => 44 :: nameL (p :: r)
theorem behindN_stop (nm : Nm) : behindN nm = [] ∨ (behindN nm).head? = some 44 := by
  cases nm with
  | nil => exact .inl rfl
  | cons p r => exact .inr rfl
theorem nameL_cons (p : Str × Str) : ∀ r : Nm, nameL (p :: r) = tl p.1 ++ 61 :: (encL (itemsV (tl p.2)) ++ behindN r)
  | [] => by
    show rowL p = _
    unfold rowL escL behindN
    rw [List.append_nil]
    rfl
  | q :: r => by
    show rowL p ++ ([44] ++ joinL [44] ((q :: r).map rowL)) = _
    unfold behindN nameL
    have e : rowL p = tl p.1 ++ ([61] ++ encL (itemsV (tl p.2))) := rfl
    rw [e]
    simp only [List.append_assoc, List.cons_append, List.nil_append]
theorem nameL_inj : ∀ {a b : Nm}, (∀ p ∈ a, OkP p) → (∀ p ∈ b, OkP p) → nameL a = nameL b → a = b
  | [], [], _, _, _ => rfl
  | [], p :: r, _, _, h => by
    rw [nameL_cons] at h
    have := congrArg List.length h
    have e : (nameL []).length = 0 := rfl
    rw [e, List.length_append, List.length_cons] at this
    omega
  | p :: r, [], _, _, h => by
    rw [nameL_cons] at h
    have := congrArg List.length h
    have e : (nameL []).length = 0 := rfl
    rw [e, List.length_append, List.length_cons] at this
    omega
  | p :: r, q :: t, ha, hb, h => by
    rw [nameL_cons, nameL_cons] at h
    have op := ha p (List.mem_cons_self ..)
    have oq := hb q (List.mem_cons_self ..)
    obtain ⟨h1, h2⟩ := head_inj (wd_no61 op.2.1) (wd_no61 oq.2.1) h
    obtain ⟨h3, h4⟩ := enc_inj items_ok items_ok (behindN_stop r) (behindN_stop t) h2
    have h5 : tl p.2 = tl q.2 := by rw [← items_fst (tl p.2), h3, items_fst]
    have e : p = q := Prod.ext (ext_tl h1) (ext_tl h5)
    have h6 : r = t := by
      cases r with
      | nil =>
        cases t with
        | nil => rfl
        | cons _ _ => cases h4
      | cons u r =>
        cases t with
        | nil => cases h4
        | cons v t =>
          refine nameL_inj (fun x hx => ha x (List.mem_cons_of_mem _ hx)) (fun x hx => hb x (List.mem_cons_of_mem _ hx)) ?_
          have h4' : 44 :: nameL (u :: r) = 44 :: nameL (v :: t) := h4
          injection h4'
    rw [e, h6]
/-! ### the rows of what is written -/
def rowR (p : Str × Str) : Rw := ⟨0, tl p.1, 0, 0, itemsV (tl p.2), 0⟩
theorem rowR_L (p : Str × Str) : rL (rowR p) = rowL p := by
  unfold rL rowR rowL escL
  simp
theorem rowR_told {p : Str × Str} (h : OkP p) : RwTold (rowR p) := by
  obtain ⟨h1, h2, h3, h4⟩ := h
  have hl : (itemsV (tl p.2)).length = p.2.length := by rw [items_len, ← len_tl]
  have ne : itemsV (tl p.2) ≠ [] := fun z => h4 (ext_tl (by
    have := congrArg List.length z
    rw [items_len] at this
    rw [tl_e]
    exact List.length_eq_zero_iff.mp this))
  have nraw : ∀ j, (j = 0 ∨ j + 1 = (itemsV (tl p.2)).length) → (itemsV (tl p.2))[j]? ≠ some raw := fun j hj z => by
    have h1 := (items_flag z).1
    have : needs (tl p.2).length j 32 = true := by
      unfold needs
      rw [items_len] at hj
      rw [show special 32 = false by decide +kernel]
      rcases hj with h | h
      · rw [decide_eq_true h]; rfl
      · rw [decide_eq_true h, Bool.or_true]; rfl
    exact absurd (h1 this) (by decide)
  have hip : 0 < (itemsV (tl p.2)).length := List.length_pos_iff.mpr ne
  refine ⟨⟨h2, items_ok, ne, (by have := h3.2; show (itemsV (tl p.2)).length ≤ 100; omega), fun z => ?_, fun z => ?_⟩, Nat.zero_le _, Nat.zero_le _, Nat.zero_le _, Nat.zero_le _, h1, fun q hq => h3.1 _ (items_mem hq)⟩
  · exact nraw 0 (.inl rfl) (by rw [← List.head?_eq_getElem?]; exact z)
  · exact nraw ((itemsV (tl p.2)).length - 1) (.inr (by omega)) (by rw [← List.getLast?_eq_getElem?]; exact z)
theorem told_rows : ∀ nm : Nm, Paired Told nm (nm.map rowR)
  | [] => .nil
  | p :: r => .cons ⟨rfl, (items_fst _).symm⟩ (told_rows r)
theorem told_inj : ∀ {a b : Nm} {rs : List Rw}, Paired Told a rs → Paired Told b rs → a = b
  | _, _, _, .nil, .nil => rfl
  | _, _, _, .cons h r, .cons k t => by
    rw [told_inj r t, Prod.ext (ext_tl (h.1.trans k.1.symm)) (ext_tl (h.2.trans k.2.symm))]
theorem rows_bound : ∀ {rs : List Rw}, (∀ r ∈ rs, RwTold r) → (joinL [44] (rs.map rL)).length ≤ 222 * rs.length ∧ Sgn (joinL [44] (rs.map rL))
  | [], _ => ⟨Nat.zero_le _, fun c hc => nomatch hc⟩
  | [r], h => by
    have o := h r (List.mem_cons_self ..)
    have := o.len
    exact ⟨by show (rL r).length ≤ 222 * 1; omega, o.sgn⟩
  | r :: s :: t, h => by
    have o := h r (List.mem_cons_self ..)
    have l1 := o.len
    obtain ⟨l2, s2⟩ := rows_bound (rs := s :: t) fun q hq => h q (List.mem_cons_of_mem _ hq)
    have e : joinL [44] ((r :: s :: t).map rL) = rL r ++ ([44] ++ joinL [44] ((s :: t).map rL)) := rfl
    rw [e]
    refine ⟨?_, ?_⟩
    · rw [List.length_append, List.length_append, List.length_singleton, List.length_cons]
      omega
    · intro c hc
      rcases List.mem_append.mp hc with hc | hc
      · exact o.sgn c hc
      · rcases List.mem_append.mp hc with hc | hc
        · rw [List.mem_singleton.mp hc]
          omega
        · exact s2 c hc
end Bw

namespace Bw
open PySem PySem.Spec L2 TL PyProof.Rows

/-! ### one cell -/
def spRight : Sp := fun vs H Q _ => ∃ d : Addr, vs = [.ref d] ∧ DiceAt H d ∧ ∀ H', Moved d H H' → Q (.bl true) H'
section
variable {P : Program} {w : World} {K : PySem.W.Frag} {mg : Str → Option Value} {base : Heap} {f : Addr} {fd : FuncData}
theorem ok_law_right (F : Fun K "_law_right" "_law_right" s_law_right f fd) (T : Txt K mg) (D_law_some_name : Dfn P w K mg base "_law_some_name" 4 ["_law_dice_here", "_law_most"] spSN)
    (D_name_text : Dfn P w K mg base "name_text" 6 ["name"] spNT) (D_law_written : Dfn P w K mg base "_law_written" 2 ["_law_name"] spNT) (D_read_name : Dfn P w K mg base "read_name" 4 ["text"] spRN)
    (D_is_name : Dfn P w K mg base "is_name" 5 ["value"] spIsName) (D_law_otherwise : Dfn P w K mg base "_law_otherwise" 2 ["_law_dice_here", "_law_name"] spOth) :
    FnOk P w K mg base CX0 7 f fd ["_law_dice_here"] spRight := by
  refine F.ok sc_law_right (fun vs H Q E h => ?_) (fun cdv A outer s H vs Q E hr h => ?_)
  · obtain ⟨d, rfl, _⟩ := h
    rfl
  · obtain ⟨d, rfl, hd, q⟩ := h
    refine ⟨_, (pss_cons (ps_par (i := 1) (j := 2) (by rfl) sc_law_right.nd rfl rfl (by decide) rfl rfl (pa_cons (pe_d D_law_some_name hr (by decide) (pa_cons (pv 0) (pa_cons pe_int pa_nil))) (pa_cons (pe_d D_law_some_name hr (by decide) (pa_cons (pv 0) (pa_cons pe_int pa_nil))) pa_nil)) (by rfl)) (pss_cons (ps_set (i := 3) sc_law_right.nd rfl (Or.inl rfl) (pe_d D_name_text hr (by decide) (pa_cons (pv 1) pa_nil))) (pss_cons (ps_if (PW.pt (pw_or (pt_cmpR op_ne (pv 3) (pe_d D_law_written hr (by decide) (pa_cons (pv 1) pa_nil)) (nomark _)) (pw_or (pt_cmpR (op_neD hr.units) (pe_d D_read_name hr (by decide) (pa_cons (pv 3) pa_nil)) (pv 1) (nomark _)) (pw_or1 (pt_not (pt_val (pe_d D_is_name hr (by decide) (pa_cons (pv 1) pa_nil)))))))) (pss_one (ps_ret pe_bl)) pss_nil) (pss_cons (ps_if (pt_cmpR op_ne (pe_cmpR op_eq (pe_d D_name_text hr (by decide) (pa_cons (pv 2) pa_nil)) (pv 3) (nomark _)) (pe_cmpR (op_eqD hr.units) (pv 2) (pv 1) (nomark _)) (nomark _)) (pss_one (ps_ret pe_bl)) pss_nil) (pss_cons (ps_for PassesOwn.never rfl (pi_range1 (by rfl) T.b_range (pa_cons pe_int pa_nil)) (pg_name (i := 4) sc_law_right.nd rfl (Or.inl rfl)) (pss_one (ps_if (pt_cmpR (op_neD hr.units) (pe_d D_read_name hr (by decide) (pa_cons (pe_d D_law_otherwise hr (by decide) (pa_cons (pv 0) (pa_cons (pv 1) pa_nil))) pa_nil)) (pv 1) (nomark _)) (pss_one (ps_ret pe_bl)) pss_nil))) (pss_one (ps_ret pe_bl))))))), ?_⟩
    refine ⟨_, rfl, d, 8, rfl, by omega, hd, fun a nm H1 ok1 l1 hN1 mv1 => ?_⟩
    refine ⟨_, rfl, d, 3, rfl, by omega, mv1.2, fun b nm2 H2 ok2 l2 hN2 mv2 => ?_⟩
    refine ⟨_, _, rfl, ?_⟩
    have hA := hN1.moved mv2 mv1.2
    refine ⟨_, rfl, a, nm, rfl, hA, ok1, l1, fun y H3 hy sm3 => ?_⟩
    have hA3 := hA.up sm3
    have hB3 := hN2.up sm3
    refine ⟨_, rfl, _, rfl, a, nm, rfl, hA3, ok1, l1, fun z H4 hz sm4 => ?_⟩
    have ezy : y = z := ext_tl (hy.trans hz.symm)
    subst ezy
    have hA4 := hA3.up sm4
    have hB4 := hB3.up sm4
    have bound := rows_bound (rs := nm.map rowR) (fun r hr => by
      obtain ⟨p, hp, rfl⟩ := List.mem_map.mp hr
      exact rowR_told (ok1 p hp))
    have ej : tl y = joinL [44] ((nm.map rowR).map rL) := by
      rw [hy]
      unfold nameL
      rw [List.map_map]
      congr 1
      exact List.map_congr_left fun p _ => (rowR_L p).symm
    have lr : (nm.map rowR).length = nm.length := List.length_map ..
    have ly : y.length ≤ 4000 := by
      have := bound.1
      rw [← ej, ← len_tl, lr] at this
      omega
    have sy : Sgn (tl y) := by rw [ej]; exact bound.2
    refine ⟨rfl, _, rfl, ?_⟩
    rw [show decide (V.str y = V.str y) = true from decide_eq_true rfl]
    refine iteF ?_
    refine ⟨_, rfl, y, nm.map rowR, rfl, sy, ly, (fun r hr => by
      obtain ⟨p, hp, rfl⟩ := List.mem_map.mp hr
      exact (rowR_told (ok1 p hp)).ok), by rw [lr]; exact l1, ej, fun a2 nm' H5 told sm5 hN5 => ?_⟩
    obtain rfl : nm = nm' := (told_inj told (told_rows nm)).symm
    have hA5 := hA4.up sm5
    have hB5 := hB4.up sm5
    refine ⟨_, rfl, _, _, dp_name hN5, dp_name hA5, shaped_name ok1, shaped_name ok1, _, rfl, ?_⟩
    rw [eqv_name, decide_eq_true rfl]
    refine iteF ⟨_, rfl, a, _, rfl, hA5, ok1, l1, fun H6 sm6 => ⟨true, rfl, iteF ?_⟩⟩
    have hA6 := hA5.up sm6
    have hB6 := hB5.up sm6
    refine ⟨_, rfl, b, nm2, rfl, hB6, ok2, by omega, fun z H7 hz2 sm7 => ?_⟩
    have hA7 := hA6.up sm7
    have hB7 := hB6.up sm7
    refine ⟨_, rfl, rfl, _, rfl, _, rfl, _, _, dp_name hB7, dp_name hA7, shaped_name ok2, shaped_name ok1, rfl, _, rfl, ?_⟩
    have ezn : decide (V.str z = V.str y) = decide (nm2 = nm) := by
      rw [Bool.eq_iff_iff, decide_eq_true_eq, decide_eq_true_eq]
      constructor
      · intro h
        have h2 : z = y := by injection h
        exact nameL_inj ok2 ok1 (by rw [← hz2, ← hy, h2])
      · intro h
        exact congrArg V.str (ext_tl (by rw [hz2, hy, h]))
    rw [eqv_name, ezn, decide_eq_true (rfl : V.bl (decide (nm2 = nm)) = V.bl (decide (nm2 = nm)))]
    refine iteF ?_
    have M7 : Moved d H H7 := (mv1.trans mv2).trans (Moved.same mv2.2 (((((sm3.trans sm4).trans sm5).trans sm6)).trans sm7))
    refine ⟨3, rfl, by decide, by decide, for_range (lo := 0) (n := 3) (fun i σ H' => (∃ o : Option V, σ = [some (.ref d), some (.ref a), some (.ref b), some (.str y), o]) ∧ Moved d H7 H') ⟨⟨_, rfl⟩, Moved.refl M7.2⟩ ?_ ?_⟩
    · rintro i σ H8 hi ⟨⟨o, rfl⟩, mv8⟩
      have hA8 := hA7.moved mv8 M7.2
      refine ⟨_, rfl, _, rfl, d, a, nm, rfl, mv8.2, hA8, ok1, l1, fun u rs H9 told9 rok eu mv9 => ?_⟩
      obtain ⟨bu, su⟩ := rows_bound rok
      have lrs : rs.length = nm.length := told9.length.symm
      have lu : u.length ≤ 4000 := by
        rw [← eu, ← len_tl] at bu
        omega
      refine ⟨u, rs, rfl, (by rw [eu]; exact su), lu, (fun r hr => (rok r hr).ok), by omega, eu, fun a2 nm' H10 told10 sm10 hN10 => ?_⟩
      obtain rfl : nm = nm' := told_inj told9 told10
      have hA10 := (hA8.moved mv9 mv8.2).up sm10
      refine ⟨_, rfl, _, _, dp_name hN10, dp_name hA10, shaped_name ok1, shaped_name ok1, _, rfl, ?_⟩
      rw [eqv_name, decide_eq_true rfl]
      exact iteF ⟨⟨_, rfl⟩, (mv8.trans mv9).trans (Moved.same mv9.2 sm10)⟩
    · rintro σ H8 ⟨⟨o, rfl⟩, mv8⟩
      exact q _ (M7.trans mv8)
end
end Bw

namespace Bw
open PySem PySem.Spec L2 TL PyProof.Rows

theorem Same.moved {H0 H1 H2 : Hp} {d : Addr} (s : Same H0 H1) (n : H0 d = none) (m : Moved d H1 H2) : Same H0 H2 := fun b o h => m.1 b o (ne_of_none h n) (s b o h)
def spLaw (K : PySem.W.Frag) : Sp := fun vs H Q _ => ∃ (a : Addr) (ns : List Int), vs = [.ref a] ∧ SqL K H a (ns.map V.int) ∧ ns.length ≤ 63 ∧ ∀ H', Q (.bl true) H'
def okPB (p : Str × Str) : Bool := okW (.str p.1) && okT (.str p.2)
theorem okP_all {nm : Nm} (h : ∀ p ∈ nm, okPB p = true) : ∀ p ∈ nm, OkP p := fun p hp => by
  have := h p hp
  unfold okPB at this
  rw [Bool.and_eq_true] at this
  obtain ⟨w, e1, s1, w1⟩ := okW_str this.1
  obtain ⟨t, e2, t1, t2⟩ := okT_str this.2
  have e3 : p.1 = w := by injection e1
  have e4 : p.2 = t := by injection e2
  subst e3
  subst e4
  exact ⟨s1, w1, t1, t2⟩
section
variable {P : Program} {w : World} {K : PySem.W.Frag} {mg : Str → Option Value} {base : Heap} {f : Addr} {fd : FuncData}
theorem ok_law (F : Fun K "law" "law" s_law f fd) (T : Txt K mg) (D_law_dice : Dfn P w K mg base "_law_dice" 1 ["_law_script", "_law_at"] (spDice K))
    (D_law_right : Dfn P w K mg base "_law_right" 7 ["_law_dice_here"] spRight) (D_name_text : Dfn P w K mg base "name_text" 6 ["name"] spNT) (D_read_name : Dfn P w K mg base "read_name" 4 ["text"] spRN) :
    FnOk P w K mg base CX0 8 f fd ["_law_script"] (spLaw K) := by
  refine F.ok sc_law (fun vs H Q E h => ?_) (fun cdv A outer s H vs Q E hr h => ?_)
  · obtain ⟨a, ns, rfl, _⟩ := h
    rfl
  · obtain ⟨a, ns, rfl, hS, hlen, q⟩ := h
    refine ⟨_, (pss_cons (ps_for PassesOwn.never rfl (pi_range1 (by rfl) T.b_range (pa_cons (pe_callB (call_max2 rfl) (by rfl) T.b_max (by decide +kernel) (pa_cons pe_int (pa_cons (pe_callB (call_min2 rfl) (by rfl) T.b_min (by decide +kernel) (pa_cons pe_int (pa_cons (pe_callB call_len_seq (by rfl) T.b_len (by decide +kernel) (pa_cons (pv 0) pa_nil)) pa_nil))) pa_nil))) pa_nil)) (pg_name (i := 1) sc_law.nd rfl (Or.inl rfl)) (pss_cons (ps_set (i := 2) sc_law.nd rfl (Or.inl rfl) (pe_d D_law_dice hr (by decide) (pa_cons (pv 0) (pa_cons (pv 1) pa_nil)))) (pss_one (ps_if (PW.pt (pw_or (pt_not (pt_val (pe_d D_law_right hr (by decide) (pa_cons (pv 2) pa_nil)))) (pw_or1 (pt_not (pt_val (pe_d D_law_right hr (by decide) (pa_cons (pv 2) pa_nil))))))) (pss_one (ps_ret pe_bl)) pss_nil)))) (pss_cons (ps_set (i := 3) sc_law.nd rfl (Or.inl rfl) (pe_lst (pa_cons (pe_d D_name_text hr (by decide) (pa_cons (pe_tup (pa_cons (pe_tup (pa_cons pe_str (pa_cons pe_str pa_nil))) pa_nil)) pa_nil)) (pa_cons (pe_d D_name_text hr (by decide) (pa_cons (pe_tup (pa_cons (pe_tup (pa_cons pe_str (pa_cons pe_str pa_nil))) (pa_cons (pe_tup (pa_cons pe_str (pa_cons pe_str pa_nil))) pa_nil))) pa_nil)) (pa_cons (pe_d D_read_name hr (by decide) (pa_cons pe_str pa_nil)) pa_nil))))) (pss_one (ps_ret (pe_cmpR (op_eqD hr.units) (pv 3) (pe_lst (pa_cons pe_str (pa_cons pe_str (pa_cons (pe_tup (pa_cons (pe_tup (pa_cons pe_str (pa_cons pe_str pa_nil))) (pa_cons (pe_tup (pa_cons pe_str (pa_cons pe_str pa_nil))) pa_nil))) pa_nil)))) (nomark _)))))), ?_⟩
    have hl2 : (ns.map V.int).length ≤ 63 := by
      rw [List.length_map]
      exact hlen
    refine ⟨_, rfl, a, _, rfl, .inl hS, _, _, rfl, _, _, rfl, _, rfl, (by split <;> (try split) <;> omega), (by split <;> (try split) <;> omega),
      for_it walk_range (fun i σ H' => Same H H' ∧ ∃ a1 a2 a3 : Option V, σ = [some (.ref a), a1, a2, a3]) ⟨Same.refl H, _, _, _, rfl⟩ (fun _ _ _ _ _ => trivial) ?_ ?_⟩
    · rintro i v σ H1 H2 hi ⟨sm, a1, a2, a3, rfl⟩ ⟨rfl, rfl⟩
      refine ⟨_, rfl, _, rfl, a, ns, i, (by show [V.ref a, V.int (0 + (i : Int))] = _; rw [Int.zero_add]), sm.seq hS, fun p H2 hp sm2 hd => ?_⟩
      have hp0 : H p = none := sm.free hp
      refine ⟨_, rfl, p, rfl, hd, fun H3 mv3 => ⟨true, rfl, iteF ?_⟩⟩
      refine ⟨_, rfl, p, rfl, mv3.2, fun H4 mv4 => ⟨true, rfl, iteF ?_⟩⟩
      exact ⟨Same.moved (sm.trans sm2) hp0 (mv3.trans mv4), _, _, _, rfl⟩
    · rintro σ H1 ⟨sm, a1, a2, a3, rfl⟩
      refine ⟨(by show 2 ≤ sizeLine; decide), fun p1 hp1 => ⟨(by show 1 ≤ sizeLine; decide), fun p2 hp2 => ?_⟩⟩
      have ok1 : ∀ p ∈ ([("a", " ")] : Nm), OkP p := okP_all (by decide +kernel)
      have ok2 : ∀ p ∈ ([("a", "  "), ("b", "\\")] : Nm), OkP p := okP_all (by decide +kernel)
      refine ⟨p2, [("a", " ")], rfl, ⟨[p1], upd_same, .cons ((same_new hp2) _ _ upd_same) .nil⟩, ok1, by decide, fun y1 H2 hy1 sm1 => ?_⟩
      refine ⟨(by show 2 ≤ sizeLine; decide), fun p3 hp3 => ⟨(by show 2 ≤ sizeLine; decide), fun p4 hp4 => ⟨(by show 2 ≤ sizeLine; decide), fun p5 hp5 => ?_⟩⟩⟩
      refine ⟨p5, [("a", "  "), ("b", "\\")], rfl, ⟨[p3, p4], upd_same, .cons ((same_new hp5) _ _ ((same_new hp4) _ _ upd_same)) (.cons ((same_new hp5) _ _ upd_same) .nil)⟩, ok2, by decide, fun y2 H3 hy2 sm2 => ?_⟩
      refine ⟨" a = A\\ ,b=c  d ", [⟨1, [97], 1, 1, [(65, false), (32, true)], 0⟩, ⟨0, [98], 0, 0, [(99, false), (32, false), (32, false), (100, false)], 1⟩], rfl, ?_, ?_, ?_, by decide, ?_, fun r nm H4 told sm3 hN => ?_⟩
      · show ∀ c ∈ tl (" a = A\\ ,b=c  d " : Str), 32 ≤ c ∧ c ≤ 126
        decide +kernel
      · decide +kernel
      · intro r hr
        have it : ∀ i ∈ ([(65, false), (32, true), (99, false), (32, false), (32, false), (100, false)] : Its), (i.2 = true → special i.1 = true ∨ i.1 = 32) ∧ (i.2 = false → special i.1 = false) := by decide +kernel
        rcases List.mem_cons.mp hr with rfl | hr
        · exact ⟨by decide +kernel, fun i hi => it i (by simp at hi ⊢; rcases hi with h | h <;> simp [h]), by simp, by decide, by decide, by decide⟩
        · rw [List.mem_singleton.mp hr]
          exact ⟨by decide +kernel, fun i hi => it i (by simp at hi ⊢; rcases hi with h | h | h <;> simp [h]), by simp, by decide, by decide, by decide⟩
      · decide +kernel
      · obtain rfl : nm = ([("a", "A "), ("b", "c  d")] : Nm) := told_inj (b := ([("a", "A "), ("b", "c  d")] : Nm)) told (.cons ⟨by decide +kernel, by decide +kernel⟩ (.cons ⟨by decide +kernel, by decide +kernel⟩ .nil))
        obtain rfl : y1 = "a=\\ " := ext_tl (hy1.trans (by decide +kernel))
        obtain rfl : y2 = "a=\\ \\ ,b=\\\\" := ext_tl (hy2.trans (by decide +kernel))
        have ok3 : ∀ p ∈ ([("a", "A "), ("b", "c  d")] : Nm), OkP p := okP_all (by decide +kernel)
        refine ⟨(by show 3 ≤ sizeLine; decide), fun l hl => ?_⟩
        refine ⟨_, rfl, (by show 2 ≤ sizeLine; decide), fun p6 hp6 => ⟨(by show 2 ≤ sizeLine; decide), fun p7 hp7 => ⟨(by show 2 ≤ sizeLine; decide), fun p8 hp8 => ⟨(by show 3 ≤ sizeLine; decide), fun l2 hl2' => ?_⟩⟩⟩⟩
        have up1 := (((same_new (o := .tup [.str "a", .str "A "]) hp6).trans (same_new (o := .tup [.str "b", .str "c  d"]) hp7)).trans (same_new (o := .tup [.ref p6, .ref p7]) hp8)).trans (same_new (o := .lst [.str "a=\\ ", .str "a=\\ \\ ,b=\\\\", .ref p8]) hl2')
        refine ⟨_, _, .lst (SqL.of (up1 _ _ upd_same)) (.cons (.str _) (.cons (.str _) (.cons (dp_name ((hN.up (same_new hl)).up up1)) .nil))), .lst (SqL.of upd_same) (.cons (.str _) (.cons (.str _) (.cons (dp_name (nm := [("a", "A "), ("b", "c  d")]) ⟨[p6, p7], (same_new hl2') _ _ upd_same, .cons ((same_new hl2') _ _ ((same_new hp8) _ _ ((same_new hp7) _ _ upd_same))) (.cons ((same_new hl2') _ _ ((same_new hp8) _ _ upd_same)) .nil)⟩) .nil))), by decide +kernel, by decide +kernel, ?_⟩
        exact q _
end
end Bw

namespace Bw
open PySem PySem.Spec L2 TL PyProof.Rows
/-! ### what the top has left -/
theorem txtMk {K : PySem.W.Frag} {h : Heap} {mg : Str → Option Value} {t1 t2 t3 t4 t5 : Tok} (KI : K.In h) (NS : h.Ns mainGlobals mg)
    (zlen : PySem.W.nsIn K mainGlobals "len" = some none)
    (zint : PySem.W.nsIn K mainGlobals "int" = some none)
    (zabs : PySem.W.nsIn K mainGlobals "abs" = some none)
    (zmax : PySem.W.nsIn K mainGlobals "max" = some none)
    (zmin : PySem.W.nsIn K mainGlobals "min" = some none)
    (zrange : PySem.W.nsIn K mainGlobals "range" = some none)
    (zisinstance : PySem.W.nsIn K mainGlobals "isinstance" = some none)
    (ztuple : PySem.W.nsIn K mainGlobals "tuple" = some none)
    (zenumerate : PySem.W.nsIn K mainGlobals "enumerate" = some none)
    (zall : PySem.W.nsIn K mainGlobals "all" = some none)
    (zstr : PySem.W.nsIn K mainGlobals "str" = some none)
    (x1 : PySem.W.nsIn K mainGlobals "MOST_TEXT" = some (some (.int 100 t1)))
    (x2 : PySem.W.nsIn K mainGlobals "MOST_WORD" = some (some (.int 12 t2)))
    (x3 : PySem.W.nsIn K mainGlobals "MOST_LEVELS" = some (some (.int 8 t3)))
    (x4 : PySem.W.nsIn K mainGlobals "MOST_SIGNS" = some (some (.int 4000 t4)))
    (x5 : PySem.W.nsIn K mainGlobals "SPECIAL" = some (some (.str ",=+\"\\" t5)))
    : Txt K mg :=
  {
    b_len := PySem.W.mg_none_of KI NS zlen
    b_int := PySem.W.mg_none_of KI NS zint
    b_abs := PySem.W.mg_none_of KI NS zabs
    b_max := PySem.W.mg_none_of KI NS zmax
    b_min := PySem.W.mg_none_of KI NS zmin
    b_range := PySem.W.mg_none_of KI NS zrange
    b_isinstance := PySem.W.mg_none_of KI NS zisinstance
    b_tuple := PySem.W.mg_none_of KI NS ztuple
    b_enumerate := PySem.W.mg_none_of KI NS zenumerate
    b_all := PySem.W.mg_none_of KI NS zall
    b_str := PySem.W.mg_none_of KI NS zstr
    g_text := ⟨_, PySem.W.mg_of KI NS x1⟩
    g_word := ⟨_, PySem.W.mg_of KI NS x2⟩
    g_levels := ⟨_, PySem.W.mg_of KI NS x3⟩
    g_signs := ⟨_, PySem.W.mg_of KI NS x4⟩
    g_special := ⟨_, PySem.W.mg_of KI NS x5⟩
  }
structure DefAt (K : PySem.W.Frag) (mg : Str → Option Value) (x : Str) (st : Stmt) : Prop where
  ex : ∃ (f : Addr) (fd : FuncData), Fun K x x st f fd ∧ mg x = some (.ref f)
theorem defAt {K : PySem.W.Frag} {h : Heap} {mg : Str → Option Value} {x : Str} {st : Stmt} {f : Addr} {od an : Option Addr} {sl : Array (Option Value)} {oc kV dc pm cd ct : Value} (KI : K.In h) (NS : h.Ns mainGlobals mg)
    (at_ : PySem.W.nsIn K mainGlobals x = some (some (.ref f))) (lk : K.lookup f = some ⟨oc, od, .func (PySem.W.fnOf x x (defArgs st) (defBody st) (defScope st) .none kV dc pm an cd ct), sl⟩)
    (cc : PySem.W.codeIn K cd x = true) (kk : PySem.W.keepIn K (.ref f) = true) : DefAt K mg x st := ⟨f, _, fun_mk (st := st) lk cc kk, PySem.W.mg_of KI NS at_⟩
theorem all_mk {l : PySem.W.OpenLaw} {w : World} {K : PySem.W.Frag} {mg : Str → Option Value} {fa : Addr} (hT : Txt K mg) (hfa : mg "law" = some (.ref fa)) (d_are_signs : DefAt K mg "are_signs" s_are_signs) (d_is_text : DefAt K mg "is_text" s_is_text) (d_is_word : DefAt K mg "is_word" s_is_word) (d_is_pair : DefAt K mg "is_pair" s_is_pair) (d_are_pairs : DefAt K mg "are_pairs" s_are_pairs) (d_is_name : DefAt K mg "is_name" s_is_name) (d_text_of_value : DefAt K mg "_text_of_value" s_text_of_value) (d_name_text : DefAt K mg "name_text" s_name_text) (d_behind_blanks : DefAt K mg "_behind_blanks" s_behind_blanks) (d_read_word : DefAt K mg "_read_word" s_read_word) (d_read_sign : DefAt K mg "_read_sign" s_read_sign) (d_read_value : DefAt K mg "_read_value" s_read_value) (d_read_name : DefAt K mg "read_name" s_read_name) (d_law_dice : DefAt K mg "_law_dice" s_law_dice) (d_law_roll : DefAt K mg "_law_roll" s_law_roll) (d_law_one_of : DefAt K mg "_law_one_of" s_law_one_of) (d_law_name_pair : DefAt K mg "_law_name_pair" s_law_name_pair) (d_law_some_name : DefAt K mg "_law_some_name" s_law_some_name) (d_law_escaped : DefAt K mg "_law_escaped" s_law_escaped) (d_law_written : DefAt K mg "_law_written" s_law_written) (d_law_otherwise : DefAt K mg "_law_otherwise" s_law_otherwise) (d_law_right : DefAt K mg "_law_right" s_law_right) (d_law : DefAt K mg "law" s_law) :
    ∃ fd : FuncData, (∀ (s : Shared) (v : Value), BindsTo s fd ⟨[v], []⟩ [("_law_script", v)]) ∧ ∀ base : Heap, K.In base → base.Ns mainGlobals mg → FnOk l.prog w K mg base CX0 8 fa fd ["_law_script"] (spLaw K) := by
  have T := hT
  obtain ⟨f_are_signs, fd_are_signs, F_are_signs, m_are_signs⟩ := d_are_signs.ex
  have b_are_signs := F_are_signs.binds (ps := ["value", "most"]) fun _ _ _ _ _ _ us hl => match us, hl with | [_, _], _ => rfl
  obtain ⟨f_is_text, fd_is_text, F_is_text, m_is_text⟩ := d_is_text.ex
  have b_is_text := F_is_text.binds (ps := ["value"]) fun _ _ _ _ _ _ us hl => match us, hl with | [_], _ => rfl
  obtain ⟨f_is_word, fd_is_word, F_is_word, m_is_word⟩ := d_is_word.ex
  have b_is_word := F_is_word.binds (ps := ["value"]) fun _ _ _ _ _ _ us hl => match us, hl with | [_], _ => rfl
  obtain ⟨f_is_pair, fd_is_pair, F_is_pair, m_is_pair⟩ := d_is_pair.ex
  have b_is_pair := F_is_pair.binds (ps := ["value"]) fun _ _ _ _ _ _ us hl => match us, hl with | [_], _ => rfl
  obtain ⟨f_are_pairs, fd_are_pairs, F_are_pairs, m_are_pairs⟩ := d_are_pairs.ex
  have b_are_pairs := F_are_pairs.binds (ps := ["value"]) fun _ _ _ _ _ _ us hl => match us, hl with | [_], _ => rfl
  obtain ⟨f_is_name, fd_is_name, F_is_name, m_is_name⟩ := d_is_name.ex
  have b_is_name := F_is_name.binds (ps := ["value"]) fun _ _ _ _ _ _ us hl => match us, hl with | [_], _ => rfl
  obtain ⟨f_text_of_value, fd_text_of_value, F_text_of_value, m_text_of_value⟩ := d_text_of_value.ex
  have b_text_of_value := F_text_of_value.binds (ps := ["text"]) fun _ _ _ _ _ _ us hl => match us, hl with | [_], _ => rfl
  obtain ⟨f_name_text, fd_name_text, F_name_text, m_name_text⟩ := d_name_text.ex
  have b_name_text := F_name_text.binds (ps := ["name"]) fun _ _ _ _ _ _ us hl => match us, hl with | [_], _ => rfl
  obtain ⟨f_behind_blanks, fd_behind_blanks, F_behind_blanks, m_behind_blanks⟩ := d_behind_blanks.ex
  have b_behind_blanks := F_behind_blanks.binds (ps := ["text", "at"]) fun _ _ _ _ _ _ us hl => match us, hl with | [_, _], _ => rfl
  obtain ⟨f_read_word, fd_read_word, F_read_word, m_read_word⟩ := d_read_word.ex
  have b_read_word := F_read_word.binds (ps := ["text", "at"]) fun _ _ _ _ _ _ us hl => match us, hl with | [_, _], _ => rfl
  obtain ⟨f_read_sign, fd_read_sign, F_read_sign, m_read_sign⟩ := d_read_sign.ex
  have b_read_sign := F_read_sign.binds (ps := ["text", "at"]) fun _ _ _ _ _ _ us hl => match us, hl with | [_, _], _ => rfl
  obtain ⟨f_read_value, fd_read_value, F_read_value, m_read_value⟩ := d_read_value.ex
  have b_read_value := F_read_value.binds (ps := ["text", "at"]) fun _ _ _ _ _ _ us hl => match us, hl with | [_, _], _ => rfl
  obtain ⟨f_read_name, fd_read_name, F_read_name, m_read_name⟩ := d_read_name.ex
  have b_read_name := F_read_name.binds (ps := ["text"]) fun _ _ _ _ _ _ us hl => match us, hl with | [_], _ => rfl
  obtain ⟨f_law_dice, fd_law_dice, F_law_dice, m_law_dice⟩ := d_law_dice.ex
  have b_law_dice := F_law_dice.binds (ps := ["_law_script", "_law_at"]) fun _ _ _ _ _ _ us hl => match us, hl with | [_, _], _ => rfl
  obtain ⟨f_law_roll, fd_law_roll, F_law_roll, m_law_roll⟩ := d_law_roll.ex
  have b_law_roll := F_law_roll.binds (ps := ["_law_dice_here", "_law_total"]) fun _ _ _ _ _ _ us hl => match us, hl with | [_, _], _ => rfl
  obtain ⟨f_law_one_of, fd_law_one_of, F_law_one_of, m_law_one_of⟩ := d_law_one_of.ex
  have b_law_one_of := F_law_one_of.binds (ps := ["_law_dice_here", "_law_items"]) fun _ _ _ _ _ _ us hl => match us, hl with | [_, _], _ => rfl
  obtain ⟨f_law_name_pair, fd_law_name_pair, F_law_name_pair, m_law_name_pair⟩ := d_law_name_pair.ex
  have b_law_name_pair := F_law_name_pair.binds (ps := ["_law_dice_here"]) fun _ _ _ _ _ _ us hl => match us, hl with | [_], _ => rfl
  obtain ⟨f_law_some_name, fd_law_some_name, F_law_some_name, m_law_some_name⟩ := d_law_some_name.ex
  have b_law_some_name := F_law_some_name.binds (ps := ["_law_dice_here", "_law_most"]) fun _ _ _ _ _ _ us hl => match us, hl with | [_, _], _ => rfl
  obtain ⟨f_law_escaped, fd_law_escaped, F_law_escaped, m_law_escaped⟩ := d_law_escaped.ex
  have b_law_escaped := F_law_escaped.binds (ps := ["_law_text"]) fun _ _ _ _ _ _ us hl => match us, hl with | [_], _ => rfl
  obtain ⟨f_law_written, fd_law_written, F_law_written, m_law_written⟩ := d_law_written.ex
  have b_law_written := F_law_written.binds (ps := ["_law_name"]) fun _ _ _ _ _ _ us hl => match us, hl with | [_], _ => rfl
  obtain ⟨f_law_otherwise, fd_law_otherwise, F_law_otherwise, m_law_otherwise⟩ := d_law_otherwise.ex
  have b_law_otherwise := F_law_otherwise.binds (ps := ["_law_dice_here", "_law_name"]) fun _ _ _ _ _ _ us hl => match us, hl with | [_, _], _ => rfl
  obtain ⟨f_law_right, fd_law_right, F_law_right, m_law_right⟩ := d_law_right.ex
  have b_law_right := F_law_right.binds (ps := ["_law_dice_here"]) fun _ _ _ _ _ _ us hl => match us, hl with | [_], _ => rfl
  obtain ⟨f_law, fd_law, F_law, m_law⟩ := d_law.ex
  have b_law := F_law.binds (ps := ["_law_script"]) fun _ _ _ _ _ _ us hl => match us, hl with | [_], _ => rfl
  have e := hfa.symm.trans m_law
  cases e
  refine ⟨fd_law, fun s v => ?_, fun base _ _ => ?_⟩
  · obtain ⟨_, _, _, _, _, _, _, _, _, rfl, _, _⟩ := F_law.ex
    exact .of_eq rfl
  have D_are_signs : Dfn l.prog w K mg base "are_signs" 1 ["value", "most"] _ := ⟨f_are_signs, fd_are_signs, ok_are_signs F_are_signs T, m_are_signs, F_are_signs.kp, b_are_signs⟩
  have D_is_text : Dfn l.prog w K mg base "is_text" 2 ["value"] _ := ⟨f_is_text, fd_is_text, ok_is_text F_is_text T D_are_signs, m_is_text, F_is_text.kp, b_is_text⟩
  have D_is_word : Dfn l.prog w K mg base "is_word" 2 ["value"] _ := ⟨f_is_word, fd_is_word, ok_is_word F_is_word T D_are_signs, m_is_word, F_is_word.kp, b_is_word⟩
  have D_is_pair : Dfn l.prog w K mg base "is_pair" 3 ["value"] _ := ⟨f_is_pair, fd_is_pair, ok_is_pair F_is_pair T D_is_word D_is_text, m_is_pair, F_is_pair.kp, b_is_pair⟩
  have D_are_pairs : Dfn l.prog w K mg base "are_pairs" 4 ["value"] _ := ⟨f_are_pairs, fd_are_pairs, ok_are_pairs F_are_pairs T D_is_pair, m_are_pairs, F_are_pairs.kp, b_are_pairs⟩
  have D_is_name : Dfn l.prog w K mg base "is_name" 5 ["value"] _ := ⟨f_is_name, fd_is_name, ok_is_name F_is_name T D_are_pairs, m_is_name, F_is_name.kp, b_is_name⟩
  have D_text_of_value : Dfn l.prog w K mg base "_text_of_value" 1 ["text"] _ := ⟨f_text_of_value, fd_text_of_value, ok_text_of_value F_text_of_value T, m_text_of_value, F_text_of_value.kp, b_text_of_value⟩
  have D_name_text : Dfn l.prog w K mg base "name_text" 6 ["name"] _ := ⟨f_name_text, fd_name_text, ok_name_text F_name_text D_is_name D_text_of_value, m_name_text, F_name_text.kp, b_name_text⟩
  have D_behind_blanks : Dfn l.prog w K mg base "_behind_blanks" 1 ["text", "at"] _ := ⟨f_behind_blanks, fd_behind_blanks, ok_behind_blanks F_behind_blanks T, m_behind_blanks, F_behind_blanks.kp, b_behind_blanks⟩
  have D_read_word : Dfn l.prog w K mg base "_read_word" 3 ["text", "at"] _ := ⟨f_read_word, fd_read_word, ok_read_word F_read_word T D_behind_blanks D_is_word, m_read_word, F_read_word.kp, b_read_word⟩
  have D_read_sign : Dfn l.prog w K mg base "_read_sign" 1 ["text", "at"] _ := ⟨f_read_sign, fd_read_sign, ok_read_sign F_read_sign T, m_read_sign, F_read_sign.kp, b_read_sign⟩
  have D_read_value : Dfn l.prog w K mg base "_read_value" 2 ["text", "at"] _ := ⟨f_read_value, fd_read_value, ok_read_value F_read_value T D_behind_blanks D_read_sign, m_read_value, F_read_value.kp, b_read_value⟩
  have D_read_name : Dfn l.prog w K mg base "read_name" 4 ["text"] _ := ⟨f_read_name, fd_read_name, ok_read_name F_read_name T D_are_signs D_read_word D_read_value, m_read_name, F_read_name.kp, b_read_name⟩
  have D_law_dice : Dfn l.prog w K mg base "_law_dice" 1 ["_law_script", "_law_at"] _ := ⟨f_law_dice, fd_law_dice, ok_law_dice F_law_dice T, m_law_dice, F_law_dice.kp, b_law_dice⟩
  have D_law_roll : Dfn l.prog w K mg base "_law_roll" 1 ["_law_dice_here", "_law_total"] _ := ⟨f_law_roll, fd_law_roll, ok_law_roll F_law_roll T, m_law_roll, F_law_roll.kp, b_law_roll⟩
  have D_law_one_of : Dfn l.prog w K mg base "_law_one_of" 2 ["_law_dice_here", "_law_items"] _ := ⟨f_law_one_of, fd_law_one_of, ok_law_one_of F_law_one_of T D_law_roll, m_law_one_of, F_law_one_of.kp, b_law_one_of⟩
  have D_law_name_pair : Dfn l.prog w K mg base "_law_name_pair" 3 ["_law_dice_here"] _ := ⟨f_law_name_pair, fd_law_name_pair, ok_law_name_pair F_law_name_pair T D_law_one_of, m_law_name_pair, F_law_name_pair.kp, b_law_name_pair⟩
  have D_law_some_name : Dfn l.prog w K mg base "_law_some_name" 4 ["_law_dice_here", "_law_most"] _ := ⟨f_law_some_name, fd_law_some_name, ok_law_some_name F_law_some_name T D_law_roll D_law_name_pair, m_law_some_name, F_law_some_name.kp, b_law_some_name⟩
  have D_law_escaped : Dfn l.prog w K mg base "_law_escaped" 1 ["_law_text"] _ := ⟨f_law_escaped, fd_law_escaped, ok_law_escaped F_law_escaped T, m_law_escaped, F_law_escaped.kp, b_law_escaped⟩
  have D_law_written : Dfn l.prog w K mg base "_law_written" 2 ["_law_name"] _ := ⟨f_law_written, fd_law_written, ok_law_written F_law_written D_law_escaped, m_law_written, F_law_written.kp, b_law_written⟩
  have D_law_otherwise : Dfn l.prog w K mg base "_law_otherwise" 2 ["_law_dice_here", "_law_name"] _ := ⟨f_law_otherwise, fd_law_otherwise, ok_law_otherwise F_law_otherwise T D_law_roll, m_law_otherwise, F_law_otherwise.kp, b_law_otherwise⟩
  have D_law_right : Dfn l.prog w K mg base "_law_right" 7 ["_law_dice_here"] _ := ⟨f_law_right, fd_law_right, ok_law_right F_law_right T D_law_some_name D_name_text D_law_written D_read_name D_is_name D_law_otherwise, m_law_right, F_law_right.kp, b_law_right⟩
  exact ok_law F_law T D_law_dice D_law_right D_name_text D_read_name
/-- the law's walk, with what the loose names of the top hold -/
theorem walk {ll : PySem.W.OpenLaw} {qq : Program} {ls : List Str} {XQ : (Str → Option Value) → Heap → Prop} {YQ : World → Heap → Prop} {dd : DefRec} {KK : Params → PySem.W.Frag} (hmost : ll.most = some 63) (hdef : dd.params.defaults = [])
    (hroom : Room 8 callerA) (hin : ∀ (u : World) (hh : Heap), YQ u hh → (KK u.params).In hh)
    (FF : ∀ (u : World) (nm : Str → Option Value) (ff : Addr) (hh : Heap), XQ nm hh → (KK u.params).In hh → hh.Ns mainGlobals nm → nm dd.name = some (.ref ff) →
      ∃ fu : FuncData, (∀ (sh : Shared) (vv : Value), BindsTo sh fu ⟨[vv], []⟩ [("_law_script", vv)]) ∧ ∀ bb : Heap, (KK u.params).In bb → bb.Ns mainGlobals nm → FnOk ll.prog u (KK u.params) nm bb CX0 8 ff fu ["_law_script"] (spLaw (KK u.params))) :
    PySem.W.WalkO qq ls XQ YQ ll.row.toRowW dd [] (fun f vs => PySem.call f vs) :=
  Att.attach_call hmost hdef fun u _ sb nm _ ff _ _ _ _ aa _ nn GG YY _ _ _ hnm hob hin2 hle hgn => by
    have inK := hin u _ YY
    obtain ⟨fu, hbi, hfn⟩ := FF u nm ff _ GG.X inK GG.T.g hnm
    exact law_call inK GG.T.g GG.T.b GG.T.builtins GG.T.nolimit hgn hob hin2 (Nat.le_trans hle (by decide)) hroom hfn hbi (fun HH _ hsq => ⟨aa, nn, rfl, hsq, hle, fun _ => rfl⟩) fun _ _ _ z => z
end Bw
open PySem PySem.W PyProof.Rows in
set_option maxRecDepth 100000 in
set_option maxHeartbeats 0 in
theorem PySem.Challenge.cw_bailiwick_k03_whole_names_written_and_re_holds : PySem.Challenge.rw_bailiwick_k03_whole_names_written_and_re.Holds := by
  w_on; o_law; k_head; (case hw => w_witness2)
  k_fill
  refine Bw.walk (ll := PySem.Challenge.rw_bailiwick_k03_whole_names_written_and_re) rfl rfl ⟨rfl, by decide, by decide⟩ (fun w h Y => PySem.W.kIn_of Y) ?F
  case F =>
    intro w mg fa h XP KX G hmg
    refine' Bw.all_mk (Bw.txtMk KX G ?zlen ?zint ?zabs ?zmax ?zmin ?zrange ?zisinstance ?ztuple ?zenumerate ?zall ?zstr ?x1 ?x2 ?x3 ?x4 ?x5) hmg ?d_are_signs ?d_is_text ?d_is_word ?d_is_pair ?d_are_pairs ?d_is_name ?d_text_of_value ?d_name_text ?d_behind_blanks ?d_read_word ?d_read_sign ?d_read_value ?d_read_name ?d_law_dice ?d_law_roll ?d_law_one_of ?d_law_name_pair ?d_law_some_name ?d_law_escaped ?d_law_written ?d_law_otherwise ?d_law_right ?d_law
    (case zlen => k_is)
    (case zint => k_is)
    (case zabs => k_is)
    (case zmax => k_is)
    (case zmin => k_is)
    (case zrange => k_is)
    (case zisinstance => k_is)
    (case ztuple => k_is)
    (case zenumerate => k_is)
    (case zall => k_is)
    (case zstr => k_is)
    (case x1 => k_is)
    (case x2 => k_is)
    (case x3 => k_is)
    (case x4 => k_is)
    (case x5 => k_is)
    (case d_are_signs => (refine' Bw.defAt KX G ?at_ ?lk ?cc ?kk; (case at_ => k_is); (case lk => k_is); (case cc => k_is); (case kk => k_is)))
    (case d_is_text => (refine' Bw.defAt KX G ?at_ ?lk ?cc ?kk; (case at_ => k_is); (case lk => k_is); (case cc => k_is); (case kk => k_is)))
    (case d_is_word => (refine' Bw.defAt KX G ?at_ ?lk ?cc ?kk; (case at_ => k_is); (case lk => k_is); (case cc => k_is); (case kk => k_is)))
    (case d_is_pair => (refine' Bw.defAt KX G ?at_ ?lk ?cc ?kk; (case at_ => k_is); (case lk => k_is); (case cc => k_is); (case kk => k_is)))
    (case d_are_pairs => (refine' Bw.defAt KX G ?at_ ?lk ?cc ?kk; (case at_ => k_is); (case lk => k_is); (case cc => k_is); (case kk => k_is)))
    (case d_is_name => (refine' Bw.defAt KX G ?at_ ?lk ?cc ?kk; (case at_ => k_is); (case lk => k_is); (case cc => k_is); (case kk => k_is)))
    (case d_text_of_value => (refine' Bw.defAt KX G ?at_ ?lk ?cc ?kk; (case at_ => k_is); (case lk => k_is); (case cc => k_is); (case kk => k_is)))
    (case d_name_text => (refine' Bw.defAt KX G ?at_ ?lk ?cc ?kk; (case at_ => k_is); (case lk => k_is); (case cc => k_is); (case kk => k_is)))
    (case d_behind_blanks => (refine' Bw.defAt KX G ?at_ ?lk ?cc ?kk; (case at_ => k_is); (case lk => k_is); (case cc => k_is); (case kk => k_is)))
    (case d_read_word => (refine' Bw.defAt KX G ?at_ ?lk ?cc ?kk; (case at_ => k_is); (case lk => k_is); (case cc => k_is); (case kk => k_is)))
    (case d_read_sign => (refine' Bw.defAt KX G ?at_ ?lk ?cc ?kk; (case at_ => k_is); (case lk => k_is); (case cc => k_is); (case kk => k_is)))
    (case d_read_value => (refine' Bw.defAt KX G ?at_ ?lk ?cc ?kk; (case at_ => k_is); (case lk => k_is); (case cc => k_is); (case kk => k_is)))
    (case d_read_name => (refine' Bw.defAt KX G ?at_ ?lk ?cc ?kk; (case at_ => k_is); (case lk => k_is); (case cc => k_is); (case kk => k_is)))
    (case d_law_dice => (refine' Bw.defAt KX G ?at_ ?lk ?cc ?kk; (case at_ => k_is); (case lk => k_is); (case cc => k_is); (case kk => k_is)))
    (case d_law_roll => (refine' Bw.defAt KX G ?at_ ?lk ?cc ?kk; (case at_ => k_is); (case lk => k_is); (case cc => k_is); (case kk => k_is)))
    (case d_law_one_of => (refine' Bw.defAt KX G ?at_ ?lk ?cc ?kk; (case at_ => k_is); (case lk => k_is); (case cc => k_is); (case kk => k_is)))
    (case d_law_name_pair => (refine' Bw.defAt KX G ?at_ ?lk ?cc ?kk; (case at_ => k_is); (case lk => k_is); (case cc => k_is); (case kk => k_is)))
    (case d_law_some_name => (refine' Bw.defAt KX G ?at_ ?lk ?cc ?kk; (case at_ => k_is); (case lk => k_is); (case cc => k_is); (case kk => k_is)))
    (case d_law_escaped => (refine' Bw.defAt KX G ?at_ ?lk ?cc ?kk; (case at_ => k_is); (case lk => k_is); (case cc => k_is); (case kk => k_is)))
    (case d_law_written => (refine' Bw.defAt KX G ?at_ ?lk ?cc ?kk; (case at_ => k_is); (case lk => k_is); (case cc => k_is); (case kk => k_is)))
    (case d_law_otherwise => (refine' Bw.defAt KX G ?at_ ?lk ?cc ?kk; (case at_ => k_is); (case lk => k_is); (case cc => k_is); (case kk => k_is)))
    (case d_law_right => (refine' Bw.defAt KX G ?at_ ?lk ?cc ?kk; (case at_ => k_is); (case lk => k_is); (case cc => k_is); (case kk => k_is)))
    (case d_law => (refine' Bw.defAt KX G ?at_ ?lk ?cc ?kk; (case at_ => k_is); (case lk => k_is); (case cc => k_is); (case kk => k_is)))
