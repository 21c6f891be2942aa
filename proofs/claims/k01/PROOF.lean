import PyProof.Rows.All
import Wide.All
import OpenK.AllK
import Wide.FinOn
import HandS.Text
import HandS.ForMost
import HandS.IsInst
import HandS.StrMore
import HandS.Style
import HandS.RaiseMore
import HandS.Wide
import HandS.TupLe
import HandS.Walk
import KE.GoesMore
import HandS.Replace
import HandS.ReplaceLit
import HandS.ReplaceList
import PyProof.StrLawsFrom
import KE.KRevSl
import HandS.TupMul
import PySem.Challenge.RW_bailiwick_k01_whole_patterns_against_all
set_option Elab.async false
set_option linter.all false
set_option maxRecDepth 100000
set_option maxHeartbeats 4000000
namespace Bw
open PySem L2 TL PyProof.Rows

/-! ### signs -/
def Sgn (l : List Nat) : Prop := ∀ c ∈ l, 32 ≤ c ∧ c ≤ 126
theorem Sgn.lt {l : List Nat} (h : Sgn l) : ∀ c ∈ l, c < 128 := fun c hc => by have := h c hc; omega
theorem Sgn.app {l m : List Nat} (h : Sgn l) (k : Sgn m) : Sgn (l ++ m) := fun c hc => by
  rcases List.mem_append.mp hc with q | q
  · exact h c q
  · exact k c q
theorem Sgn.nil : Sgn [] := fun c hc => absurd hc (by simp)
theorem Sgn.cons {c : Nat} {l : List Nat} (h : Sgn (c :: l)) : (32 ≤ c ∧ c ≤ 126) ∧ Sgn l := ⟨h c (List.mem_cons_self ..), fun d hd => h d (List.mem_cons_of_mem _ hd)⟩
theorem Sgn.mk {c : Nat} {l : List Nat} (h1 : 32 ≤ c ∧ c ≤ 126) (h : Sgn l) : Sgn (c :: l) := fun d hd => by
  rcases List.mem_cons.mp hd with rfl | q
  · exact h1
  · exact h d q
theorem Sgn.rep {n c : Nat} (h : 32 ≤ c ∧ c ≤ 126) : Sgn (List.replicate n c) := fun d hd => by
  rw [List.eq_of_mem_replicate hd]
  exact h
theorem space_sgn : ∀ c, c < 128 → 32 ≤ c → Unicode.isSpace c = decide (c = 32) := by decide +kernel
theorem print_sgn : ∀ c, c < 128 → Unicode.isPrintable c = decide (32 ≤ c ∧ c ≤ 126) := by decide +kernel
theorem digit_sgn : ∀ c, c < 128 → Unicode.isDigit c = decide (48 ≤ c ∧ c ≤ 57) := by decide +kernel
theorem Sgn.sp {l : List Nat} (h : Sgn l) {c : Nat} (hc : c ∈ l) : Unicode.isSpace c = decide (c = 32) := space_sgn c (h.lt c hc) (h c hc).1
theorem signs_iff (x : Str) : (Txt.isascii x && Txt.isprintable x) = true ↔ Sgn (tl x) := by
  unfold Txt.isascii Txt.isprintable
  rw [Bool.and_eq_true, ← Array.all_toList, ← Array.all_toList, List.all_eq_true, List.all_eq_true]
  constructor
  · rintro ⟨h1, h2⟩ c hc
    have a : c < 128 := of_decide_eq_true (h1 c hc)
    have b := h2 c hc
    rw [print_sgn c a] at b
    exact of_decide_eq_true b
  · intro h
    refine ⟨fun c hc => decide_eq_true (h.lt c hc), fun c hc => ?_⟩
    rw [print_sgn c (h.lt c hc)]
    exact decide_eq_true (h c hc)
theorem lo1_sgn {c : Nat} (h : 32 ≤ c ∧ c ≤ 126) : 32 ≤ lo1 c ∧ lo1 c ≤ 126 := by
  unfold lo1
  split <;> omega
theorem up1_sgn {c : Nat} (h : 32 ≤ c ∧ c ≤ 126) : 32 ≤ up1 c ∧ up1 c ≤ 126 := by
  unfold up1
  split <;> omega
theorem lo1_32 {c : Nat} (h : 32 ≤ c ∧ c ≤ 126) : lo1 c = 32 ↔ c = 32 := by
  unfold lo1
  split <;> omega
theorem lo1_lo1 (c : Nat) : lo1 (lo1 c) = lo1 c := by
  unfold lo1
  split <;> (try split) <;> omega
theorem lo1_up1 (c : Nat) : lo1 (up1 c) = lo1 c := by
  unfold lo1 up1
  split <;> split <;> (try split) <;> omega
theorem Sgn.low {l : List Nat} (h : Sgn l) : Sgn (l.map lo1) := fun c hc => by
  obtain ⟨d, hd, rfl⟩ := List.mem_map.mp hc
  exact lo1_sgn (h d hd)
theorem tl_lower {x : Str} (h : Sgn (tl x)) : tl (Txt.lower x) = (tl x).map lo1 := by
  rw [lower_ascii h.lt]
  show (x.cps.map lo1).toList = _
  rw [Array.toList_map]
theorem tl_upper {x : Str} (h : Sgn (tl x)) : tl (Txt.upper x) = (tl x).map up1 := by
  rw [upper_ascii h.lt]
  show (x.cps.map up1).toList = _
  rw [Array.toList_map]

/-! ### words -/
def wordsL (l : List Nat) : List (List Nat) := wfin (l.foldl wstep ([], []))
def normL (l : List Nat) : List Nat := joinL [32] (wordsL (l.map lo1))
theorem wstep_sp {st : List (List Nat) × List Nat} : wstep st 32 = if st.2 = [] then st else (st.1 ++ [st.2], []) := by
  unfold wstep
  rw [if_pos (show Unicode.isSpace 32 = true by decide +kernel)]
theorem wstep_ne {st : List (List Nat) × List Nat} {c : Nat} (h : 32 ≤ c ∧ c ≤ 126) (hc : c ≠ 32) : wstep st c = (st.1, st.2 ++ [c]) := by
  unfold wstep
  rw [space_sgn c (by omega) h.1, decide_eq_false hc]
  exact if_neg (by simp)
/-- the parts between blanks, the empty ones left out -/
theorem filter_spl : ∀ (l acc : List Nat) (ws : List (List Nat)), Sgn l → ws ++ (spl [32] 0 acc l).filter (fun p => !p.isEmpty) = wfin (l.foldl wstep (ws, acc))
  | [], acc, ws, _ => by
    rw [spl_nil]
    show _ = if acc = [] then ws else ws ++ [acc]
    cases acc with
    | nil => simp
    | cons a r => simp
  | c :: r, acc, ws, h => by
    obtain ⟨hc, hr⟩ := h.cons
    rw [List.foldl_cons]
    by_cases e : c = 32
    · subst e
      rw [spl_hit (S := [32]) (acc := acc) (r := r) (c := 32) (by unfold pre; simp), wstep_sp]
      show ws ++ List.filter _ (acc :: spl [32] 0 [] r) = _
      cases acc with
      | nil =>
        rw [if_pos rfl, List.filter_cons_of_neg (by simp)]
        exact filter_spl r [] ws hr
      | cons a q =>
        rw [if_neg (by simp), List.filter_cons_of_pos (by simp)]
        have := filter_spl r [] (ws ++ [a :: q]) hr
        rw [← this, List.append_assoc]
        rfl
    · rw [spl_miss (pre_of_head [] r e), wstep_ne hc e]
      exact filter_spl r (acc ++ [c]) ws hr
theorem low_wstep {st : List (List Nat) × List Nat} {c : Nat} (h : 32 ≤ c ∧ c ≤ 126) :
    wstep (st.1.map (·.map lo1), st.2.map lo1) (lo1 c) = ((wstep st c).1.map (·.map lo1), (wstep st c).2.map lo1) := by
  by_cases e : c = 32
  · subst e
    rw [show lo1 32 = 32 from rfl, wstep_sp, wstep_sp]
    obtain ⟨ws, u⟩ := st
    cases u with
    | nil => simp
    | cons a r => simp
  · rw [wstep_ne h e, wstep_ne (lo1_sgn h) (fun q => e ((lo1_32 h).mp q))]
    simp
theorem low_fold : ∀ (l : List Nat) (st : List (List Nat) × List Nat), Sgn l →
    (l.map lo1).foldl wstep (st.1.map (·.map lo1), st.2.map lo1) = ((l.foldl wstep st).1.map (·.map lo1), (l.foldl wstep st).2.map lo1)
  | [], _, _ => rfl
  | c :: r, st, h => by
    rw [List.map_cons, List.foldl_cons, List.foldl_cons, low_wstep h.cons.1, low_fold r _ h.cons.2]
theorem low_wfin (st : List (List Nat) × List Nat) : wfin (st.1.map (·.map lo1), st.2.map lo1) = (wfin st).map (·.map lo1) := by
  obtain ⟨ws, u⟩ := st
  unfold wfin
  cases u <;> simp
theorem wordsL_low {l : List Nat} (h : Sgn l) : wordsL (l.map lo1) = (wordsL l).map (·.map lo1) := by
  unfold wordsL
  have e := low_fold l ([], []) h
  have e2 : (l.map lo1).foldl wstep ([], []) = _ := e
  rw [e2, low_wfin]
theorem joinL_map : ∀ ps : List (List Nat), joinL [32] (ps.map (·.map lo1)) = (joinL [32] ps).map lo1
  | [] => rfl
  | [p] => rfl
  | p :: q :: r => by
    show p.map lo1 ++ ([32] ++ joinL [32] ((q :: r).map (·.map lo1))) = (p ++ ([32] ++ joinL [32] (q :: r))).map lo1
    rw [joinL_map (q :: r), List.map_append, List.map_append]
    rfl
theorem normL_eq {l : List Nat} (h : Sgn l) : normL l = (joinL [32] (wordsL l)).map lo1 := by
  unfold normL
  rw [wordsL_low h, joinL_map]
/-! words are no blanks, and made of the signs -/
def Wd (P : Nat → Prop) (ws : List (List Nat)) : Prop := ∀ p ∈ ws, p ≠ [] ∧ ∀ c ∈ p, c ≠ 32 ∧ P c
theorem wfold_wd {P : Nat → Prop} : ∀ (l : List Nat) (st : List (List Nat) × List Nat), Sgn l → (∀ c ∈ l, P c) → Wd P st.1 → (∀ c ∈ st.2, c ≠ 32 ∧ P c) →
    Wd P (l.foldl wstep st).1 ∧ ∀ c ∈ (l.foldl wstep st).2, c ≠ 32 ∧ P c
  | [], _, _, _, h1, h2 => ⟨h1, h2⟩
  | c :: r, st, h, hp, h1, h2 => by
    rw [List.foldl_cons]
    have hr : ∀ d ∈ r, P d := fun d hd => hp d (List.mem_cons_of_mem _ hd)
    by_cases e : c = 32
    · subst e
      rw [wstep_sp]
      by_cases e2 : st.2 = []
      · rw [if_pos e2]
        exact wfold_wd r st h.cons.2 hr h1 h2
      · rw [if_neg e2]
        refine wfold_wd r _ h.cons.2 hr (fun p hq => ?_) (fun d hd => absurd hd (by simp))
        rcases List.mem_append.mp hq with q | q
        · exact h1 p q
        · rw [List.mem_singleton.mp q]
          exact ⟨e2, h2⟩
    · rw [wstep_ne h.cons.1 e]
      refine wfold_wd r _ h.cons.2 hr h1 (fun d hd => ?_)
      rcases List.mem_append.mp hd with q | q
      · exact h2 d q
      · rw [List.mem_singleton.mp q]
        exact ⟨e, hp c (List.mem_cons_self ..)⟩
theorem wordsL_wd {P : Nat → Prop} {l : List Nat} (h : Sgn l) (hp : ∀ c ∈ l, P c) : Wd P (wordsL l) := by
  obtain ⟨h1, h2⟩ := wfold_wd (P := P) l ([], []) h hp (fun p hq => absurd hq (by simp)) (fun d hd => absurd hd (by simp))
  unfold wordsL wfin
  split
  · exact h1
  · rename_i e2
    intro p hq
    rcases List.mem_append.mp hq with q | q
    · exact h1 p q
    · rw [List.mem_singleton.mp q]
      exact ⟨e2, h2⟩
theorem mem_joinL {P : Nat → Prop} (h32 : P 32) : ∀ {ps : List (List Nat)}, (∀ p ∈ ps, ∀ c ∈ p, P c) → ∀ c ∈ joinL [32] ps, P c
  | [], _, c, hc => absurd hc (by simp [joinL])
  | [p], h, c, hc => h p (List.mem_singleton.mpr rfl) c hc
  | p :: q :: r, h, c, hc => by
    have hc' : c ∈ p ++ ([32] ++ joinL [32] (q :: r)) := hc
    rcases List.mem_append.mp hc' with a | a
    · exact h p (List.mem_cons_self ..) c a
    · rcases List.mem_append.mp a with b | b
      · rw [List.mem_singleton.mp b]
        exact h32
      · exact mem_joinL h32 (fun p' hp' => h p' (List.mem_cons_of_mem _ hp')) c b
theorem joined_sgn {l : List Nat} (h : Sgn l) : Sgn (joinL [32] (wordsL l)) := fun c hc =>
  mem_joinL (P := fun c => 32 ≤ c ∧ c ≤ 126) (by omega) (fun p hp d hd => ((wordsL_wd (P := fun c => 32 ≤ c ∧ c ≤ 126) h h) p hp).2 d hd |>.2) c hc
theorem normL_sgn {l : List Nat} (h : Sgn l) : Sgn (normL l) := by
  unfold normL
  exact joined_sgn h.low
theorem wordsL_join {ps : List (List Nat)} (h : Wd (fun c => 32 ≤ c ∧ c ≤ 126) ps) : wordsL (joinL [32] ps) = ps := by
  cases ps with
  | nil => rfl
  | cons p r =>
    unfold wordsL
    rw [wfold_join (p :: r) [] (by simp) fun q hq => ⟨(h q hq).1, fun c hc => by
      obtain ⟨h1, h2⟩ := (h q hq).2 c hc
      rw [space_sgn c (by omega) h2.1]
      exact decide_eq_false h1⟩]
    rfl
theorem map_lo_id : ∀ {l : List Nat}, (∀ c ∈ l, lo1 c = c) → l.map lo1 = l
  | [], _ => rfl
  | c :: r, h => by
    rw [List.map_cons, h c (List.mem_cons_self ..), map_lo_id fun d hd => h d (List.mem_cons_of_mem _ hd)]
theorem normL_norm {l : List Nat} (h : Sgn l) : normL (normL l) = normL l := by
  have hw := wordsL_wd (P := fun c => (32 ≤ c ∧ c ≤ 126) ∧ lo1 c = c) h.low (fun c hc => ⟨h.low c hc, by
    obtain ⟨d, _, rfl⟩ := List.mem_map.mp hc
    exact lo1_lo1 d⟩)
  have e : (normL l).map lo1 = normL l := map_lo_id (mem_joinL (P := fun c => lo1 c = c) rfl fun p hp c hc => ((hw p hp).2 c hc).2.2)
  show joinL [32] (wordsL ((normL l).map lo1)) = normL l
  rw [e]
  unfold normL
  rw [wordsL_join fun p hp => ⟨(hw p hp).1, fun c hc => ⟨((hw p hp).2 c hc).1, ((hw p hp).2 c hc).2.1⟩⟩]
/-! lengths -/
def wsum (ws : List (List Nat)) : Nat := (ws.map fun p => p.length + 1).sum
theorem wsum_app (ws : List (List Nat)) (p : List Nat) : wsum (ws ++ [p]) = wsum ws + (p.length + 1) := by
  unfold wsum
  rw [List.map_append, List.sum_append]
  simp
theorem wfold_len : ∀ (l : List Nat) (st : List (List Nat) × List Nat), wsum (l.foldl wstep st).1 + (l.foldl wstep st).2.length ≤ wsum st.1 + st.2.length + l.length
  | [], _ => Nat.le_refl _
  | c :: r, st => by
    rw [List.foldl_cons]
    refine Nat.le_trans (wfold_len r (wstep st c)) ?_
    have : wsum (wstep st c).1 + (wstep st c).2.length ≤ wsum st.1 + st.2.length + 1 := by
      unfold wstep
      split
      · split
        · omega
        · show wsum (st.1 ++ [st.2]) + 0 ≤ _
          rw [wsum_app]
          omega
      · show wsum st.1 + (st.2 ++ [c]).length ≤ _
        rw [List.length_append, List.length_singleton]
        omega
    rw [List.length_cons]
    omega
theorem joinL_len : ∀ ps : List (List Nat), (joinL [32] ps).length ≤ wsum ps - 1
  | [] => Nat.le_refl _
  | [p] => by
    show p.length ≤ (p.length + 1 + 0) - 1
    omega
  | p :: q :: r => by
    show (p ++ ([32] ++ joinL [32] (q :: r))).length ≤ _
    have h := joinL_len (q :: r)
    have e : wsum (p :: q :: r) = (p.length + 1) + wsum (q :: r) := by unfold wsum; simp
    have e2 : 1 ≤ wsum (q :: r) := by unfold wsum; simp; omega
    rw [e, List.length_append, List.length_append, List.length_singleton]
    omega
theorem words_len (l : List Nat) : (joinL [32] (wordsL l)).length ≤ l.length := by
  have h := wfold_len l ([], [])
  have h0 : wsum ([] : List (List Nat)) = 0 := rfl
  have hj := joinL_len (wordsL l)
  unfold wordsL wfin at hj ⊢
  simp only [h0, List.length_nil] at h
  split
  · rename_i e
    rw [if_pos e] at hj
    omega
  · rename_i e
    rw [if_neg e, wsum_app] at hj
    have : 0 < (l.foldl wstep ([], [])).2.length := List.length_pos_iff.mpr e
    omega
theorem normL_len (l : List Nat) : (normL l).length ≤ l.length := by
  unfold normL
  refine Nat.le_trans (words_len _) ?_
  rw [List.length_map]
  exact Nat.le_refl _
theorem wordsL_count (l : List Nat) : (wordsL l).length ≤ l.length + 1 := by
  have h := wfold_len l ([], [])
  have h0 : wsum ([] : List (List Nat)) = 0 := rfl
  have hl : ∀ ws : List (List Nat), ws.length ≤ wsum ws := fun ws => by
    induction ws with
    | nil => exact Nat.zero_le _
    | cons p r ih =>
      have e : wsum (p :: r) = (p.length + 1) + wsum r := by unfold wsum; simp
      rw [e, List.length_cons]
      omega
  have h1 := hl (l.foldl wstep ([], [])).1
  simp only [h0, List.length_nil] at h
  unfold wordsL wfin
  split
  · omega
  · rw [List.length_append, List.length_singleton]
    omega
/-! the blown text -/
theorem fold_sp : ∀ (n : Nat) (ws : List (List Nat)), (List.replicate n 32).foldl wstep (ws, []) = (ws, [])
  | 0, _ => rfl
  | n + 1, ws => by
    rw [List.replicate_succ, List.foldl_cons, wstep_sp, if_pos rfl]
    exact fold_sp n ws
theorem fold_sp2 (n : Nat) (st : List (List Nat) × List Nat) : (List.replicate n 32).foldl wstep (wstep st 32) = wstep st 32 := by
  rw [wstep_sp]
  split
  · rename_i e
    obtain ⟨ws, u⟩ := st
    simp only at e
    subst e
    exact fold_sp n ws
  · exact fold_sp n _
theorem wfin_sp (n : Nat) (st : List (List Nat) × List Nat) : wfin ((List.replicate n 32).foldl wstep st) = wfin st := by
  cases n with
  | zero => rfl
  | succ n =>
    rw [List.replicate_succ, List.foldl_cons, fold_sp2, wstep_sp]
    obtain ⟨ws, u⟩ := st
    cases u with
    | nil => rfl
    | cons a r => simp [wfin]
theorem map_rep_sp (n : Nat) : (List.replicate n 32).map lo1 = List.replicate n 32 := by
  rw [List.map_replicate]
  rfl
end Bw

namespace Bw
open PySem L2 TL PyProof.Rows
open NumText (AllDigits digitsVal)

/-! ### numbers -/
def Dg (l : List Nat) : Prop := l ≠ [] ∧ AllDigits l
instance (l : List Nat) : Decidable (AllDigits l) := by unfold NumText.AllDigits; infer_instance
/-- digits without needless zeros -/
def plainD (l : List Nat) : Bool := decide (l ≠ []) && decide (AllDigits l) && (decide (l = [48]) || decide (l.head? ≠ some 48))
theorem plainD_iff {l : List Nat} : plainD l = true ↔ l ≠ [] ∧ AllDigits l ∧ (l = [48] ∨ l.head? ≠ some 48) := by
  unfold plainD
  simp only [Bool.and_eq_true, Bool.or_eq_true, decide_eq_true_eq, and_assoc]
theorem ofNat_toNat {c : Nat} (h : 48 ≤ c ∧ c ≤ 57) : (Char.ofNat c).toNat = c := by
  have : ∀ d, d ≤ 57 → 48 ≤ d → (Char.ofNat d).toNat = d := by decide
  exact this c h.2 h.1
theorem map_back : ∀ {l : List Nat}, AllDigits l → (l.map Char.ofNat).map Char.toNat = l
  | [], _ => rfl
  | c :: r, h => by
    rw [List.map_cons, List.map_cons, ofNat_toNat h.head, map_back h.tail]
theorem numL_all {l : List Nat} (h : AllDigits l) : numL (digitsVal l) = (match l.dropWhile (· == 48) with
    | [] => [48]
    | c :: r => c :: r) := by
  unfold numL
  rw [NumText.toDigits_all l h]
  have hd : AllDigits (l.dropWhile (· == 48)) := fun c hc => h c ((List.dropWhile_sublist _).subset hc)
  generalize l.dropWhile (· == 48) = m at hd ⊢
  cases m with
  | nil => rfl
  | cons c r => exact map_back hd
theorem numL_plain {l : List Nat} (h : AllDigits l) (hne : l ≠ []) : numL (digitsVal l) = l ↔ (l = [48] ∨ l.head? ≠ some 48) := by
  rw [numL_all h]
  cases l with
  | nil => exact absurd rfl hne
  | cons c r =>
    by_cases e : c = 48
    · subst e
      rw [List.dropWhile_cons_of_pos (by decide)]
      constructor
      · intro q
        left
        cases e2 : r.dropWhile (· == 48) with
        | nil =>
          rw [e2] at q
          exact q.symm
        | cons d m =>
          rw [e2] at q
          have q : d :: m = 48 :: r := q
          have hd : (fun x => x == 48) d = false := by
            have := List.head?_dropWhile_not (fun x : Nat => x == 48) r
            rw [e2] at this
            simpa using this
          have : d = 48 := by injection q
          rw [this] at hd
          exact absurd hd (by decide)
      · intro q
        rcases q with q | q
        · have : r = [] := by injection q
          rw [this]
          rfl
        · exact absurd rfl q
    · rw [List.dropWhile_cons_of_neg (by rw [beq_iff_eq]; exact e)]
      refine ⟨fun _ => .inr fun q => e (Option.some.inj q), fun _ => rfl⟩
theorem digitsVal_lt {l : List Nat} (h : AllDigits l) : digitsVal l < 10 ^ l.length := by
  have : ∀ (l : List Nat) (a : Nat), AllDigits l → l.foldl (fun acc c => acc * 10 + (c - 48)) a < (a + 1) * 10 ^ l.length := by
    intro l
    induction l with
    | nil => intro a _; simp
    | cons c r ih =>
      intro a h
      rw [List.foldl_cons, List.length_cons]
      refine Nat.lt_of_lt_of_le (ih _ h.tail) ?_
      have hc := h.head
      rw [Nat.pow_succ]
      have e : (a * 10 + (c - 48) + 1) ≤ (a + 1) * 10 := by omega
      calc _ ≤ ((a + 1) * 10) * 10 ^ r.length := Nat.mul_le_mul_right _ e
        _ = _ := by rw [Nat.mul_assoc, Nat.mul_comm 10]
  have h2 := this l 0 h
  simpa [digitsVal] using h2
theorem log2_small {n : Nat} (h : n < 10 ^ 100) : n.log2 < 1920 := by
  by_cases h0 : n = 0
  · subst h0
    decide
  · rw [Nat.log2_lt h0]
    exact Nat.lt_trans h (by decide)
theorem log2_digits {l : List Nat} (h : AllDigits l) (hl : l.length ≤ 100) : (digitsVal l).log2 < 1920 :=
  log2_small (Nat.lt_of_lt_of_le (digitsVal_lt h) (Nat.pow_le_pow_right (by decide) hl))
/-- str of a negative number -/
theorem tl_neg (n : Nat) (h : 0 < n) : tl (Str.ofString (toString (-(n : Int)))) = 45 :: numL n := by
  cases n with
  | zero => exact absurd h (by decide)
  | succ m =>
    have e : (toString (-((m + 1 : Nat) : Int))) = "-" ++ toString (m + 1) := rfl
    have e2 : tl (Str.ofString (toString (m + 1))) = numL (m + 1) := tl_num (m + 1)
    rw [e, tl_ofString]
    rw [tl_ofString] at e2
    rw [String.toList_append, List.map_append, e2]
    rfl

/-! ### the program's own judge of numbers -/
def numPart (l : List Nat) : List Nat := if l.head? = some 45 then l.tail else l
def fitNum (l : List Nat) : Bool := plainD (numPart l) && decide (l ≠ [45, 48]) && decide ((digitsVal (numPart l) : Int) ≤ 10 ^ 15)
def fitLink (l : List Nat) : Bool := plainD l && decide (1 ≤ (digitsVal l : Int) ∧ (digitsVal l : Int) ≤ 10 ^ 12)
/-- the value of the text of a number -/
def numVal (l : List Nat) : Int := if l.head? = some 45 then -(digitsVal l.tail : Int) else digitsVal l
theorem int_of {x : Str} (h1 : numPart (tl x) ≠ []) (h2 : AllDigits (numPart (tl x))) (hl : x.length ≤ 100) : intText? x = some (numVal (tl x)) := by
  unfold numPart at h1 h2
  unfold numVal
  split
  · rename_i e
    rw [if_pos e] at h1 h2
    cases e2 : tl x with
    | nil => rw [e2] at h1; exact absurd rfl h1
    | cons c r =>
      rw [e2] at e h1 h2
      have : c = 45 := Option.some.inj e
      subst this
      exact intText_neg e2 h2 h1 (by omega)
  · rename_i e
    rw [if_neg e] at h1 h2
    exact intText_digits h2 h1 (by omega)
/-- what the law's own reader of whole numbers gives -/
def wholeV (l : List Nat) : Option Int := if plainD (numPart l) && decide (l ≠ [45, 48]) then some (numVal l) else none
theorem back_iff {x : Str} (h1 : numPart (tl x) ≠ []) (h2 : AllDigits (numPart (tl x))) :
    Str.ofString (toString (numVal (tl x))) = x ↔ (plainD (numPart (tl x)) && decide (tl x ≠ [45, 48])) = true := by
  rw [Bool.and_eq_true, decide_eq_true_eq, plainD_iff]
  have ex : Str.ofString (toString (numVal (tl x))) = x ↔ tl (Str.ofString (toString (numVal (tl x)))) = tl x := ⟨fun h => by rw [h], fun h => ext_tl h⟩
  rw [ex]
  unfold numPart at h1 h2 ⊢
  unfold numVal
  by_cases e : (tl x).head? = some 45
  · rw [if_pos e] at h1 h2 ⊢
    rw [if_pos e]
    cases e2 : tl x with
    | nil => rw [e2] at e; cases e
    | cons c r =>
      rw [e2] at e h1 h2
      have : c = 45 := Option.some.inj e
      subst this
      have h1 : r ≠ [] := h1
      have h2 : AllDigits r := h2
      show tl (Str.ofString (toString (-(digitsVal r : Int)))) = 45 :: r ↔ (r ≠ [] ∧ AllDigits r ∧ (r = [48] ∨ r.head? ≠ some 48)) ∧ 45 :: r ≠ [45, 48]
      by_cases z : digitsVal r = 0
      · rw [z]
        have e3 : tl (Str.ofString (toString (-((0 : Nat) : Int)))) = [48] := tl_num 0
        rw [e3]
        constructor
        · intro q
          injection q with q1 q2
          exact absurd q1 (by decide)
        · rintro ⟨⟨_, _, q⟩, q2⟩
          rcases q with q | q
          · rw [q] at q2
            exact absurd rfl q2
          · have := (numL_plain h2 h1).mpr (.inr q)
            rw [z] at this
            have z2 : numL 0 = [48] := rfl
            rw [z2] at this
            rw [← this] at q
            exact absurd rfl q
      · rw [tl_neg _ (by omega)]
        have np := numL_plain h2 h1
        constructor
        · intro q
          injection q with _ q2
          refine ⟨⟨h1, h2, np.mp q2⟩, fun q3 => ?_⟩
          have : r = [48] := by injection q3
          rw [this] at z
          exact z rfl
        · rintro ⟨⟨_, _, q⟩, _⟩
          rw [np.mpr q]
  · rw [if_neg e] at h1 h2 ⊢
    rw [if_neg e, tl_num, numL_plain h2 h1]
    refine ⟨fun q => ⟨⟨h1, h2, q⟩, fun q2 => ?_⟩, fun q => q.1.2.2⟩
    rw [q2] at e
    exact e rfl
/-- the law's bounds are the program's -/
theorem link_iff (l : List Nat) (h : Sgn l) : fitLink l = true ↔ ∃ n, wholeV l = some n ∧ 1 ≤ n ∧ n ≤ 10 ^ 12 := by
  unfold fitLink wholeV numPart numVal
  by_cases e : l.head? = some 45
  · rw [if_pos e, if_pos e]
    constructor
    · intro q
      rw [Bool.and_eq_true, plainD_iff] at q
      obtain ⟨⟨q1, q2, _⟩, _⟩ := q
      cases l with
      | nil => exact absurd rfl q1
      | cons c r =>
        have : c = 45 := Option.some.inj e
        subst this
        have := q2.head
        omega
    · rintro ⟨n, q, h1, _⟩
      split at q
      · have : -(digitsVal l.tail : Int) = n := Option.some.inj q
        omega
      · cases q
  · rw [if_neg e, if_neg e]
    constructor
    · intro q
      rw [Bool.and_eq_true, decide_eq_true_eq] at q
      have hz : l ≠ [45, 48] := fun z => by rw [z] at e; exact e rfl
      exact ⟨_, by rw [q.1, decide_eq_true hz]; rfl, q.2⟩
    · rintro ⟨n, q, h1, h2⟩
      split at q
      · rename_i q2
        rw [Bool.and_eq_true] at q2
        have : (digitsVal l : Int) = n := Option.some.inj q
        subst this
        rw [q2.1, decide_eq_true ⟨h1, h2⟩]
        rfl
      · cases q
theorem num_iff (l : List Nat) : fitNum l = true ↔ ∃ n, wholeV l = some n ∧ ((if n < 0 then -n else n) ≤ 10 ^ 15) := by
  unfold fitNum wholeV numVal numPart
  by_cases e : l.head? = some 45
  · rw [if_pos e, if_pos e]
    constructor
    · intro q
      rw [Bool.and_eq_true, decide_eq_true_eq] at q
      refine ⟨_, by rw [q.1]; rfl, ?_⟩
      split <;> omega
    · rintro ⟨n, q, h1⟩
      split at q
      · rename_i q2
        have : -(digitsVal l.tail : Int) = n := Option.some.inj q
        subst this
        rw [q2]
        refine decide_eq_true ?_
        split at h1 <;> omega
      · cases q
  · rw [if_neg e, if_neg e]
    constructor
    · intro q
      rw [Bool.and_eq_true, decide_eq_true_eq] at q
      refine ⟨_, by rw [q.1]; rfl, ?_⟩
      split <;> omega
    · rintro ⟨n, q, h1⟩
      split at q
      · rename_i q2
        have : (digitsVal l : Int) = n := Option.some.inj q
        subst this
        rw [q2]
        refine decide_eq_true ?_
        split at h1 <;> omega
      · cases q

/-! ### kinds -/
inductive Kd where | exact | flag | link | number | text
  deriving DecidableEq
def Kd.str : Kd → Str
  | .exact => "exact" | .flag => "flag" | .link => "link" | .number => "number" | .text => "text"
def kds : List Kd := [.exact, .flag, .link, .number, .text]
theorem kd_inj {a b : Kd} : a.str = b.str ↔ a = b := by
  refine ⟨fun h => ?_, fun h => by rw [h]⟩
  have : ∀ a b : Kd, decide (a.str = b.str) = decide (a = b) := by
    intro a b
    cases a <;> cases b <;> decide +kernel
  have e := this a b
  rw [decide_eq_true h] at e
  exact of_decide_eq_true e.symm
def normS (x : Str) : Str := Txt.join " " (Txt.words (Txt.lower x))
theorem tl_blank : tl (" " : Str) = [32] := by decide +kernel
theorem tl_normS {x : Str} (h : Sgn (tl x)) : tl (normS x) = normL (tl x) := by
  unfold normS normL wordsL
  rw [join_eq, tl_join, tl_blank, words_tl, tl_lower h]
def kform (k : Kd) (x : Str) : Option Str :=
  match k with
  | .exact => some x
  | .flag => if x = "yes" ∨ x = "no" then some x else none
  | .link => if fitLink (tl x) then some x else none
  | .number => if fitNum (tl x) then some x else none
  | .text => if normS x = "" then none else some (normS x)
def ov : Option Str → V
  | none => .non
  | some s => .str s
theorem ov_inj {a b : Option Str} : ov a = ov b ↔ a = b := by
  refine ⟨fun h => ?_, fun h => by rw [h]⟩
  cases a <;> cases b <;> simp [ov] at h ⊢
  exact h
/-- a text of the document -/
def IsTx (x : Str) : Prop := Sgn (tl x) ∧ x.length ≤ 100
theorem normS_tx {x : Str} (h : IsTx x) : IsTx (normS x) := by
  refine ⟨by rw [tl_normS h.1]; exact normL_sgn h.1, ?_⟩
  rw [len_tl, tl_normS h.1]
  have := normL_len (tl x)
  have e := len_tl x
  have := h.2
  omega
theorem normS_norm {x : Str} (h : IsTx x) : normS (normS x) = normS x := by
  refine ext_tl ?_
  rw [tl_normS (normS_tx h).1, tl_normS h.1, normL_norm h.1]
theorem kform_tx {k : Kd} {x d : Str} (h : IsTx x) (hx : x ≠ "") (e : kform k x = some d) : IsTx d ∧ d ≠ "" ∧ kform k d = some d := by
  cases k with
  | exact =>
    cases e
    exact ⟨h, hx, rfl⟩
  | flag =>
    have e' : (if x = "yes" ∨ x = "no" then some x else none) = some d := e
    split at e'
    · rename_i q
      cases e'
      exact ⟨h, hx, if_pos q⟩
    · cases e'
  | link =>
    have e' : (if fitLink (tl x) then some x else none) = some d := e
    split at e'
    · rename_i q
      cases e'
      exact ⟨h, hx, if_pos q⟩
    · cases e'
  | number =>
    have e' : (if fitNum (tl x) then some x else none) = some d := e
    split at e'
    · rename_i q
      cases e'
      exact ⟨h, hx, if_pos q⟩
    · cases e'
  | text =>
    have e' : (if normS x = "" then none else some (normS x)) = some d := e
    split at e'
    · cases e'
    · rename_i q
      cases e'
      refine ⟨normS_tx h, q, ?_⟩
      show (if normS (normS x) = "" then none else some (normS (normS x))) = _
      rw [normS_norm h, if_neg q]
end Bw

namespace Bw
open PySem PySem.Spec L2 TL PyProof.Rows

/-! ### rules that the layer lacks -/
def repS (x : Str) (n : Int) : Str := ⟨((List.replicate n.toNat (tl x)).flatten).toArray⟩
theorem tl_repS (x : Str) (n : Int) : tl (repS x n) = (List.replicate n.toNat (tl x)).flatten := rfl
theorem foldl_app (l : List (Array Nat)) : ∀ (a : Array Nat), (l.foldl (· ++ ·) a).toList = a.toList ++ (l.map Array.toList).flatten := by
  induction l with
  | nil => intro a; simp
  | cons b r ih =>
    intro a
    rw [List.foldl_cons, ih, Array.toList_append, List.map_cons, List.flatten_cons, List.append_assoc]
theorem repS_fold (x : Str) (n : Int) : (⟨(List.replicate n.toNat x.cps).foldl (· ++ ·) #[]⟩ : Str) = repS x n := by
  refine ext_tl ?_
  show ((List.replicate n.toNat x.cps).foldl (· ++ ·) #[]).toList = _
  rw [foldl_app, List.map_replicate, tl_repS]
  rfl
section
variable {X : Cx}
theorem call_repr_bl : CallR X (.builtin "repr") (fun xs H Q => ∃ b, xs = [.bl b] ∧ Q (.str (if b then "True" else "False")) H) := by
  intro pins s σ H xs us Q I r h
  obtain ⟨b, rfl, q⟩ := h
  obtain ⟨u, rfl, r1⟩ := vals1 r
  cases r1
  exact PySem.P.repr_of_bool ⟨.str _, H, I.tok _, ⟨_, rfl⟩, q⟩
/-- s * n -/
def rMulS : R2 := fun x y H Q => ∃ z n, x = .str z ∧ y = .int n ∧ 0 ≤ n ∧ n ≤ 1000 ∧ z.length ≤ 1000 ∧ Q (.str (repS z n)) H
theorem op_mulS : OpR X (binaryOp .Mult) rMulS := by
  intro pins s σ H x y v u Q I rx ry h
  obtain ⟨z, n, rfl, rfl, h0, h1, hz, q⟩ := h
  obtain ⟨t, rfl⟩ := rx
  obtain ⟨t', rfl⟩ := ry
  have hle : z.length * n.toNat ≤ 1000000 := by
    have := Nat.mul_le_mul hz (show n.toNat ≤ 1000 by omega)
    omega
  refine PySem.P.mul_str ?_ ?_ ?_ ?_
  · rw [decide_eq_false (by omega), decide_eq_false (by omega)]
    rfl
  · intro h2 _
    have h3 : (1 : Int) ≤ n := by omega
    have h4 : ((2 : Int) ^ 63 - 1) / 1000 ≤ (2 ^ 63 - 1) / n := by
      refine Int.le_ediv_of_mul_le (by omega) ?_
      have : ((2 : Int) ^ 63 - 1) / 1000 * n ≤ ((2 : Int) ^ 63 - 1) / 1000 * 1000 := Int.mul_le_mul_of_nonneg_left (by omega) (by decide)
      exact Int.le_trans this (by decide)
    have h5 : (1000 : Int) ≤ ((2 : Int) ^ 63 - 1) / 1000 := by decide
    omega
  · intro _ _
    unfold Builtin.Str.tooLong
    refine decide_eq_false ?_
    have : (sizeLine : Nat) = 16777216 := sizeLine_eq
    omega
  · by_cases h2 : n < 1
    · rw [if_pos h2]
      have e : n = 0 := by omega
      subst e
      exact ⟨by decide, ⟨.str _, H, I.tok _, ⟨_, rfl⟩, q⟩⟩
    · rw [if_neg h2]
      split
      · rename_i h3
        have e : repS z n = z := by
          refine ext_tl ?_
          rw [tl_repS]
          rw [Bool.or_eq_true, beq_iff_eq, beq_iff_eq] at h3
          rcases h3 with h3 | h3
          · subst h3
            show (List.replicate 1 (tl z)).flatten = _
            simp
          · have : tl z = [] := (len0_tl z).mp h3
            rw [this]
            simp
        rw [e] at q
        exact ⟨.str z, H, I, ⟨t, rfl⟩, q⟩
      · rw [repS_fold]
        exact ⟨by
          show (repS z n).length ≤ sizeLine
          rw [len_tl, tl_repS, List.length_flatten, List.map_replicate, List.sum_replicate_nat]
          have e := len_tl z
          have : (sizeLine : Nat) = 16777216 := sizeLine_eq
          have h9 : n.toNat * (tl z).length ≤ 1000000 := by rw [← e, Nat.mul_comm]; exact hle
          omega, ⟨.str _, H, I.tok _, ⟨_, rfl⟩, q⟩⟩
def CPowW (i j : Int) : Prop := 0 ≤ j ∧ (Builtin.Int.intBits i : Int) * j ≤ 2 ^ 27
theorem op_powW : OpR X (binaryOp .Pow) (rI CPowW fun i j => .int (i ^ j.toNat)) := opI fun _ _ _ _ _ _ _ hc q => pow_int hc.1 hc.2 q
end
end Bw

namespace Bw
open PySem PySem.Spec L2 TL PyProof.Rows

/-! ### for i, c in enumerate(s), s a text -/
/-- each sign in a new pair with its place -/
def Itn (x : Str) : It := ⟨fun i _ => i < x.cps.size, fun i H v H' => ∃ (T : Addr) (c : Nat), x.cps[i]? = some c ∧ v = .ref T ∧ H T = none ∧ H' = upd H T (.tup [.int (i : Nat), .str ⟨#[c]⟩]), fun i _ => i = x.cps.size⟩
theorem turn_enumS {P : Program} {w : World} {K : PySem.W.Frag} {elts : List Expr} {kk : Nat} {tpos : Pos} (en si : Addr) (x : Str) (t : Tok) :
    Turn P w K (.Tuple elts kk tpos) (Itn x) [en, si] en (fun i h => (∃ old, IsEnum h en si ((i : Nat) : Int) old) ∧ h.IsStrIter si (strIterType x) x t i ∧ en ≠ si) where
  mem := by simp
  obj := fun i h st b hb => by
    obtain ⟨⟨old, ho⟩, ⟨o, e1, e2, e3⟩, _⟩ := st
    rcases (by simpa using hb : b = en ∨ b = si) with rfl | rfl
    · exact ⟨_, ho, fun v z => nomatch z⟩
    · exact ⟨o, e1, fun v z => by rw [e3] at z; cases z⟩
  keep := fun i h h' st k => by
    obtain ⟨⟨old, ho⟩, ⟨o, e1, e2⟩, ne⟩ := st
    exact ⟨⟨old, k en (by simp) _ ho⟩, ⟨o, k si (by simp) _ e1, e2⟩, ne⟩
  item := by
    intro X e1 e2 e3 calm i pins s σ H E I hf st hgo
    subst e1 e2 e3
    obtain ⟨⟨old, ho⟩, hs, ne⟩ := st
    have le : en < s.heap.objs.size := Heap.lt_size ho
    have ls : si < s.heap.objs.size := by
      obtain ⟨_, q, _⟩ := hs
      exact Heap.lt_size q
    have D : Draws X.prog X.w X.A.in1 si [si] x.cps.size _ _ := Draws.text (show X.A.in1.handled = none from I.ok.hd calm) si x t
    refine wpAny_pyNext_enum_itemD D ho hs hgo ne (by simpa using ne) fun u h1 tk hu ho1 hs1 hT hz hk => ?_
    obtain ⟨c, t2, hc, rfl⟩ := hu
    refine ⟨_, rfl, wpAny_letOwnedTupleGo_enum (s := { s with heap := h1, toks := tk + 1 }) ho1 fun h2 ho2 sb => ?_⟩
    have hT2 : h2.get? s.heap.objs.size = some { cls := .type "tuple", data := .seq #[.int i tk, .str ⟨#[c]⟩ t2] } := (sb.2 _ (Nat.ne_of_gt le)).trans hT
    have okT : ObjOk X.prog X.w (upd H s.heap.objs.size (.tup [.int (i : Nat), .str ⟨#[c]⟩])) h2 s.heap.objs.size (.tup [.int (i : Nat), .str ⟨#[c]⟩]) :=
      ⟨by show 2 ≤ sizeLine; decide, [.int i tk, .str ⟨#[c]⟩ t2], .cons ⟨_, rfl⟩ (.cons ⟨_, rfl⟩ .nil), ⟨_, hT2, rfl, _, rfl⟩⟩
    have I2 := I.turnedNew (t' := tk + 1) (ch := [en, si]) (fun b ob hb q => (sb.2 b (fun z => hb (by simp [z]))).trans (hk b ob (fun z => hb (by simp [z])) (fun z => hb (by simp [z])) q)) hf (Nat.le_refl _) okT
    refine ⟨.ref s.heap.objs.size, _, I2, rfl, ⟨_, c, hc, rfl, I.hok.fresh (Nat.le_refl _), rfl⟩, ⟨⟨.str ⟨#[c]⟩ t2, ?_⟩, ?_, ne⟩, fun b hb => ?_⟩
    · rw [show ((i + 1 : Nat) : Int) = (i : Int) + 1 by omega]
      exact ho2
    · obtain ⟨o, q1, q2⟩ := hs1
      exact ⟨o, (sb.2 si (Ne.symm ne)).trans q1, q2⟩
    · have lb : b < s.heap.objs.size := by
        rcases (by simpa using hb : b = en ∨ b = si) with rfl | rfl
        · exact le
        · exact ls
      rw [upd_ne (Nat.ne_of_lt lb)]
      exact (hf b hb).1
  done := by
    intro X e1 e2 e3 calm i pins s σ H E I hf st hstop
    subst e1 e2 e3
    obtain ⟨⟨old, ho⟩, hs, ne⟩ := st
    obtain ⟨f0, f1, f2, f3, f4, f5⟩ := hf si (by simp)
    have hi : i = x.cps.size := hstop
    subst hi
    have D : Draws X.prog X.w X.A.in1 si [si] x.cps.size _ _ := Draws.text (show X.A.in1.handled = none from I.ok.hd calm) si x t
    exact wpAny_pyNext_enum_endD D ho hs fun h' eb => ⟨rfl, I.turned (t' := s.toks) (fun b o hb q => eb b o hb q) f0 f1 f3 f4 f5⟩
  self := fun A i s Q E st h => by
    obtain ⟨⟨_, ho⟩, _⟩ := st
    exact wpAny_pyIter_enum ho h
def iEnumS (ta : TA) : TI := fun σ H R => ta σ H fun vs H1 => ∃ x : Str, vs = [.str x] ∧ R (Itn x) H1
theorem pi_enumS {X : Cx} {e : Expr} {ta : TA} {p pos tpos : Pos} {elts : List Expr} {kk : Nat} (hg : Gl X "enumerate") (hm : X.mg "enumerate" = none) (ha : PA X [e] ta) (hs : starEach [e] X.env = [(false, eval e X.env)] := by rfl) :
    PI X (.Tuple elts kk tpos) (.Call (.Name "enumerate" p) [e] [] pos) (iEnumS ta) := by
  refine ⟨fun pins s σ H R I q => ?_⟩
  refine Call_ (ld_blt I hg hm boot_enumerate (PyProof.Rows.callWith_type1 (thn (ha.run pos pins s σ H _ I q) fun us s1 ⟨vs, H1, I1, r1, q1⟩ => ?_) hs rfl))
  obtain ⟨x, rfl, q1⟩ := q1
  obtain ⟨u, rfl, t, rfl⟩ := vals1 r1
  refine call_enumerate_str fun h' ho hsi hz hk => wpAny_pyIter_enum ho ?_
  have I2 : Inv X pins σ H1 { s1 with heap := h' } := I1.kept (t' := s1.toks) hk
  refine ⟨s1.heap.objs.size + 1, [s1.heap.objs.size + 1, s1.heap.objs.size], _, _, H1, rfl, I2, turn_enumS (s1.heap.objs.size + 1) s1.heap.objs.size x t, ⟨⟨.none, ho⟩, hsi, Nat.succ_ne_self _⟩, fun b hb => ?_, q1⟩
  have lb : s1.heap.objs.size ≤ b := by
    rcases (by simpa using hb : b = s1.heap.objs.size + 1 ∨ b = s1.heap.objs.size) with rfl | rfl
    · exact Nat.le_add_right _ _
    · exact Nat.le_refl _
  exact I1.fpOk lb (I1.hok.fresh lb)
theorem walk_enumS {x : Str} : Walk (Itn x) x.cps.size (fun _ => True) (fun i H v H' => ∃ (T : Addr) (c : Nat), x.cps[i]? = some c ∧ v = .ref T ∧ H T = none ∧ H' = upd H T (.tup [.int (i : Nat), .str ⟨#[c]⟩])) :=
  ⟨fun _ _ hi _ => hi, fun _ _ => rfl, fun _ _ _ _ _ _ y => y⟩
end Bw

namespace Bw
open PySem PySem.Spec L2 TL PyProof.Rows

/-! ### a while whose test gives a token out -/
def PTT (X : Cx) (c : Expr) (t : TT) : Prop :=
  ∀ (pins : List (Addr × Obj)) (s : Shared) (σ : L2.St) (H : Hp) (Q : Bool → Hp → Prop), L2.Inv X pins σ H s → t σ H Q → wpAny (model X.prog X.w) X.A (isTrue c X.env (eval c X.env)) (fun b s' => 1 ≤ s'.toks ∧ TP X pins σ Q b s') X.xe s
section
variable {X : Cx}
theorem ptt_strCmp {op : CmpOp} {r : R2} {x : Str} {j : Nat} {p pos : Pos} {b : Expr} {tb : TE} (ho : OpR X (compareOp op) r) (hb : PE X b tb) (hm : behindInMarks op b = false) : PTT X (.Compare (.Constant (.str x) j p) [op] [b] pos) (tTest (tOp r (tC (.str x)) tb)) := by
  intro pins s σ H Q I h
  refine wpAny_isTrue_Compare1 (Calls.Constant_str ?_) hm
  have I1 : L2.Inv X pins σ H { s with toks := s.toks + 1 } := I.tok _
  refine wpAny_mono (PySem.wpAny_toks (hb.run pins _ σ H _ I1 h)) (fun u s2 q => ?_) fun _ _ z => z.2
  obtain ⟨hk, y, H2, I2, r2, q2⟩ := q
  have hk2 : 1 ≤ s2.toks := by
    have : s.toks + 1 ≤ s2.toks := hk
    omega
  refine wpAny_mono (PySem.wpAny_toks (ho pins s2 σ H2 (.str x) y _ u _ I2 ⟨_, rfl⟩ r2 q2)) (fun c s3 q => ?_) fun _ _ z => z.2
  obtain ⟨hk3, z, H3, I3, r3, k, e, q3⟩ := q
  subst e
  cases r3
  exact wpAny_truthy_bool ⟨Nat.le_trans hk2 hk3, H3, I3, q3⟩
theorem ps_whileT {cond : Expr} {inside : List Stmt} {pos : Pos} {tc : TT} {ti : TS} (own : PassesOwn (model X.prog X.w) X.A X.env X.xe) (hcond : PTT X cond tc) (hin : PSsT X inside ti) : PS X (.While cond inside [] pos) (tWhile tc ti) := by
  refine ⟨fun ps sh τ G Z inv goal => ?_⟩
  obtain ⟨Wh, ⟨k0, start⟩, round⟩ := goal
  refine wpAny_While (codeAny_whileLoop (fun k sh' => ∃ τ' G', L2.Inv X ps τ' G' sh' ∧ Wh k τ' G') ?_ k0 ⟨τ, G, inv, start⟩)
  rintro k sa ⟨τa, Ga, inva, wa⟩
  refine wpAny_passesOwn own (thn (hcond ps sa τa Ga _ inva (round k τa Ga wa)) fun yes sb ⟨tokb, Gb, invb, qb⟩ => ?_)
  have back : ∀ {Nn : L2.St → Hp → Prop} {τc : L2.St} {Gc : Hp} {sc : Shared}, (∀ a b, Nn a b → ∃ k', k' < k ∧ Wh k' a b) → L2.Inv X ps τc Gc sc → Nn τc Gc → ∃ k', k' < k ∧ ∃ a b, L2.Inv X ps a b sc ∧ Wh k' a b := fun less invc nc => by
    obtain ⟨k', lt, wc⟩ := less _ _ nc
    exact ⟨k', lt, _, _, invc, wc⟩
  cases yes with
  | false => rw [if_neg (fun z => nomatch z)]; exact wpAny_execs_nil ⟨τa, Gb, invb, qb⟩
  | true =>
    obtain ⟨Nn, less, qc⟩ := qb
    rw [if_pos rfl]
    refine wpAny_passesOwn own (thn (hin ps sb τa Gb _ tokb invb qc) fun flow sc qd => ?_)
    cases flow with
    | brk => exact qd
    | ret _ => exact qd
    | next => obtain ⟨_, _, i1, i2⟩ := qd; exact back less i1 i2
    | cont => obtain ⟨_, _, i1, i2⟩ := qd; exact back less i1 i2
theorem pst_set {i : Nat} {x : Str} {e : Expr} {te : TE} {pos pos' : Pos} (hN : X.N.Nodup) (hi : X.N[i]? = some x) (hx : Loc X.env.scope x) (he : PET X e te) (hs : swapsWith e (some (.Name x pos')) pos.line X.env = pure false := by rfl) (hf : X.fn x = true ∨ X.env.scope.names.lookup x = some .local := by first | exact .inl rfl | exact .inr rfl | assumption) :
    PST X (.Assign [.Name x pos'] e pos) (tAsg te (gName i)) := by
  intro ps sh τ G Z tok inv goal
  exact wpAny_Assign_Name (thn (he ps sh τ G _ tok inv goal) fun val sa ⟨y, Ga, inva, ra, qa⟩ => store_ok inva hN hi hx ra (fun sb invb => ⟨_, Ga, invb, qa⟩) hf) hs
end
end Bw

namespace Bw
open PySem PySem.Spec L2 TL PyProof.Rows
def top (i : Nat) : Stmt := PySem.Challenge.pw_bailiwick_k01_whole_patterns_against_all.main.body.getD i (.Pass ⟨0, 0, 0, 0⟩)
abbrev s_are_signs : Stmt := top 9
abbrev n_are_signs : List Str := ["value", "most"]
theorem sc_are_signs : FnScope n_are_signs ["value", "most"] (defScope s_are_signs) := ⟨rfl, rfl, rfl, by decide +kernel, rfl, by decide +kernel, by decide +kernel⟩
abbrev s_is_text : Stmt := top 10
abbrev n_is_text : List Str := ["value"]
theorem sc_is_text : FnScope n_is_text ["value"] (defScope s_is_text) := ⟨rfl, rfl, rfl, by decide +kernel, rfl, by decide +kernel, by decide +kernel⟩
abbrev s_are_plain_digits : Stmt := top 12
abbrev n_are_plain_digits : List Str := ["signs"]
theorem sc_are_plain_digits : FnScope n_are_plain_digits ["signs"] (defScope s_are_plain_digits) := ⟨rfl, rfl, rfl, by decide +kernel, rfl, by decide +kernel, by decide +kernel⟩
abbrev s_read_place : Stmt := top 13
abbrev n_read_place : List Str := ["signs", "number"]
theorem sc_read_place : FnScope n_read_place ["signs"] (defScope s_read_place) := ⟨rfl, rfl, rfl, by decide +kernel, rfl, by decide +kernel, by decide +kernel⟩
abbrev s_read_number : Stmt := top 14
abbrev n_read_number : List Str := ["signs", "number"]
theorem sc_read_number : FnScope n_read_number ["signs"] (defScope s_read_number) := ⟨rfl, rfl, rfl, by decide +kernel, rfl, by decide +kernel, by decide +kernel⟩
abbrev s_need_kind : Stmt := top 19
abbrev n_need_kind : List Str := ["kind"]
theorem sc_need_kind : FnScope n_need_kind ["kind"] (defScope s_need_kind) := ⟨rfl, rfl, rfl, by decide +kernel, rfl, by decide +kernel, by decide +kernel⟩
abbrev s_fits_number : Stmt := top 20
abbrev n_fits_number : List Str := ["text", "digits"]
theorem sc_fits_number : FnScope n_fits_number ["text"] (defScope s_fits_number) := ⟨rfl, rfl, rfl, by decide +kernel, rfl, by decide +kernel, by decide +kernel⟩
abbrev s_fits_exactly : Stmt := top 21
abbrev n_fits_exactly : List Str := ["kind", "text"]
theorem sc_fits_exactly : FnScope n_fits_exactly ["kind", "text"] (defScope s_fits_exactly) := ⟨rfl, rfl, rfl, by decide +kernel, rfl, by decide +kernel, by decide +kernel⟩
abbrev s_known_form : Stmt := top 22
abbrev n_known_form : List Str := ["kind", "text", "form"]
theorem sc_known_form : FnScope n_known_form ["kind", "text"] (defScope s_known_form) := ⟨rfl, rfl, rfl, by decide +kernel, rfl, by decide +kernel, by decide +kernel⟩
abbrev s_form_of : Stmt := top 23
abbrev n_form_of : List Str := ["kind", "text"]
theorem sc_form_of : FnScope n_form_of ["kind", "text"] (defScope s_form_of) := ⟨rfl, rfl, rfl, by decide +kernel, rfl, by decide +kernel, by decide +kernel⟩
abbrev s_is_form : Stmt := top 24
abbrev n_is_form : List Str := ["kind", "value"]
theorem sc_is_form : FnScope n_is_form ["kind", "value"] (defScope s_is_form) := ⟨rfl, rfl, rfl, by decide +kernel, rfl, by decide +kernel, by decide +kernel⟩
abbrev s_is_piece : Stmt := top 25
abbrev n_is_piece : List Str := ["value"]
theorem sc_is_piece : FnScope n_is_piece ["value"] (defScope s_is_piece) := ⟨rfl, rfl, rfl, by decide +kernel, rfl, by decide +kernel, by decide +kernel⟩
abbrev s_is_pattern : Stmt := top 26
abbrev n_is_pattern : List Str := ["value", "first", "middles", "last", "piece"]
theorem sc_is_pattern : FnScope n_is_pattern ["value"] (defScope s_is_pattern) := ⟨rfl, rfl, rfl, by decide +kernel, rfl, by decide +kernel, by decide +kernel⟩
abbrev s_squeezed : Stmt := top 27
abbrev n_squeezed : List Str := ["piece"]
theorem sc_squeezed : FnScope n_squeezed ["piece"] (defScope s_squeezed) := ⟨rfl, rfl, rfl, by decide +kernel, rfl, by decide +kernel, by decide +kernel⟩
abbrev s_text_pattern : Stmt := top 28
abbrev n_text_pattern : List Str := ["pattern", "first", "middles", "last", "begin", "end", "piece"]
theorem sc_text_pattern : FnScope n_text_pattern ["pattern"] (defScope s_text_pattern) := ⟨rfl, rfl, rfl, by decide +kernel, rfl, by decide +kernel, by decide +kernel⟩
abbrev s_pattern_form : Stmt := top 29
abbrev n_pattern_form : List Str := ["kind", "pattern"]
theorem sc_pattern_form : FnScope n_pattern_form ["kind", "pattern"] (defScope s_pattern_form) := ⟨rfl, rfl, rfl, by decide +kernel, rfl, by decide +kernel, by decide +kernel⟩
abbrev s_can_be_parted : Stmt := top 30
abbrev n_can_be_parted : List Str := ["form", "pieces", "first", "middles", "last", "at", "end", "piece", "found"]
theorem sc_can_be_parted : FnScope n_can_be_parted ["form", "pieces"] (defScope s_can_be_parted) := ⟨rfl, rfl, rfl, by decide +kernel, rfl, by decide +kernel, by decide +kernel⟩
abbrev s_does_match : Stmt := top 31
abbrev n_does_match : List Str := ["kind", "pattern", "form", "pieces"]
theorem sc_does_match : FnScope n_does_match ["kind", "pattern", "form"] (defScope s_does_match) := ⟨rfl, rfl, rfl, by decide +kernel, rfl, by decide +kernel, by decide +kernel⟩
abbrev s_law_dice : Stmt := top 33
abbrev n_law_dice : List Str := ["_law_script", "_law_at", "_law_cell", "_law_great", "_law_left", "_law_mixed"]
theorem sc_law_dice : FnScope n_law_dice ["_law_script", "_law_at"] (defScope s_law_dice) := ⟨rfl, rfl, rfl, by decide +kernel, rfl, by decide +kernel, by decide +kernel⟩
abbrev s_law_roll : Stmt := top 34
abbrev n_law_roll : List Str := ["_law_dice_here", "_law_total", "_law_size", "_law_drawn_here", "_law_one", "_law_two"]
theorem sc_law_roll : FnScope n_law_roll ["_law_dice_here", "_law_total"] (defScope s_law_roll) := ⟨rfl, rfl, rfl, by decide +kernel, rfl, by decide +kernel, by decide +kernel⟩
abbrev s_law_one_of : Stmt := top 35
abbrev n_law_one_of : List Str := ["_law_dice_here", "_law_items"]
theorem sc_law_one_of : FnScope n_law_one_of ["_law_dice_here", "_law_items"] (defScope s_law_one_of) := ⟨rfl, rfl, rfl, by decide +kernel, rfl, by decide +kernel, by decide +kernel⟩
abbrev s_law_squeezed : Stmt := top 36
abbrev n_law_squeezed : List Str := ["_law_text", "_law_found", "_law_sign"]
theorem sc_law_squeezed : FnScope n_law_squeezed ["_law_text"] (defScope s_law_squeezed) := ⟨rfl, rfl, rfl, by decide +kernel, rfl, by decide +kernel, by decide +kernel⟩
abbrev s_law_due : Stmt := top 37
abbrev n_law_due : List Str := ["_law_kind", "_law_pattern", "_law_first", "_law_middles", "_law_last", "_law_low", "_law_high", "_law_piece_here"]
theorem sc_law_due : FnScope n_law_due ["_law_kind", "_law_pattern"] (defScope s_law_due) := ⟨rfl, rfl, rfl, by decide +kernel, rfl, by decide +kernel, by decide +kernel⟩
abbrev s_law_matches : Stmt := top 38
abbrev n_law_matches : List Str := ["_law_pattern", "_law_form", "_law_first", "_law_middles", "_law_last", "_law_spots", "_law_piece_here", "_law_ends", "_law_rest", "_law_at", "_law_end", "_law_spot"]
theorem sc_law_matches : FnScope n_law_matches ["_law_pattern", "_law_form"] (defScope s_law_matches) := ⟨rfl, rfl, rfl, by decide +kernel, rfl, by decide +kernel, by decide +kernel⟩
abbrev s_law_piece : Stmt := top 39
abbrev n_law_piece : List Str := ["_law_dice_here", "_law_turn"]
theorem sc_law_piece : FnScope n_law_piece ["_law_dice_here"] (defScope s_law_piece) := ⟨rfl, rfl, rfl, by decide +kernel, rfl, by decide +kernel, by decide +kernel⟩
abbrev s_law_drawn : Stmt := top 40
abbrev n_law_drawn : List Str := ["_law_dice_here", "_law_middles", "_law_found", "_law_turn", "_law_piece_here"]
theorem sc_law_drawn : FnScope n_law_drawn ["_law_dice_here"] (defScope s_law_drawn) := ⟨rfl, rfl, rfl, by decide +kernel, rfl, by decide +kernel, by decide +kernel⟩
abbrev s_law_between : Stmt := top 41
abbrev n_law_between : List Str := ["_law_dice_here", "_law_turn"]
theorem sc_law_between : FnScope n_law_between ["_law_dice_here"] (defScope s_law_between) := ⟨rfl, rfl, rfl, by decide +kernel, rfl, by decide +kernel, by decide +kernel⟩
abbrev s_law_made_after : Stmt := top 42
abbrev n_law_made_after : List Str := ["_law_dice_here", "_law_pattern", "_law_found", "_law_piece_here"]
theorem sc_law_made_after : FnScope n_law_made_after ["_law_dice_here", "_law_pattern"] (defScope s_law_made_after) := ⟨rfl, rfl, rfl, by decide +kernel, rfl, by decide +kernel, by decide +kernel⟩
abbrev s_law_texts : Stmt := top 43
abbrev n_law_texts : List Str := ["_law_dice_here", "_law_pattern", "_law_made", "_law_at", "_law_found"]
theorem sc_law_texts : FnScope n_law_texts ["_law_dice_here", "_law_pattern"] (defScope s_law_texts) := ⟨rfl, rfl, rfl, by decide +kernel, rfl, by decide +kernel, by decide +kernel⟩
abbrev s_law_near_right : Stmt := top 44
abbrev n_law_near_right : List Str := ["_law_dice_here", "_law_pattern", "_law_first", "_law_middles", "_law_last", "_law_fine", "_law_odd", "_law_value"]
theorem sc_law_near_right : FnScope n_law_near_right ["_law_dice_here", "_law_pattern"] (defScope s_law_near_right) := ⟨rfl, rfl, rfl, by decide +kernel, rfl, by decide +kernel, by decide +kernel⟩
abbrev s_law_right : Stmt := top 45
abbrev n_law_right : List Str := ["_law_dice_here", "_law_pattern", "_law_kind", "_law_form", "_law_text", "_law_value", "_law_due_here"]
theorem sc_law_right : FnScope n_law_right ["_law_dice_here"] (defScope s_law_right) := ⟨rfl, rfl, rfl, by decide +kernel, rfl, by decide +kernel, by decide +kernel⟩
abbrev s_law : Stmt := top 46
abbrev n_law : List Str := ["_law_script", "_law_at", "_law_dice_here", "_law_turn", "_law_told"]
theorem sc_law : FnScope n_law ["_law_script"] (defScope s_law) := ⟨rfl, rfl, rfl, by decide +kernel, rfl, by decide +kernel, by decide +kernel⟩
/-! ### a def of the program, known by its name -/
structure Dfn (P : Program) (w : World) (K : PySem.W.Frag) (mg : Str → Option Value) (base : Heap) (x : Str) (k : Nat) (ps : List Str) (sp : Sp) : Prop where
  ex : ∃ (f : Addr) (fd : FuncData), FnOk P w K mg base CX0 k f fd ps sp ∧ mg x = some (.ref f) ∧ PySem.W.keepIn K (.ref f) = true ∧ Binds K fd ps []
section
variable {X : Cx} {x : Str} {k m : Nat} {ps : List Str} {sp : Sp} {e : Expr} {es : List Expr} {t : TA} {p pos : Pos}
theorem pe_d (D : Dfn X.prog X.w X.K X.mg X.base x k ps sp) (hr : Room m X.A) (hm : k ≤ m) (ha : PA X (e :: es) t) (hg : Gl X x := by rfl)
    (hdb : (x == ("__debug__" : Str)) = false := by decide)
    (he : starEach (e :: es) X.env = (false, eval e X.env) :: starEach es X.env := by rfl) (hpl : (backTo pos (starEach es X.env)).any (·.1) = false := by rfl) :
    PE X (.Call (.Name x p) (e :: es) [] pos) (tCall sp [] E0 t) := by
  obtain ⟨f, fd, F, mf, kp, b⟩ := D.ex
  exact pe_call F (hr.mono hm) hg mf kp b .nil pass0 ha hdb he hpl
end
/-- what the top has left, apart from the defs -/
structure Txt (K : PySem.W.Frag) (mg : Str → Option Value) (aK : Addr) : Prop where
  b_len : mg "len" = none
  b_int : mg "int" = none
  b_abs : mg "abs" = none
  b_max : mg "max" = none
  b_min : mg "min" = none
  b_range : mg "range" = none
  b_isinstance : mg "isinstance" = none
  b_tuple : mg "tuple" = none
  b_all : mg "all" = none
  b_str : mg "str" = none
  b_repr : mg "repr" = none
  b_list : mg "list" = none
  g_KINDS : mg "KINDS" = some (.ref aK)
  s_KINDS : ∀ H : Hp, SqT K H aK [.str "exact", .str "flag", .str "link", .str "number", .str "text"]
  g_number : ∃ t, mg "MOST_NUMBER" = some (.int 1000000000000 t)
  g_value : ∃ t, mg "MOST_VALUE" = some (.int 1000000000000000 t)
  g_text : ∃ t, mg "MOST_TEXT" = some (.int 100 t)
  g_middles : ∃ t, mg "MOST_MIDDLES" = some (.int 8 t)
end Bw

namespace Bw
open PySem PySem.Spec L2 TL PyProof.Rows

/-! ### the judges of texts -/
/-- no text at all -/
def NotStr (K : PySem.W.Frag) (H : Hp) (v : V) : Prop := ∃ t, TyX K H v t ∧ PySem.W.kitOne K t (.type "str") = some false
def areSg (x : Str) (m : Int) : Bool := decide ((x.length : Int) ≤ m) && (Txt.isascii x && Txt.isprintable x)
def isTx (x : Str) : Bool := areSg x 100 && decide (x ≠ "")
theorem isTx_iff (x : Str) : isTx x = true ↔ IsTx x ∧ x ≠ "" := by
  unfold isTx areSg IsTx
  rw [Bool.and_eq_true, Bool.and_eq_true, decide_eq_true_eq, decide_eq_true_eq, signs_iff]
  constructor
  · rintro ⟨⟨a, b⟩, c⟩
    exact ⟨⟨b, by omega⟩, c⟩
  · rintro ⟨⟨b, a⟩, c⟩
    exact ⟨⟨by omega, b⟩, c⟩
theorem line_of {n : Nat} (h : n ≤ 1000000) : n ≤ sizeLine := Nat.le_trans h (by decide)

def spAre (K : PySem.W.Frag) : Sp := fun vs H Q _ => ∃ (v : V) (m : Int), vs = [v, .int m] ∧
  ((∃ x, v = .str x ∧ x.length ≤ sizeLine ∧ Q (.bl (areSg x m)) H) ∨ (NotStr K H v ∧ Q (.bl false) H))
def spIsText (K : PySem.W.Frag) : Sp := fun vs H Q _ => ∃ v : V, vs = [v] ∧
  ((∃ x, v = .str x ∧ x.length ≤ sizeLine ∧ Q (.bl (isTx x)) H) ∨ (NotStr K H v ∧ Q (.bl false) H))
section
variable {P : Program} {w : World} {K : PySem.W.Frag} {mg : Str → Option Value} {base : Heap} {f : Addr} {fd : FuncData} {aK : Addr}
theorem ok_are_signs (F : Fun K "are_signs" "are_signs" s_are_signs f fd) (T : Txt K mg aK) : FnOk P w K mg base CX0 1 f fd ["value", "most"] (spAre K) := by
  refine F.ok sc_are_signs (fun vs H Q E h => ?_) (fun cdv A outer s H vs Q E hr h => ?_)
  · obtain ⟨v, m, rfl, _⟩ := h
    rfl
  · obtain ⟨v, m, rfl, h⟩ := h
    refine ⟨_, (pss_one (ps_ret (pe_and (pe_callB call_isi (by rfl) T.b_isinstance (by decide +kernel) (pa_cons (pv 0) (pa_cons (pe_bltn (v := .ty "str") (by rfl) T.b_str (by decide +kernel) rfl) pa_nil))) (pe_and (pe_cmpR op_le (pe_callB call_len_str (by rfl) T.b_len (by decide +kernel) (pa_cons (pv 0) pa_nil)) (pv 1) (nomark _)) (pe_and (pe_m0 PySem.F.slot_str_isascii PySem.F.type_str_isascii mt_isascii (pv 0)) (pe_one (pe_m0 PySem.F.slot_str_isprintable PySem.F.type_str_isprintable mt_isprintable (pv 0)))))))), ?_⟩
    rcases h with ⟨x, rfl, hl, q⟩ | ⟨⟨t, ty, kt⟩, q⟩
    · refine ⟨_, rfl, _, _, _, _, true, rfl, ClsV.ty "str", TyX.base (.str x), kit_ty (by decide +kernel), true, rfl, iteT ?_⟩
      refine ⟨_, rfl, _, rfl, hl, _, rfl, _, _, rfl, rfl, _, rfl, ?_⟩
      unfold areSg at q
      cases e : decide ((x.length : Int) ≤ m) with
      | false =>
        rw [e] at q
        exact iteF q
      | true =>
        rw [e] at q
        refine iteT ⟨_, rfl, ⟨_, rfl⟩, _, rfl, rfl, trivial, _, rfl, ?_⟩
        cases e2 : Txt.isascii x with
        | false =>
          rw [e2] at q
          exact iteF q
        | true =>
          rw [e2] at q
          exact iteT ⟨_, rfl, ⟨_, rfl⟩, _, rfl, rfl, trivial, q⟩
    · exact ⟨_, rfl, _, _, _, _, false, rfl, ClsV.ty "str", ty, kt, false, rfl, iteF q⟩
theorem ok_is_text (F : Fun K "is_text" "is_text" s_is_text f fd) (T : Txt K mg aK) (D_are_signs : Dfn P w K mg base "are_signs" 1 ["value", "most"] (spAre K)) :
    FnOk P w K mg base CX0 2 f fd ["value"] (spIsText K) := by
  obtain ⟨t0, gT⟩ := T.g_text
  refine F.ok sc_is_text (fun vs H Q E h => ?_) (fun cdv A outer s H vs Q E hr h => ?_)
  · obtain ⟨v, rfl, _⟩ := h
    rfl
  · obtain ⟨v, rfl, h⟩ := h
    refine ⟨_, (pss_one (ps_ret (pe_and (pe_d D_are_signs hr (by decide) (pa_cons (pv 0) (pa_cons (pe_glob (v := .int 100) rfl gT ⟨_, rfl⟩) pa_nil))) (pe_one (pe_cmpR op_ne (pv 0) pe_str (nomark _)))))), ?_⟩
    rcases h with ⟨x, rfl, hl, q⟩ | ⟨ns, q⟩
    · refine ⟨_, rfl, _, _, rfl, .inl ⟨x, rfl, hl, _, rfl, ?_⟩⟩
      unfold isTx at q
      cases e : areSg x 100 with
      | false =>
        rw [e] at q
        exact iteF q
      | true =>
        rw [e] at q
        refine iteT ⟨_, rfl, rfl, ?_⟩
        have e2 : (!decide (V.str x = V.str "")) = decide (x ≠ "") := by
          rw [decide_not]
          congr 1
          simp
        show Q (.bl (!decide (V.str x = V.str ""))) H
        rw [e2]
        exact q
    · exact ⟨_, rfl, _, _, rfl, .inr ⟨ns, _, rfl, iteF q⟩⟩
end
end Bw

namespace Bw
open PySem PySem.Spec L2 TL PyProof.Rows
open NumText (AllDigits digitsVal)

theorem len0 (x : Str) : x.length = (tl x).length := len_tl x
theorem isdigit_eq {x : Str} (h : Sgn (tl x)) : Txt.isdigit x = (decide (tl x ≠ []) && decide (AllDigits (tl x))) := by
  unfold Txt.isdigit
  rw [← Array.all_toList]
  have e1 : decide (x.length > 0) = decide (tl x ≠ []) := by
    congr 1
    rw [len_tl]
    exact propext ⟨fun q e => by rw [e] at q; exact absurd q (by simp), fun q => List.length_pos_iff.mpr q⟩
  have e2 : x.cps.toList.all Unicode.isDigit = decide (AllDigits (tl x)) := by
    rw [Bool.eq_iff_iff, decide_eq_true_eq, List.all_eq_true]
    constructor
    · intro q c hc
      have := q c hc
      rw [digit_sgn c (h.lt c hc)] at this
      exact of_decide_eq_true this
    · intro q c hc
      rw [digit_sgn c (h.lt c hc)]
      exact decide_eq_true (q c hc)
  rw [e1, e2]
theorem cut_from1 (x : Str) : tl (cutS x (some 1) none) = (tl x).tail := by
  show (List.take (HT.sIx x.length x.length none - HT.sIx x.length 0 (some 1)) (List.drop (HT.sIx x.length 0 (some 1)) x.cps.toList)) = _
  cases e : tl x with
  | nil =>
    have e' : x.cps.toList = [] := e
    rw [e']
    simp
  | cons c r =>
    have hl : x.length = r.length + 1 := by rw [len_tl, e]; rfl
    have e' : x.cps.toList = c :: r := e
    have s1 : HT.sIx x.length 0 (some 1) = 1 := by
      unfold HT.sIx
      rw [hl]
      simp
    have s2 : HT.sIx x.length x.length none = r.length + 1 := by
      unfold HT.sIx
      exact hl
    rw [s1, s2, e']
    simp
theorem at0 {x : Str} {c : Nat} {r : List Nat} (e : tl x = c :: r) : atI x.cps.toList 0 = some c := by
  have e' : x.cps.toList = c :: r := e
  rw [e']
  exact atI_nat (j := 0) rfl
theorem tl_one (c : Nat) : tl ⟨#[c]⟩ = [c] := rfl
theorem ne_of_tl {x : Str} (h : x ≠ "") : tl x ≠ [] := fun e => h (ext_tl (by rw [e]; decide +kernel))
theorem of_ne_tl {x : Str} (h : tl x ≠ []) : x ≠ "" := fun e => h (by rw [e]; decide +kernel)
theorem dstr {a b : Str} : decide (V.str a = V.str b) = decide (tl a = tl b) := by
  rw [Bool.eq_iff_iff, decide_eq_true_eq, decide_eq_true_eq]
  exact ⟨fun h => by injection h with h; rw [h], fun h => by rw [ext_tl h]⟩
theorem tl_0 : tl ("0" : Str) = [48] := by decide +kernel
theorem tl_dash : tl ("-" : Str) = [45] := by decide +kernel
theorem tl_m0 : tl ("-0" : Str) = [45, 48] := by decide +kernel
theorem plain_split {l : List Nat} : plainD l = (decide (l ≠ []) && decide (AllDigits l) && (decide (l = [48]) || decide (l.head? ≠ some 48))) := rfl

def spNeed : Sp := fun vs H Q _ => ∃ k : Kd, vs = [.str k.str] ∧ Q .non H
def spPlain : Sp := fun vs H Q _ => ∃ x : Str, vs = [.str x] ∧ Sgn (tl x) ∧ x.length ≤ 100 ∧ Q (.bl (plainD (tl x))) H
def spFitsNum : Sp := fun vs H Q _ => ∃ x : Str, vs = [.str x] ∧ IsTx x ∧ x ≠ "" ∧ Q (.bl (fitNum (tl x))) H
/-- a number or 0, told by signs -/
def plcOf (l : List Nat) : Bool := plainD l && decide ((digitsVal l : Int) ≤ 10 ^ 12)
theorem dv_from (r : List Nat) : ∀ a : Nat, 1 ≤ a → 10 ^ r.length ≤ r.foldl (fun acc c => acc * 10 + (c - 48)) a := by
  induction r with
  | nil => exact fun a h => h
  | cons c r ih =>
    intro a h
    have h1 : 1 ≤ a * 10 + (c - 48) := by omega
    rw [List.foldl_cons, List.length_cons, Nat.pow_succ]
    have h2 : ∀ (r : List Nat) (m n : Nat), n ≤ m → r.foldl (fun acc c => acc * 10 + (c - 48)) n ≤ r.foldl (fun acc c => acc * 10 + (c - 48)) m := by
      intro r
      induction r with
      | nil => exact fun m n z => z
      | cons d r ih2 => exact fun m n z => by rw [List.foldl_cons, List.foldl_cons]; exact ih2 _ _ (by omega)
    have h3 : ∀ (r : List Nat) (a : Nat), 10 ^ r.length * a ≤ r.foldl (fun acc c => acc * 10 + (c - 48)) a := by
      intro r
      induction r with
      | nil => exact fun a => by simp
      | cons d r ih3 =>
        intro a
        rw [List.foldl_cons, List.length_cons, Nat.pow_succ]
        refine Nat.le_trans ?_ (ih3 (a * 10 + (d - 48)))
        rw [Nat.mul_assoc]
        exact Nat.mul_le_mul_left _ (by omega)
    have h4 := h3 r (a * 10 + (c - 48))
    refine Nat.le_trans ?_ h4
    exact Nat.mul_le_mul_left _ (by omega)
theorem long_plain {l : List Nat} (h : plainD l = true) (hl : 13 < l.length) : ¬ ((digitsVal l : Int) ≤ 10 ^ 12) := by
  obtain ⟨h1, h2, h3⟩ := plainD_iff.mp h
  cases e : l with
  | nil => exact absurd e h1
  | cons c r =>
    rw [e] at h2 h3 hl
    rcases h3 with h3 | h3
    · rw [h3] at hl
      exact absurd hl (by decide)
    · have hc : 48 ≤ c ∧ c ≤ 57 := h2 c (List.mem_cons_self ..)
      have hn : c ≠ 48 := fun z => h3 (by rw [z]; rfl)
      have h4 : 10 ^ r.length ≤ digitsVal (c :: r) := by
        unfold digitsVal
        rw [List.foldl_cons]
        exact dv_from r _ (by omega)
      have h5 : 10 ^ 13 ≤ 10 ^ r.length := Nat.pow_le_pow_right (by decide) (by simp at hl; omega)
      intro z
      have z' : digitsVal (c :: r) ≤ 10 ^ 12 := by exact_mod_cast z
      have h6 : (10 : Nat) ^ 12 < 10 ^ 13 := by decide
      omega
theorem link_plc (l : List Nat) : fitLink l = (plcOf l && decide ((digitsVal l : Int) ≠ 0)) := by
  unfold fitLink plcOf
  rw [Bool.and_assoc]
  congr 1
  rw [Bool.eq_iff_iff, Bool.and_eq_true, decide_eq_true_eq, decide_eq_true_eq, decide_eq_true_eq]
  constructor
  · rintro ⟨a, b⟩
    exact ⟨b, by omega⟩
  · rintro ⟨a, b⟩
    exact ⟨by omega, a⟩
def spPlace : Sp := fun vs H Q _ => ∃ x : Str, vs = [.str x] ∧ IsTx x ∧ Q (if plcOf (tl x) then .int (digitsVal (tl x)) else .non) H
def spNumber : Sp := fun vs H Q _ => ∃ x : Str, vs = [.str x] ∧ IsTx x ∧ Q (if fitLink (tl x) then .int (digitsVal (tl x)) else .non) H
def fitsX (k : Kd) (x : Str) : Bool := match k with
  | .number => fitNum (tl x)
  | .flag => decide (x = "yes" ∨ x = "no")
  | .link => fitLink (tl x)
  | .exact => true
  | .text => false
def spFitsX : Sp := fun vs H Q _ => ∃ (k : Kd) (x : Str), vs = [.str k.str, .str x] ∧ IsTx x ∧ x ≠ "" ∧ ∀ H', Same H H' → Q (.bl (fitsX k x)) H'
section
variable {P : Program} {w : World} {K : PySem.W.Frag} {mg : Str → Option Value} {base : Heap} {f : Addr} {fd : FuncData} {aK : Addr}
theorem inV_kd (k : Kd) : inV (.str k.str) [.str "exact", .str "flag", .str "link", .str "number", .str "text"] = true := by
  cases k <;> decide +kernel
theorem ok_need_kind (F : Fun K "_need_kind" "_need_kind" s_need_kind f fd) (T : Txt K mg aK) : FnOk P w K mg base CX0 1 f fd ["kind"] spNeed := by
  refine F.ok sc_need_kind (fun vs H Q E h => ?_) (fun cdv A outer s H vs Q E hr h => ?_)
  · obtain ⟨k, rfl, _⟩ := h
    rfl
  · obtain ⟨k, rfl, q⟩ := h
    refine ⟨_, (pss_one (ps_if (pt_cmpR op_notIn_seq (pv 0) (pe_glob (v := .ref aK) rfl T.g_KINDS rfl) rfl) (pss_one ps_never) pss_nil)), ?_⟩
    refine ⟨_, rfl, aK, _, rfl, .inr (T.s_KINDS H), rfl, rfl, false, ?_, iteF q⟩
    rw [inV_kd]
    rfl
theorem ok_are_plain_digits (F : Fun K "are_plain_digits" "are_plain_digits" s_are_plain_digits f fd) : FnOk P w K mg base CX0 1 f fd ["signs"] spPlain := by
  refine F.ok sc_are_plain_digits (fun vs H Q E h => ?_) (fun cdv A outer s H vs Q E hr h => ?_)
  · obtain ⟨x, rfl, _⟩ := h
    rfl
  · obtain ⟨x, rfl, hx, hl, q⟩ := h
    refine ⟨_, (pss_one (ps_ret (pe_and (pe_m0 PySem.F.slot_str_isdigit PySem.F.type_str_isdigit mt_isdigit (pv 0)) (pe_one (pe_or (pe_cmpR op_eq (pv 0) pe_str (nomark _)) (pe_one (pe_cmpR op_ne (pe_ix ix_str (pv 0) pe_int (fun _ _ => rfl)) pe_str (nomark _)))))))), ?_⟩
    refine ⟨_, rfl, ⟨_, rfl⟩, _, rfl, rfl, trivial, _, rfl, ?_⟩
    rw [isdigit_eq hx]
    rw [plain_split] at q
    cases e : (decide (tl x ≠ []) && decide (AllDigits (tl x))) with
    | false =>
      rw [e] at q
      exact iteF q
    | true =>
      rw [e] at q
      refine iteT ⟨_, rfl, rfl, _, rfl, ?_⟩
      rw [dstr, tl_0]
      cases e2 : decide (tl x = [48]) with
      | true =>
        rw [e2] at q
        exact iteT q
      | false =>
        rw [e2] at q
        cases e3 : tl x with
        | nil =>
          rw [e3] at e
          exact absurd e (by decide)
        | cons c r =>
          refine iteF ⟨_, rfl, x, 0, c, rfl, rfl, line_of (by omega), at0 e3, rfl, ?_⟩
          have e4 : (!decide (V.str ⟨#[c]⟩ = V.str "0")) = decide ((tl x).head? ≠ some 48) := by
            rw [dstr, tl_0, tl_one, e3, ← decide_not]
            congr 1
            simp
          show Q (.bl (!decide (V.str ⟨#[c]⟩ = V.str "0"))) H
          rw [e4]
          exact q
theorem ok_fits_number (F : Fun K "_fits_number" "_fits_number" s_fits_number f fd) (T : Txt K mg aK) (D_are_plain_digits : Dfn P w K mg base "are_plain_digits" 1 ["signs"] spPlain) :
    FnOk P w K mg base CX0 2 f fd ["text"] spFitsNum := by
  obtain ⟨t0, gV⟩ := T.g_value
  refine F.ok sc_fits_number (fun vs H Q E h => ?_) (fun cdv A outer s H vs Q E hr h => ?_)
  · obtain ⟨x, rfl, _⟩ := h
    rfl
  · obtain ⟨x, rfl, hx, hne, q⟩ := h
    have hl := hx.2
    refine ⟨_, (pss_cons (ps_set (i := 1) sc_fits_number.nd rfl (Or.inl rfl) (pe_ifExp (pt_cmpR op_eq (pe_ix ix_str (pv 0) pe_int (fun _ _ => rfl)) pe_str (nomark _)) (pe_slice sl_str (pv 0) (po_some pe_int) po_none) (pv 0))) (pss_one (ps_ret (pe_and (pe_d D_are_plain_digits hr (by decide) (pa_cons (pv 1) pa_nil)) (pe_and (pe_cmpR op_ne (pv 0) pe_str (nomark _)) (pe_one (pe_cmpR op_le (pe_callTy call_int_str (by rfl) T.b_int (by decide +kernel) (pa_cons (pv 1) pa_nil)) (pe_glob (v := .int 1000000000000000) rfl gV ⟨_, rfl⟩) (nomark _)))))))), ?_⟩
    cases e : tl x with
    | nil => exact absurd e (ne_of_tl hne)
    | cons c r =>
      have e5 : decide (V.str ⟨#[c]⟩ = V.str "-") = decide (c = 45) := by
        rw [dstr, tl_dash, tl_one]
        congr 1
        simp
      -- what follows, once digits is known
      have key : ∀ (y : Str), tl y = numPart (tl x) → tAndV (tCall spPlain [] E0 (tCons (tVar 1) tNil)) (tAndV (tOp rNe (tVar 0) (tC (.str "-0"))) (tOp (rI0 fun i j => .bl (decide (i ≤ j))) (tCB (fun xs H Q => ∃ a n, xs = [.str a] ∧ PySem.intText? a = some n ∧ a.length ≤ 640 ∧ Q (.int n) H) (tCons (tVar 1) tNil)) (tC (.int 1000000000000000)))) [some (.str x), some (.str y)] H Q := by
        intro y hy
        have hs : Sgn (tl y) := by
          rw [hy]
          unfold numPart
          split
          · exact fun d hd => hx.1 d (List.mem_of_mem_tail hd)
          · exact hx.1
        have hyl : y.length ≤ 100 := by
          rw [len_tl, hy]
          have e9 := len_tl x
          unfold numPart
          split
          · rw [List.length_tail]
            omega
          · omega
        refine ⟨_, rfl, y, rfl, hs, hyl, _, rfl, ?_⟩
        unfold fitNum at q
        rw [← hy] at q
        cases e6 : plainD (tl y) with
        | false =>
          rw [e6] at q
          exact iteF q
        | true =>
          rw [e6] at q
          refine iteT ⟨_, rfl, rfl, _, rfl, ?_⟩
          rw [dstr, tl_m0]
          have e7 : (!decide (tl x = [45, 48])) = decide (tl x ≠ [45, 48]) := (decide_not).symm
          show if (!decide (tl x = [45, 48])) = true then _ else _
          rw [e7]
          cases e8 : decide (tl x ≠ [45, 48]) with
          | false =>
            rw [e8] at q
            exact iteF q
          | true =>
            rw [e8] at q
            obtain ⟨h1, h2, _⟩ := plainD_iff.mp e6
            exact iteT ⟨_, rfl, y, _, rfl, intText_digits h2 h1 (by omega), by omega, _, _, rfl, rfl, q⟩
      refine ⟨_, rfl, x, 0, c, rfl, rfl, line_of (by omega), at0 e, rfl, _, rfl, ?_⟩
      rw [e5]
      by_cases hc : c = 45
      · rw [decide_eq_true hc]
        refine iteT ⟨_, rfl, _, rfl, x, rfl, line_of (by omega), key _ ?_⟩
        rw [cut_from1]
        unfold numPart
        rw [if_pos (by rw [e, hc]; rfl)]
      · rw [decide_eq_false hc]
        refine iteF ⟨_, rfl, key _ ?_⟩
        unfold numPart
        rw [if_neg (by rw [e]; intro z; exact hc (Option.some.inj z))]
theorem ok_read_place (F : Fun K "read_place" "read_place" s_read_place f fd) (T : Txt K mg aK) (D_are_plain_digits : Dfn P w K mg base "are_plain_digits" 1 ["signs"] spPlain) :
    FnOk P w K mg base CX0 2 f fd ["signs"] spPlace := by
  obtain ⟨t0, gN⟩ := T.g_number
  refine F.ok sc_read_place (fun vs H Q E h => ?_) (fun cdv A outer s H vs Q E hr h => ?_)
  · obtain ⟨x, rfl, _⟩ := h
    rfl
  · obtain ⟨x, rfl, hx, q⟩ := h
    have hl := hx.2
    refine ⟨_, (pss_cons (ps_if (PW.pt (pw_or (pt_not (pt_val (pe_d D_are_plain_digits hr (by decide) (pa_cons (pv 0) pa_nil)))) (pw_or1 (pt_cmpR op_gt (pe_callB call_len_str (by rfl) T.b_len (by decide +kernel) (pa_cons (pv 0) pa_nil)) (pe_callB call_len_str (by rfl) T.b_len (by decide +kernel) (pa_cons (pe_callTy call_str_int (by rfl) T.b_str (by decide +kernel) (pa_cons (pe_glob (v := .int 1000000000000) rfl gN ⟨_, rfl⟩) pa_nil)) pa_nil)) (nomark _))))) (pss_one (ps_ret pe_non)) pss_nil) (pss_cons (ps_set (i := 1) sc_read_place.nd rfl (Or.inl rfl) (pe_callTy call_int_str (by rfl) T.b_int (by decide +kernel) (pa_cons (pv 0) pa_nil))) (pss_one (ps_ret (pe_ifExp (pt_cmpR op_le (pv 1) (pe_glob (v := .int 1000000000000) rfl gN ⟨_, rfl⟩) (nomark _)) (pv 1) pe_non))))), ?_⟩
    refine ⟨_, rfl, x, rfl, hx.1, hx.2, _, rfl, ?_⟩
    unfold plcOf at q
    cases e6 : plainD (tl x) with
    | false =>
      rw [e6] at q
      exact iteT q
    | true =>
      rw [e6] at q
      obtain ⟨h1, h2, _⟩ := plainD_iff.mp e6
      refine iteF ⟨_, rfl, _, rfl, line_of (by omega), _, rfl, by decide, _, rfl, by decide +kernel, _, _, rfl, rfl, _, rfl, ?_⟩
      have e13 : ((PySem.Str.ofString (toString (1000000000000 : Int))).length : Int) = 13 := by decide +kernel
      rw [e13]
      by_cases h13 : (13 : Int) < (x.length : Int)
      · rw [decide_eq_true h13]
        have hn := long_plain e6 (by have := len_tl x; omega)
        rw [decide_eq_false hn] at q
        exact iteT q
      · rw [decide_eq_false h13]
        refine iteF ⟨_, rfl, x, _, rfl, intText_digits h2 h1 (by omega), by omega, _, rfl, _, _, rfl, rfl, _, rfl, ?_⟩
        have e7 : decide ((digitsVal (tl x) : Int) ≤ 10 ^ 12) = decide ((digitsVal x.cps.toList : Int) ≤ 1000000000000) := rfl
        rw [e7] at q
        by_cases h14 : (digitsVal x.cps.toList : Int) ≤ 1000000000000
        · rw [decide_eq_true h14] at q ⊢
          exact iteT ⟨_, rfl, q⟩
        · rw [decide_eq_false h14] at q ⊢
          exact iteF q
theorem ok_read_number (F : Fun K "read_number" "read_number" s_read_number f fd) (D_read_place : Dfn P w K mg base "read_place" 2 ["signs"] spPlace) :
    FnOk P w K mg base CX0 3 f fd ["signs"] spNumber := by
  refine F.ok sc_read_number (fun vs H Q E h => ?_) (fun cdv A outer s H vs Q E hr h => ?_)
  · obtain ⟨x, rfl, _⟩ := h
    rfl
  · obtain ⟨x, rfl, hx, q⟩ := h
    refine ⟨_, (pss_cons (ps_set (i := 1) sc_read_number.nd rfl (Or.inl rfl) (pe_d D_read_place hr (by decide) (pa_cons (pv 0) pa_nil))) (pss_one (ps_ret (pe_ifExp (pt_cmpR op_eq (pv 1) pe_int (nomark _)) pe_non (pv 1))))), ?_⟩
    refine ⟨_, rfl, x, rfl, hx, ?_⟩
    rw [link_plc] at q
    cases e6 : plcOf (tl x) with
    | false =>
      rw [e6] at q
      exact ⟨_, rfl, rfl, _, rfl, iteF ⟨_, rfl, q⟩⟩
    | true =>
      rw [e6] at q
      refine ⟨_, rfl, rfl, _, rfl, ?_⟩
      by_cases h0 : (digitsVal (tl x) : Int) = 0
      · have h0' : decide (V.int (digitsVal (tl x) : Int) = V.int 0) = true := decide_eq_true (by rw [h0])
        rw [decide_eq_false (not_not_intro h0)] at q
        show if decide (V.int (digitsVal (tl x) : Int) = V.int 0) = true then _ else _
        rw [h0']
        exact iteT q
      · have h0' : decide (V.int (digitsVal (tl x) : Int) = V.int 0) = false := decide_eq_false (fun z => h0 (by injection z))
        rw [decide_eq_true h0] at q
        show if decide (V.int (digitsVal (tl x) : Int) = V.int 0) = true then _ else _
        rw [h0']
        exact iteF ⟨_, rfl, q⟩
theorem ok_fits_exactly (F : Fun K "_fits_exactly" "_fits_exactly" s_fits_exactly f fd) (D_fits_number : Dfn P w K mg base "_fits_number" 2 ["text"] spFitsNum) (D_read_number : Dfn P w K mg base "read_number" 3 ["signs"] spNumber) :
    FnOk P w K mg base CX0 4 f fd ["kind", "text"] spFitsX := by
  refine F.ok sc_fits_exactly (fun vs H Q E h => ?_) (fun cdv A outer s H vs Q E hr h => ?_)
  · obtain ⟨k, x, rfl, _⟩ := h
    rfl
  · obtain ⟨k, x, rfl, hx, hne, q⟩ := h
    refine ⟨_, (pss_cons (ps_if (pt_cmpR op_eq (pv 0) pe_str (nomark _)) (pss_one (ps_ret (pe_d D_fits_number hr (by decide) (pa_cons (pv 1) pa_nil)))) pss_nil) (pss_cons (ps_if (pt_cmpR op_eq (pv 0) pe_str (nomark _)) (pss_one (ps_ret (pe_cmpR op_in_seq (pv 1) (pe_tup (pa_cons pe_str (pa_cons pe_str pa_nil))) rfl))) pss_nil) (pss_cons (ps_if (pt_cmpR op_eq (pv 0) pe_str (nomark _)) (pss_one (ps_ret (pe_cmpR op_notN (pe_d D_read_number hr (by decide) (pa_cons (pv 1) pa_nil)) pe_non (nomark _)))) pss_nil) (pss_one (ps_ret (pe_cmpR op_eq (pv 0) pe_str (nomark _))))))), ?_⟩
    have kk : ∀ a : Kd, decide (V.str k.str = V.str a.str) = decide (k = a) := fun a => by
      rw [Bool.eq_iff_iff, decide_eq_true_eq, decide_eq_true_eq]
      exact ⟨fun z => kd_inj.mp (by injection z), fun z => by rw [z]⟩
    refine ⟨_, rfl, rfl, _, rfl, ?_⟩
    rw [show decide (V.str k.str = V.str "number") = decide (k = .number) from kk .number]
    cases k with
    | number => exact iteT ⟨_, rfl, x, rfl, hx, hne, q H (Same.refl H)⟩
    | flag =>
      refine iteF ⟨_, rfl, rfl, _, rfl, ?_⟩
      refine iteT ⟨_, rfl, by decide, fun p hp => ⟨p, _, rfl, .inr (SqT.of upd_same), rfl, rfl, ?_⟩⟩
      have e : inV (.str x) [.str "yes", .str "no"] = decide (x = "yes" ∨ x = "no") := by
        rw [Bool.eq_iff_iff, decide_eq_true_eq]
        unfold inV
        simp [eqV]
        constructor <;> (intro z; rcases z with z | z <;> simp [z])
      show Q (.bl (inV (.str x) [.str "yes", .str "no"])) _
      rw [e]
      exact q _ fun b o ho => by rw [upd_ne (ne_of_none ho hp)]; exact ho
    | link =>
      refine iteF ⟨_, rfl, rfl, _, rfl, ?_⟩
      refine iteF ⟨_, rfl, rfl, _, rfl, ?_⟩
      refine iteT ⟨_, rfl, x, rfl, hx, ?_⟩
      have q1 : Q (.bl (fitLink (tl x))) H := q H (Same.refl H)
      cases e : fitLink (tl x) with
      | true =>
        rw [e] at q1
        exact ⟨rfl, q1⟩
      | false =>
        rw [e] at q1
        exact ⟨rfl, q1⟩
    | exact =>
      refine iteF ⟨_, rfl, rfl, _, rfl, ?_⟩
      refine iteF ⟨_, rfl, rfl, _, rfl, ?_⟩
      refine iteF ⟨_, rfl, rfl, ?_⟩
      exact q H (Same.refl H)
    | text =>
      refine iteF ⟨_, rfl, rfl, _, rfl, ?_⟩
      refine iteF ⟨_, rfl, rfl, _, rfl, ?_⟩
      refine iteF ⟨_, rfl, rfl, ?_⟩
      exact q H (Same.refl H)
end
end Bw

namespace Bw
open PySem PySem.Spec L2 TL PyProof.Rows
open NumText (AllDigits digitsVal)

theorem same_new {H : Hp} {p : Addr} {o : HO} (h : H p = none) : Same H (upd H p o) := fun b u e => by
  rw [upd_ne (ne_of_none e h)]
  exact e
def spKnown : Sp := fun vs H Q _ => ∃ (k : Kd) (x : Str), vs = [.str k.str, .str x] ∧ IsTx x ∧ x ≠ "" ∧ ∀ H', Same H H' → Q (ov (kform k x)) H'
def spFit (K : PySem.W.Frag) : Sp := fun vs H Q _ => ∃ (k : Kd) (v : V), vs = [.str k.str, v] ∧
  ((∃ x, v = .str x ∧ x.length ≤ sizeLine ∧ ∀ H', Same H H' → Q (.bl (isTx x && (kform k x).isSome)) H') ∨ (NotStr K H v ∧ ∀ H', Same H H' → Q (.bl false) H'))
def spForm (K : PySem.W.Frag) : Sp := fun vs H Q _ => ∃ (k : Kd) (v : V), vs = [.str k.str, v] ∧
  ((∃ x, v = .str x ∧ x.length ≤ sizeLine ∧ ∀ H', Same H H' → Q (.bl (isTx x && decide (kform k x = some x))) H') ∨ (NotStr K H v ∧ ∀ H', Same H H' → Q (.bl false) H'))
/-- the order of forms -/
def lessF (k : Kd) (a b : Str) : Bool := if k = .number then decide (numVal (tl a) < numVal (tl b)) else decide (a.cps.toList < b.cps.toList)
def spLess : Sp := fun vs H Q _ => ∃ (k : Kd) (a b : Str), vs = [.str k.str, .str a, .str b] ∧ (k = .exact ∨ k = .number ∨ k = .text) ∧ IsTx a ∧ a ≠ "" ∧ IsTx b ∧ b ≠ "" ∧ kform k a = some a ∧ kform k b = some b ∧
  ∀ H', Same H H' → Q (.bl (lessF k a b)) H'
theorem NotStr.up {K : PySem.W.Frag} {H H' : Hp} {v : V} (e : Same H H') (h : NotStr K H v) : NotStr K H' v := by
  obtain ⟨t, ty, k⟩ := h
  refine ⟨t, ?_, k⟩
  cases ty with
  | base b =>
    refine .base ?_
    cases b with
    | non => exact .non
    | bl x => exact .bl x
    | int i => exact .int i
    | str x => exact .str x
    | flt x => exact .flt x
    | lst q => exact .lst (e _ _ q)
    | frz q => exact .frz (e _ _ q)
    | tup q => exact .tup (e _ _ q)
    | dK q => exact .dK (e _ _ q)
    | dT q => exact .dT (e _ _ q)
    | ins q cl ha hn htk hm => exact .ins (e _ _ q) cl ha hn htk hm
  | byt b => exact .byt b
  | set q => exact .set (e _ _ q)
  | kList q c => exact .kList q c
  | kTuple q c => exact .kTuple q c
  | kDict q c => exact .kDict q c
  | fTuple q => exact .fTuple (e _ _ q)
  | fDict q => exact .fDict (e _ _ q)
section
variable {P : Program} {w : World} {K : PySem.W.Frag} {mg : Str → Option Value} {base : Heap} {f : Addr} {fd : FuncData} {aK : Addr}
theorem kform_fits {k : Kd} (hk : k ≠ .text) (x : Str) : kform k x = if fitsX k x = true then some x else none := by
  cases k with
  | text => exact absurd rfl hk
  | exact => rfl
  | number => rfl
  | link => rfl
  | flag =>
    show (if x = "yes" ∨ x = "no" then some x else none) = if decide (x = "yes" ∨ x = "no") = true then some x else none
    by_cases h : x = "yes" ∨ x = "no"
    · rw [if_pos h, if_pos (decide_eq_true h)]
    · rw [if_neg h, if_neg (by rw [decide_eq_false h]; exact Bool.false_ne_true)]
theorem kk (k a : Kd) : decide (V.str k.str = V.str a.str) = decide (k = a) := by
  rw [Bool.eq_iff_iff, decide_eq_true_eq, decide_eq_true_eq]
  exact ⟨fun z => kd_inj.mp (by injection z), fun z => by rw [z]⟩
theorem ok_known_form (F : Fun K "known_form" "known_form" s_known_form f fd) (D_fits_exactly : Dfn P w K mg base "_fits_exactly" 4 ["kind", "text"] spFitsX) :
    FnOk P w K mg base CX0 5 f fd ["kind", "text"] spKnown := by
  refine F.ok sc_known_form (fun vs H Q E h => ?_) (fun cdv A outer s H vs Q E hr h => ?_)
  · obtain ⟨k, x, rfl, _⟩ := h
    rfl
  · obtain ⟨k, x, rfl, hx, hne, q⟩ := h
    have hl := hx.2
    refine ⟨_, (pss_cons (ps_if (pt_cmpR op_ne (pv 0) pe_str (nomark _)) (pss_one (ps_ret (pe_ifExp (pt_val (pe_d D_fits_exactly hr (by decide) (pa_cons (pv 0) (pa_cons (pv 1) pa_nil)))) (pv 1) pe_non))) pss_nil) (pss_cons (ps_set (i := 2) sc_known_form.nd rfl (Or.inl rfl) (pe_join pe_str (pe_words (pe_lower (pv 1))))) (pss_one (ps_ret (pe_ifExp (pt_cmpR op_ne (pv 2) pe_str (nomark _)) (pv 2) pe_non))))), ?_⟩
    refine ⟨_, rfl, rfl, _, rfl, ?_⟩
    rw [show decide (V.str k.str = V.str "text") = decide (k = .text) from kk k .text]
    by_cases hk : k = .text
    · subst hk
      refine iteF ?_
      -- ' '.join(text.lower().split())
      have hz : (Txt.lower x).length ≤ 100 := by
        rw [len_tl, tl_lower hx.1, List.length_map, ← len_tl]
        exact hl
      refine ⟨⟨_, rfl⟩, _, rfl, ⟨_, rfl⟩, _, rfl, rfl, by omega, ⟨_, rfl⟩, _, rfl, rfl, line_of (by omega), fun p hp => ?_⟩
      have hw : ((Txt.words (Txt.lower x)).map (·.length)).sum ≤ 1000 ∧ (Txt.words (Txt.lower x)).length ≤ 101 := by
        have e := words_tl (Txt.lower x)
        have e1 : (Txt.words (Txt.lower x)).map (·.length) = (wordsL (tl (Txt.lower x))).map List.length := by
          unfold wordsL
          rw [← e, List.map_map]
          refine List.map_congr_left fun a _ => ?_
          exact len_tl a
        have e2 := words_le (Txt.lower x)
        refine ⟨?_, by omega⟩
        rw [e1]
        have e3 := wfold_len (tl (Txt.lower x)) ([], [])
        have e4 : wsum ([] : List (List Nat)) = 0 := rfl
        simp only [e4, List.length_nil] at e3
        have e5 : ∀ ws : List (List Nat), (ws.map List.length).sum ≤ wsum ws := fun ws => by
          induction ws with
          | nil => exact Nat.le_refl _
          | cons a r ih =>
            have : wsum (a :: r) = (a.length + 1) + wsum r := by unfold wsum; simp
            rw [List.map_cons, List.sum_cons, this]
            omega
        have e6 := len_tl (Txt.lower x)
        have e7 := e5 ((tl (Txt.lower x)).foldl wstep ([], [])).1
        unfold wordsL wfin
        split
        · omega
        · rw [List.map_append, List.sum_append]
          show _ + ((List.foldl wstep ([], []) (tl (Txt.lower x))).2.length + 0) ≤ 1000
          omega
      refine ⟨" ", p, Txt.words (Txt.lower x), rfl, rfl, .inl (SqL.of upd_same), ?_, ?_⟩
      · have : (" " : Str).length = 1 := by decide +kernel
        rw [this]
        omega
      · refine ⟨_, rfl, rfl, _, rfl, ?_⟩
        have e9 : (!decide (V.str (Txt.join " " (Txt.words (Txt.lower x))) = V.str "")) = !decide (normS x = "") := by
          congr 1
          rw [Bool.eq_iff_iff, decide_eq_true_eq, decide_eq_true_eq]
          exact ⟨fun z => by injection z, fun z => by rw [← z]; rfl⟩
        rw [e9]
        have q1 := q _ (same_new hp (o := .lst ((Txt.words (Txt.lower x)).map V.str)))
        have q2 : Q (ov (if normS x = "" then none else some (normS x))) _ := q1
        by_cases z : normS x = ""
        · rw [if_pos z] at q2
          rw [decide_eq_true z]
          exact iteF q2
        · rw [if_neg z] at q2
          rw [decide_eq_false z]
          exact iteT ⟨_, rfl, q2⟩
    · rw [decide_eq_false hk]
      refine iteT ⟨_, rfl, _, rfl, k, x, rfl, hx, hne, fun H' e => ⟨_, rfl, ?_⟩⟩
      have q1 := q H' e
      rw [kform_fits hk] at q1
      cases z : fitsX k x with
      | true =>
        rw [z, if_pos rfl] at q1
        exact iteT ⟨_, rfl, q1⟩
      | false =>
        rw [z, if_neg Bool.false_ne_true] at q1
        exact iteF q1
theorem ok_form_of (F : Fun K "form_of" "form_of" s_form_of f fd) (D_need_kind : Dfn P w K mg base "_need_kind" 1 ["kind"] spNeed) (D_is_text : Dfn P w K mg base "is_text" 2 ["value"] (spIsText K))
    (D_known_form : Dfn P w K mg base "known_form" 5 ["kind", "text"] spKnown) : FnOk P w K mg base CX0 6 f fd ["kind", "text"] spKnown := by
  refine F.ok sc_form_of (fun vs H Q E h => ?_) (fun cdv A outer s H vs Q E hr h => ?_)
  · obtain ⟨k, x, rfl, _⟩ := h
    rfl
  · obtain ⟨k, x, rfl, hx, hne, q⟩ := h
    have hl := hx.2
    refine ⟨_, (pss_cons (ps_expr (pe_d D_need_kind hr (by decide) (pa_cons (pv 0) pa_nil))) (pss_cons (ps_if (pt_not (pt_val (pe_d D_is_text hr (by decide) (pa_cons (pv 1) pa_nil)))) (pss_one ps_never) pss_nil) (pss_one (ps_ret (pe_d D_known_form hr (by decide) (pa_cons (pv 0) (pa_cons (pv 1) pa_nil))))))), ?_⟩
    refine ⟨_, rfl, k, rfl, ?_⟩
    refine ⟨_, rfl, _, rfl, .inl ⟨x, rfl, line_of (by omega), _, rfl, ?_⟩⟩
    rw [(isTx_iff x).mpr ⟨hx, hne⟩]
    exact iteF ⟨_, rfl, _, rfl, k, x, rfl, hx, hne, q⟩
theorem scal_ov (o : Option Str) (x : Str) : scal (ov o) (.str x) = true := by cases o <;> rfl
theorem dec_ov (o : Option Str) (x : Str) : decide (ov o = V.str x) = decide (o = some x) := by
  rw [Bool.eq_iff_iff, decide_eq_true_eq, decide_eq_true_eq]
  exact ov_inj (b := some x)
theorem ok_is_form (F : Fun K "is_form" "is_form" s_is_form f fd) (D_need_kind : Dfn P w K mg base "_need_kind" 1 ["kind"] spNeed) (D_is_text : Dfn P w K mg base "is_text" 2 ["value"] (spIsText K))
    (D_known_form : Dfn P w K mg base "known_form" 5 ["kind", "text"] spKnown) : FnOk P w K mg base CX0 6 f fd ["kind", "value"] (spForm K) := by
  refine F.ok sc_is_form (fun vs H Q E h => ?_) (fun cdv A outer s H vs Q E hr h => ?_)
  · obtain ⟨k, v, rfl, _⟩ := h
    rfl
  · obtain ⟨k, v, rfl, h⟩ := h
    refine ⟨_, (pss_cons (ps_expr (pe_d D_need_kind hr (by decide) (pa_cons (pv 0) pa_nil))) (pss_one (ps_ret (pe_and (pe_d D_is_text hr (by decide) (pa_cons (pv 1) pa_nil)) (pe_one (pe_cmpR op_eq (pe_d D_known_form hr (by decide) (pa_cons (pv 0) (pa_cons (pv 1) pa_nil))) (pv 1) (nomark _))))))), ?_⟩
    refine ⟨_, rfl, k, rfl, ?_⟩
    rcases h with ⟨x, rfl, hl, q⟩ | ⟨ns, q⟩
    · refine ⟨_, rfl, _, rfl, .inl ⟨x, rfl, hl, _, rfl, ?_⟩⟩
      cases e : isTx x with
      | false =>
        rw [e] at q
        exact iteF (q H (Same.refl H))
      | true =>
        rw [e] at q
        obtain ⟨hx, hne⟩ := (isTx_iff x).mp e
        refine iteT ⟨_, rfl, _, rfl, k, x, rfl, hx, hne, fun H' e' => ⟨_, rfl, scal_ov _ _, ?_⟩⟩
        rw [dec_ov]
        exact q H' e'
    · exact ⟨_, rfl, _, rfl, .inr ⟨ns, _, rfl, iteF (q H (Same.refl H))⟩⟩
end
end Bw

set_option exponentiation.threshold 4000
namespace Bw
open PySem PySem.Spec L2 TL PyProof.Rows
open NumText (AllDigits digitsVal)

/-! ### the law's dice -/
def DiceAt (H : Hp) (d : Addr) : Prop := ∃ a b c : Int, H d = some (.lst [.int a, .int b, .int c])
/-- all but the dice is as it was -/
def Moved (d : Addr) (H H' : Hp) : Prop := (∀ b o, b ≠ d → H b = some o → H' b = some o) ∧ DiceAt H' d
theorem Moved.trans {d : Addr} {H H1 H2 : Hp} (a : Moved d H H1) (b : Moved d H1 H2) : Moved d H H2 := ⟨fun x o n h => b.1 x o n (a.1 x o n h), b.2⟩
theorem Moved.same {d : Addr} {H H1 : Hp} (h : DiceAt H d) (a : Same H H1) : Moved d H H1 := ⟨fun x o _ h => a x o h, by
  obtain ⟨x, y, z, e⟩ := h
  exact ⟨x, y, z, a _ _ e⟩⟩
theorem Moved.refl {d : Addr} {H : Hp} (h : DiceAt H d) : Moved d H H := Moved.same h (Same.refl H)
theorem DiceAt.same {d : Addr} {H H1 : Hp} (h : DiceAt H d) (a : Same H H1) : DiceAt H1 d := (Moved.same h a).2
theorem DiceAt.ne {d p : Addr} {H : Hp} (h : DiceAt H d) (hp : H p = none) : d ≠ p := by
  obtain ⟨x, y, z, e⟩ := h
  exact ne_of_none e hp
theorem moved_upd {d : Addr} {H : Hp} {a b c : Int} : Moved d H (upd H d (.lst [.int a, .int b, .int c])) := ⟨fun x o n h => by rw [upd_ne n]; exact h, a, b, c, upd_same⟩

def spDice (K : PySem.W.Frag) : Sp := fun vs H Q _ => ∃ (a : Addr) (ns : List Int) (i : Nat), vs = [.ref a, .int i] ∧ SqL K H a (ns.map V.int) ∧
  ∀ p H', H p = none → Same H H' → DiceAt H' p → Q (.ref p) H'
def spRoll : Sp := fun vs H Q _ => ∃ (d : Addr) (n : Int), vs = [.ref d, .int n] ∧ 0 < n ∧ n < 1000000000 ∧ DiceAt H d ∧
  ∀ (r : Int) H', 0 ≤ r → r < n → Moved d H H' → Q (.int r) H'
def spOne : Sp := fun vs H Q _ => ∃ (d l : Addr) (xs : List V), vs = [.ref d, .ref l] ∧ H l = some (.lst xs) ∧ l ≠ d ∧ xs ≠ [] ∧ xs.length < 1000000000 ∧ DiceAt H d ∧
  ∀ v H', v ∈ xs → Moved d H H' → Q v H'
section
variable {P : Program} {w : World} {K : PySem.W.Frag} {mg : Str → Option Value} {base : Heap} {f : Addr} {fd : FuncData} {aK : Addr}
theorem pow60 : ((10 : Int) ^ (60 : Int).toNat) = 10 ^ 60 := rfl
theorem ok_law_dice (F : Fun K "_law_dice" "_law_dice" s_law_dice f fd) (T : Txt K mg aK) : FnOk P w K mg base CX0 1 f fd ["_law_script", "_law_at"] (spDice K) := by
  refine F.ok sc_law_dice (fun vs H Q E h => ?_) (fun cdv A outer s H vs Q E hr h => ?_)
  · obtain ⟨a, ns, i, rfl, _⟩ := h
    rfl
  · obtain ⟨a, ns, i, rfl, hS, q⟩ := h
    refine ⟨_, (pss_cons (ps_set (i := 2) sc_law_dice.nd rfl (Or.inl rfl) (pe_op op_add (pe_op op_mul pe_int (pv 1)) pe_int)) (pss_cons (ps_if (pt_cmpR op_lt (pv 1) (pe_callB call_len_seq (by rfl) T.b_len (by decide +kernel) (pa_cons (pv 0) pa_nil)) (nomark _)) (pss_one (ps_set (i := 2) sc_law_dice.nd rfl (Or.inl rfl) (pe_ix ix_list (pv 0) (pv 1) (fun _ _ => rfl)))) pss_nil) (pss_cons (ps_set (i := 3) sc_law_dice.nd rfl (Or.inl rfl) (pe_op op_mod (pe_callTy call_int1 (by rfl) T.b_int (by decide +kernel) (pa_cons (pe_callB call_abs (by rfl) T.b_abs (by decide +kernel) (pa_cons (pv 2) pa_nil)) pa_nil)) (pe_op op_powW (pe_op op_pow pe_int pe_int) pe_int))) (pss_cons (ps_set (i := 4) sc_law_dice.nd rfl (Or.inl rfl) (pe_op op_fdivW (pv 3) (pe_op op_pow pe_int pe_int))) (pss_cons (ps_set (i := 5) sc_law_dice.nd rfl (Or.inl rfl) (pe_op op_add (pe_op op_add (pe_op op_add (pe_op op_mul (pe_op op_mod (pv 3) pe_int) pe_int) (pe_op op_mul pe_int (pv 1))) (pe_op op_mul pe_int (pe_callTy call_int1 (by rfl) T.b_int (by decide +kernel) (pa_cons (pe_cmpR op_lt (pv 2) pe_int (nomark _)) pa_nil)))) pe_int)) (pss_one (ps_ret (pe_lst (pa_cons (pv 4) (pa_cons (pe_op op_mod (pv 5) pe_int) (pa_cons pe_int pa_nil))))))))))), ?_⟩
    refine ⟨_, rfl, _, _, rfl, rfl, .inl ⟨by decide, by decide⟩, _, _, rfl, rfl, ?_⟩
    refine ⟨_, rfl, _, rfl, a, _, rfl, .inl hS, _, _, rfl, rfl, _, rfl, ?_⟩
    have hp60 : CPow 10 60 := ⟨by decide, by decide, by decide⟩
    have hp18 : CPow 10 18 := ⟨by decide, by decide, by decide⟩
    have hpW : CPowW ((10 : Int) ^ (60 : Int).toNat) 10 := ⟨by decide, by decide +kernel⟩
    have hps : (0 : Int) < ((10 : Int) ^ (60 : Int).toNat) ^ (10 : Int).toNat := by decide +kernel
    have hdW : ∀ g : Int, CDivW g ((10 : Int) ^ (18 : Int).toNat) := fun g => ⟨by decide +kernel, by decide +kernel⟩
    refine ite2 (fun hc => ?_) (fun _ => ?_)
    · have hlt : i < ns.length := by
        have := of_decide_eq_true hc
        rw [List.length_map] at this
        omega
      refine ⟨_, rfl, _, rfl, a, _, _, _, rfl, rfl, hS, atI_nat (j := i) (v := .int ns[i]) (by simp [hlt]), ?_⟩
      refine ⟨_, rfl, _, rfl, .inl ⟨_, rfl, _, _, rfl, rfl, hp60, _, _, rfl, rfl, hpW, _, _, rfl, rfl, hps, ?_⟩⟩
      refine ⟨_, rfl, _, _, rfl, rfl, hp18, _, _, rfl, rfl, hdW _, ?_⟩
      refine ⟨_, rfl, _, _, rfl, rfl, (by show (0 : Int) < 2147482763; decide), _, _, rfl, rfl, .inr ⟨by decide, by decide⟩, _, rfl, _, _, rfl, rfl, .inl ⟨by decide, by decide⟩, _, _, rfl, rfl, _, rfl, _, _, rfl, rfl, .inr ⟨_, rfl, _, _, rfl, rfl, .inl ⟨by decide, by decide⟩, _, _, rfl, rfl, _, _, rfl, rfl, ?_⟩⟩
      exact ⟨_, rfl, _, rfl, _, _, rfl, rfl, (by show (0 : Int) < 2147482739; decide), (by show 3 ≤ sizeLine; decide), fun p hp => q p _ hp (same_new hp) ⟨_, _, _, upd_same⟩⟩
    · refine ⟨_, rfl, _, rfl, .inl ⟨_, rfl, _, _, rfl, rfl, hp60, _, _, rfl, rfl, hpW, _, _, rfl, rfl, hps, ?_⟩⟩
      refine ⟨_, rfl, _, _, rfl, rfl, hp18, _, _, rfl, rfl, hdW _, ?_⟩
      refine ⟨_, rfl, _, _, rfl, rfl, (by show (0 : Int) < 2147482763; decide), _, _, rfl, rfl, .inr ⟨by decide, by decide⟩, _, rfl, _, _, rfl, rfl, .inl ⟨by decide, by decide⟩, _, _, rfl, rfl, _, rfl, _, _, rfl, rfl, .inr ⟨_, rfl, _, _, rfl, rfl, .inl ⟨by decide, by decide⟩, _, _, rfl, rfl, _, _, rfl, rfl, ?_⟩⟩
      exact ⟨_, rfl, _, rfl, _, _, rfl, rfl, (by show (0 : Int) < 2147482739; decide), (by show 3 ≤ sizeLine; decide), fun p hp => q p _ hp (same_new hp) ⟨_, _, _, upd_same⟩⟩
theorem emod_nn (a : Int) {n : Int} (h : 0 < n) : 0 ≤ a % n ∧ a % n < n := ⟨Int.emod_nonneg a (by omega), Int.emod_lt_of_pos a h⟩
theorem ok_law_roll (F : Fun K "_law_roll" "_law_roll" s_law_roll f fd) (T : Txt K mg aK) : FnOk P w K mg base CX0 1 f fd ["_law_dice_here", "_law_total"] spRoll := by
  refine F.ok sc_law_roll (fun vs H Q E h => ?_) (fun cdv A outer s H vs Q E hr h => ?_)
  · obtain ⟨d, n, rfl, _⟩ := h
    rfl
  · obtain ⟨d, n, rfl, h0, h1, ⟨a, b, c, hd⟩, q⟩ := h
    refine ⟨_, (pss_cons (ps_set (i := 2) sc_law_roll.nd rfl (Or.inl rfl) (pe_callTy call_int1 (by rfl) T.b_int (by decide +kernel) (pa_cons (pv 1) pa_nil))) (pss_cons (ps_if (pt_cmpR op_gt (pe_ix ix_list (pv 0) pe_int (fun _ _ => rfl)) pe_int (nomark _)) (pss_cons (ps_set (i := 3) sc_law_roll.nd rfl (Or.inl rfl) (pe_op op_mod (pe_ix ix_list (pv 0) pe_int (fun _ _ => rfl)) (pv 2))) (pss_cons (ps_asg (pe_op op_fdiv (pe_ix ix_list (pv 0) pe_int (fun _ _ => rfl)) (pv 2)) (pg_sub (pv 0) pe_int set_list)) (pss_one (ps_ret (pe_callTy call_int1 (by rfl) T.b_int (by decide +kernel) (pa_cons (pv 3) pa_nil)))))) pss_nil) (pss_cons (ps_asg (pe_op op_add (pe_ix ix_list (pv 0) pe_int (fun _ _ => rfl)) pe_int) (pg_sub (pv 0) pe_int set_list)) (pss_cons (ps_set (i := 4) sc_law_roll.nd rfl (Or.inl rfl) (pe_op op_mod (pe_op op_add (pe_ix ix_list (pv 0) pe_int (fun _ _ => rfl)) (pe_op op_mul pe_int (pe_ix ix_list (pv 0) pe_int (fun _ _ => rfl)))) pe_int)) (pss_cons (ps_set (i := 5) sc_law_roll.nd rfl (Or.inl rfl) (pe_op op_add (pe_op op_mul (pe_op op_mod (pe_op op_mul (pv 4) (pv 4)) pe_int) (pv 4)) (pe_op op_mul pe_int (pe_ix ix_list (pv 0) pe_int (fun _ _ => rfl))))) (pss_cons (ps_set (i := 5) sc_law_roll.nd rfl (Or.inl rfl) (pe_op op_mod (pv 5) pe_int)) (pss_one (ps_ret (pe_callTy call_int1 (by rfl) T.b_int (by decide +kernel) (pa_cons (pe_op op_mod (pe_op op_fdiv (pv 5) pe_int) (pv 2)) pa_nil)))))))))), ?_⟩
    refine ⟨_, rfl, .inl ⟨_, rfl, ?_⟩⟩
    refine ⟨_, rfl, d, _, _, _, rfl, rfl, SqL.of hd, atI_nat (j := 0) rfl, _, _, rfl, rfl, _, rfl, ?_⟩
    refine ite2 (fun hc => ?_) (fun _ => ?_)
    · refine ⟨_, rfl, d, _, _, _, rfl, rfl, SqL.of hd, atI_nat (j := 0) rfl, _, rfl, _, _, rfl, rfl, h0, ?_⟩
      refine ⟨_, rfl, d, _, _, _, rfl, rfl, SqL.of hd, atI_nat (j := 0) rfl, _, rfl, _, _, rfl, rfl, ⟨h0, by omega⟩, ?_⟩
      refine ⟨_, rfl, d, _, _, 0, rfl, rfl, hd, rfl, ?_⟩
      obtain ⟨e1, e2⟩ := emod_nn a h0
      exact ⟨_, rfl, .inl ⟨_, rfl, q _ _ e1 e2 moved_upd⟩⟩
    · refine ⟨_, rfl, d, _, _, _, rfl, rfl, SqL.of hd, atI_nat (j := 2) rfl, _, _, rfl, rfl, ?_⟩
      refine ⟨_, rfl, d, _, _, 2, rfl, rfl, hd, rfl, ?_⟩
      have hd2 : upd H d (.lst [.int a, .int b, .int (c + 1)]) d = some (.lst [.int a, .int b, .int (c + 1)]) := upd_same
      refine ⟨_, rfl, d, _, _, _, rfl, rfl, SqL.of upd_same, atI_nat (j := 1) rfl, _, rfl, d, _, _, _, rfl, rfl, SqL.of upd_same, atI_nat (j := 2) rfl, _, _, rfl, rfl, .inl ⟨by decide, by decide⟩, _, _, rfl, rfl, _, _, rfl, rfl, (by show (0 : Int) < 2305843009213693951; decide), ?_⟩
      obtain ⟨e1, e2⟩ := emod_nn (b + 1000357 * (c + 1)) (n := 2305843009213693951) (by decide)
      refine ⟨_, rfl, _, rfl, _, _, rfl, rfl, .inl ⟨by omega, by omega⟩, _, _, rfl, rfl, (by show (0 : Int) < 2305843009213693921; decide), _, rfl, _, _, rfl, rfl, .inr ⟨by omega, by omega⟩, _, rfl, d, _, _, _, rfl, rfl, SqL.of upd_same, atI_nat (j := 2) rfl, _, _, rfl, rfl, .inl ⟨by decide, by decide⟩, _, _, rfl, rfl, ?_⟩
      refine ⟨_, rfl, _, _, rfl, rfl, (by show (0 : Int) < 2305843009213693907; decide), ?_⟩
      refine ⟨_, rfl, _, _, rfl, rfl, ⟨by decide, by decide⟩, _, rfl, _, _, rfl, rfl, h0, .inl ⟨_, rfl, ?_⟩⟩
      exact q _ _ (emod_nn _ h0).1 (emod_nn _ h0).2 moved_upd
theorem ok_law_one_of (F : Fun K "_law_one_of" "_law_one_of" s_law_one_of f fd) (T : Txt K mg aK) (D_law_roll : Dfn P w K mg base "_law_roll" 1 ["_law_dice_here", "_law_total"] spRoll) :
    FnOk P w K mg base CX0 2 f fd ["_law_dice_here", "_law_items"] spOne := by
  refine F.ok sc_law_one_of (fun vs H Q E h => ?_) (fun cdv A outer s H vs Q E hr h => ?_)
  · obtain ⟨d, l, xs, rfl, _⟩ := h
    rfl
  · obtain ⟨d, l, xs, rfl, hl, nld, hne, hlen, hd, q⟩ := h
    have hpos : 0 < xs.length := List.length_pos_iff.mpr hne
    refine ⟨_, (pss_one (ps_ret (pe_ix ix_list (pv 1) (pe_d D_law_roll hr (by decide) (pa_cons (pv 0) (pa_cons (pe_callB call_len_seq (by rfl) T.b_len (by decide +kernel) (pa_cons (pv 1) pa_nil)) pa_nil))) (fun _ _ => rfl)))), ?_⟩
    refine ⟨_, rfl, _, rfl, _, rfl, l, _, rfl, .inl (SqL.of hl), d, _, rfl, by omega, by omega, hd, fun r H1 r0 r1 mv => ?_⟩
    obtain ⟨j, rfl⟩ := Int.eq_ofNat_of_zero_le r0
    have hj : j < xs.length := by omega
    exact ⟨l, xs, _, xs[j], rfl, rfl, SqL.of (mv.1 l _ nld hl), atI_nat (by simp [hj]), q _ _ (List.getElem_mem hj) mv⟩
end
end Bw

namespace Bw
open PySem PySem.Spec L2 TL PyProof.Rows

/-! ### patterns -/
theorem szl {n : Nat} (h : n ≤ 1000) : n < sizeLine := by
  have : (1000 : Nat) < sizeLine := by decide
  omega
/-- no tuple at all -/
def NotTup (K : PySem.W.Frag) (H : Hp) (v : V) : Prop := ∃ t, TyX K H v t ∧ PySem.W.kitOne K t (.type "tuple") = some false
/-- a text of few signs, or None -/
def Sc (v : V) : Prop := (∃ x, v = .str x ∧ x.length ≤ 1000) ∨ v = .non
def pcB : V → Bool
  | .str x => isTx x || decide (x = "")
  | _ => false
def txB : V → Bool
  | .str x => isTx x
  | _ => false
def patB (f : V) (ys : List V) (l : V) : Bool := (pcB f && pcB l) && (decide (ys.length ≤ 8) && (ys.all txB && !(decide (f = .str "") && (decide (ys = []) && decide (l = .str "")))))
def spPiece : Sp := fun vs H Q _ => ∃ v, vs = [v] ∧ Sc v ∧ Q (.bl (pcB v)) H
def spIsPat (K : PySem.W.Frag) : Sp := fun vs H Q _ => ∃ v, vs = [v] ∧
  ((NotTup K H v ∧ Q (.bl false) H) ∨
  (∃ a xs, v = .ref a ∧ H a = some (.tup xs) ∧ xs.length ≠ 3 ∧ xs.length ≤ 1000 ∧ Q (.bl false) H) ∨
  (∃ a f m l, v = .ref a ∧ H a = some (.tup [f, m, l]) ∧ Sc f ∧ Sc l ∧
    ((NotTup K H m ∧ Q (.bl false) H) ∨ ∃ b ys, m = .ref b ∧ H b = some (.tup ys) ∧ (∀ y ∈ ys, Sc y) ∧ ys.length ≤ 1000 ∧ ∀ H', Same H H' → Q (.bl (patB f ys l)) H')))
theorem strOk_sgn {x : Str} (h : Sgn (tl x)) : PyData.strOk x = true := by
  unfold PyData.strOk
  rw [← Array.all_toList, List.all_eq_true]
  intro c hc
  have := h c hc
  exact decide_eq_true (by omega)
theorem pc_str {v : V} (h : pcB v = true) : ∃ x, v = .str x ∧ Sgn (tl x) := by
  cases v with
  | str x =>
    have h : (isTx x || decide (x = "")) = true := h
    rw [Bool.or_eq_true, decide_eq_true_eq] at h
    refine ⟨x, rfl, ?_⟩
    rcases h with h | h
    · exact ((isTx_iff x).mp h).1.1
    · rw [h]
      intro c hc
      rw [show tl ("" : Str) = [] by decide +kernel] at hc
      cases hc
  | _ => cases h
theorem tx_strs : ∀ {ys : List V}, ys.all txB = true → ∃ zs : List Str, ys = zs.map V.str ∧ ∀ z ∈ zs, IsTx z ∧ z ≠ ""
  | [], _ => ⟨[], rfl, fun _ z => nomatch z⟩
  | v :: r, h => by
    rw [List.all_cons, Bool.and_eq_true] at h
    obtain ⟨zs, rfl, hz⟩ := tx_strs h.2
    cases v with
    | str x =>
      refine ⟨x :: zs, rfl, fun z hz2 => ?_⟩
      rcases List.mem_cons.mp hz2 with rfl | hz2
      · exact (isTx_iff _).mp h.1
      · exact hz z hz2
    | _ => cases h.1
def patD (f : Str) (zs : List Str) (l : Str) : PyData := .tuple [.str f, .tuple (zs.map PyData.str), .str l]
theorem dp_strs {K : PySem.W.Frag} {H : Hp} : ∀ zs : List Str, DpAll K H (zs.map V.str) (zs.map PyData.str)
  | [] => .nil
  | z :: r => .cons (.str z) (dp_strs r)
theorem dp_pat {K : PySem.W.Frag} {H : Hp} {a b : Addr} {f l : Str} {zs : List Str} (ha : H a = some (.tup [.str f, .ref b, .str l])) (hb : H b = some (.tup (zs.map V.str))) : Dp K H (.ref a) (patD f zs l) :=
  .tup (SqT.of ha) (.cons (.str _) (.cons (.tup (SqT.of hb) (dp_strs zs)) (.cons (.str _) .nil)))
theorem lay_strs : ∀ {zs : List Str}, (∀ z ∈ zs, IsTx z ∧ z ≠ "") → PyData.canLayAll0 (zs.map PyData.str) = true
  | [], _ => rfl
  | z :: r, h => by
    have h1 := (h z (List.mem_cons_self ..)).1.1
    have ih := lay_strs (zs := r) fun q hq => h q (List.mem_cons_of_mem _ hq)
    simp only [List.map_cons, PyData.canLayAll0, PyData.canLay0, strOk_sgn h1, ih, Bool.and_self]
theorem depth_strs : ∀ zs : List Str, PyData.depthAll (zs.map PyData.str) ≤ 4
  | [] => by simp [PyData.depthAll]
  | z :: r => by
    have := depth_strs r
    simp only [List.map_cons, PyData.depthAll, PyData.depth]
    omega
theorem shaped_pat {f l : Str} {zs : List Str} (hf : Sgn (tl f)) (hz : ∀ z ∈ zs, IsTx z ∧ z ≠ "") (hl : Sgn (tl l)) : SeqAt.shaped (patD f zs l) = true := by
  unfold SeqAt.shaped patD
  rw [Bool.and_eq_true]
  refine ⟨?_, decide_eq_true ?_⟩
  · simp only [PyData.canLay0, PyData.canLayAll0, strOk_sgn hf, strOk_sgn hl, lay_strs hz, Bool.and_self]
  · have := depth_strs zs
    simp only [PyData.depth, PyData.depthAll]
    omega
theorem eqv_strs : ∀ a b : List Str, PyData.eqvAll (a.map PyData.str) (b.map PyData.str) = decide (a = b)
  | [], [] => by simp [PyData.eqvAll]
  | [], _ :: _ => by simp [PyData.eqvAll]
  | _ :: _, [] => by simp [PyData.eqvAll]
  | x :: r, y :: t => by
    have ih := eqv_strs r t
    simp only [List.map_cons, PyData.eqvAll, PyData.eqv, ih]
    rw [Bool.eq_iff_iff]
    simp
theorem eqv_pat (f g l m : Str) (a b : List Str) : PyData.eqv (patD f a l) (patD g b m) = decide (f = g ∧ a = b ∧ l = m) := by
  simp only [patD, PyData.eqv, PyData.eqvAll, eqv_strs]
  rw [Bool.eq_iff_iff]
  simp
theorem notStr_non {K : PySem.W.Frag} {H : Hp} : NotStr K H .non := ⟨_, .base .non, kit_ty (by decide +kernel)⟩
section
variable {P : Program} {w : World} {K : PySem.W.Frag} {mg : Str → Option Value} {base : Heap} {f : Addr} {fd : FuncData} {aK : Addr}
theorem ok_is_piece (F : Fun K "_is_piece" "_is_piece" s_is_piece f fd) (T : Txt K mg aK) (D_is_text : Dfn P w K mg base "is_text" 2 ["value"] (spIsText K)) : FnOk P w K mg base CX0 3 f fd ["value"] spPiece := by
  refine F.ok sc_is_piece (fun vs H Q E h => ?_) (fun cdv A outer s H vs Q E hr h => ?_)
  · obtain ⟨v, rfl, _⟩ := h
    rfl
  · obtain ⟨v, rfl, sc, q⟩ := h
    refine ⟨_, (pss_one (ps_ret (pe_or (pe_d D_is_text hr (by decide) (pa_cons (pv 0) pa_nil)) (pe_one (pe_cmpR op_eq (pv 0) pe_str (nomark _)))))), ?_⟩
    rcases sc with ⟨x, rfl, hl⟩ | rfl
    · refine ⟨_, rfl, _, rfl, .inl ⟨x, rfl, line_of (by omega), ?_⟩⟩
      have q : Q (.bl (isTx x || decide (x = ""))) H := q
      cases e : isTx x with
      | true =>
        rw [e] at q
        exact ⟨_, rfl, iteT q⟩
      | false =>
        rw [e, Bool.false_or] at q
        refine ⟨_, rfl, iteF ⟨_, rfl, rfl, ?_⟩⟩
        have e2 : decide (V.str x = V.str "") = decide (x = "") := by
          rw [Bool.eq_iff_iff, decide_eq_true_eq, decide_eq_true_eq]
          exact ⟨fun z => by injection z, fun z => by rw [z]⟩
        rw [e2]
        exact q
    · exact ⟨_, rfl, _, rfl, .inr ⟨notStr_non, _, rfl, iteF ⟨_, rfl, rfl, q⟩⟩⟩
theorem ok_is_pattern (F : Fun K "is_pattern" "is_pattern" s_is_pattern f fd) (T : Txt K mg aK) (D_is_text : Dfn P w K mg base "is_text" 2 ["value"] (spIsText K)) (D_is_piece : Dfn P w K mg base "_is_piece" 3 ["value"] spPiece) :
    FnOk P w K mg base CX0 4 f fd ["value"] (spIsPat K) := by
  obtain ⟨t0, gM⟩ := T.g_middles
  refine F.ok sc_is_pattern (fun vs H Q E h => ?_) (fun cdv A outer s H vs Q E hr h => ?_)
  · obtain ⟨v, rfl, _⟩ := h
    rfl
  · obtain ⟨v, rfl, h⟩ := h
    refine ⟨_, (pss_cons (ps_if (PW.pt (pw_or (pt_not (pt_val (pe_callB call_isi (by rfl) T.b_isinstance (by decide +kernel) (pa_cons (pv 0) (pa_cons (pe_bltn (v := .ty "tuple") (by rfl) T.b_tuple (by decide +kernel) rfl) pa_nil))))) (pw_or1 (pt_cmpR op_ne (pe_callB call_len_seq (by rfl) T.b_len (by decide +kernel) (pa_cons (pv 0) pa_nil)) pe_int (nomark _))))) (pss_one (ps_ret pe_bl)) pss_nil) (pss_cons (ps_asg (pv 0) (pg_tup (by rfl) (pgs_cons (pg_name (i := 1) sc_is_pattern.nd rfl (Or.inl rfl)) (pgs_cons (pg_name (i := 2) sc_is_pattern.nd rfl (Or.inl rfl)) (pgs_cons (pg_name (i := 3) sc_is_pattern.nd rfl (Or.inl rfl)) pgs_nil))))) (pss_cons (ps_if (PW.pt (pw_or (pt_not (pt_val (pe_d D_is_piece hr (by decide) (pa_cons (pv 1) pa_nil)))) (pw_or1 (pt_not (pt_val (pe_d D_is_piece hr (by decide) (pa_cons (pv 3) pa_nil))))))) (pss_one (ps_ret pe_bl)) pss_nil) (pss_cons (ps_if (PW.pt (pw_or (pt_not (pt_val (pe_callB call_isi (by rfl) T.b_isinstance (by decide +kernel) (pa_cons (pv 2) (pa_cons (pe_bltn (v := .ty "tuple") (by rfl) T.b_tuple (by decide +kernel) rfl) pa_nil))))) (pw_or1 (pt_cmpR op_gt (pe_callB call_len_seq (by rfl) T.b_len (by decide +kernel) (pa_cons (pv 2) pa_nil)) (pe_glob (v := .int 8) rfl gM ⟨_, rfl⟩) (nomark _))))) (pss_one (ps_ret pe_bl)) pss_nil) (pss_one (ps_ret (pe_and (pe_callB (cr_all rfl) (by rfl) T.b_all (by decide +kernel) (pa_cons (pe_lc (own := [("piece", 4)]) (g := gName 4) (by rfl) sc_is_pattern.nd (pi_tup (pv 2)) (blkOk_by (own := [("piece", 4)]) (N := n_is_pattern) (sc := defScope s_is_pattern) (by decide +kernel)) (fun _ _ _ _ _ => pg_name (i := 4) sc_is_pattern.nd rfl (Or.inl rfl)) (fun _ _ _ _ _ => pts_nil) (fun _ _ _ _ _ => (pe_d D_is_text hr (by decide) (pa_cons (pv 4) pa_nil)))) pa_nil)) (pe_one (pe_cmpR (op_neD hr.units) (pv 0) (pe_tup (pa_cons pe_str (pa_cons (pe_tup pa_nil) (pa_cons pe_str pa_nil)))) (nomark _)))))))))), ?_⟩
    rcases h with ⟨⟨t, ty, kt⟩, q⟩ | ⟨a, xs, rfl, ha, hn, hl, q⟩ | ⟨a, f, m, l, rfl, ha, cf, cl, h⟩
    · exact ⟨_, rfl, _, _, _, _, false, rfl, ClsV.ty "tuple", ty, kt, false, rfl, iteT q⟩
    · refine ⟨_, rfl, _, _, _, _, true, rfl, ClsV.ty "tuple", TyX.base (.tup ha), kit_ty (by decide +kernel), true, rfl, iteF ?_⟩
      refine ⟨_, rfl, a, _, rfl, .inr (SqT.of ha), rfl, _, rfl, ?_⟩
      rw [show decide (V.int ((xs.length : Nat) : Int) = V.int 3) = false from decide_eq_false (fun z => by injection z with z; omega)]
      exact iteT q
    · refine ⟨_, rfl, _, _, _, _, true, rfl, ClsV.ty "tuple", TyX.base (.tup ha), kit_ty (by decide +kernel), true, rfl, iteF ?_⟩
      refine ⟨_, rfl, a, _, rfl, .inr (SqT.of ha), rfl, _, rfl, iteF ?_⟩
      refine ⟨_, rfl, a, _, rfl, SqT.of ha, rfl, _, _, rfl, _, _, rfl, _, _, rfl, rfl, ?_⟩
      have out : (pcB f && pcB l) = false → Q (.bl false) H := fun o => by
        rcases h with ⟨_, q⟩ | ⟨b, ys, rfl, hb, _, _, q⟩
        · exact q
        · have := q H (Same.refl H)
          unfold patB at this
          rw [o, Bool.false_and] at this
          exact this
      refine ⟨_, rfl, f, rfl, cf, pcB f, rfl, ?_⟩
      cases ef : pcB f with
      | false => exact iteT (iteT (out (by rw [ef]; rfl)))
      | true =>
        refine iteF ⟨_, rfl, l, rfl, cl, pcB l, rfl, ?_⟩
        cases el : pcB l with
        | false => exact iteT (out (by rw [ef, el]; rfl))
        | true =>
          refine iteF ?_
          rcases h with ⟨⟨t, ty, kt⟩, q⟩ | ⟨b, ys, rfl, hb, cy, hl, q⟩
          · exact ⟨_, rfl, _, _, _, _, false, rfl, ClsV.ty "tuple", ty, kt, false, rfl, iteT (iteT q)⟩
          · refine ⟨_, rfl, _, _, _, _, true, rfl, ClsV.ty "tuple", TyX.base (.tup hb), kit_ty (by decide +kernel), true, rfl, iteF ?_⟩
            refine ⟨_, rfl, b, _, rfl, .inr (SqT.of hb), _, _, rfl, rfl, _, rfl, ?_⟩
            by_cases h8 : ys.length ≤ 8
            · rw [show decide ((8 : Int) < ((ys.length : Nat) : Int)) = false from decide_eq_false (by omega)]
              refine iteF ?_
              refine ⟨_, rfl, b, rfl, ⟨_, SqT.of hb⟩, fun D hD => lc_it (walk_tup (K := K) (a := b) (xs := ys)) (fun i H' => Same H H' ∧ H' D = some (.lst (((ys.take i).map txB).map V.bl))) ⟨same_new hD, upd_same⟩ (fun i H' _ h => SqT.of (h.1 _ _ hb)) ?_ ?_⟩
              · rintro i v H1 H2 hi ⟨sm, hH⟩ ⟨rfl, hv⟩
                refine ⟨rfl, ?_⟩
                unfold tYes
                have fin : ∃ acc, H2 D = some (.lst acc) ∧ acc.length < sizeLine ∧ Same H (upd H2 D (.lst (acc ++ [V.bl (txB v)]))) ∧ upd H2 D (.lst (acc ++ [V.bl (txB v)])) D = some (.lst (((ys.take (i + 1)).map txB).map V.bl)) := by
                  refine ⟨_, hH, ?_, fun b o hb => ?_, ?_⟩
                  · rw [List.length_map, List.length_map]
                    have := List.length_take_le i ys
                    exact szl (by omega)
                  · rw [upd_ne (ne_of_none hb hD)]
                    exact sm b o hb
                  · rw [upd_same, List.take_add_one, hv, List.map_append, List.map_append]
                    rfl
                rcases cy v (List.mem_of_getElem? hv) with ⟨x, rfl, hx⟩ | rfl
                · exact iteT ⟨_, rfl, _, rfl, .inl ⟨x, rfl, line_of (by omega), fin⟩⟩
                · exact iteT ⟨_, rfl, _, rfl, .inr ⟨notStr_non, fin⟩⟩
              · rintro H1 ⟨sm, hH⟩
                refine ⟨D, _, rfl, SqL.of hH, ?_⟩
                have qq := q
                unfold patB at qq
                rw [ef, el, decide_eq_true h8, Bool.true_and, Bool.true_and, Bool.true_and] at qq
                have ea : ((ys.take ys.length).map txB).all id = ys.all txB := by rw [List.take_length, List.all_map]; rfl
                rw [ea]
                cases ey : ys.all txB with
                | false =>
                  rw [ey] at qq
                  exact ⟨_, rfl, iteF (qq _ sm)⟩
                | true =>
                  rw [ey, Bool.true_and] at qq
                  obtain ⟨xf, rfl, sf⟩ := pc_str ef
                  obtain ⟨xl, rfl, sl⟩ := pc_str el
                  obtain ⟨zs, rfl, sz⟩ := tx_strs ey
                  refine ⟨_, rfl, iteT ⟨_, rfl, Nat.zero_le _, fun e1 he1 => ⟨(by show 3 ≤ sizeLine; decide), fun e2 he2 => ?_⟩⟩⟩
                  have up := (sm.trans (same_new (o := .tup []) he1)).trans (same_new (o := .tup [.str "", .ref e1, .str ""]) he2)
                  refine ⟨_, _, dp_pat (up _ _ ha) (up _ _ hb), dp_pat (zs := []) upd_same ((same_new he2) _ _ upd_same), shaped_pat sf sz sl, by decide +kernel, ?_⟩
                  rw [eqv_pat]
                  have := qq _ up
                  have e3 : (decide (V.str xf = V.str "") && (decide (zs.map V.str = []) && decide (V.str xl = V.str ""))) = decide (xf = "" ∧ zs = [] ∧ xl = "") := by
                    rw [Bool.eq_iff_iff]
                    simp
                  rw [e3] at this
                  exact this
            · rw [show decide ((8 : Int) < ((ys.length : Nat) : Int)) = true from decide_eq_true (by omega)]
              refine iteT ?_
              have := q H (Same.refl H)
              unfold patB at this
              rw [decide_eq_false h8, Bool.false_and, Bool.and_false] at this
              exact this
end
end Bw

namespace Bw
open PySem PySem.Spec L2 TL PyProof.Rows
open PySem.StrLaws (replL replL_hit replL_miss replL_nil replace_list found_iff subAt_eq)

/-! ### blanks beside one another become one -/
def sqL : List Nat → List Nat
  | [] => []
  | c :: r => if c = 32 ∧ r.head? = some 32 then sqL r else c :: sqL r
abbrev R2b (l : List Nat) : List Nat := replL [32, 32] [32] l
theorem sqL_cons (c : Nat) (r : List Nat) : sqL (c :: r) = if c = 32 ∧ r.head? = some 32 then sqL r else c :: sqL r := rfl
theorem hit2 {c : Nat} {r : List Nat} : (c :: r).take 2 = [32, 32] ↔ c = 32 ∧ r.head? = some 32 := by
  cases r with
  | nil => simp
  | cons d t => simp
theorem r2_hit {c : Nat} {r : List Nat} (h : (c :: r).take 2 = [32, 32]) : R2b (c :: r) = [32] ++ R2b ((c :: r).drop 2) := replL_hit (y := [32, 32]) (z := [32]) (by simp) h
theorem r2_miss {c : Nat} {r : List Nat} (h : ¬ (c :: r).take 2 = [32, 32]) : R2b (c :: r) = c :: R2b r := replL_miss (y := [32, 32]) (z := [32]) h
theorem r2_head : ∀ l : List Nat, (R2b l).head? = l.head?
  | [] => by rw [R2b, replL_nil]
  | c :: r => by
    by_cases h : (c :: r).take 2 = [32, 32]
    · rw [r2_hit h, (hit2.mp h).1]
      rfl
    · rw [r2_miss h]
      rfl
theorem r2_facts : ∀ (n : Nat) (l : List Nat), l.length ≤ n → sqL (R2b l) = sqL l ∧ (R2b l).length ≤ l.length ∧ ((∃ k, (l.drop k).take 2 = [32, 32]) → (R2b l).length < l.length)
  | 0, l, h => by
    have : l = [] := List.length_eq_zero_iff.mp (by omega)
    subst this
    rw [R2b, replL_nil]
    exact ⟨rfl, Nat.le_refl _, fun ⟨k, hk⟩ => by simp at hk⟩
  | n + 1, [], h => by
    rw [R2b, replL_nil]
    exact ⟨rfl, Nat.le_refl _, fun ⟨k, hk⟩ => by simp at hk⟩
  | n + 1, c :: r, h => by
    by_cases hh : (c :: r).take 2 = [32, 32]
    · obtain ⟨h1, h2⟩ := hit2.mp hh
      cases r with
      | nil => cases h2
      | cons d t =>
        have hd : d = 32 := Option.some.inj h2
        subst h1
        subst hd
        have e : R2b (32 :: 32 :: t) = 32 :: R2b t := r2_hit hh
        obtain ⟨i1, i2, _⟩ := r2_facts n t (by simp only [List.length_cons] at h; omega)
        rw [e]
        refine ⟨?_, by simp only [List.length_cons]; omega, fun _ => by simp only [List.length_cons]; omega⟩
        have b : sqL (32 :: 32 :: t) = sqL (32 :: t) := by rw [sqL_cons, if_pos ⟨rfl, rfl⟩]
        rw [b, sqL_cons, r2_head, i1, ← sqL_cons]
    · have e : R2b (c :: r) = c :: R2b r := r2_miss hh
      obtain ⟨i1, i2, i3⟩ := r2_facts n r (by simp only [List.length_cons] at h; omega)
      rw [e]
      refine ⟨by rw [sqL_cons, sqL_cons, r2_head, i1], by simp only [List.length_cons]; omega, fun ⟨k, hk⟩ => ?_⟩
      cases k with
      | zero => exact absurd hk hh
      | succ k =>
        have := i3 ⟨k, hk⟩
        simp only [List.length_cons]
        omega
theorem sqL_none : ∀ {l : List Nat}, (¬ ∃ k, (l.drop k).take 2 = [32, 32]) → sqL l = l
  | [], _ => rfl
  | c :: r, h => by
    rw [sqL_cons, if_neg (fun z => h ⟨0, hit2.mpr z⟩), sqL_none (l := r) fun ⟨k, hk⟩ => h ⟨k + 1, hk⟩]
theorem sqL_ne : ∀ {l : List Nat}, l ≠ [] → sqL l ≠ []
  | [], h => h
  | c :: r, _ => by
    rw [sqL_cons]
    split
    · rename_i h
      exact sqL_ne (fun z => by rw [z] at h; cases h.2)
    · simp
theorem sqL_snoc : ∀ (p : List Nat) (c : Nat), sqL (p ++ [c]) = if c = 32 ∧ (sqL p).getLast? = some 32 then sqL p else sqL p ++ [c]
  | [], c => by
    show (if c = 32 ∧ _ then _ else _) = _
    simp [sqL]
  | [a], c => by
    show sqL [a, c] = _
    by_cases h1 : a = 32 <;> by_cases h2 : c = 32 <;> simp [sqL, h1, h2]
  | a :: b :: t, c => by
    have ih := sqL_snoc (b :: t) c
    have e1 : sqL (a :: b :: t ++ [c]) = if a = 32 ∧ b = 32 then sqL (b :: t ++ [c]) else a :: sqL (b :: t ++ [c]) := by
      show sqL (a :: (b :: (t ++ [c]))) = _
      rw [sqL_cons]
      simp
    have e2 : sqL (a :: b :: t) = if a = 32 ∧ b = 32 then sqL (b :: t) else a :: sqL (b :: t) := by
      rw [sqL_cons]
      simp
    have ne : sqL (b :: t) ≠ [] := sqL_ne (by simp)
    rw [e1, e2, ih]
    by_cases h : a = 32 ∧ b = 32
    · rw [if_pos h, if_pos h]
    · rw [if_neg h, if_neg h]
      have e3 : (a :: sqL (b :: t)).getLast? = (sqL (b :: t)).getLast? := by
        rw [List.getLast?_cons]
        cases e : (sqL (b :: t)).getLast? with
        | none => exact absurd (List.getLast?_eq_none_iff.mp e) ne
        | some x => rfl
      rw [e3]
      split
      · rfl
      · rfl
def sqS (x : Str) : Str := ⟨(sqL ((tl x).map lo1)).toArray⟩
theorem tl_sqS (x : Str) : tl (sqS x) = sqL ((tl x).map lo1) := rfl
theorem sqL_len : ∀ l : List Nat, (sqL l).length ≤ l.length
  | [] => Nat.le_refl _
  | c :: r => by
    have := sqL_len r
    rw [sqL_cons]
    split
    · rw [List.length_cons]; omega
    · rw [List.length_cons, List.length_cons]; omega
def sgnS (c : Nat) : Str := ⟨#[c]⟩
theorem take_next {α : Type} {l : List α} {i : Nat} {x : α} (h : l[i]? = some x) : l.take (i + 1) = l.take i ++ [x] := by
  rw [List.take_add_one, h]
  rfl
theorem cps_get {x : Str} {i : Nat} {c : Nat} (h : x.cps[i]? = some c) : (tl x)[i]? = some c := by
  rw [← h]
  exact Array.getElem?_toList
theorem cps_size (x : Str) : x.cps.size = (tl x).length := Array.length_toList.symm
theorem tl_eq_iff {x y : Str} : x = y ↔ tl x = tl y := ⟨fun h => by rw [h], ext_tl⟩
theorem dsgn (c d : Nat) (x : Str) (hx : tl x = [d]) : decide (V.str ⟨#[c]⟩ = V.str x) = decide (c = d) := by
  rw [Bool.eq_iff_iff, decide_eq_true_eq, decide_eq_true_eq]
  constructor
  · intro h
    have : (⟨#[c]⟩ : Str) = x := by injection h
    rw [tl_eq_iff, hx] at this
    have e : [c] = [d] := this
    injection e
  · intro h
    have : (⟨#[c]⟩ : Str) = x := ext_tl (by rw [hx, h])
    rw [this]
theorem tl_e : tl ("" : Str) = [] := by decide +kernel
theorem cut_last (y : Str) : tl (cutS y (some (-1)) none) = (tl y).drop ((tl y).length - 1) := by
  show (List.take (HT.sIx y.length y.length none - HT.sIx y.length 0 (some (-1))) (List.drop (HT.sIx y.length 0 (some (-1))) y.cps.toList)) = _
  have s1 : HT.sIx y.length 0 (some (-1)) = y.length - 1 := by
    show (if (-1 : Int) < 0 then ((-1 : Int) + (y.length : Int)).toNat else min (-1 : Int).toNat y.length) = y.length - 1
    rw [if_pos (by decide)]
    omega
  have s2 : HT.sIx y.length y.length none = y.length := rfl
  have e : y.cps.toList = tl y := rfl
  rw [s1, s2, e, ← len_tl]
  apply List.take_of_length_le
  rw [List.length_drop, ← len_tl]
  omega
theorem last_iff (l : List Nat) (c : Nat) : l.drop (l.length - 1) = [c] ↔ l.getLast? = some c := by
  cases l with
  | nil => simp
  | cons a r =>
    rw [List.getLast?_eq_getElem?, ← List.head?_drop]
    constructor
    · intro h
      rw [h]
      rfl
    · intro h
      have hl : ((a :: r).drop ((a :: r).length - 1)).length = 1 := by
        rw [List.length_drop, List.length_cons]
        omega
      cases e : (a :: r).drop ((a :: r).length - 1) with
      | nil => rw [e] at h; cases h
      | cons x t =>
        rw [e] at h hl
        have ht : t = [] := List.length_eq_zero_iff.mp (by rw [List.length_cons] at hl; omega)
        rw [ht, Option.some.inj h]
theorem tl_2b : tl ("  " : Str) = [32, 32] := by decide +kernel
theorem tl_1b : tl (" " : Str) = [32] := by decide +kernel
def spSq : Sp := fun vs H Q _ => ∃ x : Str, vs = [.str x] ∧ Sgn (tl x) ∧ x.length ≤ 1000 ∧ Q (.str (sqS x)) H
section
variable {P : Program} {w : World} {K : PySem.W.Frag} {mg : Str → Option Value} {base : Heap} {f : Addr} {fd : FuncData} {aK : Addr}
theorem ok_squeezed (F : Fun K "_squeezed" "_squeezed" s_squeezed f fd) : FnOk P w K mg base CX0 1 f fd ["piece"] spSq := by
  refine F.ok sc_squeezed (fun vs H Q E h => ?_) (fun cdv A outer s H vs Q E hr h => ?_)
  · obtain ⟨x, rfl, _⟩ := h
    rfl
  · obtain ⟨x, rfl, hx, hl, q⟩ := h
    refine ⟨_, (pss_cons (ps_set (i := 0) sc_squeezed.nd rfl (Or.inl rfl) (pe_lower (pv 0))) (pss_cons (ps_whileT PassesOwn.never (ptt_strCmp op_in_str (pv 0) rfl) (CwR.psst_one (pst_set (i := 0) sc_squeezed.nd rfl (Or.inl rfl) (CwR.pet_replC (pv 0))))) (pss_one (ps_ret (pv 0))))), ?_⟩
    have elo : tl (Txt.lower x) = (tl x).map lo1 := tl_lower hx
    have llo : (Txt.lower x).length = x.length := by rw [len_tl, elo, List.length_map, ← len_tl]
    refine ⟨_, rfl, ⟨_, rfl⟩, x, rfl, rfl, by omega, ?_⟩
    refine ⟨fun m σ H' => ∃ y : Str, σ = [some (.str y)] ∧ m = y.length ∧ sqL (tl y) = sqL ((tl x).map lo1) ∧ y.length ≤ 1000 ∧ H' = H, ⟨_, Txt.lower x, rfl, rfl, by rw [elo], by omega, rfl⟩, ?_⟩
    rintro m σ H' ⟨y, rfl, rfl, ey, ly, rfl⟩
    refine ⟨_, rfl, _, _, rfl, rfl, _, rfl, ?_⟩
    have l2 : ("  " : Str).length = 2 := by decide +kernel
    have found : (!(Builtin.Str.occurrences y "  " 0 y.length 1).isEmpty) = true ↔ ∃ k, ((tl y).drop k).take 2 = [32, 32] := by
      rw [found_iff]
      constructor
      · rintro ⟨i, h1, h2⟩
        rw [subAt_eq, beq_iff_eq, l2] at h2
        exact ⟨i, h2.trans tl_2b⟩
      · rintro ⟨k, hk⟩
        refine ⟨k, ?_, ?_⟩
        · have := congrArg List.length hk
          rw [List.length_take, List.length_drop, ← len_tl] at this
          have e : ([32, 32] : List Nat).length = 2 := rfl
          rw [l2]
          omega
        · rw [subAt_eq, beq_iff_eq, l2]
          exact hk.trans tl_2b.symm
    cases eb : !(Builtin.Str.occurrences y "  " 0 y.length 1).isEmpty with
    | true =>
      have hd := found.mp eb
      refine iteT ⟨_, fun σ' H' h => h, ?_⟩
      have l1 : (" " : Str).length = 1 := by decide +kernel
      refine ⟨_, rfl, y, rfl, by rw [l1]; omega, ?_⟩
      have er : tl (Txt.replace y "  " " ") = R2b (tl y) := by
        have := replace_list (x := y) (y := "  ") (z := " ") (by rw [l2]; decide)
        have h2 : tl (Txt.replace y "  " " ") = replL (tl "  ") (tl " ") (tl y) := this
        rw [h2, tl_2b, tl_1b]
      obtain ⟨i1, i2, i3⟩ := r2_facts _ (tl y) (Nat.le_refl _)
      have hlt := i3 hd
      have lr : (Txt.replace y "  " " ").length = (R2b (tl y)).length := by rw [len_tl, er]
      have lyy := len_tl y
      exact ⟨_, by rw [lr, lyy]; exact hlt, _, rfl, rfl, by rw [er, i1, ey], by omega, rfl⟩
    | false =>
      have hn : ¬ ∃ k, ((tl y).drop k).take 2 = [32, 32] := fun z => by
        rw [found.mpr z] at eb
        cases eb
      refine iteF ⟨_, rfl, ?_⟩
      have e : y = sqS x := ext_tl (by rw [tl_sqS, ← ey, sqL_none hn])
      rw [e]
      exact q
theorem ok_law_squeezed (F : Fun K "_law_squeezed" "_law_squeezed" s_law_squeezed f fd) : FnOk P w K mg base CX0 1 f fd ["_law_text"] spSq := by
  refine F.ok sc_law_squeezed (fun vs H Q E h => ?_) (fun cdv A outer s H vs Q E hr h => ?_)
  · obtain ⟨x, rfl, _⟩ := h
    rfl
  · obtain ⟨x, rfl, hx, hl, q⟩ := h
    refine ⟨_, (pss_cons (ps_set (i := 1) sc_law_squeezed.nd rfl (Or.inl rfl) pe_str) (pss_cons (ps_for PassesOwn.never rfl (pi_str (pe_lower (pv 0))) (pg_name (i := 2) sc_law_squeezed.nd rfl (Or.inl rfl)) (pss_one (ps_if (PW.pt (pw_or (pt_cmpR op_ne (pv 2) pe_str (nomark _)) (pw_or1 (pt_cmpR op_ne (pe_slice sl_str (pv 1) (po_some (pe_un un_neg pe_int)) po_none) pe_str (nomark _))))) (pss_one (ps_set (i := 1) sc_law_squeezed.nd rfl (Or.inl rfl) (pe_op op_add_str (pv 1) (pv 2)))) pss_nil))) (pss_one (ps_ret (pv 1))))), ?_⟩
    refine ⟨_, rfl, ⟨_, rfl⟩, x, rfl, rfl, by omega, ?_⟩
    have elo : tl (Txt.lower x) = (tl x).map lo1 := tl_lower hx
    have llo : (Txt.lower x).length = x.length := by rw [len_tl, elo, List.length_map, ← len_tl]
    refine ⟨Txt.lower x, rfl, for_it walk_str (fun i σ H' => ∃ (y : Str) (u : Option V), σ = [some (.str x), some (.str y), u] ∧ tl y = sqL ((tl (Txt.lower x)).take i) ∧ H' = H) ⟨"", none, rfl, tl_e, rfl⟩ (fun _ _ _ _ _ => trivial) ?_ ?_⟩
    · rintro i v σ H1 H2 hi ⟨y, u, rfl, ey, rfl⟩ ⟨rfl, c, hc, rfl⟩
      have hcx := cps_get hc
      have tk := take_next hcx
      have sn := sqL_snoc ((tl (Txt.lower x)).take i) c
      rw [← tk, ← ey] at sn
      have ly : y.length ≤ 1000 := by
        have h1 := sqL_len ((tl (Txt.lower x)).take i)
        have h2 := List.length_take_le' i (tl (Txt.lower x))
        rw [← len_tl] at h2
        rw [len_tl, ey]
        omega
      have w1 : (⟨#[c]⟩ : Str).length = 1 := rfl
      have put : ¬ (c = 32 ∧ (tl y).getLast? = some 32) → ∃ (y2 : Str) (u : Option V), ([some (.str x), some (.str y), some (.str ⟨#[c]⟩)] : L2.St).set 1 (some (.str (y ++ ⟨#[c]⟩))) = [some (.str x), some (.str y2), u] ∧ tl y2 = sqL ((tl (Txt.lower x)).take (i + 1)) ∧ H2 = H2 := fun h => by
        rw [if_neg h] at sn
        exact ⟨_, _, rfl, (tl_append ..).trans sn.symm, rfl⟩
      refine ⟨_, rfl, rfl, _, rfl, ?_⟩
      rw [dsgn c 32 " " tl_1b]
      by_cases h32 : c = 32
      · rw [decide_eq_true h32]
        refine iteF ⟨_, rfl, _, rfl, _, rfl, y, rfl, line_of (by omega), rfl, _, rfl, ?_⟩
        have ed : decide (V.str (cutS y (some (-1)) none) = V.str " ") = decide ((tl y).getLast? = some 32) := by
          rw [Bool.eq_iff_iff, decide_eq_true_eq, decide_eq_true_eq, ← last_iff, ← cut_last]
          constructor
          · intro h
            have : cutS y (some (-1)) none = " " := by injection h
            rw [this, tl_1b]
          · intro h
            exact congrArg V.str (ext_tl (h.trans tl_1b.symm))
        rw [show decide (V.str (cutS y (some (-1)) none) = V.str " ") = decide ((tl y).getLast? = some 32) from ed]
        by_cases hg : (tl y).getLast? = some 32
        · rw [decide_eq_true hg]
          rw [if_pos ⟨h32, hg⟩] at sn
          exact iteF ⟨y, _, rfl, sn.symm, rfl⟩
        · rw [decide_eq_false hg]
          exact iteT ⟨_, rfl, _, rfl, _, _, rfl, rfl, line_of (by rw [w1]; omega), put fun z => hg z.2⟩
      · rw [decide_eq_false h32]
        exact iteT (iteT ⟨_, rfl, _, rfl, _, _, rfl, rfl, line_of (by rw [w1]; omega), put fun z => h32 z.1⟩)
    · rintro σ H1 ⟨y, u, rfl, ey, rfl⟩
      have e : y = sqS x := ext_tl (by
        rw [ey, tl_sqS, ← elo, cps_size]
        rw [List.take_length])
      rw [← e] at q
      exact ⟨_, rfl, q⟩
end
end Bw

namespace Bw
open PySem PySem.Spec L2 TL PyProof.Rows

/-! ### tests and values whose outcome is known -/
theorem tIf_val {t : TT} {ta tb : TE} {σ : L2.St} {H : Hp} {Q : VK} (b : Bool) (v : V) (ht : ∀ R : Bool → Hp → Prop, R b H → t σ H R) (h1 : b = true → ∀ R : VK, R v H → ta σ H R) (h2 : b = false → ∀ R : VK, R v H → tb σ H R)
    (h : Q v H) : tIf t ta tb σ H Q := by
  refine ht _ ?_
  cases b with
  | true => exact iteT (h1 rfl Q h)
  | false => exact iteF (h2 rfl Q h)
theorem tSeqI {t u : TS} {D : Ends} {σ : L2.St} {H : Hp} (h : t { D with nx := u D } σ H) : tSeq t u D σ H := h
theorem gNameI {i : Nat} {v : V} {σ : L2.St} {H : Hp} {Q : L2.St → Hp → Prop} (h : Q (σ.set i (some v)) H) : gName i v σ H Q := h
theorem tIfS_val {c : TT} {t u : TS} {D : Ends} {σ : L2.St} {H : Hp} (b : Bool) (hc : ∀ R : Bool → Hp → Prop, R b H → c σ H R) (h1 : b = true → t D σ H) (h2 : b = false → u D σ H) : tIfS c t u D σ H := by
  refine hc _ ?_
  cases b with
  | true => exact iteT (h1 rfl)
  | false => exact iteF (h2 rfl)
theorem tOr_val {t u : TT} {σ : L2.St} {H : Hp} (b1 b2 : Bool) (h1 : ∀ R : Bool → Hp → Prop, R b1 H → t σ H R) (h2 : b1 = false → ∀ R : Bool → Hp → Prop, R b2 H → u σ H R) (R : Bool → Hp → Prop) (r : R (b1 || b2) H) : tOr t u σ H R := by
  refine h1 _ ?_
  cases b1 with
  | true => exact iteT r
  | false => exact iteF (h2 rfl R r)
theorem tAnd_val {t u : TT} {σ : L2.St} {H : Hp} (b1 b2 : Bool) (h1 : ∀ R : Bool → Hp → Prop, R b1 H → t σ H R) (h2 : b1 = true → ∀ R : Bool → Hp → Prop, R b2 H → u σ H R) (R : Bool → Hp → Prop) (r : R (b1 && b2) H) : tAnd t u σ H R := by
  refine h1 _ ?_
  cases b1 with
  | true => exact iteT (h2 rfl R r)
  | false => exact iteF r
theorem tOrV_val {ta tb : TE} {σ : L2.St} {H : Hp} (b1 b2 : Bool) (h1 : ∀ R : VK, R (.bl b1) H → ta σ H R) (h2 : b1 = false → ∀ R : VK, R (.bl b2) H → tb σ H R) (R : VK) (r : R (.bl (b1 || b2)) H) : tOrV ta tb σ H R := by
  refine h1 _ ⟨_, rfl, ?_⟩
  cases b1 with
  | true => exact iteT r
  | false => exact iteF (h2 rfl R r)
theorem tAndV_val {ta tb : TE} {σ : L2.St} {H : Hp} (b1 b2 : Bool) (h1 : ∀ R : VK, R (.bl b1) H → ta σ H R) (h2 : b1 = true → ∀ R : VK, R (.bl b2) H → tb σ H R) (R : VK) (r : R (.bl (b1 && b2)) H) : tAndV ta tb σ H R := by
  refine h1 _ ⟨_, rfl, ?_⟩
  cases b1 with
  | true => exact iteT (h2 rfl R r)
  | false => exact iteF r
/-! ### forms of patterns -/
def PatAt (H : Hp) (a : Addr) (f : Str) (zs : List Str) (l : Str) : Prop := ∃ b, H a = some (.tup [.str f, .ref b, .str l]) ∧ H b = some (.tup (zs.map V.str))
theorem PatAt.up {H H' : Hp} {a : Addr} {f l : Str} {zs : List Str} (s : Same H H') (h : PatAt H a f zs l) : PatAt H' a f zs l := by
  obtain ⟨b, h1, h2⟩ := h
  exact ⟨b, s _ _ h1, s _ _ h2⟩
structure PatOk (f : Str) (zs : List Str) (l : Str) : Prop where
  hf : pcB (.str f) = true
  hl : pcB (.str l) = true
  hz : ∀ z ∈ zs, IsTx z ∧ z ≠ ""
  h8 : zs.length ≤ 8
  ne : ¬ (f = "" ∧ zs = [] ∧ l = "")
theorem pc_facts {x : Str} (h : pcB (.str x) = true) : Sgn (tl x) ∧ x.length ≤ 100 := by
  have h : (isTx x || decide (x = "")) = true := h
  rw [Bool.or_eq_true, decide_eq_true_eq] at h
  rcases h with h | h
  · exact ((isTx_iff x).mp h).1
  · rw [h]
    refine ⟨?_, by decide +kernel⟩
    intro c hc
    rw [tl_e] at hc
    cases hc
theorem PatOk.patB {f l : Str} {zs : List Str} (h : PatOk f zs l) : patB (.str f) (zs.map V.str) (.str l) = true := by
  obtain ⟨hf, hl, hz, h8, ne⟩ := h
  unfold Bw.patB
  rw [hf, hl, decide_eq_true (by rw [List.length_map]; exact h8)]
  have e : (zs.map V.str).all txB = true := by
    rw [List.all_map, List.all_eq_true]
    intro z hz'
    exact (isTx_iff z).mpr (hz z hz')
  rw [e]
  have e3 : (decide (V.str f = V.str "") && (decide (zs.map V.str = []) && decide (V.str l = V.str ""))) = false := by
    rw [Bool.eq_false_iff]
    intro z
    simp at z
    exact ne ⟨z.1, z.2.1, z.2.2⟩
  rw [e3]
  rfl
abbrev Pf := Option (Str × List Str × Str)
def tform (f : Str) (zs : List Str) (l : Str) : Pf :=
  if ((decide (Txt.lstripChars (sqS f) " " = "") && !decide (f = "")) || (decide (Txt.rstripChars (sqS l) " " = "") && !decide (l = ""))) = true then none
  else some (Txt.lstripChars (sqS f) " ", zs.map sqS, Txt.rstripChars (sqS l) " ")
def pform (k : Kd) (f : Str) (zs : List Str) (l : Str) : Pf := match k with
  | .text => tform f zs l
  | .exact => some (f, zs, l)
  | _ => none
def PfV (H : Hp) (v : V) : Pf → Prop
  | none => v = .non
  | some (f, zs, l) => ∃ a, v = .ref a ∧ PatAt H a f zs l
theorem PfV.up {H H' : Hp} {v : V} {p : Pf} (s : Same H H') (h : PfV H v p) : PfV H' v p := by
  cases p with
  | none => exact h
  | some t =>
    obtain ⟨a, e, h⟩ := h
    exact ⟨a, e, h.up s⟩
def spTP : Sp := fun vs H Q _ => ∃ (a : Addr) (f : Str) (zs : List Str) (l : Str), vs = [.ref a] ∧ PatAt H a f zs l ∧ PatOk f zs l ∧ ∀ v H', Same H H' → PfV H' v (tform f zs l) → Q v H'
def spPF : Sp := fun vs H Q _ => ∃ (k : Kd) (a : Addr) (f : Str) (zs : List Str) (l : Str), vs = [.str k.str, .ref a] ∧ PatAt H a f zs l ∧ PatOk f zs l ∧ ∀ v H', Same H H' → PfV H' v (pform k f zs l) → Q v H'
theorem dE (x : Str) : decide (V.str x = V.str "") = decide (x = "") := by
  rw [Bool.eq_iff_iff, decide_eq_true_eq, decide_eq_true_eq]
  exact ⟨fun z => by injection z, fun z => by rw [z]⟩
theorem dNE (x : Str) : (!decide (V.str x = V.str "")) = !decide (x = "") := by rw [dE]
section
variable {P : Program} {w : World} {K : PySem.W.Frag} {mg : Str → Option Value} {base : Heap} {f : Addr} {fd : FuncData} {aK : Addr}
theorem ok_text_pattern (F : Fun K "_text_pattern" "_text_pattern" s_text_pattern f fd) (T : Txt K mg aK) (D_squeezed : Dfn P w K mg base "_squeezed" 1 ["piece"] spSq) : FnOk P w K mg base CX0 2 f fd ["pattern"] spTP := by
  refine F.ok sc_text_pattern (fun vs H Q E h => ?_) (fun cdv A outer s H vs Q E hr h => ?_)
  · obtain ⟨a, f, zs, l, rfl, _⟩ := h
    rfl
  · obtain ⟨a, f, zs, l, rfl, ⟨b, ha, hb⟩, ok, q⟩ := h
    obtain ⟨sf, lf⟩ := pc_facts ok.hf
    obtain ⟨sl, ll⟩ := pc_facts ok.hl
    refine ⟨_, (pss_cons (ps_asg (pv 0) (pg_tup (by rfl) (pgs_cons (pg_name (i := 1) sc_text_pattern.nd rfl (Or.inl rfl)) (pgs_cons (pg_name (i := 2) sc_text_pattern.nd rfl (Or.inl rfl)) (pgs_cons (pg_name (i := 3) sc_text_pattern.nd rfl (Or.inl rfl)) pgs_nil))))) (pss_cons (ps_set (i := 4) sc_text_pattern.nd rfl (Or.inl rfl) (pe_bm PySem.F.plainAttrs_str PySem.F.slot_str_lstrip PySem.F.type_str_lstrip mt_lstripChars (pe_d D_squeezed hr (by decide) (pa_cons (pv 1) pa_nil)) (pa_cons pe_str pa_nil))) (pss_cons (ps_set (i := 5) sc_text_pattern.nd rfl (Or.inl rfl) (pe_bm PySem.F.plainAttrs_str PySem.F.slot_str_rstrip PySem.F.type_str_rstrip mt_rstripChars (pe_d D_squeezed hr (by decide) (pa_cons (pv 3) pa_nil)) (pa_cons pe_str pa_nil))) (pss_cons (ps_if (PW.pt (pw_or (PW.pt (pw_and (pt_cmpR op_eq (pv 4) pe_str (nomark _)) (pw_and1 (pt_cmpR op_ne (pv 1) pe_str (nomark _))))) (pw_or1 (PW.pt (pw_and (pt_cmpR op_eq (pv 5) pe_str (nomark _)) (pw_and1 (pt_cmpR op_ne (pv 3) pe_str (nomark _)))))))) (pss_one (ps_ret pe_non)) pss_nil) (pss_one (ps_ret (pe_tup (pa_cons (pv 4) (pa_cons (pe_callTy call_tuple_of (by rfl) T.b_tuple (by decide +kernel) (pa_cons (pe_lc (own := [("piece", 6)]) (g := gName 6) (by rfl) sc_text_pattern.nd (pi_tup (pv 2)) (blkOk_by (own := [("piece", 6)]) (N := n_text_pattern) (sc := defScope s_text_pattern) (by decide +kernel)) (fun _ _ _ _ _ => pg_name (i := 6) sc_text_pattern.nd rfl (Or.inl rfl)) (fun _ _ _ _ _ => pts_nil) (fun _ _ _ _ _ => (pe_d D_squeezed hr (by decide) (pa_cons (pv 6) pa_nil)))) pa_nil)) (pa_cons (pv 5) pa_nil)))))))))), ?_⟩
    refine ⟨_, rfl, a, _, rfl, SqT.of ha, rfl, _, _, rfl, _, _, rfl, _, _, rfl, rfl, ?_⟩
    have s1 : (sqS f).length ≤ 100 := by
      have := sqL_len ((tl f).map lo1)
      rw [List.length_map, ← len_tl] at this
      rw [len_tl, tl_sqS]
      omega
    have s2 : (sqS l).length ≤ 100 := by
      have := sqL_len ((tl l).map lo1)
      rw [List.length_map, ← len_tl] at this
      rw [len_tl, tl_sqS]
      omega
    refine ⟨_, rfl, f, rfl, sf, by omega, rfl, _, _, rfl, rfl, line_of (by omega), ?_⟩
    refine ⟨_, rfl, l, rfl, sl, by omega, rfl, _, _, rfl, rfl, line_of (by omega), ?_⟩
    generalize eb : Txt.lstripChars (sqS f) " " = B at q
    generalize ee : Txt.rstripChars (sqS l) " " = E2 at q
    refine gNameI ?_
    dsimp only
    refine tSeqI ?_
    refine tIfS_val ((decide (B = "") && !decide (f = "")) || (decide (E2 = "") && !decide (l = ""))) (fun R r => ?_) (fun hn => ?_) (fun hn => ?_)
    · refine tOr_val (decide (B = "") && !decide (f = "")) (decide (E2 = "") && !decide (l = "")) (fun R r => tAnd_val (decide (B = "")) (!decide (f = "")) (fun R r => ⟨_, rfl, rfl, _, rfl, by rw [dE]; exact r⟩) (fun _ R r => ⟨_, rfl, rfl, _, rfl, by rw [dE]; exact r⟩) R r)
        (fun _ R r => tAnd_val (decide (E2 = "")) (!decide (l = "")) (fun R r => ⟨_, rfl, rfl, _, rfl, by rw [dE]; exact r⟩) (fun _ R r => ⟨_, rfl, rfl, _, rfl, by rw [dE]; exact r⟩) R r) R r
    · have q := q .non H (Same.refl H)
      unfold tform at q
      rw [eb, ee, if_pos hn] at q
      exact q rfl
    · have q : ∀ v H', Same H H' → PfV H' v (some (B, zs.map sqS, E2)) → Q v H' := fun v H' s p => q v H' s (by
        unfold tform
        rw [eb, ee, if_neg (by rw [hn]; simp)]
        exact p)
      refine ⟨_, rfl, _, rfl, b, rfl, ⟨_, SqT.of hb⟩, fun D hD => lc_it (walk_tup (K := K) (a := b) (xs := zs.map V.str)) (fun i H' => Same H H' ∧ H' D = some (.lst (((zs.take i).map sqS).map V.str))) ⟨same_new hD, upd_same⟩ (fun i H' _ h => SqT.of (h.1 _ _ hb)) ?_ ?_⟩
      · rintro i v H1 H2 hi ⟨sm, hH⟩ ⟨rfl, hv⟩
        rw [List.getElem?_map] at hv
        cases e : zs[i]? with
        | none =>
          rw [e] at hv
          cases hv
        | some z =>
          rw [e] at hv
          have hv' : V.str z = v := Option.some.inj hv
          subst hv'
          have hz := (ok.hz z (List.mem_of_getElem? e)).1
          have hzl := hz.2
          refine ⟨rfl, ?_⟩
          unfold tYes
          refine iteT ⟨_, rfl, z, rfl, hz.1, by omega, _, hH, ?_, fun c o hc => ?_, ?_⟩
          · rw [List.length_map, List.length_map]
            have := List.length_take_le' i zs
            have := ok.h8
            exact szl (by omega)
          · rw [upd_ne (ne_of_none hc hD)]
            exact sm c o hc
          · rw [upd_same, take_next e, List.map_append, List.map_append]
            rfl
      · rintro H1 ⟨sm, hH⟩
        rw [List.length_map, List.take_length] at hH
        refine ⟨D, _, rfl, .inl ⟨SqL.of hH, fun p hp => ⟨_, rfl, (by show 3 ≤ sizeLine; decide), fun r hr => ?_⟩⟩⟩
        exact q _ _ ((sm.trans (same_new hp)).trans (same_new hr)) ⟨r, rfl, p, upd_same, (same_new hr) _ _ upd_same⟩
theorem ok_pattern_form (F : Fun K "pattern_form" "pattern_form" s_pattern_form f fd) (T : Txt K mg aK) (D_need_kind : Dfn P w K mg base "_need_kind" 1 ["kind"] spNeed) (D_is_pattern : Dfn P w K mg base "is_pattern" 4 ["value"] (spIsPat K)) (D_text_pattern : Dfn P w K mg base "_text_pattern" 2 ["pattern"] spTP) :
    FnOk P w K mg base CX0 6 f fd ["kind", "pattern"] spPF := by
  refine F.ok sc_pattern_form (fun vs H Q E h => ?_) (fun cdv A outer s H vs Q E hr h => ?_)
  · obtain ⟨k, a, f, zs, l, rfl, _⟩ := h
    rfl
  · obtain ⟨k, a, f, zs, l, rfl, hP, ok, q⟩ := h
    obtain ⟨sf, lf⟩ := pc_facts ok.hf
    obtain ⟨sl, ll⟩ := pc_facts ok.hl
    refine ⟨_, (pss_cons (ps_expr (pe_d D_need_kind hr (by decide) (pa_cons (pv 0) pa_nil))) (pss_cons (ps_if (pt_not (pt_val (pe_d D_is_pattern hr (by decide) (pa_cons (pv 1) pa_nil)))) (pss_one ps_never) pss_nil) (pss_cons (ps_if (pt_cmpR op_eq (pv 0) pe_str (nomark _)) (pss_one (ps_ret (pe_d D_text_pattern hr (by decide) (pa_cons (pv 1) pa_nil)))) pss_nil) (pss_one (ps_ret (pe_ifExp (pt_cmpR op_eq (pv 0) pe_str (nomark _)) (pv 1) pe_non)))))), ?_⟩
    obtain ⟨b, ha, hb⟩ := hP
    refine ⟨_, rfl, k, rfl, ?_⟩
    refine ⟨_, rfl, _, rfl, .inr (.inr ⟨a, _, _, _, rfl, ha, .inl ⟨_, rfl, by omega⟩, .inl ⟨_, rfl, by omega⟩, .inr ⟨b, _, rfl, hb, fun y hy => ?_, by rw [List.length_map]; have := ok.h8; omega, fun H1 sm => ⟨_, rfl, ?_⟩⟩⟩)⟩
    · obtain ⟨z, hz, rfl⟩ := List.mem_map.mp hy
      have := (ok.hz z hz).1.2
      exact .inl ⟨z, rfl, by omega⟩
    · rw [ok.patB]
      refine iteF ?_
      refine ⟨_, rfl, rfl, _, rfl, ?_⟩
      rw [show decide (V.str k.str = V.str "text") = decide (k = .text) from kk k .text]
      cases k with
      | text => exact iteT ⟨_, rfl, a, f, zs, l, rfl, ⟨b, sm _ _ ha, sm _ _ hb⟩, ok, fun v H2 s2 p => q v H2 (sm.trans s2) p⟩
      | exact =>
        refine iteF ?_
        refine ⟨_, rfl, rfl, _, rfl, iteT ⟨_, rfl, ?_⟩⟩
        exact q _ _ sm ⟨a, rfl, b, sm _ _ ha, sm _ _ hb⟩
      | _ =>
        refine iteF ?_
        refine ⟨_, rfl, rfl, _, rfl, iteF ?_⟩
        exact q _ _ sm rfl
end
end Bw

namespace Bw
open PySem PySem.Spec L2 TL PyProof.Rows

section
variable {P : Program} {w : World} {K : PySem.W.Frag} {mg : Str → Option Value} {base : Heap} {f : Addr} {fd : FuncData} {aK : Addr}
theorem ok_law_due (F : Fun K "_law_due" "_law_due" s_law_due f fd) (T : Txt K mg aK) (D_law_squeezed : Dfn P w K mg base "_law_squeezed" 1 ["_law_text"] spSq) : FnOk P w K mg base CX0 2 f fd ["_law_kind", "_law_pattern"] spPF := by
  refine F.ok sc_law_due (fun vs H Q E h => ?_) (fun cdv A outer s H vs Q E hr h => ?_)
  · obtain ⟨k, a, f, zs, l, rfl, _⟩ := h
    rfl
  · obtain ⟨k, a, f, zs, l, rfl, ⟨b, ha, hb⟩, ok, q⟩ := h
    obtain ⟨sf, lf⟩ := pc_facts ok.hf
    obtain ⟨sl, ll⟩ := pc_facts ok.hl
    refine ⟨_, (pss_cons (ps_asg (pv 1) (pg_tup (by rfl) (pgs_cons (pg_name (i := 2) sc_law_due.nd rfl (Or.inl rfl)) (pgs_cons (pg_name (i := 3) sc_law_due.nd rfl (Or.inl rfl)) (pgs_cons (pg_name (i := 4) sc_law_due.nd rfl (Or.inl rfl)) pgs_nil))))) (pss_cons (ps_if (pt_cmpR op_eq (pv 0) pe_str (nomark _)) (pss_one (ps_ret (pv 1))) pss_nil) (pss_cons (ps_if (pt_cmpR op_ne (pv 0) pe_str (nomark _)) (pss_one (ps_ret pe_non)) pss_nil) (pss_cons (ps_par (i := 5) (j := 6) (by rfl) sc_law_due.nd rfl rfl (by decide) rfl rfl (pa_cons (pe_bm PySem.F.plainAttrs_str PySem.F.slot_str_lstrip PySem.F.type_str_lstrip mt_lstripChars (pe_d D_law_squeezed hr (by decide) (pa_cons (pv 2) pa_nil)) (pa_cons pe_str pa_nil)) (pa_cons (pe_bm PySem.F.plainAttrs_str PySem.F.slot_str_rstrip PySem.F.type_str_rstrip mt_rstripChars (pe_d D_law_squeezed hr (by decide) (pa_cons (pv 4) pa_nil)) (pa_cons pe_str pa_nil)) pa_nil)) (by rfl)) (pss_cons (ps_if (PW.pt (pw_or (PW.pt (pw_and (pt_cmpR op_ne (pv 2) pe_str (nomark _)) (pw_and1 (pt_cmpR op_eq (pv 5) pe_str (nomark _))))) (pw_or1 (PW.pt (pw_and (pt_cmpR op_ne (pv 4) pe_str (nomark _)) (pw_and1 (pt_cmpR op_eq (pv 6) pe_str (nomark _)))))))) (pss_one (ps_ret pe_non)) pss_nil) (pss_one (ps_ret (pe_tup (pa_cons (pv 5) (pa_cons (pe_callTy call_tuple_of (by rfl) T.b_tuple (by decide +kernel) (pa_cons (pe_lc (own := [("_law_piece_here", 7)]) (g := gName 7) (by rfl) sc_law_due.nd (pi_tup (pv 3)) (blkOk_by (own := [("_law_piece_here", 7)]) (N := n_law_due) (sc := defScope s_law_due) (by decide +kernel)) (fun _ _ _ _ _ => pg_name (i := 7) sc_law_due.nd rfl (Or.inl rfl)) (fun _ _ _ _ _ => pts_nil) (fun _ _ _ _ _ => (pe_d D_law_squeezed hr (by decide) (pa_cons (pv 7) pa_nil)))) pa_nil)) (pa_cons (pv 6) pa_nil))))))))))), ?_⟩
    refine ⟨_, rfl, a, _, rfl, SqT.of ha, rfl, _, _, rfl, _, _, rfl, _, _, rfl, rfl, ?_⟩
    refine ⟨_, rfl, rfl, _, rfl, ?_⟩
    rw [show decide (V.str k.str = V.str "exact") = decide (k = .exact) from kk k .exact]
    by_cases hx : k = .exact
    · subst hx
      exact iteT ⟨_, rfl, q _ _ (Same.refl H) ⟨a, rfl, b, ha, hb⟩⟩
    rw [decide_eq_false hx]
    refine iteF ⟨_, rfl, rfl, _, rfl, ?_⟩
    rw [show decide (V.str k.str = V.str "text") = decide (k = .text) from kk k .text]
    rcases (Decidable.em (k = Kd.text)).symm with ht | ht
    · rw [decide_eq_false ht]
      refine iteT (q _ _ (Same.refl H) ?_)
      cases k with
      | text => exact absurd rfl ht
      | exact => exact absurd rfl hx
      | _ => rfl
    subst ht
    rw [decide_eq_true rfl]
    refine iteF ?_
    have s1 : (sqS f).length ≤ 100 := by
      have := sqL_len ((tl f).map lo1)
      rw [List.length_map, ← len_tl] at this
      rw [len_tl, tl_sqS]
      omega
    have s2 : (sqS l).length ≤ 100 := by
      have := sqL_len ((tl l).map lo1)
      rw [List.length_map, ← len_tl] at this
      rw [len_tl, tl_sqS]
      omega
    refine ⟨_, rfl, f, rfl, sf, by omega, rfl, _, _, rfl, rfl, line_of (by omega), ?_⟩
    refine ⟨_, rfl, l, rfl, sl, by omega, rfl, _, _, rfl, rfl, line_of (by omega), ?_⟩
    refine ⟨_, _, rfl, ?_⟩
    have q : ∀ v H', Same H H' → PfV H' v (tform f zs l) → Q v H' := q
    generalize eb : Txt.lstripChars (sqS f) " " = B at q
    generalize ee : Txt.rstripChars (sqS l) " " = E2 at q
    dsimp only
    refine tSeqI ?_
    refine tIfS_val ((!decide (f = "") && decide (B = "")) || (!decide (l = "") && decide (E2 = ""))) (fun R r => ?_) (fun hn => ?_) (fun hn => ?_)
    · refine tOr_val (!decide (f = "") && decide (B = "")) (!decide (l = "") && decide (E2 = "")) (fun R r => tAnd_val (!decide (f = "")) (decide (B = "")) (fun R r => ⟨_, rfl, rfl, _, rfl, by rw [dE]; exact r⟩) (fun _ R r => ⟨_, rfl, rfl, _, rfl, by rw [dE]; exact r⟩) R r)
        (fun _ R r => tAnd_val (!decide (l = "")) (decide (E2 = "")) (fun R r => ⟨_, rfl, rfl, _, rfl, by rw [dE]; exact r⟩) (fun _ R r => ⟨_, rfl, rfl, _, rfl, by rw [dE]; exact r⟩) R r) R r
    · have q := q .non H (Same.refl H)
      unfold tform at q
      rw [eb, ee, Bool.and_comm, Bool.and_comm (decide (E2 = "")), if_pos hn] at q
      exact q rfl
    · have q : ∀ v H', Same H H' → PfV H' v (some (B, zs.map sqS, E2)) → Q v H' := fun v H' s p => q v H' s (by
        unfold tform
        rw [eb, ee, Bool.and_comm, Bool.and_comm (decide (E2 = "")), if_neg (by rw [hn]; simp)]
        exact p)
      refine ⟨_, rfl, _, rfl, b, rfl, ⟨_, SqT.of hb⟩, fun D hD => lc_it (walk_tup (K := K) (a := b) (xs := zs.map V.str)) (fun i H' => Same H H' ∧ H' D = some (.lst (((zs.take i).map sqS).map V.str))) ⟨same_new hD, upd_same⟩ (fun i H' _ h => SqT.of (h.1 _ _ hb)) ?_ ?_⟩
      · rintro i v H1 H2 hi ⟨sm, hH⟩ ⟨rfl, hv⟩
        rw [List.getElem?_map] at hv
        cases e : zs[i]? with
        | none =>
          rw [e] at hv
          cases hv
        | some z =>
          rw [e] at hv
          have hv' : V.str z = v := Option.some.inj hv
          subst hv'
          have hz := (ok.hz z (List.mem_of_getElem? e)).1
          have hzl := hz.2
          refine ⟨rfl, ?_⟩
          unfold tYes
          refine iteT ⟨_, rfl, z, rfl, hz.1, by omega, _, hH, ?_, fun c o hc => ?_, ?_⟩
          · rw [List.length_map, List.length_map]
            have := List.length_take_le' i zs
            have := ok.h8
            exact szl (by omega)
          · rw [upd_ne (ne_of_none hc hD)]
            exact sm c o hc
          · rw [upd_same, take_next e, List.map_append, List.map_append]
            rfl
      · rintro H1 ⟨sm, hH⟩
        rw [List.length_map, List.take_length] at hH
        refine ⟨D, _, rfl, .inl ⟨SqL.of hH, fun p hp => ⟨_, rfl, (by show 3 ≤ sizeLine; decide), fun r hr => ?_⟩⟩⟩
        exact q _ _ ((sm.trans (same_new hp)).trans (same_new hr)) ⟨r, rfl, p, upd_same, (same_new hr) _ _ upd_same⟩
end
end Bw

namespace Bw
open PySem PySem.Spec L2 TL PyProof.Rows
open PySem.StrLaws (subAt_eq occ_eq occ_first range'_split_from At)

/-! ### where a piece lies -/
theorem occ_within (x y : Str) (lo hi : Nat) : (Builtin.Str.occurrences x y lo hi 1 = [] ∧ ∀ i, lo ≤ i → ¬ At x y hi i) ∨
    ∃ i r, Builtin.Str.occurrences x y lo hi 1 = i :: r ∧ lo ≤ i ∧ At x y hi i ∧ ∀ k, lo ≤ k → k < i → ¬ At x y hi k := by
  rw [occ_eq]
  have low : ∀ i ∈ List.range' lo (hi + 1 - lo), lo ≤ i := fun i m => (List.mem_range'_1.mp m).1
  rcases occ_first x y hi 1 (Nat.le_refl 1) _ lo low with ⟨none, miss⟩ | ⟨pre, i, post, cut, head, hit, miss⟩
  · left
    refine ⟨by rw [none], fun i ge at_ => miss i (List.mem_range'_1.mpr ⟨ge, ?_⟩) at_⟩
    have := at_.1
    omega
  · right
    obtain ⟨ge, before⟩ := range'_split_from cut
    obtain ⟨r, er⟩ : ∃ r, ((forIn (List.range' lo (hi + 1 - lo)) ((#[] : Array Nat), lo) (StrLaws.occBody x y hi 1)).run.fst).toList = i :: r := by
      rw [← Array.getElem?_toList] at head
      revert head
      generalize (((forIn (List.range' lo (hi + 1 - lo)) ((#[] : Array Nat), lo) (StrLaws.occBody x y hi 1)).run.fst).toList) = l
      intro head
      cases l with
      | nil => cases head
      | cons a r => exact ⟨r, by rw [Option.some.inj head]⟩
    exact ⟨i, r, er, ge, hit, fun k a b => miss k (before k a b)⟩
/-- z lies at i, as signs -/
def occ (F z : List Nat) (i : Nat) : Bool := decide ((F.drop i).take z.length = z)
theorem at_iff (x y : Str) (hi i : Nat) : At x y hi i ↔ i + y.length ≤ hi ∧ occ (tl x) (tl y) i = true := by
  unfold At occ
  rw [subAt_eq, beq_iff_eq, decide_eq_true_eq, ← len_tl]
theorem find_within (x y : Str) (a e : Nat) (ha : a ≤ e) (he : e ≤ x.length) :
    (Txt.findIn x y (a : Int) (e : Int) = -1 ∧ ∀ i, a ≤ i → ¬ (i + y.length ≤ e ∧ occ (tl x) (tl y) i = true)) ∨
    ∃ i : Nat, Txt.findIn x y (a : Int) (e : Int) = (i : Int) ∧ a ≤ i ∧ i + y.length ≤ e ∧ occ (tl x) (tl y) i = true ∧ ∀ k, a ≤ k → k < i → occ (tl x) (tl y) k = false := by
  have e1 : fromIndex x.length (a : Int) = a := by
    unfold fromIndex
    rw [if_neg (by omega)]
    omega
  have e2 : toIndexW x.length (e : Int) = e := by
    unfold toIndexW
    rw [if_neg (by omega)]
    omega
  unfold Txt.findIn
  rw [e1, e2]
  rcases occ_within x y a e with ⟨h, m⟩ | ⟨i, r, h, ge, hit, m⟩
  · rw [h]
    exact .inl ⟨rfl, fun i hi z => m i hi ((at_iff ..).mpr z)⟩
  · rw [h]
    rw [at_iff] at hit
    refine .inr ⟨i, rfl, ge, hit.1, hit.2, fun k h1 h2 => ?_⟩
    rw [Bool.eq_false_iff]
    intro z
    exact m k h1 h2 ((at_iff ..).mpr ⟨by have := hit.1; omega, z⟩)
end Bw

namespace Bw
open PySem PySem.Spec L2 TL PyProof.Rows
open PySem.StrLaws (subAt_eq)

/-! ### all ways in which the pieces can lie -/
def stepL (F : List Nat) (S : List Nat) (z : List Nat) : List Nat := (((List.range F.length).filter (occ F z)).map (· + z.length)).filter fun e => S.any fun s => decide (s + z.length ≤ e)
def startL (F f : List Nat) : List Nat := if F.take f.length = f then [f.length] else []
def spots (F f : List Nat) (zs : List (List Nat)) : List Nat := zs.foldl (stepL F) (startL F f)
def matchB (F f : List Nat) (zs : List (List Nat)) (l : List Nat) : Bool :=
  decide (l.length ≤ F.length) && (decide (F.drop (F.length - l.length) = l) && (spots F f zs).any fun s => decide (s + l.length ≤ F.length))
theorem step_mem {F S z : List Nat} {e : Nat} : e ∈ stepL F S z ↔ ∃ j, j < F.length ∧ occ F z j = true ∧ e = j + z.length ∧ ∃ s ∈ S, s ≤ j := by
  unfold stepL
  simp only [List.mem_filter, List.mem_map, List.mem_range, List.any_eq_true, decide_eq_true_eq]
  constructor
  · rintro ⟨⟨j, ⟨h1, h2⟩, rfl⟩, s, hs, h3⟩
    exact ⟨j, h1, h2, rfl, s, hs, by omega⟩
  · rintro ⟨j, h1, h2, rfl, s, hs, h3⟩
    exact ⟨⟨j, ⟨h1, h2⟩, rfl⟩, s, hs, by omega⟩
theorem fold_low {F : List Nat} {b : Nat} : ∀ {zs : List (List Nat)} {S : List Nat}, (∀ s ∈ S, b ≤ s) → ∀ s ∈ zs.foldl (stepL F) S, b ≤ s
  | [], S, h => h
  | z :: r, S, h => fold_low (zs := r) fun e he => by
    obtain ⟨j, _, _, rfl, s, hs, h2⟩ := step_mem.mp he
    have := h s hs
    omega
theorem no_match {F f l : List Nat} {zs : List (List Nat)} (h : ∀ s ∈ spots F f zs, F.length < s + l.length) : matchB F f zs l = false := by
  unfold matchB
  have : ((spots F f zs).any fun s => decide (s + l.length ≤ F.length)) = false := by
    rw [Bool.eq_false_iff]
    intro z
    obtain ⟨s, hs, h2⟩ := List.any_eq_true.mp z
    have := h s hs
    have := of_decide_eq_true h2
    omega
  rw [this, Bool.and_false, Bool.and_false]
theorem occ_lt {F z : List Nat} {i : Nat} (h : occ F z i = true) (hz : z ≠ []) : i < F.length := by
  unfold occ at h
  have h := of_decide_eq_true h
  have h2 : 0 < z.length := List.length_pos_iff.mpr hz
  have := congrArg List.length h
  rw [List.length_take, List.length_drop] at this
  omega
theorem starts_iff (x y : Str) : Txt.startswith x y = decide ((tl x).take (tl y).length = tl y) := by
  unfold Txt.startswith
  rw [subAt_eq, List.drop_zero, Bool.eq_iff_iff, Bool.and_eq_true, decide_eq_true_eq, decide_eq_true_eq, beq_iff_eq, ← len_tl]
  constructor
  · exact fun h => h.2
  · intro h
    refine ⟨?_, h⟩
    have := congrArg List.length h
    rw [List.length_take, ← len_tl, ← len_tl] at this
    omega
theorem ends_iff (x y : Str) (h : y.length ≤ x.length) : Txt.endswith x y = decide ((tl x).drop ((tl x).length - (tl y).length) = tl y) := by
  unfold Txt.endswith
  rw [subAt_eq, Bool.eq_iff_iff, Bool.and_eq_true, decide_eq_true_eq, decide_eq_true_eq, beq_iff_eq, ← len_tl, ← len_tl]
  have e : ((tl x).drop (x.length - y.length)).take y.length = (tl x).drop (x.length - y.length) := by
    apply List.take_of_length_le
    rw [List.length_drop, ← len_tl]
    omega
  constructor
  · rintro ⟨_, h2⟩
    have h2 : ((tl x).drop (x.length - y.length)).take y.length = tl y := h2
    rw [e] at h2
    exact h2
  · intro h2
    refine ⟨by omega, ?_⟩
    show ((tl x).drop (x.length - y.length)).take y.length = tl y
    rw [e]
    exact h2
def spCP : Sp := fun vs H Q _ => ∃ (x f l : Str) (p b : Addr) (zs : List Str), vs = [.str x, .ref p] ∧ H p = some (.tup [.str f, .ref b, .str l]) ∧ H b = some (.tup (zs.map V.str)) ∧ x.length ≤ 10000 ∧ f.length ≤ 10000 ∧ l.length ≤ 10000 ∧ (∀ z ∈ zs, z.length ≤ 10000 ∧ z ≠ "") ∧
  Q (.bl (matchB (tl x) (tl f) (zs.map tl) (tl l))) H
section
variable {P : Program} {w : World} {K : PySem.W.Frag} {mg : Str → Option Value} {base : Heap} {f : Addr} {fd : FuncData} {aK : Addr}
theorem ok_can_be_parted (F : Fun K "can_be_parted" "can_be_parted" s_can_be_parted f fd) (T : Txt K mg aK) : FnOk P w K mg base CX0 1 f fd ["form", "pieces"] spCP := by
  refine F.ok sc_can_be_parted (fun vs H Q E h => ?_) (fun cdv A outer s H vs Q E hr h => ?_)
  · obtain ⟨x, f, l, p, b, zs, rfl, _⟩ := h
    rfl
  · obtain ⟨x, f, l, p, b, zs, rfl, hpp, hb, lx, lf, ll, lz, q⟩ := h
    refine ⟨_, (pss_cons (ps_asg (pv 1) (pg_tup (by rfl) (pgs_cons (pg_name (i := 2) sc_can_be_parted.nd rfl (Or.inl rfl)) (pgs_cons (pg_name (i := 3) sc_can_be_parted.nd rfl (Or.inl rfl)) (pgs_cons (pg_name (i := 4) sc_can_be_parted.nd rfl (Or.inl rfl)) pgs_nil))))) (pss_cons (ps_set (i := 5) sc_can_be_parted.nd rfl (Or.inl rfl) (pe_callB call_len_str (by rfl) T.b_len (by decide +kernel) (pa_cons (pv 2) pa_nil))) (pss_cons (ps_set (i := 6) sc_can_be_parted.nd rfl (Or.inl rfl) (pe_op op_sub (pe_callB call_len_str (by rfl) T.b_len (by decide +kernel) (pa_cons (pv 0) pa_nil)) (pe_callB call_len_str (by rfl) T.b_len (by decide +kernel) (pa_cons (pv 4) pa_nil)))) (pss_cons (ps_if (PW.pt (pw_or (pt_cmpR op_gt (pv 5) (pv 6) (nomark _)) (pw_or (pt_not (pt_val (pe_m1 PySem.F.slot_str_startswith PySem.F.type_str_startswith mt_startswith (pv 0) (pv 2)))) (pw_or1 (pt_not (pt_val (pe_m1 PySem.F.slot_str_endswith PySem.F.type_str_endswith mt_endswith (pv 0) (pv 4)))))))) (pss_one (ps_ret pe_bl)) pss_nil) (pss_cons (ps_for PassesOwn.never rfl (pi_tup (pv 3)) (pg_name (i := 7) sc_can_be_parted.nd rfl (Or.inl rfl)) (pss_cons (ps_set (i := 8) sc_can_be_parted.nd rfl (Or.inl rfl) (pe_bm PySem.F.plainAttrs_str PySem.F.slot_str_find PySem.F.type_str_find mt_find4 (pv 0) (pa_cons (pv 7) (pa_cons (pv 5) (pa_cons (pv 6) pa_nil))))) (pss_cons (ps_if (pt_cmpR op_lt (pv 8) pe_int (nomark _)) (pss_one (ps_ret pe_bl)) pss_nil) (pss_one (ps_set (i := 5) sc_can_be_parted.nd rfl (Or.inl rfl) (pe_op op_add (pv 8) (pe_callB call_len_str (by rfl) T.b_len (by decide +kernel) (pa_cons (pv 7) pa_nil)))))))) (pss_one (ps_ret pe_bl))))))), ?_⟩
    refine ⟨_, rfl, p, _, rfl, SqT.of hpp, rfl, _, _, rfl, _, _, rfl, _, _, rfl, rfl, ?_⟩
    refine ⟨_, rfl, f, rfl, line_of (by omega), ?_⟩
    refine ⟨_, rfl, x, rfl, line_of (by omega), _, rfl, l, rfl, line_of (by omega), _, _, rfl, rfl, ?_⟩
    refine ⟨_, rfl, _, rfl, _, _, rfl, rfl, _, rfl, ?_⟩
    have ex := len_tl x
    have ef := len_tl f
    have el := len_tl l
    by_cases h1 : f.length + l.length ≤ x.length
    · rw [show decide (((x.length : Nat) : Int) - ((l.length : Nat) : Int) < ((f.length : Nat) : Int)) = false from decide_eq_false (by omega)]
      refine iteF ?_
      refine ⟨_, rfl, ⟨_, rfl⟩, _, rfl, _, _, rfl, rfl, _, rfl, ?_⟩
      rw [starts_iff]
      rcases (Decidable.em ((tl x).take (tl f).length = tl f)).symm with h2 | h2
      · rw [decide_eq_false h2]
        refine iteT (iteT ?_)
        have := no_match (F := tl x) (f := tl f) (l := tl l) (zs := zs.map tl) (fun s hs => by
          unfold spots startL at hs
          rw [if_neg h2] at hs
          have := fold_low (S := []) (b := (tl x).length + 1) (fun t ht => nomatch ht) s hs
          omega)
        rw [this] at q
        exact q
      rw [decide_eq_true h2]
      refine iteF ⟨_, rfl, ⟨_, rfl⟩, _, rfl, _, _, rfl, rfl, _, rfl, ?_⟩
      rw [ends_iff x l (by omega)]
      rcases (Decidable.em ((tl x).drop ((tl x).length - (tl l).length) = tl l)).symm with h3 | h3
      · rw [decide_eq_false h3]
        refine iteT ?_
        have : matchB (tl x) (tl f) (zs.map tl) (tl l) = false := by
          unfold matchB
          rw [decide_eq_false h3, Bool.false_and, Bool.and_false]
        rw [this] at q
        exact q
      rw [decide_eq_true h3]
      refine iteF ?_
      have ej : ((x.length : Nat) : Int) - ((l.length : Nat) : Int) = ((x.length - l.length : Nat) : Int) := by omega
      have eM : ∀ S : List Nat, spots (tl x) (tl f) (zs.map tl) = S → matchB (tl x) (tl f) (zs.map tl) (tl l) = S.any fun s => decide (s + (tl l).length ≤ (tl x).length) := fun S e => by
        unfold matchB
        rw [e, decide_eq_true h3, decide_eq_true (by omega), Bool.true_and, Bool.true_and]
      refine ⟨_, rfl, b, rfl, ⟨_, SqT.of hb⟩, for_tup (K := K) (a := b) (xs := zs.map V.str) (fun i σ H' => ∃ (at_ : Nat) (o6 o7 : Option V), σ = [some (.str x), some (.ref p), some (.str f), some (.ref b), some (.str l), some (.int at_), some (.int (((x.length : Nat) : Int) - ((l.length : Nat) : Int))), o6, o7] ∧ H' = H ∧
        at_ ∈ spots (tl x) (tl f) ((zs.take i).map tl) ∧ (∀ s ∈ spots (tl x) (tl f) ((zs.take i).map tl), at_ ≤ s) ∧ at_ + l.length ≤ x.length) ⟨f.length, _, _, rfl, rfl, ?_, ?_, h1⟩ (fun i σ H' _ h => ?_) ?_ ?_⟩
      · show f.length ∈ startL (tl x) (tl f)
        unfold startL
        rw [if_pos h2, ef]
        exact List.mem_singleton.mpr rfl
      · show ∀ s ∈ startL (tl x) (tl f), f.length ≤ s
        unfold startL
        rw [if_pos h2]
        intro s hs
        rw [List.mem_singleton.mp hs]
        omega
      · obtain ⟨_, _, _, _, rfl, _⟩ := h
        exact SqT.of hb
      · rintro i v σ H' hv ⟨at_, o6, o7, rfl, rfl, m1, m2, m3⟩
        rw [List.getElem?_map] at hv
        cases e : zs[i]? with
        | none =>
          rw [e] at hv
          cases hv
        | some z =>
          rw [e] at hv
          have hv' : V.str z = v := Option.some.inj hv
          subst hv'
          obtain ⟨lz1, nz⟩ := lz z (List.mem_of_getElem? e)
          have ez := len_tl z
          have nz2 : tl z ≠ [] := fun h => nz (ext_tl (by rw [h, tl_e]))
          have stepE : spots (tl x) (tl f) ((zs.take (i + 1)).map tl) = stepL (tl x) (spots (tl x) (tl f) ((zs.take i).map tl)) (tl z) := by
            unfold spots
            rw [take_next e, List.map_append, List.foldl_append]
            rfl
          refine ⟨_, rfl, rfl, _, rfl, _, rfl, _, rfl, x, z, _, _, rfl, rfl, ?_⟩
          refine ⟨_, rfl, _, _, rfl, rfl, _, rfl, ?_⟩
          rcases find_within x z at_ (x.length - l.length) (by omega) (by omega) with ⟨h, none⟩ | ⟨j, h, ge, le, hit, miss⟩
          · rw [← ej] at h
            rw [h]
            refine iteT ?_
            have low : ∀ s ∈ spots (tl x) (tl f) ((zs.take (i + 1)).map tl), x.length - l.length + 1 ≤ s := fun s hs => by
              rw [stepE] at hs
              obtain ⟨j, _, hj, rfl, t, ht, h4⟩ := step_mem.mp hs
              have h5 := m2 t ht
              by_cases h6 : j + z.length ≤ x.length - l.length
              · exact absurd ⟨h6, hj⟩ (none j (by omega))
              · omega
            have split : spots (tl x) (tl f) (zs.map tl) = ((zs.drop (i + 1)).map tl).foldl (stepL (tl x)) (spots (tl x) (tl f) ((zs.take (i + 1)).map tl)) := by
              unfold spots
              rw [← List.foldl_append, ← List.map_append, List.take_append_drop]
            have := no_match (F := tl x) (f := tl f) (l := tl l) (zs := zs.map tl) (fun s hs => by
              rw [split] at hs
              have := fold_low low s hs
              omega)
            rw [this] at q
            exact q
          · rw [← ej] at h
            rw [h, show decide ((j : Int) < 0) = false from decide_eq_false (by omega)]
            refine iteF ⟨_, rfl, _, rfl, z, rfl, line_of (by omega), _, _, rfl, rfl, ?_⟩
            refine ⟨j + z.length, _, _, (by show [_, _, _, _, _, some (V.int ((j : Int) + (z.length : Int))), _, _, _] = _; rw [show ((j : Int) + (z.length : Int)) = ((j + z.length : Nat) : Int) from by omega]), rfl, ?_, ?_, by omega⟩
            · rw [stepE, step_mem]
              exact ⟨j, occ_lt hit nz2, hit, by rw [← ez], at_, m1, ge⟩
            · intro s hs
              rw [stepE] at hs
              obtain ⟨k, _, hk, rfl, t, ht, h4⟩ := step_mem.mp hs
              have h5 := m2 t ht
              by_cases h6 : k < j
              · have := miss k (by omega) h6
                rw [this] at hk
                cases hk
              · omega
      · rintro σ H' ⟨at_, o6, o7, rfl, rfl, m1, m2, m3⟩
        rw [List.length_map, List.take_length] at m1
        have e := eM _ rfl
        have : ((spots (tl x) (tl f) (zs.map tl)).any fun s => decide (s + (tl l).length ≤ (tl x).length)) = true := List.any_eq_true.mpr ⟨at_, m1, decide_eq_true (by omega)⟩
        rw [e, this] at q
        exact q
    · rw [show decide (((x.length : Nat) : Int) - ((l.length : Nat) : Int) < ((f.length : Nat) : Int)) = true from decide_eq_true (by omega)]
      refine iteT (iteT ?_)
      have := no_match (F := tl x) (f := tl f) (l := tl l) (zs := zs.map tl) (fun s hs => by
        have := fold_low (b := f.length) (fun t ht => by
          unfold startL at ht
          split at ht
          · rw [List.mem_singleton.mp ht]; omega
          · cases ht) s hs
        omega)
      rw [this] at q
      exact q
end
end Bw

namespace Bw
open PySem PySem.Spec L2 TL PyProof.Rows

def matchP (p : Pf) (x : Str) : Bool := match p with
  | none => false
  | some (f, zs, l) => matchB (tl x) (tl f) (zs.map tl) (tl l)
def spDM : Sp := fun vs H Q _ => ∃ (k : Kd) (a : Addr) (f : Str) (zs : List Str) (l x : Str), vs = [.str k.str, .ref a, .str x] ∧ PatAt H a f zs l ∧ PatOk f zs l ∧ IsTx x ∧ x ≠ "" ∧ kform k x = some x ∧ ∀ H', Same H H' → Q (.bl (matchP (pform k f zs l) x)) H'
/-- what the pieces of a form are like -/
def PfOk : Pf → Prop
  | none => True
  | some (f, zs, l) => f.length ≤ 100 ∧ l.length ≤ 100 ∧ zs.length ≤ 8 ∧ ∀ z ∈ zs, z.length ≤ 100 ∧ z ≠ ""
theorem lstrip_len (x y : Str) : (Txt.lstripChars x y).length ≤ x.length := by
  unfold Txt.lstripChars
  rw [stripBy_eq]
  obtain ⟨l1, _⟩ := lo_facts y.cps.contains x
  show (x.cps.extract _ _).size ≤ _
  rw [Array.size_extract]
  have : x.cps.size = x.length := rfl
  omega
theorem rstrip_len (x y : Str) : (Txt.rstripChars x y).length ≤ x.length := by
  unfold Txt.rstripChars
  rw [stripBy_eq]
  show (x.cps.extract _ _).size ≤ _
  rw [Array.size_extract]
  have : x.cps.size = x.length := rfl
  omega
theorem sqS_len (x : Str) : (sqS x).length ≤ x.length := by
  have := sqL_len ((tl x).map lo1)
  rw [List.length_map, ← len_tl] at this
  rw [len_tl, tl_sqS]
  exact this
theorem sqS_ne {x : Str} (h : x ≠ "") : sqS x ≠ "" := fun z => by
  have h2 : tl (sqS x) = [] := by rw [z, tl_e]
  rw [tl_sqS] at h2
  exact sqL_ne (l := (tl x).map lo1) (fun y => h (ext_tl (by rw [tl_e]; exact List.map_eq_nil_iff.mp y))) h2
theorem pform_ok {k : Kd} {f l : Str} {zs : List Str} (ok : PatOk f zs l) : PfOk (pform k f zs l) := by
  have h1 := (pc_facts ok.hf).2
  have h2 := (pc_facts ok.hl).2
  cases k with
  | text =>
    show PfOk (tform f zs l)
    unfold tform
    split
    · trivial
    · have a := lstrip_len (sqS f) " "
      have b := rstrip_len (sqS l) " "
      have c := sqS_len f
      have d := sqS_len l
      refine ⟨by omega, by omega, by rw [List.length_map]; exact ok.h8, fun z hz => ?_⟩
      obtain ⟨y, hy, rfl⟩ := List.mem_map.mp hz
      obtain ⟨h3, h4⟩ := ok.hz y hy
      have := sqS_len y
      have := h3.2
      exact ⟨by omega, sqS_ne h4⟩
  | exact => exact ⟨h1, h2, ok.h8, fun z hz => ⟨(ok.hz z hz).1.2, (ok.hz z hz).2⟩⟩
  | _ => trivial
section
variable {P : Program} {w : World} {K : PySem.W.Frag} {mg : Str → Option Value} {base : Heap} {f : Addr} {fd : FuncData} {aK : Addr}
theorem ok_does_match (F : Fun K "does_match" "does_match" s_does_match f fd) (T : Txt K mg aK) (D_pattern_form : Dfn P w K mg base "pattern_form" 6 ["kind", "pattern"] spPF) (D_is_form : Dfn P w K mg base "is_form" 6 ["kind", "value"] (spForm K))
    (D_can_be_parted : Dfn P w K mg base "can_be_parted" 1 ["form", "pieces"] spCP) : FnOk P w K mg base CX0 7 f fd ["kind", "pattern", "form"] spDM := by
  refine F.ok sc_does_match (fun vs H Q E h => ?_) (fun cdv A outer s H vs Q E hr h => ?_)
  · obtain ⟨k, a, f, zs, l, x, rfl, _⟩ := h
    rfl
  · obtain ⟨k, a, f, zs, l, x, rfl, hP, ok, tx, nx, fx, q⟩ := h
    have lx := tx.2
    refine ⟨_, (pss_cons (ps_set (i := 3) sc_does_match.nd rfl (Or.inl rfl) (pe_d D_pattern_form hr (by decide) (pa_cons (pv 0) (pa_cons (pv 1) pa_nil)))) (pss_cons (ps_if (pt_not (pt_val (pe_d D_is_form hr (by decide) (pa_cons (pv 0) (pa_cons (pv 2) pa_nil))))) (pss_one ps_never) pss_nil) (pss_one (ps_ret (pe_and (pe_cmpR op_notN (pv 3) pe_non (nomark _)) (pe_one (pe_d D_can_be_parted hr (by decide) (pa_cons (pv 2) (pa_cons (pv 3) pa_nil))))))))), ?_⟩
    refine ⟨_, rfl, _, rfl, k, a, f, zs, l, rfl, hP, ok, fun v H1 sm1 hv => ?_⟩
    refine ⟨_, rfl, _, rfl, k, _, rfl, .inl ⟨x, rfl, line_of (by omega), fun H2 sm2 => ?_⟩⟩
    rw [(isTx_iff x).mpr ⟨tx, nx⟩, decide_eq_true fx]
    refine ⟨_, rfl, iteF ?_⟩
    have pk := pform_ok (k := k) ok
    have sm := sm1.trans sm2
    cases ep : pform k f zs l with
    | none =>
      rw [ep] at hv q
      have hv : v = .non := hv
      subst hv
      exact ⟨_, rfl, rfl, _, rfl, iteF (q _ sm)⟩
    | some t =>
      obtain ⟨f2, zs2, l2⟩ := t
      rw [ep] at hv q pk
      obtain ⟨p, rfl, b, h1, h2⟩ := hv
      obtain ⟨k1, k2, k3, k4⟩ := pk
      refine ⟨_, rfl, rfl, _, rfl, iteT ?_⟩
      exact ⟨_, rfl, _, rfl, x, f2, l2, p, b, zs2, rfl, sm2 _ _ h1, sm2 _ _ h2, by omega, by omega, by omega, fun z hz => ⟨by have := (k4 z hz).1; omega, (k4 z hz).2⟩, q _ sm⟩
end
end Bw

namespace Bw
open PySem PySem.Spec L2 TL PyProof.Rows

/-! ### drawn pieces -/
def sg1 : V → Bool
  | .str x => decide (x.length = 1) && decide (∀ c ∈ tl x, 32 ≤ c ∧ c ≤ 126)
  | _ => false
theorem sg1_str {v : V} (h : sg1 v = true) : ∃ x, v = .str x ∧ x.length = 1 ∧ Sgn (tl x) := by
  cases v with
  | str x =>
    have h : (decide (x.length = 1) && decide (∀ c ∈ tl x, 32 ≤ c ∧ c ≤ 126)) = true := h
    rw [Bool.and_eq_true, decide_eq_true_eq, decide_eq_true_eq] at h
    exact ⟨x, rfl, h.1, h.2⟩
  | _ => cases h
theorem joinL_nil : ∀ ls : List (List Nat), joinL [] ls = ls.flatten
  | [] => rfl
  | [a] => by simp [joinL]
  | a :: b :: r => by
    show a ++ ([] ++ joinL [] (b :: r)) = _
    rw [joinL_nil (b :: r)]
    rfl
theorem tl_join0 (ys : List Str) : tl (Txt.join "" ys) = (ys.map tl).flatten := by
  rw [join_eq, tl_join, tl_e, joinL_nil]
theorem ones : ∀ {ys : List Str}, (∀ y ∈ ys, y.length = 1 ∧ Sgn (tl y)) → Sgn (ys.map tl).flatten ∧ (ys.map tl).flatten.length = ys.length ∧ (ys.map (·.length)).sum = ys.length
  | [], _ => ⟨(fun _ z => nomatch z), rfl, rfl⟩
  | y :: r, h => by
    obtain ⟨h1, h2⟩ := h y (List.mem_cons_self ..)
    obtain ⟨i1, i2, i3⟩ := ones (ys := r) fun z hz => h z (List.mem_cons_of_mem _ hz)
    refine ⟨fun c hc => ?_, ?_, ?_⟩
    · rw [List.map_cons, List.flatten_cons] at hc
      rcases List.mem_append.mp hc with hc | hc
      · exact h2 c hc
      · exact i1 c hc
    · rw [List.map_cons, List.flatten_cons, List.length_append, i2, ← len_tl, h1, List.length_cons]
      omega
    · rw [List.map_cons, List.sum_cons, i3, h1, List.length_cons]
      omega
def spPc (n : Nat) : Sp := fun vs H Q _ => ∃ d : Addr, vs = [.ref d] ∧ DiceAt H d ∧ ∀ (x : Str) H', Sgn (tl x) → x.length ≤ n → Moved d H H' → Q (.str x) H'
theorem DiceAt.upd {d D : Addr} {H : Hp} {o : HO} (h : DiceAt H d) (n : d ≠ D) : DiceAt (upd H D o) d := by
  obtain ⟨x, y, z, e⟩ := h
  exact ⟨x, y, z, by rw [upd_ne n]; exact e⟩
theorem Moved.back {d D : Addr} {H H1 : Hp} {o : HO} (m : Moved d H H1) (hd : DiceAt H d) (hD : H D = none) : Moved d H (upd H1 D o) :=
  ⟨fun b u nb hb => by rw [upd_ne (ne_of_none hb hD)]; exact m.1 b u nb hb, m.2.upd (hd.ne hD)⟩
section
variable {P : Program} {w : World} {K : PySem.W.Frag} {mg : Str → Option Value} {base : Heap} {f : Addr} {fd : FuncData} {aK : Addr}
theorem ok_law_piece (F : Fun K "_law_piece" "_law_piece" s_law_piece f fd) (T : Txt K mg aK) (D_law_roll : Dfn P w K mg base "_law_roll" 1 ["_law_dice_here", "_law_total"] spRoll) (D_law_one_of : Dfn P w K mg base "_law_one_of" 2 ["_law_dice_here", "_law_items"] spOne) :
    FnOk P w K mg base CX0 3 f fd ["_law_dice_here"] (spPc 3) := by
  refine F.ok sc_law_piece (fun vs H Q E h => ?_) (fun cdv A outer s H vs Q E hr h => ?_)
  · obtain ⟨d, rfl, _⟩ := h
    rfl
  · obtain ⟨d, rfl, hd, q⟩ := h
    refine ⟨_, (pss_one (ps_ret (pe_join pe_str (pe_lc (own := [("_law_turn", 1)]) (g := gName 1) (by rfl) sc_law_piece.nd (pi_range1 (by rfl) T.b_range (pa_cons (pe_d D_law_roll hr (by decide) (pa_cons (pv 0) (pa_cons pe_int pa_nil))) pa_nil)) (blkOk_by (own := [("_law_turn", 1)]) (N := n_law_piece) (sc := defScope s_law_piece) (by decide +kernel)) (fun _ _ _ _ _ => pg_name (i := 1) sc_law_piece.nd rfl (Or.inl rfl)) (fun _ _ _ _ _ => pts_nil) (fun _ _ _ _ _ => (pe_d D_law_one_of hr (by decide) (pa_cons (pv 0) (pa_cons (pe_lst (pa_cons pe_str (pa_cons pe_str (pa_cons pe_str (pa_cons pe_str (pa_cons pe_str (pa_cons pe_str pa_nil))))))) pa_nil)))))))), ?_⟩
    refine ⟨⟨_, rfl⟩, _, rfl, d, 4, rfl, by decide, by decide, hd, fun r H1 r0 r1 mv => ?_⟩
    refine ⟨r, rfl, by omega, by omega, fun D hD => lc_range (lo := 0) (n := r.toNat) (fun i H' => Moved d H1 H' ∧ ∃ ys : List Str, H' D = some (.lst (ys.map V.str)) ∧ (∀ y ∈ ys, y.length = 1 ∧ Sgn (tl y)) ∧ ys.length = i) ⟨Moved.same mv.2 (same_new hD), [], upd_same, (fun _ z => nomatch z), rfl⟩ ?_ ?_⟩
    · rintro i H2 hi ⟨mv2, ys, hH, hy, li⟩
      refine ⟨rfl, ?_⟩
      unfold tYes
      refine iteT ?_
      refine ⟨_, rfl, (by show 6 ≤ sizeLine; decide), fun l hl => ?_⟩
      refine ⟨d, l, _, rfl, upd_same, (mv2.2.ne hl).symm, (by simp), (by decide), mv2.2.same (same_new hl), fun v H3 hv mv3 => ?_⟩
      obtain ⟨x, rfl, h1, h2⟩ := sg1_str ((by decide +kernel : ∀ v ∈ [V.str "a", V.str "A", V.str "b", V.str " ", V.str "a", V.str "*"], sg1 v = true) v hv)
      have hH3 : H3 D = some (.lst (ys.map V.str)) := mv3.1 _ _ (mv.2.ne hD).symm ((same_new hl) _ _ hH)
      refine ⟨_, hH3, by rw [List.length_map, li]; exact szl (by omega), ((mv2.trans (Moved.same mv2.2 (same_new hl))).trans mv3).back mv.2 hD, ys ++ [x], by rw [upd_same, List.map_append]; rfl, fun y hy2 => ?_, by rw [List.length_append, li]; rfl⟩
      rcases List.mem_append.mp hy2 with hy2 | hy2
      · exact hy y hy2
      · rw [List.mem_singleton.mp hy2]
        exact ⟨h1, h2⟩
    · rintro H2 ⟨mv2, ys, hH, hy, li⟩
      obtain ⟨o1, o2, o3⟩ := ones hy
      refine ⟨"", D, ys, rfl, rfl, .inl (SqL.of hH), ?_, q _ _ (by rw [tl_join0]; exact o1) ?_ (mv.trans mv2)⟩
      · rw [o3, show ("" : Str).length = 0 by decide +kernel]
        omega
      · rw [len_tl, tl_join0, o2]
        omega
theorem ok_law_between (F : Fun K "_law_between" "_law_between" s_law_between f fd) (T : Txt K mg aK) (D_law_roll : Dfn P w K mg base "_law_roll" 1 ["_law_dice_here", "_law_total"] spRoll) (D_law_one_of : Dfn P w K mg base "_law_one_of" 2 ["_law_dice_here", "_law_items"] spOne) :
    FnOk P w K mg base CX0 3 f fd ["_law_dice_here"] (spPc 2) := by
  refine F.ok sc_law_between (fun vs H Q E h => ?_) (fun cdv A outer s H vs Q E hr h => ?_)
  · obtain ⟨d, rfl, _⟩ := h
    rfl
  · obtain ⟨d, rfl, hd, q⟩ := h
    refine ⟨_, (pss_one (ps_ret (pe_join pe_str (pe_lc (own := [("_law_turn", 1)]) (g := gName 1) (by rfl) sc_law_between.nd (pi_range1 (by rfl) T.b_range (pa_cons (pe_d D_law_roll hr (by decide) (pa_cons (pv 0) (pa_cons pe_int pa_nil))) pa_nil)) (blkOk_by (own := [("_law_turn", 1)]) (N := n_law_between) (sc := defScope s_law_between) (by decide +kernel)) (fun _ _ _ _ _ => pg_name (i := 1) sc_law_between.nd rfl (Or.inl rfl)) (fun _ _ _ _ _ => pts_nil) (fun _ _ _ _ _ => (pe_d D_law_one_of hr (by decide) (pa_cons (pv 0) (pa_cons (pe_lst (pa_cons pe_str (pa_cons pe_str (pa_cons pe_str (pa_cons pe_str pa_nil))))) pa_nil)))))))), ?_⟩
    refine ⟨⟨_, rfl⟩, _, rfl, d, 3, rfl, by decide, by decide, hd, fun r H1 r0 r1 mv => ?_⟩
    refine ⟨r, rfl, by omega, by omega, fun D hD => lc_range (lo := 0) (n := r.toNat) (fun i H' => Moved d H1 H' ∧ ∃ ys : List Str, H' D = some (.lst (ys.map V.str)) ∧ (∀ y ∈ ys, y.length = 1 ∧ Sgn (tl y)) ∧ ys.length = i) ⟨Moved.same mv.2 (same_new hD), [], upd_same, (fun _ z => nomatch z), rfl⟩ ?_ ?_⟩
    · rintro i H2 hi ⟨mv2, ys, hH, hy, li⟩
      refine ⟨rfl, ?_⟩
      unfold tYes
      refine iteT ?_
      refine ⟨_, rfl, (by show 4 ≤ sizeLine; decide), fun l hl => ?_⟩
      refine ⟨d, l, _, rfl, upd_same, (mv2.2.ne hl).symm, (by simp), (by decide), mv2.2.same (same_new hl), fun v H3 hv mv3 => ?_⟩
      obtain ⟨x, rfl, h1, h2⟩ := sg1_str ((by decide +kernel : ∀ v ∈ [V.str "a", V.str "b", V.str " ", V.str "x"], sg1 v = true) v hv)
      have hH3 : H3 D = some (.lst (ys.map V.str)) := mv3.1 _ _ (mv.2.ne hD).symm ((same_new hl) _ _ hH)
      refine ⟨_, hH3, by rw [List.length_map, li]; exact szl (by omega), ((mv2.trans (Moved.same mv2.2 (same_new hl))).trans mv3).back mv.2 hD, ys ++ [x], by rw [upd_same, List.map_append]; rfl, fun y hy2 => ?_, by rw [List.length_append, li]; rfl⟩
      rcases List.mem_append.mp hy2 with hy2 | hy2
      · exact hy y hy2
      · rw [List.mem_singleton.mp hy2]
        exact ⟨h1, h2⟩
    · rintro H2 ⟨mv2, ys, hH, hy, li⟩
      obtain ⟨o1, o2, o3⟩ := ones hy
      refine ⟨"", D, ys, rfl, rfl, .inl (SqL.of hH), ?_, q _ _ (by rw [tl_join0]; exact o1) ?_ (mv.trans mv2)⟩
      · rw [o3, show ("" : Str).length = 0 by decide +kernel]
        omega
      · rw [len_tl, tl_join0, o2]
        omega
end
end Bw

namespace Bw
open PySem PySem.Spec L2 TL PyProof.Rows

/-! ### drawn patterns -/
def keepS (y : Str) : Bool := !decide (y = "")
def SmallP (f : Str) (zs : List Str) (l : Str) : Prop := f.length ≤ 3 ∧ l.length ≤ 3 ∧ zs.length ≤ 3 ∧ ∀ z ∈ zs, z.length ≤ 3
theorem pc_of {x : Str} (h : Sgn (tl x)) (hl : x.length ≤ 100) : pcB (.str x) = true := by
  show (isTx x || decide (x = "")) = true
  by_cases e : x = ""
  · rw [decide_eq_true e, Bool.or_true]
  · rw [(isTx_iff x).mpr ⟨⟨h, hl⟩, e⟩, Bool.true_or]
def spDrawn : Sp := fun vs H Q _ => ∃ d : Addr, vs = [.ref d] ∧ DiceAt H d ∧ ∀ (a : Addr) (f : Str) (zs : List Str) (l : Str) H', PatAt H' a f zs l → PatOk f zs l → SmallP f zs l → Moved d H H' → Q (.ref a) H'
section
variable {P : Program} {w : World} {K : PySem.W.Frag} {mg : Str → Option Value} {base : Heap} {f : Addr} {fd : FuncData} {aK : Addr}
theorem ok_law_drawn (F : Fun K "_law_drawn" "_law_drawn" s_law_drawn f fd) (T : Txt K mg aK) (D_law_roll : Dfn P w K mg base "_law_roll" 1 ["_law_dice_here", "_law_total"] spRoll) (D_law_piece : Dfn P w K mg base "_law_piece" 3 ["_law_dice_here"] (spPc 3)) :
    FnOk P w K mg base CX0 4 f fd ["_law_dice_here"] spDrawn := by
  refine F.ok sc_law_drawn (fun vs H Q E h => ?_) (fun cdv A outer s H vs Q E hr h => ?_)
  · obtain ⟨d, rfl, _⟩ := h
    rfl
  · obtain ⟨d, rfl, hd, q⟩ := h
    refine ⟨_, (pss_cons (ps_setLc (i := 1) (own := [("_law_turn", 3)]) (g := gName 3) (by rfl) sc_law_drawn.nd rfl rfl (sw_true rfl rfl rfl (by decide +kernel)) (pi_range1 (by rfl) T.b_range (pa_cons (pe_d D_law_roll hr (by decide) (pa_cons (pv 0) (pa_cons pe_int pa_nil))) pa_nil)) (blkOk_by (own := [("_law_turn", 3)]) (N := n_law_drawn) (sc := defScope s_law_drawn) (by decide +kernel)) (fun _ _ _ _ _ => pg_name (i := 3) sc_law_drawn.nd rfl (Or.inl rfl)) (fun _ _ _ _ _ => pts_nil) (fun _ _ _ _ _ => (pe_d D_law_piece hr (by decide) (pa_cons (pv 0) pa_nil)))) (pss_cons (ps_set (i := 2) sc_law_drawn.nd rfl (Or.inl rfl) (pe_tup (pa_cons (pe_d D_law_piece hr (by decide) (pa_cons (pv 0) pa_nil)) (pa_cons (pe_callTy call_tuple_of (by rfl) T.b_tuple (by decide +kernel) (pa_cons (pe_lc (own := [("_law_piece_here", 4)]) (g := gName 4) (by rfl) sc_law_drawn.nd (pi_list (pv 1)) (blkOk_by (own := [("_law_piece_here", 4)]) (N := n_law_drawn) (sc := defScope s_law_drawn) (by decide +kernel)) (fun _ _ _ _ _ => pg_name (i := 4) sc_law_drawn.nd rfl (Or.inl rfl)) (fun _ _ _ _ _ => (pts_one (pt_cmpR op_ne (pv 4) pe_str (nomark _)))) (fun _ _ _ _ _ => (pv 4))) pa_nil)) (pa_cons (pe_d D_law_piece hr (by decide) (pa_cons (pv 0) pa_nil)) pa_nil))))) (pss_one (ps_ret (pe_ifExp (pt_cmpR (op_neD hr.units) (pv 2) (pe_tup (pa_cons pe_str (pa_cons (pe_tup pa_nil) (pa_cons pe_str pa_nil)))) (nomark _)) (pv 2) (pe_tup (pa_cons pe_str (pa_cons (pe_tup (pa_cons pe_str pa_nil)) (pa_cons pe_str pa_nil))))))))), ?_⟩
    refine ⟨_, rfl, d, 4, rfl, by decide, by decide, hd, fun r H1 r0 r1 mv => ?_⟩
    refine ⟨r, rfl, by omega, by omega, fun M hM => lc_range (lo := 0) (n := r.toNat) (fun i H' => Moved d H1 H' ∧ ∃ ys : List Str, H' M = some (.lst (ys.map V.str)) ∧ (∀ y ∈ ys, Sgn (tl y) ∧ y.length ≤ 3) ∧ ys.length = i) ⟨Moved.same mv.2 (same_new hM), [], upd_same, (fun _ z => nomatch z), rfl⟩ ?_ ?_⟩
    · rintro i H2 hi ⟨mv2, ys, hH, hy, li⟩
      refine ⟨rfl, ?_⟩
      unfold tYes
      refine iteT ?_
      refine ⟨_, rfl, d, rfl, mv2.2, fun x H3 sx lx mv3 => ?_⟩
      have hH3 : H3 M = some (.lst (ys.map V.str)) := mv3.1 _ _ (mv.2.ne hM).symm hH
      refine ⟨_, hH3, by rw [List.length_map, li]; exact szl (by omega), (mv2.trans mv3).back mv.2 hM, ys ++ [x], by rw [upd_same, List.map_append]; rfl, fun y hy2 => ?_, by rw [List.length_append, li]; rfl⟩
      rcases List.mem_append.mp hy2 with hy2 | hy2
      · exact hy y hy2
      · rw [List.mem_singleton.mp hy2]
        exact ⟨sx, lx⟩
    · rintro H2 ⟨mv2, ys, hM2, hy, li⟩
      refine ⟨_, rfl, d, rfl, mv2.2, fun x1 H3 sx1 lx1 mv3 => ?_⟩
      have nMd : M ≠ d := (mv.2.ne hM).symm
      have hM3 : H3 M = some (.lst (ys.map V.str)) := mv3.1 _ _ nMd hM2
      refine ⟨_, rfl, M, rfl, ⟨_, SqL.of hM3⟩, fun D hD => lc_it (walk_list (K := K) (a := M) (xs := ys.map V.str)) (fun i H' => Same H3 H' ∧ H' D = some (.lst (((ys.take i).filter keepS).map V.str))) ⟨same_new hD, upd_same⟩ (fun i H' _ h => SqL.of (h.1 _ _ hM3)) ?_ ?_⟩
      · rintro i v H4 H5 hi ⟨sm, hH⟩ ⟨rfl, hv⟩
        rw [List.getElem?_map] at hv
        cases e : ys[i]? with
        | none =>
          rw [e] at hv
          cases hv
        | some z =>
          rw [e] at hv
          have hv' : V.str z = v := Option.some.inj hv
          subst hv'
          have lt3 : ys.length ≤ 3 := by omega
          refine ⟨rfl, _, rfl, rfl, _, rfl, ?_⟩
          rw [dE]
          cases ek : decide (z = "") with
          | true =>
            refine iteF ⟨sm, ?_⟩
            have : keepS z = false := by unfold keepS; rw [ek]; rfl
            rw [take_next e, List.filter_append, List.filter_cons_of_neg (by rw [this]; simp), List.filter_nil, List.append_nil]
            exact hH
          | false =>
            have : keepS z = true := by unfold keepS; rw [ek]; rfl
            refine iteT ⟨_, rfl, _, hH, ?_, fun c o hc => ?_, ?_⟩
            · rw [List.length_map]
              have := List.length_filter_le keepS (ys.take i)
              have := List.length_take_le' i ys
              exact szl (by omega)
            · rw [upd_ne (ne_of_none hc hD)]
              exact sm c o hc
            · rw [upd_same, take_next e, List.filter_append, List.filter_cons_of_pos this, List.filter_nil, List.map_append]
              rfl
      · rintro H4 ⟨sm4, hH4⟩
        rw [List.length_map, List.take_length] at hH4
        refine ⟨D, _, rfl, .inl ⟨SqL.of hH4, fun p hp => ?_⟩⟩
        have d4 := (mv3.2.same sm4).same (same_new (o := .tup ((ys.filter keepS).map V.str)) hp)
        refine ⟨_, rfl, d, rfl, d4, fun x2 H5 sx2 lx2 mv5 => ⟨(by show 3 ≤ sizeLine; decide), fun a ha => ?_⟩⟩
        have npd : p ≠ d := ((mv3.2.same sm4).ne hp).symm
        have hp5 : H5 p = some (.tup ((ys.filter keepS).map V.str)) := mv5.1 _ _ npd upd_same
        have hz : ∀ z ∈ ys.filter keepS, (IsTx z ∧ z ≠ "") ∧ z.length ≤ 3 := fun z hz => by
          obtain ⟨h1, h2⟩ := List.mem_filter.mp hz
          obtain ⟨h3, h4⟩ := hy z h1
          refine ⟨⟨⟨h3, by omega⟩, fun e => ?_⟩, h4⟩
          unfold keepS at h2
          rw [decide_eq_true e] at h2
          cases h2
        have l8 : (ys.filter keepS).length ≤ 3 := by
          have := List.length_filter_le keepS ys
          omega
        have MA : Moved d H (upd H5 a (.tup [.str x1, .ref p, .str x2])) :=
          (((((mv.trans mv2).trans mv3).trans (Moved.same mv3.2 sm4)).trans (Moved.same (mv3.2.same sm4) (same_new hp))).trans mv5).trans (Moved.same mv5.2 (same_new ha))
        refine ⟨_, rfl, Nat.zero_le _, fun e1 he1 => ⟨(by show 3 ≤ sizeLine; decide), fun e2 he2 => ?_⟩⟩
        have up := (same_new (o := .tup []) he1).trans (same_new (o := .tup [.str "", .ref e1, .str ""]) he2)
        have MB := MA.trans (Moved.same MA.2 up)
        refine ⟨_, _, dp_pat (up _ _ upd_same) (up _ _ ((same_new ha) _ _ hp5)), dp_pat (zs := []) upd_same ((same_new he2) _ _ upd_same), shaped_pat sx1 (fun z h => (hz z h).1) sx2, by decide +kernel, _, rfl, ?_⟩
        rw [eqv_pat]
        by_cases ne : x1 = "" ∧ ys.filter keepS = [] ∧ x2 = ""
        · rw [decide_eq_true ne]
          refine iteF ⟨(by show 1 ≤ sizeLine; decide), fun g1 hg1 => ⟨(by show 3 ≤ sizeLine; decide), fun g2 hg2 => ?_⟩⟩
          refine q g2 "" ["ab"] "" _ ⟨g1, upd_same, (same_new hg2) _ _ upd_same⟩ ⟨by decide +kernel, by decide +kernel, fun z hz => ?_, by decide, fun z => by simp at z⟩ ⟨by decide +kernel, by decide +kernel, by decide, fun z hz => ?_⟩ (MB.trans (Moved.same MB.2 ((same_new hg1).trans (same_new hg2))))
          · rw [List.mem_singleton.mp hz]
            exact (isTx_iff _).mp (by decide +kernel)
          · rw [List.mem_singleton.mp hz]
            decide +kernel
        · rw [decide_eq_false ne]
          refine iteT ⟨_, rfl, ?_⟩
          exact q a x1 (ys.filter keepS) x2 _ ⟨p, up _ _ upd_same, up _ _ ((same_new ha) _ _ hp5)⟩ ⟨pc_of sx1 (by omega), pc_of sx2 (by omega), fun z h => (hz z h).1, by omega, ne⟩ ⟨lx1, lx2, l8, fun z h => (hz z h).2⟩ MB
end
end Bw

namespace Bw
open PySem PySem.Spec L2 TL PyProof.Rows

theorem Sgn_app {a b : List Nat} (h : Sgn a) (k : Sgn b) : Sgn (a ++ b) := fun c hc => by
  rcases List.mem_append.mp hc with hc | hc
  · exact h c hc
  · exact k c hc
theorem lap (a b : Str) : (a ++ b).length = a.length + b.length := by rw [len_tl, tl_append, List.length_append, ← len_tl, ← len_tl]
theorem tup_ne {H : Hp} {d t : Addr} {xs : List V} (hd : DiceAt H d) (h : H t = some (.tup xs)) : t ≠ d := by
  obtain ⟨x, y, z, e⟩ := hd
  exact ne_of h e (by simp)
theorem PatAt.moved {H H1 : Hp} {d a : Addr} {f l : Str} {zs : List Str} (m : Moved d H H1) (hd : DiceAt H d) (h : PatAt H a f zs l) : PatAt H1 a f zs l := by
  obtain ⟨b, h1, h2⟩ := h
  exact ⟨b, m.1 _ _ (tup_ne hd h1) h1, m.1 _ _ (tup_ne hd h2) h2⟩
def spMade : Sp := fun vs H Q _ => ∃ (d a : Addr) (f : Str) (zs : List Str) (l : Str), vs = [.ref d, .ref a] ∧ DiceAt H d ∧ PatAt H a f zs l ∧ PatOk f zs l ∧ SmallP f zs l ∧ ∀ (x : Str) H', Sgn (tl x) → x.length ≤ 23 → Moved d H H' → Q (.str x) H'
section
variable {P : Program} {w : World} {K : PySem.W.Frag} {mg : Str → Option Value} {base : Heap} {f : Addr} {fd : FuncData} {aK : Addr}
theorem ok_law_made_after (F : Fun K "_law_made_after" "_law_made_after" s_law_made_after f fd) (T : Txt K mg aK) (D_law_between : Dfn P w K mg base "_law_between" 3 ["_law_dice_here"] (spPc 2)) :
    FnOk P w K mg base CX0 4 f fd ["_law_dice_here", "_law_pattern"] spMade := by
  refine F.ok sc_law_made_after (fun vs H Q E h => ?_) (fun cdv A outer s H vs Q E hr h => ?_)
  · obtain ⟨d, a, f, zs, l, rfl, _⟩ := h
    rfl
  · obtain ⟨d, a, f, zs, l, rfl, hd, ⟨b, ha, hb⟩, ok, ⟨k1, k2, k3, k4⟩, q⟩ := h
    obtain ⟨sf, _⟩ := pc_facts ok.hf
    obtain ⟨sl, _⟩ := pc_facts ok.hl
    have nad := tup_ne hd ha
    have nbd := tup_ne hd hb
    refine ⟨_, (pss_cons (ps_set (i := 2) sc_law_made_after.nd rfl (Or.inl rfl) (pe_ix ix_tup (pv 1) pe_int (fun _ _ => rfl))) (pss_cons (ps_for PassesOwn.never rfl (pi_tup (pe_ix (r := rIxT K) ix_tup (pv 1) pe_int (fun _ _ => rfl))) (pg_name (i := 3) sc_law_made_after.nd rfl (Or.inl rfl)) (pss_one (ps_set (i := 2) sc_law_made_after.nd rfl (Or.inl rfl) (pe_op op_add_str (pe_op op_add_str (pv 2) (pe_d D_law_between hr (by decide) (pa_cons (pv 0) pa_nil))) (pv 3))))) (pss_one (ps_ret (pe_op op_add_str (pe_op op_add_str (pv 2) (pe_d D_law_between hr (by decide) (pa_cons (pv 0) pa_nil))) (pe_ix ix_tup (pv 1) pe_int (fun _ _ => rfl))))))), ?_⟩
    refine ⟨_, rfl, a, _, _, _, rfl, rfl, SqT.of ha, atI_nat (j := 0) rfl, ?_⟩
    refine ⟨_, rfl, a, _, _, _, rfl, rfl, SqT.of ha, atI_nat (j := 1) rfl, b, rfl, ⟨_, SqT.of hb⟩, for_tup (K := K) (a := b) (xs := zs.map V.str) (fun i σ H' => ∃ (x : Str) (o : Option V), σ = [some (.ref d), some (.ref a), some (.str x), o] ∧ Moved d H H' ∧ Sgn (tl x) ∧ x.length ≤ 3 + 5 * i ∧ i ≤ zs.length) ⟨f, _, rfl, Moved.refl hd, sf, by omega, Nat.zero_le _⟩ (fun i σ H' _ h => ?_) ?_ ?_⟩
    · obtain ⟨_, _, _, mv, _⟩ := h
      exact SqT.of (mv.1 _ _ nbd hb)
    · rintro i v σ H1 hv ⟨x, o, rfl, mv, sx, lx, li⟩
      rw [List.getElem?_map] at hv
      cases e : zs[i]? with
      | none =>
        rw [e] at hv
        cases hv
      | some z =>
        rw [e] at hv
        have hv' : V.str z = v := Option.some.inj hv
        subst hv'
        have hzm := List.mem_of_getElem? e
        have hz := (ok.hz z hzm).1.1
        have hz3 := k4 z hzm
        have hi : i < zs.length := (List.getElem?_eq_some_iff.mp e).1
        refine ⟨_, rfl, _, rfl, d, rfl, mv.2, fun y H2 sy ly mv2 => ?_⟩
        refine ⟨_, _, rfl, rfl, line_of (by omega), _, rfl, _, _, rfl, rfl, line_of (by rw [lap]; omega), ?_⟩
        refine ⟨_, _, rfl, mv.trans mv2, ?_, by rw [lap, lap]; omega, by omega⟩
        rw [tl_append, tl_append]
        exact Sgn_app (Sgn_app sx sy) hz
    · rintro σ H1 ⟨x, o, rfl, mv, sx, lx, li⟩
      rw [List.length_map] at lx
      refine ⟨_, rfl, _, rfl, d, rfl, mv.2, fun y H2 sy ly mv2 => ?_⟩
      refine ⟨_, _, rfl, rfl, line_of (by omega), _, rfl, a, _, _, _, rfl, rfl, SqT.of (mv2.1 _ _ nad (mv.1 _ _ nad ha)), atI_nat (j := 2) rfl, _, _, rfl, rfl, line_of (by rw [lap]; omega), ?_⟩
      refine q _ _ ?_ (by rw [lap, lap]; omega) (mv.trans mv2)
      rw [tl_append, tl_append]
      exact Sgn_app (Sgn_app sx sy) sl
end
end Bw

namespace Bw
open PySem PySem.Spec L2 TL PyProof.Rows

/-! ### text[::-1]: a text of the same signs -/
def tRevS (te : TE) : TE := fun σ H Q => te σ H fun x H1 => ∃ z : Str, x = .str z ∧ z.length ≤ sizeLine ∧ ∀ y : Str, y.length ≤ z.length → (∀ c ∈ tl y, c ∈ tl z) → Q (.str y) H1
section
variable {X : Cx}
theorem pe_revS {e : Expr} {te : TE} {k : Nat} {p1 p2 p3 pos : Pos} (he : PE X e te) : PE X (.Subscript e (.Slice none none (some (.UnaryOp .USub (.Constant (.int 1) k p1) p2)) p3) pos) (tRevS te) := by
  refine ⟨fun pins s0 τ G Qx inv goal => ?_⟩
  refine Subscript_ (thn (he.run pins s0 τ G _ inv goal) fun val sa ⟨xv, Ga, inva, rel, z, exv, small, fin⟩ => ?_)
  subst exv
  obtain ⟨tz, rfl⟩ := rel
  have step : PO X (some (.UnaryOp .USub (.Constant (.int 1) k p1) p2)) (tPart (tUn (rU fun i => .int (-i)) (tC (.int 1)))) := po_some (pe_un un_neg pe_int)
  refine wpAny_Slice (thn (po_none.run pins sa τ Ga (fun o J => o = none ∧ J = Ga) inva ⟨rfl, rfl⟩) fun v1 sb ⟨o1, Gb, invb, q1, z1, z2⟩ => ?_)
  subst z1 z2
  refine thn (po_none.run pins sb τ Gb (fun o J => o = none ∧ J = Gb) invb ⟨rfl, rfl⟩) fun v2 sc ⟨o2, Gc, invc, q2, z3, z4⟩ => ?_
  subst z3 z4
  refine thn (step.run pins sc τ Gc (fun o J => o = some (-1) ∧ J = Gc) invc ⟨1, rfl, -1, rfl, rfl, rfl⟩) fun v3 sd ⟨o3, Gd, invd, q3, z5, z6⟩ => ?_
  subst z5 z6
  obtain ⟨l1, rfl, m1⟩ := IsPart.raw q1
  obtain ⟨l2, rfl, m2⟩ := IsPart.raw q2
  obtain ⟨l3, rfl, m3⟩ := IsPart.raw q3
  have inve : L2.Inv X pins τ Gd { sd with heap := sd.heap.push { cls := .type "slice", data := .fields #[partValue l1, partValue l2, partValue l3] } } := invd.kept (t' := sd.toks) fun b ob q => Heap.get?_push_of_some _ q
  show wpAny (model X.prog X.w) X.A (subscriptTail e (.Slice none none (some (.UnaryOp .USub (.Constant (.int 1) k p1) p2)) p3) (.str z tz) (.ref sd.heap.objs.size)) (EP X pins τ Qx) X.xe { sd with heap := sd.heap.push { cls := .type "slice", data := .fields #[partValue l1, partValue l2, partValue l3] } }
  refine tail_any (ops := [.str z tz, .ref sd.heap.objs.size]) (typeIs_str _ _ _) PySem.F.slot_str_getitem.lookup ?_ (by with_unfolding_all rfl)
  refine wpAny_getItem_str_slice (l := l1) (u := l2) (st := l3) ⟨_, Heap.get?_push_size _ rfl, rfl, rfl⟩ (by rw [m3]; decide) ?_
  have picked : slicePicked z l1 l2 l3 = (List.range z.length).map fun j => z.length - 1 - j := by
    unfold slicePicked
    rw [m1, m2, m3]
    exact PySem.W.krv_sliceRange z.length
  have made : sliceMade z tz l1 l2 l3 = Made.str ⟨((slicePicked z l1 l2 l3).filterMap (z.cps[·]?)).toArray⟩ := by
    unfold sliceMade
    rw [m3]
    rfl
  rw [made, picked]
  have short : (((List.range z.length).map fun j => z.length - 1 - j).filterMap (z.cps[·]?)).length ≤ z.length := by
    refine Nat.le_trans (List.length_filterMap_le ..) ?_
    rw [List.length_map, List.length_range]
    exact Nat.le_refl _
  have shortS : (⟨(((List.range z.length).map fun j => z.length - 1 - j).filterMap (z.cps[·]?)).toArray⟩ : Str).length ≤ z.length := by
    rw [len_tl]
    exact short
  refine ⟨Nat.le_trans shortS small, .str _, Gd, inve.tok _, ⟨_, rfl⟩, fin _ shortS fun c hc => ?_⟩
  have hc : c ∈ ((List.range z.length).map fun j => z.length - 1 - j).filterMap (z.cps[·]?) := hc
  obtain ⟨i, _, hi⟩ := List.mem_filterMap.mp hc
  exact List.mem_of_getElem? (cps_get hi)
end
end Bw

namespace Bw
open PySem PySem.Spec L2 TL PyProof.Rows

def Few (n : Nat) (x : Str) : Prop := Sgn (tl x) ∧ x.length ≤ n
theorem Few.cut {n : Nat} {x : Str} (h : Few n x) (a b : Option Int) : Few n (cutS x a b) :=
  ⟨fun c hc => h.1 c (List.mem_of_mem_drop (List.mem_of_mem_take hc)), Nat.le_trans (cutS_length x a b) h.2⟩
theorem Few.app {m n : Nat} {x y : Str} (h : Few m x) (k : Few n y) : Few (m + n) (x ++ y) :=
  ⟨by rw [tl_append]; exact Sgn_app h.1 k.1, by rw [lap]; have := h.2; have := k.2; omega⟩
theorem Few.le {m n : Nat} {x : Str} (h : Few m x) (k : m ≤ n) : Few n x := ⟨h.1, Nat.le_trans h.2 k⟩
theorem few_lit {x : Str} {n : Nat} (h : (decide (x.length ≤ n) && decide (∀ c ∈ tl x, 32 ≤ c ∧ c ≤ 126)) = true) : Few n x := by
  rw [Bool.and_eq_true, decide_eq_true_eq, decide_eq_true_eq] at h
  exact ⟨h.2, h.1⟩
def spTexts : Sp := fun vs H Q _ => ∃ (d a : Addr) (f : Str) (zs : List Str) (l : Str), vs = [.ref d, .ref a] ∧ DiceAt H d ∧ PatAt H a f zs l ∧ PatOk f zs l ∧ SmallP f zs l ∧ ∀ (L : Addr) (xs : List Str) H', H L = none → H' L = some (.lst (xs.map V.str)) → (∀ x ∈ xs, Few 50 x) → xs.length = 12 → Moved d H H' → Q (.ref L) H'
section
variable {P : Program} {w : World} {K : PySem.W.Frag} {mg : Str → Option Value} {base : Heap} {f : Addr} {fd : FuncData} {aK : Addr}
theorem ok_law_texts (F : Fun K "_law_texts" "_law_texts" s_law_texts f fd) (T : Txt K mg aK) (D_law_made_after : Dfn P w K mg base "_law_made_after" 4 ["_law_dice_here", "_law_pattern"] spMade) (D_law_roll : Dfn P w K mg base "_law_roll" 1 ["_law_dice_here", "_law_total"] spRoll)
    (D_law_one_of : Dfn P w K mg base "_law_one_of" 2 ["_law_dice_here", "_law_items"] spOne) (D_law_piece : Dfn P w K mg base "_law_piece" 3 ["_law_dice_here"] (spPc 3)) :
    FnOk P w K mg base CX0 5 f fd ["_law_dice_here", "_law_pattern"] spTexts := by
  refine F.ok sc_law_texts (fun vs H Q E h => ?_) (fun cdv A outer s H vs Q E hr h => ?_)
  · obtain ⟨d, a, f, zs, l, rfl, _⟩ := h
    rfl
  · obtain ⟨d, a, f, zs, l, rfl, hd, hP, ok, sp, q⟩ := h
    obtain ⟨sf, _⟩ := pc_facts ok.hf
    obtain ⟨sl, _⟩ := pc_facts ok.hl
    refine ⟨_, (pss_cons (ps_set (i := 2) sc_law_texts.nd rfl (Or.inl rfl) (pe_d D_law_made_after hr (by decide) (pa_cons (pv 0) (pa_cons (pv 1) pa_nil)))) (pss_cons (ps_set (i := 3) sc_law_texts.nd rfl (Or.inl rfl) (pe_d D_law_roll hr (by decide) (pa_cons (pv 0) (pa_cons (pe_op op_add (pe_callB call_len_str (by rfl) T.b_len (by decide +kernel) (pa_cons (pv 2) pa_nil)) pe_int) pa_nil)))) (pss_cons (ps_set (i := 4) sc_law_texts.nd rfl (Or.inl rfl) (pe_lst (pa_cons (pv 2) (pa_cons (pe_op op_add_str (pe_slice sl_str (pv 2) po_none (po_some (pv 3))) (pe_slice sl_str (pv 2) (po_some (pe_op op_add (pv 3) pe_int)) po_none)) (pa_cons (pe_op op_add_str (pe_op op_add_str (pe_slice sl_str (pv 2) po_none (po_some (pv 3))) (pe_d D_law_one_of hr (by decide) (pa_cons (pv 0) (pa_cons (pe_lst (pa_cons pe_str (pa_cons pe_str (pa_cons pe_str pa_nil)))) pa_nil)))) (pe_slice sl_str (pv 2) (po_some (pv 3)) po_none)) (pa_cons (pe_revS (pv 2)) pa_nil)))))) (pss_one (ps_ret (pe_op op_cat (pv 4) (pe_lst (pa_cons (pe_op op_add_str (pe_ix ix_tup (pv 1) pe_int (fun _ _ => rfl)) (pe_ix ix_tup (pv 1) pe_int (fun _ _ => rfl))) (pa_cons pe_str (pa_cons pe_str (pa_cons pe_str (pa_cons pe_str (pa_cons pe_str (pa_cons (pe_d D_law_piece hr (by decide) (pa_cons (pv 0) pa_nil)) (pa_cons (pe_op op_add_str (pe_d D_law_piece hr (by decide) (pa_cons (pv 0) pa_nil)) pe_str) pa_nil))))))))))))))), ?_⟩
    refine ⟨_, rfl, _, rfl, d, a, f, zs, l, rfl, hd, hP, ok, sp, fun m H1 sm lm mv1 => ?_⟩
    have fm : Few 23 m := ⟨sm, lm⟩
    refine ⟨_, rfl, _, rfl, m, rfl, line_of (by omega), _, _, rfl, rfl, d, _, rfl, by omega, by omega, mv1.2, fun r H2 r0 r1 mv2 => ?_⟩
    obtain ⟨t, rfl⟩ := Int.eq_ofNat_of_zero_le r0
    have c1 := fm.cut none (some (t : Int))
    have c2 := fm.cut (some ((t : Int) + 1)) none
    have c3 := fm.cut (some (t : Int)) none
    refine ⟨_, rfl, ?_⟩
    refine ⟨_, rfl, _, rfl, _, rfl, m, rfl, line_of (by omega), _, rfl, _, rfl, _, _, rfl, rfl, _, rfl, m, rfl, line_of (by omega), _, _, rfl, rfl, line_of (by have := c1.2; have := c2.2; omega), ?_⟩
    refine ⟨_, rfl, _, rfl, _, rfl, m, rfl, line_of (by omega), _, rfl, (by show 3 ≤ sizeLine; decide), fun l1 hl1 => ?_⟩
    refine ⟨d, l1, _, rfl, upd_same, (mv2.2.ne hl1).symm, (by simp), (by decide), mv2.2.same (same_new hl1), fun v H3 hv mv3 => ?_⟩
    obtain ⟨u, rfl, u1, u2⟩ := sg1_str ((by decide +kernel : ∀ v ∈ [V.str "a", V.str "b", V.str " "], sg1 v = true) v hv)
    have fu : Few 1 u := ⟨u2, by omega⟩
    have c4 := c1.app fu
    have c5 := c4.app c3
    refine ⟨_, _, rfl, rfl, line_of (by have := c1.2; omega), _, rfl, _, rfl, _, rfl, m, rfl, line_of (by omega), _, _, rfl, rfl, line_of (by have := c4.2; have := c3.2; omega), ?_⟩
    refine ⟨_, rfl, m, rfl, line_of (by omega), fun y hy1 hy2 => ⟨(by show 4 ≤ sizeLine; decide), fun L1 hL1 => ?_⟩⟩
    have fy : Few 23 y := ⟨fun c hc => sm c (hy2 c hc), by omega⟩
    have M3 : Moved d H H3 := ((mv1.trans mv2).trans (Moved.same mv2.2 (same_new hl1))).trans mv3
    have nL1 : L1 ≠ d := (mv3.2.ne hL1).symm
    have M4 : ∀ o, Moved d H (upd H3 L1 o) := fun o => M3.trans (Moved.same mv3.2 (same_new hL1))
    obtain ⟨b, ha, hb⟩ := hP
    have nad := tup_ne hd ha
    refine ⟨_, rfl, _, rfl, a, _, _, _, rfl, rfl, SqT.of ((M4 _).1 _ _ nad ha), atI_nat (j := 0) rfl, _, rfl, a, _, _, _, rfl, rfl, SqT.of ((M4 _).1 _ _ nad ha), atI_nat (j := 2) rfl, _, _, rfl, rfl, line_of (by have := sp.1; have := sp.2.1; omega), ?_⟩
    refine ⟨_, rfl, d, rfl, (M4 _).2, fun p1 H5 sp1 lp1 mv5 => ⟨_, rfl, d, rfl, mv5.2, fun p2 H6 sp2 lp2 mv6 => ⟨_, _, rfl, rfl, line_of (by rw [show ("b" : Str).length = 1 by decide +kernel]; omega), (by show 8 ≤ sizeLine; decide), fun L2 hL2 => ?_⟩⟩⟩
    have hL1' : H6 L1 = _ := mv6.1 _ _ nL1 (mv5.1 _ _ nL1 upd_same)
    refine ⟨L1, L2, _, _, rfl, rfl, (same_new hL2) _ _ hL1', upd_same, (by show 12 ≤ sizeLine; decide), fun L3 hL3 => ?_⟩
    have M6 : Moved d H H6 := (M4 _).trans (mv5.trans mv6)
    have M7 : ∀ o, Moved d H (upd H6 L2 o) := fun o => M6.trans (Moved.same M6.2 (same_new hL2))
    have nH : H L3 = none := by
      cases e : H L3 with
      | none => rfl
      | some o =>
        by_cases n : L3 = d
        · subst n
          exact (fun o (h : upd H6 L2 o L3 = none) => by
            obtain ⟨x, y, z, e2⟩ := (M7 o).2
            rw [h] at e2
            cases e2) _ hL3
        · exact nomatch (hL3.symm.trans ((M7 _).1 _ _ n e))
    refine q L3 [m, cutS m none (some (t : Int)) ++ cutS m (some ((t : Int) + 1)) none, cutS m none (some (t : Int)) ++ u ++ cutS m (some (t : Int)) none, y, f ++ l, "ab", "a", "a b", "aa", "aaa", p1, p2 ++ "b"] _ nH upd_same (fun x hx => ?_) rfl ((M7 _).trans (Moved.same (M7 _).2 (same_new hL3)))
    have fb : Few 1 ("b" : Str) := few_lit (by decide +kernel)
    have ff : Few 3 f := ⟨sf, sp.1⟩
    have fl : Few 3 l := ⟨sl, sp.2.1⟩
    simp only [List.mem_cons, List.not_mem_nil, or_false] at hx
    rcases hx with rfl | rfl | rfl | rfl | rfl | rfl | rfl | rfl | rfl | rfl | rfl | rfl
    · exact fm.le (by decide)
    · exact (c1.app c2).le (by decide)
    · exact c5.le (by decide)
    · exact fy.le (by decide)
    · exact (ff.app fl).le (by decide)
    · exact few_lit (by decide +kernel)
    · exact few_lit (by decide +kernel)
    · exact few_lit (by decide +kernel)
    · exact few_lit (by decide +kernel)
    · exact few_lit (by decide +kernel)
    · exact ⟨sp1, by omega⟩
    · exact (Few.app (m := 3) ⟨sp2, lp2⟩ fb).le (by decide)
end
end Bw

namespace Bw
open PySem PySem.Spec L2 TL PyProof.Rows

def nts (l : List Nat) : List V := l.map fun n => V.int (n : Nat)
abbrev rLn : List V → Hp → VK → Prop := fun xs H Q => ∃ z, xs = [V.str z] ∧ z.length ≤ sizeLine ∧ Q (V.int ↑z.length) H
theorem cut_to (x : Str) (n : Nat) : tl (cutS x none (some (n : Int))) = (tl x).take n := by
  show (List.take (HT.sIx x.length x.length (some (n : Int)) - HT.sIx x.length 0 none) (List.drop (HT.sIx x.length 0 none) x.cps.toList)) = _
  rw [HT.sIx_nat, HT.sIx_none, List.drop_zero, Nat.sub_zero]
  have e : x.cps.toList = tl x := rfl
  rw [e, len_tl, List.take_eq_take_iff]
  omega
theorem cut_at (x : Str) (a k : Nat) : tl (cutS x (some (a : Int)) (some ((a + k : Nat) : Int))) = ((tl x).drop a).take k := by
  show (List.take (HT.sIx x.length x.length (some ((a + k : Nat) : Int)) - HT.sIx x.length 0 (some (a : Int))) (List.drop (HT.sIx x.length 0 (some (a : Int))) x.cps.toList)) = _
  rw [HT.sIx_nat, HT.sIx_nat]
  have e : x.cps.toList = tl x := rfl
  rw [e, len_tl]
  by_cases h : a ≤ (tl x).length
  · rw [Nat.min_eq_left h, List.take_eq_take_iff, List.length_drop]
    omega
  · rw [show min a (tl x).length = (tl x).length from by omega, List.drop_length, List.drop_eq_nil_of_le (by omega)]
    simp
theorem cut_from (x : Str) (a : Nat) : tl (cutS x (some (a : Int)) none) = (tl x).drop a := by
  show (List.take (HT.sIx x.length x.length none - HT.sIx x.length 0 (some (a : Int))) (List.drop (HT.sIx x.length 0 (some (a : Int))) x.cps.toList)) = _
  rw [HT.sIx_nat, HT.sIx_none]
  have e : x.cps.toList = tl x := rfl
  rw [e, len_tl]
  by_cases h : a ≤ (tl x).length
  · rw [Nat.min_eq_left h]
    apply List.take_of_length_le
    rw [List.length_drop]
    omega
  · rw [Nat.min_eq_right (by omega), List.drop_length, List.drop_eq_nil_of_le (by omega)]
    simp
theorem dp_ints {K : PySem.W.Frag} {H : Hp} : ∀ l : List Nat, DpAll K H (nts l) (l.map fun n => PyData.int (n : Nat))
  | [] => .nil
  | n :: r => .cons (.int _) (dp_ints r)
theorem lay_ints : ∀ l : List Nat, PyData.canLayAll0 (l.map fun n => PyData.int (n : Nat)) = true
  | [] => rfl
  | n :: r => by simp only [List.map_cons, PyData.canLayAll0, PyData.canLay0, lay_ints r, Bool.and_self]
theorem depth_ints : ∀ l : List Nat, PyData.depthAll (l.map fun n => PyData.int (n : Nat)) ≤ 4
  | [] => by simp [PyData.depthAll]
  | n :: r => by
    have := depth_ints r
    simp only [List.map_cons, PyData.depthAll, PyData.depth]
    omega
theorem shaped_ints (l : List Nat) : SeqAt.shaped (.list (l.map fun n => PyData.int (n : Nat))) = true := by
  unfold SeqAt.shaped
  rw [Bool.and_eq_true]
  refine ⟨?_, decide_eq_true ?_⟩
  · simp only [PyData.canLay0]
    exact lay_ints l
  · have := depth_ints l
    simp only [PyData.depth]
    omega
theorem ne_ints (l : List Nat) (p : Nat → Bool) : (!PyData.eqv (.list ((l.filter p).map fun n => PyData.int (n : Nat))) (.list [])) = l.any p := by
  have e : ∀ m : List Nat, PyData.eqv (.list (m.map fun n => PyData.int (n : Nat))) (.list []) = decide (m = []) := fun m => by
    cases m with
    | nil => simp [PyData.eqv, PyData.eqvAll]
    | cons a r => simp [PyData.eqv, PyData.eqvAll]
  rw [e, Bool.eq_iff_iff]
  simp [List.filter_eq_nil_iff]
def spMt : Sp := fun vs H Q _ => ∃ (a : Addr) (x f l : Str) (zs : List Str), vs = [.ref a, .str x] ∧ PatAt H a f zs l ∧ x.length ≤ 100 ∧ f.length ≤ 100 ∧ l.length ≤ 100 ∧ zs.length ≤ 8 ∧ (∀ z ∈ zs, z.length ≤ 100 ∧ z ≠ "") ∧
  ∀ H', Same H H' → Q (.bl (matchB (tl x) (tl f) (zs.map tl) (tl l))) H'
section
variable {P : Program} {w : World} {K : PySem.W.Frag} {mg : Str → Option Value} {base : Heap} {f : Addr} {fd : FuncData} {aK : Addr}
theorem ok_law_matches (F : Fun K "_law_matches" "_law_matches" s_law_matches f fd) (T : Txt K mg aK) : FnOk P w K mg base CX0 1 f fd ["_law_pattern", "_law_form"] spMt := by
  refine F.ok sc_law_matches (fun vs H Q E h => ?_) (fun cdv A outer s H vs Q E hr h => ?_)
  · obtain ⟨a, x, f, l, zs, rfl, _⟩ := h
    rfl
  · obtain ⟨a, x, f, l, zs, rfl, ⟨b, ha, hb⟩, lx, lf, ll, l8, lz, q⟩ := h
    refine ⟨_, (pss_cons (ps_asg (pv 0) (pg_tup (by rfl) (pgs_cons (pg_name (i := 2) sc_law_matches.nd rfl (Or.inl rfl)) (pgs_cons (pg_name (i := 3) sc_law_matches.nd rfl (Or.inl rfl)) (pgs_cons (pg_name (i := 4) sc_law_matches.nd rfl (Or.inl rfl)) pgs_nil))))) (pss_cons (ps_set (i := 5) sc_law_matches.nd rfl (Or.inr rfl) (pe_ifExp (pt_cmpR op_eq (pe_slice sl_str (pv 1) po_none (po_some (pe_callB call_len_str (by rfl) T.b_len (by decide +kernel) (pa_cons (pv 2) pa_nil)))) (pv 2) (nomark _)) (pe_lst (pa_cons (pe_callB call_len_str (by rfl) T.b_len (by decide +kernel) (pa_cons (pv 2) pa_nil)) pa_nil)) (pe_lst pa_nil))) (pss_cons (ps_for PassesOwn.never rfl (pi_tup (pv 3)) (pg_name (i := 6) sc_law_matches.nd rfl (Or.inr rfl)) (pss_cons (ps_setLc (i := 7) (own := [("_law_at", 9)]) (g := gName 9) (by rfl) sc_law_matches.nd rfl rfl (sw_true rfl rfl rfl (by decide +kernel)) (pi_range1 (by rfl) T.b_range (pa_cons (pe_callB call_len_str (by rfl) T.b_len (by decide +kernel) (pa_cons (pv 1) pa_nil)) pa_nil)) (blkOk_by (own := [("_law_at", 9)]) (N := n_law_matches) (sc := defScope s_law_matches) (by decide +kernel)) (fun _ _ _ _ _ => pg_name (i := 9) sc_law_matches.nd rfl (Or.inl rfl)) (fun _ _ _ _ _ => (pts_one (pt_cmpR op_eq (pe_slice sl_str (pv 1) (po_some (pv 9)) (po_some (pe_op op_add (pv 9) (pe_callB call_len_str (by rfl) T.b_len (by decide +kernel) (pa_cons (pv 6) pa_nil))))) (pv 6) (nomark _)))) (fun _ _ _ _ _ => (pe_op op_add (pv 9) (pe_callB call_len_str (by rfl) T.b_len (by decide +kernel) (pa_cons (pv 6) pa_nil))))) (pss_one (ps_set (i := 5) sc_law_matches.nd rfl (Or.inr rfl) (pe_lc (own := [("_law_end", 10)]) (g := gName 10) (by rfl) sc_law_matches.nd (pi_list (pv 7)) (blkOk_by (own := [("_law_end", 10)]) (N := n_law_matches) (sc := defScope s_law_matches) (by decide +kernel)) (fun _ _ _ _ _ => pg_name (i := 10) sc_law_matches.nd rfl (Or.inr rfl)) (fun _ _ _ _ _ => (pts_one (pt_cmpR (r := rNeD K) (op_neD hr.units) (pe_lc (wi := iList K (tVar 5)) (own := [("_law_spot", 11)]) (g := gName 11) (by rfl) sc_law_matches.nd (pi_list (pv 5)) (by refine blkOk_by (N := n_law_matches) (sc := { kind := ScopeKind.function, names := [(Str.ofString ".0", NameKind.local), (Str.ofString "_law_end", NameKind.cell), (Str.ofString "_law_piece_here", NameKind.cell), (Str.ofString "_law_spots", NameKind.cell)], isGenerator := false, isCoroutine := false }) (scope := { kind := ScopeKind.function, names := [(Str.ofString ".0", NameKind.local), (Str.ofString "_law_spot", NameKind.local), (Str.ofString "len", NameKind.globalImplicit), (Str.ofString "_law_end", NameKind.free), (Str.ofString "_law_piece_here", NameKind.free)], isGenerator := false, isCoroutine := false }) (own := [("_law_spot", 11)]) (by decide +kernel)) (fun _ _ _ _ _ => pg_name (i := 11) sc_law_matches.nd rfl (Or.inl rfl)) (fun _ _ _ _ _ => (pts_one (pt_cmpR op_le (pv 11) (pe_op op_sub (pv 10) (pe_callB call_len_str (by rfl) T.b_len (by decide +kernel) (pa_cons (pv 6) pa_nil))) (nomark _)))) (fun _ _ _ _ _ => (pv 11))) (pe_lst pa_nil) (nomark _)))) (fun _ _ _ _ _ => (pv 10))))))) (pss_cons (ps_set (i := 8) sc_law_matches.nd rfl (Or.inr rfl) (pe_op op_sub (pe_callB call_len_str (by rfl) T.b_len (by decide +kernel) (pa_cons (pv 1) pa_nil)) (pe_callB call_len_str (by rfl) T.b_len (by decide +kernel) (pa_cons (pv 4) pa_nil)))) (pss_one (ps_ret (pe_and (pe_cmpR op_ge (pv 8) pe_int (nomark _)) (pe_and (pe_cmpR op_eq (pe_slice sl_str (pv 1) (po_some (pv 8)) po_none) (pv 4) (nomark _)) (pe_one (pe_cmpR (op_neD hr.units) (pe_lc (own := [("_law_spot", 11)]) (g := gName 11) (by rfl) sc_law_matches.nd (pi_list (pv 5)) (blkOk_by (own := [("_law_spot", 11)]) (N := n_law_matches) (sc := defScope s_law_matches) (by decide +kernel)) (fun _ _ _ _ _ => pg_name (i := 11) sc_law_matches.nd rfl (Or.inl rfl)) (fun _ _ _ _ _ => (pts_one (pt_cmpR op_le (pv 11) (pv 8) (nomark _)))) (fun _ _ _ _ _ => (pv 11))) (pe_lst pa_nil) (nomark _))))))))))), ?_⟩
    have ex := len_tl x
    have ef := len_tl f
    have el := len_tl l
    refine ⟨_, rfl, a, _, rfl, SqT.of ha, rfl, _, _, rfl, _, _, rfl, _, _, rfl, rfl, ?_⟩
    have first : ∀ Q' : VK, (∀ p H1, Same H H1 → H1 p = some (.lst (nts (startL (tl x) (tl f)))) → Q' (.ref p) H1) →
        tIf (tTest (tOp rEq (tSl rSlS (tVar 1) tNoPart (tPart (tCB rLn (tCons (tVar 2) tNil)))) (tVar 2))) (tLst (tCons (tCB rLn (tCons (tVar 2) tNil)) tNil)) (tLst tNil) [some (.ref a), some (.str x), some (.str f), some (.ref b), some (.str l), none, none, none, none, none, none, none] H Q' := by
      intro Q' h
      refine ⟨_, rfl, _, rfl, f, rfl, line_of (by omega), _, rfl, x, rfl, line_of (by omega), _, rfl, rfl, _, rfl, ?_⟩
      have e1 : decide (V.str (cutS x none (some ((f.length : Nat) : Int))) = V.str f) = decide ((tl x).take (tl f).length = tl f) := by
        rw [Bool.eq_iff_iff, decide_eq_true_eq, decide_eq_true_eq, ← cut_to, ← ef]
        constructor
        · intro z
          have : cutS x none (some ((f.length : Nat) : Int)) = f := by injection z
          rw [this]
        · intro z
          exact congrArg V.str (ext_tl z)
      rw [e1]
      unfold startL at h
      by_cases c : (tl x).take (tl f).length = tl f
      · rw [if_pos c] at h
        rw [decide_eq_true c]
        exact iteT ⟨_, rfl, f, rfl, line_of (by omega), (by show 1 ≤ sizeLine; decide), fun p hp => h p _ (same_new hp) (by rw [upd_same, ← ef]; rfl)⟩
      · rw [if_neg c] at h
        rw [decide_eq_false c]
        exact iteF ⟨Nat.zero_le _, fun p hp => h p _ (same_new hp) upd_same⟩
    refine first _ fun p0 H0 sm0 hp0 => ?_
    refine ⟨_, rfl, b, rfl, ⟨_, SqT.of (sm0 _ _ hb)⟩, for_tup (K := K) (a := b) (xs := zs.map V.str) (fun i σ H' => ∃ (p : Addr) (o6 o7 o8 o9 o10 o11 : Option V), σ = [some (.ref a), some (.str x), some (.str f), some (.ref b), some (.str l), some (.ref p), o6, o7, o8, o9, o10, o11] ∧ Same H H' ∧
      H' p = some (.lst (nts (spots (tl x) (tl f) ((zs.take i).map tl)))) ∧ (spots (tl x) (tl f) ((zs.take i).map tl)).length ≤ 101) ⟨p0, _, _, _, _, _, _, rfl, sm0, hp0, ?_⟩ (fun i σ H' _ h => ?_) ?_ ?_⟩
    · show (startL (tl x) (tl f)).length ≤ 101
      unfold startL
      split <;> simp
    · obtain ⟨_, _, _, _, _, _, _, _, sm, _⟩ := h
      exact SqT.of (sm _ _ hb)
    · rintro i v σ H1 hv ⟨p, o6, o7, o8, o9, o10, o11, rfl, sm, hp, lp⟩
      rw [List.getElem?_map] at hv
      cases e : zs[i]? with
      | none =>
        rw [e] at hv
        cases hv
      | some z =>
        rw [e] at hv
        have hv' : V.str z = v := Option.some.inj hv
        subst hv'
        obtain ⟨lz1, nz⟩ := lz z (List.mem_of_getElem? e)
        have ez := len_tl z
        have stepE : spots (tl x) (tl f) ((zs.take (i + 1)).map tl) = stepL (tl x) (spots (tl x) (tl f) ((zs.take i).map tl)) (tl z) := by
          unfold spots
          rw [take_next e, List.map_append, List.foldl_append]
          rfl
        rw [stepE]
        generalize spots (tl x) (tl f) ((zs.take i).map tl) = S at hp lp
        refine ⟨_, rfl, x, rfl, line_of (by omega), _, rfl, by omega, by omega, fun E hE => lc_range (lo := 0) (n := (x.length : Int).toNat) (fun j H' => Same H1 H' ∧ H' E = some (.lst (nts (((List.range j).filter (occ (tl x) (tl z))).map (· + (tl z).length))))) ⟨same_new hE, upd_same⟩ ?_ ?_⟩
        · rintro j H2 hj ⟨sm2, hE2⟩
          have hjx : j < x.length := by omega
          rw [Int.zero_add]
          refine ⟨rfl, ?_⟩
          refine ⟨_, rfl, _, rfl, _, rfl, _, rfl, _, rfl, z, rfl, line_of (by omega), _, _, rfl, rfl, _, rfl, x, rfl, line_of (by omega), _, rfl, rfl, _, rfl, ?_⟩
          have e1 : decide (V.str (cutS x (some ((j : Nat) : Int)) (some (((j : Nat) : Int) + ((z.length : Nat) : Int)))) = V.str z) = occ (tl x) (tl z) j := by
            unfold occ
            rw [Bool.eq_iff_iff, decide_eq_true_eq, decide_eq_true_eq, ← cut_at, ← ez]
            constructor
            · intro h
              have : cutS x (some ((j : Nat) : Int)) (some (((j : Nat) : Int) + ((z.length : Nat) : Int))) = z := by injection h
              exact congrArg tl this
            · intro h
              exact congrArg V.str (ext_tl h)
          rw [show decide (V.str (cutS x (some ((j : Nat) : Int)) (some (((j : Nat) : Int) + ((z.length : Nat) : Int)))) = V.str z) = occ (tl x) (tl z) j from e1]
          cases eo : occ (tl x) (tl z) j with
          | false =>
            refine iteF ⟨sm2, ?_⟩
            rw [List.range_succ, List.filter_append, List.filter_cons_of_neg (by rw [eo]; simp), List.filter_nil, List.append_nil]
            exact hE2
          | true =>
            refine iteT ⟨_, rfl, _, rfl, z, rfl, line_of (by omega), _, _, rfl, rfl, _, hE2, ?_, fun c o hc => ?_, ?_⟩
            · unfold nts
              rw [List.length_map, List.length_map]
              have := List.length_filter_le (occ (tl x) (tl z)) (List.range j)
              rw [List.length_range] at this
              exact szl (by omega)
            · rw [upd_ne (ne_of_none hc hE)]
              exact sm2 c o hc
            · rw [upd_same, List.range_succ, List.filter_append, List.filter_cons_of_pos eo, List.filter_nil, List.map_append]
              unfold nts
              rw [List.map_append, ← ez]
              rfl
        · rintro H2 ⟨sm2, hE2⟩
          rw [show ((x.length : Nat) : Int).toNat = (tl x).length from by rw [Int.toNat_natCast, ex]] at hE2
          generalize eEn : ((List.range (tl x).length).filter (occ (tl x) (tl z))).map (· + (tl z).length) = EN at hE2
          have lEN : EN.length ≤ 100 := by
            have := List.length_filter_le (occ (tl x) (tl z)) (List.range (tl x).length)
            rw [List.length_range] at this
            rw [← eEn, List.length_map]
            omega
          have big : ∀ e ∈ EN, z.length ≤ e := fun e he => by
            rw [← eEn] at he
            obtain ⟨j, _, rfl⟩ := List.mem_map.mp he
            omega
          have eS : stepL (tl x) S (tl z) = EN.filter fun e => S.any fun s => decide (s + (tl z).length ≤ e) := by
            unfold stepL
            rw [eEn]
          rw [eS]
          have hp2 : H2 p = some (.lst (nts S)) := sm2 _ _ hp
          refine ⟨_, rfl, E, rfl, ⟨_, SqL.of hE2⟩, fun D hD => lc_it (walk_list (K := K) (a := E) (xs := nts EN)) (fun j H' => Same H2 H' ∧ H' D = some (.lst (nts ((EN.take j).filter fun e => S.any fun s => decide (s + (tl z).length ≤ e))))) ⟨same_new hD, upd_same⟩ (fun j H' _ h => SqL.of (h.1 _ _ hE2)) ?_ ?_⟩
          · rintro j v H3 H4 hj ⟨sm3, hD3⟩ ⟨rfl, hv⟩
            unfold nts at hv
            rw [List.getElem?_map] at hv
            cases ee : EN[j]? with
            | none =>
              rw [ee] at hv
              cases hv
            | some en =>
              rw [ee] at hv
              have hv' : V.int (en : Nat) = v := Option.some.inj hv
              subst hv'
              have hen := big en (List.mem_of_getElem? ee)
              refine ⟨rfl, ?_⟩
              refine ⟨_, rfl, p, rfl, ⟨_, SqL.of (sm3 _ _ hp2)⟩, fun D2 hD2 => lc_it (walk_list (K := K) (a := p) (xs := nts S)) (fun i H' => Same H4 H' ∧ H' D2 = some (.lst (nts ((S.take i).filter fun s => decide (s + (tl z).length ≤ en))))) ⟨same_new hD2, upd_same⟩ (fun i H' _ h => SqL.of (h.1 _ _ (sm3 _ _ hp2))) ?_ ?_⟩
              · rintro i v H5 H6 hi ⟨sm5, hD5⟩ ⟨rfl, hv⟩
                unfold nts at hv
                rw [List.getElem?_map] at hv
                cases es : S[i]? with
                | none =>
                  rw [es] at hv
                  cases hv
                | some sv =>
                  rw [es] at hv
                  have hv' : V.int (sv : Nat) = v := Option.some.inj hv
                  subst hv'
                  refine ⟨rfl, ?_⟩
                  refine ⟨_, rfl, _, rfl, _, rfl, z, rfl, line_of (by omega), _, _, rfl, rfl, _, _, rfl, rfl, _, rfl, ?_⟩
                  rw [show decide (((sv : Nat) : Int) ≤ ((en : Nat) : Int) - ((z.length : Nat) : Int)) = decide (sv + (tl z).length ≤ en) from by
                    rw [Bool.eq_iff_iff, decide_eq_true_eq, decide_eq_true_eq]
                    omega]
                  cases ed : decide (sv + (tl z).length ≤ en) with
                  | false =>
                    refine iteF ⟨sm5, ?_⟩
                    rw [take_next es, List.filter_append, List.filter_cons_of_neg (by rw [ed]; simp), List.filter_nil, List.append_nil]
                    exact hD5
                  | true =>
                    refine iteT ⟨_, rfl, _, hD5, ?_, fun c o hc => ?_, ?_⟩
                    · unfold nts
                      rw [List.length_map]
                      have h1 := List.length_filter_le (fun s => decide (s + (tl z).length ≤ en)) (S.take i)
                      have h2 := List.length_take_le' i S
                      exact szl (by omega)
                    · rw [upd_ne (ne_of_none hc hD2)]
                      exact sm5 c o hc
                    · rw [upd_same, take_next es, List.filter_append, List.filter_cons_of_pos (by rw [ed]), List.filter_nil]
                      unfold nts
                      rw [List.map_append]
                      rfl
              · rintro H5 ⟨sm5, hD5⟩
                rw [show (nts S).length = S.length from List.length_map .., List.take_length] at hD5
                refine ⟨Nat.zero_le _, fun e0 he0 => ⟨_, _, .lst (SqL.of ((same_new he0) _ _ hD5)) (dp_ints _), .lst (SqL.of upd_same) .nil, shaped_ints _, by decide +kernel, _, rfl, ?_⟩⟩
                rw [ne_ints S fun s => decide (s + (tl z).length ≤ en)]
                have smA := (sm3.trans sm5).trans (same_new (o := .lst []) he0)
                have hD6 := (sm5.trans (same_new (o := .lst []) he0)) _ _ hD3
                cases ea : S.any fun s => decide (s + (tl z).length ≤ en) with
                | false =>
                  refine iteF ⟨smA, ?_⟩
                  rw [take_next ee, List.filter_append, List.filter_cons_of_neg (by rw [ea]; simp), List.filter_nil, List.append_nil]
                  exact hD6
                | true =>
                  refine iteT ⟨_, rfl, _, hD6, ?_, fun c o hc => ?_, ?_⟩
                  · unfold nts
                    rw [List.length_map]
                    have h1 := List.length_filter_le (fun e => S.any fun s => decide (s + (tl z).length ≤ e)) (EN.take j)
                    have h2 := List.length_take_le' j EN
                    exact szl (by omega)
                  · rw [upd_ne (ne_of_none hc hD)]
                    exact smA c o hc
                  · rw [upd_same, take_next ee, List.filter_append, List.filter_cons_of_pos (by rw [ea]), List.filter_nil]
                    unfold nts
                    rw [List.map_append]
                    rfl
          · rintro H3 ⟨sm3, hD3⟩
            rw [show (nts EN).length = EN.length from List.length_map .., List.take_length] at hD3
            refine ⟨D, _, _, _, _, _, _, rfl, (sm.trans sm2).trans sm3, hD3, ?_⟩
            have := List.length_filter_le (fun e => S.any fun s => decide (s + (tl z).length ≤ e)) EN
            omega
    · rintro σ H1 ⟨p, o6, o7, o8, o9, o10, o11, rfl, sm, hp, lp⟩
      rw [List.length_map, List.take_length] at hp lp
      refine ⟨_, rfl, x, rfl, line_of (by omega), _, rfl, l, rfl, line_of (by omega), _, _, rfl, rfl, ?_⟩
      refine ⟨_, rfl, _, _, rfl, rfl, _, rfl, ?_⟩
      have ej : ((x.length : Nat) : Int) - ((l.length : Nat) : Int) = ((x.length : Nat) : Int) - ((l.length : Nat) : Int) := rfl
      by_cases hle : l.length ≤ x.length
      · rw [decide_eq_true (by omega)]
        refine iteT ⟨_, rfl, _, rfl, _, rfl, x, rfl, line_of (by omega), _, rfl, rfl, _, rfl, ?_⟩
        have e1 : decide (V.str (cutS x (some (((x.length : Nat) : Int) - ((l.length : Nat) : Int))) none) = V.str l) = decide ((tl x).drop ((tl x).length - (tl l).length) = tl l) := by
          rw [show ((x.length : Nat) : Int) - ((l.length : Nat) : Int) = (((tl x).length - (tl l).length : Nat) : Int) from by omega, Bool.eq_iff_iff, decide_eq_true_eq, decide_eq_true_eq, ← cut_from]
          constructor
          · intro h
            have : cutS x (some (((tl x).length - (tl l).length : Nat) : Int)) none = l := by injection h
            exact congrArg tl this
          · intro h
            exact congrArg V.str (ext_tl h)
        rw [show decide (V.str (cutS x (some (((x.length : Nat) : Int) - ((l.length : Nat) : Int))) none) = V.str l) = decide ((tl x).drop ((tl x).length - (tl l).length) = tl l) from e1]
        have qm : ∀ H', Same H H' → Q (.bl (decide ((tl x).drop ((tl x).length - (tl l).length) = tl l) && (spots (tl x) (tl f) (zs.map tl)).any fun s => decide (s + (tl l).length ≤ (tl x).length))) H' := fun H' s => by
          have := q H' s
          unfold matchB at this
          rw [decide_eq_true (by omega), Bool.true_and] at this
          exact this
        cases ed : decide ((tl x).drop ((tl x).length - (tl l).length) = tl l) with
        | false =>
          rw [ed] at qm
          exact iteF (qm _ sm)
        | true =>
          rw [ed] at qm
          generalize spots (tl x) (tl f) (zs.map tl) = S at hp lp qm
          refine iteT ?_
          refine ⟨_, rfl, p, rfl, ⟨_, SqL.of hp⟩, fun D2 hD2 => lc_it (walk_list (K := K) (a := p) (xs := nts S)) (fun i H' => Same H1 H' ∧ H' D2 = some (.lst (nts ((S.take i).filter fun s => decide (s + (tl l).length ≤ (tl x).length))))) ⟨same_new hD2, upd_same⟩ (fun i H' _ h => SqL.of (h.1 _ _ hp)) ?_ ?_⟩
          · rintro i v H5 H6 hi ⟨sm5, hD5⟩ ⟨rfl, hv⟩
            unfold nts at hv
            rw [List.getElem?_map] at hv
            cases es : S[i]? with
            | none =>
              rw [es] at hv
              cases hv
            | some sv =>
              rw [es] at hv
              have hv' : V.int (sv : Nat) = v := Option.some.inj hv
              subst hv'
              refine ⟨rfl, ?_⟩
              refine ⟨_, rfl, _, rfl, _, _, rfl, rfl, _, rfl, ?_⟩
              rw [show decide (((sv : Nat) : Int) ≤ ((x.length : Nat) : Int) - ((l.length : Nat) : Int)) = decide (sv + (tl l).length ≤ (tl x).length) from by
                rw [Bool.eq_iff_iff, decide_eq_true_eq, decide_eq_true_eq]
                omega]
              cases ec : decide (sv + (tl l).length ≤ (tl x).length) with
              | false =>
                refine iteF ⟨sm5, ?_⟩
                rw [take_next es, List.filter_append, List.filter_cons_of_neg (by rw [ec]; simp), List.filter_nil, List.append_nil]
                exact hD5
              | true =>
                refine iteT ⟨_, rfl, _, hD5, ?_, fun c o hc => ?_, ?_⟩
                · unfold nts
                  rw [List.length_map]
                  have h1 := List.length_filter_le (fun s => decide (s + (tl l).length ≤ (tl x).length)) (S.take i)
                  have h2 := List.length_take_le' i S
                  exact szl (by omega)
                · rw [upd_ne (ne_of_none hc hD2)]
                  exact sm5 c o hc
                · rw [upd_same, take_next es, List.filter_append, List.filter_cons_of_pos (by rw [ec]), List.filter_nil]
                  unfold nts
                  rw [List.map_append]
                  rfl
          · rintro H5 ⟨sm5, hD5⟩
            rw [show (nts S).length = S.length from List.length_map .., List.take_length] at hD5
            refine ⟨Nat.zero_le _, fun e0 he0 => ⟨_, _, .lst (SqL.of ((same_new he0) _ _ hD5)) (dp_ints _), .lst (SqL.of upd_same) .nil, shaped_ints _, by decide +kernel, ?_⟩⟩
            rw [ne_ints S fun s => decide (s + (tl l).length ≤ (tl x).length)]
            exact qm _ ((sm.trans sm5).trans (same_new he0))
      · rw [decide_eq_false (by omega)]
        refine iteF ?_
        have := q _ sm
        unfold matchB at this
        rw [decide_eq_false (by omega), Bool.false_and] at this
        exact this
end
end Bw

namespace Bw
open PySem PySem.Spec L2 TL PyProof.Rows

theorem NotTup.up {K : PySem.W.Frag} {H H' : Hp} {v : V} (e : Same H H') (h : NotTup K H v) : NotTup K H' v := by
  obtain ⟨t, ty, k⟩ := h
  refine ⟨t, ?_, k⟩
  cases ty with
  | base b =>
    refine .base ?_
    cases b with
    | non => exact .non
    | bl x => exact .bl x
    | int i => exact .int i
    | str x => exact .str x
    | flt x => exact .flt x
    | lst q => exact .lst (e _ _ q)
    | frz q => exact .frz (e _ _ q)
    | tup q => exact .tup (e _ _ q)
    | dK q => exact .dK (e _ _ q)
    | dT q => exact .dT (e _ _ q)
    | ins q cl ha hn htk hm => exact .ins (e _ _ q) cl ha hn htk hm
  | byt b => exact .byt b
  | set q => exact .set (e _ _ q)
  | kList q c => exact .kList q c
  | kTuple q c => exact .kTuple q c
  | kDict q c => exact .kDict q c
  | fTuple q => exact .fTuple (e _ _ q)
  | fDict q => exact .fDict (e _ _ q)
def PJ (K : PySem.W.Frag) (H : Hp) (v : V) (r : Bool) : Prop :=
  (NotTup K H v ∧ r = false) ∨ (∃ a xs, v = .ref a ∧ H a = some (.tup xs) ∧ xs.length ≠ 3 ∧ xs.length ≤ 1000 ∧ r = false) ∨
  (∃ a f m l, v = .ref a ∧ H a = some (.tup [f, m, l]) ∧ Sc f ∧ Sc l ∧ ((NotTup K H m ∧ r = false) ∨ ∃ b ys, m = .ref b ∧ H b = some (.tup ys) ∧ (∀ y ∈ ys, Sc y) ∧ ys.length ≤ 1000 ∧ r = patB f ys l))
theorem PJ.up {K : PySem.W.Frag} {H H' : Hp} {v : V} {r : Bool} (e : Same H H') (h : PJ K H v r) : PJ K H' v r := by
  rcases h with ⟨h, k⟩ | ⟨a, xs, h1, h2, h3⟩ | ⟨a, f, m, l, h1, h2, h3, h4, h5⟩
  · exact .inl ⟨h.up e, k⟩
  · exact .inr (.inl ⟨a, xs, h1, e _ _ h2, h3⟩)
  · refine .inr (.inr ⟨a, f, m, l, h1, e _ _ h2, h3, h4, ?_⟩)
    rcases h5 with ⟨h, k⟩ | ⟨b, ys, k1, k2, k3⟩
    · exact .inl ⟨h.up e, k⟩
    · exact .inr ⟨b, ys, k1, e _ _ k2, k3⟩
theorem PJ.alt {K : PySem.W.Frag} {H : Hp} {v : V} {r : Bool} {Q : VK} (h : PJ K H v r) (q : ∀ H', Same H H' → Q (.bl r) H') :
    (NotTup K H v ∧ Q (.bl false) H) ∨ (∃ a xs, v = .ref a ∧ H a = some (.tup xs) ∧ xs.length ≠ 3 ∧ xs.length ≤ 1000 ∧ Q (.bl false) H) ∨
    (∃ a f m l, v = .ref a ∧ H a = some (.tup [f, m, l]) ∧ Sc f ∧ Sc l ∧ ((NotTup K H m ∧ Q (.bl false) H) ∨ ∃ b ys, m = .ref b ∧ H b = some (.tup ys) ∧ (∀ y ∈ ys, Sc y) ∧ ys.length ≤ 1000 ∧ ∀ H', Same H H' → Q (.bl (patB f ys l)) H')) := by
  rcases h with ⟨h, rfl⟩ | ⟨a, xs, h1, h2, h3, h4, rfl⟩ | ⟨a, f, m, l, h1, h2, h3, h4, h5⟩
  · exact .inl ⟨h, q _ (Same.refl H)⟩
  · exact .inr (.inl ⟨a, xs, h1, h2, h3, h4, q _ (Same.refl H)⟩)
  · refine .inr (.inr ⟨a, f, m, l, h1, h2, h3, h4, ?_⟩)
    rcases h5 with ⟨h, rfl⟩ | ⟨b, ys, k1, k2, k3, k4, rfl⟩
    · exact .inl ⟨h, q _ (Same.refl H)⟩
    · exact .inr ⟨b, ys, k1, k2, k3, k4, q⟩
def scB : V → Bool
  | .str x => decide (x.length ≤ 1000)
  | .non => true
  | _ => false
theorem sc_lit {v : V} (h : scB v = true) : Sc v := by
  cases v with
  | str x => exact .inl ⟨x, rfl, of_decide_eq_true h⟩
  | non => exact .inr rfl
  | _ => cases h
theorem pj_lit {K : PySem.W.Frag} {G : Hp} {a b : Addr} {f l : V} {ys : List V} {r : Bool} (ha : G a = some (.tup [f, .ref b, l])) (hb : G b = some (.tup ys)) (h : (scB f && (scB l && (ys.all scB && (decide (ys.length ≤ 1000) && (patB f ys l == r))))) = true) : PJ K G (.ref a) r := by
  rw [Bool.and_eq_true, Bool.and_eq_true, Bool.and_eq_true, Bool.and_eq_true, decide_eq_true_eq, beq_iff_eq, List.all_eq_true] at h
  obtain ⟨h1, h2, h3, h4, h5⟩ := h
  exact .inr (.inr ⟨a, f, .ref b, l, rfl, ha, sc_lit h1, sc_lit h2, .inr ⟨b, ys, rfl, hb, fun y hy => sc_lit (h3 y hy), h4, h5.symm⟩⟩)
def spNear : Sp := fun vs H Q _ => ∃ (d a : Addr) (f : Str) (zs : List Str) (l : Str), vs = [.ref d, .ref a] ∧ PatAt H a f zs l ∧ PatOk f zs l ∧ SmallP f zs l ∧ ∀ H', Same H H' → Q (.bl true) H'
section
variable {P : Program} {w : World} {K : PySem.W.Frag} {mg : Str → Option Value} {base : Heap} {f : Addr} {fd : FuncData} {aK : Addr}
theorem ok_law_near_right (F : Fun K "_law_near_right" "_law_near_right" s_law_near_right f fd) (T : Txt K mg aK) (D_is_pattern : Dfn P w K mg base "is_pattern" 4 ["value"] (spIsPat K)) :
    FnOk P w K mg base CX0 5 f fd ["_law_dice_here", "_law_pattern"] spNear := by
  refine F.ok sc_law_near_right (fun vs H Q E h => ?_) (fun cdv A outer s H vs Q E hr h => ?_)
  · obtain ⟨d, a, f, zs, l, rfl, _⟩ := h
    rfl
  · obtain ⟨d, a, f, zs, l, rfl, ⟨b, ha, hb⟩, ok, sp, q⟩ := h
    refine ⟨_, (pss_cons (ps_asg (pv 1) (pg_tup (by rfl) (pgs_cons (pg_name (i := 2) sc_law_near_right.nd rfl (Or.inl rfl)) (pgs_cons (pg_name (i := 3) sc_law_near_right.nd rfl (Or.inl rfl)) (pgs_cons (pg_name (i := 4) sc_law_near_right.nd rfl (Or.inl rfl)) pgs_nil))))) (pss_cons (ps_set (i := 5) sc_law_near_right.nd rfl (Or.inl rfl) (pe_lst (pa_cons (pv 1) (pa_cons (pe_tup (pa_cons (pv 2) (pa_cons (pe_tup pa_nil) (pa_cons pe_str pa_nil)))) (pa_cons (pe_tup (pa_cons pe_str (pa_cons (pe_op op_repT (pe_tup (pa_cons pe_str pa_nil)) pe_int) (pa_cons pe_str pa_nil)))) (pa_cons (pe_tup (pa_cons pe_str (pa_cons (pe_tup pa_nil) (pa_cons (pe_op op_mulS pe_str pe_int) pa_nil)))) pa_nil)))))) (pss_cons (ps_set (i := 6) sc_law_near_right.nd rfl (Or.inl rfl) (pe_lst (pa_cons pe_non (pa_cons (pe_tup pa_nil) (pa_cons (pe_tup (pa_cons (pv 2) (pa_cons (pv 3) pa_nil))) (pa_cons (pe_lst (pa_cons (pv 2) (pa_cons (pv 3) (pa_cons (pv 4) pa_nil)))) (pa_cons (pe_tup (pa_cons (pv 2) (pa_cons (pe_callTy call_list_of (by rfl) T.b_list (by decide +kernel) (pa_cons (pv 3) pa_nil)) (pa_cons (pv 4) pa_nil)))) (pa_cons (pe_tup (pa_cons pe_non (pa_cons (pv 3) (pa_cons pe_str pa_nil)))) pa_nil)))))))) (pss_cons (ps_set (i := 6) sc_law_near_right.nd rfl (Or.inl rfl) (pe_op op_cat (pv 6) (pe_lst (pa_cons (pe_tup (pa_cons pe_str (pa_cons (pe_tup pa_nil) (pa_cons pe_str pa_nil)))) (pa_cons (pe_tup (pa_cons pe_str (pa_cons (pe_tup (pa_cons pe_str pa_nil)) (pa_cons pe_str pa_nil)))) (pa_cons (pe_tup (pa_cons pe_str (pa_cons (pe_tup (pa_cons pe_non pa_nil)) (pa_cons pe_str pa_nil)))) (pa_cons (pe_tup (pa_cons pe_str (pa_cons (pe_op op_repT (pe_tup (pa_cons pe_str pa_nil)) pe_int) (pa_cons pe_str pa_nil)))) (pa_cons (pe_tup (pa_cons (pe_op op_mulS pe_str pe_int) (pa_cons (pe_tup pa_nil) (pa_cons pe_str pa_nil)))) (pa_cons pe_str pa_nil))))))))) (pss_cons (ps_set (i := 6) sc_law_near_right.nd rfl (Or.inl rfl) (pe_op op_cat (pv 6) (pe_lst (pa_cons (pe_tup (pa_cons pe_str (pa_cons (pe_tup pa_nil) (pa_cons pe_str pa_nil)))) (pa_cons (pe_tup (pa_cons (pv 2) (pa_cons (pv 3) (pa_cons (pv 4) (pa_cons pe_str pa_nil))))) (pa_cons (pe_tup (pa_cons pe_str (pa_cons (pe_tup (pa_cons pe_str pa_nil)) (pa_cons pe_str pa_nil)))) (pa_cons (pe_tup (pa_cons pe_str (pa_cons (pe_tup (pa_cons (pe_op op_mulS pe_str pe_int) pa_nil)) (pa_cons pe_str pa_nil)))) (pa_cons pe_int (pa_cons pe_dnewK pa_nil))))))))) (pss_cons (ps_if (pt_cmpR (op_neD hr.units) (pe_lc (own := [("_law_value", 7)]) (g := gName 7) (by rfl) sc_law_near_right.nd (pi_list (pv 5)) (blkOk_by (own := [("_law_value", 7)]) (N := n_law_near_right) (sc := defScope s_law_near_right) (by decide +kernel)) (fun _ _ _ _ _ => pg_name (i := 7) sc_law_near_right.nd rfl (Or.inl rfl)) (fun _ _ _ _ _ => (pts_one (pt_cmpR op_isnot_bl (pe_d D_is_pattern hr (by decide) (pa_cons (pv 7) pa_nil)) pe_bl (nomark _)))) (fun _ _ _ _ _ => (pv 7))) (pe_lst pa_nil) (nomark _)) (pss_one (ps_ret pe_bl)) pss_nil) (pss_one (ps_ret (pe_cmpR (op_eqD hr.units) (pe_lc (own := [("_law_value", 7)]) (g := gName 7) (by rfl) sc_law_near_right.nd (pi_list (pv 6)) (blkOk_by (own := [("_law_value", 7)]) (N := n_law_near_right) (sc := defScope s_law_near_right) (by decide +kernel)) (fun _ _ _ _ _ => pg_name (i := 7) sc_law_near_right.nd rfl (Or.inl rfl)) (fun _ _ _ _ _ => (pts_one (pt_cmpR op_isnot_bl (pe_d D_is_pattern hr (by decide) (pa_cons (pv 7) pa_nil)) pe_bl (nomark _)))) (fun _ _ _ _ _ => (pv 7))) (pe_lst pa_nil) (nomark _)))))))))), ?_⟩
    refine ⟨_, rfl, a, _, rfl, SqT.of ha, rfl, _, _, rfl, _, _, rfl, _, _, rfl, rfl, ?_⟩
    refine ⟨_, rfl, _, rfl, Nat.zero_le _, ?_⟩
    intro e1 hnew
    have s1 : Same H (upd H e1 (.tup [])) := same_new hnew
    have f1 : (upd H e1 (.tup [])) e1 = some (.tup []) := upd_same
    clear hnew
    generalize upd H e1 (.tup []) = G1 at s1 f1 ⊢
    refine ⟨(by show 3 ≤ sizeLine; decide), ?_⟩
    intro t1 hnew
    have s2 : Same G1 (upd G1 t1 (.tup [.str f, .ref e1, .str "x"])) := same_new hnew
    have f2 : (upd G1 t1 (.tup [.str f, .ref e1, .str "x"])) t1 = some (.tup [.str f, .ref e1, .str "x"]) := upd_same
    clear hnew
    generalize upd G1 t1 (.tup [.str f, .ref e1, .str "x"]) = G2 at s2 f2 ⊢
    refine ⟨(by show 1 ≤ sizeLine; decide), ?_⟩
    intro u1 hnew
    have s3 : Same G2 (upd G2 u1 (.tup [.str "a"])) := same_new hnew
    have f3 : (upd G2 u1 (.tup [.str "a"])) u1 = some (.tup [.str "a"]) := upd_same
    clear hnew
    generalize upd G2 u1 (.tup [.str "a"]) = G3 at s3 f3 ⊢
    refine ⟨u1, 8, _, rfl, rfl, SqT.of f3, by simp, by decide, by decide, by decide, ?_⟩
    intro u2 hnew
    have s4 : Same G3 (upd G3 u2 (.tup (List.replicate (8 : Int).toNat [V.str "a"]).flatten)) := same_new hnew
    have f4 : (upd G3 u2 (.tup (List.replicate (8 : Int).toNat [V.str "a"]).flatten)) u2 = some (.tup (List.replicate (8 : Int).toNat [V.str "a"]).flatten) := upd_same
    clear hnew
    generalize upd G3 u2 (.tup (List.replicate (8 : Int).toNat [V.str "a"]).flatten) = G4 at s4 f4 ⊢
    refine ⟨(by show 3 ≤ sizeLine; decide), ?_⟩
    intro t2 hnew
    have s5 : Same G4 (upd G4 t2 (.tup [.str "", .ref u2, .str ""])) := same_new hnew
    have f5 : (upd G4 t2 (.tup [.str "", .ref u2, .str ""])) t2 = some (.tup [.str "", .ref u2, .str ""]) := upd_same
    clear hnew
    generalize upd G4 t2 (.tup [.str "", .ref u2, .str ""]) = G5 at s5 f5 ⊢
    refine ⟨Nat.zero_le _, ?_⟩
    intro e2 hnew
    have s6 : Same G5 (upd G5 e2 (.tup [])) := same_new hnew
    have f6 : (upd G5 e2 (.tup [])) e2 = some (.tup []) := upd_same
    clear hnew
    generalize upd G5 e2 (.tup []) = G6 at s6 f6 ⊢
    refine ⟨_, _, rfl, rfl, by decide, by decide, by decide +kernel, (by show 3 ≤ sizeLine; decide), ?_⟩
    intro t3 hnew
    have s7 : Same G6 (upd G6 t3 (.tup [.str "", .ref e2, .str (repS "~" 100)])) := same_new hnew
    have f7 : (upd G6 t3 (.tup [.str "", .ref e2, .str (repS "~" 100)])) t3 = some (.tup [.str "", .ref e2, .str (repS "~" 100)]) := upd_same
    clear hnew
    generalize upd G6 t3 (.tup [.str "", .ref e2, .str (repS "~" 100)]) = G7 at s7 f7 ⊢
    refine ⟨(by show 4 ≤ sizeLine; decide), ?_⟩
    intro LF hnew
    have s8 : Same G7 (upd G7 LF (.lst [.ref a, .ref t1, .ref t2, .ref t3])) := same_new hnew
    have f8 : (upd G7 LF (.lst [.ref a, .ref t1, .ref t2, .ref t3])) LF = some (.lst [.ref a, .ref t1, .ref t2, .ref t3]) := upd_same
    clear hnew
    generalize upd G7 LF (.lst [.ref a, .ref t1, .ref t2, .ref t3]) = G8 at s8 f8 ⊢
    refine ⟨Nat.zero_le _, ?_⟩
    intro e3 hnew
    have s9 : Same G8 (upd G8 e3 (.tup [])) := same_new hnew
    have f9 : (upd G8 e3 (.tup [])) e3 = some (.tup []) := upd_same
    clear hnew
    generalize upd G8 e3 (.tup []) = G9 at s9 f9 ⊢
    refine ⟨_, rfl, _, rfl, (by show 2 ≤ sizeLine; decide), ?_⟩
    intro pr hnew
    have s10 : Same G9 (upd G9 pr (.tup [.str f, .ref b])) := same_new hnew
    have f10 : (upd G9 pr (.tup [.str f, .ref b])) pr = some (.tup [.str f, .ref b]) := upd_same
    clear hnew
    generalize upd G9 pr (.tup [.str f, .ref b]) = G10 at s10 f10 ⊢
    refine ⟨_, rfl, _, rfl, _, rfl, (by show 3 ≤ sizeLine; decide), ?_⟩
    intro l3 hnew
    have s11 : Same G10 (upd G10 l3 (.lst [.str f, .ref b, .str l])) := same_new hnew
    have f11 : (upd G10 l3 (.lst [.str f, .ref b, .str l])) l3 = some (.lst [.str f, .ref b, .str l]) := upd_same
    clear hnew
    generalize upd G10 l3 (.lst [.str f, .ref b, .str l]) = G11 at s11 f11 ⊢
    refine ⟨_, rfl, _, rfl, b, _, rfl, .inr (SqT.of (((((((((((s1.trans s2).trans s3).trans s4).trans s5).trans s6).trans s7).trans s8).trans s9).trans s10).trans s11) _ _ hb)), ?_⟩
    intro lb hnew
    have s12 : Same G11 (upd G11 lb (.lst (zs.map V.str))) := same_new hnew
    have f12 : (upd G11 lb (.lst (zs.map V.str))) lb = some (.lst (zs.map V.str)) := upd_same
    clear hnew
    generalize upd G11 lb (.lst (zs.map V.str)) = G12 at s12 f12 ⊢
    refine ⟨_, rfl, (by show 3 ≤ sizeLine; decide), ?_⟩
    intro t5 hnew
    have s13 : Same G12 (upd G12 t5 (.tup [.str f, .ref lb, .str l])) := same_new hnew
    have f13 : (upd G12 t5 (.tup [.str f, .ref lb, .str l])) t5 = some (.tup [.str f, .ref lb, .str l]) := upd_same
    clear hnew
    generalize upd G12 t5 (.tup [.str f, .ref lb, .str l]) = G13 at s13 f13 ⊢
    refine ⟨_, rfl, (by show 3 ≤ sizeLine; decide), ?_⟩
    intro t6 hnew
    have s14 : Same G13 (upd G13 t6 (.tup [.non, .ref b, .str "a"])) := same_new hnew
    have f14 : (upd G13 t6 (.tup [.non, .ref b, .str "a"])) t6 = some (.tup [.non, .ref b, .str "a"]) := upd_same
    clear hnew
    generalize upd G13 t6 (.tup [.non, .ref b, .str "a"]) = G14 at s14 f14 ⊢
    refine ⟨(by show 6 ≤ sizeLine; decide), ?_⟩
    intro L1 hnew
    have s15 : Same G14 (upd G14 L1 (.lst [.non, .ref e3, .ref pr, .ref l3, .ref t5, .ref t6])) := same_new hnew
    have f15 : (upd G14 L1 (.lst [.non, .ref e3, .ref pr, .ref l3, .ref t5, .ref t6])) L1 = some (.lst [.non, .ref e3, .ref pr, .ref l3, .ref t5, .ref t6]) := upd_same
    clear hnew
    generalize upd G14 L1 (.lst [.non, .ref e3, .ref pr, .ref l3, .ref t5, .ref t6]) = G15 at s15 f15 ⊢
    refine ⟨_, rfl, Nat.zero_le _, ?_⟩
    intro e4 hnew
    have s16 : Same G15 (upd G15 e4 (.tup [])) := same_new hnew
    have f16 : (upd G15 e4 (.tup [])) e4 = some (.tup []) := upd_same
    clear hnew
    generalize upd G15 e4 (.tup []) = G16 at s16 f16 ⊢
    refine ⟨(by show 3 ≤ sizeLine; decide), ?_⟩
    intro t7 hnew
    have s17 : Same G16 (upd G16 t7 (.tup [.str "", .ref e4, .str ""])) := same_new hnew
    have f17 : (upd G16 t7 (.tup [.str "", .ref e4, .str ""])) t7 = some (.tup [.str "", .ref e4, .str ""]) := upd_same
    clear hnew
    generalize upd G16 t7 (.tup [.str "", .ref e4, .str ""]) = G17 at s17 f17 ⊢
    refine ⟨(by show 1 ≤ sizeLine; decide), ?_⟩
    intro u7 hnew
    have s18 : Same G17 (upd G17 u7 (.tup [.str ""])) := same_new hnew
    have f18 : (upd G17 u7 (.tup [.str ""])) u7 = some (.tup [.str ""]) := upd_same
    clear hnew
    generalize upd G17 u7 (.tup [.str ""]) = G18 at s18 f18 ⊢
    refine ⟨(by show 3 ≤ sizeLine; decide), ?_⟩
    intro t8 hnew
    have s19 : Same G18 (upd G18 t8 (.tup [.str "a", .ref u7, .str ""])) := same_new hnew
    have f19 : (upd G18 t8 (.tup [.str "a", .ref u7, .str ""])) t8 = some (.tup [.str "a", .ref u7, .str ""]) := upd_same
    clear hnew
    generalize upd G18 t8 (.tup [.str "a", .ref u7, .str ""]) = G19 at s19 f19 ⊢
    refine ⟨(by show 1 ≤ sizeLine; decide), ?_⟩
    intro u8 hnew
    have s20 : Same G19 (upd G19 u8 (.tup [.non])) := same_new hnew
    have f20 : (upd G19 u8 (.tup [.non])) u8 = some (.tup [.non]) := upd_same
    clear hnew
    generalize upd G19 u8 (.tup [.non]) = G20 at s20 f20 ⊢
    refine ⟨(by show 3 ≤ sizeLine; decide), ?_⟩
    intro t9 hnew
    have s21 : Same G20 (upd G20 t9 (.tup [.str "a", .ref u8, .str ""])) := same_new hnew
    have f21 : (upd G20 t9 (.tup [.str "a", .ref u8, .str ""])) t9 = some (.tup [.str "a", .ref u8, .str ""]) := upd_same
    clear hnew
    generalize upd G20 t9 (.tup [.str "a", .ref u8, .str ""]) = G21 at s21 f21 ⊢
    refine ⟨(by show 1 ≤ sizeLine; decide), ?_⟩
    intro u9 hnew
    have s22 : Same G21 (upd G21 u9 (.tup [.str "a"])) := same_new hnew
    have f22 : (upd G21 u9 (.tup [.str "a"])) u9 = some (.tup [.str "a"]) := upd_same
    clear hnew
    generalize upd G21 u9 (.tup [.str "a"]) = G22 at s22 f22 ⊢
    refine ⟨u9, 9, _, rfl, rfl, SqT.of f22, by simp, by decide, by decide, by decide, ?_⟩
    intro u10 hnew
    have s23 : Same G22 (upd G22 u10 (.tup (List.replicate (9 : Int).toNat [V.str "a"]).flatten)) := same_new hnew
    have f23 : (upd G22 u10 (.tup (List.replicate (9 : Int).toNat [V.str "a"]).flatten)) u10 = some (.tup (List.replicate (9 : Int).toNat [V.str "a"]).flatten) := upd_same
    clear hnew
    generalize upd G22 u10 (.tup (List.replicate (9 : Int).toNat [V.str "a"]).flatten) = G23 at s23 f23 ⊢
    refine ⟨(by show 3 ≤ sizeLine; decide), ?_⟩
    intro t10 hnew
    have s24 : Same G23 (upd G23 t10 (.tup [.str "", .ref u10, .str ""])) := same_new hnew
    have f24 : (upd G23 t10 (.tup [.str "", .ref u10, .str ""])) t10 = some (.tup [.str "", .ref u10, .str ""]) := upd_same
    clear hnew
    generalize upd G23 t10 (.tup [.str "", .ref u10, .str ""]) = G24 at s24 f24 ⊢
    refine ⟨_, _, rfl, rfl, by decide, by decide, by decide +kernel, Nat.zero_le _, ?_⟩
    intro e5 hnew
    have s25 : Same G24 (upd G24 e5 (.tup [])) := same_new hnew
    have f25 : (upd G24 e5 (.tup [])) e5 = some (.tup []) := upd_same
    clear hnew
    generalize upd G24 e5 (.tup []) = G25 at s25 f25 ⊢
    refine ⟨(by show 3 ≤ sizeLine; decide), ?_⟩
    intro t11 hnew
    have s26 : Same G25 (upd G25 t11 (.tup [.str (repS "a" 101), .ref e5, .str ""])) := same_new hnew
    have f26 : (upd G25 t11 (.tup [.str (repS "a" 101), .ref e5, .str ""])) t11 = some (.tup [.str (repS "a" 101), .ref e5, .str ""]) := upd_same
    clear hnew
    generalize upd G25 t11 (.tup [.str (repS "a" 101), .ref e5, .str ""]) = G26 at s26 f26 ⊢
    refine ⟨(by show 6 ≤ sizeLine; decide), ?_⟩
    intro L2 hnew
    have s27 : Same G26 (upd G26 L2 (.lst [.ref t7, .ref t8, .ref t9, .ref t10, .ref t11, .str "a*b"])) := same_new hnew
    have f27 : (upd G26 L2 (.lst [.ref t7, .ref t8, .ref t9, .ref t10, .ref t11, .str "a*b"])) L2 = some (.lst [.ref t7, .ref t8, .ref t9, .ref t10, .ref t11, .str "a*b"]) := upd_same
    clear hnew
    generalize upd G26 L2 (.lst [.ref t7, .ref t8, .ref t9, .ref t10, .ref t11, .str "a*b"]) = G27 at s27 f27 ⊢
    refine ⟨L1, L2, _, _, rfl, rfl, ((((((((((((s16.trans s17).trans s18).trans s19).trans s20).trans s21).trans s22).trans s23).trans s24).trans s25).trans s26).trans s27) _ _ f15), f27, (by show 12 ≤ sizeLine; decide), ?_⟩
    intro L12 hnew
    have s28 : Same G27 (upd G27 L12 (.lst ([.non, .ref e3, .ref pr, .ref l3, .ref t5, .ref t6] ++ [.ref t7, .ref t8, .ref t9, .ref t10, .ref t11, .str "a*b"]))) := same_new hnew
    have f28 : (upd G27 L12 (.lst ([.non, .ref e3, .ref pr, .ref l3, .ref t5, .ref t6] ++ [.ref t7, .ref t8, .ref t9, .ref t10, .ref t11, .str "a*b"]))) L12 = some (.lst ([.non, .ref e3, .ref pr, .ref l3, .ref t5, .ref t6] ++ [.ref t7, .ref t8, .ref t9, .ref t10, .ref t11, .str "a*b"])) := upd_same
    clear hnew
    generalize upd G27 L12 (.lst ([.non, .ref e3, .ref pr, .ref l3, .ref t5, .ref t6] ++ [.ref t7, .ref t8, .ref t9, .ref t10, .ref t11, .str "a*b"])) = G28 at s28 f28 ⊢
    refine ⟨_, rfl, Nat.zero_le _, ?_⟩
    intro e6 hnew
    have s29 : Same G28 (upd G28 e6 (.tup [])) := same_new hnew
    have f29 : (upd G28 e6 (.tup [])) e6 = some (.tup []) := upd_same
    clear hnew
    generalize upd G28 e6 (.tup []) = G29 at s29 f29 ⊢
    refine ⟨(by show 3 ≤ sizeLine; decide), ?_⟩
    intro t12 hnew
    have s30 : Same G29 (upd G29 t12 (.tup [.str "a\n", .ref e6, .str ""])) := same_new hnew
    have f30 : (upd G29 t12 (.tup [.str "a\n", .ref e6, .str ""])) t12 = some (.tup [.str "a\n", .ref e6, .str ""]) := upd_same
    clear hnew
    generalize upd G29 t12 (.tup [.str "a\n", .ref e6, .str ""]) = G30 at s30 f30 ⊢
    refine ⟨_, rfl, _, rfl, _, rfl, (by show 4 ≤ sizeLine; decide), ?_⟩
    intro t13 hnew
    have s31 : Same G30 (upd G30 t13 (.tup [.str f, .ref b, .str l, .str ""])) := same_new hnew
    have f31 : (upd G30 t13 (.tup [.str f, .ref b, .str l, .str ""])) t13 = some (.tup [.str f, .ref b, .str l, .str ""]) := upd_same
    clear hnew
    generalize upd G30 t13 (.tup [.str f, .ref b, .str l, .str ""]) = G31 at s31 f31 ⊢
    refine ⟨(by show 1 ≤ sizeLine; decide), ?_⟩
    intro u11 hnew
    have s32 : Same G31 (upd G31 u11 (.tup [.str "\n"])) := same_new hnew
    have f32 : (upd G31 u11 (.tup [.str "\n"])) u11 = some (.tup [.str "\n"]) := upd_same
    clear hnew
    generalize upd G31 u11 (.tup [.str "\n"]) = G32 at s32 f32 ⊢
    refine ⟨(by show 3 ≤ sizeLine; decide), ?_⟩
    intro t14 hnew
    have s33 : Same G32 (upd G32 t14 (.tup [.str "", .ref u11, .str "b"])) := same_new hnew
    have f33 : (upd G32 t14 (.tup [.str "", .ref u11, .str "b"])) t14 = some (.tup [.str "", .ref u11, .str "b"]) := upd_same
    clear hnew
    generalize upd G32 t14 (.tup [.str "", .ref u11, .str "b"]) = G33 at s33 f33 ⊢
    refine ⟨_, _, rfl, rfl, by decide, by decide, by decide +kernel, (by show 1 ≤ sizeLine; decide), ?_⟩
    intro u12 hnew
    have s34 : Same G33 (upd G33 u12 (.tup [.str (repS "b" 101)])) := same_new hnew
    have f34 : (upd G33 u12 (.tup [.str (repS "b" 101)])) u12 = some (.tup [.str (repS "b" 101)]) := upd_same
    clear hnew
    generalize upd G33 u12 (.tup [.str (repS "b" 101)]) = G34 at s34 f34 ⊢
    refine ⟨(by show 3 ≤ sizeLine; decide), ?_⟩
    intro t15 hnew
    have s35 : Same G34 (upd G34 t15 (.tup [.str "a", .ref u12, .str ""])) := same_new hnew
    have f35 : (upd G34 t15 (.tup [.str "a", .ref u12, .str ""])) t15 = some (.tup [.str "a", .ref u12, .str ""]) := upd_same
    clear hnew
    generalize upd G34 t15 (.tup [.str "a", .ref u12, .str ""]) = G35 at s35 f35 ⊢
    intro dk hnew
    have s36 : Same G35 (upd G35 dk (.dK [])) := same_new hnew
    have f36 : (upd G35 dk (.dK [])) dk = some (.dK []) := upd_same
    clear hnew
    generalize upd G35 dk (.dK []) = G36 at s36 f36 ⊢
    refine ⟨(by show 6 ≤ sizeLine; decide), ?_⟩
    intro L3 hnew
    have s37 : Same G36 (upd G36 L3 (.lst [.ref t12, .ref t13, .ref t14, .ref t15, .int 0, .ref dk])) := same_new hnew
    have f37 : (upd G36 L3 (.lst [.ref t12, .ref t13, .ref t14, .ref t15, .int 0, .ref dk])) L3 = some (.lst [.ref t12, .ref t13, .ref t14, .ref t15, .int 0, .ref dk]) := upd_same
    clear hnew
    generalize upd G36 L3 (.lst [.ref t12, .ref t13, .ref t14, .ref t15, .int 0, .ref dk]) = G37 at s37 f37 ⊢
    refine ⟨L12, L3, _, _, rfl, rfl, (((((((((s29.trans s30).trans s31).trans s32).trans s33).trans s34).trans s35).trans s36).trans s37) _ _ f28), f37, (by show 18 ≤ sizeLine; decide), ?_⟩
    intro L4 hnew
    have s38 : Same G37 (upd G37 L4 (.lst (([.non, .ref e3, .ref pr, .ref l3, .ref t5, .ref t6] ++ [.ref t7, .ref t8, .ref t9, .ref t10, .ref t11, .str "a*b"]) ++ [.ref t12, .ref t13, .ref t14, .ref t15, .int 0, .ref dk]))) := same_new hnew
    have f38 : (upd G37 L4 (.lst (([.non, .ref e3, .ref pr, .ref l3, .ref t5, .ref t6] ++ [.ref t7, .ref t8, .ref t9, .ref t10, .ref t11, .str "a*b"]) ++ [.ref t12, .ref t13, .ref t14, .ref t15, .int 0, .ref dk]))) L4 = some (.lst (([.non, .ref e3, .ref pr, .ref l3, .ref t5, .ref t6] ++ [.ref t7, .ref t8, .ref t9, .ref t10, .ref t11, .str "a*b"]) ++ [.ref t12, .ref t13, .ref t14, .ref t15, .int 0, .ref dk])) := upd_same
    clear hnew
    generalize upd G37 L4 (.lst (([.non, .ref e3, .ref pr, .ref l3, .ref t5, .ref t6] ++ [.ref t7, .ref t8, .ref t9, .ref t10, .ref t11, .str "a*b"]) ++ [.ref t12, .ref t13, .ref t14, .ref t15, .int 0, .ref dk])) = G38 at s38 f38 ⊢
    have w38 : Same G38 G38 := Same.refl _
    have w37 := s38.trans w38
    have w36 := s37.trans w37
    have w35 := s36.trans w36
    have w34 := s35.trans w35
    have w33 := s34.trans w34
    have w32 := s33.trans w33
    have w31 := s32.trans w32
    have w30 := s31.trans w31
    have w29 := s30.trans w30
    have w28 := s29.trans w29
    have w27 := s28.trans w28
    have w26 := s27.trans w27
    have w25 := s26.trans w26
    have w24 := s25.trans w25
    have w23 := s24.trans w24
    have w22 := s23.trans w23
    have w21 := s22.trans w22
    have w20 := s21.trans w21
    have w19 := s20.trans w20
    have w18 := s19.trans w19
    have w17 := s18.trans w18
    have w16 := s17.trans w17
    have w15 := s16.trans w16
    have w14 := s15.trans w15
    have w13 := s14.trans w14
    have w12 := s13.trans w13
    have w11 := s12.trans w12
    have w10 := s11.trans w11
    have w9 := s10.trans w10
    have w8 := s9.trans w9
    have w7 := s8.trans w8
    have w6 := s7.trans w7
    have w5 := s6.trans w6
    have w4 := s5.trans w5
    have w3 := s4.trans w4
    have w2 := s3.trans w3
    have w1 := s2.trans w2
    have w0 := s1.trans w1
    have g_e1 := w1 _ _ f1
    have g_t1 := w2 _ _ f2
    have g_u1 := w3 _ _ f3
    have g_u2 := w4 _ _ f4
    have g_t2 := w5 _ _ f5
    have g_e2 := w6 _ _ f6
    have g_t3 := w7 _ _ f7
    have g_LF := w8 _ _ f8
    have g_e3 := w9 _ _ f9
    have g_pr := w10 _ _ f10
    have g_l3 := w11 _ _ f11
    have g_lb := w12 _ _ f12
    have g_t5 := w13 _ _ f13
    have g_t6 := w14 _ _ f14
    have g_L1 := w15 _ _ f15
    have g_e4 := w16 _ _ f16
    have g_t7 := w17 _ _ f17
    have g_u7 := w18 _ _ f18
    have g_t8 := w19 _ _ f19
    have g_u8 := w20 _ _ f20
    have g_t9 := w21 _ _ f21
    have g_u9 := w22 _ _ f22
    have g_u10 := w23 _ _ f23
    have g_t10 := w24 _ _ f24
    have g_e5 := w25 _ _ f25
    have g_t11 := w26 _ _ f26
    have g_L2 := w27 _ _ f27
    have g_L12 := w28 _ _ f28
    have g_e6 := w29 _ _ f29
    have g_t12 := w30 _ _ f30
    have g_t13 := w31 _ _ f31
    have g_u11 := w32 _ _ f32
    have g_t14 := w33 _ _ f33
    have g_u12 := w34 _ _ f34
    have g_t15 := w35 _ _ f35
    have g_dk := w36 _ _ f36
    have g_L3 := w37 _ _ f37
    have g_L4 := w38 _ _ f38
    have g_a := w0 _ _ ha
    have g_b := w0 _ _ hb
    have scf : Sc (.str f) := .inl ⟨f, rfl, by have := sp.1; omega⟩
    have scl : Sc (.str l) := .inl ⟨l, rfl, by have := sp.2.1; omega⟩
    have sczs : ∀ y ∈ zs.map V.str, Sc y := fun y hy => by
      obtain ⟨z, hz, rfl⟩ := List.mem_map.mp hy
      exact .inl ⟨z, rfl, by have := sp.2.2.2 z hz; omega⟩
    have lzs : (zs.map V.str).length ≤ 1000 := by rw [List.length_map]; have := ok.h8; omega
    have fine : ∀ v ∈ [V.ref a, V.ref t1, V.ref t2, V.ref t3], PJ K G38 v true := fun v hv => by
      simp only [List.mem_cons, List.not_mem_nil, or_false] at hv
      rcases hv with rfl | rfl | rfl | rfl
      · exact .inr (.inr ⟨a, _, _, _, rfl, g_a, scf, scl, .inr ⟨b, _, rfl, g_b, sczs, lzs, ok.patB.symm⟩⟩)
      · have o2 : PatOk f [] "x" := ⟨ok.hf, by decide +kernel, (fun _ z => nomatch z), by decide, fun z => by have := z.2.2; revert this; decide +kernel⟩
        exact .inr (.inr ⟨t1, _, _, _, rfl, g_t1, scf, sc_lit (by decide +kernel), .inr ⟨e1, [], rfl, g_e1, (fun _ z => nomatch z), by decide, o2.patB.symm⟩⟩)
      · exact pj_lit g_t2 g_u2 (by decide +kernel)
      · exact pj_lit g_t3 g_e2 (by decide +kernel)
    have odd : ∀ v ∈ (([V.non, V.ref e3, V.ref pr, V.ref l3, V.ref t5, V.ref t6] ++ [V.ref t7, V.ref t8, V.ref t9, V.ref t10, V.ref t11, V.str "a*b"]) ++ [V.ref t12, V.ref t13, V.ref t14, V.ref t15, V.int 0, V.ref dk]), PJ K G38 v false := fun v hv => by
      simp only [List.mem_append, List.mem_cons, List.not_mem_nil, or_false] at hv
      rcases hv with ((rfl | rfl | rfl | rfl | rfl | rfl) | (rfl | rfl | rfl | rfl | rfl | rfl)) | (rfl | rfl | rfl | rfl | rfl | rfl)
      · exact .inl ⟨⟨_, .base .non, kit_ty (by decide +kernel)⟩, rfl⟩
      · exact .inr (.inl ⟨e3, _, rfl, g_e3, by decide, by decide, rfl⟩)
      · exact .inr (.inl ⟨pr, _, rfl, g_pr, by simp, by simp, rfl⟩)
      · exact .inl ⟨⟨_, .base (.lst g_l3), kit_ty (by decide +kernel)⟩, rfl⟩
      · exact .inr (.inr ⟨t5, _, _, _, rfl, g_t5, scf, scl, .inl ⟨⟨_, .base (.lst g_lb), kit_ty (by decide +kernel)⟩, rfl⟩⟩)
      · exact .inr (.inr ⟨t6, _, _, _, rfl, g_t6, .inr rfl, sc_lit (by decide +kernel), .inr ⟨b, _, rfl, g_b, sczs, lzs, rfl⟩⟩)
      · exact pj_lit g_t7 g_e4 (by decide +kernel)
      · exact pj_lit g_t8 g_u7 (by decide +kernel)
      · exact pj_lit g_t9 g_u8 (by decide +kernel)
      · exact pj_lit g_t10 g_u10 (by decide +kernel)
      · exact pj_lit g_t11 g_e5 (by decide +kernel)
      · exact .inl ⟨⟨_, .base (.str _), kit_ty (by decide +kernel)⟩, rfl⟩
      · exact pj_lit g_t12 g_e6 (by decide +kernel)
      · exact .inr (.inl ⟨t13, _, rfl, g_t13, by simp, by simp, rfl⟩)
      · exact pj_lit g_t14 g_u11 (by decide +kernel)
      · exact pj_lit g_t15 g_u12 (by decide +kernel)
      · exact .inl ⟨⟨_, .base (.int _), kit_ty (by decide +kernel)⟩, rfl⟩
      · exact .inl ⟨⟨_, .base (.dK g_dk), kit_ty (by decide +kernel)⟩, rfl⟩
    clear s1 s2 s3 s4 s5 s6 s7 s8 s9 s10 s11 s12 s13 s14 s15 s16 s17 s18 s19 s20 s21 s22 s23 s24 s25 s26 s27 s28 s29 s30 s31 s32 s33 s34 s35 s36 s37 s38
    refine ⟨_, rfl, LF, rfl, ⟨_, SqL.of g_LF⟩, fun D hD => lc_it (walk_list (K := K) (a := LF) (xs := [V.ref a, V.ref t1, V.ref t2, V.ref t3])) (fun i H' => Same G38 H' ∧ H' D = some (.lst [])) ⟨same_new hD, upd_same⟩ (fun i H' _ h => SqL.of (h.1 _ _ g_LF)) ?_ ?_⟩
    · rintro i v H1 H2 hi ⟨sm, hE⟩ ⟨rfl, hv⟩
      have hj := (fine v (List.mem_of_getElem? hv)).up sm
      refine ⟨rfl, _, rfl, v, rfl, ?_⟩
      rcases hj with ⟨_, k⟩ | ⟨_, _, _, _, _, _, k⟩ | ⟨a2, f2, m2, l2, h1, h2, h3, h4, h5⟩
      · cases k
      · cases k
      · rcases h5 with ⟨_, k⟩ | ⟨b2, ys, k1, k2, k3, k4, k5⟩
        · cases k
        · refine .inr (.inr ⟨a2, f2, m2, l2, h1, h2, h3, h4, .inr ⟨b2, ys, k1, k2, k3, k4, fun H' sm' => ?_⟩⟩)
          rw [← k5]
          exact ⟨true, true, rfl, rfl, _, rfl, iteF ⟨sm.trans sm', sm' _ _ hE⟩⟩
    · rintro H1 ⟨sm, hE⟩
      refine ⟨Nat.zero_le _, fun r hr2 => ⟨_, _, .lst (SqL.of ((same_new hr2) _ _ hE)) .nil, .lst (SqL.of upd_same) .nil, rfl, rfl, _, rfl, iteF ?_⟩⟩
      have smB : Same G38 (upd H1 r (.lst [])) := sm.trans (same_new hr2)
      generalize upd H1 r (.lst []) = G39 at smB
      have g4 := smB _ _ g_L4
      refine ⟨_, rfl, L4, rfl, ⟨_, SqL.of g4⟩, fun D2 hD2 => lc_it (walk_list (K := K) (a := L4) (xs := (([V.non, V.ref e3, V.ref pr, V.ref l3, V.ref t5, V.ref t6] ++ [V.ref t7, V.ref t8, V.ref t9, V.ref t10, V.ref t11, V.str "a*b"]) ++ [V.ref t12, V.ref t13, V.ref t14, V.ref t15, V.int 0, V.ref dk]))) (fun i H' => Same G39 H' ∧ H' D2 = some (.lst [])) ⟨same_new hD2, upd_same⟩ (fun i H' _ h => SqL.of (h.1 _ _ g4)) ?_ ?_⟩
      · rintro i v H3 H4 hi ⟨sm, hE⟩ ⟨rfl, hv⟩
        have hj := ((odd v (List.mem_of_getElem? hv)).up smB).up sm
        refine ⟨rfl, _, rfl, v, rfl, ?_⟩
        rcases hj with ⟨h, _⟩ | ⟨a2, xs, h1, h2, h3, h4, _⟩ | ⟨a2, f2, m2, l2, h1, h2, h3, h4, h5⟩
        · exact .inl ⟨h, false, false, rfl, rfl, _, rfl, iteF ⟨sm, hE⟩⟩
        · exact .inr (.inl ⟨a2, xs, h1, h2, h3, h4, false, false, rfl, rfl, _, rfl, iteF ⟨sm, hE⟩⟩)
        · rcases h5 with ⟨h, _⟩ | ⟨b2, ys, k1, k2, k3, k4, k5⟩
          · exact .inr (.inr ⟨a2, f2, m2, l2, h1, h2, h3, h4, .inl ⟨h, false, false, rfl, rfl, _, rfl, iteF ⟨sm, hE⟩⟩⟩)
          · refine .inr (.inr ⟨a2, f2, m2, l2, h1, h2, h3, h4, .inr ⟨b2, ys, k1, k2, k3, k4, fun H' sm' => ?_⟩⟩)
            rw [← k5]
            exact ⟨false, false, rfl, rfl, _, rfl, iteF ⟨sm.trans sm', sm' _ _ hE⟩⟩
      · rintro H3 ⟨sm, hE⟩
        refine ⟨Nat.zero_le _, fun r hr2 => ⟨_, _, .lst (SqL.of ((same_new hr2) _ _ hE)) .nil, .lst (SqL.of upd_same) .nil, rfl, rfl, ?_⟩⟩
        exact q _ (w0.trans (smB.trans (sm.trans (same_new hr2))))
end
end Bw

namespace Bw
open PySem PySem.Spec L2 TL PyProof.Rows

/-! ### one turn -/
theorem kd5 {i : Nat} {v : V} (h : ([.str "text", .str "exact", .str "number", .str "flag", .str "link"] : List V)[i]? = some v) : ∃ k : Kd, v = .str k.str := by
  match i, h with
  | 0, h => exact ⟨.text, (Option.some.inj h).symm⟩
  | 1, h => exact ⟨.exact, (Option.some.inj h).symm⟩
  | 2, h => exact ⟨.number, (Option.some.inj h).symm⟩
  | 3, h => exact ⟨.flag, (Option.some.inj h).symm⟩
  | 4, h => exact ⟨.link, (Option.some.inj h).symm⟩
  | i + 5, h => exact absurd h (by simp)
def PfD : Pf → PyData
  | none => .none
  | some (f, zs, l) => patD f zs l
theorem dp_pf {K : PySem.W.Frag} {H : Hp} {v : V} {p : Pf} (h : PfV H v p) : Dp K H v (PfD p) := by
  cases p with
  | none =>
    have h : v = .non := h
    subst h
    exact .non
  | some t =>
    obtain ⟨f, zs, l⟩ := t
    obtain ⟨a, rfl, b, h1, h2⟩ := h
    exact dp_pat h1 h2
theorem PfV.moved {H H1 : Hp} {d : Addr} {v : V} {p : Pf} (m : Moved d H H1) (hd : DiceAt H d) (h : PfV H v p) : PfV H1 v p := by
  cases p with
  | none => exact h
  | some t =>
    obtain ⟨f, zs, l⟩ := t
    obtain ⟨a, e, h⟩ := h
    exact ⟨a, e, h.moved m hd⟩
def PfSg : Pf → Prop
  | none => True
  | some (f, zs, l) => Sgn (tl f) ∧ (∀ z ∈ zs, IsTx z ∧ z ≠ "") ∧ Sgn (tl l)
theorem shaped_pf {p : Pf} (h : PfSg p) : SeqAt.shaped (PfD p) = true := by
  cases p with
  | none => rfl
  | some t =>
    obtain ⟨f, zs, l⟩ := t
    exact shaped_pat h.1 h.2.1 h.2.2
theorem eqv_pf (p : Pf) : PyData.eqv (PfD p) (PfD p) = true := by
  cases p with
  | none => rfl
  | some t =>
    obtain ⟨f, zs, l⟩ := t
    show PyData.eqv (patD f zs l) (patD f zs l) = true
    rw [eqv_pat]
    exact decide_eq_true ⟨rfl, rfl, rfl⟩
theorem sqL_mem {c : Nat} : ∀ {l : List Nat}, c ∈ sqL l → c ∈ l
  | [], h => h
  | a :: r, h => by
    rw [sqL_cons] at h
    split at h
    · exact List.mem_cons_of_mem _ (sqL_mem h)
    · rcases List.mem_cons.mp h with rfl | h
      · exact List.mem_cons_self ..
      · exact List.mem_cons_of_mem _ (sqL_mem h)
theorem sqS_sgn {x : Str} (h : Sgn (tl x)) : Sgn (tl (sqS x)) := by
  intro c hc
  rw [tl_sqS] at hc
  obtain ⟨y, hy, rfl⟩ := List.mem_map.mp (sqL_mem hc)
  exact lo1_sgn (h y hy)
theorem sub_sgn {x : Str} (h : Sgn (tl x)) (lo hi : Nat) : Sgn (x.cps.extract lo hi).toList := by
  intro c hc
  rw [Array.toList_extract, List.extract_eq_take_drop] at hc
  exact h c (List.mem_of_mem_drop (List.mem_of_mem_take hc))
theorem lstrip_sgn {x : Str} (h : Sgn (tl x)) (y : Str) : Sgn (tl (Txt.lstripChars x y)) := by
  unfold Txt.lstripChars
  rw [stripBy_eq]
  exact sub_sgn h _ _
theorem rstrip_sgn {x : Str} (h : Sgn (tl x)) (y : Str) : Sgn (tl (Txt.rstripChars x y)) := by
  unfold Txt.rstripChars
  rw [stripBy_eq]
  exact sub_sgn h _ _
theorem pform_sg {k : Kd} {f l : Str} {zs : List Str} (ok : PatOk f zs l) : PfSg (pform k f zs l) := by
  have h1 := (pc_facts ok.hf).1
  have h2 := (pc_facts ok.hl).1
  cases k with
  | text =>
    show PfSg (tform f zs l)
    unfold tform
    split
    · trivial
    · refine ⟨lstrip_sgn (sqS_sgn h1) _, fun z hz => ?_, rstrip_sgn (sqS_sgn h2) _⟩
      obtain ⟨y, hy, rfl⟩ := List.mem_map.mp hz
      obtain ⟨h3, h4⟩ := ok.hz y hy
      have := sqS_len y
      have := h3.2
      exact ⟨⟨sqS_sgn h3.1, by omega⟩, sqS_ne h4⟩
  | exact => exact ⟨h1, ok.hz, h2⟩
  | _ => trivial
def spRight : Sp := fun vs H Q _ => ∃ d : Addr, vs = [.ref d] ∧ DiceAt H d ∧ ∀ H', Moved d H H' → Q (.bl true) H'
section
variable {P : Program} {w : World} {K : PySem.W.Frag} {mg : Str → Option Value} {base : Heap} {f : Addr} {fd : FuncData} {aK : Addr}
theorem ok_law_right (F : Fun K "_law_right" "_law_right" s_law_right f fd) (T : Txt K mg aK) (D_law_drawn : Dfn P w K mg base "_law_drawn" 4 ["_law_dice_here"] spDrawn) (D_law_due : Dfn P w K mg base "_law_due" 2 ["_law_kind", "_law_pattern"] spPF)
    (D_pattern_form : Dfn P w K mg base "pattern_form" 6 ["kind", "pattern"] spPF) (D_law_texts : Dfn P w K mg base "_law_texts" 5 ["_law_dice_here", "_law_pattern"] spTexts) (D_form_of : Dfn P w K mg base "form_of" 6 ["kind", "text"] spKnown)
    (D_law_matches : Dfn P w K mg base "_law_matches" 1 ["_law_pattern", "_law_form"] spMt) (D_does_match : Dfn P w K mg base "does_match" 7 ["kind", "pattern", "form"] spDM) (D_law_near_right : Dfn P w K mg base "_law_near_right" 5 ["_law_dice_here", "_law_pattern"] spNear) :
    FnOk P w K mg base CX0 8 f fd ["_law_dice_here"] spRight := by
  refine F.ok sc_law_right (fun vs H Q E h => ?_) (fun cdv A outer s H vs Q E hr h => ?_)
  · obtain ⟨d, rfl, _⟩ := h
    rfl
  · obtain ⟨d, rfl, hd, q⟩ := h
    refine ⟨_, (pss_cons (ps_set (i := 1) sc_law_right.nd rfl (Or.inl rfl) (pe_d D_law_drawn hr (by decide) (pa_cons (pv 0) pa_nil))) (pss_cons (ps_for PassesOwn.never rfl (pi_tup (pe_tup (pa_cons pe_str (pa_cons pe_str (pa_cons pe_str (pa_cons pe_str (pa_cons pe_str pa_nil))))))) (pg_name (i := 2) sc_law_right.nd rfl (Or.inl rfl)) (pss_cons (ps_set (i := 3) sc_law_right.nd rfl (Or.inl rfl) (pe_d D_law_due hr (by decide) (pa_cons (pv 2) (pa_cons (pv 1) pa_nil)))) (pss_cons (ps_if (pt_cmpR (op_neD hr.units) (pe_d D_pattern_form hr (by decide) (pa_cons (pv 2) (pa_cons (pv 1) pa_nil))) (pv 3) (nomark _)) (pss_one (ps_ret pe_bl)) pss_nil) (pss_one (ps_for PassesOwn.never rfl (pi_list (pe_ifExp (pt_cmpR op_in_seq (pv 2) (pe_tup (pa_cons pe_str (pa_cons pe_str pa_nil))) rfl) (pe_d D_law_texts hr (by decide) (pa_cons (pv 0) (pa_cons (pv 1) pa_nil))) (pe_lst (pa_cons pe_str (pa_cons pe_str pa_nil))))) (pg_name (i := 4) sc_law_right.nd rfl (Or.inl rfl)) (pss_cons (ps_set (i := 5) sc_law_right.nd rfl (Or.inl rfl) (pe_ifExp (pt_cmpR op_ne (pv 4) pe_str (nomark _)) (pe_d D_form_of hr (by decide) (pa_cons (pv 2) (pa_cons (pv 4) pa_nil))) pe_non)) (pss_one (ps_if (pt_cmpR op_notN (pv 5) pe_non (nomark _)) (pss_cons (ps_set (i := 6) sc_law_right.nd rfl (Or.inl rfl) (pe_and (pe_cmpR op_notN (pv 3) pe_non (nomark _)) (pe_one (pe_d D_law_matches hr (by decide) (pa_cons (pv 3) (pa_cons (pv 5) pa_nil)))))) (pss_one (ps_if (pt_cmpR op_ne (pe_callB call_repr_bl (by rfl) T.b_repr (by decide +kernel) (pa_cons (pe_d D_does_match hr (by decide) (pa_cons (pv 2) (pa_cons (pv 1) (pa_cons (pv 5) pa_nil)))) pa_nil)) (pe_callB call_repr_bl (by rfl) T.b_repr (by decide +kernel) (pa_cons (pv 6) pa_nil)) (nomark _)) (pss_one (ps_ret pe_bl)) pss_nil))) pss_nil)))))))) (pss_one (ps_ret (pe_d D_law_near_right hr (by decide) (pa_cons (pv 0) (pa_cons (pv 1) pa_nil))))))), ?_⟩
    refine ⟨_, rfl, d, rfl, hd, fun a f zs l H1 hP ok sp mv1 => ?_⟩
    refine ⟨(by show 5 ≤ sizeLine; decide), ?_⟩
    intro K5 hK5
    have nK : K5 ≠ d := (mv1.2.ne hK5).symm
    have mvK := mv1.trans (Moved.same mv1.2 (same_new (o := .tup [.str "text", .str "exact", .str "number", .str "flag", .str "link"]) hK5))
    have fK : (upd H1 K5 (.tup [.str "text", .str "exact", .str "number", .str "flag", .str "link"])) K5 = some (.tup [.str "text", .str "exact", .str "number", .str "flag", .str "link"]) := upd_same
    have hPK := hP.up (same_new (o := .tup [.str "text", .str "exact", .str "number", .str "flag", .str "link"]) hK5)
    generalize upd H1 K5 (.tup [.str "text", .str "exact", .str "number", .str "flag", .str "link"]) = HK at mvK fK hPK ⊢
    refine ⟨K5, rfl, ⟨_, SqT.of fK⟩, for_tup (K := K) (a := K5) (xs := [.str "text", .str "exact", .str "number", .str "flag", .str "link"]) (fun i σ H' => (∃ o2 o3 o4 o5 o6 : Option V, σ = [some (.ref d), some (.ref a), o2, o3, o4, o5, o6]) ∧ Moved d HK H') ⟨⟨_, _, _, _, _, rfl⟩, Moved.refl mvK.2⟩ (fun i σ H' _ h => SqT.of (h.2.1 _ _ nK fK)) ?_ ?_⟩
    · rintro i v σ H2 hv ⟨⟨o2, o3, o4, o5, o6, rfl⟩, mv2⟩
      obtain ⟨k, rfl⟩ := kd5 hv
      have hP2 := hPK.moved mv2 mvK.2
      refine ⟨_, rfl, _, rfl, k, a, f, zs, l, rfl, hP2, ok, fun v1 H3 sm3 pv1 => ?_⟩
      have hP3 := hP2.up sm3
      refine ⟨_, rfl, _, rfl, k, a, f, zs, l, rfl, hP3, ok, fun v2 H4 sm4 pv2 => ?_⟩
      have hP4 := hP3.up sm4
      have pv4 := pv1.up sm4
      have sg := pform_sg (k := k) ok
      refine ⟨_, rfl, _, _, dp_pf pv2, dp_pf pv4, shaped_pf sg, shaped_pf sg, _, rfl, ?_⟩
      rw [eqv_pf]
      refine iteF ?_
      have mv4 : Moved d HK H4 := mv2.trans (Moved.same mv2.2 (sm3.trans sm4))
      have hd4 := mv4.2
      have lists : ∀ Q' : VK, (∀ (L : Addr) (xs : List Str) H5, H5 L = some (.lst (xs.map V.str)) → (∀ x ∈ xs, Few 50 x) → Moved d H4 H5 → Q' (.ref L) H5) →
          tIf (tTest (tOp (rIn K false) (tVar 2) (tTup (tCons (tC (V.str (Str.ofString "text"))) (tCons (tC (V.str (Str.ofString "exact"))) tNil))))) (tCall spTexts [] E0 (tCons (tVar 0) (tCons (tVar 1) tNil))) (tLst (tCons (tC (V.str (Str.ofString "7"))) (tCons (tC (V.str (Str.ofString "yes"))) tNil)))
            [some (.ref d), some (.ref a), some (.str k.str), some v1, o4, o5, o6] H4 Q' := by
        intro Q' h
        refine ⟨_, rfl, (by show 2 ≤ sizeLine; decide), fun p hp => ⟨p, _, rfl, .inr (SqT.of upd_same), rfl, rfl, _, rfl, ?_⟩⟩
        have sp4 : Same H4 (upd H4 p (.tup [.str "text", .str "exact"])) := same_new hp
        cases eb : inV (V.str k.str) [V.str (Str.ofString "text"), V.str (Str.ofString "exact")] with
        | true =>
          refine iteT ⟨_, rfl, _, rfl, d, a, f, zs, l, rfl, hd4.same sp4, hP4.up sp4, ok, sp, fun L xs H5 _ hL few _ mv5 => ?_⟩
          exact h L xs H5 hL few ((Moved.same hd4 sp4).trans mv5)
        | false =>
          refine iteF ⟨(by show 2 ≤ sizeLine; decide), fun L hL => ?_⟩
          refine h L ["7", "yes"] _ upd_same (fun x hx => ?_) (Moved.same hd4 (sp4.trans (same_new hL)))
          simp only [List.mem_cons, List.not_mem_nil, or_false] at hx
          rcases hx with rfl | rfl
          · exact few_lit (by decide +kernel)
          · exact few_lit (by decide +kernel)
      refine lists _ fun L xs H5 hL few mv5 => ?_
      have hP5 := hP4.moved mv5 hd4
      have pv5 := pv4.moved mv5 hd4
      refine ⟨L, rfl, ⟨_, SqL.of hL⟩, for_it (walk_list (K := K) (a := L) (xs := xs.map V.str)) (fun i σ H' => (∃ o4 o5 o6 : Option V, σ = [some (.ref d), some (.ref a), some (.str k.str), some v1, o4, o5, o6]) ∧ Same H5 H') ⟨⟨_, _, _, rfl⟩, Same.refl H5⟩ (fun i σ H' _ h => SqL.of (h.2 _ _ hL)) ?_ ?_⟩
      · rintro i v σ H6 H7 hi ⟨⟨o4, o5, o6, rfl⟩, sm⟩ ⟨rfl, hv⟩
        rw [List.getElem?_map] at hv
        cases e : xs[i]? with
        | none =>
          rw [e] at hv
          cases hv
        | some x =>
          rw [e] at hv
          have hv' : V.str x = v := Option.some.inj hv
          subst hv'
          obtain ⟨sx, lx⟩ := few x (List.mem_of_getElem? e)
          refine ⟨_, rfl, rfl, _, rfl, ?_⟩
          rw [dE]
          cases e0 : decide (x = "") with
          | true => exact iteF ⟨_, rfl, rfl, _, rfl, iteF ⟨⟨_, _, _, rfl⟩, sm⟩⟩
          | false =>
            have nx : x ≠ "" := of_decide_eq_false e0
            have tx : IsTx x := ⟨sx, by omega⟩
            refine iteT ⟨_, rfl, _, rfl, k, x, rfl, tx, nx, fun H8 sm8 => ?_⟩
            cases ek : kform k x with
            | none => exact ⟨_, rfl, rfl, _, rfl, iteF ⟨⟨_, _, _, rfl⟩, sm.trans sm8⟩⟩
            | some y =>
              obtain ⟨ty, ny, ky⟩ := kform_tx tx nx ek
              have lyy := ty.2
              refine ⟨_, rfl, rfl, _, rfl, iteT ?_⟩
              have sm58 := sm.trans sm8
              have hP8 := hP5.up sm58
              have pv8 := pv5.up sm58
              have due : ∀ Q' : VK, (∀ H', Same H8 H' → Q' (.bl (matchP (pform k f zs l) y)) H') →
                  tAndV (tOp (fun x y H Q => y = V.non ∧ Q (V.bl !decide (x = V.non)) H) (tVar 3) (tC V.non)) (tCall spMt [] E0 (tCons (tVar 3) (tCons (tVar 5) tNil)))
                    [some (.ref d), some (.ref a), some (.str k.str), some v1, some (.str x), some (.str y), o6] H8 Q' := by
                intro Q' h
                have pk := pform_ok (k := k) ok
                cases ep : pform k f zs l with
                | none =>
                  rw [ep] at pv8 h
                  have hv : v1 = .non := pv8
                  subst hv
                  exact ⟨_, rfl, rfl, _, rfl, iteF (h _ (Same.refl H8))⟩
                | some t =>
                  obtain ⟨f2, zs2, l2⟩ := t
                  rw [ep] at pv8 h pk
                  obtain ⟨p, rfl, hp⟩ := pv8
                  obtain ⟨k1, k2, k3, k4⟩ := pk
                  refine ⟨_, rfl, rfl, _, rfl, iteT ⟨_, rfl, _, rfl, p, y, f2, l2, zs2, rfl, hp, by omega, k1, k2, k3, k4, fun H' s => ?_⟩⟩
                  exact h H' s
              refine due _ fun H9 sm9 => ?_
              have hP9 := hP8.up sm9
              refine ⟨_, rfl, _, rfl, _, rfl, k, a, f, zs, l, y, rfl, hP9, ok, ty, ny, ky, fun H10 sm10 => ?_⟩
              refine ⟨_, rfl, _, rfl, _, rfl, rfl, _, rfl, ?_⟩
              rw [decide_eq_true rfl]
              exact iteF ⟨⟨_, _, _, rfl⟩, (sm58.trans sm9).trans sm10⟩
      · rintro σ H6 ⟨⟨o4, o5, o6, rfl⟩, sm⟩
        exact ⟨⟨_, _, _, _, _, rfl⟩, (mv4.trans mv5).trans (Moved.same mv5.2 sm)⟩
    · rintro σ H2 ⟨⟨o2, o3, o4, o5, o6, rfl⟩, mv2⟩
      have hP2 := hPK.moved mv2 mvK.2
      refine ⟨_, rfl, _, rfl, d, a, f, zs, l, rfl, hP2, ok, sp, fun H3 sm3 => ?_⟩
      exact q _ ((mvK.trans mv2).trans (Moved.same mv2.2 sm3))
end
end Bw

namespace Bw
open PySem PySem.Spec L2 TL PyProof.Rows

theorem Same.moved {H0 H1 H2 : Hp} {d : Addr} (s : Same H0 H1) (n : H0 d = none) (m : Moved d H1 H2) : Same H0 H2 := fun b o h => m.1 b o (ne_of_none h n) (s b o h)
theorem patOk_lit {f l : Str} {zs : List Str} (h : (pcB (.str f) && (pcB (.str l) && (zs.all isTx && (decide (zs.length ≤ 8) && !decide (f = "" ∧ zs = [] ∧ l = ""))))) = true) : PatOk f zs l := by
  rw [Bool.and_eq_true, Bool.and_eq_true, Bool.and_eq_true, Bool.and_eq_true, decide_eq_true_eq, List.all_eq_true, Bool.not_eq_true', decide_eq_false_iff_not] at h
  obtain ⟨h1, h2, h3, h4, h5⟩ := h
  exact ⟨h1, h2, fun z hz => (isTx_iff z).mp (h3 z hz), h4, h5⟩
def spLaw (K : PySem.W.Frag) : Sp := fun vs H Q _ => ∃ (a : Addr) (ns : List Int), vs = [.ref a] ∧ SqL K H a (ns.map V.int) ∧ ns.length ≤ 63 ∧ ∀ H', Q (.bl true) H'
section
variable {P : Program} {w : World} {K : PySem.W.Frag} {mg : Str → Option Value} {base : Heap} {f : Addr} {fd : FuncData} {aK : Addr}
theorem ok_law (F : Fun K "law" "law" s_law f fd) (T : Txt K mg aK) (D_law_dice : Dfn P w K mg base "_law_dice" 1 ["_law_script", "_law_at"] (spDice K)) (D_law_right : Dfn P w K mg base "_law_right" 8 ["_law_dice_here"] spRight)
    (D_does_match : Dfn P w K mg base "does_match" 7 ["kind", "pattern", "form"] spDM) (D_pattern_form : Dfn P w K mg base "pattern_form" 6 ["kind", "pattern"] spPF) : FnOk P w K mg base CX0 9 f fd ["_law_script"] (spLaw K) := by
  refine F.ok sc_law (fun vs H Q E h => ?_) (fun cdv A outer s H vs Q E hr h => ?_)
  · obtain ⟨a, ns, rfl, _⟩ := h
    rfl
  · obtain ⟨a, ns, rfl, hS, hlen, q⟩ := h
    refine ⟨_, (pss_cons (ps_for PassesOwn.never rfl (pi_range1 (by rfl) T.b_range (pa_cons (pe_callB (call_max2 rfl) (by rfl) T.b_max (by decide +kernel) (pa_cons pe_int (pa_cons (pe_callB (call_min2 rfl) (by rfl) T.b_min (by decide +kernel) (pa_cons pe_int (pa_cons (pe_callB call_len_seq (by rfl) T.b_len (by decide +kernel) (pa_cons (pv 0) pa_nil)) pa_nil))) pa_nil))) pa_nil)) (pg_name (i := 1) sc_law.nd rfl (Or.inl rfl)) (pss_cons (ps_set (i := 2) sc_law.nd rfl (Or.inl rfl) (pe_d D_law_dice hr (by decide) (pa_cons (pv 0) (pa_cons (pv 1) pa_nil)))) (pss_one (ps_for PassesOwn.never rfl (pi_range1 (by rfl) T.b_range (pa_cons pe_int pa_nil)) (pg_name (i := 3) sc_law.nd rfl (Or.inl rfl)) (pss_one (ps_if (pt_not (pt_val (pe_d D_law_right hr (by decide) (pa_cons (pv 2) pa_nil)))) (pss_one (ps_ret pe_bl)) pss_nil)))))) (pss_cons (ps_set (i := 4) sc_law.nd rfl (Or.inl rfl) (pe_lst (pa_cons (pe_d D_does_match hr (by decide) (pa_cons pe_str (pa_cons (pe_tup (pa_cons pe_str (pa_cons (pe_tup pa_nil) (pa_cons pe_str pa_nil)))) (pa_cons pe_str pa_nil)))) (pa_cons (pe_d D_does_match hr (by decide) (pa_cons pe_str (pa_cons (pe_tup (pa_cons pe_str (pa_cons (pe_tup (pa_cons pe_str (pa_cons pe_str pa_nil))) (pa_cons pe_str pa_nil)))) (pa_cons pe_str pa_nil)))) pa_nil)))) (pss_cons (ps_expr (pe_bm PySem.F.plainAttrs_list PySem.F.slot_list_append PySem.F.type_list_append mt_append (pv 4) (pa_cons (pe_d D_does_match hr (by decide) (pa_cons pe_str (pa_cons (pe_tup (pa_cons pe_str (pa_cons (pe_tup (pa_cons pe_str (pa_cons pe_str pa_nil))) (pa_cons pe_str pa_nil)))) (pa_cons pe_str pa_nil)))) pa_nil))) (pss_one (ps_ret (pe_cmpR (op_eqD hr.units) (pe_op op_cat (pv 4) (pe_lst (pa_cons (pe_d D_pattern_form hr (by decide) (pa_cons pe_str (pa_cons (pe_tup (pa_cons pe_str (pa_cons (pe_tup (pa_cons pe_str pa_nil)) (pa_cons pe_str pa_nil)))) pa_nil))) pa_nil))) (pe_lst (pa_cons pe_bl (pa_cons pe_bl (pa_cons pe_bl (pa_cons (pe_tup (pa_cons pe_str (pa_cons (pe_tup (pa_cons pe_str pa_nil)) (pa_cons pe_str pa_nil)))) pa_nil))))) (nomark _))))))), ?_⟩
    have hl2 : (ns.map V.int).length ≤ 63 := by
      rw [List.length_map]
      exact hlen
    refine ⟨_, rfl, a, _, rfl, .inl hS, _, _, rfl, _, _, rfl, _, rfl, (by split <;> (try split) <;> omega), (by split <;> (try split) <;> omega),
      for_it walk_range (fun i σ H' => Same H H' ∧ ∃ a1 a2 a3 a4 : Option V, σ = [some (.ref a), a1, a2, a3, a4]) ⟨Same.refl H, _, _, _, _, rfl⟩ (fun _ _ _ _ _ => trivial) ?_ ?_⟩
    · rintro i v σ H1 H2 hi ⟨sm, a1, a2, a3, a4, rfl⟩ ⟨rfl, rfl⟩
      refine ⟨_, rfl, _, rfl, a, ns, i, (by show [V.ref a, V.int (0 + (i : Int))] = _; rw [Int.zero_add]), sm.seq hS, fun p H2 hp sm2 hd => ?_⟩
      have hp0 : H p = none := sm.free hp
      refine ⟨3, rfl, by decide, by decide, for_range (lo := 0) (n := 3) (fun i σ H' => Moved p H2 H' ∧ ∃ a1 a3 a4 : Option V, σ = [some (.ref a), a1, some (.ref p), a3, a4]) ⟨Moved.refl hd, _, _, _, rfl⟩ ?_ ?_⟩
      · rintro j σ H3 hj ⟨mv, b1, b3, b4, rfl⟩
        exact ⟨_, rfl, p, rfl, mv.2, fun H4 mv4 => ⟨true, rfl, iteF ⟨mv.trans mv4, _, _, _, rfl⟩⟩⟩
      · rintro σ H3 ⟨mv, b1, b3, b4, rfl⟩
        exact ⟨Same.moved (sm.trans sm2) hp0 mv, _, _, _, _, rfl⟩
    · rintro σ H1 ⟨sm, a1, a2, a3, a4, rfl⟩
      refine ⟨Nat.zero_le _, fun e1 he1 => ⟨(by show 3 ≤ sizeLine; decide), fun t1 ht1 => ?_⟩⟩
      refine ⟨.text, t1, "Re", [], "ed", "red", rfl, ⟨e1, upd_same, (same_new ht1) _ _ upd_same⟩, patOk_lit (by decide +kernel), (isTx_iff _).mp (by decide +kernel) |>.1, (by decide +kernel), by decide +kernel, fun H2 sm2 => ?_⟩
      refine ⟨(by show 2 ≤ sizeLine; decide), fun e2 he2 => ⟨(by show 3 ≤ sizeLine; decide), fun t2 ht2 => ?_⟩⟩
      refine ⟨.exact, t2, "", ["aa", "a"], "", "aaa", rfl, ⟨e2, upd_same, (same_new ht2) _ _ upd_same⟩, patOk_lit (by decide +kernel), (isTx_iff _).mp (by decide +kernel) |>.1, (by decide +kernel), by decide +kernel, fun H3 sm3 => ?_⟩
      rw [show matchP (pform .text "Re" [] "ed") "red" = false by decide +kernel, show matchP (pform .exact "" ["aa", "a"] "") "aaa" = true by decide +kernel]
      refine ⟨(by show 2 ≤ sizeLine; decide), fun L1 hL1 => ?_⟩
      refine ⟨_, rfl, .inl ⟨rfl, _, SqL.of upd_same⟩, ?_⟩
      refine ⟨(by show 2 ≤ sizeLine; decide), fun e3 he3 => ⟨(by show 3 ≤ sizeLine; decide), fun t3 ht3 => ?_⟩⟩
      refine ⟨.exact, t3, "", ["aa", "aa"], "", "aaa", rfl, ⟨e3, upd_same, (same_new ht3) _ _ upd_same⟩, patOk_lit (by decide +kernel), (isTx_iff _).mp (by decide +kernel) |>.1, (by decide +kernel), by decide +kernel, fun H5 sm5 => ?_⟩
      rw [show matchP (pform .exact "" ["aa", "aa"] "") "aaa" = false by decide +kernel]
      refine ⟨L1, _, _, rfl, rfl, sm5 _ _ ((same_new ht3) _ _ ((same_new he3) _ _ upd_same)), (by show 2 < sizeLine; decide), ?_⟩
      refine ⟨_, rfl, (by show 1 ≤ sizeLine; decide), fun e4 he4 => ⟨(by show 3 ≤ sizeLine; decide), fun t4 ht4 => ?_⟩⟩
      refine ⟨.text, t4, "  A ", ["  "], " b ", rfl, ⟨e4, upd_same, (same_new ht4) _ _ upd_same⟩, patOk_lit (by decide +kernel), fun v H7 sm7 pv => ?_⟩
      rw [show pform .text "  A " ["  "] " b " = (some (("a " : Str), [(" " : Str)], (" b" : Str)) : Pf) by decide +kernel] at pv
      refine ⟨(by show 1 ≤ sizeLine; decide), fun L2 hL2 => ?_⟩
      refine ⟨L1, L2, _, _, rfl, rfl, (same_new hL2) _ _ (sm7 _ _ ((same_new ht4) _ _ ((same_new he4) _ _ upd_same))), upd_same, (by show 4 ≤ sizeLine; decide), fun L3 hL3 => ?_⟩
      refine ⟨(by show 1 ≤ sizeLine; decide), fun e5 he5 => ⟨(by show 3 ≤ sizeLine; decide), fun t5 ht5 => ⟨(by show 4 ≤ sizeLine; decide), fun L4 hL4 => ?_⟩⟩⟩
      refine ⟨_, _, .lst (SqL.of ((same_new hL4) _ _ ((same_new ht5) _ _ ((same_new he5) _ _ upd_same)))) (.cons (.bl _) (.cons (.bl _) (.cons (.bl _) (.cons (dp_pf (((((pv.up (same_new hL2)).up (same_new hL3)).up (same_new he5)).up (same_new ht5)).up (same_new hL4))) .nil)))),
        .lst (SqL.of upd_same) (.cons (.bl _) (.cons (.bl _) (.cons (.bl _) (.cons (dp_pat (zs := [" "]) ((same_new hL4) _ _ upd_same) ((same_new hL4) _ _ ((same_new ht5) _ _ upd_same))) .nil)))), by decide +kernel, by decide +kernel, ?_⟩
      exact q _
end
end Bw

namespace Bw
open PySem PySem.Spec L2 TL PyProof.Rows
/-! ### what the top has left -/
theorem vals_tup {K : PySem.W.Frag} {a : Addr} {d : Option Addr} {its : Array Value} {n : Nat} {sl : Array (Option Value)} {xs : List V} (hk : K.lookup a = some ⟨.type "tuple", d, .seq its n, sl⟩) (hz : its.size ≤ sizeLine) (r : Vals xs its.toList) (H : Hp) : SqT K H a xs :=
  .inr ⟨_, its, n, hk, rfl, rfl, hz, r⟩
theorem rel_str (x : Str) (t : Tok) : RelV (.str x) (.str x t) := ⟨t, rfl⟩
theorem loose_int {h : Heap} {v : Value} {n : Int} {as : List Addr} (r : PySem.W.ReadsLit h v (.int n) as) : ∃ t, v = .int n t := by
  cases r
  exact ⟨_, rfl⟩
theorem txtMk {p : Program} {K : PySem.W.Frag} {h : Heap} {mg : Str → Option Value} {aK : Addr} {dK : Option Addr} {nK : Nat} {sK : Array (Option Value)} {k1 k2 k3 k4 k5 tt t2 : Tok}
    (XP : PySem.W.XL p [(("MOST_NUMBER" : Str), .int 1000000000000), (("MOST_VALUE" : Str), .int 1000000000000000)] mg h) (KI : K.In h) (NS : h.Ns mainGlobals mg)
    (zlen : PySem.W.nsIn K mainGlobals "len" = some none)
    (zint : PySem.W.nsIn K mainGlobals "int" = some none)
    (zabs : PySem.W.nsIn K mainGlobals "abs" = some none)
    (zmax : PySem.W.nsIn K mainGlobals "max" = some none)
    (zmin : PySem.W.nsIn K mainGlobals "min" = some none)
    (zrange : PySem.W.nsIn K mainGlobals "range" = some none)
    (zisinstance : PySem.W.nsIn K mainGlobals "isinstance" = some none)
    (ztuple : PySem.W.nsIn K mainGlobals "tuple" = some none)
    (zall : PySem.W.nsIn K mainGlobals "all" = some none)
    (zstr : PySem.W.nsIn K mainGlobals "str" = some none)
    (zrepr : PySem.W.nsIn K mainGlobals "repr" = some none)
    (zlist : PySem.W.nsIn K mainGlobals "list" = some none)
    (aaK : PySem.W.nsIn K mainGlobals "KINDS" = some (some (.ref aK))) (lK : K.lookup aK = some ⟨.type "tuple", dK, .seq #[.str "exact" k1, .str "flag" k2, .str "link" k3, .str "number" k4, .str "text" k5] nK, sK⟩)
    (x1 : PySem.W.nsIn K mainGlobals "MOST_TEXT" = some (some (.int 100 tt))) (x2 : PySem.W.nsIn K mainGlobals "MOST_MIDDLES" = some (some (.int 8 t2))) : ∃ aK : Addr, Txt K mg aK := by
  obtain ⟨v1, e1, r1⟩ := XP.2.val _ (List.mem_cons_self ..)
  obtain ⟨v2, e2, r2⟩ := XP.2.val _ (List.mem_cons_of_mem _ (List.mem_cons_self ..))
  obtain ⟨t1, rfl⟩ := loose_int r1
  obtain ⟨t2, rfl⟩ := loose_int r2
  exact ⟨aK, {
    b_len := PySem.W.mg_none_of KI NS zlen
    b_int := PySem.W.mg_none_of KI NS zint
    b_abs := PySem.W.mg_none_of KI NS zabs
    b_max := PySem.W.mg_none_of KI NS zmax
    b_min := PySem.W.mg_none_of KI NS zmin
    b_range := PySem.W.mg_none_of KI NS zrange
    b_isinstance := PySem.W.mg_none_of KI NS zisinstance
    b_tuple := PySem.W.mg_none_of KI NS ztuple
    b_all := PySem.W.mg_none_of KI NS zall
    b_str := PySem.W.mg_none_of KI NS zstr
    b_repr := PySem.W.mg_none_of KI NS zrepr
    b_list := PySem.W.mg_none_of KI NS zlist
    g_KINDS := PySem.W.mg_of KI NS aaK
    s_KINDS := vals_tup lK (by show 5 ≤ sizeLine; decide) (.cons (rel_str _ _) (.cons (rel_str _ _) (.cons (rel_str _ _) (.cons (rel_str _ _) (.cons (rel_str _ _) .nil)))))
    g_number := ⟨_, e1⟩
    g_value := ⟨_, e2⟩
    g_text := ⟨_, PySem.W.mg_of KI NS x1⟩
    g_middles := ⟨_, PySem.W.mg_of KI NS x2⟩ }⟩
structure DefAt (K : PySem.W.Frag) (mg : Str → Option Value) (x : Str) (st : Stmt) : Prop where
  ex : ∃ (f : Addr) (fd : FuncData), Fun K x x st f fd ∧ mg x = some (.ref f)
theorem defAt {K : PySem.W.Frag} {h : Heap} {mg : Str → Option Value} {x : Str} {st : Stmt} {f : Addr} {od an : Option Addr} {sl : Array (Option Value)} {oc kV dc pm cd ct : Value} (KI : K.In h) (NS : h.Ns mainGlobals mg)
    (at_ : PySem.W.nsIn K mainGlobals x = some (some (.ref f))) (lk : K.lookup f = some ⟨oc, od, .func (PySem.W.fnOf x x (defArgs st) (defBody st) (defScope st) .none kV dc pm an cd ct), sl⟩)
    (cc : PySem.W.codeIn K cd x = true) (kk : PySem.W.keepIn K (.ref f) = true) : DefAt K mg x st := ⟨f, _, fun_mk (st := st) lk cc kk, PySem.W.mg_of KI NS at_⟩
theorem all_mk {l : PySem.W.OpenLaw} {w : World} {K : PySem.W.Frag} {mg : Str → Option Value} {fa : Addr} (hT : ∃ aK : Addr, Txt K mg aK) (hfa : mg "law" = some (.ref fa)) (d_are_signs : DefAt K mg "are_signs" s_are_signs) (d_is_text : DefAt K mg "is_text" s_is_text) (d_need_kind : DefAt K mg "_need_kind" s_need_kind) (d_are_plain_digits : DefAt K mg "are_plain_digits" s_are_plain_digits) (d_fits_number : DefAt K mg "_fits_number" s_fits_number) (d_read_place : DefAt K mg "read_place" s_read_place) (d_read_number : DefAt K mg "read_number" s_read_number) (d_fits_exactly : DefAt K mg "_fits_exactly" s_fits_exactly) (d_known_form : DefAt K mg "known_form" s_known_form) (d_form_of : DefAt K mg "form_of" s_form_of) (d_is_form : DefAt K mg "is_form" s_is_form) (d_is_piece : DefAt K mg "_is_piece" s_is_piece) (d_is_pattern : DefAt K mg "is_pattern" s_is_pattern) (d_squeezed : DefAt K mg "_squeezed" s_squeezed) (d_text_pattern : DefAt K mg "_text_pattern" s_text_pattern) (d_pattern_form : DefAt K mg "pattern_form" s_pattern_form) (d_can_be_parted : DefAt K mg "can_be_parted" s_can_be_parted) (d_does_match : DefAt K mg "does_match" s_does_match) (d_law_dice : DefAt K mg "_law_dice" s_law_dice) (d_law_roll : DefAt K mg "_law_roll" s_law_roll) (d_law_one_of : DefAt K mg "_law_one_of" s_law_one_of) (d_law_squeezed : DefAt K mg "_law_squeezed" s_law_squeezed) (d_law_due : DefAt K mg "_law_due" s_law_due) (d_law_matches : DefAt K mg "_law_matches" s_law_matches) (d_law_piece : DefAt K mg "_law_piece" s_law_piece) (d_law_drawn : DefAt K mg "_law_drawn" s_law_drawn) (d_law_between : DefAt K mg "_law_between" s_law_between) (d_law_made_after : DefAt K mg "_law_made_after" s_law_made_after) (d_law_texts : DefAt K mg "_law_texts" s_law_texts) (d_law_near_right : DefAt K mg "_law_near_right" s_law_near_right) (d_law_right : DefAt K mg "_law_right" s_law_right) (d_law : DefAt K mg "law" s_law) :
    ∃ fd : FuncData, (∀ (s : Shared) (v : Value), BindsTo s fd ⟨[v], []⟩ [("_law_script", v)]) ∧ ∀ base : Heap, K.In base → base.Ns mainGlobals mg → FnOk l.prog w K mg base CX0 9 fa fd ["_law_script"] (spLaw K) := by
  obtain ⟨aK, T⟩ := hT
  obtain ⟨f_are_signs, fd_are_signs, F_are_signs, m_are_signs⟩ := d_are_signs.ex
  have b_are_signs := F_are_signs.binds (ps := ["value", "most"]) fun _ _ _ _ _ _ us hl => match us, hl with | [_, _], _ => rfl
  obtain ⟨f_is_text, fd_is_text, F_is_text, m_is_text⟩ := d_is_text.ex
  have b_is_text := F_is_text.binds (ps := ["value"]) fun _ _ _ _ _ _ us hl => match us, hl with | [_], _ => rfl
  obtain ⟨f_need_kind, fd_need_kind, F_need_kind, m_need_kind⟩ := d_need_kind.ex
  have b_need_kind := F_need_kind.binds (ps := ["kind"]) fun _ _ _ _ _ _ us hl => match us, hl with | [_], _ => rfl
  obtain ⟨f_are_plain_digits, fd_are_plain_digits, F_are_plain_digits, m_are_plain_digits⟩ := d_are_plain_digits.ex
  have b_are_plain_digits := F_are_plain_digits.binds (ps := ["signs"]) fun _ _ _ _ _ _ us hl => match us, hl with | [_], _ => rfl
  obtain ⟨f_fits_number, fd_fits_number, F_fits_number, m_fits_number⟩ := d_fits_number.ex
  have b_fits_number := F_fits_number.binds (ps := ["text"]) fun _ _ _ _ _ _ us hl => match us, hl with | [_], _ => rfl
  obtain ⟨f_read_place, fd_read_place, F_read_place, m_read_place⟩ := d_read_place.ex
  have b_read_place := F_read_place.binds (ps := ["signs"]) fun _ _ _ _ _ _ us hl => match us, hl with | [_], _ => rfl
  obtain ⟨f_read_number, fd_read_number, F_read_number, m_read_number⟩ := d_read_number.ex
  have b_read_number := F_read_number.binds (ps := ["signs"]) fun _ _ _ _ _ _ us hl => match us, hl with | [_], _ => rfl
  obtain ⟨f_fits_exactly, fd_fits_exactly, F_fits_exactly, m_fits_exactly⟩ := d_fits_exactly.ex
  have b_fits_exactly := F_fits_exactly.binds (ps := ["kind", "text"]) fun _ _ _ _ _ _ us hl => match us, hl with | [_, _], _ => rfl
  obtain ⟨f_known_form, fd_known_form, F_known_form, m_known_form⟩ := d_known_form.ex
  have b_known_form := F_known_form.binds (ps := ["kind", "text"]) fun _ _ _ _ _ _ us hl => match us, hl with | [_, _], _ => rfl
  obtain ⟨f_form_of, fd_form_of, F_form_of, m_form_of⟩ := d_form_of.ex
  have b_form_of := F_form_of.binds (ps := ["kind", "text"]) fun _ _ _ _ _ _ us hl => match us, hl with | [_, _], _ => rfl
  obtain ⟨f_is_form, fd_is_form, F_is_form, m_is_form⟩ := d_is_form.ex
  have b_is_form := F_is_form.binds (ps := ["kind", "value"]) fun _ _ _ _ _ _ us hl => match us, hl with | [_, _], _ => rfl
  obtain ⟨f_is_piece, fd_is_piece, F_is_piece, m_is_piece⟩ := d_is_piece.ex
  have b_is_piece := F_is_piece.binds (ps := ["value"]) fun _ _ _ _ _ _ us hl => match us, hl with | [_], _ => rfl
  obtain ⟨f_is_pattern, fd_is_pattern, F_is_pattern, m_is_pattern⟩ := d_is_pattern.ex
  have b_is_pattern := F_is_pattern.binds (ps := ["value"]) fun _ _ _ _ _ _ us hl => match us, hl with | [_], _ => rfl
  obtain ⟨f_squeezed, fd_squeezed, F_squeezed, m_squeezed⟩ := d_squeezed.ex
  have b_squeezed := F_squeezed.binds (ps := ["piece"]) fun _ _ _ _ _ _ us hl => match us, hl with | [_], _ => rfl
  obtain ⟨f_text_pattern, fd_text_pattern, F_text_pattern, m_text_pattern⟩ := d_text_pattern.ex
  have b_text_pattern := F_text_pattern.binds (ps := ["pattern"]) fun _ _ _ _ _ _ us hl => match us, hl with | [_], _ => rfl
  obtain ⟨f_pattern_form, fd_pattern_form, F_pattern_form, m_pattern_form⟩ := d_pattern_form.ex
  have b_pattern_form := F_pattern_form.binds (ps := ["kind", "pattern"]) fun _ _ _ _ _ _ us hl => match us, hl with | [_, _], _ => rfl
  obtain ⟨f_can_be_parted, fd_can_be_parted, F_can_be_parted, m_can_be_parted⟩ := d_can_be_parted.ex
  have b_can_be_parted := F_can_be_parted.binds (ps := ["form", "pieces"]) fun _ _ _ _ _ _ us hl => match us, hl with | [_, _], _ => rfl
  obtain ⟨f_does_match, fd_does_match, F_does_match, m_does_match⟩ := d_does_match.ex
  have b_does_match := F_does_match.binds (ps := ["kind", "pattern", "form"]) fun _ _ _ _ _ _ us hl => match us, hl with | [_, _, _], _ => rfl
  obtain ⟨f_law_dice, fd_law_dice, F_law_dice, m_law_dice⟩ := d_law_dice.ex
  have b_law_dice := F_law_dice.binds (ps := ["_law_script", "_law_at"]) fun _ _ _ _ _ _ us hl => match us, hl with | [_, _], _ => rfl
  obtain ⟨f_law_roll, fd_law_roll, F_law_roll, m_law_roll⟩ := d_law_roll.ex
  have b_law_roll := F_law_roll.binds (ps := ["_law_dice_here", "_law_total"]) fun _ _ _ _ _ _ us hl => match us, hl with | [_, _], _ => rfl
  obtain ⟨f_law_one_of, fd_law_one_of, F_law_one_of, m_law_one_of⟩ := d_law_one_of.ex
  have b_law_one_of := F_law_one_of.binds (ps := ["_law_dice_here", "_law_items"]) fun _ _ _ _ _ _ us hl => match us, hl with | [_, _], _ => rfl
  obtain ⟨f_law_squeezed, fd_law_squeezed, F_law_squeezed, m_law_squeezed⟩ := d_law_squeezed.ex
  have b_law_squeezed := F_law_squeezed.binds (ps := ["_law_text"]) fun _ _ _ _ _ _ us hl => match us, hl with | [_], _ => rfl
  obtain ⟨f_law_due, fd_law_due, F_law_due, m_law_due⟩ := d_law_due.ex
  have b_law_due := F_law_due.binds (ps := ["_law_kind", "_law_pattern"]) fun _ _ _ _ _ _ us hl => match us, hl with | [_, _], _ => rfl
  obtain ⟨f_law_matches, fd_law_matches, F_law_matches, m_law_matches⟩ := d_law_matches.ex
  have b_law_matches := F_law_matches.binds (ps := ["_law_pattern", "_law_form"]) fun _ _ _ _ _ _ us hl => match us, hl with | [_, _], _ => rfl
  obtain ⟨f_law_piece, fd_law_piece, F_law_piece, m_law_piece⟩ := d_law_piece.ex
  have b_law_piece := F_law_piece.binds (ps := ["_law_dice_here"]) fun _ _ _ _ _ _ us hl => match us, hl with | [_], _ => rfl
  obtain ⟨f_law_drawn, fd_law_drawn, F_law_drawn, m_law_drawn⟩ := d_law_drawn.ex
  have b_law_drawn := F_law_drawn.binds (ps := ["_law_dice_here"]) fun _ _ _ _ _ _ us hl => match us, hl with | [_], _ => rfl
  obtain ⟨f_law_between, fd_law_between, F_law_between, m_law_between⟩ := d_law_between.ex
  have b_law_between := F_law_between.binds (ps := ["_law_dice_here"]) fun _ _ _ _ _ _ us hl => match us, hl with | [_], _ => rfl
  obtain ⟨f_law_made_after, fd_law_made_after, F_law_made_after, m_law_made_after⟩ := d_law_made_after.ex
  have b_law_made_after := F_law_made_after.binds (ps := ["_law_dice_here", "_law_pattern"]) fun _ _ _ _ _ _ us hl => match us, hl with | [_, _], _ => rfl
  obtain ⟨f_law_texts, fd_law_texts, F_law_texts, m_law_texts⟩ := d_law_texts.ex
  have b_law_texts := F_law_texts.binds (ps := ["_law_dice_here", "_law_pattern"]) fun _ _ _ _ _ _ us hl => match us, hl with | [_, _], _ => rfl
  obtain ⟨f_law_near_right, fd_law_near_right, F_law_near_right, m_law_near_right⟩ := d_law_near_right.ex
  have b_law_near_right := F_law_near_right.binds (ps := ["_law_dice_here", "_law_pattern"]) fun _ _ _ _ _ _ us hl => match us, hl with | [_, _], _ => rfl
  obtain ⟨f_law_right, fd_law_right, F_law_right, m_law_right⟩ := d_law_right.ex
  have b_law_right := F_law_right.binds (ps := ["_law_dice_here"]) fun _ _ _ _ _ _ us hl => match us, hl with | [_], _ => rfl
  obtain ⟨f_law, fd_law, F_law, m_law⟩ := d_law.ex
  have b_law := F_law.binds (ps := ["_law_script"]) fun _ _ _ _ _ _ us hl => match us, hl with | [_], _ => rfl
  have e := hfa.symm.trans m_law
  cases e
  refine ⟨fd_law, fun s v => ?_, fun base _ _ => ?_⟩
  · obtain ⟨_, _, _, _, _, _, _, _, _, rfl, _, _⟩ := F_law.ex
    exact .of_eq rfl
  have D_are_signs : Dfn l.prog w K mg base "are_signs" 1 ["value", "most"] _ := ⟨f_are_signs, fd_are_signs, ok_are_signs F_are_signs T, m_are_signs, F_are_signs.kp, b_are_signs⟩
  have D_is_text : Dfn l.prog w K mg base "is_text" 2 ["value"] _ := ⟨f_is_text, fd_is_text, ok_is_text F_is_text T D_are_signs, m_is_text, F_is_text.kp, b_is_text⟩
  have D_need_kind : Dfn l.prog w K mg base "_need_kind" 1 ["kind"] _ := ⟨f_need_kind, fd_need_kind, ok_need_kind F_need_kind T, m_need_kind, F_need_kind.kp, b_need_kind⟩
  have D_are_plain_digits : Dfn l.prog w K mg base "are_plain_digits" 1 ["signs"] _ := ⟨f_are_plain_digits, fd_are_plain_digits, ok_are_plain_digits F_are_plain_digits , m_are_plain_digits, F_are_plain_digits.kp, b_are_plain_digits⟩
  have D_fits_number : Dfn l.prog w K mg base "_fits_number" 2 ["text"] _ := ⟨f_fits_number, fd_fits_number, ok_fits_number F_fits_number T D_are_plain_digits, m_fits_number, F_fits_number.kp, b_fits_number⟩
  have D_read_place : Dfn l.prog w K mg base "read_place" 2 ["signs"] _ := ⟨f_read_place, fd_read_place, ok_read_place F_read_place T D_are_plain_digits, m_read_place, F_read_place.kp, b_read_place⟩
  have D_read_number : Dfn l.prog w K mg base "read_number" 3 ["signs"] _ := ⟨f_read_number, fd_read_number, ok_read_number F_read_number D_read_place, m_read_number, F_read_number.kp, b_read_number⟩
  have D_fits_exactly : Dfn l.prog w K mg base "_fits_exactly" 4 ["kind", "text"] _ := ⟨f_fits_exactly, fd_fits_exactly, ok_fits_exactly F_fits_exactly D_fits_number D_read_number, m_fits_exactly, F_fits_exactly.kp, b_fits_exactly⟩
  have D_known_form : Dfn l.prog w K mg base "known_form" 5 ["kind", "text"] _ := ⟨f_known_form, fd_known_form, ok_known_form F_known_form D_fits_exactly, m_known_form, F_known_form.kp, b_known_form⟩
  have D_form_of : Dfn l.prog w K mg base "form_of" 6 ["kind", "text"] _ := ⟨f_form_of, fd_form_of, ok_form_of F_form_of D_need_kind D_is_text D_known_form, m_form_of, F_form_of.kp, b_form_of⟩
  have D_is_form : Dfn l.prog w K mg base "is_form" 6 ["kind", "value"] _ := ⟨f_is_form, fd_is_form, ok_is_form F_is_form D_need_kind D_is_text D_known_form, m_is_form, F_is_form.kp, b_is_form⟩
  have D_is_piece : Dfn l.prog w K mg base "_is_piece" 3 ["value"] _ := ⟨f_is_piece, fd_is_piece, ok_is_piece F_is_piece T D_is_text, m_is_piece, F_is_piece.kp, b_is_piece⟩
  have D_is_pattern : Dfn l.prog w K mg base "is_pattern" 4 ["value"] _ := ⟨f_is_pattern, fd_is_pattern, ok_is_pattern F_is_pattern T D_is_text D_is_piece, m_is_pattern, F_is_pattern.kp, b_is_pattern⟩
  have D_squeezed : Dfn l.prog w K mg base "_squeezed" 1 ["piece"] _ := ⟨f_squeezed, fd_squeezed, ok_squeezed F_squeezed , m_squeezed, F_squeezed.kp, b_squeezed⟩
  have D_text_pattern : Dfn l.prog w K mg base "_text_pattern" 2 ["pattern"] _ := ⟨f_text_pattern, fd_text_pattern, ok_text_pattern F_text_pattern T D_squeezed, m_text_pattern, F_text_pattern.kp, b_text_pattern⟩
  have D_pattern_form : Dfn l.prog w K mg base "pattern_form" 6 ["kind", "pattern"] _ := ⟨f_pattern_form, fd_pattern_form, ok_pattern_form F_pattern_form T D_need_kind D_is_pattern D_text_pattern, m_pattern_form, F_pattern_form.kp, b_pattern_form⟩
  have D_can_be_parted : Dfn l.prog w K mg base "can_be_parted" 1 ["form", "pieces"] _ := ⟨f_can_be_parted, fd_can_be_parted, ok_can_be_parted F_can_be_parted T, m_can_be_parted, F_can_be_parted.kp, b_can_be_parted⟩
  have D_does_match : Dfn l.prog w K mg base "does_match" 7 ["kind", "pattern", "form"] _ := ⟨f_does_match, fd_does_match, ok_does_match F_does_match T D_pattern_form D_is_form D_can_be_parted, m_does_match, F_does_match.kp, b_does_match⟩
  have D_law_dice : Dfn l.prog w K mg base "_law_dice" 1 ["_law_script", "_law_at"] _ := ⟨f_law_dice, fd_law_dice, ok_law_dice F_law_dice T, m_law_dice, F_law_dice.kp, b_law_dice⟩
  have D_law_roll : Dfn l.prog w K mg base "_law_roll" 1 ["_law_dice_here", "_law_total"] _ := ⟨f_law_roll, fd_law_roll, ok_law_roll F_law_roll T, m_law_roll, F_law_roll.kp, b_law_roll⟩
  have D_law_one_of : Dfn l.prog w K mg base "_law_one_of" 2 ["_law_dice_here", "_law_items"] _ := ⟨f_law_one_of, fd_law_one_of, ok_law_one_of F_law_one_of T D_law_roll, m_law_one_of, F_law_one_of.kp, b_law_one_of⟩
  have D_law_squeezed : Dfn l.prog w K mg base "_law_squeezed" 1 ["_law_text"] _ := ⟨f_law_squeezed, fd_law_squeezed, ok_law_squeezed F_law_squeezed , m_law_squeezed, F_law_squeezed.kp, b_law_squeezed⟩
  have D_law_due : Dfn l.prog w K mg base "_law_due" 2 ["_law_kind", "_law_pattern"] _ := ⟨f_law_due, fd_law_due, ok_law_due F_law_due T D_law_squeezed, m_law_due, F_law_due.kp, b_law_due⟩
  have D_law_matches : Dfn l.prog w K mg base "_law_matches" 1 ["_law_pattern", "_law_form"] _ := ⟨f_law_matches, fd_law_matches, ok_law_matches F_law_matches T, m_law_matches, F_law_matches.kp, b_law_matches⟩
  have D_law_piece : Dfn l.prog w K mg base "_law_piece" 3 ["_law_dice_here"] _ := ⟨f_law_piece, fd_law_piece, ok_law_piece F_law_piece T D_law_roll D_law_one_of, m_law_piece, F_law_piece.kp, b_law_piece⟩
  have D_law_drawn : Dfn l.prog w K mg base "_law_drawn" 4 ["_law_dice_here"] _ := ⟨f_law_drawn, fd_law_drawn, ok_law_drawn F_law_drawn T D_law_roll D_law_piece, m_law_drawn, F_law_drawn.kp, b_law_drawn⟩
  have D_law_between : Dfn l.prog w K mg base "_law_between" 3 ["_law_dice_here"] _ := ⟨f_law_between, fd_law_between, ok_law_between F_law_between T D_law_roll D_law_one_of, m_law_between, F_law_between.kp, b_law_between⟩
  have D_law_made_after : Dfn l.prog w K mg base "_law_made_after" 4 ["_law_dice_here", "_law_pattern"] _ := ⟨f_law_made_after, fd_law_made_after, ok_law_made_after F_law_made_after T D_law_between, m_law_made_after, F_law_made_after.kp, b_law_made_after⟩
  have D_law_texts : Dfn l.prog w K mg base "_law_texts" 5 ["_law_dice_here", "_law_pattern"] _ := ⟨f_law_texts, fd_law_texts, ok_law_texts F_law_texts T D_law_made_after D_law_roll D_law_one_of D_law_piece, m_law_texts, F_law_texts.kp, b_law_texts⟩
  have D_law_near_right : Dfn l.prog w K mg base "_law_near_right" 5 ["_law_dice_here", "_law_pattern"] _ := ⟨f_law_near_right, fd_law_near_right, ok_law_near_right F_law_near_right T D_is_pattern, m_law_near_right, F_law_near_right.kp, b_law_near_right⟩
  have D_law_right : Dfn l.prog w K mg base "_law_right" 8 ["_law_dice_here"] _ := ⟨f_law_right, fd_law_right, ok_law_right F_law_right T D_law_drawn D_law_due D_pattern_form D_law_texts D_form_of D_law_matches D_does_match D_law_near_right, m_law_right, F_law_right.kp, b_law_right⟩
  exact ok_law F_law T D_law_dice D_law_right D_does_match D_pattern_form
/-- the law's walk, with what the loose names of the top hold -/
theorem walk {ll : PySem.W.OpenLaw} {qq : Program} {ls : List Str} {XQ : (Str → Option Value) → Heap → Prop} {YQ : World → Heap → Prop} {dd : DefRec} {KK : Params → PySem.W.Frag} (hmost : ll.most = some 63) (hdef : dd.params.defaults = [])
    (hroom : Room 9 callerA) (hin : ∀ (u : World) (hh : Heap), YQ u hh → (KK u.params).In hh)
    (FF : ∀ (u : World) (nm : Str → Option Value) (ff : Addr) (hh : Heap), XQ nm hh → (KK u.params).In hh → hh.Ns mainGlobals nm → nm dd.name = some (.ref ff) →
      ∃ fu : FuncData, (∀ (sh : Shared) (vv : Value), BindsTo sh fu ⟨[vv], []⟩ [("_law_script", vv)]) ∧ ∀ bb : Heap, (KK u.params).In bb → bb.Ns mainGlobals nm → FnOk ll.prog u (KK u.params) nm bb CX0 9 ff fu ["_law_script"] (spLaw (KK u.params))) :
    PySem.W.WalkO qq ls XQ YQ ll.row.toRowW dd [] (fun f vs => PySem.call f vs) :=
  Att.attach_call hmost hdef fun u _ sb nm _ ff _ _ _ _ aa _ nn GG YY _ _ _ hnm hob hin2 hle hgn => by
    have inK := hin u _ YY
    obtain ⟨fu, hbi, hfn⟩ := FF u nm ff _ GG.X inK GG.T.g hnm
    exact law_call inK GG.T.g GG.T.b GG.T.builtins GG.T.nolimit hgn hob hin2 (Nat.le_trans hle (by decide)) hroom hfn hbi (fun HH _ hsq => ⟨aa, nn, rfl, hsq, hle, fun _ => rfl⟩) fun _ _ _ z => z
end Bw
open PySem PySem.W PyProof.Rows in
set_option maxRecDepth 100000 in
set_option maxHeartbeats 0 in
theorem PySem.Challenge.cw_bailiwick_k01_whole_patterns_against_all_holds : PySem.Challenge.rw_bailiwick_k01_whole_patterns_against_all.Holds := by
  w_on; o_law; k_head; (case hw => w_witness2)
  k_fill
  refine Bw.walk (ll := PySem.Challenge.rw_bailiwick_k01_whole_patterns_against_all) rfl rfl ⟨rfl, by decide, by decide⟩ (fun w h Y => PySem.W.kIn_of Y) ?F
  case F =>
    intro w mg fa h XP KX G hmg
    refine' Bw.all_mk (Bw.txtMk XP KX G ?zlen ?zint ?zabs ?zmax ?zmin ?zrange ?zisinstance ?ztuple ?zall ?zstr ?zrepr ?zlist ?aaK ?lK ?x1 ?x2) hmg ?d_are_signs ?d_is_text ?d_need_kind ?d_are_plain_digits ?d_fits_number ?d_read_place ?d_read_number ?d_fits_exactly ?d_known_form ?d_form_of ?d_is_form ?d_is_piece ?d_is_pattern ?d_squeezed ?d_text_pattern ?d_pattern_form ?d_can_be_parted ?d_does_match ?d_law_dice ?d_law_roll ?d_law_one_of ?d_law_squeezed ?d_law_due ?d_law_matches ?d_law_piece ?d_law_drawn ?d_law_between ?d_law_made_after ?d_law_texts ?d_law_near_right ?d_law_right ?d_law
    (case zlen => k_is)
    (case zint => k_is)
    (case zabs => k_is)
    (case zmax => k_is)
    (case zmin => k_is)
    (case zrange => k_is)
    (case zisinstance => k_is)
    (case ztuple => k_is)
    (case zall => k_is)
    (case zstr => k_is)
    (case zrepr => k_is)
    (case zlist => k_is)
    (case aaK => k_is)
    (case lK => k_is)
    (case x1 => k_is)
    (case x2 => k_is)
    (case d_are_signs => (refine' Bw.defAt KX G ?at_ ?lk ?cc ?kk; (case at_ => k_is); (case lk => k_is); (case cc => k_is); (case kk => k_is)))
    (case d_is_text => (refine' Bw.defAt KX G ?at_ ?lk ?cc ?kk; (case at_ => k_is); (case lk => k_is); (case cc => k_is); (case kk => k_is)))
    (case d_need_kind => (refine' Bw.defAt KX G ?at_ ?lk ?cc ?kk; (case at_ => k_is); (case lk => k_is); (case cc => k_is); (case kk => k_is)))
    (case d_are_plain_digits => (refine' Bw.defAt KX G ?at_ ?lk ?cc ?kk; (case at_ => k_is); (case lk => k_is); (case cc => k_is); (case kk => k_is)))
    (case d_fits_number => (refine' Bw.defAt KX G ?at_ ?lk ?cc ?kk; (case at_ => k_is); (case lk => k_is); (case cc => k_is); (case kk => k_is)))
    (case d_read_place => (refine' Bw.defAt KX G ?at_ ?lk ?cc ?kk; (case at_ => k_is); (case lk => k_is); (case cc => k_is); (case kk => k_is)))
    (case d_read_number => (refine' Bw.defAt KX G ?at_ ?lk ?cc ?kk; (case at_ => k_is); (case lk => k_is); (case cc => k_is); (case kk => k_is)))
    (case d_fits_exactly => (refine' Bw.defAt KX G ?at_ ?lk ?cc ?kk; (case at_ => k_is); (case lk => k_is); (case cc => k_is); (case kk => k_is)))
    (case d_known_form => (refine' Bw.defAt KX G ?at_ ?lk ?cc ?kk; (case at_ => k_is); (case lk => k_is); (case cc => k_is); (case kk => k_is)))
    (case d_form_of => (refine' Bw.defAt KX G ?at_ ?lk ?cc ?kk; (case at_ => k_is); (case lk => k_is); (case cc => k_is); (case kk => k_is)))
    (case d_is_form => (refine' Bw.defAt KX G ?at_ ?lk ?cc ?kk; (case at_ => k_is); (case lk => k_is); (case cc => k_is); (case kk => k_is)))
    (case d_is_piece => (refine' Bw.defAt KX G ?at_ ?lk ?cc ?kk; (case at_ => k_is); (case lk => k_is); (case cc => k_is); (case kk => k_is)))
    (case d_is_pattern => (refine' Bw.defAt KX G ?at_ ?lk ?cc ?kk; (case at_ => k_is); (case lk => k_is); (case cc => k_is); (case kk => k_is)))
    (case d_squeezed => (refine' Bw.defAt KX G ?at_ ?lk ?cc ?kk; (case at_ => k_is); (case lk => k_is); (case cc => k_is); (case kk => k_is)))
    (case d_text_pattern => (refine' Bw.defAt KX G ?at_ ?lk ?cc ?kk; (case at_ => k_is); (case lk => k_is); (case cc => k_is); (case kk => k_is)))
    (case d_pattern_form => (refine' Bw.defAt KX G ?at_ ?lk ?cc ?kk; (case at_ => k_is); (case lk => k_is); (case cc => k_is); (case kk => k_is)))
    (case d_can_be_parted => (refine' Bw.defAt KX G ?at_ ?lk ?cc ?kk; (case at_ => k_is); (case lk => k_is); (case cc => k_is); (case kk => k_is)))
    (case d_does_match => (refine' Bw.defAt KX G ?at_ ?lk ?cc ?kk; (case at_ => k_is); (case lk => k_is); (case cc => k_is); (case kk => k_is)))
    (case d_law_dice => (refine' Bw.defAt KX G ?at_ ?lk ?cc ?kk; (case at_ => k_is); (case lk => k_is); (case cc => k_is); (case kk => k_is)))
    (case d_law_roll => (refine' Bw.defAt KX G ?at_ ?lk ?cc ?kk; (case at_ => k_is); (case lk => k_is); (case cc => k_is); (case kk => k_is)))
    (case d_law_one_of => (refine' Bw.defAt KX G ?at_ ?lk ?cc ?kk; (case at_ => k_is); (case lk => k_is); (case cc => k_is); (case kk => k_is)))
    (case d_law_squeezed => (refine' Bw.defAt KX G ?at_ ?lk ?cc ?kk; (case at_ => k_is); (case lk => k_is); (case cc => k_is); (case kk => k_is)))
    (case d_law_due => (refine' Bw.defAt KX G ?at_ ?lk ?cc ?kk; (case at_ => k_is); (case lk => k_is); (case cc => k_is); (case kk => k_is)))
    (case d_law_matches => (refine' Bw.defAt KX G ?at_ ?lk ?cc ?kk; (case at_ => k_is); (case lk => k_is); (case cc => k_is); (case kk => k_is)))
    (case d_law_piece => (refine' Bw.defAt KX G ?at_ ?lk ?cc ?kk; (case at_ => k_is); (case lk => k_is); (case cc => k_is); (case kk => k_is)))
    (case d_law_drawn => (refine' Bw.defAt KX G ?at_ ?lk ?cc ?kk; (case at_ => k_is); (case lk => k_is); (case cc => k_is); (case kk => k_is)))
    (case d_law_between => (refine' Bw.defAt KX G ?at_ ?lk ?cc ?kk; (case at_ => k_is); (case lk => k_is); (case cc => k_is); (case kk => k_is)))
    (case d_law_made_after => (refine' Bw.defAt KX G ?at_ ?lk ?cc ?kk; (case at_ => k_is); (case lk => k_is); (case cc => k_is); (case kk => k_is)))
    (case d_law_texts => (refine' Bw.defAt KX G ?at_ ?lk ?cc ?kk; (case at_ => k_is); (case lk => k_is); (case cc => k_is); (case kk => k_is)))
    (case d_law_near_right => (refine' Bw.defAt KX G ?at_ ?lk ?cc ?kk; (case at_ => k_is); (case lk => k_is); (case cc => k_is); (case kk => k_is)))
    (case d_law_right => (refine' Bw.defAt KX G ?at_ ?lk ?cc ?kk; (case at_ => k_is); (case lk => k_is); (case cc => k_is); (case kk => k_is)))
    (case d_law => (refine' Bw.defAt KX G ?at_ ?lk ?cc ?kk; (case at_ => k_is); (case lk => k_is); (case cc => k_is); (case kk => k_is)))
