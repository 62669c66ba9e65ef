/-
  Plain mathematics of layer 18: what is put is read as it was; a front of it is too short.
-/
import Derived.Test.YtbagclhghcglbaaAcM
import Derived.Test.YtbagclhghcglbaaLebN
namespace Go.Proofs.Ytbagclhghcglbaa
open Go Go.RowKit Mem LebM OpM
namespace AcM

theorem first_back {x : Tx} (h1 : 1 ≤ x.length) (h2 : x.length ≤ 16) (R : List UInt8) : firstA (oneA x ++ R) = (x, (oneA x).length, 0) := by
  have hg : gu (oneA x ++ R) = (x.length, (u x.length).length, 0) := by
    unfold oneA
    rw [List.append_assoc]
    exact gu_back _ _ (by omega)
  have hl : (oneA x ++ R).length = (u x.length).length + x.length + R.length := by
    unfold oneA
    rw [List.length_append, List.length_append]
  have hd : (oneA x ++ R).drop (u x.length).length = x ++ R := by
    unfold oneA
    rw [List.append_assoc, List.drop_left]
  unfold firstA
  rw [hg]
  simp only
  rw [if_neg (by simp), if_neg (by omega), if_neg (by rw [hl]; omega), hd, List.take_left]
  unfold oneA
  rw [List.length_append]
theorem first_front {x : Tx} (h1 : 1 ≤ x.length) (h2 : x.length ≤ 16) {c : Nat} (hc : c < (oneA x).length) : firstA ((oneA x).take c) = ([], 0, 2) := by
  by_cases h : c < (u x.length).length
  · have e : (oneA x).take c = (u x.length).take c := by
      unfold oneA
      rw [List.take_append_of_le_length (by omega)]
    have hg := gu_front (u_form x.length) (u_len10 (show x.length < 18446744073709551616 by omega)) c h
    rw [e]
    unfold firstA
    rw [hg]
    simp
  · have e : (oneA x).take c = u x.length ++ x.take (c - (u x.length).length) := by
      unfold oneA
      rw [List.take_append, List.take_of_length_le (by omega)]
    have hg : gu (u x.length ++ x.take (c - (u x.length).length)) = (x.length, (u x.length).length, 0) := gu_back _ _ (by omega)
    have hl : (u x.length ++ x.take (c - (u x.length).length)).length = c := by
      unfold oneA at hc
      rw [List.length_append] at hc
      rw [List.length_append, List.length_take]
      omega
    unfold oneA at hc
    rw [List.length_append] at hc
    rw [e]
    unfold firstA
    rw [hg, hl]
    simp only
    rw [if_neg (by simp), if_neg (by omega), if_pos (by omega)]
theorem run_back {a : Tx} : ∀ (O : List Tx) (last : Tx) (R : List UInt8), (last :: O).Pairwise (fun x y => Op.bytesLess x y = true) → a ∉ O → (∀ x ∈ O, 1 ≤ x.length ∧ x.length ≤ 16) →
    runA a O.length last (O.flatMap oneA ++ R) = (O, (O.flatMap oneA).length, 0)
  | [], _, _, _, _, _ => rfl
  | x :: O, last, R, hr, ha, hl => by
    obtain ⟨h1, h2⟩ := hl x (List.mem_cons_self ..)
    have hp := List.pairwise_cons.1 hr
    have hf := first_back h1 h2 (O.flatMap oneA ++ R)
    have ih := run_back O x R hp.2 (fun h => ha (List.mem_cons_of_mem _ h)) (fun y hy => hl y (List.mem_cons_of_mem _ hy))
    have e : (x :: O).flatMap oneA ++ R = oneA x ++ (O.flatMap oneA ++ R) := by rw [List.flatMap_cons, List.append_assoc]
    rw [e]
    show runA a (O.length + 1) last _ = _
    unfold runA
    rw [hf]
    simp only
    rw [if_neg (by simp), if_neg (by
      rintro (h | h)
      · exact ha (by rw [← h]; exact List.mem_cons_self ..)
      · rw [hp.1 x (List.mem_cons_self ..)] at h; cases h), List.drop_left, ih]
    simp only
    rw [if_neg (by simp), List.flatMap_cons, List.length_append]
theorem run_front {a : Tx} : ∀ (O : List Tx) (last : Tx) (c : Nat), (last :: O).Pairwise (fun x y => Op.bytesLess x y = true) → a ∉ O → (∀ x ∈ O, 1 ≤ x.length ∧ x.length ≤ 16) → c < (O.flatMap oneA).length →
    runA a O.length last ((O.flatMap oneA).take c) = ([], 0, 2)
  | [], _, c, _, _, _, hc => by simp at hc
  | x :: O, last, c, hr, ha, hl, hc => by
    obtain ⟨h1, h2⟩ := hl x (List.mem_cons_self ..)
    have hp := List.pairwise_cons.1 hr
    rw [List.flatMap_cons] at hc ⊢
    rw [List.length_append] at hc
    show runA a (O.length + 1) last _ = _
    by_cases h : c < (oneA x).length
    · rw [List.take_append_of_le_length (by omega)]
      unfold runA
      rw [first_front h1 h2 h]
      simp
    · have ih := run_front O x (c - (oneA x).length) hp.2 (fun h => ha (List.mem_cons_of_mem _ h)) (fun y hy => hl y (List.mem_cons_of_mem _ hy)) (by omega)
      rw [List.take_append, List.take_of_length_le (by omega)]
      have hf := first_back h1 h2 ((O.flatMap oneA).take (c - (oneA x).length))
      unfold runA
      rw [hf]
      simp only
      rw [if_neg (by simp), if_neg (by
        rintro (h | h)
        · exact ha (by rw [← h]; exact List.mem_cons_self ..)
        · rw [hp.1 x (List.mem_cons_self ..)] at h; cases h), List.drop_left, ih]
      simp
theorem rise_nil {O : List Tx} (h : Rise O) (hl : ∀ x ∈ O, 1 ≤ x.length ∧ x.length ≤ 16) : ([] :: O).Pairwise (fun x y => Op.bytesLess x y = true) :=
  List.pairwise_cons.2 ⟨fun x hx => by
    have := (hl x hx).1
    cases x with
    | nil => simp at this
    | cons => rfl, h⟩
theorem put_tab (a : Tx) (O : List Tx) : putA (a :: O) = u O.length ++ O.flatMap oneA := by
  unfold putA
  simp
/-- what is put is read as it was -/
theorem get_back {a : Tx} {O : List Tx} (hr : Rise O) (ha : a ∉ O) (hl : ∀ x ∈ O, 1 ≤ x.length ∧ x.length ≤ 16) (hn : O.length < 18446744073709551616) (R : List UInt8) : getA a (putA (a :: O) ++ R) = (a :: O, (putA (a :: O)).length, 0) := by
  rw [put_tab, List.append_assoc]
  have hg : gu (u O.length ++ (O.flatMap oneA ++ R)) = (O.length, (u O.length).length, 0) := gu_back _ _ hn
  unfold getA
  rw [hg]
  simp only
  rw [if_neg (by simp), List.drop_left, run_back O [] R (rise_nil hr hl) ha hl]
  simp only
  rw [if_neg (by simp), List.length_append]
/-- a front of it is too short -/
theorem get_front {a : Tx} {O : List Tx} (hr : Rise O) (ha : a ∉ O) (hl : ∀ x ∈ O, 1 ≤ x.length ∧ x.length ≤ 16) (hn : O.length < 18446744073709551616) {c : Nat} (hc : c < (putA (a :: O)).length) : getA a ((putA (a :: O)).take c) = ([], 0, 2) := by
  rw [put_tab] at hc ⊢
  rw [List.length_append] at hc
  by_cases h : c < (u O.length).length
  · rw [List.take_append_of_le_length (by omega)]
    have hg := gu_front (u_form O.length) (u_len10 hn) c h
    unfold getA
    rw [hg]
    simp
  · rw [List.take_append, List.take_of_length_le (by omega)]
    have hg : gu (u O.length ++ (O.flatMap oneA).take (c - (u O.length).length)) = (O.length, (u O.length).length, 0) := gu_back _ _ hn
    unfold getA
    rw [hg]
    simp only
    rw [if_neg (by simp), List.drop_left, run_front O [] _ (rise_nil hr hl) ha hl (by omega)]
    simp
theorem one_len {x : Tx} (h : x.length ≤ 16) : (oneA x).length ≤ 26 := by
  have := u_len10 (show x.length < 18446744073709551616 by omega)
  unfold oneA
  rw [List.length_append]
  omega
theorem put_len16 {a : Tx} {O : List Tx} (hl : ∀ x ∈ O, 1 ≤ x.length ∧ x.length ≤ 16) (hn : O.length < 18446744073709551616) : (putA (a :: O)).length ≤ 10 + O.length * 26 ∧ 1 ≤ (putA (a :: O)).length := by
  rw [put_tab, List.length_append]
  have h1 := u_len10 hn
  have h2 := u_pos O.length
  have h3 : (O.flatMap oneA).length ≤ O.length * 26 := by
    clear hn h1 h2
    induction O with
    | nil => simp
    | cons x O ih =>
      have h1 := one_len (hl x (List.mem_cons_self ..)).2
      have h2 := ih (fun y hy => hl y (List.mem_cons_of_mem _ hy))
      rw [List.flatMap_cons, List.length_append, List.length_cons]
      omega
  omega
end AcM
end Go.Proofs.Ytbagclhghcglbaa
