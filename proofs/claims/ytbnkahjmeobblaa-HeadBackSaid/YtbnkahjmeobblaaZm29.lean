/-
  Layer 18: rows of texts in memory; Index, Same, alone, less (written by gen_a.py).
  Slices of slices: what a slice expression answers, in letters (written by gen_cut.py).
-/
import Derived.Test.YtbnkahjmeobblaaZm06
import Derived.Test.YtbnkahjmeobblaaZm24
import Derived.Test.YtbnkahjmeobblaaZm25
import Derived.Test.YtbnkahjmeobblaaOpZ
import Derived.BigQuiet
import Derived.Test.YtbnkahjmeobblaaZm01
import Derived.WalkKit
namespace Go.Proofs.Ytbnkahjmeobblaa
open Go.RowKit Mem Go.Lib LebM UtfM VaM OpM AcM
attribute [local go_sem ↓] Go.wp_at_zero Go.wp_at_succ
set_option linter.unusedVariables false

/-- a text as a cell -/
def tc (B : Tx) : Value := .string (txt B)
theorem tc_one (l : List Tx) : ∀ u ∈ l.map tc, u.oneCell' = true := by
  intro u hu
  obtain ⟨b, _, rfl⟩ := List.mem_map.1 hu
  rfl
theorem strT : ElemTy Try.prog 31 9 (.string ⟨#[]⟩) 16 := ⟨Try.underlying31, by kernel_rfl, rfl⟩
/-- a row of texts of one's own -/
def OwT (w : World) (base : Nat) (A : Option Addr) (c : Nat) (L : List Tx) : Prop := w.ownsRow base 9 1 (.slice A L.length c) L.length (L.map tc)
theorem OwT.nil (w : World) (base : Nat) : OwT w base none 0 [] := World.ownsRow_nil _ _ _ _
theorem OwT.fr {w w' : World} {base c : Nat} {A : Option Addr} {L : List Tx} (h : OwT w base A c L) (hf : Fr (fun _ => False) w w') : OwT w' base A c L := hf.own h (fun _ _ h => h)
theorem OwT.base {w : World} {b b' c : Nat} {A : Option Addr} {L : List Tx} (h : OwT w b A c L) (hb : b' ≤ b) : OwT w b' A c L := own_base h hb
theorem OwT.rd {w : World} {base c : Nat} {A : Option Addr} {L : List Tx} (h : OwT w base A c L) : Rd w A L.length (L.map tc) := Rd.of_own h
theorem OwT.cap {w : World} {base c : Nat} {A : Option Addr} {L : List Tx} (h : OwT w base A c L) : L.length ≤ c ∧ c ≤ maxLen := ⟨(own_cap h).2.1, (own_cap h).2.2⟩
theorem OwT.one (w : World) (a : Tx) : OwT (w.alloc (.cells #[.string (txt a)] 9)) w.heap.size (some ⟨w.heap.size, 0, none⟩) 1 [a] := World.ownsRow_lit (size := 1) w #[tc a] 1 (Nat.le_refl _) (by decide) rfl
/-- one more text -/
theorem OwT.snoc {w : World} {base c n : Nat} {A : Option Addr} {L : List Tx} {x : Tx} (hn : L.length = n) (h : w.ownsRow base 9 1 (.slice A (n + 1) c) (n + 1) (L.map tc ++ [.string (txt x)])) : OwT w base A c (L ++ [x]) := by
  subst hn
  unfold OwT
  rw [List.length_append, List.map_append, List.map_singleton]
  exact h
theorem rd_tx {w : World} {A : Option Addr} {n k : Nat} {L : List Tx} (h : Rd w A n (L.map tc)) (hk : k < n) : ∃ ad x, A = some ad ∧ L[k]? = some x ∧ w.cell? (ad.add k) = some (.string (txt x)) := by
  obtain ⟨ad, u, rfl, hu, hc⟩ := h.at_ hk
  have hl : L.length = n := by simpa using h.1
  obtain ⟨x, hx⟩ : ∃ x, L[k]? = some x := ⟨_, List.getElem?_eq_getElem (by omega)⟩
  rw [List.getElem?_map, hx] at hu
  injection hu with hu
  exact ⟨ad, x, rfl, hx, by rw [hc, ← hu]; rfl⟩
theorem mem_take {l : List Tx} {k : Nat} {a x : Tx} (h : a ∉ l.take k) (hx : l[k]? = some x) (hne : a ≠ x) : a ∉ l.take (k + 1) := by
  rw [List.take_add_one, hx]
  simp only [Option.toList_some, List.mem_append, List.mem_singleton]
  rintro (h2 | h2)
  · exact h h2
  · exact hne h2
theorem not_take {l : List Tx} {k : Nat} {a : Tx} (h : a ∉ l.take k) : ∀ j, j < k → l[j]? ≠ some a := by
  intro j hj e
  refine h (List.mem_of_getElem? (i := j) ?_)
  rw [List.getElem?_take, if_pos hj, e]
set_option maxRecDepth 100000 in
set_option maxHeartbeats 3200000 in
/-- the reference's Same -/
theorem racSame_any (A : Option Addr) (n c : Nat) (L : List Tx) (A' : Option Addr) (n' c' : Nat) (M : List Tx) (w : World) (hL : Rd w A n (L.map tc)) (hM : Rd w A' n' (M.map tc)) (hn : n ≤ 1000000000) (hn' : n' ≤ 1000000000) :
    Calls Try.prog 18 #[.slice A n c, .slice A' n' c'] w fun e w' => e = .returned (.bool (decide (L = M))) ∧ Fr (fun _ => False) w w' := by
  obtain ⟨r, hr⟩ : ∃ r, decide (L = M) = r := ⟨_, rfl⟩
  rw [hr]
  have HR := Lib.hid hr
  have HL := Lib.hid hL
  have HM := Lib.hid hM
  have HLN : Hid (L.length = n) := Lib.hid (by simpa using hL.1)
  have HMN : Hid (M.length = n') := Lib.hid (by simpa using hM.1)
  clear hL hM hr
  by_cases hnn : n = n'
  · subst hnn
    have t0 : ((n : Int) != (n : Int)) = false := by simp
    go_enter Try.func18, Try.ntmps18
    go_wp2_with fail
    go_loopw [5] (fun v wr => ∃ k : Nat, k ≤ n ∧ v = .int .i64 (k : Int) ∧ Hid (L.take k = M.take k) ∧ Hid (Fr (fun _ => False) w wr)) (fun v _ => n - (intOf v).toNat)
    case atStart => exact ⟨0, Nat.zero_le _, rfl, (by simp : L.take 0 = M.take 0), Fr.refl _ _⟩
    case round =>
      obtain ⟨k, hk, rfl, HE, HF⟩ := hrel
      rename World => wr
      by_cases hlt : k < n
      · obtain ⟨ad, x, rfl, hx, hc1⟩ := rd_tx (HL.out.fr HF.out (fun _ _ => id)) hlt
        obtain ⟨ad', y, rfl, hy, hc2⟩ := rd_tx (HM.out.fr HF.out (fun _ _ => id)) hlt
        have t0 := beq_txt x y
        by_cases e : x = y
        · rw [decide_eq_true e] at t0
          have HN2 : Hid (L.take (k + 1) = M.take (k + 1)) := Lib.hid (by rw [List.take_add_one, List.take_add_one, HE.out, hx, hy, e])
          clear hx hy e
          go_wp2_with fail
          go_quiet (fail)
          have HF2 := Lib.hid (HF.out.drewN nq)
          go_wp2_with fail
          go_roundw
          case rel => exact ⟨k + 1, by omega, by go_num, HN2, HF2⟩
          case measure => simp [intOf] <;> omega
        · rw [decide_eq_false e] at t0
          have HX2 : Hid (r = false) := Lib.hid (by
            rw [← HR.out]
            refine decide_eq_false (fun h => e ?_)
            rw [h, hy] at hx
            injection hx with hx
            exact hx.symm)
          clear hx hy e
          go_wp2_with fail
          go_quiet (fail)
          have HF2 := Lib.hid (HF.out.drewN nq)
          go_wp2_with fail
          go_ret
          rw [HX2.out]
          exact ⟨rfl, HF2.out⟩
      · obtain rfl : k = n := by omega
        have HX2 : Hid (r = true) := Lib.hid (by
          rw [← HR.out]
          have h := HE.out
          rw [List.take_of_length_le (by have := HLN.out; omega), List.take_of_length_le (by have := HMN.out; omega)] at h
          exact decide_eq_true h)
        go_wp2_with fail
        go_ret
        rw [HX2.out]
        exact ⟨rfl, HF.out⟩
  · have t0 : ((n : Int) != (n' : Int)) = true := by simp; omega
    have HX2 : Hid (r = false) := Lib.hid (by
      rw [← HR.out]
      refine decide_eq_false (fun h => ?_)
      have h1 := HLN.out
      rw [h, HMN.out] at h1
      omega)
    clear hnn
    go_enter Try.func18, Try.ntmps18
    go_wp2_with fail
    go_ret
    rw [HX2.out]
    exact ⟨rfl, Fr.refl _ _⟩
set_option maxRecDepth 100000 in
set_option maxHeartbeats 800000 in
/-- the table of who speaks of nobody else -/
theorem alone_any (a : Tx) (w : World) (hl : a.length ≤ 1000000) :
    Calls Try.prog 53 #[.string (txt a)] w fun e w' => ∃ A c, e = .returned (.slice A 1 c) ∧ OwT w' w.heap.size A c [a] ∧ Fr (fun _ => False) w w' := by
  have H := Lib.hid (fun w => clone_any a w hl)
  go_enter Try.func53, Try.ntmps53
  go_wp2_with fail
  refine (H.out _).mono ?_
  rintro e w1 ⟨rfl, hf⟩
  obtain ⟨w2, hw2⟩ : ∃ w2, w1.alloc (.cells #[.string (txt a)] 9) = w2 := ⟨_, rfl⟩
  have HO : Hid (OwT w2 w1.heap.size (some ⟨w1.heap.size, 0, none⟩) 1 [a]) := Lib.hid (by rw [← hw2]; exact OwT.one w1 a)
  have HF : Hid (Fr (fun _ => False) w w2) := Lib.hid (by rw [← hw2]; exact hf.alloc _)
  have HS : Hid (w.heap.size ≤ w1.heap.size) := Lib.hid hf.size
  clear hf
  go_wp2_with fail
  go_ret
  exact ⟨_, _, rfl, HO.out.base HS.out, HF.out⟩
theorem less_tx (x y : Tx) : lessN ⟨1, x⟩ ⟨1, y⟩ = Op.bytesLess x y := by
  unfold lessN
  simp
set_option maxRecDepth 100000 in
set_option maxHeartbeats 800000 in
/-- the reference's less -/
theorem racLess_any (x y : Tx) (w : World) (hx : x.length ≤ 1000000000) (hy : y.length ≤ 1000000000) :
    Calls Try.prog 46 #[.string (txt x), .string (txt y)] w fun e w' => e = .returned (.bool (Op.bytesLess x y)) ∧ Fr (fun _ => False) w w' := by
  have h := rless_any ⟨1, x⟩ ⟨1, y⟩ w hx hy
  rw [less_tx] at h
  unfold nmc at h
  obtain ⟨r, hr⟩ : ∃ r, Op.bytesLess x y = r := ⟨_, rfl⟩
  rw [hr] at h ⊢
  have H := Lib.hid h
  clear h hr
  go_enter Try.func46, Try.ntmps46
  go_wp2_with fail
  refine H.out.mono ?_
  rintro e w' ⟨rfl, hf⟩
  have HF := Lib.hid hf
  clear hf
  go_wp2_with fail
  go_ret
  exact ⟨rfl, HF.out⟩
end Go.Proofs.Ytbnkahjmeobblaa
namespace Go.Proofs.Ytbnkahjmeobblaa
open Go.RowKit Mem Go.Lib

/-- what is cut out of a slice -/
def cutAt (A : Option Addr) (c f : Nat) : Option Addr := if c = f then A else A.map (·.add f)
theorem cutAt_zero (A : Option Addr) (c : Nat) : cutAt A c 0 = A := by
  unfold cutAt
  split
  · rfl
  · cases A with
    | none => rfl
    | some ad => obtain ⟨b, o, s⟩ := ad; cases s <;> simp [Addr.add]
theorem rd_cut {w : World} {A : Option Addr} {n c : Nat} {xs : List Value} (h : Rd w A n xs) {f y : Nat} (hf : f ≤ y) (hy : y ≤ n) (hn : n ≤ c) : Rd w (cutAt A c f) (y - f) ((xs.take y).drop f) := h.cut hf hy hn
theorem rd_to {w : World} {A : Option Addr} {n : Nat} {xs : List Value} (h : Rd w A n xs) {y : Nat} (hy : y ≤ n) : Rd w A y (xs.take y) := by
  have h2 := h.cut (k := 0) (m := y) (cap := n + 1) (by omega) hy (by omega)
  rw [show (if n + 1 = 0 then A else A.map (·.add 0)) = A from cutAt_zero A (n + 1)] at h2
  exact h2
theorem rd_from {w : World} {A : Option Addr} {n c : Nat} {xs : List Value} (h : Rd w A n xs) {f : Nat} (hf : f ≤ n) (hn : n ≤ c) : Rd w (cutAt A c f) (n - f) (xs.drop f) := by
  have h2 := rd_cut h hf (Nat.le_refl n) hn
  rwa [List.take_of_length_le (by rw [h.1]; exact Nat.le_refl _)] at h2
theorem cutAt_blk {A : Option Addr} {c f : Nat} {ad : Addr} (h : cutAt A c f = some ad) : ∃ a, A = some a ∧ a.block = ad.block := by
  unfold cutAt at h
  split at h
  · exact ⟨ad, h, rfl⟩
  · cases A with
    | none => cases h
    | some a =>
      injection h with h
      exact ⟨a, rfl, by rw [← h, add_block]⟩
theorem run_cutB (A : Option Addr) (n c f y : Nat) (hf : f ≤ y) (hy : y ≤ n) (hn : n ≤ c) (fi yi : Int) (ef : fi = (f : Int)) (ey : yi = (y : Int)) (w' : World) :
    (Instr.sliceAt 29 (.slice A n c) (some (.int .i64 fi)) (some (.int .i64 yi)) none).run Try.prog w' = .ok (.slice (cutAt A c f) (y - f) (c - f)) w' := by
  subst ef ey
  unfold cutAt
  cases A with
  | none =>
    go_simp
    intro h
    omega
  | some ad =>
    go_simp
    intro h
    omega
theorem run_toB (A : Option Addr) (n c y : Nat) (hy : y ≤ n) (hn : n ≤ c) (yi : Int) (ey : yi = (y : Int)) (w' : World) :
    (Instr.sliceAt 29 (.slice A n c) none (some (.int .i64 yi)) none).run Try.prog w' = .ok (.slice A y c) w' := by
  subst ey
  have h0 := cutAt_zero A c
  unfold cutAt at h0
  cases A with
  | none =>
    go_simp
    intro h
    omega
  | some ad =>
    simp only [Option.map_some] at h0
    go_simp
    try (rw [h0])
    try (intro h; omega)
    try (refine ⟨fun h => ?_, fun h => ?_⟩ <;> omega)
theorem run_fromB (A : Option Addr) (n c f : Nat) (hf : f ≤ n) (fi : Int) (ef : fi = (f : Int)) (w' : World) :
    (Instr.sliceAt 29 (.slice A n c) (some (.int .i64 fi)) none none).run Try.prog w' = .ok (.slice (cutAt A c f) (n - f) (c - f)) w' := by
  subst ef
  unfold cutAt
  cases A with
  | none =>
    go_simp
    try (intro h; omega)
  | some ad =>
    go_simp
    try (intro h; omega)
end Go.Proofs.Ytbnkahjmeobblaa
