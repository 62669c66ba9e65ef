/-
  Layer 9's program: what a stored block tells.
  Slices of slices: what a slice expression answers, in letters (written by gen_cut.py).
-/
import Derived.Test.YtahfmcdhcbfkaaaDoorZm11
import Derived.Test.YtahfmcdhcbfkaaaDoorZm21
import Derived.Laws.Bits64
import Derived.Test.YtahfmcdhcbfkaaaDoorZm04
import Derived.WalkKit
namespace Go.Proofs.YtahfmcdhcbfkaaaDoor
open Go.RowKit BitsM Mem Go.Lib
attribute [local go_sem ↓] Go.wp_at_zero Go.wp_at_succ
set_option linter.unusedVariables false
set_option maxRecDepth 100000

/-- all bits turned -/
theorem turned (n : Nat) (hn : n < 18446744073709551616) : 18446744073709551615 ^^^ n = 18446744073709551616 - (n + 1) := by
  apply Nat.eq_of_testBit_eq
  intro i
  rw [Nat.testBit_xor, show 18446744073709551616 = 2 ^ 64 from rfl, Nat.testBit_two_pow_sub_succ hn, show 18446744073709551615 = 2 ^ 64 - 1 from rfl, Nat.testBit_two_pow_sub_one]
  by_cases h : i < 64
  · simp [h]
  · have h2 : (2 : Nat) ^ 64 ≤ 2 ^ i := Nat.pow_le_pow_right (by decide) (by omega)
    have hz : n.testBit i = false := Nat.testBit_lt_two_pow (Nat.lt_of_lt_of_le (show n < 2 ^ 64 from hn) h2)
    simp [h, hz]
theorem turned_bits (n : Nat) (hn : n < 18446744073709551616) : bits .xor .u64 IntKind.u64.max (n : Int) = ((18446744073709551615 - n : Nat) : Int) := by
  rw [show IntKind.u64.max = ((18446744073709551615 : Nat) : Int) from rfl, bits_xor_u64_nat _ _ (by omega) hn, turned n hn]
  congr 1
  omega
set_option maxHeartbeats 1600000 in
theorem store9_any (g c : Nat) (A AP : Option Addr) (n cp : Nat) (bs : List Bool) (P : List UInt8) (w : World) (hw : Wr w g A c bs) (hb : bs.length ≤ 1000000000)
    (hP : Rd w AP n (P.map bytec)) (hn : n ≤ 65535) (hPb : 0 < n → ∀ ad, AP = some ad → ¬ Ft g A ad.block ∧ ad.block < w.heap.size) :
    Calls Tryd.prog 23 #[.agg #[.pointer (some ⟨g, 0, none⟩)], .slice AP n cp] w fun e w' => e = .returned (.tuple #[]) ∧ ∃ A' c', Wr w' g A' c' (full bs ++ low n 16 ++ low (18446744073709551615 - n) 16 ++ bitsOf P) ∧ Fr (Ft g A) w w' ∧ Nx w A A' := by
  have hPl : P.length = n := by simpa using hP.1
  have HB := Lib.hid hb
  obtain ⟨w1, hw1⟩ : ∃ w1, w1 = w.alloc (.cells #[Value.pointer (some ⟨g, 0, none⟩)] 36) := ⟨_, rfl⟩
  obtain ⟨p, hp⟩ : ∃ p, p = w.heap.size := ⟨_, rfl⟩
  have hr1 : Row w1 p 36 [Value.pointer (some ⟨g, 0, none⟩)] := by rw [hw1, hp]; exact Row.new w _ _
  have hf1 : Fr (fun _ => False) w w1 := by rw [hw1]; exact (Fr.refl _ w).alloc _
  have HW1 := Lib.hid (hw.frA hf1 (fun h => h) (fun _ _ h => h))
  have HF1 := Lib.hid hf1
  have HR1 := Lib.hid hr1
  have HPN := Lib.hid (hw.new (k := p) (by omega))
  have HP1 := Lib.hid (hP.fr hf1 (fun _ _ h => h))
  have HPB : Hid (0 < n → ∀ ad, AP = some ad → ¬ Ft g A ad.block ∧ ad.block < w1.heap.size) := Lib.hid (fun h0 ad h => ⟨(hPb h0 ad h).1, Nat.lt_of_lt_of_le (hPb h0 ad h).2 hf1.size⟩)
  have HLT : Hid (p < w1.heap.size) := Lib.hid hr1.lt
  have c0 : w1.cell? ⟨p, 0, none⟩ = some (.pointer (some ⟨g, 0, none⟩)) := hr1.cell rfl
  have qv : ∀ w : World, (convert 3 44 (.int .i64 (n : Int))).run Tryd.prog w = .ok (.int .u64 (n : Int)) w := fun w => conv_u64 n (by omega) w
  have HAL : Hid (Calls Tryd.prog 43 #[.pointer (some ⟨g, 0, none⟩)] w1 fun e w' => e = .returned (.tuple #[]) ∧ Wr w' g A c (full bs) ∧ Fr (Ft g A) w1 w') := Lib.hid (walign_any g c A bs w1 HW1.out (by have := HB.out; omega))
  clear hw hb hr1 hf1 hP hPb
  go_enter Tryd.func23, Tryd.ntmps23
  go_upto_region 1 with fail
  rw [← hw1, ← hp]
  clear hw1 hp
  go_wp2_with fail
  refine HAL.out.mono ?_
  rintro e w3 ⟨rfl, hw3, hf3⟩
  have hr3 := Row.fr HR1.out hf3 HPN.out
  have d1 : w3.cell? ⟨p, 0, none⟩ = some (.pointer (some ⟨g, 0, none⟩)) := hr3.cell rfl
  have HR3 := Lib.hid hr3
  have HW3 := Lib.hid hw3
  have HF3 := Lib.hid hf3
  have hfl : (full bs).length ≤ bs.length + 8 := by rw [full_length]; have := lack_lt bs.length; omega
  have HFL : Hid ((full bs).length ≤ 1000000011) := Lib.hid (by have := HB.out; omega)
  clear hr3 hw3 hf3 c0 HAL hfl
  go_wp2_with fail
  obtain ⟨m, hm⟩ : ∃ m, m = 18446744073709551615 - n := ⟨_, rfl⟩
  have tb := turned_bits n (by omega)
  rw [← hm] at tb
  rw [tb]
  obtain ⟨fb, hfb⟩ : ∃ fb, fb = full bs := ⟨_, rfl⟩
  have HFB := Lib.hid hfb
  have HM := Lib.hid hm
  have hwf := HW3.out
  rw [← hfb] at hwf
  have hfbl := HFL.out
  rw [← hfb] at hfbl
  have HPU : Hid (∀ w4, w4 = w3.alloc (.cells #[.int .u64 (n : Int), .int .u64 (m : Int)] 44) → Calls Tryd.prog 42 #[.pointer (some ⟨g, 0, none⟩), .int .i64 16, .slice (some ⟨w3.heap.size, 0, none⟩) 2 2] w4 fun e w' => e = .returned (.tuple #[]) ∧ ∃ A' c', Wr w' g A' c' (fb ++ low n 16 ++ low m 16) ∧ Fr (Ft g A) w4 w' ∧ Nx w4 A A') := Lib.hid (by
    intro w4 hw4
    have hrd : Rd w4 (some ⟨w3.heap.size, 0, none⟩) 2 ([n, m].map u64c) := by
      rw [hw4]
      exact (Row.new w3 44 [.int .u64 (n : Int), .int .u64 (m : Int)]).rd 0 2 (Nat.le_refl _)
    have h := put_any g c A (some ⟨w3.heap.size, 0, none⟩) 2 2 16 fb [n, m] w4 (by rw [hw4]; exact hwf.frA ((Fr.refl (fun _ => False) w3).alloc _) (fun h => h) (fun _ _ h => h)) (by omega) hrd (fun y hy => by
      simp at hy
      omega) (by omega) (fun ad h => by injection h with h; subst h; exact hwf.new (Nat.le_refl _))
    rw [show min (Int.toNat 16) 64 = 16 from rfl] at h
    simp only [List.flatMap_cons, List.flatMap_nil, List.append_nil] at h
    rw [← List.append_assoc] at h
    exact h)
  clear hfb hm hwf
  refine (HPU.out _ rfl).mono ?_
  rintro e w4 ⟨rfl, A4, c4, hw4, hf4, hn4⟩
  obtain ⟨b4, hb4⟩ : ∃ b4, b4 = fb ++ low n 16 ++ low m 16 := ⟨_, rfl⟩
  have hb4l : b4.length = fb.length + 32 := by rw [hb4]; simp only [List.length_append, low_length]
  rw [← hb4] at hw4
  have hf34 : Fr (Ft g A) w3 w4 := ((Fr.refl (fun _ => False) w3).alloc _).mono (fun _ _ h => h.elim) |>.trans hf4 (fun _ _ h => h)
  have hn34 : Nx w3 A A4 := hn4.back (by simp)
  have hr4 := Row.fr HR3.out hf34 HPN.out
  have d4 : w4.cell? ⟨p, 0, none⟩ = some (.pointer (some ⟨g, 0, none⟩)) := hr4.cell rfl
  have hf14 : Fr (Ft g A) w1 w4 := HF3.out.trans hf34 (fun _ _ h => h)
  have HF4 := Lib.hid hf14
  have HN4 : Hid (Nx w1 A A4) := Lib.hid (hn34.back HF3.out.size)
  have HB4 := Lib.hid (And.intro hb4 hb4l)
  have hP4 := HP1.out.frp hf14 (fun h0 ad h => (HPB.out h0 ad h).1)
  have hfull : full b4 = b4 := by
    apply full_of_aligned
    have h1 := full_mod bs
    have h2 := congrArg List.length HFB.out
    omega
  have HRA : Hid (Calls Tryd.prog 44 #[.pointer (some ⟨g, 0, none⟩), .slice AP n cp] w4 fun e w' => e = .returned (.tuple #[]) ∧ ∃ A' c', Wr w' g A' c' (b4 ++ bitsOf P) ∧ Fr (Ft g A4) w4 w' ∧ Nx w4 A4 A') := Lib.hid (by
    have h := wraw0_any g c4 A4 AP n cp b4 P w4 hw4 (by omega) hP4 (fun h0 ad h => HN4.out.old (HPB.out h0 ad h).2 (HPB.out h0 ad h).1)
    rw [hfull] at h
    exact h)
  clear hw4 hf4 hn4 hf34 hn34 hr4 hf14 hb4 hb4l hP4 d1 HPU hfull
  go_wp2_with fail
  refine HRA.out.mono ?_
  rintro e w5 ⟨rfl, A5, c5, hw5, hf5, hn5⟩
  rw [HB4.out.1, HFB.out, HM.out] at hw5
  have HW5 := Lib.hid hw5
  have HF5 := Lib.hid ((HF1.out.mono (fun _ _ h => h.elim)).trans (Fr.next HF4.out HN4.out hf5) (fun _ _ h => h))
  have HN5 := Lib.hid ((HN4.out.trans hn5 HF4.out.size).back HF1.out.size)
  clear hw5 hf5 hn5 d4 HRA
  go_wp2_with fail
  go_end0
  exact ⟨rfl, A5, c5, HW5.out, HF5.out, HN5.out⟩
end Go.Proofs.YtahfmcdhcbfkaaaDoor
namespace Go.Proofs.YtahfmcdhcbfkaaaDoor
open Go.RowKit Mem Go.Lib

/-- what is cut out of a slice -/
def cutAt (A : Option Addr) (c f : Nat) : Option Addr := if c = f then A else A.map (·.add f)
theorem cutAt_zero (A : Option Addr) (c : Nat) : cutAt A c 0 = A := by
  unfold cutAt
  split
  · rfl
  · cases A with
    | none => rfl
    | some ad => obtain ⟨b, o, s⟩ := ad; cases s <;> simp [Addr.add]
theorem rd_cut {w : World} {A : Option Addr} {n c : Nat} {xs : List Value} (h : Rd w A n xs) {f y : Nat} (hf : f ≤ y) (hy : y ≤ n) (hn : n ≤ c) : Rd w (cutAt A c f) (y - f) ((xs.take y).drop f) := h.cut hf hy hn
theorem rd_to {w : World} {A : Option Addr} {n : Nat} {xs : List Value} (h : Rd w A n xs) {y : Nat} (hy : y ≤ n) : Rd w A y (xs.take y) := by
  have h2 := h.cut (k := 0) (m := y) (cap := n + 1) (by omega) hy (by omega)
  rw [show (if n + 1 = 0 then A else A.map (·.add 0)) = A from cutAt_zero A (n + 1)] at h2
  exact h2
theorem rd_from {w : World} {A : Option Addr} {n c : Nat} {xs : List Value} (h : Rd w A n xs) {f : Nat} (hf : f ≤ n) (hn : n ≤ c) : Rd w (cutAt A c f) (n - f) (xs.drop f) := by
  have h2 := rd_cut h hf (Nat.le_refl n) hn
  rwa [List.take_of_length_le (by rw [h.1]; exact Nat.le_refl _)] at h2
theorem cutAt_blk {A : Option Addr} {c f : Nat} {ad : Addr} (h : cutAt A c f = some ad) : ∃ a, A = some a ∧ a.block = ad.block := by
  unfold cutAt at h
  split at h
  · exact ⟨ad, h, rfl⟩
  · cases A with
    | none => cases h
    | some a =>
      injection h with h
      exact ⟨a, rfl, by rw [← h, add_block]⟩
theorem run_cutB (A : Option Addr) (n c f y : Nat) (hf : f ≤ y) (hy : y ≤ n) (hn : n ≤ c) (fi yi : Int) (ef : fi = (f : Int)) (ey : yi = (y : Int)) (w' : World) :
    (Instr.sliceAt 22 (.slice A n c) (some (.int .i64 fi)) (some (.int .i64 yi)) none).run Tryd.prog w' = .ok (.slice (cutAt A c f) (y - f) (c - f)) w' := by
  subst ef ey
  unfold cutAt
  cases A with
  | none =>
    go_simp
    intro h
    omega
  | some ad =>
    go_simp
    intro h
    omega
theorem run_toB (A : Option Addr) (n c y : Nat) (hy : y ≤ n) (hn : n ≤ c) (yi : Int) (ey : yi = (y : Int)) (w' : World) :
    (Instr.sliceAt 22 (.slice A n c) none (some (.int .i64 yi)) none).run Tryd.prog w' = .ok (.slice A y c) w' := by
  subst ey
  have h0 := cutAt_zero A c
  unfold cutAt at h0
  cases A with
  | none =>
    go_simp
    intro h
    omega
  | some ad =>
    simp only [Option.map_some] at h0
    go_simp
    try (rw [h0])
    try (intro h; omega)
    try (refine ⟨fun h => ?_, fun h => ?_⟩ <;> omega)
theorem run_fromB (A : Option Addr) (n c f : Nat) (hf : f ≤ n) (fi : Int) (ef : fi = (f : Int)) (w' : World) :
    (Instr.sliceAt 22 (.slice A n c) (some (.int .i64 fi)) none none).run Tryd.prog w' = .ok (.slice (cutAt A c f) (n - f) (c - f)) w' := by
  subst ef
  unfold cutAt
  cases A with
  | none =>
    go_simp
    try (intro h; omega)
  | some ad =>
    go_simp
    try (intro h; omega)
theorem run_cutI (A : Option Addr) (n c f y : Nat) (hf : f ≤ y) (hy : y ≤ n) (hn : n ≤ c) (fi yi : Int) (ef : fi = (f : Int)) (ey : yi = (y : Int)) (w' : World) :
    (Instr.sliceAt 54 (.slice A n c) (some (.int .i64 fi)) (some (.int .i64 yi)) none).run Tryd.prog w' = .ok (.slice (cutAt A c f) (y - f) (c - f)) w' := by
  subst ef ey
  unfold cutAt
  cases A with
  | none =>
    go_simp
    intro h
    omega
  | some ad =>
    go_simp
    intro h
    omega
theorem run_toI (A : Option Addr) (n c y : Nat) (hy : y ≤ n) (hn : n ≤ c) (yi : Int) (ey : yi = (y : Int)) (w' : World) :
    (Instr.sliceAt 54 (.slice A n c) none (some (.int .i64 yi)) none).run Tryd.prog w' = .ok (.slice A y c) w' := by
  subst ey
  have h0 := cutAt_zero A c
  unfold cutAt at h0
  cases A with
  | none =>
    go_simp
    intro h
    omega
  | some ad =>
    simp only [Option.map_some] at h0
    go_simp
    try (rw [h0])
    try (intro h; omega)
    try (refine ⟨fun h => ?_, fun h => ?_⟩ <;> omega)
theorem run_fromI (A : Option Addr) (n c f : Nat) (hf : f ≤ n) (fi : Int) (ef : fi = (f : Int)) (w' : World) :
    (Instr.sliceAt 54 (.slice A n c) (some (.int .i64 fi)) none none).run Tryd.prog w' = .ok (.slice (cutAt A c f) (n - f) (c - f)) w' := by
  subst ef
  unfold cutAt
  cases A with
  | none =>
    go_simp
    try (intro h; omega)
  | some ad =>
    go_simp
    try (intro h; omega)
end Go.Proofs.YtahfmcdhcbfkaaaDoor
