/-
  The law UtfLong, out of the program's contracts.
-/
import Derived.Test.YtlkjhjoligljbaaUtfK
import Derived.Test.YtlkjhjoligljbaaUtfN
namespace Go.Proofs.Ytlkjhjoligljbaa
open Go.RowKit UtfM Mem Go.Lib

set_option maxRecDepth 100000 in
set_option maxHeartbeats 3200000 in
theorem long_law (K : UtfP) (n k : Nat) (w : World) (hn : n < 65536) (hk : k < 256) :
    Calls Try.prog 6 #[.int .u16 (n : Int), .int .u8 (k : Int)] w fun e w' => e = .returned (.bool true) ∧ Fr (fun _ => False) w w' := by
  have HA := Lib.hid (awake_any K)
  obtain ⟨r, hr⟩ : ∃ r, r = k % 3 := ⟨_, rfl⟩
  have hr2 : ((k : Int) % 3) = (r : Int) := by omega
  rcases (show r = 0 ∨ r = 1 ∨ r = 2 by omega) with h | h | h
  · have t0 : ((r : Int) == 0) = true := by simp; omega
    obtain ⟨y, hy⟩ : ∃ y, y = n % 128 := ⟨_, rfl⟩
    have hy2 : ((n : Int) % 128) = (y : Int) := by omega
    have hy3 : y < 128 := by omega
    have hc := fun w => str_cells (w := w) rfl [UInt8.ofNat (192 + y / 64), UInt8.ofNat (128 + y % 64)] #[.int .u8 (192 + (y : Int) / 64), .int .u8 (128 + (y : Int) % 64)] (by simp only [List.map_cons, List.map_nil]; rw [bytec_ofNat (by omega), bytec_ofNat (by omega)]; simp) 2 rfl
    have hx := fun w => K.next [UInt8.ofNat (192 + y / 64), UInt8.ofNat (128 + y % 64)] w (by simp)
    rw [long2 y hy3] at hx
    obtain ⟨T, hT⟩ : ∃ T, T = txt [UInt8.ofNat (192 + y / 64), UInt8.ofNat (128 + y % 64)] := ⟨_, rfl⟩
    rw [← hT] at hx hc
    have HX := Lib.hid hx
    clear hx hT h hr hy
    go_enter Try.func6, Try.ntmps6
    go_wp2_with fail
    refine (HA.out _).mono ?_
    rintro e w1 ⟨rfl, hf1⟩
    go_wp2_with fail
    refine (HX.out _).mono ?_
    rintro e w2 ⟨rfl, hf2⟩
    go_wp2
    go_ret
    exact ⟨rfl, (hf1.alloc _).trans hf2 (fun _ _ h => h)⟩
  · have t0 : ((r : Int) == 0) = false := by simp; omega
    have t1 : ((r : Int) == 1) = true := by simp; omega
    obtain ⟨y, hy⟩ : ∃ y, y = n % 2048 := ⟨_, rfl⟩
    have hy2 : ((n : Int) % 2048) = (y : Int) := by omega
    have hy3 : y < 2048 := by omega
    have hc := fun w => str_cells (w := w) rfl [224, UInt8.ofNat (128 + y / 64), UInt8.ofNat (128 + y % 64)] #[.int .u8 224, .int .u8 (128 + (y : Int) / 64), .int .u8 (128 + (y : Int) % 64)] (by simp only [List.map_cons, List.map_nil]; rw [bytec_ofNat (by omega), bytec_ofNat (by omega)]; simp [bytec]) 3 rfl
    have hx := fun w => K.next [224, UInt8.ofNat (128 + y / 64), UInt8.ofNat (128 + y % 64)] w (by simp)
    rw [long3 y hy3] at hx
    obtain ⟨T, hT⟩ : ∃ T, T = txt [224, UInt8.ofNat (128 + y / 64), UInt8.ofNat (128 + y % 64)] := ⟨_, rfl⟩
    rw [← hT] at hx hc
    have HX := Lib.hid hx
    clear hx hT h hr hy
    go_enter Try.func6, Try.ntmps6
    go_wp2_with fail
    refine (HA.out _).mono ?_
    rintro e w1 ⟨rfl, hf1⟩
    go_wp2_with fail
    refine (HX.out _).mono ?_
    rintro e w2 ⟨rfl, hf2⟩
    go_wp2
    go_ret
    exact ⟨rfl, (hf1.alloc _).trans hf2 (fun _ _ h => h)⟩
  · have t0 : ((r : Int) == 0) = false := by simp; omega
    have t1 : ((r : Int) == 1) = false := by simp; omega
    have hc := fun w => str_cells (w := w) rfl [240, UInt8.ofNat (128 + n / 4096), UInt8.ofNat (128 + n / 64 % 64), UInt8.ofNat (128 + n % 64)] #[.int .u8 240, .int .u8 (128 + (n : Int) / 4096), .int .u8 (128 + (n : Int) / 64 % 64), .int .u8 (128 + (n : Int) % 64)] (by simp only [List.map_cons, List.map_nil]; rw [bytec_ofNat (by omega), bytec_ofNat (by omega), bytec_ofNat (by omega)]; simp [bytec]) 4 rfl
    have hx := fun w => K.next [240, UInt8.ofNat (128 + n / 4096), UInt8.ofNat (128 + n / 64 % 64), UInt8.ofNat (128 + n % 64)] w (by simp)
    rw [long4 n hn] at hx
    obtain ⟨T, hT⟩ : ∃ T, T = txt [240, UInt8.ofNat (128 + n / 4096), UInt8.ofNat (128 + n / 64 % 64), UInt8.ofNat (128 + n % 64)] := ⟨_, rfl⟩
    rw [← hT] at hx hc
    have HX := Lib.hid hx
    clear hx hT h hr
    go_enter Try.func6, Try.ntmps6
    go_wp2_with fail
    refine (HA.out _).mono ?_
    rintro e w1 ⟨rfl, hf1⟩
    go_wp2_with fail
    refine (HX.out _).mono ?_
    rintro e w2 ⟨rfl, hf2⟩
    go_wp2
    go_ret
    exact ⟨rfl, (hf1.alloc _).trans hf2 (fun _ _ h => h)⟩
end Go.Proofs.Ytlkjhjoligljbaa
