/-
  Contracts of layer 7's program: symbol, Literal, Length, Distance.
-/
import Derived.Test.YtamcgenjlndfjaaDoorSyQ
import Derived.Deep.RegionHeld3
namespace Go.Proofs.YtamcgenjlndfjaaDoor
open Go.RowKit SyM LzM Mem Go.Lib
attribute [local go_sem ↓] Go.wp_at_zero Go.wp_at_succ
set_option linter.unusedVariables false

set_option maxRecDepth 100000 in
theorem symbol_any (s n a b x : Nat) (w : World) (hx : n = a + x) (hn : n ≤ 1000000) (hs : s ≤ 1000000) (hb : b ≤ 1000000) :
    Calls Tryd.prog 26 #[.int .i64 (s : Int), .int .i64 (n : Int), .agg #[.int .i64 (a : Int), .int .i64 (b : Int)]] w fun e w' => e = .returned (.agg #[.int .i64 (s : Int), .int .i64 (b : Int), .int .u64 (x : Int)]) ∧ Fr (fun _ => False) w w' := by
  have hd : IntKind.i64.wrap ((n : Int) - (a : Int)) = (x : Int) := by rw [IntKind.wrap_i64]; omega
  have hd2 : (n : Int) - (a : Int) = (x : Int) := by omega
  have hcv : ∀ w : World, (convert 3 27 (.int .i64 (x : Int))).run Tryd.prog w = .ok (.int .u64 (x : Int)) w := by
    intro w
    go_simp
    rw [IntKind.wrap_u64]
    omega
  clear hx
  go_enter Tryd.func26, Tryd.ntmps26
  go_wp2_with fail
  exact bodyPost_ret (v := .agg #[.int .i64 (s : Int), .int .i64 (b : Int), .int .u64 (x : Int)]) (by simp [results, Tryd.results26, go_sem]) rfl ⟨rfl, ((Fr.refl _ w).alloc _).alloc _⟩

set_option maxRecDepth 100000 in
theorem literal_any (b : UInt8) (w : World) : Calls Tryd.prog 15 #[.int .u8 (b.toNat : Int)] w fun e w' => e = .returned (symv b.toNat 0 0) ∧ Fr (fun _ => False) w w' := by
  obtain ⟨u, hu⟩ : ∃ u, u = b.toNat := ⟨_, rfl⟩
  have hu2 : u < 256 := by rw [hu]; exact b.toNat_lt
  rw [← hu]
  clear hu
  have hcv : ∀ w : World, (convert 5 3 (.int .u8 (u : Int))).run Tryd.prog w = .ok (.int .i64 (u : Int)) w := by
    intro w
    go_simp
    rw [IntKind.wrap_i64]
    omega
  unfold symv
  go_enter Tryd.func15, Tryd.ntmps15
  go_wp2_with fail
  exact bodyPost_ret (v := .agg #[.int .i64 (u : Int), .int .i64 0, .int .u64 0]) (by simp [results, Tryd.results15, go_sem]) rfl ⟨rfl, (Fr.refl _ w).alloc _⟩
end Go.Proofs.YtamcgenjlndfjaaDoor
