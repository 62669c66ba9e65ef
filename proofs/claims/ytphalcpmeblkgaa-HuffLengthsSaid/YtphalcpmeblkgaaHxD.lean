/-
  The comparison that orders symbols by their lengths.
-/
import Derived.Test.YtphalcpmeblkgaaHxB
import Derived.Test.YtphalcpmeblkgaaPl
namespace Go.Proofs.Ytphalcpmeblkgaa
open Go.RowKit HuffM Mem Go.Lib
attribute [local go_sem ↓] Go.wp_at_zero Go.wp_at_succ


set_option maxRecDepth 100000 in
set_option maxHeartbeats 1600000 in
theorem cmp_any (bx n c x y : Nat) (A : Option Addr) (L : List Int) (w : World) (hb : w.cell? ⟨bx, 0, none⟩ = some (.slice A n c)) (hr : Rd w A n (L.map intc)) (hx : x < n) (hy : y < n) (hL : ∀ x ∈ L, inR x = true) :
    Calls Try.prog 36 #[.int .i64 (x : Int), .int .i64 (y : Int), .pointer (some ⟨bx, 0, none⟩)] w fun e w' => e = .returned (.int .i64 ((kl L x : Int) - (kl L y : Int))) ∧ ∃ q, w' = w.drewN q := by
  have hln : L.length = n := by simpa using hr.1
  have one : ∀ z, z < n → ∃ ad k : Nat → Addr, True := fun _ _ => ⟨fun _ => default, fun _ => default, trivial⟩
  clear one
  have at_ : ∀ z, z < n → ∃ ad, A = some ad ∧ w.cell? (ad.add z) = some (.int .i64 (kl L z : Int)) ∧ kl L z ≤ 15 := by
    intro z hz
    obtain ⟨ad, u, h1, h2, h3⟩ := hr.at_ hz
    have hx : L[z]? = some L[z] := List.getElem?_eq_getElem (by omega)
    rw [List.getElem?_map, hx] at h2
    have hin := hL _ (List.getElem_mem (show z < L.length by omega))
    have h0 : 0 ≤ L[z] ∧ L[z] ≤ 15 := by simpa [inR] using hin
    have hk : kl L z = L[z].toNat := by unfold kl; rw [List.getD_eq_getElem?_getD, hx]; rfl
    refine ⟨ad, h1, ?_, by omega⟩
    rw [h3, ← h2, hk, Int.toNat_of_nonneg h0.1]
    rfl
  obtain ⟨ad, rfl, c1, b1⟩ := at_ x hx
  obtain ⟨ad', e, c2, b2⟩ := at_ y hy
  injection e with e
  subst e
  obtain ⟨p, hp⟩ : ∃ p, p = kl L x := ⟨_, rfl⟩
  obtain ⟨q, hq⟩ : ∃ q, q = kl L y := ⟨_, rfl⟩
  rw [← hp] at c1 b1 ⊢
  rw [← hq] at c2 b2 ⊢
  have rw1 : IntKind.i64.wrap ((p : Int) - (q : Int)) = (p : Int) - (q : Int) := by rw [IntKind.wrap_i64]; omega
  clear at_ hln hr hL hp hq
  go_enter Try.func36, Try.ntmps36
  go_wp2_with fail
  go_still (by kernel_rfl)
  go_wp2
  go_ret
  exact ⟨rfl, 1, rfl⟩

/-- two symbols can be compared, in every world that the sort comes through -/
structure CmpK (g bx : Nat) (key : Nat → Nat) (N : Nat) (w0 : World) : Prop where
  call : ∀ w x y, Fr (fun b => b = g) w0 w → x < N → y < N → Calls Try.prog 36 #[.int .i64 (x : Int), .int .i64 (y : Int), .pointer (some ⟨bx, 0, none⟩)] w fun e w' => e = .returned (.int .i64 ((key x : Int) - (key y : Int))) ∧ ∃ q, w' = w.drewN q
  few : ∀ x, key x ≤ 1000
theorem CmpK.fr {g bx N : Nat} {key : Nat → Nat} {w0 w1 : World} (K : CmpK g bx key N w0) (hf : Fr (fun b => b = g) w0 w1) : CmpK g bx key N w1 := ⟨fun w x y h => K.call w x y (hf.trans h (fun _ _ h => h)), K.few⟩
theorem cmpK_of (g bx n c : Nat) (A : Option Addr) (L : List Int) (w : World) (hb : w.cell? ⟨bx, 0, none⟩ = some (.slice A n c)) (hr : Rd w A n (L.map intc)) (hL : ∀ x ∈ L, inR x = true) (h1 : bx ≠ g) (h2 : ∀ ad, A = some ad → ad.block ≠ g) : CmpK g bx (kl L) n w where
  call := fun w' x y hf hx hy => cmp_any bx n c x y A L w' (hf.cell hb h1) (hr.fr hf h2) hx hy hL
  few := fun x => by
    unfold kl
    rw [List.getD_eq_getElem?_getD]
    cases h : L[x]? with
    | none => decide
    | some z =>
      have h0 : 0 ≤ z ∧ z ≤ 15 := by simpa [inR] using hL z (List.mem_of_getElem? h)
      simp
      omega
end Go.Proofs.Ytphalcpmeblkgaa
