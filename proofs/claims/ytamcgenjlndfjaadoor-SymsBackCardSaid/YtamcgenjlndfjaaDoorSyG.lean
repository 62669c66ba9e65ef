/-
  The law SymsBack, out of the program's contracts.
-/
import Derived.Test.YtamcgenjlndfjaaDoorSyF
namespace Go.Proofs.YtamcgenjlndfjaaDoor
open Go.RowKit SyM LzM Mem Go.Lib
attribute [local go_sem ↓] Go.wp_at_zero Go.wp_at_succ
set_option linter.unusedVariables false

theorem lenOf_back (n : Int) : lenOfV (((257 + lenS n : Nat) : Int)) = (least lens (lenS n), wid lens (lenS n), true) := by
  have := lenS_lt n
  unfold lenOfV
  rw [if_pos (by omega), show ((((257 + lenS n : Nat) : Int)) - 257).toNat = lenS n by omega]
theorem distOf_back (n : Int) : distOfV ((distS n : Nat) : Int) = (least dists (distS n), wid dists (distS n), true) := by
  have := distS_lt n
  unfold distOfV
  rw [if_pos (by omega), Int.toNat_natCast]

set_option maxRecDepth 100000 in
set_option maxHeartbeats 3200000 in
theorem back_law {Gl : World → Prop} (K : SymsC Gl) (a b : Nat) (ha : a < 65536) (hb : b < 65536) (w : World) (hG : Gl w) :
    Calls Tryd.prog 5 #[.int .u16 (a : Int), .int .u16 (b : Int)] w fun e w' => e = .returned (.bool true) ∧ Fr (fun _ => False) w w' := by
  obtain ⟨ra, hra⟩ : ∃ r, r = a % 256 := ⟨_, rfl⟩
  obtain ⟨rb, hrb⟩ : ∃ r, r = b % 32768 := ⟨_, rfl⟩
  have hrem1 : (a : Int).tmod 256 = (ra : Int) := by rw [Int.tmod_eq_emod_of_nonneg (by omega)]; omega
  have hrem2 : (b : Int).tmod 32768 = (rb : Int) := by rw [Int.tmod_eq_emod_of_nonneg (by omega)]; omega
  have hra2 : ra < 256 := by omega
  have hrb2 : rb < 32768 := by omega
  obtain ⟨x, hx⟩ : ∃ x, x = 3 + ra := ⟨_, rfl⟩
  obtain ⟨y, hy⟩ : ∃ y, y = 1 + rb := ⟨_, rfl⟩
  have hxi : 3 + (ra : Int) = (x : Int) := by omega
  have hyi : 1 + (rb : Int) = (y : Int) := by omega
  have hx2 : x ≤ 258 := by omega
  have hy2 : y ≤ 32768 := by omega
  obtain ⟨h1, h1'⟩ := lenX_is x
  obtain ⟨h2, h2'⟩ := distX_is y
  rw [clampI_id _ _ _ (by omega) (by omega)] at h1 h2
  have hl := lenS_lt x
  have hd := distS_lt y
  have hLX : ∀ w, Gl w → Calls Tryd.prog 13 #[.int .i64 (x : Int)] w fun e w' => e = .returned (symv (257 + lenS x) (wid lens (lenS x)) (lenX x)) ∧ Fr (fun _ => False) w w' := fun w h => K.length x w h ⟨by omega, by omega⟩
  have hDX : ∀ w, Gl w → Calls Tryd.prog 14 #[.int .i64 (y : Int)] w fun e w' => e = .returned (symv (distS y) (wid dists (distS y)) (distX y)) ∧ Fr (fun _ => False) w w' := fun w h => K.distance y w h ⟨by omega, by omega⟩
  have hLO : ∀ w, Gl w → Calls Tryd.prog 16 #[.int .i64 ((257 + lenS x : Nat) : Int)] w fun e w' => e = .returned (trip (least lens (lenS x), wid lens (lenS x), true)) ∧ Fr (fun _ => False) w w' := fun w h => by
    rw [← lenOf_back]
    exact K.lengthOf _ w h ⟨by omega, by omega⟩
  have hDO : ∀ w, Gl w → Calls Tryd.prog 17 #[.int .i64 ((distS y : Nat) : Int)] w fun e w' => e = .returned (trip (least dists (distS y), wid dists (distS y), true)) ∧ Fr (fun _ => False) w w' := fun w h => by
    rw [← distOf_back]
    exact K.distanceOf _ w h ⟨by omega, by omega⟩
  have hw1 := lens_wid (lenS x)
  have hw2 := dists_wid (distS y)
  obtain ⟨lx, hlx⟩ : ∃ s, s = least lens (lenS x) := ⟨_, rfl⟩
  obtain ⟨ly, hly⟩ : ∃ s, s = least dists (distS y) := ⟨_, rfl⟩
  obtain ⟨bx, hbx⟩ : ∃ s, s = wid lens (lenS x) := ⟨_, rfl⟩
  obtain ⟨cy, hcy⟩ : ∃ s, s = wid dists (distS y) := ⟨_, rfl⟩
  obtain ⟨ex, hex⟩ : ∃ s, s = lenX x := ⟨_, rfl⟩
  obtain ⟨fy, hfy⟩ : ∃ s, s = distX y := ⟨_, rfl⟩
  obtain ⟨sx, hsx⟩ : ∃ s, s = 257 + lenS x := ⟨_, rfl⟩
  obtain ⟨ty, hty⟩ : ∃ s, s = distS y := ⟨_, rfl⟩
  rw [← hlx, ← hbx] at hLO
  rw [← hly, ← hcy] at hDO
  rw [← hsx, ← hbx, ← hex] at hLX
  rw [← hcy, ← hty, ← hfy] at hDX
  rw [← hsx] at hLO
  rw [← hty] at hDO
  rw [← hlx, ← hex] at h1
  rw [← hly, ← hfy] at h2
  rw [← hex, ← hbx] at h1'
  rw [← hfy, ← hcy] at h2'
  rw [← hbx] at hw1
  rw [← hcy] at hw2
  have hsh1 : (ex : Int) / 2 ^ bx = 0 := by
    have : ex / 2 ^ bx = 0 := Nat.div_eq_of_lt h1'
    have e : (ex : Int) / 2 ^ bx = ((ex / 2 ^ bx : Nat) : Int) := by rw [Int.natCast_ediv, Int.natCast_pow]; rfl
    rw [e, this]; rfl
  have hsh2 : (fy : Int) / 2 ^ cy = 0 := by
    have : fy / 2 ^ cy = 0 := Nat.div_eq_of_lt h2'
    have e : (fy : Int) / 2 ^ cy = ((fy / 2 ^ cy : Nat) : Int) := by rw [Int.natCast_ediv, Int.natCast_pow]; rfl
    rw [e, this]; rfl
  have hex2 : ex ≤ 258 := by omega
  have hfy2 : fy ≤ 32768 := by omega
  have hlx2 : lx ≤ 258 := by omega
  have hly2 : ly ≤ 32768 := by omega
  unfold symv at hLX hDX
  unfold trip at hLO hDO
  simp only at hLO hDO
  have HLX := Lib.hid hLX
  have HDX := Lib.hid hDX
  have HLO := Lib.hid hLO
  have HDO := Lib.hid hDO
  have HG := Lib.hid hG
  clear hLX hDX hLO hDO hG hra hrb hx hy h1' h2' hl hd hlx hly hbx hcy hex hfy hsx hty
  go_enter Tryd.func5, Tryd.ntmps5
  go_wp2_with fail
  refine (awake7_any K w HG.out).mono ?_
  rintro e w2 ⟨rfl, hf2⟩
  have HF2 := Lib.hid hf2
  have HG2 := Lib.hid (K.fr HG.out hf2)
  clear hf2
  go_wp2_with fail
  refine (HLX.out w2 HG2.out).mono ?_
  rintro e w3 ⟨rfl, hf3⟩
  have HF3 := Lib.hid (HF2.out.trans hf3 (fun _ _ h => h))
  have HG3 := Lib.hid (K.fr HG2.out hf3)
  clear hf3
  go_wp2_with fail
  refine (HDX.out w3 HG3.out).mono ?_
  rintro e w4 ⟨rfl, hf4⟩
  have HF4 := Lib.hid (HF3.out.trans hf4 (fun _ _ h => h))
  have HG4 := Lib.hid (K.fr HG3.out hf4)
  clear hf4
  go_upto_region 5 with fail
  obtain ⟨w5, hw5, g1, g2, hf5⟩ := two_new w4 #[.int .i64 (sx : Int), .int .i64 (bx : Int), .int .u64 (ex : Int)] #[.int .i64 (ty : Int), .int .i64 (cy : Int), .int .u64 (fy : Int)] 29
  rw [hw5]
  obtain ⟨p, hp⟩ : ∃ p, p = w4.heap.size := ⟨_, rfl⟩
  rw [← hp] at g1 g2 ⊢
  obtain ⟨p2, hp2⟩ : ∃ p2, p2 = p + 1 := ⟨_, rfl⟩
  rw [← hp2] at g2 ⊢
  have HF5 := Lib.hid (HF4.out.trans hf5 (fun _ _ h => h))
  have HG5 := Lib.hid (K.fr HG4.out hf5)
  have HB1 := Lib.hid g1
  have HB2 := Lib.hid g2
  have a0 : w5.cell? ⟨p, 0, none⟩ = some (.int .i64 (sx : Int)) := by rw [cell_of g1 0]; rfl
  clear hw5 hp hf5 g1 g2 hp2
  go_wp2_with fail
  refine (HLO.out w5 HG5.out).mono ?_
  rintro e w6 ⟨rfl, hf6⟩
  have HF6 := Lib.hid (HF5.out.trans hf6 (fun _ _ h => h))
  have HG6 := Lib.hid (K.fr HG5.out hf6)
  have HB16 := Lib.hid (hf6.blk HB1.out (fun h => h))
  have HB26 := Lib.hid (hf6.blk HB2.out (fun h => h))
  have c0 : w6.cell? ⟨p2, 0, none⟩ = some (.int .i64 (ty : Int)) := by rw [cell_of HB26.out 0]; rfl
  clear hf6 a0
  go_wp2_with fail
  refine (HDO.out w6 HG6.out).mono ?_
  rintro e w7 ⟨rfl, hf7⟩
  have HF7 := Lib.hid (HF6.out.trans hf7 (fun _ _ h => h))
  have hb1 := hf7.blk HB16.out (fun h => h)
  have hb2 := hf7.blk HB26.out (fun h => h)
  have a1 : w7.cell? ⟨p, 1, none⟩ = some (.int .i64 (bx : Int)) := by rw [cell_of hb1 1]; rfl
  have a2 : w7.cell? ⟨p, 2, none⟩ = some (.int .u64 (ex : Int)) := by rw [cell_of hb1 2]; rfl
  have c1 : w7.cell? ⟨p2, 1, none⟩ = some (.int .i64 (cy : Int)) := by rw [cell_of hb2 1]; rfl
  have c2 : w7.cell? ⟨p2, 2, none⟩ = some (.int .u64 (fy : Int)) := by rw [cell_of hb2 2]; rfl
  clear hf7 hb1 hb2 c0
  go_wp2_with fail
  go_ret
  exact ⟨rfl, HF7.out⟩
end Go.Proofs.YtamcgenjlndfjaaDoor
