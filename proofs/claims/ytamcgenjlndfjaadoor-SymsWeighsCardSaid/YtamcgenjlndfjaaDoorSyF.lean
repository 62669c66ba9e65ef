/-
  The law SymsRise, out of the program's contracts (written by gen_rise.py).
-/
import Derived.Test.YtamcgenjlndfjaaDoorSyK
import Derived.Test.YtamcgenjlndfjaaDoorSyN
namespace Go.Proofs.YtamcgenjlndfjaaDoor
open Go.RowKit SyM LzM Mem Go.Lib
attribute [local go_sem ↓] Go.wp_at_zero Go.wp_at_succ
set_option linter.unusedVariables false

theorem two_new (w : World) (X Y : Array Value) (t : TypeId) : ∃ w', (w.alloc (.cells X t)).alloc (.cells Y t) = w' ∧ w'.heap[w.heap.size]? = some (.cells X t (0, 0)) ∧ w'.heap[w.heap.size + 1]? = some (.cells Y t (0, 0)) ∧ Fr (fun _ => False) w w' := by
  refine ⟨_, rfl, ((Fr.refl (fun _ => False) _).alloc _).blk (heap_alloc_new w _) (fun h => h), ?_, ((Fr.refl _ _).alloc _).alloc _⟩
  have h := heap_alloc_new (w.alloc (.cells X t)) (.cells Y t)
  rwa [show (w.alloc (.cells X t)).heap.size = w.heap.size + 1 by simp] at h

set_option maxRecDepth 100000 in
set_option maxHeartbeats 3200000 in
theorem rise_core {Gl : World → Prop} (K : SymsC Gl) (a b x y : Nat) (ha : a < 65536) (hb : b < 65536) (hx : x = min a b) (hy : y = max a b) (w : World) (hG : Gl w) :
    Calls Tryd.prog 8 #[.int .u16 (a : Int), .int .u16 (b : Int)] w fun e w' => e = .returned (.bool true) ∧ Fr (fun _ => False) w w' := by
  have hxy : (x : Int) ≤ (y : Int) := by omega
  have hx16 : x < 65536 := by omega
  have hy16 : y < 65536 := by omega
  have hm1 := lenS_mono x y hxy
  have hm2 := distS_mono x y hxy
  have hl1 := lenS_lt x
  have hl2 := lenS_lt y
  have hd1 := distS_lt x
  have hd2 := distS_lt y
  have he1 := lenX_le x
  have he2 := lenX_le y
  have he3 := distX_le x
  have he4 := distX_le y
  have hLX : ∀ w, Gl w → Calls Tryd.prog 13 #[.int .i64 (x : Int)] w fun e w' => e = .returned (symv (257 + lenS x) (wid lens (lenS x)) (lenX x)) ∧ Fr (fun _ => False) w w' := fun w h => K.length x w h ⟨by omega, by omega⟩
  have hLY : ∀ w, Gl w → Calls Tryd.prog 13 #[.int .i64 (y : Int)] w fun e w' => e = .returned (symv (257 + lenS y) (wid lens (lenS y)) (lenX y)) ∧ Fr (fun _ => False) w w' := fun w h => K.length y w h ⟨by omega, by omega⟩
  have hDX : ∀ w, Gl w → Calls Tryd.prog 14 #[.int .i64 (x : Int)] w fun e w' => e = .returned (symv (distS x) (wid dists (distS x)) (distX x)) ∧ Fr (fun _ => False) w w' := fun w h => K.distance x w h ⟨by omega, by omega⟩
  have hDY : ∀ w, Gl w → Calls Tryd.prog 14 #[.int .i64 (y : Int)] w fun e w' => e = .returned (symv (distS y) (wid dists (distS y)) (distX y)) ∧ Fr (fun _ => False) w w' := fun w h => K.distance y w h ⟨by omega, by omega⟩
  obtain ⟨sx, hsx⟩ : ∃ s, s = 257 + lenS x := ⟨_, rfl⟩
  obtain ⟨sy, hsy⟩ : ∃ s, s = 257 + lenS y := ⟨_, rfl⟩
  obtain ⟨bx, hbx⟩ : ∃ s, s = wid lens (lenS x) := ⟨_, rfl⟩
  obtain ⟨byy, hby⟩ : ∃ s, s = wid lens (lenS y) := ⟨_, rfl⟩
  obtain ⟨ex, hex⟩ : ∃ s, s = lenX x := ⟨_, rfl⟩
  obtain ⟨ey, hey⟩ : ∃ s, s = lenX y := ⟨_, rfl⟩
  obtain ⟨tx, htx⟩ : ∃ s, s = distS x := ⟨_, rfl⟩
  obtain ⟨ty, hty⟩ : ∃ s, s = distS y := ⟨_, rfl⟩
  obtain ⟨cx, hcx⟩ : ∃ s, s = wid dists (distS x) := ⟨_, rfl⟩
  obtain ⟨cy, hcy⟩ : ∃ s, s = wid dists (distS y) := ⟨_, rfl⟩
  obtain ⟨fx, hfx⟩ : ∃ s, s = distX x := ⟨_, rfl⟩
  obtain ⟨fy, hfy⟩ : ∃ s, s = distX y := ⟨_, rfl⟩
  rw [← hsx, ← hbx, ← hex] at hLX
  rw [← hsy, ← hby, ← hey] at hLY
  rw [← hcx, ← htx, ← hfx] at hDX
  rw [← hcy, ← hty, ← hfy] at hDY
  rw [← hex, ← hey] at hm1
  rw [← htx, ← hty, ← hfx, ← hfy] at hm2
  have h1 : sx < sy ∨ (sx = sy ∧ ex ≤ ey) := by
    rcases Nat.lt_or_ge (lenS x) (lenS y) with h | h
    · left; omega
    · right; exact ⟨by omega, hm1.2 (by omega)⟩
  have h2 : tx < ty ∨ (tx = ty ∧ fx ≤ fy) := by
    rcases Nat.lt_or_ge tx ty with h | h
    · left; omega
    · right; exact ⟨by omega, hm2.2 (by omega)⟩
  unfold symv at hLX hLY hDX hDY
  have HLX := Lib.hid hLX
  have HLY := Lib.hid hLY
  have HDX := Lib.hid hDX
  have HDY := Lib.hid hDY
  have HG := Lib.hid hG
  clear hLX hLY hDX hDY hG hm1 hm2 hsx hsy hbx hby hex hey htx hty hcx hcy hfx hfy hl1 hl2 hd1 hd2 he1 he2 he3 he4
  by_cases hab : a < b
  · obtain rfl : x = a := by omega
    obtain rfl : y = b := by omega
    clear hx hy
    go_enter Tryd.func8, Tryd.ntmps8
    go_wp2_with fail
    refine (awake7_any K w HG.out).mono ?_
    rintro e w2 ⟨rfl, hf2⟩
    have HF2 := Lib.hid hf2
    have HG2 := Lib.hid (K.fr HG.out hf2)
    clear hf2
    go_wp2_with fail
    refine (HLX.out w2 HG2.out).mono ?_
    rintro e w3 ⟨rfl, hf3⟩
    have HF3 := Lib.hid (HF2.out.trans hf3 (fun _ _ h => h))
    have HG3 := Lib.hid (K.fr HG2.out hf3)
    clear hf3
    go_wp2_with fail
    refine (HLY.out w3 HG3.out).mono ?_
    rintro e w4 ⟨rfl, hf4⟩
    have HF4 := Lib.hid (HF3.out.trans hf4 (fun _ _ h => h))
    have HG4 := Lib.hid (K.fr HG3.out hf4)
    clear hf4
    go_upto_region 5 with fail
    obtain ⟨w5, hw5, g1, g2, hf5⟩ := two_new w4 #[.int .i64 (sx : Int), .int .i64 (bx : Int), .int .u64 (ex : Int)] #[.int .i64 (sy : Int), .int .i64 (byy : Int), .int .u64 (ey : Int)] 29
    rw [hw5]
    obtain ⟨p, hp⟩ : ∃ p, p = w4.heap.size := ⟨_, rfl⟩
    rw [← hp] at g1 g2 ⊢
    have HF5 := Lib.hid (HF4.out.trans hf5 (fun _ _ h => h))
    have HG5 := Lib.hid (K.fr HG4.out hf5)
    have HB1 := Lib.hid g1
    have HB2 := Lib.hid g2
    obtain ⟨p2, hp2⟩ : ∃ p2, p2 = p + 1 := ⟨_, rfl⟩
    rw [← hp2] at HB2 ⊢
    clear hw5 hp hf5 g1 g2 hp2
    go_wp2_with fail
    refine (HDX.out w5 HG5.out).mono ?_
    rintro e w6 ⟨rfl, hf6⟩
    have HF6 := Lib.hid (HF5.out.trans hf6 (fun _ _ h => h))
    have HG6 := Lib.hid (K.fr HG5.out hf6)
    have HB16 := Lib.hid (hf6.blk HB1.out (fun h => h))
    have HB26 := Lib.hid (hf6.blk HB2.out (fun h => h))
    clear hf6
    go_wp2_with fail
    refine (HDY.out w6 HG6.out).mono ?_
    rintro e w7 ⟨rfl, hf7⟩
    have HF7 := Lib.hid (HF6.out.trans hf7 (fun _ _ h => h))
    have hb1 := hf7.blk HB16.out (fun h => h)
    have hb2 := hf7.blk HB26.out (fun h => h)
    have a0 : w7.cell? ⟨p, 0, none⟩ = some (.int .i64 (sx : Int)) := by rw [cell_of hb1 0]; rfl
    have a2 : w7.cell? ⟨p, 2, none⟩ = some (.int .u64 (ex : Int)) := by rw [cell_of hb1 2]; rfl
    have c0 : w7.cell? ⟨p2, 0, none⟩ = some (.int .i64 (sy : Int)) := by rw [cell_of hb2 0]; rfl
    have c2 : w7.cell? ⟨p2, 2, none⟩ = some (.int .u64 (ey : Int)) := by rw [cell_of hb2 2]; rfl
    clear hf7
    go_upto_region 6 with fail
    obtain ⟨w8, hw8, g3, g4, hf8⟩ := two_new w7 #[.int .i64 (tx : Int), .int .i64 (cx : Int), .int .u64 (fx : Int)] #[.int .i64 (ty : Int), .int .i64 (cy : Int), .int .u64 (fy : Int)] 29
    rw [hw8]
    obtain ⟨q, hq⟩ : ∃ q, q = w7.heap.size := ⟨_, rfl⟩
    rw [← hq] at g3 g4 ⊢
    obtain ⟨q2, hq2⟩ : ∃ q2, q2 = q + 1 := ⟨_, rfl⟩
    rw [← hq2] at g4 ⊢
    have HF8 := Lib.hid (HF7.out.trans hf8 (fun _ _ h => h))
    replace a0 := hf8.cell a0 (fun h => h)
    replace a2 := hf8.cell a2 (fun h => h)
    replace c0 := hf8.cell c0 (fun h => h)
    replace c2 := hf8.cell c2 (fun h => h)
    have d0 : w8.cell? ⟨q, 0, none⟩ = some (.int .i64 (tx : Int)) := by rw [cell_of g3 0]; rfl
    have d2 : w8.cell? ⟨q, 2, none⟩ = some (.int .u64 (fx : Int)) := by rw [cell_of g3 2]; rfl
    have e0 : w8.cell? ⟨q2, 0, none⟩ = some (.int .i64 (ty : Int)) := by rw [cell_of g4 0]; rfl
    have e2 : w8.cell? ⟨q2, 2, none⟩ = some (.int .u64 (fy : Int)) := by rw [cell_of g4 2]; rfl
    clear hw8 hq hq2 g3 g4 hf8 hb1 hb2
    rcases h1 with h1 | ⟨h1, h1'⟩
    · rcases h2 with h2 | ⟨h2, h2'⟩
      · go_wp2_with fail
        go_ret
        exact ⟨rfl, HF8.out⟩
      · subst h2
        go_wp2_with fail
        go_ret
        exact ⟨rfl, HF8.out⟩
    · subst h1
      rcases h2 with h2 | ⟨h2, h2'⟩
      · go_wp2_with fail
        go_ret
        exact ⟨rfl, HF8.out⟩
      · subst h2
        go_wp2_with fail
        go_ret
        exact ⟨rfl, HF8.out⟩
  · by_cases hab2 : a = b
    · subst hab2
      have e1 : x = a := by omega
      have e2 : y = a := by omega
      subst e1
      subst e2
      clear hx hy hab
      go_enter Tryd.func8, Tryd.ntmps8
      go_wp2_with fail
      refine (awake7_any K w HG.out).mono ?_
      rintro e w2 ⟨rfl, hf2⟩
      have HF2 := Lib.hid hf2
      have HG2 := Lib.hid (K.fr HG.out hf2)
      clear hf2
      go_wp2_with fail
      refine (HLX.out w2 HG2.out).mono ?_
      rintro e w3 ⟨rfl, hf3⟩
      have HF3 := Lib.hid (HF2.out.trans hf3 (fun _ _ h => h))
      have HG3 := Lib.hid (K.fr HG2.out hf3)
      clear hf3
      go_wp2_with fail
      refine (HLY.out w3 HG3.out).mono ?_
      rintro e w4 ⟨rfl, hf4⟩
      have HF4 := Lib.hid (HF3.out.trans hf4 (fun _ _ h => h))
      have HG4 := Lib.hid (K.fr HG3.out hf4)
      clear hf4
      go_upto_region 5 with fail
      obtain ⟨w5, hw5, g1, g2, hf5⟩ := two_new w4 #[.int .i64 (sx : Int), .int .i64 (bx : Int), .int .u64 (ex : Int)] #[.int .i64 (sy : Int), .int .i64 (byy : Int), .int .u64 (ey : Int)] 29
      rw [hw5]
      obtain ⟨p, hp⟩ : ∃ p, p = w4.heap.size := ⟨_, rfl⟩
      rw [← hp] at g1 g2 ⊢
      have HF5 := Lib.hid (HF4.out.trans hf5 (fun _ _ h => h))
      have HG5 := Lib.hid (K.fr HG4.out hf5)
      have HB1 := Lib.hid g1
      have HB2 := Lib.hid g2
      obtain ⟨p2, hp2⟩ : ∃ p2, p2 = p + 1 := ⟨_, rfl⟩
      rw [← hp2] at HB2 ⊢
      clear hw5 hp hf5 g1 g2 hp2
      go_wp2_with fail
      refine (HDX.out w5 HG5.out).mono ?_
      rintro e w6 ⟨rfl, hf6⟩
      have HF6 := Lib.hid (HF5.out.trans hf6 (fun _ _ h => h))
      have HG6 := Lib.hid (K.fr HG5.out hf6)
      have HB16 := Lib.hid (hf6.blk HB1.out (fun h => h))
      have HB26 := Lib.hid (hf6.blk HB2.out (fun h => h))
      clear hf6
      go_wp2_with fail
      refine (HDY.out w6 HG6.out).mono ?_
      rintro e w7 ⟨rfl, hf7⟩
      have HF7 := Lib.hid (HF6.out.trans hf7 (fun _ _ h => h))
      have hb1 := hf7.blk HB16.out (fun h => h)
      have hb2 := hf7.blk HB26.out (fun h => h)
      have a0 : w7.cell? ⟨p, 0, none⟩ = some (.int .i64 (sx : Int)) := by rw [cell_of hb1 0]; rfl
      have a2 : w7.cell? ⟨p, 2, none⟩ = some (.int .u64 (ex : Int)) := by rw [cell_of hb1 2]; rfl
      have c0 : w7.cell? ⟨p2, 0, none⟩ = some (.int .i64 (sy : Int)) := by rw [cell_of hb2 0]; rfl
      have c2 : w7.cell? ⟨p2, 2, none⟩ = some (.int .u64 (ey : Int)) := by rw [cell_of hb2 2]; rfl
      clear hf7
      go_upto_region 6 with fail
      obtain ⟨w8, hw8, g3, g4, hf8⟩ := two_new w7 #[.int .i64 (tx : Int), .int .i64 (cx : Int), .int .u64 (fx : Int)] #[.int .i64 (ty : Int), .int .i64 (cy : Int), .int .u64 (fy : Int)] 29
      rw [hw8]
      obtain ⟨q, hq⟩ : ∃ q, q = w7.heap.size := ⟨_, rfl⟩
      rw [← hq] at g3 g4 ⊢
      obtain ⟨q2, hq2⟩ : ∃ q2, q2 = q + 1 := ⟨_, rfl⟩
      rw [← hq2] at g4 ⊢
      have HF8 := Lib.hid (HF7.out.trans hf8 (fun _ _ h => h))
      replace a0 := hf8.cell a0 (fun h => h)
      replace a2 := hf8.cell a2 (fun h => h)
      replace c0 := hf8.cell c0 (fun h => h)
      replace c2 := hf8.cell c2 (fun h => h)
      have d0 : w8.cell? ⟨q, 0, none⟩ = some (.int .i64 (tx : Int)) := by rw [cell_of g3 0]; rfl
      have d2 : w8.cell? ⟨q, 2, none⟩ = some (.int .u64 (fx : Int)) := by rw [cell_of g3 2]; rfl
      have e0 : w8.cell? ⟨q2, 0, none⟩ = some (.int .i64 (ty : Int)) := by rw [cell_of g4 0]; rfl
      have e2 : w8.cell? ⟨q2, 2, none⟩ = some (.int .u64 (fy : Int)) := by rw [cell_of g4 2]; rfl
      clear hw8 hq hq2 g3 g4 hf8 hb1 hb2
      rcases h1 with h1 | ⟨h1, h1'⟩
      · rcases h2 with h2 | ⟨h2, h2'⟩
        · go_wp2_with fail
          go_ret
          exact ⟨rfl, HF8.out⟩
        · subst h2
          go_wp2_with fail
          go_ret
          exact ⟨rfl, HF8.out⟩
      · subst h1
        rcases h2 with h2 | ⟨h2, h2'⟩
        · go_wp2_with fail
          go_ret
          exact ⟨rfl, HF8.out⟩
        · subst h2
          go_wp2_with fail
          go_ret
          exact ⟨rfl, HF8.out⟩
    · obtain rfl : x = b := by omega
      obtain rfl : y = a := by omega
      have hba : x < y := by omega
      clear hx hy hab hab2
      go_enter Tryd.func8, Tryd.ntmps8
      go_wp2_with fail
      refine (awake7_any K w HG.out).mono ?_
      rintro e w2 ⟨rfl, hf2⟩
      have HF2 := Lib.hid hf2
      have HG2 := Lib.hid (K.fr HG.out hf2)
      clear hf2
      go_wp2_with fail
      refine (HLX.out w2 HG2.out).mono ?_
      rintro e w3 ⟨rfl, hf3⟩
      have HF3 := Lib.hid (HF2.out.trans hf3 (fun _ _ h => h))
      have HG3 := Lib.hid (K.fr HG2.out hf3)
      clear hf3
      go_wp2_with fail
      refine (HLY.out w3 HG3.out).mono ?_
      rintro e w4 ⟨rfl, hf4⟩
      have HF4 := Lib.hid (HF3.out.trans hf4 (fun _ _ h => h))
      have HG4 := Lib.hid (K.fr HG3.out hf4)
      clear hf4
      go_upto_region 5 with fail
      obtain ⟨w5, hw5, g1, g2, hf5⟩ := two_new w4 #[.int .i64 (sx : Int), .int .i64 (bx : Int), .int .u64 (ex : Int)] #[.int .i64 (sy : Int), .int .i64 (byy : Int), .int .u64 (ey : Int)] 29
      rw [hw5]
      obtain ⟨p, hp⟩ : ∃ p, p = w4.heap.size := ⟨_, rfl⟩
      rw [← hp] at g1 g2 ⊢
      have HF5 := Lib.hid (HF4.out.trans hf5 (fun _ _ h => h))
      have HG5 := Lib.hid (K.fr HG4.out hf5)
      have HB1 := Lib.hid g1
      have HB2 := Lib.hid g2
      obtain ⟨p2, hp2⟩ : ∃ p2, p2 = p + 1 := ⟨_, rfl⟩
      rw [← hp2] at HB2 ⊢
      clear hw5 hp hf5 g1 g2 hp2
      go_wp2_with fail
      refine (HDX.out w5 HG5.out).mono ?_
      rintro e w6 ⟨rfl, hf6⟩
      have HF6 := Lib.hid (HF5.out.trans hf6 (fun _ _ h => h))
      have HG6 := Lib.hid (K.fr HG5.out hf6)
      have HB16 := Lib.hid (hf6.blk HB1.out (fun h => h))
      have HB26 := Lib.hid (hf6.blk HB2.out (fun h => h))
      clear hf6
      go_wp2_with fail
      refine (HDY.out w6 HG6.out).mono ?_
      rintro e w7 ⟨rfl, hf7⟩
      have HF7 := Lib.hid (HF6.out.trans hf7 (fun _ _ h => h))
      have hb1 := hf7.blk HB16.out (fun h => h)
      have hb2 := hf7.blk HB26.out (fun h => h)
      have a0 : w7.cell? ⟨p, 0, none⟩ = some (.int .i64 (sx : Int)) := by rw [cell_of hb1 0]; rfl
      have a2 : w7.cell? ⟨p, 2, none⟩ = some (.int .u64 (ex : Int)) := by rw [cell_of hb1 2]; rfl
      have c0 : w7.cell? ⟨p2, 0, none⟩ = some (.int .i64 (sy : Int)) := by rw [cell_of hb2 0]; rfl
      have c2 : w7.cell? ⟨p2, 2, none⟩ = some (.int .u64 (ey : Int)) := by rw [cell_of hb2 2]; rfl
      clear hf7
      go_upto_region 6 with fail
      obtain ⟨w8, hw8, g3, g4, hf8⟩ := two_new w7 #[.int .i64 (tx : Int), .int .i64 (cx : Int), .int .u64 (fx : Int)] #[.int .i64 (ty : Int), .int .i64 (cy : Int), .int .u64 (fy : Int)] 29
      rw [hw8]
      obtain ⟨q, hq⟩ : ∃ q, q = w7.heap.size := ⟨_, rfl⟩
      rw [← hq] at g3 g4 ⊢
      obtain ⟨q2, hq2⟩ : ∃ q2, q2 = q + 1 := ⟨_, rfl⟩
      rw [← hq2] at g4 ⊢
      have HF8 := Lib.hid (HF7.out.trans hf8 (fun _ _ h => h))
      replace a0 := hf8.cell a0 (fun h => h)
      replace a2 := hf8.cell a2 (fun h => h)
      replace c0 := hf8.cell c0 (fun h => h)
      replace c2 := hf8.cell c2 (fun h => h)
      have d0 : w8.cell? ⟨q, 0, none⟩ = some (.int .i64 (tx : Int)) := by rw [cell_of g3 0]; rfl
      have d2 : w8.cell? ⟨q, 2, none⟩ = some (.int .u64 (fx : Int)) := by rw [cell_of g3 2]; rfl
      have e0 : w8.cell? ⟨q2, 0, none⟩ = some (.int .i64 (ty : Int)) := by rw [cell_of g4 0]; rfl
      have e2 : w8.cell? ⟨q2, 2, none⟩ = some (.int .u64 (fy : Int)) := by rw [cell_of g4 2]; rfl
      clear hw8 hq hq2 g3 g4 hf8 hb1 hb2
      rcases h1 with h1 | ⟨h1, h1'⟩
      · rcases h2 with h2 | ⟨h2, h2'⟩
        · go_wp2_with fail
          go_ret
          exact ⟨rfl, HF8.out⟩
        · subst h2
          go_wp2_with fail
          go_ret
          exact ⟨rfl, HF8.out⟩
      · subst h1
        rcases h2 with h2 | ⟨h2, h2'⟩
        · go_wp2_with fail
          go_ret
          exact ⟨rfl, HF8.out⟩
        · subst h2
          go_wp2_with fail
          go_ret
          exact ⟨rfl, HF8.out⟩
end Go.Proofs.YtamcgenjlndfjaaDoor
