/-
  The law SymsTells, out of the program's contracts (written by gen_tells.py).
-/
import Derived.Test.YtamcgenjlndfjaaDoorSyF
namespace Go.Proofs.YtamcgenjlndfjaaDoor
open Go.RowKit SyM LzM Mem Go.Lib
attribute [local go_sem ↓] Go.wp_at_zero Go.wp_at_succ
set_option linter.unusedVariables false

theorem run_max7 (n k m : Int) (h : m = max n k) (w : World) : (Builtin.max_ #[3, 3] 3 #[.int .i64 n, .int .i64 k]).run Tryd.prog w = .ok (.int .i64 m) w := by
  rw [h]
  go_simp
  split <;> omega
theorem run_min7 (n k m : Int) (h : m = min n k) (w : World) : (Builtin.min_ #[3, 3] 3 #[.int .i64 n, .int .i64 k]).run Tryd.prog w = .ok (.int .i64 m) w := by
  rw [h]
  go_simp
  split <;> omega

theorem run_cv (e : Nat) (he : e ≤ 32768) (w : World) : (convert 3 27 (.int .i64 (e : Int))).run Tryd.prog w = .ok (.int .u64 (e : Int)) w := by
  go_simp
  unfold IntKind.wrap
  simp [IntKind.bits, IntKind.signed]
  omega
/-- the cells of two symbols -/
def Six (w : World) (p p2 sx bx ex y cy fy : Nat) : Prop := w.cell? ⟨p, 0, none⟩ = some (.int .i64 (sx : Int)) ∧ w.cell? ⟨p, 1, none⟩ = some (.int .i64 (bx : Int)) ∧ w.cell? ⟨p, 2, none⟩ = some (.int .u64 (ex : Int)) ∧ w.cell? ⟨p2, 0, none⟩ = some (.int .i64 (y : Int)) ∧ w.cell? ⟨p2, 1, none⟩ = some (.int .i64 (cy : Int)) ∧ w.cell? ⟨p2, 2, none⟩ = some (.int .u64 (fy : Int))
theorem Six.fr {w w' : World} {p p2 sx bx ex y cy fy : Nat} (h : Six w p p2 sx bx ex y cy fy) (hf : Fr (fun _ => False) w w') : Six w' p p2 sx bx ex y cy fy :=
  ⟨hf.cell h.1 (fun h => h), hf.cell h.2.1 (fun h => h), hf.cell h.2.2.1 (fun h => h), hf.cell h.2.2.2.1 (fun h => h), hf.cell h.2.2.2.2.1 (fun h => h), hf.cell h.2.2.2.2.2 (fun h => h)⟩

set_option maxRecDepth 100000 in
set_option maxHeartbeats 3200000 in
theorem tells_law {Gl : World → Prop} (K : SymsC Gl) (b : UInt8) (n d : Int) (hn : inI n) (hd : inI d) (w : World) (hG : Gl w) :
    Calls Tryd.prog 3 #[.int .u8 (b.toNat : Int), .int .i64 n, .int .i64 d] w fun e w' => e = .returned (.bool true) ∧ Fr (fun _ => False) w w' := by
  have hLI : ∀ w, Gl w → Calls Tryd.prog 15 #[.int .u8 (b.toNat : Int)] w fun e w' => e = .returned (symv b.toNat 0 0) ∧ Fr (fun _ => False) w w' := fun w h => K.literal b w h
  have hLX : ∀ w, Gl w → Calls Tryd.prog 13 #[.int .i64 n] w fun e w' => e = .returned (symv (257 + lenS n) (wid lens (lenS n)) (lenX n)) ∧ Fr (fun _ => False) w w' := fun w h => K.length n w h hn
  have hDX : ∀ w, Gl w → Calls Tryd.prog 14 #[.int .i64 d] w fun e w' => e = .returned (symv (distS d) (wid dists (distS d)) (distX d)) ∧ Fr (fun _ => False) w w' := fun w h => K.distance d w h hd
  obtain ⟨u, hu⟩ : ∃ u, u = b.toNat := ⟨_, rfl⟩
  have hu256 : u < 256 := by rw [hu]; exact b.toNat_lt
  obtain ⟨m1, hm1⟩ : ∃ m, m = max n 3 := ⟨_, rfl⟩
  obtain ⟨c1, hc1⟩ : ∃ m, m = min m1 258 := ⟨_, rfl⟩
  obtain ⟨m2, hm2⟩ : ∃ m, m = max d 1 := ⟨_, rfl⟩
  obtain ⟨c2, hc2⟩ : ∃ m, m = min m2 32768 := ⟨_, rfl⟩
  have hcl1 : clampI n 3 258 = c1 := by unfold clampI; omega
  have hcl2 : clampI d 1 32768 = c2 := by unfold clampI; omega
  have q1 := run_max7 n 3 m1 hm1
  have q2 := run_min7 m1 258 c1 hc1
  have q3 := run_max7 d 1 m2 hm2
  have q4 := run_min7 m2 32768 c2 hc2
  have hb1 : 3 ≤ c1 ∧ c1 ≤ 258 := by omega
  have hb2 : 1 ≤ c2 ∧ c2 ≤ 32768 := by omega
  obtain ⟨x, hx⟩ : ∃ x, x = lenS n := ⟨_, rfl⟩
  obtain ⟨y, hy⟩ : ∃ x, x = distS d := ⟨_, rfl⟩
  obtain ⟨bx, hbx⟩ : ∃ s, s = wid lens x := ⟨_, rfl⟩
  obtain ⟨cy, hcy⟩ : ∃ s, s = wid dists y := ⟨_, rfl⟩
  obtain ⟨ex, hex⟩ : ∃ s, s = lenX n := ⟨_, rfl⟩
  obtain ⟨fy, hfy⟩ : ∃ s, s = distX d := ⟨_, rfl⟩
  have hx29 : x < 29 := by rw [hx]; exact lenS_lt n
  have hy30 : y < 30 := by rw [hy]; exact distS_lt d
  have h1 := (lenX_is n).1
  have h2 := (distX_is d).1
  rw [hcl1, ← hx, ← hex] at h1
  rw [hcl2, ← hy, ← hfy] at h2
  have hsx : sym c1 lens = x := by rw [hx]; unfold lenS; rw [hcl1]
  have hsy : sym c2 dists = y := by rw [hy]; unfold distS; rw [hcl2]
  have hex2 : ex ≤ 258 := by rw [hex]; exact (lenX_le n).1
  have hfy2 : fy ≤ 32768 := by rw [hfy]; exact (distX_le d).1
  have hxi0 : (0 : Int) ≤ (x : Int) := by omega
  have hyi0 : (0 : Int) ≤ (y : Int) := by omega
  have hxi1 : (x : Int) < 29 := by omega
  have hyi1 : (y : Int) < 30 := by omega
  have hex2' : ex ≤ 32768 := by omega
  have hOL : ∀ (A : Option Addr) (c : Nat) (w : World), Rws w A 29 lens → Calls Tryd.prog 10 #[.int .i64 c1, .slice A 29 c] w fun e w' => e = .returned (.tuple #[.int .i64 (x : Int), .int .i64 (ex : Int)]) ∧ Fr (fun _ => False) w w' := fun A c w h => by
    have h5 := rOf_any c1 A 29 c lens w h (by omega) (by omega) (by omega) (by omega) lens_le
    rw [hsx, show c1 - (least lens x : Int) = (ex : Int) by omega] at h5
    exact h5
  have hOD : ∀ (A : Option Addr) (c : Nat) (w : World), Rws w A 30 dists → Calls Tryd.prog 10 #[.int .i64 c2, .slice A 30 c] w fun e w' => e = .returned (.tuple #[.int .i64 (y : Int), .int .i64 (fy : Int)]) ∧ Fr (fun _ => False) w w' := fun A c w h => by
    have h5 := rOf_any c2 A 30 c dists w h (by omega) (by omega) (by omega) (by omega) dists_le
    rw [hsy, show c2 - (least dists y : Int) = (fy : Int) by omega] at h5
    exact h5
  rw [← hx, ← hbx, ← hex] at hLX
  rw [← hy, ← hcy, ← hfy] at hDX
  rw [← hu] at hLI ⊢
  obtain ⟨sx, hsx2⟩ : ∃ s, s = 257 + x := ⟨_, rfl⟩
  have hsxw : IntKind.i64.wrap (257 + (x : Int)) = (sx : Int) := by rw [IntKind.wrap_i64]; omega
  rw [← hsx2] at hLX
  have hcv : ∀ w : World, (convert 5 3 (.int .u8 (u : Int))).run Tryd.prog w = .ok (.int .i64 (u : Int)) w := by
    intro w
    go_simp
    rw [IntKind.wrap_i64]
    have := b.toNat_lt
    omega
  have hcx : ∀ w : World, (convert 3 27 (.int .i64 (ex : Int))).run Tryd.prog w = .ok (.int .u64 (ex : Int)) w := run_cv ex hex2'
  have hcy2 : ∀ w : World, (convert 3 27 (.int .i64 (fy : Int))).run Tryd.prog w = .ok (.int .u64 (fy : Int)) w := run_cv fy hfy2
  have q5 : ∀ (p q : Operand) (w : World), (eqGuard .eql 29 p q (.agg #[.int .i64 (u : Int), .int .i64 0, .int .u64 0]) (.agg #[.int .i64 (u : Int), .int .i64 0, .int .u64 0])).run Tryd.prog w = .ok () w := (symv_eql u 0 0 u 0 0).1
  have q6 : ∀ w : World, (binOp .eql 29 (.agg #[.int .i64 (u : Int), .int .i64 0, .int .u64 0]) (.agg #[.int .i64 (u : Int), .int .i64 0, .int .u64 0])).run Tryd.prog w = .ok (.bool true) w := by
    have h := (symv_eql u 0 0 u 0 0).2
    rw [decide_eq_true (by exact ⟨rfl, rfl, rfl⟩)] at h
    exact h
  unfold symv at hLI hLX hDX
  have HLI := Lib.hid hLI
  have HLX := Lib.hid hLX
  have HDX := Lib.hid hDX
  have HOL := Lib.hid hOL
  have HOD := Lib.hid hOD
  have HG := Lib.hid hG
  have HBX := Lib.hid (And.intro hbx hcy)
  clear hLI hLX hDX hOL hOD hG hm1 hc1 hm2 hc2 hcl1 hcl2 hu hx hy hbx hcy hex hfy h1 h2 hsx hsy hsx2 hn hd
  go_enter Tryd.func3, Tryd.ntmps3
  go_wp2_with fail
  refine (awake7_any K w HG.out).mono ?_
  rintro e w2 ⟨rfl, hf2⟩
  have HF2 := Lib.hid hf2
  have HG2 := Lib.hid (K.fr HG.out hf2)
  clear hf2
  go_wp2_with fail
  refine (rLengths_any w2).mono ?_
  rintro e w3 ⟨A3, k3, rfl, hO3, hf3⟩
  have HF3 := Lib.hid (HF2.out.trans hf3 (fun _ _ h => h))
  have HG3 := Lib.hid (K.fr HG2.out hf3)
  have HR3 := Lib.hid (rws_of (R := lens) rfl hO3)
  clear hf3 hO3
  go_wp2_with fail
  refine (HOL.out A3 k3 w3 HR3.out).mono ?_
  rintro e w4 ⟨rfl, hf4⟩
  have HF4 := Lib.hid (HF3.out.trans hf4 (fun _ _ h => h))
  have HG4 := Lib.hid (K.fr HG3.out hf4)
  clear hf4
  go_wp2_with fail
  refine (rDistances_any w4).mono ?_
  rintro e w5 ⟨A5, k5, rfl, hO5, hf5⟩
  have HF5 := Lib.hid (HF4.out.trans hf5 (fun _ _ h => h))
  have HG5 := Lib.hid (K.fr HG4.out hf5)
  have HR5 := Lib.hid (rws_of (R := dists) rfl hO5)
  clear hf5 hO5
  go_wp2_with fail
  refine (HOD.out A5 k5 w5 HR5.out).mono ?_
  rintro e w6 ⟨rfl, hf6⟩
  have HF6 := Lib.hid (HF5.out.trans hf6 (fun _ _ h => h))
  have HG6 := Lib.hid (K.fr HG5.out hf6)
  clear hf6
  go_wp2_with fail
  refine (HLX.out w6 HG6.out).mono ?_
  rintro e w7 ⟨rfl, hf7⟩
  have HF7 := Lib.hid (HF6.out.trans hf7 (fun _ _ h => h))
  have HG7 := Lib.hid (K.fr HG6.out hf7)
  clear hf7
  go_wp2_with fail
  refine (HDX.out w7 HG7.out).mono ?_
  rintro e w8 ⟨rfl, hf8⟩
  have HF8 := Lib.hid (HF7.out.trans hf8 (fun _ _ h => h))
  have HG8 := Lib.hid (K.fr HG7.out hf8)
  clear hf8
  go_upto_region 6 with fail
  obtain ⟨w9, hw9, g1, g2, hf9⟩ := two_new w8 #[.int .i64 (sx : Int), .int .i64 (bx : Int), .int .u64 (ex : Int)] #[.int .i64 (y : Int), .int .i64 (cy : Int), .int .u64 (fy : Int)] 29
  rw [hw9]
  obtain ⟨p, hp⟩ : ∃ p, p = w8.heap.size := ⟨_, rfl⟩
  rw [← hp] at g1 g2 ⊢
  obtain ⟨p2, hp2⟩ : ∃ p2, p2 = p + 1 := ⟨_, rfl⟩
  rw [← hp2] at g2 ⊢
  have HF9 := Lib.hid (HF8.out.trans hf9 (fun _ _ h => h))
  have HG9 := Lib.hid (K.fr HG8.out hf9)
  have a0 : w9.cell? ⟨p, 0, none⟩ = some (.int .i64 (sx : Int)) := by rw [cell_of g1 0]; rfl
  have a1 : w9.cell? ⟨p, 1, none⟩ = some (.int .i64 (bx : Int)) := by rw [cell_of g1 1]; rfl
  have a2 : w9.cell? ⟨p, 2, none⟩ = some (.int .u64 (ex : Int)) := by rw [cell_of g1 2]; rfl
  have b0 : w9.cell? ⟨p2, 0, none⟩ = some (.int .i64 (y : Int)) := by rw [cell_of g2 0]; rfl
  have b1 : w9.cell? ⟨p2, 1, none⟩ = some (.int .i64 (cy : Int)) := by rw [cell_of g2 1]; rfl
  have b2 : w9.cell? ⟨p2, 2, none⟩ = some (.int .u64 (fy : Int)) := by rw [cell_of g2 2]; rfl
  have HA := Lib.hid (show Six w9 p p2 sx bx ex y cy fy from ⟨a0, a1, a2, b0, b1, b2⟩)
  clear hw9 hp hp2 hf9 g1 g2 a0 a1 a2 b0 b1 b2
  have HEND : Hid (∀ w12, Fr (fun _ => False) w9 w12 → Fr (fun _ => False) w w12) := Lib.hid (fun w12 h => HF9.out.trans h (fun _ _ h => h))
  refine wp_region_held_drew (S := (fun w' => w'.cell? ⟨p, 0, none⟩ = some (.int .i64 (sx : Int)) ∧ w'.cell? ⟨p, 1, none⟩ = some (.int .i64 (bx : Int)) ∧ w'.cell? ⟨p, 2, none⟩ = some (.int .u64 (ex : Int)) ∧ w'.cell? ⟨p2, 0, none⟩ = some (.int .i64 (y : Int)) ∧ w'.cell? ⟨p2, 1, none⟩ = some (.int .i64 (cy : Int)) ∧ w'.cell? ⟨p2, 2, none⟩ = some (.int .u64 (fy : Int)))) (by kernel_rfl) ?_ (fun hHeld => ?_)
  · exact HA.out
  refine wpAnyH_take (i := 0) (v := ?va0) rfl (by kernel_rfl) (by kernel_rfl) (by kernel_rfl) (fun _ _ _ h => h) (Or.inl ⟨by rfl, ?hya0⟩) hHeld ?resta0
  case hya0 => intro w hSw; (try dsimp only at hSw); go_simp; try (with_reducible rfl)
  (try simp only [Act.put, List.setIfInBounds_toArray, List.set_cons_zero, List.set_cons_succ, List.getElem_toArray, List.getElem_cons_zero])
  refine wpAnyH_take (i := 2) (v := ?va2) rfl (by kernel_rfl) (by kernel_rfl) (by kernel_rfl) (fun _ _ _ h => h) (Or.inl ⟨by rfl, ?hya2⟩) hHeld ?resta2
  case hya2 => intro w hSw; (try dsimp only at hSw); go_simp; try (with_reducible rfl)
  (try simp only [Act.put, List.setIfInBounds_toArray, List.set_cons_zero, List.set_cons_succ, List.getElem_toArray, List.getElem_cons_zero, List.getElem_cons_succ])
  refine wpAnyH_take (i := 3) (v := ?va3) rfl (by kernel_rfl) (by kernel_rfl) (by kernel_rfl) (fun _ _ _ h => h) (Or.inl ⟨by rfl, ?hya3⟩) hHeld ?resta3
  case hya3 => intro w hSw; (try dsimp only at hSw); go_simp; try (with_reducible rfl)
  (try simp only [Act.put, List.setIfInBounds_toArray, List.set_cons_zero, List.set_cons_succ, List.getElem_toArray, List.getElem_cons_zero, List.getElem_cons_succ])
  refine wpAnyH_take (i := 4) (v := ?va4) rfl (by kernel_rfl) (by kernel_rfl) (by kernel_rfl) (fun _ _ _ h => h) (Or.inl ⟨by rfl, ?hya4⟩) hHeld ?resta4
  case hya4 => intro w hSw; (try dsimp only at hSw); go_simp; try (with_reducible rfl)
  (try simp only [Act.put, List.setIfInBounds_toArray, List.set_cons_zero, List.set_cons_succ, List.getElem_toArray, List.getElem_cons_zero, List.getElem_cons_succ])
  refine wpAnyH_ready (rs := [1]) (by kernel_rfl) (by simp) ?_
  refine AllReadyH.cons rfl (fun Kx hKx => ?_) AllReadyH.nil
  go_simp
  go_at_call 15
  refine (HLI.out w9.drew (K.fr HG9.out (Fr.refl _ _).drew)).mono ?_
  rintro e w10 ⟨rfl, hf10⟩
  have HF10 := Lib.hid ((Fr.refl (fun _ => False) w9).drew.trans hf10 (fun _ _ h => h))
  have HS10 := Lib.hid (HA.out.fr HF10.out)
  clear hf10
  refine hKx.out _ _ ?_ (fun hHeld => ?_)
  · exact HS10.out
  clear hKx Kx
  (try simp only [Act.put, List.setIfInBounds_toArray, List.set_cons_zero, List.set_cons_succ, List.getElem_toArray, List.getElem_cons_zero, List.getElem_cons_succ])
  refine wpAnyH_take (i := 5) (v := ?va5) rfl (by kernel_rfl) (by kernel_rfl) (by kernel_rfl) (fun _ _ _ h => h) (Or.inl ⟨by rfl, ?hya5⟩) hHeld ?resta5
  case hya5 => intro w hSw; (try dsimp only at hSw); go_simp; try (with_reducible rfl)
  (try simp only [Act.put, List.setIfInBounds_toArray, List.set_cons_zero, List.set_cons_succ, List.getElem_toArray, List.getElem_cons_zero, List.getElem_cons_succ])
  refine wpAnyH_take (i := 6) (v := ?va6) rfl (by kernel_rfl) (by kernel_rfl) (by kernel_rfl) (fun _ _ _ h => h) (Or.inl ⟨by rfl, ?hya6⟩) hHeld ?resta6
  case hya6 => intro w hSw; (try dsimp only at hSw); go_simp; try (with_reducible rfl)
  (try simp only [Act.put, List.setIfInBounds_toArray, List.set_cons_zero, List.set_cons_succ, List.getElem_toArray, List.getElem_cons_zero, List.getElem_cons_succ])
  refine wpAnyH_take (i := 7) (v := ?va7) rfl (by kernel_rfl) (by kernel_rfl) (by kernel_rfl) (fun _ _ _ h => h) (Or.inl ⟨by rfl, ?hya7⟩) hHeld ?resta7
  case hya7 => intro w hSw; (try dsimp only at hSw); go_simp; try (with_reducible rfl)
  (try simp only [Act.put, List.setIfInBounds_toArray, List.set_cons_zero, List.set_cons_succ, List.getElem_toArray, List.getElem_cons_zero, List.getElem_cons_succ])
  refine wpAnyH_take (i := 8) (v := ?va8) rfl (by kernel_rfl) (by kernel_rfl) (by kernel_rfl) (fun _ _ _ h => h) (Or.inl ⟨by rfl, ?hya8⟩) hHeld ?resta8
  case hya8 => intro w hSw; (try dsimp only at hSw); go_simp; try (with_reducible rfl)
  (try simp only [Act.put, List.setIfInBounds_toArray, List.set_cons_zero, List.set_cons_succ, List.getElem_toArray, List.getElem_cons_zero, List.getElem_cons_succ])
  refine wpAnyH_take (i := 9) (v := ?va9) rfl (by kernel_rfl) (by kernel_rfl) (by kernel_rfl) (fun _ _ _ h => h) (Or.inl ⟨by rfl, ?hya9⟩) hHeld ?resta9
  case hya9 => intro w hSw; (try dsimp only at hSw); go_simp; try (with_reducible rfl)
  (try simp only [Act.put, List.setIfInBounds_toArray, List.set_cons_zero, List.set_cons_succ, List.getElem_toArray, List.getElem_cons_zero, List.getElem_cons_succ])
  refine wpAnyH_take (i := 10) (v := ?va10) rfl (by kernel_rfl) (by kernel_rfl) (by kernel_rfl) (fun _ _ _ h => h) (Or.inl ⟨by rfl, ?hya10⟩) hHeld ?resta10
  case hya10 => intro w hSw; (try dsimp only at hSw); go_simp; try (with_reducible rfl)
  (try simp only [Act.put, List.setIfInBounds_toArray, List.set_cons_zero, List.set_cons_succ, List.getElem_toArray, List.getElem_cons_zero, List.getElem_cons_succ])
  refine wpAnyH_take (i := 11) (v := ?va11) rfl (by kernel_rfl) (by kernel_rfl) (by kernel_rfl) (fun _ _ _ h => h) (Or.inl ⟨by rfl, ?hya11⟩) hHeld ?resta11
  case hya11 => intro w hSw; (try dsimp only at hSw); go_simp; try (with_reducible rfl)
  (try simp only [Act.put, List.setIfInBounds_toArray, List.set_cons_zero, List.set_cons_succ, List.getElem_toArray, List.getElem_cons_zero, List.getElem_cons_succ])
  refine wpAnyH_take (i := 12) (v := ?va12) rfl (by kernel_rfl) (by kernel_rfl) (by kernel_rfl) (fun _ _ _ h => h) (Or.inl ⟨by rfl, ?hya12⟩) hHeld ?resta12
  case hya12 => intro w hSw; (try dsimp only at hSw); go_simp; try (with_reducible rfl)
  (try simp only [Act.put, List.setIfInBounds_toArray, List.set_cons_zero, List.set_cons_succ, List.getElem_toArray, List.getElem_cons_zero, List.getElem_cons_succ])
  refine wpAnyH_take (i := 13) (v := ?va13) rfl (by kernel_rfl) (by kernel_rfl) (by kernel_rfl) (fun _ _ _ h => h) (Or.inl ⟨by rfl, ?hya13⟩) hHeld ?resta13
  case hya13 => intro w hSw; (try dsimp only at hSw); go_simp; try (with_reducible rfl)
  (try simp only [Act.put, List.setIfInBounds_toArray, List.set_cons_zero, List.set_cons_succ, List.getElem_toArray, List.getElem_cons_zero, List.getElem_cons_succ])
  refine wpAnyH_take (i := 14) (v := ?va14) rfl (by kernel_rfl) (by kernel_rfl) (by kernel_rfl) (fun _ _ _ h => h) (Or.inl ⟨by rfl, ?hya14⟩) hHeld ?resta14
  case hya14 => intro w hSw; (try dsimp only at hSw); go_simp; try (with_reducible rfl)
  (try simp only [Act.put, List.setIfInBounds_toArray, List.set_cons_zero, List.set_cons_succ, List.getElem_toArray, List.getElem_cons_zero, List.getElem_cons_succ])
  refine wpAnyH_take (i := 15) (v := ?va15) rfl (by kernel_rfl) (by kernel_rfl) (by kernel_rfl) (fun _ _ _ h => h) (Or.inl ⟨by rfl, ?hya15⟩) hHeld ?resta15
  case hya15 => intro w hSw; (try dsimp only at hSw); go_simp; try (with_reducible rfl)
  (try simp only [Act.put, List.setIfInBounds_toArray, List.set_cons_zero, List.set_cons_succ, List.getElem_toArray, List.getElem_cons_zero, List.getElem_cons_succ])
  refine wpAnyH_take (i := 17) (v := ?va17) rfl (by kernel_rfl) (by kernel_rfl) (by kernel_rfl) (fun _ _ _ h => h) (Or.inl ⟨by rfl, ?hya17⟩) hHeld ?resta17
  case hya17 => intro w hSw; (try dsimp only at hSw); go_simp; try (with_reducible rfl)
  (try simp only [Act.put, List.setIfInBounds_toArray, List.set_cons_zero, List.set_cons_succ, List.getElem_toArray, List.getElem_cons_zero, List.getElem_cons_succ])
  refine wpAnyH_ready (rs := [16]) (by kernel_rfl) (by simp) ?_
  refine AllReadyH.cons rfl (fun Kx hKx => ?_) AllReadyH.nil
  go_simp
  go_at_call 11
  refine (rLengths_any w10).mono ?_
  rintro e w11 ⟨A11, k11, rfl, hO11, hf11⟩
  have HF11 := Lib.hid (HF10.out.trans hf11 (fun _ _ h => h))
  have HS11 := Lib.hid (HS10.out.fr hf11)
  obtain ⟨g, o, rfl, hg, -, r2⟩ := (rws_of (R := lens) rfl hO11).at_ hx29
  rw [← HBX.out.1] at r2
  clear hf11 hO11 hg
  refine hKx.out _ _ ?_ (fun hHeld => ?_)
  · exact HS11.out
  clear hKx Kx
  (try simp only [Act.put, List.setIfInBounds_toArray, List.set_cons_zero, List.set_cons_succ, List.getElem_toArray, List.getElem_cons_zero, List.getElem_cons_succ])
  refine wpAnyH_more (fun w' => w'.cell? ⟨p, 0, none⟩ = some (.int .i64 (sx : Int)) ∧ w'.cell? ⟨p, 1, none⟩ = some (.int .i64 (bx : Int)) ∧ w'.cell? ⟨p, 2, none⟩ = some (.int .u64 (ex : Int)) ∧ w'.cell? ⟨p2, 0, none⟩ = some (.int .i64 (y : Int)) ∧ w'.cell? ⟨p2, 1, none⟩ = some (.int .i64 (cy : Int)) ∧ w'.cell? ⟨p2, 2, none⟩ = some (.int .u64 (fy : Int)) ∧ w'.cell? ⟨g, o + x * 2 + 1, none⟩ = some (.int .i64 (bx : Int))) (fun _ h => ⟨h.1, h.2.1, h.2.2.1, h.2.2.2.1, h.2.2.2.2.1, h.2.2.2.2.2.1⟩) ?_ (fun hHeld => ?_)
  · exact ⟨HS11.out.1, HS11.out.2.1, HS11.out.2.2.1, HS11.out.2.2.2.1, HS11.out.2.2.2.2.1, HS11.out.2.2.2.2.2, r2⟩
  refine wpAnyH_take (i := 18) (v := ?va18) rfl (by kernel_rfl) (by kernel_rfl) (by kernel_rfl) (fun _ _ _ h => h) (Or.inl ⟨by rfl, ?hya18⟩) hHeld ?resta18
  case hya18 => intro w hSw; (try dsimp only at hSw); go_simp; try (with_reducible rfl)
  (try simp only [Act.put, List.setIfInBounds_toArray, List.set_cons_zero, List.set_cons_succ, List.getElem_toArray, List.getElem_cons_zero, List.getElem_cons_succ])
  refine wpAnyH_take (i := 19) (v := ?va19) rfl (by kernel_rfl) (by kernel_rfl) (by kernel_rfl) (fun _ _ _ h => h) (Or.inl ⟨by rfl, ?hya19⟩) hHeld ?resta19
  case hya19 => intro w hSw; (try dsimp only at hSw); go_simp; try (with_reducible rfl)
  (try simp only [Act.put, List.setIfInBounds_toArray, List.set_cons_zero, List.set_cons_succ, List.getElem_toArray, List.getElem_cons_zero, List.getElem_cons_succ])
  refine wpAnyH_take (i := 20) (v := ?va20) rfl (by kernel_rfl) (by kernel_rfl) (by kernel_rfl) (fun _ _ _ h => h) (Or.inl ⟨by rfl, ?hya20⟩) hHeld ?resta20
  case hya20 => intro w hSw; (try dsimp only at hSw); go_simp; try (with_reducible rfl)
  (try simp only [Act.put, List.setIfInBounds_toArray, List.set_cons_zero, List.set_cons_succ, List.getElem_toArray, List.getElem_cons_zero, List.getElem_cons_succ])
  refine wpAnyH_take (i := 21) (v := ?va21) rfl (by kernel_rfl) (by kernel_rfl) (by kernel_rfl) (fun _ _ _ h => h) (Or.inl ⟨by rfl, ?hya21⟩) hHeld ?resta21
  case hya21 => intro w hSw; (try dsimp only at hSw); go_simp; try (with_reducible rfl)
  (try simp only [Act.put, List.setIfInBounds_toArray, List.set_cons_zero, List.set_cons_succ, List.getElem_toArray, List.getElem_cons_zero, List.getElem_cons_succ])
  refine wpAnyH_take (i := 22) (v := ?va22) rfl (by kernel_rfl) (by kernel_rfl) (by kernel_rfl) (fun _ _ _ h => h) (Or.inl ⟨by rfl, ?hya22⟩) hHeld ?resta22
  case hya22 => intro w hSw; (try dsimp only at hSw); go_simp; try (with_reducible rfl)
  (try simp only [Act.put, List.setIfInBounds_toArray, List.set_cons_zero, List.set_cons_succ, List.getElem_toArray, List.getElem_cons_zero, List.getElem_cons_succ])
  refine wpAnyH_take (i := 23) (v := ?va23) rfl (by kernel_rfl) (by kernel_rfl) (by kernel_rfl) (fun _ _ _ h => h) (Or.inl ⟨by rfl, ?hya23⟩) hHeld ?resta23
  case hya23 => intro w hSw; (try dsimp only at hSw); go_simp; try (with_reducible rfl)
  (try simp only [Act.put, List.setIfInBounds_toArray, List.set_cons_zero, List.set_cons_succ, List.getElem_toArray, List.getElem_cons_zero, List.getElem_cons_succ])
  refine wpAnyH_take (i := 24) (v := ?va24) rfl (by kernel_rfl) (by kernel_rfl) (by kernel_rfl) (fun _ _ _ h => h) (Or.inl ⟨by rfl, ?hya24⟩) hHeld ?resta24
  case hya24 => intro w hSw; (try dsimp only at hSw); go_simp; try (with_reducible rfl)
  (try simp only [Act.put, List.setIfInBounds_toArray, List.set_cons_zero, List.set_cons_succ, List.getElem_toArray, List.getElem_cons_zero, List.getElem_cons_succ])
  refine wpAnyH_take (i := 25) (v := ?va25) rfl (by kernel_rfl) (by kernel_rfl) (by kernel_rfl) (fun _ _ _ h => h) (Or.inl ⟨by rfl, ?hya25⟩) hHeld ?resta25
  case hya25 => intro w hSw; (try dsimp only at hSw); go_simp; try (with_reducible rfl)
  (try simp only [Act.put, List.setIfInBounds_toArray, List.set_cons_zero, List.set_cons_succ, List.getElem_toArray, List.getElem_cons_zero, List.getElem_cons_succ])
  refine wpAnyH_take (i := 26) (v := ?va26) rfl (by kernel_rfl) (by kernel_rfl) (by kernel_rfl) (fun _ _ _ h => h) (Or.inl ⟨by rfl, ?hya26⟩) hHeld ?resta26
  case hya26 => intro w hSw; (try dsimp only at hSw); go_simp; try (with_reducible rfl)
  (try simp only [Act.put, List.setIfInBounds_toArray, List.set_cons_zero, List.set_cons_succ, List.getElem_toArray, List.getElem_cons_zero, List.getElem_cons_succ])
  refine wpAnyH_take (i := 27) (v := ?va27) rfl (by kernel_rfl) (by kernel_rfl) (by kernel_rfl) (fun _ _ _ h => h) (Or.inl ⟨by rfl, ?hya27⟩) hHeld ?resta27
  case hya27 => intro w hSw; (try dsimp only at hSw); go_simp; try (with_reducible rfl)
  (try simp only [Act.put, List.setIfInBounds_toArray, List.set_cons_zero, List.set_cons_succ, List.getElem_toArray, List.getElem_cons_zero, List.getElem_cons_succ])
  refine wpAnyH_take (i := 28) (v := ?va28) rfl (by kernel_rfl) (by kernel_rfl) (by kernel_rfl) (fun _ _ _ h => h) (Or.inl ⟨by rfl, ?hya28⟩) hHeld ?resta28
  case hya28 => intro w hSw; (try dsimp only at hSw); go_simp; try (with_reducible rfl)
  (try simp only [Act.put, List.setIfInBounds_toArray, List.set_cons_zero, List.set_cons_succ, List.getElem_toArray, List.getElem_cons_zero, List.getElem_cons_succ])
  refine wpAnyH_take (i := 29) (v := ?va29) rfl (by kernel_rfl) (by kernel_rfl) (by kernel_rfl) (fun _ _ _ h => h) (Or.inl ⟨by rfl, ?hya29⟩) hHeld ?resta29
  case hya29 => intro w hSw; (try dsimp only at hSw); go_simp; try (with_reducible rfl)
  (try simp only [Act.put, List.setIfInBounds_toArray, List.set_cons_zero, List.set_cons_succ, List.getElem_toArray, List.getElem_cons_zero, List.getElem_cons_succ])
  refine wpAnyH_take (i := 30) (v := ?va30) rfl (by kernel_rfl) (by kernel_rfl) (by kernel_rfl) (fun _ _ _ h => h) (Or.inl ⟨by rfl, ?hya30⟩) hHeld ?resta30
  case hya30 => intro w hSw; (try dsimp only at hSw); go_simp; try (with_reducible rfl)
  (try simp only [Act.put, List.setIfInBounds_toArray, List.set_cons_zero, List.set_cons_succ, List.getElem_toArray, List.getElem_cons_zero, List.getElem_cons_succ])
  refine wpAnyH_take (i := 31) (v := ?va31) rfl (by kernel_rfl) (by kernel_rfl) (by kernel_rfl) (fun _ _ _ h => h) (Or.inl ⟨by rfl, ?hya31⟩) hHeld ?resta31
  case hya31 => intro w hSw; (try dsimp only at hSw); go_simp; try (with_reducible rfl)
  (try simp only [Act.put, List.setIfInBounds_toArray, List.set_cons_zero, List.set_cons_succ, List.getElem_toArray, List.getElem_cons_zero, List.getElem_cons_succ])
  refine wpAnyH_take (i := 32) (v := ?va32) rfl (by kernel_rfl) (by kernel_rfl) (by kernel_rfl) (fun _ _ _ h => h) (Or.inl ⟨by rfl, ?hya32⟩) hHeld ?resta32
  case hya32 => intro w hSw; (try dsimp only at hSw); go_simp; try (with_reducible rfl)
  (try simp only [Act.put, List.setIfInBounds_toArray, List.set_cons_zero, List.set_cons_succ, List.getElem_toArray, List.getElem_cons_zero, List.getElem_cons_succ])
  refine wpAnyH_take (i := 33) (v := ?va33) rfl (by kernel_rfl) (by kernel_rfl) (by kernel_rfl) (fun _ _ _ h => h) (Or.inl ⟨by rfl, ?hya33⟩) hHeld ?resta33
  case hya33 => intro w hSw; (try dsimp only at hSw); go_simp; try (with_reducible rfl)
  (try simp only [Act.put, List.setIfInBounds_toArray, List.set_cons_zero, List.set_cons_succ, List.getElem_toArray, List.getElem_cons_zero, List.getElem_cons_succ])
  refine wpAnyH_take (i := 34) (v := ?va34) rfl (by kernel_rfl) (by kernel_rfl) (by kernel_rfl) (fun _ _ _ h => h) (Or.inl ⟨by rfl, ?hya34⟩) hHeld ?resta34
  case hya34 => intro w hSw; (try dsimp only at hSw); go_simp; try (with_reducible rfl)
  (try simp only [Act.put, List.setIfInBounds_toArray, List.set_cons_zero, List.set_cons_succ, List.getElem_toArray, List.getElem_cons_zero, List.getElem_cons_succ])
  refine wpAnyH_take (i := 35) (v := ?va35) rfl (by kernel_rfl) (by kernel_rfl) (by kernel_rfl) (fun _ _ _ h => h) (Or.inl ⟨by rfl, ?hya35⟩) hHeld ?resta35
  case hya35 => intro w hSw; (try dsimp only at hSw); go_simp; try (with_reducible rfl)
  (try simp only [Act.put, List.setIfInBounds_toArray, List.set_cons_zero, List.set_cons_succ, List.getElem_toArray, List.getElem_cons_zero, List.getElem_cons_succ])
  refine wpAnyH_take (i := 36) (v := ?va36) rfl (by kernel_rfl) (by kernel_rfl) (by kernel_rfl) (fun _ _ _ h => h) (Or.inl ⟨by rfl, ?hya36⟩) hHeld ?resta36
  case hya36 => intro w hSw; (try dsimp only at hSw); go_simp; try (with_reducible rfl)
  (try simp only [Act.put, List.setIfInBounds_toArray, List.set_cons_zero, List.set_cons_succ, List.getElem_toArray, List.getElem_cons_zero, List.getElem_cons_succ])
  refine wpAnyH_take (i := 37) (v := ?va37) rfl (by kernel_rfl) (by kernel_rfl) (by kernel_rfl) (fun _ _ _ h => h) (Or.inl ⟨by rfl, ?hya37⟩) hHeld ?resta37
  case hya37 => intro w hSw; (try dsimp only at hSw); go_simp; try (with_reducible rfl)
  (try simp only [Act.put, List.setIfInBounds_toArray, List.set_cons_zero, List.set_cons_succ, List.getElem_toArray, List.getElem_cons_zero, List.getElem_cons_succ])
  refine wpAnyH_take (i := 38) (v := ?va38) rfl (by kernel_rfl) (by kernel_rfl) (by kernel_rfl) (fun _ _ _ h => h) (Or.inl ⟨by rfl, ?hya38⟩) hHeld ?resta38
  case hya38 => intro w hSw; (try dsimp only at hSw); go_simp; try (with_reducible rfl)
  (try simp only [Act.put, List.setIfInBounds_toArray, List.set_cons_zero, List.set_cons_succ, List.getElem_toArray, List.getElem_cons_zero, List.getElem_cons_succ])
  refine wpAnyH_take (i := 40) (v := ?va40) rfl (by kernel_rfl) (by kernel_rfl) (by kernel_rfl) (fun _ _ _ h => h) (Or.inl ⟨by rfl, ?hya40⟩) hHeld ?resta40
  case hya40 => intro w hSw; (try dsimp only at hSw); go_simp; try (with_reducible rfl)
  (try simp only [Act.put, List.setIfInBounds_toArray, List.set_cons_zero, List.set_cons_succ, List.getElem_toArray, List.getElem_cons_zero, List.getElem_cons_succ])
  refine wpAnyH_ready (rs := [39]) (by kernel_rfl) (by simp) ?_
  refine AllReadyH.cons rfl (fun Kx hKx => ?_) AllReadyH.nil
  go_simp
  go_at_call 12
  refine (rDistances_any w11).mono ?_
  rintro e w12 ⟨A12, k12, rfl, hO12, hf12⟩
  have HF12 := Lib.hid (HF11.out.trans hf12 (fun _ _ h => h))
  have HS12 := Lib.hid (HS11.out.fr hf12)
  obtain ⟨g', o', rfl, hg', -, r3⟩ := (rws_of (R := dists) rfl hO12).at_ hy30
  rw [← HBX.out.2] at r3
  have HF1112 := Lib.hid hf12
  clear hf12 hO12 hg' 
  have hr2 : w12.cell? ⟨g, o + x * 2 + 1, none⟩ = some (.int .i64 (bx : Int)) := HF1112.out.cell r2 (fun h => h)
  have HF12k := Lib.hid hr2
  clear hr2
  refine hKx.out _ _ ?_ (fun hHeld => ?_)
  · exact ⟨HS12.out.1, HS12.out.2.1, HS12.out.2.2.1, HS12.out.2.2.2.1, HS12.out.2.2.2.2.1, HS12.out.2.2.2.2.2, HF12k.out⟩
  clear hKx Kx
  (try simp only [Act.put, List.setIfInBounds_toArray, List.set_cons_zero, List.set_cons_succ, List.getElem_toArray, List.getElem_cons_zero, List.getElem_cons_succ])
  refine wpAnyH_more (fun w' => w'.cell? ⟨p, 0, none⟩ = some (.int .i64 (sx : Int)) ∧ w'.cell? ⟨p, 1, none⟩ = some (.int .i64 (bx : Int)) ∧ w'.cell? ⟨p, 2, none⟩ = some (.int .u64 (ex : Int)) ∧ w'.cell? ⟨p2, 0, none⟩ = some (.int .i64 (y : Int)) ∧ w'.cell? ⟨p2, 1, none⟩ = some (.int .i64 (cy : Int)) ∧ w'.cell? ⟨p2, 2, none⟩ = some (.int .u64 (fy : Int)) ∧ w'.cell? ⟨g, o + x * 2 + 1, none⟩ = some (.int .i64 (bx : Int)) ∧ w'.cell? ⟨g', o' + y * 2 + 1, none⟩ = some (.int .i64 (cy : Int))) (fun _ h => ⟨h.1, h.2.1, h.2.2.1, h.2.2.2.1, h.2.2.2.2.1, h.2.2.2.2.2.1, h.2.2.2.2.2.2.1⟩) ?_ (fun hHeld => ?_)
  · exact ⟨HS12.out.1, HS12.out.2.1, HS12.out.2.2.1, HS12.out.2.2.2.1, HS12.out.2.2.2.2.1, HS12.out.2.2.2.2.2, HF12k.out, r3⟩
  refine wpAnyH_take (i := 41) (v := ?va41) rfl (by kernel_rfl) (by kernel_rfl) (by kernel_rfl) (fun _ _ _ h => h) (Or.inl ⟨by rfl, ?hya41⟩) hHeld ?resta41
  case hya41 => intro w hSw; (try dsimp only at hSw); go_simp; try (with_reducible rfl)
  (try simp only [Act.put, List.setIfInBounds_toArray, List.set_cons_zero, List.set_cons_succ, List.getElem_toArray, List.getElem_cons_zero, List.getElem_cons_succ])
  refine wpAnyH_take (i := 42) (v := ?va42) rfl (by kernel_rfl) (by kernel_rfl) (by kernel_rfl) (fun _ _ _ h => h) (Or.inl ⟨by rfl, ?hya42⟩) hHeld ?resta42
  case hya42 => intro w hSw; (try dsimp only at hSw); go_simp; try (with_reducible rfl)
  (try simp only [Act.put, List.setIfInBounds_toArray, List.set_cons_zero, List.set_cons_succ, List.getElem_toArray, List.getElem_cons_zero, List.getElem_cons_succ])
  refine wpAnyH_take (i := 43) (v := ?va43) rfl (by kernel_rfl) (by kernel_rfl) (by kernel_rfl) (fun _ _ _ h => h) (Or.inl ⟨by rfl, ?hya43⟩) hHeld ?resta43
  case hya43 => intro w hSw; (try dsimp only at hSw); go_simp; try (with_reducible rfl)
  (try simp only [Act.put, List.setIfInBounds_toArray, List.set_cons_zero, List.set_cons_succ, List.getElem_toArray, List.getElem_cons_zero, List.getElem_cons_succ])
  refine wpAnyH_take (i := 44) (v := ?va44) rfl (by kernel_rfl) (by kernel_rfl) (by kernel_rfl) (fun _ _ _ h => h) (Or.inl ⟨by rfl, ?hya44⟩) hHeld ?resta44
  case hya44 => intro w hSw; (try dsimp only at hSw); go_simp; try (with_reducible rfl)
  (try simp only [Act.put, List.setIfInBounds_toArray, List.set_cons_zero, List.set_cons_succ, List.getElem_toArray, List.getElem_cons_zero, List.getElem_cons_succ])
  refine wpAnyH_take (i := 45) (v := ?va45) rfl (by kernel_rfl) (by kernel_rfl) (by kernel_rfl) (fun _ _ _ h => h) (Or.inl ⟨by rfl, ?hya45⟩) hHeld ?resta45
  case hya45 => intro w hSw; (try dsimp only at hSw); go_simp; try (with_reducible rfl)
  (try simp only [Act.put, List.setIfInBounds_toArray, List.set_cons_zero, List.set_cons_succ, List.getElem_toArray, List.getElem_cons_zero, List.getElem_cons_succ])
  refine wpAnyH_take (i := 46) (v := ?va46) rfl (by kernel_rfl) (by kernel_rfl) (by kernel_rfl) (fun _ _ _ h => h) (Or.inl ⟨by rfl, ?hya46⟩) hHeld ?resta46
  case hya46 => intro w hSw; (try dsimp only at hSw); go_simp; try (with_reducible rfl)
  (try simp only [Act.put, List.setIfInBounds_toArray, List.set_cons_zero, List.set_cons_succ, List.getElem_toArray, List.getElem_cons_zero, List.getElem_cons_succ])
  refine wpAnyH_take (i := 47) (v := ?va47) rfl (by kernel_rfl) (by kernel_rfl) (by kernel_rfl) (fun _ _ _ h => h) (Or.inl ⟨by rfl, ?hya47⟩) hHeld ?resta47
  case hya47 => intro w hSw; (try dsimp only at hSw); go_simp; try (with_reducible rfl)
  (try simp only [Act.put, List.setIfInBounds_toArray, List.set_cons_zero, List.set_cons_succ, List.getElem_toArray, List.getElem_cons_zero, List.getElem_cons_succ])
  refine wpAnyH_take (i := 48) (v := ?va48) rfl (by kernel_rfl) (by kernel_rfl) (by kernel_rfl) (fun _ _ _ h => h) (Or.inl ⟨by rfl, ?hya48⟩) hHeld ?resta48
  case hya48 => intro w hSw; (try dsimp only at hSw); go_simp; try (with_reducible rfl)
  (try simp only [Act.put, List.setIfInBounds_toArray, List.set_cons_zero, List.set_cons_succ, List.getElem_toArray, List.getElem_cons_zero, List.getElem_cons_succ])
  refine wpAnyH_take (i := 49) (v := ?va49) rfl (by kernel_rfl) (by kernel_rfl) (by kernel_rfl) (fun _ _ _ h => h) (Or.inl ⟨by rfl, ?hya49⟩) hHeld ?resta49
  case hya49 => intro w hSw; (try dsimp only at hSw); go_simp; try (with_reducible rfl)
  (try simp only [Act.put, List.setIfInBounds_toArray, List.set_cons_zero, List.set_cons_succ, List.getElem_toArray, List.getElem_cons_zero, List.getElem_cons_succ])
  refine wpAnyH_take (i := 50) (v := ?va50) rfl (by kernel_rfl) (by kernel_rfl) (by kernel_rfl) (fun _ _ _ h => h) (Or.inl ⟨by rfl, ?hya50⟩) hHeld ?resta50
  case hya50 => intro w hSw; (try dsimp only at hSw); go_simp; try (with_reducible rfl)
  (try simp only [Act.put, List.setIfInBounds_toArray, List.set_cons_zero, List.set_cons_succ, List.getElem_toArray, List.getElem_cons_zero, List.getElem_cons_succ])
  refine wpAnyH_take (i := 51) (v := ?va51) rfl (by kernel_rfl) (by kernel_rfl) (by kernel_rfl) (fun _ _ _ h => h) (Or.inl ⟨by rfl, ?hya51⟩) hHeld ?resta51
  case hya51 => intro w hSw; (try dsimp only at hSw); go_simp; try (with_reducible rfl)
  (try simp only [Act.put, List.setIfInBounds_toArray, List.set_cons_zero, List.set_cons_succ, List.getElem_toArray, List.getElem_cons_zero, List.getElem_cons_succ])
  refine wpAnyH_take (i := 52) (v := ?va52) rfl (by kernel_rfl) (by kernel_rfl) (by kernel_rfl) (fun _ _ _ h => h) (Or.inl ⟨by rfl, ?hya52⟩) hHeld ?resta52
  case hya52 => intro w hSw; (try dsimp only at hSw); go_simp; try (with_reducible rfl)
  (try simp only [Act.put, List.setIfInBounds_toArray, List.set_cons_zero, List.set_cons_succ, List.getElem_toArray, List.getElem_cons_zero, List.getElem_cons_succ])
  refine wpAnyH_take (i := 53) (v := ?va53) rfl (by kernel_rfl) (by kernel_rfl) (by kernel_rfl) (fun _ _ _ h => h) (Or.inl ⟨by rfl, ?hya53⟩) hHeld ?resta53
  case hya53 => intro w hSw; (try dsimp only at hSw); go_simp; try (with_reducible rfl)
  (try simp only [Act.put, List.setIfInBounds_toArray, List.set_cons_zero, List.set_cons_succ, List.getElem_toArray, List.getElem_cons_zero, List.getElem_cons_succ])
  refine wpAnyH_done (by kernel_rfl) ?_ _
  go_wp2_with fail
  go_ret
  exact ⟨rfl, HEND.out _ HF12.out⟩
end Go.Proofs.YtamcgenjlndfjaaDoor
