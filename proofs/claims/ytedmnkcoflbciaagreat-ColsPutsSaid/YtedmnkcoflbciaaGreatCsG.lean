/-
  Layer 19, the program: the columns of a sheet; Put (written by gen_csg.py).
-/
import Derived.Test.YtedmnkcoflbciaaGreatZm32
import Derived.Test.YtedmnkcoflbciaaGreatZm28
import Derived.Test.YtedmnkcoflbciaaGreatZm33
namespace Go.Proofs.YtedmnkcoflbciaaGreat
open Go.RowKit Mem Go.Lib LebM UtfM VaM OpM AcM RleM CsM
attribute [local go_sem ↓] Go.wp_at_zero Go.wp_at_succ
set_option linter.unusedVariables false

/-- what a sheet of ops holds -/
def ctsOf (T : List Tx) (l : List O) : List Ct :=
  [ctC (l.map fun o => oneA T o.elem), ctC (l.map keyC), ctW (l.map keyT), ctC (l.map fun o => oneA T o.obj), ctC (l.map fun o => oneC o.obj), ctB (l.map O.ins), ctC (l.map fun o => (true, o.act)), ctV (l.map O.val), ctC (l.map numC), ctC ((prs l).map (oneA T)), ctC ((prs l).map oneC)]
/-- a call made these columns, and turned nothing that was there -/
def ColsOut (w : World) (X : List DirM.Col) (e : Ending) (w' : World) : Prop :=
  ∃ A n c K, e = .returned (.slice A n c) ∧ Cols w' A n K ∧ K.map Cl.v = X ∧ n ≤ c ∧ c ≤ 12 ∧ (∀ x ∈ K, x.c ≤ maxLen) ∧ Fr (fun _ => False) w w'
theorem row_cls {w : World} {base : Nat} {A : Option Addr} {c : Nat} {L : List C} (h : Rw.own w base ⟨ctC L, A, c⟩) : Cls nv w A L.length L := OwnC.cls (T := 77) h
theorem row_clw {w : World} {base : Nat} {A : Option Addr} {c : Nat} {L : List (Bool × List UInt8)} (h : Rw.own w base ⟨ctW L, A, c⟩) : Cls sv w A L.length L := OwnC.cls (T := 80) h
theorem row_bo {w : World} {base : Nat} {A : Option Addr} {c : Nat} {L : List Bool} (h : Rw.own w base ⟨ctB L, A, c⟩) : Rd w A L.length (L.map boc) := Rd.of_own h
theorem row_vl {w : World} {base : Nat} {A : Option Addr} {c : Nat} {L : List V} (h : Rw.own w base ⟨ctV L, A, c⟩) : Vls w A L.length L := OwnV.vls h
set_option maxRecDepth 100000 in
set_option maxHeartbeats 6400000 in
theorem ccolumns_any (g base : Nat) (D : Nat → Prop) (T : List Tx) (l : List O) (w : World) (h : Sheet w base g D (ctsOf T l)) (hfit : Fit T l) :
    Calls Tryz.prog 22 #[.pointer (some ⟨g, 0, none⟩)] w (ColsOut w (putS T l)) := by
  obtain ⟨R, hSh, hRX⟩ := h
  obtain ⟨L0, hL0⟩ : ∃ L, (l.map fun o => oneA T o.elem) = L := ⟨_, rfl⟩
  obtain ⟨L1, hL1⟩ : ∃ L, (l.map keyC) = L := ⟨_, rfl⟩
  obtain ⟨L2, hL2⟩ : ∃ L, (l.map keyT) = L := ⟨_, rfl⟩
  obtain ⟨L3, hL3⟩ : ∃ L, (l.map fun o => oneA T o.obj) = L := ⟨_, rfl⟩
  obtain ⟨L4, hL4⟩ : ∃ L, (l.map fun o => oneC o.obj) = L := ⟨_, rfl⟩
  obtain ⟨L5, hL5⟩ : ∃ L, (l.map O.ins) = L := ⟨_, rfl⟩
  obtain ⟨L6, hL6⟩ : ∃ L, (l.map fun o => ((true, o.act) : C)) = L := ⟨_, rfl⟩
  obtain ⟨L7, hL7⟩ : ∃ L, (l.map O.val) = L := ⟨_, rfl⟩
  obtain ⟨L8, hL8⟩ : ∃ L, (l.map numC) = L := ⟨_, rfl⟩
  obtain ⟨L9, hL9⟩ : ∃ L, ((prs l).map (oneA T)) = L := ⟨_, rfl⟩
  obtain ⟨L10, hL10⟩ : ∃ L, ((prs l).map oneC) = L := ⟨_, rfl⟩
  unfold ctsOf at hRX
  have hll : L0.length ≤ 40000 ∧ L1.length ≤ 40000 ∧ L2.length ≤ 40000 ∧ L3.length ≤ 40000 ∧ L4.length ≤ 40000 ∧ L5.length ≤ 40000 ∧ L6.length ≤ 40000 ∧ L7.length ≤ 40000 ∧ L8.length ≤ 40000 ∧ L9.length ≤ 40000 ∧ L10.length ≤ 40000 := by
    have h1 := hfit.len
    have h2 := hfit.plen
    simp only [← hL0, ← hL1, ← hL2, ← hL3, ← hL4, ← hL5, ← hL6, ← hL7, ← hL8, ← hL9, ← hL10, List.length_map]
    omega
  have hm0 := hfit.m3
  rw [hL0] at hm0
  have hm1 := hfit.m4
  rw [hL1] at hm1
  have hm2 := hfit.m5
  rw [hL2] at hm2
  have hm3 := hfit.m1
  rw [hL3] at hm3
  have hm4 := hfit.m2
  rw [hL4] at hm4
  have hm6 := hfit.m7
  rw [hL6] at hm6
  have hm7 := hfit.m8
  rw [hL7] at hm7
  have hm8 := hfit.m10
  rw [hL8] at hm8
  have hm9 := hfit.m11
  rw [hL9] at hm9
  have hm10 := hfit.m12
  rw [hL10] at hm10
  have hcol : colsA T l = [(1, tU L3), (2, tU L4), (17, tU L0), (19, tD L1), (21, tW L2), (52, BooM.putB L5), (66, tU L6), (86, putM L7), (87, putB L7), (112, tU L8), (113, tU L9), (115, tD L10)] := by
    unfold colsA
    simp only [hL0, hL1, hL2, hL3, hL4, hL5, hL6, hL7, hL8, hL9, hL10]
  have HCOL := Lib.hid hcol
  simp only [hL0, hL1, hL2, hL3, hL4, hL5, hL6, hL7, hL8, hL9, hL10] at hRX
  clear hcol hfit hL0 hL1 hL2 hL3 hL4 hL5 hL6 hL7 hL8 hL9 hL10
  obtain ⟨A0, c0, hr0⟩ := ShT.nth hRX (i := 0) rfl
  have d0 := hSh.cell hr0
  unfold Rw.v at d0
  have h0 := row_cls (hSh.all _ (List.mem_of_getElem? hr0))
  obtain ⟨n0, hn0⟩ : ∃ n, L0.length = n := ⟨_, rfl⟩
  rw [hn0] at hll h0
  rw [show (ctC L0).n = n0 from hn0] at d0
  obtain ⟨A1, c1, hr1⟩ := ShT.nth hRX (i := 1) rfl
  have d1 := hSh.cell hr1
  unfold Rw.v at d1
  have h1 := row_cls (hSh.all _ (List.mem_of_getElem? hr1))
  obtain ⟨n1, hn1⟩ : ∃ n, L1.length = n := ⟨_, rfl⟩
  rw [hn1] at hll h1
  rw [show (ctC L1).n = n1 from hn1] at d1
  obtain ⟨A2, c2, hr2⟩ := ShT.nth hRX (i := 2) rfl
  have d2 := hSh.cell hr2
  unfold Rw.v at d2
  have h2 := row_clw (hSh.all _ (List.mem_of_getElem? hr2))
  obtain ⟨n2, hn2⟩ : ∃ n, L2.length = n := ⟨_, rfl⟩
  rw [hn2] at hll h2
  rw [show (ctW L2).n = n2 from hn2] at d2
  obtain ⟨A3, c3, hr3⟩ := ShT.nth hRX (i := 3) rfl
  have d3 := hSh.cell hr3
  unfold Rw.v at d3
  have h3 := row_cls (hSh.all _ (List.mem_of_getElem? hr3))
  obtain ⟨n3, hn3⟩ : ∃ n, L3.length = n := ⟨_, rfl⟩
  rw [hn3] at hll h3
  rw [show (ctC L3).n = n3 from hn3] at d3
  obtain ⟨A4, c4, hr4⟩ := ShT.nth hRX (i := 4) rfl
  have d4 := hSh.cell hr4
  unfold Rw.v at d4
  have h4 := row_cls (hSh.all _ (List.mem_of_getElem? hr4))
  obtain ⟨n4, hn4⟩ : ∃ n, L4.length = n := ⟨_, rfl⟩
  rw [hn4] at hll h4
  rw [show (ctC L4).n = n4 from hn4] at d4
  obtain ⟨A5, c5, hr5⟩ := ShT.nth hRX (i := 5) rfl
  have d5 := hSh.cell hr5
  unfold Rw.v at d5
  have h5 := row_bo (hSh.all _ (List.mem_of_getElem? hr5))
  obtain ⟨n5, hn5⟩ : ∃ n, L5.length = n := ⟨_, rfl⟩
  rw [hn5] at hll h5
  rw [show (ctB L5).n = n5 from hn5] at d5
  obtain ⟨A6, c6, hr6⟩ := ShT.nth hRX (i := 6) rfl
  have d6 := hSh.cell hr6
  unfold Rw.v at d6
  have h6 := row_cls (hSh.all _ (List.mem_of_getElem? hr6))
  obtain ⟨n6, hn6⟩ : ∃ n, L6.length = n := ⟨_, rfl⟩
  rw [hn6] at hll h6
  rw [show (ctC L6).n = n6 from hn6] at d6
  obtain ⟨A7, c7, hr7⟩ := ShT.nth hRX (i := 7) rfl
  have d7 := hSh.cell hr7
  unfold Rw.v at d7
  have h7 := row_vl (hSh.all _ (List.mem_of_getElem? hr7))
  obtain ⟨n7, hn7⟩ : ∃ n, L7.length = n := ⟨_, rfl⟩
  rw [hn7] at hll h7
  rw [show (ctV L7).n = n7 from hn7] at d7
  obtain ⟨A8, c8, hr8⟩ := ShT.nth hRX (i := 8) rfl
  have d8 := hSh.cell hr8
  unfold Rw.v at d8
  have h8 := row_cls (hSh.all _ (List.mem_of_getElem? hr8))
  obtain ⟨n8, hn8⟩ : ∃ n, L8.length = n := ⟨_, rfl⟩
  rw [hn8] at hll h8
  rw [show (ctC L8).n = n8 from hn8] at d8
  obtain ⟨A9, c9, hr9⟩ := ShT.nth hRX (i := 9) rfl
  have d9 := hSh.cell hr9
  unfold Rw.v at d9
  have h9 := row_cls (hSh.all _ (List.mem_of_getElem? hr9))
  obtain ⟨n9, hn9⟩ : ∃ n, L9.length = n := ⟨_, rfl⟩
  rw [hn9] at hll h9
  rw [show (ctC L9).n = n9 from hn9] at d9
  obtain ⟨A10, c10, hr10⟩ := ShT.nth hRX (i := 10) rfl
  have d10 := hSh.cell hr10
  unfold Rw.v at d10
  have h10 := row_cls (hSh.all _ (List.mem_of_getElem? hr10))
  obtain ⟨n10, hn10⟩ : ∃ n, L10.length = n := ⟨_, rfl⟩
  rw [hn10] at hll h10
  rw [show (ctC L10).n = n10 from hn10] at d10
  have H0 := Lib.hid h0
  have H1 := Lib.hid h1
  have H2 := Lib.hid h2
  have H3 := Lib.hid h3
  have H4 := Lib.hid h4
  have H5 := Lib.hid h5
  have H6 := Lib.hid h6
  have H7 := Lib.hid h7
  have H8 := Lib.hid h8
  have H9 := Lib.hid h9
  have H10 := Lib.hid h10
  have HM0 := Lib.hid hm0
  have HM1 := Lib.hid hm1
  have HM2 := Lib.hid hm2
  have HM3 := Lib.hid hm3
  have HM4 := Lib.hid hm4
  have HM6 := Lib.hid hm6
  have HM7 := Lib.hid hm7
  have HM8 := Lib.hid hm8
  have HM9 := Lib.hid hm9
  have HM10 := Lib.hid hm10
  clear h0 hr0 hn0 h1 hr1 hn1 h2 hr2 hn2 h3 hr3 hn3 h4 hr4 hn4 h5 hr5 hn5 h6 hr6 hn6 h7 hr7 hn7 h8 hr8 hn8 h9 hr9 hn9 h10 hr10 hn10
  clear hm0 hm1 hm2 hm3 hm4 hm6 hm7 hm8 hm9 hm10 hRX hSh
  have HLL := Lib.hid hll
  have HC : Hid (∀ w', Fr (fun _ => False) w w' → w'.cell? ⟨g, 0, none⟩ = some (.slice A0 n0 c0) ∧ w'.cell? ⟨g, 1, none⟩ = some (.slice A1 n1 c1) ∧ w'.cell? ⟨g, 2, none⟩ = some (.slice A2 n2 c2) ∧ w'.cell? ⟨g, 3, none⟩ = some (.slice A3 n3 c3) ∧ w'.cell? ⟨g, 4, none⟩ = some (.slice A4 n4 c4) ∧ w'.cell? ⟨g, 5, none⟩ = some (.slice A5 n5 c5) ∧ w'.cell? ⟨g, 6, none⟩ = some (.slice A6 n6 c6) ∧ w'.cell? ⟨g, 7, none⟩ = some (.slice A7 n7 c7) ∧ w'.cell? ⟨g, 8, none⟩ = some (.slice A8 n8 c8) ∧ w'.cell? ⟨g, 9, none⟩ = some (.slice A9 n9 c9) ∧ w'.cell? ⟨g, 10, none⟩ = some (.slice A10 n10 c10)) := Lib.hid (fun w' hf => ⟨hf.cell d0 (fun h => h), hf.cell d1 (fun h => h), hf.cell d2 (fun h => h), hf.cell d3 (fun h => h), hf.cell d4 (fun h => h), hf.cell d5 (fun h => h), hf.cell d6 (fun h => h), hf.cell d7 (fun h => h), hf.cell d8 (fun h => h), hf.cell d9 (fun h => h), hf.cell d10 (fun h => h)⟩)
  clear hll
  have hp0 : ∀ w', Fr (fun _ => False) w w' → Calls Tryz.prog 50 #[.slice A3 n3 c3] w' (Gives w' (tU L3)) := fun w' hf => pPut_any A3 n3 c3 L3 w' (H3.out.fr hf (fun _ _ h => h)) (by have := HLL.out; omega) (fun x hx => (HM3.out x hx).2)
  have hp1 : ∀ w', Fr (fun _ => False) w w' → Calls Tryz.prog 50 #[.slice A4 n4 c4] w' (Gives w' (tU L4)) := fun w' hf => pPut_any A4 n4 c4 L4 w' (H4.out.fr hf (fun _ _ h => h)) (by have := HLL.out; omega) (fun x hx => (HM4.out x hx).2)
  have hp2 : ∀ w', Fr (fun _ => False) w w' → Calls Tryz.prog 50 #[.slice A0 n0 c0] w' (Gives w' (tU L0)) := fun w' hf => pPut_any A0 n0 c0 L0 w' (H0.out.fr hf (fun _ _ h => h)) (by have := HLL.out; omega) (fun x hx => (HM0.out x hx).2)
  have hp3 : ∀ w', Fr (fun _ => False) w w' → Calls Tryz.prog 51 #[.slice A1 n1 c1] w' (Gives w' (tD L1)) := fun w' hf => dPut_any A1 n1 c1 L1 w' (H1.out.fr hf (fun _ _ h => h)) (by have := HLL.out; omega) (HM1.out)
  have hp4 : ∀ w', Fr (fun _ => False) w w' → Calls Tryz.prog 52 #[.slice A2 n2 c2] w' (Gives w' (tW L2)) := fun w' hf => pPutW_any A2 n2 c2 L2 w' (H2.out.fr hf (fun _ _ h => h)) (by have := HLL.out; omega) (fun x hx => (HM2.out x hx).1.2)
  have hp5 : ∀ w', Fr (fun _ => False) w w' → Calls Tryz.prog 53 #[.slice A5 n5 c5] w' (Gives w' (BooM.putB L5)) := fun w' hf => bPut_any A5 n5 c5 L5 w' (H5.out.fr hf (fun _ _ h => h)) (by have := HLL.out; omega)
  have hp6 : ∀ w', Fr (fun _ => False) w w' → Calls Tryz.prog 50 #[.slice A6 n6 c6] w' (Gives w' (tU L6)) := fun w' hf => pPut_any A6 n6 c6 L6 w' (H6.out.fr hf (fun _ _ h => h)) (by have := HLL.out; omega) (fun x hx => (HM6.out x hx).2)
  have hp9 : ∀ w', Fr (fun _ => False) w w' → Calls Tryz.prog 50 #[.slice A8 n8 c8] w' (Gives w' (tU L8)) := fun w' hf => pPut_any A8 n8 c8 L8 w' (H8.out.fr hf (fun _ _ h => h)) (by have := HLL.out; omega) (fun x hx => (HM8.out x hx).2)
  have hp10 : ∀ w', Fr (fun _ => False) w w' → Calls Tryz.prog 50 #[.slice A9 n9 c9] w' (Gives w' (tU L9)) := fun w' hf => pPut_any A9 n9 c9 L9 w' (H9.out.fr hf (fun _ _ h => h)) (by have := HLL.out; omega) (fun x hx => (HM9.out x hx).2)
  have hp11 : ∀ w', Fr (fun _ => False) w w' → Calls Tryz.prog 51 #[.slice A10 n10 c10] w' (Gives w' (tD L10)) := fun w' hf => dPut_any A10 n10 c10 L10 w' (H10.out.fr hf (fun _ _ h => h)) (by have := HLL.out; omega) (HM10.out)
  have hraw : Calls Tryz.prog 49 #[.slice A7 n7 c7] w (Both w (putM L7) (putB L7)) := wPut_any A7 n7 c7 L7 w H7.out (by have := HLL.out; omega) HM7.out
  have hcol := HCOL.out
  obtain ⟨B0, hB0⟩ : ∃ B, tU L3 = B := ⟨_, rfl⟩
  rw [hB0] at hcol
  rw [hB0] at hp0
  have HP0 := Lib.hid hp0
  obtain ⟨B1, hB1⟩ : ∃ B, tU L4 = B := ⟨_, rfl⟩
  rw [hB1] at hcol
  rw [hB1] at hp1
  have HP1 := Lib.hid hp1
  obtain ⟨B2, hB2⟩ : ∃ B, tU L0 = B := ⟨_, rfl⟩
  rw [hB2] at hcol
  rw [hB2] at hp2
  have HP2 := Lib.hid hp2
  obtain ⟨B3, hB3⟩ : ∃ B, tD L1 = B := ⟨_, rfl⟩
  rw [hB3] at hcol
  rw [hB3] at hp3
  have HP3 := Lib.hid hp3
  obtain ⟨B4, hB4⟩ : ∃ B, tW L2 = B := ⟨_, rfl⟩
  rw [hB4] at hcol
  rw [hB4] at hp4
  have HP4 := Lib.hid hp4
  obtain ⟨B5, hB5⟩ : ∃ B, BooM.putB L5 = B := ⟨_, rfl⟩
  rw [hB5] at hcol
  rw [hB5] at hp5
  have HP5 := Lib.hid hp5
  obtain ⟨B6, hB6⟩ : ∃ B, tU L6 = B := ⟨_, rfl⟩
  rw [hB6] at hcol
  rw [hB6] at hp6
  have HP6 := Lib.hid hp6
  obtain ⟨B7, hB7⟩ : ∃ B, putM L7 = B := ⟨_, rfl⟩
  rw [hB7] at hcol
  rw [hB7] at hraw
  obtain ⟨B8, hB8⟩ : ∃ B, putB L7 = B := ⟨_, rfl⟩
  rw [hB8] at hcol
  rw [hB8] at hraw
  obtain ⟨B9, hB9⟩ : ∃ B, tU L8 = B := ⟨_, rfl⟩
  rw [hB9] at hcol
  rw [hB9] at hp9
  have HP9 := Lib.hid hp9
  obtain ⟨B10, hB10⟩ : ∃ B, tU L9 = B := ⟨_, rfl⟩
  rw [hB10] at hcol
  rw [hB10] at hp10
  have HP10 := Lib.hid hp10
  obtain ⟨B11, hB11⟩ : ∃ B, tD L10 = B := ⟨_, rfl⟩
  rw [hB11] at hcol
  rw [hB11] at hp11
  have HP11 := Lib.hid hp11
  have HRAW := Lib.hid hraw
  have HCO := Lib.hid hcol
  clear hcol hraw HCOL hB0 hB1 hB2 hB3 hB4 hB5 hB6 hB7 hB8 hB9 hB10 hB11 hp0 hp1 hp2 hp3 hp4 hp5 hp6 hp9 hp10 hp11 H0 H1 H2 H3 H4 H5 H6 H7 H8 H9 H10 HM0 HM1 HM2 HM3 HM4 HM6 HM7 HM8 HM9 HM10 HLL
  go_enter Tryz.func22, Tryz.ntmps22
  go_wp2_with fail
  refine HRAW.out.mono ?_
  rintro e w1 ⟨P7, q7, P8, q8, rfl, ho7, ho8, hf1⟩
  have HY7 := Lib.hid (ho7.byt 86)
  have HY8 := Lib.hid (ho8.byt 87)
  have HQ7 := Lib.hid ho7.cap.2
  have HQ8 := Lib.hid ho8.cap.2
  have HF1 := Lib.hid hf1
  clear ho7 ho8 hf1 d0 d1 d2 d3 d4 d5 d6 d7 d8 d9 d10
  go_upto_region 2 with fail
  refine wp_region_held_drew (S := fun w' => w'.cell? ⟨g, 0, none⟩ = some (.slice A0 n0 c0) ∧ w'.cell? ⟨g, 1, none⟩ = some (.slice A1 n1 c1) ∧ w'.cell? ⟨g, 2, none⟩ = some (.slice A2 n2 c2) ∧ w'.cell? ⟨g, 3, none⟩ = some (.slice A3 n3 c3) ∧ w'.cell? ⟨g, 4, none⟩ = some (.slice A4 n4 c4) ∧ w'.cell? ⟨g, 5, none⟩ = some (.slice A5 n5 c5) ∧ w'.cell? ⟨g, 6, none⟩ = some (.slice A6 n6 c6) ∧ w'.cell? ⟨g, 7, none⟩ = some (.slice A7 n7 c7) ∧ w'.cell? ⟨g, 8, none⟩ = some (.slice A8 n8 c8) ∧ w'.cell? ⟨g, 9, none⟩ = some (.slice A9 n9 c9) ∧ w'.cell? ⟨g, 10, none⟩ = some (.slice A10 n10 c10)) (by kernel_rfl) (HC.out _ HF1.out.drew) (fun hH => ?_)
  refine tk 0 hH ?_
  refine tk 1 hH ?_
  refine tk 2 hH ?_
  refine tk 3 hH ?_
  refine tk 4 hH ?_
  refine tk 7 hH ?_
  refine tk 8 hH ?_
  refine tk 9 hH ?_
  refine tk 10 hH ?_
  refine tk 11 hH ?_
  refine tk 14 hH ?_
  refine tk 15 hH ?_
  refine tk 16 hH ?_
  refine tk 17 hH ?_
  refine tk 18 hH ?_
  refine tk 19 hH ?_
  refine tk 22 hH ?_
  refine tk 23 hH ?_
  refine tk 24 hH ?_
  refine tk 25 hH ?_
  refine tk 26 hH ?_
  refine tk 27 hH ?_
  refine tk 30 hH ?_
  refine tk 31 hH ?_
  refine tk 32 hH ?_
  refine tk 33 hH ?_
  refine tk 34 hH ?_
  refine tk 37 hH ?_
  refine tk 38 hH ?_
  refine tk 39 hH ?_
  refine tk 40 hH ?_
  refine tk 43 hH ?_
  refine tk 44 hH ?_
  refine tk 45 hH ?_
  refine tk 46 hH ?_
  refine tk 49 hH ?_
  refine tk 50 hH ?_
  refine tk 51 hH ?_
  refine tk 52 hH ?_
  refine tk 53 hH ?_
  refine tk 54 hH ?_
  refine tk 55 hH ?_
  refine tk 56 hH ?_
  refine tk 59 hH ?_
  refine tk 60 hH ?_
  refine tk 61 hH ?_
  refine tk 62 hH ?_
  refine tk 63 hH ?_
  refine tk 66 hH ?_
  refine tk 67 hH ?_
  refine tk 68 hH ?_
  refine tk 69 hH ?_
  refine tk 70 hH ?_
  clear hH
  refine rd1 5 (fun K hK => ?_)
  go_simp
  refine (HP0.out _ HF1.out.drew).mono ?_
  rintro e w2 ⟨P0, q0, rfl, ho, hf⟩
  have hf := (Fr.refl (fun _ => False) w1).drew.trans hf (fun _ _ h => h)
  have HF2 := Lib.hid (HF1.out.trans hf (fun _ _ h => h))
  have HY0 := Lib.hid (ho.byt 1)
  have HQ0 := Lib.hid ho.cap.2
  replace HY7 := Lib.hid (HY7.out.fr hf (fun _ _ _ _ h => h))
  replace HY8 := Lib.hid (HY8.out.fr hf (fun _ _ _ _ h => h))
  refine hK.out _ _ (HC.out _ HF2.out) ?_
  clear hK K ho hf HF1 HP0
  refine tk 6 (HC.out _ HF2.out) ?_
  refine rd1 12 (fun K hK => ?_)
  go_simp
  refine (HP1.out _ HF2.out).mono ?_
  rintro e w3 ⟨P1, q1, rfl, ho, hf⟩
  have HF3 := Lib.hid (HF2.out.trans hf (fun _ _ h => h))
  have HY1 := Lib.hid (ho.byt 2)
  have HQ1 := Lib.hid ho.cap.2
  replace HY7 := Lib.hid (HY7.out.fr hf (fun _ _ _ _ h => h))
  replace HY8 := Lib.hid (HY8.out.fr hf (fun _ _ _ _ h => h))
  replace HY0 := Lib.hid (HY0.out.fr hf (fun _ _ _ _ h => h))
  refine hK.out _ _ (HC.out _ HF3.out) ?_
  clear hK K ho hf HF2 HP1
  refine tk 13 (HC.out _ HF3.out) ?_
  refine rd1 20 (fun K hK => ?_)
  go_simp
  refine (HP2.out _ HF3.out).mono ?_
  rintro e w4 ⟨P2, q2, rfl, ho, hf⟩
  have HF4 := Lib.hid (HF3.out.trans hf (fun _ _ h => h))
  have HY2 := Lib.hid (ho.byt 17)
  have HQ2 := Lib.hid ho.cap.2
  replace HY7 := Lib.hid (HY7.out.fr hf (fun _ _ _ _ h => h))
  replace HY8 := Lib.hid (HY8.out.fr hf (fun _ _ _ _ h => h))
  replace HY0 := Lib.hid (HY0.out.fr hf (fun _ _ _ _ h => h))
  replace HY1 := Lib.hid (HY1.out.fr hf (fun _ _ _ _ h => h))
  refine hK.out _ _ (HC.out _ HF4.out) ?_
  clear hK K ho hf HF3 HP2
  refine tk 21 (HC.out _ HF4.out) ?_
  refine rd1 28 (fun K hK => ?_)
  go_simp
  refine (HP3.out _ HF4.out).mono ?_
  rintro e w5 ⟨P3, q3, rfl, ho, hf⟩
  have HF5 := Lib.hid (HF4.out.trans hf (fun _ _ h => h))
  have HY3 := Lib.hid (ho.byt 19)
  have HQ3 := Lib.hid ho.cap.2
  replace HY7 := Lib.hid (HY7.out.fr hf (fun _ _ _ _ h => h))
  replace HY8 := Lib.hid (HY8.out.fr hf (fun _ _ _ _ h => h))
  replace HY0 := Lib.hid (HY0.out.fr hf (fun _ _ _ _ h => h))
  replace HY1 := Lib.hid (HY1.out.fr hf (fun _ _ _ _ h => h))
  replace HY2 := Lib.hid (HY2.out.fr hf (fun _ _ _ _ h => h))
  refine hK.out _ _ (HC.out _ HF5.out) ?_
  clear hK K ho hf HF4 HP3
  refine tk 29 (HC.out _ HF5.out) ?_
  refine rd1 35 (fun K hK => ?_)
  go_simp
  refine (HP4.out _ HF5.out).mono ?_
  rintro e w6 ⟨P4, q4, rfl, ho, hf⟩
  have HF6 := Lib.hid (HF5.out.trans hf (fun _ _ h => h))
  have HY4 := Lib.hid (ho.byt 21)
  have HQ4 := Lib.hid ho.cap.2
  replace HY7 := Lib.hid (HY7.out.fr hf (fun _ _ _ _ h => h))
  replace HY8 := Lib.hid (HY8.out.fr hf (fun _ _ _ _ h => h))
  replace HY0 := Lib.hid (HY0.out.fr hf (fun _ _ _ _ h => h))
  replace HY1 := Lib.hid (HY1.out.fr hf (fun _ _ _ _ h => h))
  replace HY2 := Lib.hid (HY2.out.fr hf (fun _ _ _ _ h => h))
  replace HY3 := Lib.hid (HY3.out.fr hf (fun _ _ _ _ h => h))
  refine hK.out _ _ (HC.out _ HF6.out) ?_
  clear hK K ho hf HF5 HP4
  refine tk 36 (HC.out _ HF6.out) ?_
  refine rd1 41 (fun K hK => ?_)
  go_simp
  refine (HP5.out _ HF6.out).mono ?_
  rintro e w7 ⟨P5, q5, rfl, ho, hf⟩
  have HF7 := Lib.hid (HF6.out.trans hf (fun _ _ h => h))
  have HY5 := Lib.hid (ho.byt 52)
  have HQ5 := Lib.hid ho.cap.2
  replace HY7 := Lib.hid (HY7.out.fr hf (fun _ _ _ _ h => h))
  replace HY8 := Lib.hid (HY8.out.fr hf (fun _ _ _ _ h => h))
  replace HY0 := Lib.hid (HY0.out.fr hf (fun _ _ _ _ h => h))
  replace HY1 := Lib.hid (HY1.out.fr hf (fun _ _ _ _ h => h))
  replace HY2 := Lib.hid (HY2.out.fr hf (fun _ _ _ _ h => h))
  replace HY3 := Lib.hid (HY3.out.fr hf (fun _ _ _ _ h => h))
  replace HY4 := Lib.hid (HY4.out.fr hf (fun _ _ _ _ h => h))
  refine hK.out _ _ (HC.out _ HF7.out) ?_
  clear hK K ho hf HF6 HP5
  refine tk 42 (HC.out _ HF7.out) ?_
  refine rd1 47 (fun K hK => ?_)
  go_simp
  refine (HP6.out _ HF7.out).mono ?_
  rintro e w8 ⟨P6, q6, rfl, ho, hf⟩
  have HF8 := Lib.hid (HF7.out.trans hf (fun _ _ h => h))
  have HY6 := Lib.hid (ho.byt 66)
  have HQ6 := Lib.hid ho.cap.2
  replace HY7 := Lib.hid (HY7.out.fr hf (fun _ _ _ _ h => h))
  replace HY8 := Lib.hid (HY8.out.fr hf (fun _ _ _ _ h => h))
  replace HY0 := Lib.hid (HY0.out.fr hf (fun _ _ _ _ h => h))
  replace HY1 := Lib.hid (HY1.out.fr hf (fun _ _ _ _ h => h))
  replace HY2 := Lib.hid (HY2.out.fr hf (fun _ _ _ _ h => h))
  replace HY3 := Lib.hid (HY3.out.fr hf (fun _ _ _ _ h => h))
  replace HY4 := Lib.hid (HY4.out.fr hf (fun _ _ _ _ h => h))
  replace HY5 := Lib.hid (HY5.out.fr hf (fun _ _ _ _ h => h))
  refine hK.out _ _ (HC.out _ HF8.out) ?_
  clear hK K ho hf HF7 HP6
  refine tk 48 (HC.out _ HF8.out) ?_
  refine rd1 57 (fun K hK => ?_)
  go_simp
  refine (HP9.out _ HF8.out).mono ?_
  rintro e w9 ⟨P9, q9, rfl, ho, hf⟩
  have HF9 := Lib.hid (HF8.out.trans hf (fun _ _ h => h))
  have HY9 := Lib.hid (ho.byt 112)
  have HQ9 := Lib.hid ho.cap.2
  replace HY7 := Lib.hid (HY7.out.fr hf (fun _ _ _ _ h => h))
  replace HY8 := Lib.hid (HY8.out.fr hf (fun _ _ _ _ h => h))
  replace HY0 := Lib.hid (HY0.out.fr hf (fun _ _ _ _ h => h))
  replace HY1 := Lib.hid (HY1.out.fr hf (fun _ _ _ _ h => h))
  replace HY2 := Lib.hid (HY2.out.fr hf (fun _ _ _ _ h => h))
  replace HY3 := Lib.hid (HY3.out.fr hf (fun _ _ _ _ h => h))
  replace HY4 := Lib.hid (HY4.out.fr hf (fun _ _ _ _ h => h))
  replace HY5 := Lib.hid (HY5.out.fr hf (fun _ _ _ _ h => h))
  replace HY6 := Lib.hid (HY6.out.fr hf (fun _ _ _ _ h => h))
  refine hK.out _ _ (HC.out _ HF9.out) ?_
  clear hK K ho hf HF8 HP9
  refine tk 58 (HC.out _ HF9.out) ?_
  refine rd1 64 (fun K hK => ?_)
  go_simp
  refine (HP10.out _ HF9.out).mono ?_
  rintro e w10 ⟨P10, q10, rfl, ho, hf⟩
  have HF10 := Lib.hid (HF9.out.trans hf (fun _ _ h => h))
  have HY10 := Lib.hid (ho.byt 113)
  have HQ10 := Lib.hid ho.cap.2
  replace HY7 := Lib.hid (HY7.out.fr hf (fun _ _ _ _ h => h))
  replace HY8 := Lib.hid (HY8.out.fr hf (fun _ _ _ _ h => h))
  replace HY0 := Lib.hid (HY0.out.fr hf (fun _ _ _ _ h => h))
  replace HY1 := Lib.hid (HY1.out.fr hf (fun _ _ _ _ h => h))
  replace HY2 := Lib.hid (HY2.out.fr hf (fun _ _ _ _ h => h))
  replace HY3 := Lib.hid (HY3.out.fr hf (fun _ _ _ _ h => h))
  replace HY4 := Lib.hid (HY4.out.fr hf (fun _ _ _ _ h => h))
  replace HY5 := Lib.hid (HY5.out.fr hf (fun _ _ _ _ h => h))
  replace HY6 := Lib.hid (HY6.out.fr hf (fun _ _ _ _ h => h))
  replace HY9 := Lib.hid (HY9.out.fr hf (fun _ _ _ _ h => h))
  refine hK.out _ _ (HC.out _ HF10.out) ?_
  clear hK K ho hf HF9 HP10
  refine tk 65 (HC.out _ HF10.out) ?_
  refine rd1 71 (fun K hK => ?_)
  go_simp
  refine (HP11.out _ HF10.out).mono ?_
  rintro e w11 ⟨P11, q11, rfl, ho, hf⟩
  have HF11 := Lib.hid (HF10.out.trans hf (fun _ _ h => h))
  have HY11 := Lib.hid (ho.byt 115)
  have HQ11 := Lib.hid ho.cap.2
  replace HY7 := Lib.hid (HY7.out.fr hf (fun _ _ _ _ h => h))
  replace HY8 := Lib.hid (HY8.out.fr hf (fun _ _ _ _ h => h))
  replace HY0 := Lib.hid (HY0.out.fr hf (fun _ _ _ _ h => h))
  replace HY1 := Lib.hid (HY1.out.fr hf (fun _ _ _ _ h => h))
  replace HY2 := Lib.hid (HY2.out.fr hf (fun _ _ _ _ h => h))
  replace HY3 := Lib.hid (HY3.out.fr hf (fun _ _ _ _ h => h))
  replace HY4 := Lib.hid (HY4.out.fr hf (fun _ _ _ _ h => h))
  replace HY5 := Lib.hid (HY5.out.fr hf (fun _ _ _ _ h => h))
  replace HY6 := Lib.hid (HY6.out.fr hf (fun _ _ _ _ h => h))
  replace HY9 := Lib.hid (HY9.out.fr hf (fun _ _ _ _ h => h))
  replace HY10 := Lib.hid (HY10.out.fr hf (fun _ _ _ _ h => h))
  refine hK.out _ _ (HC.out _ HF11.out) ?_
  clear hK K ho hf HF10 HP11
  refine tk 72 (HC.out _ HF11.out) ?_
  refine rd1 73 (fun K hK => ?_)
  go_simp
  obtain ⟨ga, hga⟩ : ∃ r, w11.heap.size = r := ⟨_, rfl⟩
  obtain ⟨wf, hwf⟩ : ∃ y, w11.alloc (.cells #[.int .i64 1, .slice P0 B0.length q0, .int .i64 2, .slice P1 B1.length q1, .int .i64 17, .slice P2 B2.length q2, .int .i64 19, .slice P3 B3.length q3, .int .i64 21, .slice P4 B4.length q4, .int .i64 52, .slice P5 B5.length q5, .int .i64 66, .slice P6 B6.length q6, .int .i64 86, .slice P7 B7.length q7, .int .i64 87, .slice P8 B8.length q8, .int .i64 112, .slice P9 B9.length q9, .int .i64 113, .slice P10 B10.length q10, .int .i64 115, .slice P11 B11.length q11] 37) = y := ⟨_, rfl⟩
  rw [hga, hwf]
  have hff : Fr (fun _ => False) w11 wf := by rw [← hwf]; exact (Fr.refl _ _).alloc _
  obtain ⟨K, hK2⟩ : ∃ K : List Cl, [⟨1, P0, q0, B0⟩, ⟨2, P1, q1, B1⟩, ⟨17, P2, q2, B2⟩, ⟨19, P3, q3, B3⟩, ⟨21, P4, q4, B4⟩, ⟨52, P5, q5, B5⟩, ⟨66, P6, q6, B6⟩, ⟨86, P7, q7, B7⟩, ⟨87, P8, q8, B8⟩, ⟨112, P9, q9, B9⟩, ⟨113, P10, q10, B10⟩, ⟨115, P11, q11, B11⟩] = K := ⟨_, rfl⟩
  have hrow : Row wf ga 37 (K.flatMap pc) := by rw [← hK2, ← hwf, ← hga]; exact Row.new w11 _ _
  have hkl : K.length = 12 := by rw [← hK2]; rfl
  have hkv : K.map Cl.v = colsA T l := by rw [← hK2, HCO.out]; rfl
  have hky : ∀ x ∈ K, Byt wf x ∧ x.c ≤ maxLen := by
    intro x hx
    rw [← hK2] at hx
    simp only [List.mem_cons, List.not_mem_nil, or_false] at hx
    rcases hx with rfl | rfl | rfl | rfl | rfl | rfl | rfl | rfl | rfl | rfl | rfl | rfl
    · exact ⟨HY0.out.fr hff (fun _ _ _ _ h => h), HQ0.out⟩
    · exact ⟨HY1.out.fr hff (fun _ _ _ _ h => h), HQ1.out⟩
    · exact ⟨HY2.out.fr hff (fun _ _ _ _ h => h), HQ2.out⟩
    · exact ⟨HY3.out.fr hff (fun _ _ _ _ h => h), HQ3.out⟩
    · exact ⟨HY4.out.fr hff (fun _ _ _ _ h => h), HQ4.out⟩
    · exact ⟨HY5.out.fr hff (fun _ _ _ _ h => h), HQ5.out⟩
    · exact ⟨HY6.out.fr hff (fun _ _ _ _ h => h), HQ6.out⟩
    · exact ⟨HY7.out.fr hff (fun _ _ _ _ h => h), HQ7.out⟩
    · exact ⟨HY8.out.fr hff (fun _ _ _ _ h => h), HQ8.out⟩
    · exact ⟨HY9.out.fr hff (fun _ _ _ _ h => h), HQ9.out⟩
    · exact ⟨HY10.out.fr hff (fun _ _ _ _ h => h), HQ10.out⟩
    · exact ⟨HY11.out.fr hff (fun _ _ _ _ h => h), HQ11.out⟩
  have HFF := Lib.hid (HF11.out.trans hff (fun _ _ h => h))
  have HGA : Hid (w.heap.size ≤ ga) := Lib.hid (by rw [← hga]; exact HF11.out.size)
  have HROW := Lib.hid hrow
  have HKK := Lib.hid (And.intro hkl (And.intro hkv hky))
  refine hK.out _ _ (HC.out _ HFF.out) ?_
  clear hK hwf hga hff hK2 hrow hkl hkv hky HY0 HQ0 HY1 HQ1 HY2 HQ2 HY3 HQ3 HY4 HQ4 HY5 HQ5 HY6 HQ6 HY7 HQ7 HY8 HQ8 HY9 HQ9 HY10 HQ10 HY11 HQ11 HF11 HCO
  refine tk 74 (HC.out _ HFF.out) ?_
  refine wpAnyH_done (by kernel_rfl) ?_ _
  go_wp2_with fail
  refine (deleteF_any ga 12 K wf HROW.out HKK.out.1 (by omega)).mono ?_
  rintro e wz ⟨rfl, hcz, hfz⟩
  have HCZ := Lib.hid hcz
  have HFZ := Lib.hid hfz
  clear hcz hfz
  go_wp2_with fail
  refine bodyPost_ret (v := .slice (some ⟨ga, 0, none⟩) (K.filter fullB).length 12) (by simp [results, Tryz.results22, go_sem]) rfl ⟨_, _, _, K.filter fullB, rfl, ⟨⟨rfl, fun k x hk => ?_⟩, fun x hx => ?_⟩, ?_, ?_, Nat.le_refl _, fun x hx => (HKK.out.2.2 x (List.mem_filter.1 hx).1).2, ?_⟩
  · have hkl := (List.getElem?_eq_some_iff.1 hk).1
    obtain ⟨p0, p1⟩ := pc_at _ k x hk
    exact ⟨ga, 0, rfl, Nat.lt_of_lt_of_le HROW.out.lt HFZ.out.size, by rw [Nat.zero_add]; exact HCZ.out _ _ (by omega) p0, by rw [Nat.zero_add]; exact HCZ.out _ _ (by omega) p1⟩
  · refine (HKK.out.2.2 x (List.mem_filter.1 hx).1).1.fr HFZ.out (fun k cs m hk e => ?_)
    rw [e] at hk
    have h1 : wf.heap[ga]? = _ := HROW.out
    rw [h1] at hk
    injection hk with hk
    injection hk with _ hk
    exact absurd hk (by decide)
  · unfold putS DirM.full
    rw [← HKK.out.2.1, List.filter_map]
    rfl
  · have h1 := List.length_filter_le fullB K
    have h2 := HKK.out.1
    omega
  · exact HFF.out.trans HFZ.out (fun k hk e => by have := HGA.out; omega)
end Go.Proofs.YtedmnkcoflbciaaGreat
