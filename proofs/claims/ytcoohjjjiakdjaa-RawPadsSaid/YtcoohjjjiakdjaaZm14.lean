/-
  Layer 11, the program: a reader's run of like cells (written by gen11.py out of rleN.src).
  Layer 11, the program: a reader's run of unlike cells (written by gen11.py out of rleO.src).
-/
import Derived.Test.YtcoohjjjiakdjaaZm13
namespace Go.Proofs.Ytcoohjjjiakdjaa
open Go.RowKit Mem Go.Lib RleM LebM
attribute [local go_sem ↓] Go.wp_at_zero Go.wp_at_succ
set_option linter.unusedVariables false

def fpU : Value := .func (.func 53) #[] #[]
def fgU : Value := .func (.func 54) #[] #[]
/-- the reader of this kind *-/
abbrev RdU (w : World) (base g : Nat) (most : Int) (r : Rs (Bool × Int)) : Prop := Rdr nv 102 97 fpU fgU w base g most r
abbrev EndsU (base g : Nat) (most : Int) (res : Except Nat (Rs (Bool × Int))) (e : Ending) (w : World) : Prop := Ends nv 102 97 fpU fgU base g most res e w
/-- one cell is taken off a reader -/
theorem tookU_any (base g : Nat) (most : Int) (left : List UInt8) (gs : List ((Bool × Int) × Nat)) (cnt : Nat) (w : World) (hR : RdU w base g most ⟨left, gs, cnt⟩) (hl : left.length ≤ 1000000) :
    Calls Try.prog 81 #[.pointer (some ⟨g, 2, none⟩), .func (.func 54) #[] #[]] w fun e w' => e = .returned (.tuple #[.agg #[.bool (kU.get left).1.1, (.int .i64 (kU.get left).1.2)], .int .i64 ((kU.get left).2.2 : Int)]) ∧
      RdU w' base g most ⟨left.drop (kU.get left).2.1, gs, cnt⟩ ∧ Fr (fun b => b = g) w w' := by
  obtain ⟨⟨A, nl, c, Ag, cg, hrow, hrd, hnc, hA, hO⟩, hbg⟩ := hR
  simp only at hrow hrd hO
  have hln : left.length = nl := by simpa using hrd.1
  refine (takeU_any base g _ _ _ _ _ _ A nl c left w hrow hrd hnc hA hbg (by omega)).mono ?_
  rintro e w2 ⟨rfl, ⟨A2, c2, hrow2, hrd2, hnc2, hA2⟩, hf2⟩
  exact ⟨rfl, Rdr.left (L := left) hrow hO hbg (by decide) hf2 ⟨A2, c2, _, hrow2, hrd2, hnc2, hA2⟩, hf2⟩

set_option maxRecDepth 100000 in
set_option maxHeartbeats 1600000 in
theorem sameU_any (base g : Nat) (most : Int) (n : Nat) (r : Rs (Bool × Int)) (w : World) (hR : RdU w base g most r) (hI : Inv okU r) (hn : n < 9223372036854775808) (hm0 : -9223372036854775808 ≤ most) (hm1 : most ≤ 1000000) :
    Calls Try.prog 75 #[.pointer (some ⟨g, 0, none⟩), .int .u64 (n : Int)] w fun e w' => Fr (fun k => base ≤ k) w w' ∧ EndsU base g most (sameG kU most n r) e w' := by
  obtain ⟨left, gs, cnt⟩ := r
  have hlen := hI.len
  have hcnt := hI.cnt
  simp only at hlen hcnt
  have hbg := hR.base
  have HBG := Lib.hid hbg
  have hft := fitsC_any g cnt n most w hR.cells.1 hR.cells.2.1 (by omega) hm0 (by omega) (by omega)
  obtain ⟨RES, hRES⟩ : ∃ R, R = sameG kU most n (⟨left, gs, cnt⟩ : Rs (Bool × Int)) := ⟨_, rfl⟩
  rw [← hRES]
  unfold sameG at hRES
  simp only at hRES
  obtain ⟨Q, hQ⟩ : ∃ Q, decide ((cnt : Int) + (n : Nat) ≤ most) = Q := ⟨_, rfl⟩
  rw [hQ] at hft
  have HFT := Lib.hid hft
  have HR := Lib.hid hR
  have HI := Lib.hid hI
  have HQ := Lib.hid hQ
  have r0 : IntKind.i64.wrap (n : Int) = (n : Int) := by rw [IntKind.wrap_i64]; omega
  clear hft hR hI hQ hbg
  cases Q with
  | false =>
    have hfit : ¬ (cnt : Int) + (n : Nat) ≤ most := of_decide_eq_false HQ.out
    rw [if_neg hfit] at hRES
    have HRES := Lib.hid hRES
    clear hRES hfit
    go_enter Try.func75, Try.ntmps75
    go_wp2_with fail
    refine HFT.out.mono ?_
    rintro e w3 ⟨rfl, hf3⟩
    have HF3 : Hid (Fr (fun k => base ≤ k) w w3) := Lib.hid (Fr.up0 hf3)
    clear hf3 HFT
    go_wp2_with fail
    go_ret
    rw [HRES.out]
    exact ⟨HF3.out, rfl, by decide⟩
  | true =>
    have hfit : (cnt : Int) + (n : Nat) ≤ most := of_decide_eq_true HQ.out
    rw [if_pos hfit] at hRES
    have hN6 : cnt + n ≤ 1000000 := by omega
    have hbd := getU_bd left
    have hpos := getU_pos (B := left)
    obtain ⟨i, hi⟩ : ∃ i, i = (kU.get left).1.1 := ⟨_, rfl⟩
    obtain ⟨x, hx⟩ : ∃ x, x = (kU.get left).1.2 := ⟨_, rfl⟩
    obtain ⟨k, hk⟩ : ∃ k, k = (kU.get left).2.1 := ⟨_, rfl⟩
    obtain ⟨E, hE⟩ : ∃ E, E = (kU.get left).2.2 := ⟨_, rfl⟩
    have hix : (kU.get left).1 = (i, x) := by rw [hi, hx]
    rw [hix, ← hk, ← hE] at hRES
    rw [hix, ← hk, ← hE] at hbd
    rw [← hk, ← hE] at hpos
    have htk : ∀ w', RdU w' base g most ⟨left, gs, cnt⟩ → Calls Try.prog 81 #[.pointer (some ⟨g, 2, none⟩), .func (.func 54) #[] #[]] w' fun e w'' => e = .returned (.tuple #[.agg #[.bool i, (.int .i64 x)], .int .i64 (E : Int)]) ∧ RdU w'' base g most ⟨left.drop k, gs, cnt⟩ ∧ Fr (fun b => b = g) w' w'' := by
      intro w' h'
      have h := tookU_any base g most left gs cnt w' h' (by omega)
      rw [← hi, ← hx, ← hk, ← hE] at h
      exact h
    have HTK := Lib.hid htk
    have HRES := Lib.hid hRES
    have HPOS := Lib.hid hpos
    have HBD := Lib.hid hbd
    clear hi hx hk hE hix hRES hpos hbd htk hfit
    go_enter Try.func75, Try.ntmps75
    go_wp2_with fail
    refine HFT.out.mono ?_
    rintro e w3 ⟨rfl, hf3⟩
    have HR3 := Lib.hid (HR.out.fr hf3)
    have HF3 : Hid (Fr (fun k => base ≤ k) w w3) := Lib.hid (Fr.up0 hf3)
    have j1 : w3.cell? ⟨g, 1, none⟩ = some fgU := HR3.out.cells.2.2.2
    have HJ1 := Lib.hid j1
    unfold fgU at j1
    clear hf3 HFT
    go_upto_region 3 with fail
    go_cut [5, 6] (fun a b wx => ∃ pb, a = .pointer (some ⟨pb, 0, none⟩) ∧ b = .int .i64 (E : Int) ∧ Row wx pb 50 [.bool i, (.int .i64 x)] ∧ RdU wx base g most ⟨left.drop k, gs, cnt⟩ ∧ Fr (fun k => base ≤ k) w wx)
    case first =>
      refine wp_region_noPanic ?_
      refine wp_region_held_drew (S := fun w' => w'.cell? ⟨g, 1, none⟩ = some (.func (.func 54) #[] #[])) (by kernel_rfl) ?_ (fun hHeld => ?_)
      · exact j1
      refine wpAnyH_take (i := 0) (v := ?vf0) rfl (by kernel_rfl) (by kernel_rfl) (by kernel_rfl) (fun _ _ _ h => h) (Or.inl ⟨by rfl, ?hyf0⟩) hHeld ?restf0
      case hyf0 => intro w hSw; (try dsimp only at hSw); go_simp; try (with_reducible rfl)
      (try simp only [Act.put, List.setIfInBounds_toArray, List.set_cons_zero, List.set_cons_succ, List.getElem_toArray, List.getElem_cons_zero])
      refine wpAnyH_take (i := 1) (v := ?vf1) rfl (by kernel_rfl) (by kernel_rfl) (by kernel_rfl) (fun _ _ _ h => h) (Or.inl ⟨by rfl, ?hyf1⟩) hHeld ?restf1
      case hyf1 => intro w hSw; (try dsimp only at hSw); go_simp; try (with_reducible rfl)
      (try simp only [Act.put, List.setIfInBounds_toArray, List.set_cons_zero, List.set_cons_succ, List.getElem_toArray, List.getElem_cons_zero, List.getElem_cons_succ])
      refine wpAnyH_take (i := 2) (v := ?vf2) rfl (by kernel_rfl) (by kernel_rfl) (by kernel_rfl) (fun _ _ _ h => h) (Or.inl ⟨by rfl, ?hyf2⟩) hHeld ?restf2
      case hyf2 => intro w hSw; (try dsimp only at hSw); go_simp; try (with_reducible rfl)
      (try simp only [Act.put, List.setIfInBounds_toArray, List.set_cons_zero, List.set_cons_succ, List.getElem_toArray, List.getElem_cons_zero, List.getElem_cons_succ])
      refine wpAnyH_take (i := 3) (v := ?vf3) rfl (by kernel_rfl) (by kernel_rfl) (by kernel_rfl) (fun _ _ _ h => h) (Or.inl ⟨by rfl, ?hyf3⟩) hHeld ?restf3
      case hyf3 => intro w hSw; (try dsimp only at hSw); go_simp; try (with_reducible rfl)
      (try simp only [Act.put, List.setIfInBounds_toArray, List.set_cons_zero, List.set_cons_succ, List.getElem_toArray, List.getElem_cons_zero, List.getElem_cons_succ])
      refine wpAnyH_take (i := 4) (v := ?vf4) rfl (by kernel_rfl) (by kernel_rfl) (by kernel_rfl) (fun _ _ _ h => h) (Or.inl ⟨by rfl, ?hyf4⟩) hHeld ?restf4
      case hyf4 => intro w hSw; (try dsimp only at hSw); go_simp; try (with_reducible rfl)
      (try simp only [Act.put, List.setIfInBounds_toArray, List.set_cons_zero, List.set_cons_succ, List.getElem_toArray, List.getElem_cons_zero, List.getElem_cons_succ])
      refine wpAnyH_take (i := 5) (v := ?vf5) rfl (by kernel_rfl) (by kernel_rfl) (by kernel_rfl) (fun _ _ _ h => h) (Or.inl ⟨by rfl, ?hyf5⟩) hHeld ?restf5
      case hyf5 => intro w hSw; (try dsimp only at hSw); go_simp; try (with_reducible rfl)
      (try simp only [Act.put, List.setIfInBounds_toArray, List.set_cons_zero, List.set_cons_succ, List.getElem_toArray, List.getElem_cons_zero, List.getElem_cons_succ])
      refine wpAnyH_take (i := 6) (v := ?vf6) rfl (by kernel_rfl) (by kernel_rfl) (by kernel_rfl) (fun _ _ _ h => h) (Or.inl ⟨by rfl, ?hyf6⟩) hHeld ?restf6
      case hyf6 => intro w hSw; (try dsimp only at hSw); go_simp; try (with_reducible rfl)
      (try simp only [Act.put, List.setIfInBounds_toArray, List.set_cons_zero, List.set_cons_succ, List.getElem_toArray, List.getElem_cons_zero, List.getElem_cons_succ])
      refine wpAnyH_take (i := 7) (v := ?vf7) rfl (by kernel_rfl) (by kernel_rfl) (by kernel_rfl) (fun _ _ _ h => h) (Or.inl ⟨by rfl, ?hyf7⟩) hHeld ?restf7
      case hyf7 => intro w hSw; (try dsimp only at hSw); go_simp; try (with_reducible rfl)
      (try simp only [Act.put, List.setIfInBounds_toArray, List.set_cons_zero, List.set_cons_succ, List.getElem_toArray, List.getElem_cons_zero, List.getElem_cons_succ])
      refine wpAnyH_ready (rs := [8, 12]) (by kernel_rfl) (by simp) ?_
      refine AllReadyH.cons rfl (fun Kx hKx => ?_) ?_
      · go_simp
        refine (HTK.out w3.drew (HR3.out.fr (Fr.refl _ _).drew)).mono ?_
        rintro e w5 ⟨rfl, hR5, hf5⟩
        have HR5 := Lib.hid hR5
        have HF5 := Lib.hid (HF3.out.drew.trans (Fr.up hf5 HBG.out) (fun _ _ h => h))
        clear hR5 hf5
        refine hKx.out _ _ ?_ (fun hHeld => ?_)
        · exact HR5.out.cells.2.2.2
        clear hKx Kx
        (try simp only [Act.put, List.setIfInBounds_toArray, List.set_cons_zero, List.set_cons_succ, List.getElem_toArray, List.getElem_cons_zero, List.getElem_cons_succ])
        refine wpAnyH_take (i := 9) (v := ?vg9) rfl (by kernel_rfl) (by kernel_rfl) (by kernel_rfl) (fun _ _ _ h => h) (Or.inl ⟨by rfl, ?hyg9⟩) hHeld ?restg9
        case hyg9 => intro w hSw; (try dsimp only at hSw); go_simp; try (with_reducible rfl)
        (try simp only [Act.put, List.setIfInBounds_toArray, List.set_cons_zero, List.set_cons_succ, List.getElem_toArray, List.getElem_cons_zero, List.getElem_cons_succ])
        refine wpAnyH_take (i := 10) (v := ?vg10) rfl (by kernel_rfl) (by kernel_rfl) (by kernel_rfl) (fun _ _ _ h => h) (Or.inl ⟨by rfl, ?hyg10⟩) hHeld ?restg10
        case hyg10 => intro w hSw; (try dsimp only at hSw); go_simp; try (with_reducible rfl)
        (try simp only [Act.put, List.setIfInBounds_toArray, List.set_cons_zero, List.set_cons_succ, List.getElem_toArray, List.getElem_cons_zero, List.getElem_cons_succ])
        refine wpAnyH_take (i := 11) (v := ?vg11) rfl (by kernel_rfl) (by kernel_rfl) (by kernel_rfl) (fun _ _ _ h => h) (Or.inl ⟨by rfl, ?hyg11⟩) hHeld ?restg11
        case hyg11 => intro w hSw; (try dsimp only at hSw); go_simp; try (with_reducible rfl)
        (try simp only [Act.put, List.setIfInBounds_toArray, List.set_cons_zero, List.set_cons_succ, List.getElem_toArray, List.getElem_cons_zero, List.getElem_cons_succ])
        refine wpAnyH_ready (rs := [12]) (by kernel_rfl) (by simp) ?_
        refine AllReadyH.cons rfl (fun Kx hKx => ?_) AllReadyH.nil
        go_simp
        obtain ⟨w4, hwa⟩ : ∃ y, (w5.alloc (.cells #[.bool false, (.int .i64 0)] 50)) = y := ⟨_, rfl⟩
        rw [hwa]
        obtain ⟨pb, hpb⟩ : ∃ p, w5.heap.size = p := ⟨_, rfl⟩
        try rw [hpb]
        have hfa : Fr (fun _ => False) w5 w4 := by rw [← hwa]; exact (Fr.refl _ _).alloc _
        have hpa : Row w4 pb 50 [.bool false, (.int .i64 0)] := by rw [← hwa, ← hpb]; exact Row.new w5 _ _
        have HPG : Hid (base ≤ pb ∧ pb ≠ g) := Lib.hid (by have h1 := HR5.out.lt; have h2 := HBG.out; omega)
        have HRa := Lib.hid (HR5.out.fr hfa)
        have HFa := Lib.hid (HF5.out.trans (Fr.up0 hfa) (fun _ _ h => h))
        have HPa := Lib.hid hpa
        clear hwa hpb hfa hpa
        have HR4 := HRa
        have HF4 := HFa
        have HP4 := HPa
        have z0 : w4.frozen? ⟨pb, 0, none⟩ = false := HPa.out.free 0
        have z1 : w4.frozen? ⟨pb, 1, none⟩ = false := HPa.out.free 1
        have y0 : w4.cell? ⟨pb, 0, none⟩ = some (.bool false) := HPa.out.cell rfl
        have y1 : w4.cell? ⟨pb, 1, none⟩ = some (.int .i64 0) := HPa.out.cell rfl
        refine hKx.out _ _ ?_ (fun hHeld => ?_)
        · exact HR4.out.cells.2.2.2
        clear hKx Kx
        (try simp only [Act.put, List.setIfInBounds_toArray, List.set_cons_zero, List.set_cons_succ, List.getElem_toArray, List.getElem_cons_zero, List.getElem_cons_succ])
        refine wpAnyH_ready (rs := [13]) (by kernel_rfl) (by simp) ?_
        refine AllReadyH.cons rfl (fun Kx hKx => ?_) AllReadyH.nil
        go_simp
        refine hKx.out _ _ ?_ (fun hHeld => ?_)
        · exact (HR4.out.other2 HP4.out HPG.out (by decide)).cells.2.2.2
        clear hKx Kx
        (try simp only [Act.put, List.setIfInBounds_toArray, List.set_cons_zero, List.set_cons_succ, List.getElem_toArray, List.getElem_cons_zero, List.getElem_cons_succ])
        refine wpAnyH_ready (rs := [14]) (by kernel_rfl) (by simp) ?_
        refine AllReadyH.cons rfl (fun Kx hKx => ?_) AllReadyH.nil
        go_simp
        refine hKx.out _ _ ?_ (fun hHeld => ?_)
        · exact (HR4.out.other2 HP4.out HPG.out (by decide)).cells.2.2.2
        clear hKx Kx
        (try simp only [Act.put, List.setIfInBounds_toArray, List.set_cons_zero, List.set_cons_succ, List.getElem_toArray, List.getElem_cons_zero, List.getElem_cons_succ])
        refine wpAnyH_done (by kernel_rfl) ?_ _
        refine NoPanic.normal ?_
        all_goals (go_wp2_with fail; go_meet; exact ⟨pb, rfl, rfl, (HP4.out.set 0 _).set 1 _, HR4.out.other2 HP4.out HPG.out (by decide), HF4.out.trans ((Fr.set1 w4 pb 0 _).trans (Fr.set1 _ pb 1 _) (fun _ _ h => h)) (fun b _ h => by have := HPG.out.1; omega)⟩)
      refine AllReadyH.cons rfl (fun Kx hKx => ?_) AllReadyH.nil
      go_simp
      obtain ⟨wa, hwa⟩ : ∃ y, (w3.alloc (.cells #[.bool false, (.int .i64 0)] 50)).drew = y := ⟨_, rfl⟩
      rw [hwa]
      obtain ⟨pb, hpb⟩ : ∃ p, w3.heap.size = p := ⟨_, rfl⟩
      try rw [hpb]
      have hfa : Fr (fun _ => False) w3 wa := by rw [← hwa]; exact ((Fr.refl _ _).alloc _).drew
      have hpa : Row wa pb 50 [.bool false, (.int .i64 0)] := by rw [← hwa, ← hpb]; exact Row.new w3 _ _
      have HPG : Hid (base ≤ pb ∧ pb ≠ g) := Lib.hid (by have h1 := HR3.out.lt; have h2 := HBG.out; omega)
      have HRa := Lib.hid (HR3.out.fr hfa)
      have HFa := Lib.hid (HF3.out.trans (Fr.up0 hfa) (fun _ _ h => h))
      have HPa := Lib.hid hpa
      clear hwa hpb hfa hpa
      refine hKx.out _ _ ?_ (fun hHeld => ?_)
      · exact HRa.out.cells.2.2.2
      clear hKx Kx
      (try simp only [Act.put, List.setIfInBounds_toArray, List.set_cons_zero, List.set_cons_succ, List.getElem_toArray, List.getElem_cons_zero, List.getElem_cons_succ])
      refine wpAnyH_ready (rs := [8]) (by kernel_rfl) (by simp) ?_
      refine AllReadyH.cons rfl (fun Kx hKx => ?_) AllReadyH.nil
      go_simp
      refine (HTK.out wa HRa.out).mono ?_
      rintro e w4 ⟨rfl, hR4, hf4⟩
      have HR4 := Lib.hid hR4
      have HP4 := Lib.hid (HPa.out.fr hf4 HPG.out.2)
      have HF4 := Lib.hid (HFa.out.trans (Fr.up hf4 HBG.out) (fun _ _ h => h))
      clear hR4 hf4 HRa HFa HPa
      have z0 : w4.frozen? ⟨pb, 0, none⟩ = false := HP4.out.free 0
      have z1 : w4.frozen? ⟨pb, 1, none⟩ = false := HP4.out.free 1
      have y0 : w4.cell? ⟨pb, 0, none⟩ = some (.bool false) := HP4.out.cell rfl
      have y1 : w4.cell? ⟨pb, 1, none⟩ = some (.int .i64 0) := HP4.out.cell rfl
      refine hKx.out _ _ ?_ (fun hHeld => ?_)
      · exact HR4.out.cells.2.2.2
      clear hKx Kx
      (try simp only [Act.put, List.setIfInBounds_toArray, List.set_cons_zero, List.set_cons_succ, List.getElem_toArray, List.getElem_cons_zero, List.getElem_cons_succ])
      refine wpAnyH_take (i := 9) (v := ?vh9) rfl (by kernel_rfl) (by kernel_rfl) (by kernel_rfl) (fun _ _ _ h => h) (Or.inl ⟨by rfl, ?hyh9⟩) hHeld ?resth9
      case hyh9 => intro w hSw; (try dsimp only at hSw); go_simp; try (with_reducible rfl)
      (try simp only [Act.put, List.setIfInBounds_toArray, List.set_cons_zero, List.set_cons_succ, List.getElem_toArray, List.getElem_cons_zero, List.getElem_cons_succ])
      refine wpAnyH_take (i := 10) (v := ?vh10) rfl (by kernel_rfl) (by kernel_rfl) (by kernel_rfl) (fun _ _ _ h => h) (Or.inl ⟨by rfl, ?hyh10⟩) hHeld ?resth10
      case hyh10 => intro w hSw; (try dsimp only at hSw); go_simp; try (with_reducible rfl)
      (try simp only [Act.put, List.setIfInBounds_toArray, List.set_cons_zero, List.set_cons_succ, List.getElem_toArray, List.getElem_cons_zero, List.getElem_cons_succ])
      refine wpAnyH_take (i := 11) (v := ?vh11) rfl (by kernel_rfl) (by kernel_rfl) (by kernel_rfl) (fun _ _ _ h => h) (Or.inl ⟨by rfl, ?hyh11⟩) hHeld ?resth11
      case hyh11 => intro w hSw; (try dsimp only at hSw); go_simp; try (with_reducible rfl)
      (try simp only [Act.put, List.setIfInBounds_toArray, List.set_cons_zero, List.set_cons_succ, List.getElem_toArray, List.getElem_cons_zero, List.getElem_cons_succ])
      refine wpAnyH_ready (rs := [13]) (by kernel_rfl) (by simp) ?_
      refine AllReadyH.cons rfl (fun Kx hKx => ?_) AllReadyH.nil
      go_simp
      refine hKx.out _ _ ?_ (fun hHeld => ?_)
      · exact (HR4.out.other2 HP4.out HPG.out (by decide)).cells.2.2.2
      clear hKx Kx
      (try simp only [Act.put, List.setIfInBounds_toArray, List.set_cons_zero, List.set_cons_succ, List.getElem_toArray, List.getElem_cons_zero, List.getElem_cons_succ])
      refine wpAnyH_ready (rs := [14]) (by kernel_rfl) (by simp) ?_
      refine AllReadyH.cons rfl (fun Kx hKx => ?_) AllReadyH.nil
      go_simp
      refine hKx.out _ _ ?_ (fun hHeld => ?_)
      · exact (HR4.out.other2 HP4.out HPG.out (by decide)).cells.2.2.2
      clear hKx Kx
      (try simp only [Act.put, List.setIfInBounds_toArray, List.set_cons_zero, List.set_cons_succ, List.getElem_toArray, List.getElem_cons_zero, List.getElem_cons_succ])
      refine wpAnyH_done (by kernel_rfl) ?_ _
      refine NoPanic.normal ?_
      go_wp2_with fail
      go_meet
      exact ⟨pb, rfl, rfl, (HP4.out.set 0 _).set 1 _, HR4.out.other2 HP4.out HPG.out (by decide), HF4.out.trans ((Fr.set1 w4 pb 0 _).trans (Fr.set1 _ pb 1 _) (fun _ _ h => h)) (fun b _ h => by have := HPG.out.1; omega)⟩
    case rest =>
      obtain ⟨pb, rfl, rfl, hpb, hR4, hf4⟩ := hcut
      rename World => w4
      have p0 : w4.cell? ⟨pb, 0, none⟩ = some (.bool i) := hpb.cell rfl
      have p1 : w4.cell? ⟨pb, 1, none⟩ = some (.int .i64 x) := hpb.cell rfl
      have HR4 := Lib.hid hR4
      have HF4 := Lib.hid hf4
      have hres := HRES.out
      clear hpb hR4 hf4 HTK HR3 HF3 HJ1 j1
      by_cases he : E = 0
      · have t0 : ((E : Int) != 0) = false := by simp; omega
        have t0' : (E != 0) = false := by simp; omega
        rw [if_neg (by omega)] at hres
        have HX := Lib.hid hres
        have had := raddC_any fpU fgU base g most (left.drop k) gs cnt n i x w4 HR4.out HI.out.small.1 (fun g hg => HI.out.small.2 g hg n (by omega)) (by omega)
        have HAD := Lib.hid had
        clear he hres had
        go_wp2_with fail
        refine HAD.out.mono ?_
        rintro e w5 ⟨rfl, hR5, hf5⟩
        have HR5 := Lib.hid hR5
        have HF5 := Lib.hid (HF4.out.trans hf5 (fun _ _ h => h))
        clear hR5 hf5 HAD
        go_wp2_with fail
        go_ret
        rw [HX.out]
        exact ⟨HF5.out, rfl, HR5.out⟩
      · have t0 : ((E : Int) != 0) = true := by simp; omega
        have t0' : (E != 0) = true := by simp; omega
        rw [if_pos he] at hres
        have HX := Lib.hid hres
        have HE := Lib.hid he
        clear he hres
        go_wp2_with fail
        go_ret
        rw [HX.out]
        exact ⟨HF4.out, rfl, HE.out⟩

end Go.Proofs.Ytcoohjjjiakdjaa
namespace Go.Proofs.Ytcoohjjjiakdjaa
open Go.RowKit Mem Go.Lib RleM LebM
attribute [local go_sem ↓] Go.wp_at_zero Go.wp_at_succ
set_option linter.unusedVariables false

set_option maxRecDepth 100000 in
set_option maxHeartbeats 1600000 in
theorem unlikeU_any (base g : Nat) (most : Int) (n : Nat) (r : Rs (Bool × Int)) (w : World) (hR : RdU w base g most r) (hI : Inv okU r) (hn : n < 18446744073709551616) (hm0 : -9223372036854775808 ≤ most) (hm1 : most ≤ 1000000) :
    Calls Try.prog 76 #[.pointer (some ⟨g, 0, none⟩), .int .u64 (n : Int)] w fun e w' => Fr (fun k => base ≤ k) w w' ∧ EndsU base g most (unlikeG kU most n r) e w' := by
  have hlen := hI.len
  have hcnt := hI.cnt
  have hbg := hR.base
  have HBG := Lib.hid hbg
  have hft := fitsC_any g r.count n most w hR.cells.1 hR.cells.2.1 (by omega) hm0 (by omega) (by omega)
  obtain ⟨RES, hRES⟩ : ∃ R, R = unlikeG kU most n r := ⟨_, rfl⟩
  rw [← hRES]
  unfold unlikeG at hRES
  obtain ⟨Q, hQ⟩ : ∃ Q, decide ((r.count : Int) + (n : Nat) ≤ most) = Q := ⟨_, rfl⟩
  rw [hQ] at hft
  have HFT := Lib.hid hft
  have HR := Lib.hid hR
  have HI := Lib.hid hI
  have HQ := Lib.hid hQ
  clear hft hR hI hQ hbg
  cases Q with
  | false =>
    have hfit : ¬ (r.count : Int) + (n : Nat) ≤ most := of_decide_eq_false HQ.out
    rw [if_neg hfit] at hRES
    have HRES := Lib.hid hRES
    clear hRES hfit
    go_enter Try.func76, Try.ntmps76
    go_wp2_with fail
    refine HFT.out.mono ?_
    rintro e w3 ⟨rfl, hf3⟩
    have HF3 : Hid (Fr (fun k => base ≤ k) w w3) := Lib.hid (Fr.up0 hf3)
    clear hf3 HFT
    go_wp2_with fail
    go_ret
    rw [HRES.out]
    exact ⟨HF3.out, rfl, by decide⟩
  | true =>
    have hfit : (r.count : Int) + (n : Nat) ≤ most := of_decide_eq_true HQ.out
    rw [if_pos hfit] at hRES
    have hN6 : r.count + n ≤ 1000000 := by omega
    have hn6 : n ≤ 1000000 := by omega
    have HRES := Lib.hid hRES
    have HN6 := Lib.hid hN6
    clear hRES hfit hN6 hlen hcnt
    go_enter Try.func76, Try.ntmps76
    go_wp2_with fail
    refine HFT.out.mono ?_
    rintro e w2 ⟨rfl, hf2⟩
    have HR2 := Lib.hid (HR.out.fr hf2)
    have HF2 : Hid (Fr (fun k => base ≤ k) w w2) := Lib.hid (Fr.up0 hf2)
    clear hf2 HFT
    go_wp2_with fail
    go_loopw [12] (fun v wr => ∃ (j : Nat) (r' : Rs (Bool × Int)), j ≤ n ∧ v = .int .u64 (j : Int) ∧ Hid (RdU wr base g most r') ∧ Hid (Inv okU r') ∧ Hid (manyG kU (n - j) r' = RES) ∧ Hid (r'.count + (n - j) ≤ 1000000) ∧ Hid (Fr (fun k => base ≤ k) w wr)) (fun v _ => n - (intOf v).toNat)
    case atStart => exact ⟨0, r, Nat.zero_le _, rfl, HR2.out, HI.out, HRES.out.symm, HN6.out, HF2.out⟩
    case round =>
      obtain ⟨j, ⟨left, gs, cnt⟩, hj, rfl, HR3, HI3, HE3, HN3, HF3⟩ := hrel
      rename World => w3
      by_cases hlt : j < n
      · have hlen := HI3.out.len
        have hcnt := HI3.out.cnt
        have hN3 := HN3.out
        have hres := HE3.out
        obtain ⟨m, hm⟩ : ∃ m, m = n - (j + 1) := ⟨_, rfl⟩
        rw [show n - j = m + 1 by omega] at hres hN3
        rw [manyG] at hres
        simp only at hlen hcnt hN3 hres
        have hbd := getU_bd left
        have hpos := getU_pos (B := left)
        obtain ⟨i, hi⟩ : ∃ i, i = (kU.get left).1.1 := ⟨_, rfl⟩
        obtain ⟨x, hx⟩ : ∃ x, x = (kU.get left).1.2 := ⟨_, rfl⟩
        obtain ⟨k, hk⟩ : ∃ k, k = (kU.get left).2.1 := ⟨_, rfl⟩
        obtain ⟨E, hE⟩ : ∃ E, E = (kU.get left).2.2 := ⟨_, rfl⟩
        have hix : (kU.get left).1 = (i, x) := by rw [hi, hx]
        rw [hix, ← hk, ← hE] at hres
        rw [hix, ← hk, ← hE] at hbd
        rw [← hk, ← hE] at hpos
        have htk : ∀ w', RdU w' base g most ⟨left, gs, cnt⟩ → Calls Try.prog 81 #[.pointer (some ⟨g, 2, none⟩), .func (.func 54) #[] #[]] w' fun e w'' => e = .returned (.tuple #[.agg #[.bool i, (.int .i64 x)], .int .i64 (E : Int)]) ∧ RdU w'' base g most ⟨left.drop k, gs, cnt⟩ ∧ Fr (fun b => b = g) w' w'' := by
          intro w' h'
          have h := tookU_any base g most left gs cnt w' h' (by omega)
          rw [← hi, ← hx, ← hk, ← hE] at h
          exact h
        have HTK := Lib.hid htk
        have HRES2 := Lib.hid hres
        have HPOS := Lib.hid hpos
        have HBD := Lib.hid hbd
        have HM := Lib.hid hm
        have HC3 := Lib.hid (And.intro hlen (And.intro hcnt hN3))
        have j1 : w3.cell? ⟨g, 1, none⟩ = some fgU := HR3.out.cells.2.2.2
        unfold fgU at j1
        clear hi hx hk hE hix hres hpos hbd htk hm hlen hcnt hN3
        go_upto_region 5 with fail
        go_cut [5, 6] (fun a b wx => ∃ pb, a = .pointer (some ⟨pb, 0, none⟩) ∧ b = .int .i64 (E : Int) ∧ Row wx pb 50 [.bool i, (.int .i64 x)] ∧ RdU wx base g most ⟨left.drop k, gs, cnt⟩ ∧ Fr (fun k => base ≤ k) w wx)
        case first =>
          refine wp_region_noPanic ?_
          refine wp_region_held_drew (S := fun w' => w'.cell? ⟨g, 1, none⟩ = some (.func (.func 54) #[] #[])) (by kernel_rfl) ?_ (fun hHeld => ?_)
          · exact j1
          refine wpAnyH_take (i := 0) (v := ?vo0) rfl (by kernel_rfl) (by kernel_rfl) (by kernel_rfl) (fun _ _ _ h => h) (Or.inl ⟨by rfl, ?hyo0⟩) hHeld ?resto0
          case hyo0 => intro w hSw; (try dsimp only at hSw); go_simp; try (with_reducible rfl)
          (try simp only [Act.put, List.setIfInBounds_toArray, List.set_cons_zero, List.set_cons_succ, List.getElem_toArray, List.getElem_cons_zero])
          refine wpAnyH_take (i := 1) (v := ?vo1) rfl (by kernel_rfl) (by kernel_rfl) (by kernel_rfl) (fun _ _ _ h => h) (Or.inl ⟨by rfl, ?hyo1⟩) hHeld ?resto1
          case hyo1 => intro w hSw; (try dsimp only at hSw); go_simp; try (with_reducible rfl)
          (try simp only [Act.put, List.setIfInBounds_toArray, List.set_cons_zero, List.set_cons_succ, List.getElem_toArray, List.getElem_cons_zero, List.getElem_cons_succ])
          refine wpAnyH_take (i := 2) (v := ?vo2) rfl (by kernel_rfl) (by kernel_rfl) (by kernel_rfl) (fun _ _ _ h => h) (Or.inl ⟨by rfl, ?hyo2⟩) hHeld ?resto2
          case hyo2 => intro w hSw; (try dsimp only at hSw); go_simp; try (with_reducible rfl)
          (try simp only [Act.put, List.setIfInBounds_toArray, List.set_cons_zero, List.set_cons_succ, List.getElem_toArray, List.getElem_cons_zero, List.getElem_cons_succ])
          refine wpAnyH_take (i := 3) (v := ?vo3) rfl (by kernel_rfl) (by kernel_rfl) (by kernel_rfl) (fun _ _ _ h => h) (Or.inl ⟨by rfl, ?hyo3⟩) hHeld ?resto3
          case hyo3 => intro w hSw; (try dsimp only at hSw); go_simp; try (with_reducible rfl)
          (try simp only [Act.put, List.setIfInBounds_toArray, List.set_cons_zero, List.set_cons_succ, List.getElem_toArray, List.getElem_cons_zero, List.getElem_cons_succ])
          refine wpAnyH_take (i := 4) (v := ?vo4) rfl (by kernel_rfl) (by kernel_rfl) (by kernel_rfl) (fun _ _ _ h => h) (Or.inl ⟨by rfl, ?hyo4⟩) hHeld ?resto4
          case hyo4 => intro w hSw; (try dsimp only at hSw); go_simp; try (with_reducible rfl)
          (try simp only [Act.put, List.setIfInBounds_toArray, List.set_cons_zero, List.set_cons_succ, List.getElem_toArray, List.getElem_cons_zero, List.getElem_cons_succ])
          refine wpAnyH_take (i := 5) (v := ?vo5) rfl (by kernel_rfl) (by kernel_rfl) (by kernel_rfl) (fun _ _ _ h => h) (Or.inl ⟨by rfl, ?hyo5⟩) hHeld ?resto5
          case hyo5 => intro w hSw; (try dsimp only at hSw); go_simp; try (with_reducible rfl)
          (try simp only [Act.put, List.setIfInBounds_toArray, List.set_cons_zero, List.set_cons_succ, List.getElem_toArray, List.getElem_cons_zero, List.getElem_cons_succ])
          refine wpAnyH_take (i := 6) (v := ?vo6) rfl (by kernel_rfl) (by kernel_rfl) (by kernel_rfl) (fun _ _ _ h => h) (Or.inl ⟨by rfl, ?hyo6⟩) hHeld ?resto6
          case hyo6 => intro w hSw; (try dsimp only at hSw); go_simp; try (with_reducible rfl)
          (try simp only [Act.put, List.setIfInBounds_toArray, List.set_cons_zero, List.set_cons_succ, List.getElem_toArray, List.getElem_cons_zero, List.getElem_cons_succ])
          refine wpAnyH_take (i := 7) (v := ?vo7) rfl (by kernel_rfl) (by kernel_rfl) (by kernel_rfl) (fun _ _ _ h => h) (Or.inl ⟨by rfl, ?hyo7⟩) hHeld ?resto7
          case hyo7 => intro w hSw; (try dsimp only at hSw); go_simp; try (with_reducible rfl)
          (try simp only [Act.put, List.setIfInBounds_toArray, List.set_cons_zero, List.set_cons_succ, List.getElem_toArray, List.getElem_cons_zero, List.getElem_cons_succ])
          refine wpAnyH_ready (rs := [8, 12]) (by kernel_rfl) (by simp) ?_
          refine AllReadyH.cons rfl (fun Kx hKx => ?_) ?_
          · go_simp
            refine (HTK.out w3.drew (HR3.out.fr (Fr.refl _ _).drew)).mono ?_
            rintro e w5 ⟨rfl, hR5, hf5⟩
            have HR5 := Lib.hid hR5
            have HF5 := Lib.hid (HF3.out.drew.trans (Fr.up hf5 HBG.out) (fun _ _ h => h))
            clear hR5 hf5
            refine hKx.out _ _ ?_ (fun hHeld => ?_)
            · exact HR5.out.cells.2.2.2
            clear hKx Kx
            (try simp only [Act.put, List.setIfInBounds_toArray, List.set_cons_zero, List.set_cons_succ, List.getElem_toArray, List.getElem_cons_zero, List.getElem_cons_succ])
            refine wpAnyH_take (i := 9) (v := ?vp9) rfl (by kernel_rfl) (by kernel_rfl) (by kernel_rfl) (fun _ _ _ h => h) (Or.inl ⟨by rfl, ?hyp9⟩) hHeld ?restp9
            case hyp9 => intro w hSw; (try dsimp only at hSw); go_simp; try (with_reducible rfl)
            (try simp only [Act.put, List.setIfInBounds_toArray, List.set_cons_zero, List.set_cons_succ, List.getElem_toArray, List.getElem_cons_zero, List.getElem_cons_succ])
            refine wpAnyH_take (i := 10) (v := ?vp10) rfl (by kernel_rfl) (by kernel_rfl) (by kernel_rfl) (fun _ _ _ h => h) (Or.inl ⟨by rfl, ?hyp10⟩) hHeld ?restp10
            case hyp10 => intro w hSw; (try dsimp only at hSw); go_simp; try (with_reducible rfl)
            (try simp only [Act.put, List.setIfInBounds_toArray, List.set_cons_zero, List.set_cons_succ, List.getElem_toArray, List.getElem_cons_zero, List.getElem_cons_succ])
            refine wpAnyH_take (i := 11) (v := ?vp11) rfl (by kernel_rfl) (by kernel_rfl) (by kernel_rfl) (fun _ _ _ h => h) (Or.inl ⟨by rfl, ?hyp11⟩) hHeld ?restp11
            case hyp11 => intro w hSw; (try dsimp only at hSw); go_simp; try (with_reducible rfl)
            (try simp only [Act.put, List.setIfInBounds_toArray, List.set_cons_zero, List.set_cons_succ, List.getElem_toArray, List.getElem_cons_zero, List.getElem_cons_succ])
            refine wpAnyH_ready (rs := [12]) (by kernel_rfl) (by simp) ?_
            refine AllReadyH.cons rfl (fun Kx hKx => ?_) AllReadyH.nil
            go_simp
            obtain ⟨w4, hwa⟩ : ∃ y, (w5.alloc (.cells #[.bool false, (.int .i64 0)] 50)) = y := ⟨_, rfl⟩
            rw [hwa]
            obtain ⟨pb, hpb⟩ : ∃ p, w5.heap.size = p := ⟨_, rfl⟩
            try rw [hpb]
            have hfa : Fr (fun _ => False) w5 w4 := by rw [← hwa]; exact (Fr.refl _ _).alloc _
            have hpa : Row w4 pb 50 [.bool false, (.int .i64 0)] := by rw [← hwa, ← hpb]; exact Row.new w5 _ _
            have HPG : Hid (base ≤ pb ∧ pb ≠ g) := Lib.hid (by have h1 := HR5.out.lt; have h2 := HBG.out; omega)
            have HRa := Lib.hid (HR5.out.fr hfa)
            have HFa := Lib.hid (HF5.out.trans (Fr.up0 hfa) (fun _ _ h => h))
            have HPa := Lib.hid hpa
            clear hwa hpb hfa hpa
            have HR4 := HRa
            have HF4 := HFa
            have HP4 := HPa
            have z0 : w4.frozen? ⟨pb, 0, none⟩ = false := HPa.out.free 0
            have z1 : w4.frozen? ⟨pb, 1, none⟩ = false := HPa.out.free 1
            have y0 : w4.cell? ⟨pb, 0, none⟩ = some (.bool false) := HPa.out.cell rfl
            have y1 : w4.cell? ⟨pb, 1, none⟩ = some (.int .i64 0) := HPa.out.cell rfl
            refine hKx.out _ _ ?_ (fun hHeld => ?_)
            · exact HR4.out.cells.2.2.2
            clear hKx Kx
            (try simp only [Act.put, List.setIfInBounds_toArray, List.set_cons_zero, List.set_cons_succ, List.getElem_toArray, List.getElem_cons_zero, List.getElem_cons_succ])
            refine wpAnyH_ready (rs := [13]) (by kernel_rfl) (by simp) ?_
            refine AllReadyH.cons rfl (fun Kx hKx => ?_) AllReadyH.nil
            go_simp
            refine hKx.out _ _ ?_ (fun hHeld => ?_)
            · exact (HR4.out.other2 HP4.out HPG.out (by decide)).cells.2.2.2
            clear hKx Kx
            (try simp only [Act.put, List.setIfInBounds_toArray, List.set_cons_zero, List.set_cons_succ, List.getElem_toArray, List.getElem_cons_zero, List.getElem_cons_succ])
            refine wpAnyH_ready (rs := [14]) (by kernel_rfl) (by simp) ?_
            refine AllReadyH.cons rfl (fun Kx hKx => ?_) AllReadyH.nil
            go_simp
            refine hKx.out _ _ ?_ (fun hHeld => ?_)
            · exact (HR4.out.other2 HP4.out HPG.out (by decide)).cells.2.2.2
            clear hKx Kx
            (try simp only [Act.put, List.setIfInBounds_toArray, List.set_cons_zero, List.set_cons_succ, List.getElem_toArray, List.getElem_cons_zero, List.getElem_cons_succ])
            refine wpAnyH_done (by kernel_rfl) ?_ _
            refine NoPanic.normal ?_
            all_goals (go_wp2_with fail; go_meet; exact ⟨pb, rfl, rfl, (HP4.out.set 0 _).set 1 _, HR4.out.other2 HP4.out HPG.out (by decide), HF4.out.trans ((Fr.set1 w4 pb 0 _).trans (Fr.set1 _ pb 1 _) (fun _ _ h => h)) (fun b _ h => by have := HPG.out.1; omega)⟩)
          refine AllReadyH.cons rfl (fun Kx hKx => ?_) AllReadyH.nil
          go_simp
          obtain ⟨wa, hwa⟩ : ∃ y, (w3.alloc (.cells #[.bool false, (.int .i64 0)] 50)).drew = y := ⟨_, rfl⟩
          rw [hwa]
          obtain ⟨pb, hpb⟩ : ∃ p, w3.heap.size = p := ⟨_, rfl⟩
          try rw [hpb]
          have hfa : Fr (fun _ => False) w3 wa := by rw [← hwa]; exact ((Fr.refl _ _).alloc _).drew
          have hpa : Row wa pb 50 [.bool false, (.int .i64 0)] := by rw [← hwa, ← hpb]; exact Row.new w3 _ _
          have HPG : Hid (base ≤ pb ∧ pb ≠ g) := Lib.hid (by have h1 := HR3.out.lt; have h2 := HBG.out; omega)
          have HRa := Lib.hid (HR3.out.fr hfa)
          have HFa := Lib.hid (HF3.out.trans (Fr.up0 hfa) (fun _ _ h => h))
          have HPa := Lib.hid hpa
          clear hwa hpb hfa hpa
          refine hKx.out _ _ ?_ (fun hHeld => ?_)
          · exact HRa.out.cells.2.2.2
          clear hKx Kx
          (try simp only [Act.put, List.setIfInBounds_toArray, List.set_cons_zero, List.set_cons_succ, List.getElem_toArray, List.getElem_cons_zero, List.getElem_cons_succ])
          refine wpAnyH_ready (rs := [8]) (by kernel_rfl) (by simp) ?_
          refine AllReadyH.cons rfl (fun Kx hKx => ?_) AllReadyH.nil
          go_simp
          refine (HTK.out wa HRa.out).mono ?_
          rintro e w4 ⟨rfl, hR4, hf4⟩
          have HR4 := Lib.hid hR4
          have HP4 := Lib.hid (HPa.out.fr hf4 HPG.out.2)
          have HF4 := Lib.hid (HFa.out.trans (Fr.up hf4 HBG.out) (fun _ _ h => h))
          clear hR4 hf4 HRa HFa HPa
          have z0 : w4.frozen? ⟨pb, 0, none⟩ = false := HP4.out.free 0
          have z1 : w4.frozen? ⟨pb, 1, none⟩ = false := HP4.out.free 1
          have y0 : w4.cell? ⟨pb, 0, none⟩ = some (.bool false) := HP4.out.cell rfl
          have y1 : w4.cell? ⟨pb, 1, none⟩ = some (.int .i64 0) := HP4.out.cell rfl
          refine hKx.out _ _ ?_ (fun hHeld => ?_)
          · exact HR4.out.cells.2.2.2
          clear hKx Kx
          (try simp only [Act.put, List.setIfInBounds_toArray, List.set_cons_zero, List.set_cons_succ, List.getElem_toArray, List.getElem_cons_zero, List.getElem_cons_succ])
          refine wpAnyH_take (i := 9) (v := ?va19) rfl (by kernel_rfl) (by kernel_rfl) (by kernel_rfl) (fun _ _ _ h => h) (Or.inl ⟨by rfl, ?hya19⟩) hHeld ?resta19
          case hya19 => intro w hSw; (try dsimp only at hSw); go_simp; try (with_reducible rfl)
          (try simp only [Act.put, List.setIfInBounds_toArray, List.set_cons_zero, List.set_cons_succ, List.getElem_toArray, List.getElem_cons_zero, List.getElem_cons_succ])
          refine wpAnyH_take (i := 10) (v := ?va110) rfl (by kernel_rfl) (by kernel_rfl) (by kernel_rfl) (fun _ _ _ h => h) (Or.inl ⟨by rfl, ?hya110⟩) hHeld ?resta110
          case hya110 => intro w hSw; (try dsimp only at hSw); go_simp; try (with_reducible rfl)
          (try simp only [Act.put, List.setIfInBounds_toArray, List.set_cons_zero, List.set_cons_succ, List.getElem_toArray, List.getElem_cons_zero, List.getElem_cons_succ])
          refine wpAnyH_take (i := 11) (v := ?va111) rfl (by kernel_rfl) (by kernel_rfl) (by kernel_rfl) (fun _ _ _ h => h) (Or.inl ⟨by rfl, ?hya111⟩) hHeld ?resta111
          case hya111 => intro w hSw; (try dsimp only at hSw); go_simp; try (with_reducible rfl)
          (try simp only [Act.put, List.setIfInBounds_toArray, List.set_cons_zero, List.set_cons_succ, List.getElem_toArray, List.getElem_cons_zero, List.getElem_cons_succ])
          refine wpAnyH_ready (rs := [13]) (by kernel_rfl) (by simp) ?_
          refine AllReadyH.cons rfl (fun Kx hKx => ?_) AllReadyH.nil
          go_simp
          refine hKx.out _ _ ?_ (fun hHeld => ?_)
          · exact (HR4.out.other2 HP4.out HPG.out (by decide)).cells.2.2.2
          clear hKx Kx
          (try simp only [Act.put, List.setIfInBounds_toArray, List.set_cons_zero, List.set_cons_succ, List.getElem_toArray, List.getElem_cons_zero, List.getElem_cons_succ])
          refine wpAnyH_ready (rs := [14]) (by kernel_rfl) (by simp) ?_
          refine AllReadyH.cons rfl (fun Kx hKx => ?_) AllReadyH.nil
          go_simp
          refine hKx.out _ _ ?_ (fun hHeld => ?_)
          · exact (HR4.out.other2 HP4.out HPG.out (by decide)).cells.2.2.2
          clear hKx Kx
          (try simp only [Act.put, List.setIfInBounds_toArray, List.set_cons_zero, List.set_cons_succ, List.getElem_toArray, List.getElem_cons_zero, List.getElem_cons_succ])
          refine wpAnyH_done (by kernel_rfl) ?_ _
          refine NoPanic.normal ?_
          go_wp2_with fail
          go_meet
          exact ⟨pb, rfl, rfl, (HP4.out.set 0 _).set 1 _, HR4.out.other2 HP4.out HPG.out (by decide), HF4.out.trans ((Fr.set1 w4 pb 0 _).trans (Fr.set1 _ pb 1 _) (fun _ _ h => h)) (fun b _ h => by have := HPG.out.1; omega)⟩
        case rest =>
          obtain ⟨pb, rfl, rfl, hpb, hR4, hf4⟩ := hcut
          rename World => w4
          have p0 : w4.cell? ⟨pb, 0, none⟩ = some (.bool i) := hpb.cell rfl
          have p1 : w4.cell? ⟨pb, 1, none⟩ = some (.int .i64 x) := hpb.cell rfl
          have HR4 := Lib.hid hR4
          have HF4 := Lib.hid hf4
          have hres := HRES2.out
          clear hpb hR4 hf4 HTK HR3 HF3 j1
          by_cases he : E = 0
          · have t0 : ((E : Int) != 0) = false := by simp; omega
            have t0' : (E != 0) = false := by simp; omega
            rw [if_neg (by omega)] at hres
            have HX := Lib.hid hres
            have hI4 : Inv okU ⟨left.drop k, addG gs (i, x) 1, cnt + 1⟩ := HI3.out.add (by have h1 := HPOS.out he; have h2 := HBD.out.2.1; rw [List.length_drop]; omega) HBD.out.1 (by have := HC3.out; omega)
            have had := raddC_any fpU fgU base g most (left.drop k) gs cnt 1 i x w4 HR4.out HI3.out.small.1 (fun g hg => HI3.out.small.2 g hg 1 (by omega)) (by have := HC3.out; omega)
            have HAD := Lib.hid had
            have HI4 := Lib.hid hI4
            have HN4 : Hid (cnt + 1 + (n - (j + 1)) ≤ 1000000) := Lib.hid (by have h1 := HC3.out; have h2 := HM.out; omega)
            have HX2 : Hid (manyG kU (n - (j + 1)) ⟨left.drop k, addG gs (i, x) 1, cnt + 1⟩ = RES) := Lib.hid (by rw [← HM.out]; exact HX.out)
            clear he hres had hI4
            go_wp2_with fail
            refine HAD.out.mono ?_
            rintro e w5 ⟨rfl, hR5, hf5⟩
            have HR5 := Lib.hid hR5
            have HF5 := Lib.hid (HF4.out.trans hf5 (fun _ _ h => h))
            clear hR5 hf5 HAD
            go_wp2_with fail
            exact ⟨⟨j + 1, ⟨left.drop k, addG gs (i, x) 1, cnt + 1⟩, by omega, by go_num, HR5.out, HI4.out, HX2.out, HN4.out, HF5.out⟩, by simp [intOf]; omega⟩
          · have t0 : ((E : Int) != 0) = true := by simp; omega
            have t0' : (E != 0) = true := by simp; omega
            rw [if_pos he] at hres
            have HX := Lib.hid hres
            have HE := Lib.hid he
            clear he hres
            go_wp2_with fail
            go_ret
            rw [← HX.out]
            exact ⟨HF4.out, rfl, HE.out⟩
      · obtain rfl : j = n := by omega
        have hX : Except.ok ⟨left, gs, cnt⟩ = RES := by have h := HE3.out; rw [Nat.sub_self] at h; exact h
        have HX := Lib.hid hX
        clear hX
        go_wp2_with fail
        go_ret
        rw [← HX.out]
        exact ⟨HF3.out, rfl, HR3.out⟩

end Go.Proofs.Ytcoohjjjiakdjaa
