/-
  Layer 11, the program: a reader's run of like cells (written by gen11.py out of rleN.src).
-/
import Derived.Test.YtmdobloncbljeaaRleL
import Derived.Test.YtmdobloncbljeaaRleJ
namespace Go.Proofs.Ytmdobloncbljeaa
open Go.RowKit Mem Go.Lib RleM LebM
attribute [local go_sem ↓] Go.wp_at_zero Go.wp_at_succ
set_option linter.unusedVariables false

def fpS : Value := .func (.func 30) #[] #[]
def fgS : Value := .func (.func 31) #[] #[]
/-- the reader of this kind *-/
abbrev RdS (w : World) (base g : Nat) (most : Int) (r : Rs (Bool × Int)) : Prop := Rdr nv 63 57 fpS fgS w base g most r
abbrev EndsS (base g : Nat) (most : Int) (res : Except Nat (Rs (Bool × Int))) (e : Ending) (w : World) : Prop := Ends nv 63 57 fpS fgS base g most res e w
/-- one cell is taken off a reader -/
theorem tookS_any (base g : Nat) (most : Int) (left : List UInt8) (gs : List ((Bool × Int) × Nat)) (cnt : Nat) (w : World) (hR : RdS w base g most ⟨left, gs, cnt⟩) (hl : left.length ≤ 1000000) :
    Calls Try.prog 48 #[.pointer (some ⟨g, 2, none⟩), .func (.func 31) #[] #[]] w fun e w' => e = .returned (.tuple #[.agg #[.bool (kS.get left).1.1, (.int .i64 (kS.get left).1.2)], .int .i64 ((kS.get left).2.2 : Int)]) ∧
      RdS w' base g most ⟨left.drop (kS.get left).2.1, gs, cnt⟩ ∧ Fr (fun b => b = g) w w' := by
  obtain ⟨⟨A, nl, c, Ag, cg, hrow, hrd, hnc, hA, hO⟩, hbg⟩ := hR
  simp only at hrow hrd hO
  have hln : left.length = nl := by simpa using hrd.1
  refine (takeS_any base g _ _ _ _ _ _ A nl c left w hrow hrd hnc hA hbg (by omega)).mono ?_
  rintro e w2 ⟨rfl, ⟨A2, c2, hrow2, hrd2, hnc2, hA2⟩, hf2⟩
  exact ⟨rfl, Rdr.left (L := left) hrow hO hbg (by decide) hf2 ⟨A2, c2, _, hrow2, hrd2, hnc2, hA2⟩, hf2⟩

set_option maxRecDepth 100000 in
set_option maxHeartbeats 1600000 in
theorem sameS_any (base g : Nat) (most : Int) (n : Nat) (r : Rs (Bool × Int)) (w : World) (hR : RdS w base g most r) (hI : Inv okS r) (hn : n < 9223372036854775808) (hm0 : -9223372036854775808 ≤ most) (hm1 : most ≤ 1000000) :
    Calls Try.prog 42 #[.pointer (some ⟨g, 0, none⟩), .int .u64 (n : Int)] w fun e w' => Fr (fun k => base ≤ k) w w' ∧ EndsS base g most (sameG kS most n r) e w' := by
  obtain ⟨left, gs, cnt⟩ := r
  have hlen := hI.len
  have hcnt := hI.cnt
  simp only at hlen hcnt
  have hbg := hR.base
  have HBG := Lib.hid hbg
  have hft := fitsC_any g cnt n most w hR.cells.1 hR.cells.2.1 (by omega) hm0 (by omega) (by omega)
  obtain ⟨RES, hRES⟩ : ∃ R, R = sameG kS most n (⟨left, gs, cnt⟩ : Rs (Bool × Int)) := ⟨_, rfl⟩
  rw [← hRES]
  unfold sameG at hRES
  simp only at hRES
  obtain ⟨Q, hQ⟩ : ∃ Q, decide ((cnt : Int) + (n : Nat) ≤ most) = Q := ⟨_, rfl⟩
  rw [hQ] at hft
  have HFT := Lib.hid hft
  have HR := Lib.hid hR
  have HI := Lib.hid hI
  have HQ := Lib.hid hQ
  have r0 : IntKind.i64.wrap (n : Int) = (n : Int) := by rw [IntKind.wrap_i64]; omega
  clear hft hR hI hQ hbg
  cases Q with
  | false =>
    have hfit : ¬ (cnt : Int) + (n : Nat) ≤ most := of_decide_eq_false HQ.out
    rw [if_neg hfit] at hRES
    have HRES := Lib.hid hRES
    clear hRES hfit
    go_enter Try.func42, Try.ntmps42
    go_wp2_with fail
    refine HFT.out.mono ?_
    rintro e w3 ⟨rfl, hf3⟩
    have HF3 : Hid (Fr (fun k => base ≤ k) w w3) := Lib.hid (Fr.up0 hf3)
    clear hf3 HFT
    go_wp2_with fail
    go_ret
    rw [HRES.out]
    exact ⟨HF3.out, rfl, by decide⟩
  | true =>
    have hfit : (cnt : Int) + (n : Nat) ≤ most := of_decide_eq_true HQ.out
    rw [if_pos hfit] at hRES
    have hN6 : cnt + n ≤ 1000000 := by omega
    have hbd := getS_bd left
    have hpos := getS_pos (B := left)
    obtain ⟨i, hi⟩ : ∃ i, i = (kS.get left).1.1 := ⟨_, rfl⟩
    obtain ⟨x, hx⟩ : ∃ x, x = (kS.get left).1.2 := ⟨_, rfl⟩
    obtain ⟨k, hk⟩ : ∃ k, k = (kS.get left).2.1 := ⟨_, rfl⟩
    obtain ⟨E, hE⟩ : ∃ E, E = (kS.get left).2.2 := ⟨_, rfl⟩
    have hix : (kS.get left).1 = (i, x) := by rw [hi, hx]
    rw [hix, ← hk, ← hE] at hRES
    rw [hix, ← hk, ← hE] at hbd
    rw [← hk, ← hE] at hpos
    have htk : ∀ w', RdS w' base g most ⟨left, gs, cnt⟩ → Calls Try.prog 48 #[.pointer (some ⟨g, 2, none⟩), .func (.func 31) #[] #[]] w' fun e w'' => e = .returned (.tuple #[.agg #[.bool i, (.int .i64 x)], .int .i64 (E : Int)]) ∧ RdS w'' base g most ⟨left.drop k, gs, cnt⟩ ∧ Fr (fun b => b = g) w' w'' := by
      intro w' h'
      have h := tookS_any base g most left gs cnt w' h' (by omega)
      rw [← hi, ← hx, ← hk, ← hE] at h
      exact h
    have HTK := Lib.hid htk
    have HRES := Lib.hid hRES
    have HPOS := Lib.hid hpos
    have HBD := Lib.hid hbd
    clear hi hx hk hE hix hRES hpos hbd htk hfit
    go_enter Try.func42, Try.ntmps42
    go_wp2_with fail
    refine HFT.out.mono ?_
    rintro e w3 ⟨rfl, hf3⟩
    have HR3 := Lib.hid (HR.out.fr hf3)
    have HF3 : Hid (Fr (fun k => base ≤ k) w w3) := Lib.hid (Fr.up0 hf3)
    have j1 : w3.cell? ⟨g, 1, none⟩ = some fgS := HR3.out.cells.2.2.2
    have HJ1 := Lib.hid j1
    unfold fgS at j1
    clear hf3 HFT
    go_upto_region 3 with fail
    go_cut [5, 6] (fun a b wx => ∃ pb, a = .pointer (some ⟨pb, 0, none⟩) ∧ b = .int .i64 (E : Int) ∧ Row wx pb 30 [.bool i, (.int .i64 x)] ∧ RdS wx base g most ⟨left.drop k, gs, cnt⟩ ∧ Fr (fun k => base ≤ k) w wx)
    case first =>
      refine wp_region_noPanic ?_
      refine wp_region_held_drew (S := fun w' => w'.cell? ⟨g, 1, none⟩ = some (.func (.func 31) #[] #[])) (by kernel_rfl) ?_ (fun hHeld => ?_)
      · exact j1
      refine wpAnyH_take (i := 0) (v := ?vi0) rfl (by kernel_rfl) (by kernel_rfl) (by kernel_rfl) (fun _ _ _ h => h) (Or.inl ⟨by rfl, ?hyi0⟩) hHeld ?resti0
      case hyi0 => intro w hSw; (try dsimp only at hSw); go_simp; try (with_reducible rfl)
      (try simp only [Act.put, List.setIfInBounds_toArray, List.set_cons_zero, List.set_cons_succ, List.getElem_toArray, List.getElem_cons_zero])
      refine wpAnyH_take (i := 1) (v := ?vi1) rfl (by kernel_rfl) (by kernel_rfl) (by kernel_rfl) (fun _ _ _ h => h) (Or.inl ⟨by rfl, ?hyi1⟩) hHeld ?resti1
      case hyi1 => intro w hSw; (try dsimp only at hSw); go_simp; try (with_reducible rfl)
      (try simp only [Act.put, List.setIfInBounds_toArray, List.set_cons_zero, List.set_cons_succ, List.getElem_toArray, List.getElem_cons_zero, List.getElem_cons_succ])
      refine wpAnyH_take (i := 2) (v := ?vi2) rfl (by kernel_rfl) (by kernel_rfl) (by kernel_rfl) (fun _ _ _ h => h) (Or.inl ⟨by rfl, ?hyi2⟩) hHeld ?resti2
      case hyi2 => intro w hSw; (try dsimp only at hSw); go_simp; try (with_reducible rfl)
      (try simp only [Act.put, List.setIfInBounds_toArray, List.set_cons_zero, List.set_cons_succ, List.getElem_toArray, List.getElem_cons_zero, List.getElem_cons_succ])
      refine wpAnyH_take (i := 3) (v := ?vi3) rfl (by kernel_rfl) (by kernel_rfl) (by kernel_rfl) (fun _ _ _ h => h) (Or.inl ⟨by rfl, ?hyi3⟩) hHeld ?resti3
      case hyi3 => intro w hSw; (try dsimp only at hSw); go_simp; try (with_reducible rfl)
      (try simp only [Act.put, List.setIfInBounds_toArray, List.set_cons_zero, List.set_cons_succ, List.getElem_toArray, List.getElem_cons_zero, List.getElem_cons_succ])
      refine wpAnyH_take (i := 4) (v := ?vi4) rfl (by kernel_rfl) (by kernel_rfl) (by kernel_rfl) (fun _ _ _ h => h) (Or.inl ⟨by rfl, ?hyi4⟩) hHeld ?resti4
      case hyi4 => intro w hSw; (try dsimp only at hSw); go_simp; try (with_reducible rfl)
      (try simp only [Act.put, List.setIfInBounds_toArray, List.set_cons_zero, List.set_cons_succ, List.getElem_toArray, List.getElem_cons_zero, List.getElem_cons_succ])
      refine wpAnyH_take (i := 5) (v := ?vi5) rfl (by kernel_rfl) (by kernel_rfl) (by kernel_rfl) (fun _ _ _ h => h) (Or.inl ⟨by rfl, ?hyi5⟩) hHeld ?resti5
      case hyi5 => intro w hSw; (try dsimp only at hSw); go_simp; try (with_reducible rfl)
      (try simp only [Act.put, List.setIfInBounds_toArray, List.set_cons_zero, List.set_cons_succ, List.getElem_toArray, List.getElem_cons_zero, List.getElem_cons_succ])
      refine wpAnyH_take (i := 6) (v := ?vi6) rfl (by kernel_rfl) (by kernel_rfl) (by kernel_rfl) (fun _ _ _ h => h) (Or.inl ⟨by rfl, ?hyi6⟩) hHeld ?resti6
      case hyi6 => intro w hSw; (try dsimp only at hSw); go_simp; try (with_reducible rfl)
      (try simp only [Act.put, List.setIfInBounds_toArray, List.set_cons_zero, List.set_cons_succ, List.getElem_toArray, List.getElem_cons_zero, List.getElem_cons_succ])
      refine wpAnyH_take (i := 7) (v := ?vi7) rfl (by kernel_rfl) (by kernel_rfl) (by kernel_rfl) (fun _ _ _ h => h) (Or.inl ⟨by rfl, ?hyi7⟩) hHeld ?resti7
      case hyi7 => intro w hSw; (try dsimp only at hSw); go_simp; try (with_reducible rfl)
      (try simp only [Act.put, List.setIfInBounds_toArray, List.set_cons_zero, List.set_cons_succ, List.getElem_toArray, List.getElem_cons_zero, List.getElem_cons_succ])
      refine wpAnyH_ready (rs := [8, 12]) (by kernel_rfl) (by simp) ?_
      refine AllReadyH.cons rfl (fun Kx hKx => ?_) ?_
      · go_simp
        refine (HTK.out w3.drew (HR3.out.fr (Fr.refl _ _).drew)).mono ?_
        rintro e w5 ⟨rfl, hR5, hf5⟩
        have HR5 := Lib.hid hR5
        have HF5 := Lib.hid (HF3.out.drew.trans (Fr.up hf5 HBG.out) (fun _ _ h => h))
        clear hR5 hf5
        refine hKx.out _ _ ?_ (fun hHeld => ?_)
        · exact HR5.out.cells.2.2.2
        clear hKx Kx
        (try simp only [Act.put, List.setIfInBounds_toArray, List.set_cons_zero, List.set_cons_succ, List.getElem_toArray, List.getElem_cons_zero, List.getElem_cons_succ])
        refine wpAnyH_take (i := 9) (v := ?vj9) rfl (by kernel_rfl) (by kernel_rfl) (by kernel_rfl) (fun _ _ _ h => h) (Or.inl ⟨by rfl, ?hyj9⟩) hHeld ?restj9
        case hyj9 => intro w hSw; (try dsimp only at hSw); go_simp; try (with_reducible rfl)
        (try simp only [Act.put, List.setIfInBounds_toArray, List.set_cons_zero, List.set_cons_succ, List.getElem_toArray, List.getElem_cons_zero, List.getElem_cons_succ])
        refine wpAnyH_take (i := 10) (v := ?vj10) rfl (by kernel_rfl) (by kernel_rfl) (by kernel_rfl) (fun _ _ _ h => h) (Or.inl ⟨by rfl, ?hyj10⟩) hHeld ?restj10
        case hyj10 => intro w hSw; (try dsimp only at hSw); go_simp; try (with_reducible rfl)
        (try simp only [Act.put, List.setIfInBounds_toArray, List.set_cons_zero, List.set_cons_succ, List.getElem_toArray, List.getElem_cons_zero, List.getElem_cons_succ])
        refine wpAnyH_take (i := 11) (v := ?vj11) rfl (by kernel_rfl) (by kernel_rfl) (by kernel_rfl) (fun _ _ _ h => h) (Or.inl ⟨by rfl, ?hyj11⟩) hHeld ?restj11
        case hyj11 => intro w hSw; (try dsimp only at hSw); go_simp; try (with_reducible rfl)
        (try simp only [Act.put, List.setIfInBounds_toArray, List.set_cons_zero, List.set_cons_succ, List.getElem_toArray, List.getElem_cons_zero, List.getElem_cons_succ])
        refine wpAnyH_ready (rs := [12]) (by kernel_rfl) (by simp) ?_
        refine AllReadyH.cons rfl (fun Kx hKx => ?_) AllReadyH.nil
        go_simp
        obtain ⟨w4, hwa⟩ : ∃ y, (w5.alloc (.cells #[.bool false, (.int .i64 0)] 30)) = y := ⟨_, rfl⟩
        rw [hwa]
        obtain ⟨pb, hpb⟩ : ∃ p, w5.heap.size = p := ⟨_, rfl⟩
        try rw [hpb]
        have hfa : Fr (fun _ => False) w5 w4 := by rw [← hwa]; exact (Fr.refl _ _).alloc _
        have hpa : Row w4 pb 30 [.bool false, (.int .i64 0)] := by rw [← hwa, ← hpb]; exact Row.new w5 _ _
        have HPG : Hid (base ≤ pb ∧ pb ≠ g) := Lib.hid (by have h1 := HR5.out.lt; have h2 := HBG.out; omega)
        have HRa := Lib.hid (HR5.out.fr hfa)
        have HFa := Lib.hid (HF5.out.trans (Fr.up0 hfa) (fun _ _ h => h))
        have HPa := Lib.hid hpa
        clear hwa hpb hfa hpa
        have HR4 := HRa
        have HF4 := HFa
        have HP4 := HPa
        have z0 : w4.frozen? ⟨pb, 0, none⟩ = false := HPa.out.free 0
        have z1 : w4.frozen? ⟨pb, 1, none⟩ = false := HPa.out.free 1
        have y0 : w4.cell? ⟨pb, 0, none⟩ = some (.bool false) := HPa.out.cell rfl
        have y1 : w4.cell? ⟨pb, 1, none⟩ = some (.int .i64 0) := HPa.out.cell rfl
        refine hKx.out _ _ ?_ (fun hHeld => ?_)
        · exact HR4.out.cells.2.2.2
        clear hKx Kx
        (try simp only [Act.put, List.setIfInBounds_toArray, List.set_cons_zero, List.set_cons_succ, List.getElem_toArray, List.getElem_cons_zero, List.getElem_cons_succ])
        refine wpAnyH_ready (rs := [13]) (by kernel_rfl) (by simp) ?_
        refine AllReadyH.cons rfl (fun Kx hKx => ?_) AllReadyH.nil
        go_simp
        refine hKx.out _ _ ?_ (fun hHeld => ?_)
        · exact (HR4.out.other2 HP4.out HPG.out (by decide)).cells.2.2.2
        clear hKx Kx
        (try simp only [Act.put, List.setIfInBounds_toArray, List.set_cons_zero, List.set_cons_succ, List.getElem_toArray, List.getElem_cons_zero, List.getElem_cons_succ])
        refine wpAnyH_ready (rs := [14]) (by kernel_rfl) (by simp) ?_
        refine AllReadyH.cons rfl (fun Kx hKx => ?_) AllReadyH.nil
        go_simp
        refine hKx.out _ _ ?_ (fun hHeld => ?_)
        · exact (HR4.out.other2 HP4.out HPG.out (by decide)).cells.2.2.2
        clear hKx Kx
        (try simp only [Act.put, List.setIfInBounds_toArray, List.set_cons_zero, List.set_cons_succ, List.getElem_toArray, List.getElem_cons_zero, List.getElem_cons_succ])
        refine wpAnyH_done (by kernel_rfl) ?_ _
        refine NoPanic.normal ?_
        all_goals (go_wp2_with fail; go_meet; exact ⟨pb, rfl, rfl, (HP4.out.set 0 _).set 1 _, HR4.out.other2 HP4.out HPG.out (by decide), HF4.out.trans ((Fr.set1 w4 pb 0 _).trans (Fr.set1 _ pb 1 _) (fun _ _ h => h)) (fun b _ h => by have := HPG.out.1; omega)⟩)
      refine AllReadyH.cons rfl (fun Kx hKx => ?_) AllReadyH.nil
      go_simp
      obtain ⟨wa, hwa⟩ : ∃ y, (w3.alloc (.cells #[.bool false, (.int .i64 0)] 30)).drew = y := ⟨_, rfl⟩
      rw [hwa]
      obtain ⟨pb, hpb⟩ : ∃ p, w3.heap.size = p := ⟨_, rfl⟩
      try rw [hpb]
      have hfa : Fr (fun _ => False) w3 wa := by rw [← hwa]; exact ((Fr.refl _ _).alloc _).drew
      have hpa : Row wa pb 30 [.bool false, (.int .i64 0)] := by rw [← hwa, ← hpb]; exact Row.new w3 _ _
      have HPG : Hid (base ≤ pb ∧ pb ≠ g) := Lib.hid (by have h1 := HR3.out.lt; have h2 := HBG.out; omega)
      have HRa := Lib.hid (HR3.out.fr hfa)
      have HFa := Lib.hid (HF3.out.trans (Fr.up0 hfa) (fun _ _ h => h))
      have HPa := Lib.hid hpa
      clear hwa hpb hfa hpa
      refine hKx.out _ _ ?_ (fun hHeld => ?_)
      · exact HRa.out.cells.2.2.2
      clear hKx Kx
      (try simp only [Act.put, List.setIfInBounds_toArray, List.set_cons_zero, List.set_cons_succ, List.getElem_toArray, List.getElem_cons_zero, List.getElem_cons_succ])
      refine wpAnyH_ready (rs := [8]) (by kernel_rfl) (by simp) ?_
      refine AllReadyH.cons rfl (fun Kx hKx => ?_) AllReadyH.nil
      go_simp
      refine (HTK.out wa HRa.out).mono ?_
      rintro e w4 ⟨rfl, hR4, hf4⟩
      have HR4 := Lib.hid hR4
      have HP4 := Lib.hid (HPa.out.fr hf4 HPG.out.2)
      have HF4 := Lib.hid (HFa.out.trans (Fr.up hf4 HBG.out) (fun _ _ h => h))
      clear hR4 hf4 HRa HFa HPa
      have z0 : w4.frozen? ⟨pb, 0, none⟩ = false := HP4.out.free 0
      have z1 : w4.frozen? ⟨pb, 1, none⟩ = false := HP4.out.free 1
      have y0 : w4.cell? ⟨pb, 0, none⟩ = some (.bool false) := HP4.out.cell rfl
      have y1 : w4.cell? ⟨pb, 1, none⟩ = some (.int .i64 0) := HP4.out.cell rfl
      refine hKx.out _ _ ?_ (fun hHeld => ?_)
      · exact HR4.out.cells.2.2.2
      clear hKx Kx
      (try simp only [Act.put, List.setIfInBounds_toArray, List.set_cons_zero, List.set_cons_succ, List.getElem_toArray, List.getElem_cons_zero, List.getElem_cons_succ])
      refine wpAnyH_take (i := 9) (v := ?vk9) rfl (by kernel_rfl) (by kernel_rfl) (by kernel_rfl) (fun _ _ _ h => h) (Or.inl ⟨by rfl, ?hyk9⟩) hHeld ?restk9
      case hyk9 => intro w hSw; (try dsimp only at hSw); go_simp; try (with_reducible rfl)
      (try simp only [Act.put, List.setIfInBounds_toArray, List.set_cons_zero, List.set_cons_succ, List.getElem_toArray, List.getElem_cons_zero, List.getElem_cons_succ])
      refine wpAnyH_take (i := 10) (v := ?vk10) rfl (by kernel_rfl) (by kernel_rfl) (by kernel_rfl) (fun _ _ _ h => h) (Or.inl ⟨by rfl, ?hyk10⟩) hHeld ?restk10
      case hyk10 => intro w hSw; (try dsimp only at hSw); go_simp; try (with_reducible rfl)
      (try simp only [Act.put, List.setIfInBounds_toArray, List.set_cons_zero, List.set_cons_succ, List.getElem_toArray, List.getElem_cons_zero, List.getElem_cons_succ])
      refine wpAnyH_take (i := 11) (v := ?vk11) rfl (by kernel_rfl) (by kernel_rfl) (by kernel_rfl) (fun _ _ _ h => h) (Or.inl ⟨by rfl, ?hyk11⟩) hHeld ?restk11
      case hyk11 => intro w hSw; (try dsimp only at hSw); go_simp; try (with_reducible rfl)
      (try simp only [Act.put, List.setIfInBounds_toArray, List.set_cons_zero, List.set_cons_succ, List.getElem_toArray, List.getElem_cons_zero, List.getElem_cons_succ])
      refine wpAnyH_ready (rs := [13]) (by kernel_rfl) (by simp) ?_
      refine AllReadyH.cons rfl (fun Kx hKx => ?_) AllReadyH.nil
      go_simp
      refine hKx.out _ _ ?_ (fun hHeld => ?_)
      · exact (HR4.out.other2 HP4.out HPG.out (by decide)).cells.2.2.2
      clear hKx Kx
      (try simp only [Act.put, List.setIfInBounds_toArray, List.set_cons_zero, List.set_cons_succ, List.getElem_toArray, List.getElem_cons_zero, List.getElem_cons_succ])
      refine wpAnyH_ready (rs := [14]) (by kernel_rfl) (by simp) ?_
      refine AllReadyH.cons rfl (fun Kx hKx => ?_) AllReadyH.nil
      go_simp
      refine hKx.out _ _ ?_ (fun hHeld => ?_)
      · exact (HR4.out.other2 HP4.out HPG.out (by decide)).cells.2.2.2
      clear hKx Kx
      (try simp only [Act.put, List.setIfInBounds_toArray, List.set_cons_zero, List.set_cons_succ, List.getElem_toArray, List.getElem_cons_zero, List.getElem_cons_succ])
      refine wpAnyH_done (by kernel_rfl) ?_ _
      refine NoPanic.normal ?_
      go_wp2_with fail
      go_meet
      exact ⟨pb, rfl, rfl, (HP4.out.set 0 _).set 1 _, HR4.out.other2 HP4.out HPG.out (by decide), HF4.out.trans ((Fr.set1 w4 pb 0 _).trans (Fr.set1 _ pb 1 _) (fun _ _ h => h)) (fun b _ h => by have := HPG.out.1; omega)⟩
    case rest =>
      obtain ⟨pb, rfl, rfl, hpb, hR4, hf4⟩ := hcut
      rename World => w4
      have p0 : w4.cell? ⟨pb, 0, none⟩ = some (.bool i) := hpb.cell rfl
      have p1 : w4.cell? ⟨pb, 1, none⟩ = some (.int .i64 x) := hpb.cell rfl
      have HR4 := Lib.hid hR4
      have HF4 := Lib.hid hf4
      have hres := HRES.out
      clear hpb hR4 hf4 HTK HR3 HF3 HJ1 j1
      by_cases he : E = 0
      · have t0 : ((E : Int) != 0) = false := by simp; omega
        have t0' : (E != 0) = false := by simp; omega
        rw [if_neg (by omega)] at hres
        have HX := Lib.hid hres
        have had := raddC_any fpS fgS base g most (left.drop k) gs cnt n i x w4 HR4.out HI.out.small.1 (fun g hg => HI.out.small.2 g hg n (by omega)) (by omega)
        have HAD := Lib.hid had
        clear he hres had
        go_wp2_with fail
        refine HAD.out.mono ?_
        rintro e w5 ⟨rfl, hR5, hf5⟩
        have HR5 := Lib.hid hR5
        have HF5 := Lib.hid (HF4.out.trans hf5 (fun _ _ h => h))
        clear hR5 hf5 HAD
        go_wp2_with fail
        go_ret
        rw [HX.out]
        exact ⟨HF5.out, rfl, HR5.out⟩
      · have t0 : ((E : Int) != 0) = true := by simp; omega
        have t0' : (E != 0) = true := by simp; omega
        rw [if_pos he] at hres
        have HX := Lib.hid hres
        have HE := Lib.hid he
        clear he hres
        go_wp2_with fail
        go_ret
        rw [HX.out]
        exact ⟨HF4.out, rfl, HE.out⟩

end Go.Proofs.Ytmdobloncbljeaa
