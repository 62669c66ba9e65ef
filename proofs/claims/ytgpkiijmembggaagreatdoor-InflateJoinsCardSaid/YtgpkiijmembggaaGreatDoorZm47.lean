/-
  Tokens of a row of one's own, read as tokens.
  Layer 9's program: Fixed, Dynamic (written by gen_calls.py).
  Layer 9's program: Press; the program keeps the contracts (written by gen_press9.py).
  Layer 10's program: Open; all its contracts.
  A slice of slices of bytes: what it reads as, each part's room within a slice's; out of the reading.
-/
import Derived.Test.YtgpkiijmembggaaGreatDoorZm46
import Derived.Test.YtgpkiijmembggaaGreatDoorZm43
import Derived.Test.YtgpkiijmembggaaGreatDoorDeK
import Derived.Test.YtgpkiijmembggaaGreatDoorZm14
import Derived.Test.YtgpkiijmembggaaGreatDoorZm40
import Derived.Test.YtgpkiijmembggaaGreatDoorZm04
import Derived.Deep.Slices
namespace Go.Proofs.YtgpkiijmembggaaGreatDoor
open Go.RowKit LzM Mem Go.Lib

theorem flat_at : ∀ (T : List Tok) (k : Nat) (t : Tok), T[k]? = some t → ∀ j, j < 3 → (T.flatMap tcells)[k * 3 + j]? = (tcells t)[j]?
  | [], k, t, h, j, hj => by simp at h
  | s :: T, 0, t, h, j, hj => by
    simp at h
    subst h
    rw [List.flatMap_cons, List.getElem?_append_left (by simp [tcells]; omega), Nat.zero_mul, Nat.zero_add]
  | s :: T, k + 1, t, h, j, hj => by
    rw [List.flatMap_cons, List.getElem?_append_right (by simp [tcells]; omega)]
    have e : (k + 1) * 3 + j - (tcells s).length = k * 3 + j := by simp [tcells]; omega
    rw [e]
    exact flat_at T k t (by simpa using h) j hj
theorem OwnT.toks {w : World} {base c : Nat} {A : Option Addr} {T : List Tok} (h : OwnT w base A c T) : Toks w A T.length T := by
  refine ⟨rfl, fun k t ht => ?_⟩
  have hk := (List.getElem?_eq_some_iff.1 ht).1
  rcases h.2 with ⟨hv, h0⟩ | ⟨g, cap, cur, hv, _⟩
  · injection hv with _ h1 h2
    omega
  · have hA : A = some ⟨g, 0, none⟩ := by injection hv
    subst hA
    have hc := h.cells (g := g) rfl
    have hadd : ∀ j, (⟨g, 0, none⟩ : Addr).add j = ⟨g, j, none⟩ := fun j => by unfold Addr.add; split <;> simp_all
    refine ⟨g, 0, rfl, (h.lt g rfl).2, ?_, ?_, ?_⟩
    · rw [← hadd]; exact hc _ _ (by have := flat_at T k t ht 0 (by omega); simpa [tcells] using this)
    · rw [Nat.add_assoc, Nat.zero_add, ← hadd]; exact hc _ _ (by have := flat_at T k t ht 1 (by omega); simpa [tcells] using this)
    · rw [Nat.add_assoc, Nat.zero_add, ← hadd]; exact hc _ _ (by have := flat_at T k t ht 2 (by omega); simpa [tcells] using this)
end Go.Proofs.YtgpkiijmembggaaGreatDoor
namespace Go.Proofs.YtgpkiijmembggaaGreatDoor
open Go.RowKit BitsM Mem Go.Lib
attribute [local go_sem ↓] Go.wp_at_zero Go.wp_at_succ
set_option linter.unusedVariables false
set_option maxRecDepth 100000

set_option maxHeartbeats 6400000 in
theorem pFixed9_any (A : Option Addr) (n c : Nat) (B : List UInt8) (w : World) (hG : Gl9 w) (hr : Rd w A n (B.map bytec)) (hc : n ≤ c) (hcm : c ≤ maxLen) (hn : n ≤ 10000) :
    Calls Tryz.prog 8 #[.slice A n c] w (GivesN w (pack (DeM.fixedBits B)) (DeM.fixedBits B).length) := by
  have hbl : B.length = n := by simpa using hr.1
  have hTn : (LzM.press B).length ≤ n := by rw [← hbl]; exact LzV.press_len B
  have HL : Hid ((DeM.fixedBits B).length ≤ 3000000) := Lib.hid (by have := fixed_len B; omega)
  have HTF : Hid (∀ t ∈ LzM.press B, Fits t) := Lib.hid (press_fits B)
  have HP := Lib.hid (pPressT_any A n c B w hr (by omega) hc hcm)
  have HAS : Hid (∀ (AT : Option Addr) (cT : Nat) (w' : World), Fr (fun _ => False) w w' → Toks w' AT (LzM.press B).length (LzM.press B) → Calls Tryz.prog 13 #[.slice AT (LzM.press B).length cT] w' (MadeB w' (DeM.fixedBits B))) := Lib.hid (fun AT cT w' hf hT => asFixed_any AT _ cT (LzM.press B) w' (hG.1.fr0 hf) hT (by omega) HTF.out)
  obtain ⟨bs, hbs⟩ : ∃ bs, bs = DeM.fixedBits B := ⟨_, rfl⟩
  rw [← hbs] at HL HAS ⊢
  obtain ⟨T, hT⟩ : ∃ T, T = LzM.press B := ⟨_, rfl⟩
  rw [← hT] at HP HAS
  obtain ⟨tn, htn⟩ : ∃ tn, tn = T.length := ⟨_, rfl⟩
  rw [← htn] at HP HAS
  have HTN := Lib.hid htn
  clear hr hbl hTn HTF hbs hT htn hG
  unfold GivesN
  go_enter Tryz.func8, Tryz.ntmps8
  go_wp2_with fail
  refine HP.out.mono ?_
  rintro e w1 ⟨AT, cT, rfl, ho1, hf1⟩
  have ht1 := ho1.toks
  rw [← HTN.out] at ht1
  have HA1 := Lib.hid (HAS.out AT cT w1 hf1 ht1)
  have HF1 := Lib.hid hf1
  clear ho1 hf1 ht1 HP HAS
  go_wp2_with fail
  refine HA1.out.mono ?_
  rintro e w2 ⟨g, A3, c3, rfl, hw2, hn2, hf2⟩
  have HF2 := Lib.hid (HF1.out.trans hf2 (fun _ _ h => h))
  have HW2 := Lib.hid hw2
  clear hw2 hn2 hf2 HA1
  go_upto_region 2 with fail
  obtain ⟨w3, hw3⟩ : ∃ w3, w3 = w2.alloc (.cells #[Value.pointer (some ⟨g, 0, none⟩)] 38) := ⟨_, rfl⟩
  obtain ⟨q, hq⟩ : ∃ q, q = w2.heap.size := ⟨_, rfl⟩
  have hf23 : Fr (fun _ => False) w2 w3 := by rw [hw3]; exact (Fr.refl _ w2).alloc _
  have HQ3 : Hid (Row w3 q 38 [Value.pointer (some ⟨g, 0, none⟩)]) := Lib.hid (by rw [hw3, hq]; exact Row.new w2 _ _)
  have HF3 := Lib.hid (HF2.out.trans hf23 (fun _ _ h => h))
  have HW3 := Lib.hid (HW2.out.frA hf23 (fun h => h) (fun _ _ h => h))
  rw [← hw3, ← hq]
  clear hw3 hq hf23 HF2 HW2
  refine wp_region_held_drew (S := fun w' => w'.cell? ⟨q, 0, none⟩ = some (.pointer (some ⟨g, 0, none⟩))) (by kernel_rfl) ?_ (fun hHeld => ?_)
  · exact HQ3.out.cell rfl
  refine wpAnyH_take (i := 0) (v := ?va0) rfl (by kernel_rfl) (by kernel_rfl) (by kernel_rfl) (fun _ _ _ h => h) (Or.inl ⟨by rfl, ?hya0⟩) hHeld ?resta0
  case hya0 => intro w hSw; (try dsimp only at hSw); go_simp; try (with_reducible rfl)
  (try simp only [Act.put, List.setIfInBounds_toArray, List.set_cons_zero, List.set_cons_succ, List.getElem_toArray, List.getElem_cons_zero])
  refine wpAnyH_take (i := 1) (v := ?va1) rfl (by kernel_rfl) (by kernel_rfl) (by kernel_rfl) (fun _ _ _ h => h) (Or.inl ⟨by rfl, ?hya1⟩) hHeld ?resta1
  case hya1 => intro w hSw; (try dsimp only at hSw); go_simp; try (with_reducible rfl)
  (try simp only [Act.put, List.setIfInBounds_toArray, List.set_cons_zero, List.set_cons_succ, List.getElem_toArray, List.getElem_cons_zero, List.getElem_cons_succ])
  refine wpAnyH_take (i := 3) (v := ?va3) rfl (by kernel_rfl) (by kernel_rfl) (by kernel_rfl) (fun _ _ _ h => h) (Or.inl ⟨by rfl, ?hya3⟩) hHeld ?resta3
  case hya3 => intro w hSw; (try dsimp only at hSw); go_simp; try (with_reducible rfl)
  (try simp only [Act.put, List.setIfInBounds_toArray, List.set_cons_zero, List.set_cons_succ, List.getElem_toArray, List.getElem_cons_zero, List.getElem_cons_succ])
  refine wpAnyH_take (i := 4) (v := ?va4) rfl (by kernel_rfl) (by kernel_rfl) (by kernel_rfl) (fun _ _ _ h => h) (Or.inl ⟨by rfl, ?hya4⟩) hHeld ?resta4
  case hya4 => intro w hSw; (try dsimp only at hSw); go_simp; try (with_reducible rfl)
  (try simp only [Act.put, List.setIfInBounds_toArray, List.set_cons_zero, List.set_cons_succ, List.getElem_toArray, List.getElem_cons_zero, List.getElem_cons_succ])
  refine wpAnyH_ready (rs := [2]) (by kernel_rfl) (by simp) ?_
  refine AllReadyH.cons rfl (fun Kx hKx => ?_) AllReadyH.nil
  go_simp
  refine (wbytes_any g c3 A3 bs w3.drew HW3.out (by have := HL.out; omega)).mono ?_
  rintro e w4 ⟨A4, c4, rfl, ho4, hf4⟩
  have HF4 := Lib.hid ((Fr.refl (fun _ => False) w3).drew.trans hf4 (fun _ _ h => h))
  have HO4 := Lib.hid ho4
  have HW4 := Lib.hid (HW3.out.frA HF4.out (fun h => h) (fun _ _ h => h))
  clear ho4 hf4
  refine hKx.out _ _ ?_ (fun hHeld => ?_)
  · exact (HQ3.out.fr HF4.out (fun h => h)).cell rfl
  clear hKx Kx
  (try simp only [Act.put, List.setIfInBounds_toArray, List.set_cons_zero, List.set_cons_succ, List.getElem_toArray, List.getElem_cons_zero, List.getElem_cons_succ])
  refine wpAnyH_ready (rs := [5]) (by kernel_rfl) (by simp) ?_
  refine AllReadyH.cons rfl (fun Kx hKx => ?_) AllReadyH.nil
  go_simp
  refine (len_any g c3 A3 bs w4 HW4.out).mono ?_
  rintro e w4' ⟨rfl, rfl⟩
  refine hKx.out _ _ ?_ (fun hHeld => ?_)
  · exact (HQ3.out.fr HF4.out (fun h => h)).cell rfl
  clear hKx Kx
  (try simp only [Act.put, List.setIfInBounds_toArray, List.set_cons_zero, List.set_cons_succ, List.getElem_toArray, List.getElem_cons_zero, List.getElem_cons_succ])
  refine wpAnyH_take (i := 6) (v := ?va6) rfl (by kernel_rfl) (by kernel_rfl) (by kernel_rfl) (fun _ _ _ h => h) (Or.inl ⟨by rfl, ?hya6⟩) hHeld ?resta6
  case hya6 => intro w hSw; (try dsimp only at hSw); go_simp; try (with_reducible rfl)
  (try simp only [Act.put, List.setIfInBounds_toArray, List.set_cons_zero, List.set_cons_succ, List.getElem_toArray, List.getElem_cons_zero, List.getElem_cons_succ])
  refine wpAnyH_take (i := 7) (v := ?va7) rfl (by kernel_rfl) (by kernel_rfl) (by kernel_rfl) (fun _ _ _ h => h) (Or.inl ⟨by rfl, ?hya7⟩) hHeld ?resta7
  case hya7 => intro w hSw; (try dsimp only at hSw); go_simp; try (with_reducible rfl)
  (try simp only [Act.put, List.setIfInBounds_toArray, List.set_cons_zero, List.set_cons_succ, List.getElem_toArray, List.getElem_cons_zero, List.getElem_cons_succ])
  refine wpAnyH_done (by kernel_rfl) ?_ _
  go_wp2_with fail
  exact bodyPost_ret (v := .tuple #[.slice A4 (pack bs).length c4, .int .i64 (bs.length : Int)]) (by simp [results, Tryz.results8, go_sem]) rfl ⟨A4, c4, rfl, own_base HO4.out HF3.out.size, HF3.out.trans HF4.out (fun _ _ h => h)⟩
set_option maxHeartbeats 6400000 in
theorem pDynamic9_any (A : Option Addr) (n c : Nat) (B : List UInt8) (w : World) (hG : Gl9 w) (hr : Rd w A n (B.map bytec)) (hc : n ≤ c) (hcm : c ≤ maxLen) (hn : n ≤ 10000) :
    Calls Tryz.prog 9 #[.slice A n c] w (GivesN w (pack (DeM.dynBits B)) (DeM.dynBits B).length) := by
  have hbl : B.length = n := by simpa using hr.1
  have hTn : (LzM.press B).length ≤ n := by rw [← hbl]; exact LzV.press_len B
  have HL : Hid ((DeM.dynBits B).length ≤ 3000000) := Lib.hid (by have := dyn_len B; omega)
  have HTF : Hid (∀ t ∈ LzM.press B, Fits t) := Lib.hid (press_fits B)
  have HP := Lib.hid (pPressT_any A n c B w hr (by omega) hc hcm)
  have HAS : Hid (∀ (AT : Option Addr) (cT : Nat) (w' : World), Fr (fun _ => False) w w' → Toks w' AT (LzM.press B).length (LzM.press B) → Calls Tryz.prog 17 #[.slice AT (LzM.press B).length cT] w' (MadeB w' (DeM.dynBits B))) := Lib.hid (fun AT cT w' hf hT => asDynamic_any AT _ cT (LzM.press B) w' (hG.1.fr0 hf) (hG.2.fr0 hf) hT (by omega) HTF.out)
  obtain ⟨bs, hbs⟩ : ∃ bs, bs = DeM.dynBits B := ⟨_, rfl⟩
  rw [← hbs] at HL HAS ⊢
  obtain ⟨T, hT⟩ : ∃ T, T = LzM.press B := ⟨_, rfl⟩
  rw [← hT] at HP HAS
  obtain ⟨tn, htn⟩ : ∃ tn, tn = T.length := ⟨_, rfl⟩
  rw [← htn] at HP HAS
  have HTN := Lib.hid htn
  clear hr hbl hTn HTF hbs hT htn hG
  unfold GivesN
  go_enter Tryz.func9, Tryz.ntmps9
  go_wp2_with fail
  refine HP.out.mono ?_
  rintro e w1 ⟨AT, cT, rfl, ho1, hf1⟩
  have ht1 := ho1.toks
  rw [← HTN.out] at ht1
  have HA1 := Lib.hid (HAS.out AT cT w1 hf1 ht1)
  have HF1 := Lib.hid hf1
  clear ho1 hf1 ht1 HP HAS
  go_wp2_with fail
  refine HA1.out.mono ?_
  rintro e w2 ⟨g, A3, c3, rfl, hw2, hn2, hf2⟩
  have HF2 := Lib.hid (HF1.out.trans hf2 (fun _ _ h => h))
  have HW2 := Lib.hid hw2
  clear hw2 hn2 hf2 HA1
  go_upto_region 2 with fail
  obtain ⟨w3, hw3⟩ : ∃ w3, w3 = w2.alloc (.cells #[Value.pointer (some ⟨g, 0, none⟩)] 38) := ⟨_, rfl⟩
  obtain ⟨q, hq⟩ : ∃ q, q = w2.heap.size := ⟨_, rfl⟩
  have hf23 : Fr (fun _ => False) w2 w3 := by rw [hw3]; exact (Fr.refl _ w2).alloc _
  have HQ3 : Hid (Row w3 q 38 [Value.pointer (some ⟨g, 0, none⟩)]) := Lib.hid (by rw [hw3, hq]; exact Row.new w2 _ _)
  have HF3 := Lib.hid (HF2.out.trans hf23 (fun _ _ h => h))
  have HW3 := Lib.hid (HW2.out.frA hf23 (fun h => h) (fun _ _ h => h))
  rw [← hw3, ← hq]
  clear hw3 hq hf23 HF2 HW2
  refine wp_region_held_drew (S := fun w' => w'.cell? ⟨q, 0, none⟩ = some (.pointer (some ⟨g, 0, none⟩))) (by kernel_rfl) ?_ (fun hHeld => ?_)
  · exact HQ3.out.cell rfl
  refine wpAnyH_take (i := 0) (v := ?vb0) rfl (by kernel_rfl) (by kernel_rfl) (by kernel_rfl) (fun _ _ _ h => h) (Or.inl ⟨by rfl, ?hyb0⟩) hHeld ?restb0
  case hyb0 => intro w hSw; (try dsimp only at hSw); go_simp; try (with_reducible rfl)
  (try simp only [Act.put, List.setIfInBounds_toArray, List.set_cons_zero, List.set_cons_succ, List.getElem_toArray, List.getElem_cons_zero])
  refine wpAnyH_take (i := 1) (v := ?vb1) rfl (by kernel_rfl) (by kernel_rfl) (by kernel_rfl) (fun _ _ _ h => h) (Or.inl ⟨by rfl, ?hyb1⟩) hHeld ?restb1
  case hyb1 => intro w hSw; (try dsimp only at hSw); go_simp; try (with_reducible rfl)
  (try simp only [Act.put, List.setIfInBounds_toArray, List.set_cons_zero, List.set_cons_succ, List.getElem_toArray, List.getElem_cons_zero, List.getElem_cons_succ])
  refine wpAnyH_take (i := 3) (v := ?vb3) rfl (by kernel_rfl) (by kernel_rfl) (by kernel_rfl) (fun _ _ _ h => h) (Or.inl ⟨by rfl, ?hyb3⟩) hHeld ?restb3
  case hyb3 => intro w hSw; (try dsimp only at hSw); go_simp; try (with_reducible rfl)
  (try simp only [Act.put, List.setIfInBounds_toArray, List.set_cons_zero, List.set_cons_succ, List.getElem_toArray, List.getElem_cons_zero, List.getElem_cons_succ])
  refine wpAnyH_take (i := 4) (v := ?vb4) rfl (by kernel_rfl) (by kernel_rfl) (by kernel_rfl) (fun _ _ _ h => h) (Or.inl ⟨by rfl, ?hyb4⟩) hHeld ?restb4
  case hyb4 => intro w hSw; (try dsimp only at hSw); go_simp; try (with_reducible rfl)
  (try simp only [Act.put, List.setIfInBounds_toArray, List.set_cons_zero, List.set_cons_succ, List.getElem_toArray, List.getElem_cons_zero, List.getElem_cons_succ])
  refine wpAnyH_ready (rs := [2]) (by kernel_rfl) (by simp) ?_
  refine AllReadyH.cons rfl (fun Kx hKx => ?_) AllReadyH.nil
  go_simp
  refine (wbytes_any g c3 A3 bs w3.drew HW3.out (by have := HL.out; omega)).mono ?_
  rintro e w4 ⟨A4, c4, rfl, ho4, hf4⟩
  have HF4 := Lib.hid ((Fr.refl (fun _ => False) w3).drew.trans hf4 (fun _ _ h => h))
  have HO4 := Lib.hid ho4
  have HW4 := Lib.hid (HW3.out.frA HF4.out (fun h => h) (fun _ _ h => h))
  clear ho4 hf4
  refine hKx.out _ _ ?_ (fun hHeld => ?_)
  · exact (HQ3.out.fr HF4.out (fun h => h)).cell rfl
  clear hKx Kx
  (try simp only [Act.put, List.setIfInBounds_toArray, List.set_cons_zero, List.set_cons_succ, List.getElem_toArray, List.getElem_cons_zero, List.getElem_cons_succ])
  refine wpAnyH_ready (rs := [5]) (by kernel_rfl) (by simp) ?_
  refine AllReadyH.cons rfl (fun Kx hKx => ?_) AllReadyH.nil
  go_simp
  refine (len_any g c3 A3 bs w4 HW4.out).mono ?_
  rintro e w4' ⟨rfl, rfl⟩
  refine hKx.out _ _ ?_ (fun hHeld => ?_)
  · exact (HQ3.out.fr HF4.out (fun h => h)).cell rfl
  clear hKx Kx
  (try simp only [Act.put, List.setIfInBounds_toArray, List.set_cons_zero, List.set_cons_succ, List.getElem_toArray, List.getElem_cons_zero, List.getElem_cons_succ])
  refine wpAnyH_take (i := 6) (v := ?vb6) rfl (by kernel_rfl) (by kernel_rfl) (by kernel_rfl) (fun _ _ _ h => h) (Or.inl ⟨by rfl, ?hyb6⟩) hHeld ?restb6
  case hyb6 => intro w hSw; (try dsimp only at hSw); go_simp; try (with_reducible rfl)
  (try simp only [Act.put, List.setIfInBounds_toArray, List.set_cons_zero, List.set_cons_succ, List.getElem_toArray, List.getElem_cons_zero, List.getElem_cons_succ])
  refine wpAnyH_take (i := 7) (v := ?vb7) rfl (by kernel_rfl) (by kernel_rfl) (by kernel_rfl) (fun _ _ _ h => h) (Or.inl ⟨by rfl, ?hyb7⟩) hHeld ?restb7
  case hyb7 => intro w hSw; (try dsimp only at hSw); go_simp; try (with_reducible rfl)
  (try simp only [Act.put, List.setIfInBounds_toArray, List.set_cons_zero, List.set_cons_succ, List.getElem_toArray, List.getElem_cons_zero, List.getElem_cons_succ])
  refine wpAnyH_done (by kernel_rfl) ?_ _
  go_wp2_with fail
  exact bodyPost_ret (v := .tuple #[.slice A4 (pack bs).length c4, .int .i64 (bs.length : Int)]) (by simp [results, Tryz.results9, go_sem]) rfl ⟨A4, c4, rfl, own_base HO4.out HF3.out.size, HF3.out.trans HF4.out (fun _ _ h => h)⟩
end Go.Proofs.YtgpkiijmembggaaGreatDoor
namespace Go.Proofs.YtgpkiijmembggaaGreatDoor
open Go.RowKit BitsM Mem Go.Lib
attribute [local go_sem ↓] Go.wp_at_zero Go.wp_at_succ
set_option linter.unusedVariables false
set_option maxRecDepth 100000

/-- the shorter one, the first of like ones -/
def shorter (s : List UInt8 × Nat) (bs : List Bool) : List UInt8 × Nat := if bs.length < s.2 then (pack bs, bs.length) else s
theorem press_two (B : List UInt8) : (shorter (shorter (DeM.storedB B, 8 * (DeM.storedB B).length) (DeM.fixedBits B)) (DeM.dynBits B)).1 = DeM.pressB B := by
  unfold shorter DeM.pressB
  simp only
  by_cases h1 : (DeM.fixedBits B).length < 8 * (DeM.storedB B).length
  · rw [if_pos h1, if_pos h1]
    simp only
    split <;> rfl
  · rw [if_neg h1, if_neg h1]
    simp only
    split <;> rfl
/-- the shortest of the first k of two -/
def upTo (s : List UInt8 × Nat) (F D : List Bool) : Nat → List UInt8 × Nat
  | 0 => s
  | 1 => shorter s F
  | _ => shorter (shorter s F) D
theorem upTo_len (s : List UInt8 × Nat) (F D : List Bool) (N : Nat) (h0 : s.2 ≤ N) (hF : F.length ≤ N) (hD : D.length ≤ N) : ∀ k, (upTo s F D k).2 ≤ N := by
  have hs : ∀ (s : List UInt8 × Nat) (b : List Bool), s.2 ≤ N → b.length ≤ N → (shorter s b).2 ≤ N := by
    intro s b h1 h2
    unfold shorter
    split
    · exact h2
    · exact h1
  intro k
  match k with
  | 0 => exact h0
  | 1 => exact hs _ _ h0 hF
  | k + 2 => exact hs _ _ (hs _ _ h0 hF) hD
set_option maxHeartbeats 6400000 in
theorem pPress9_any (A : Option Addr) (n c : Nat) (B : List UInt8) (w : World) (hG : Gl9 w) (hr : Rd w A n (B.map bytec)) (hc : n ≤ c) (hcm : c ≤ maxLen) (hn : n ≤ 10000) :
    Calls Tryz.prog 11 #[.slice A n c] w (Gives w (DeM.pressB B)) := by
  have hbl : B.length = n := by simpa using hr.1
  have hTn : (LzM.press B).length ≤ n := by rw [← hbl]; exact LzV.press_len B
  have HTF : Hid (∀ t ∈ LzM.press B, Fits t) := Lib.hid (press_fits B)
  have HP := Lib.hid (pPressT_any A n c B w hr (by omega) hc hcm)
  have HST : Hid (∀ w', Fr (fun _ => False) w w' → Calls Tryz.prog 10 #[.slice A n c] w' (Gives w' (DeM.storedB B))) := Lib.hid (fun w' hf => pStored9_any A n c B w' (hr.fr hf (fun _ _ h => h)) hc hcm (by omega))
  have HFI : Hid (∀ (AT : Option Addr) (cT : Nat) (w' : World), Fr (fun _ => False) w w' → Toks w' AT (LzM.press B).length (LzM.press B) → Calls Tryz.prog 13 #[.slice AT (LzM.press B).length cT] w' (MadeB w' (DeM.fixedBits B))) := Lib.hid (fun AT cT w' hf hT => asFixed_any AT _ cT (LzM.press B) w' (hG.1.fr0 hf) hT (by omega) HTF.out)
  have HDY : Hid (∀ (AT : Option Addr) (cT : Nat) (w' : World), Fr (fun _ => False) w w' → Toks w' AT (LzM.press B).length (LzM.press B) → Calls Tryz.prog 17 #[.slice AT (LzM.press B).length cT] w' (MadeB w' (DeM.dynBits B))) := Lib.hid (fun AT cT w' hf hT => asDynamic_any AT _ cT (LzM.press B) w' (hG.1.fr0 hf) (hG.2.fr0 hf) hT (by omega) HTF.out)
  have hS0 := storedB_len B (by omega)
  have hF0 := fixed_len B
  have hD0 := dyn_len B
  have hpt := press_two B
  obtain ⟨F, hF⟩ : ∃ F, F = DeM.fixedBits B := ⟨_, rfl⟩
  obtain ⟨D, hD⟩ : ∃ D, D = DeM.dynBits B := ⟨_, rfl⟩
  obtain ⟨S, hS⟩ : ∃ S, S = DeM.storedB B := ⟨_, rfl⟩
  obtain ⟨R, hR⟩ : ∃ R, R = DeM.pressB B := ⟨_, rfl⟩
  rw [← hF] at HFI hF0 hpt
  rw [← hD] at HDY hD0 hpt
  rw [← hS] at HST hS0 hpt
  rw [← hR] at hpt ⊢
  obtain ⟨T, hT⟩ : ∃ T, T = LzM.press B := ⟨_, rfl⟩
  rw [← hT] at HP HFI HDY
  obtain ⟨tn, htn⟩ : ∃ tn, tn = T.length := ⟨_, rfl⟩
  rw [← htn] at HP HFI HDY
  have HTN := Lib.hid htn
  obtain ⟨sl, hsl⟩ : ∃ sl, sl = S.length := ⟨_, rfl⟩
  have hsl2 : sl ≤ 10005 := by omega
  have HSL := Lib.hid hsl
  have HUP : Hid ((upTo (S, 8 * sl) F D 2).1 = R) := Lib.hid (by rw [hsl]; exact hpt)
  have HUL : Hid (∀ k, (upTo (S, 8 * sl) F D k).2 ≤ 3000000) := Lib.hid (upTo_len _ _ _ _ (by show 8 * sl ≤ _; omega) (by omega) (by omega))
  have HFDL : Hid (F.length ≤ 3000000 ∧ D.length ≤ 3000000) := Lib.hid (by omega)
  clear hr hbl hTn HTF hG hS0 hF0 hD0 hpt hF hD hS hR hT htn hsl
  unfold Gives
  go_enter Tryz.func11, Tryz.ntmps11
  go_wp2_with fail
  refine HP.out.mono ?_
  rintro e w1 ⟨AT, cT, rfl, ho1, hf1⟩
  have ht1 := ho1.toks
  rw [← HTN.out] at ht1
  have HT1 := Lib.hid ht1
  have HS1 := Lib.hid (HST.out w1 hf1)
  have HF1 := Lib.hid hf1
  clear ho1 hf1 ht1 HP HST
  go_wp2_with fail
  refine HS1.out.mono ?_
  rintro e w2 ⟨AS, cS, rfl, ho2, hf2⟩
  rw [← HSL.out]
  have HO2 := Lib.hid ho2
  have HF2 := Lib.hid (HF1.out.trans hf2 (fun _ _ h => h))
  have HA2 := Lib.hid (HFI.out AT cT w2 HF2.out (HT1.out.fr hf2 (fun _ _ h => h)))
  have HT2 := Lib.hid (HT1.out.fr hf2 (fun _ _ h => h))
  obtain ⟨l8, hl8⟩ : ∃ l8, l8 = 8 * sl := ⟨_, rfl⟩
  have e8 : (8 : Int) * (sl : Int) = (l8 : Int) := by omega
  have hl8b : l8 ≤ 100000 := by omega
  rw [← hl8] at HUP HUL
  clear ho2 hf2 HS1 HFI HT1 hl8
  go_wp2_with fail
  refine HA2.out.mono ?_
  rintro e w3 ⟨g1, A1, c1, rfl, hw3, hn3, hf3⟩
  have HF3 := Lib.hid (HF2.out.trans hf3 (fun _ _ h => h))
  have HW3 := Lib.hid hw3
  have HO3 := Lib.hid (hf3.own HO2.out (fun _ _ h => h))
  have HA3 := Lib.hid (HDY.out AT cT w3 HF3.out (HT2.out.fr hf3 (fun _ _ h => h)))
  clear hw3 hn3 hf3 HA2 HDY HT2 HO2
  go_wp2_with fail
  refine HA3.out.mono ?_
  rintro e w4 ⟨g2, A2, c2, rfl, hw4, hn4, hf4⟩
  have HF4 := Lib.hid (HF3.out.trans hf4 (fun _ _ h => h))
  have HW4 : Hid (Wr w4 g1 A1 c1 F ∧ Wr w4 g2 A2 c2 D) := Lib.hid ⟨HW3.out.frA hf4 (fun h => h) (fun _ _ h => h), hw4⟩
  have HO4 := Lib.hid (hf4.own HO3.out (fun _ _ h => h))
  clear hw4 hn4 hf4 HA3 HW3 HO3
  go_wp2_with fail
  obtain ⟨w5, hw5⟩ : ∃ w5, w5 = w4.alloc (.cells #[Value.pointer (some ⟨g1, 0, none⟩), .pointer (some ⟨g2, 0, none⟩)] 38) := ⟨_, rfl⟩
  obtain ⟨l, hl⟩ : ∃ l, l = w4.heap.size := ⟨_, rfl⟩
  have hf45 : Fr (fun _ => False) w4 w5 := by rw [hw5]; exact (Fr.refl _ w4).alloc _
  have HL5 : Hid (Row w5 l 38 [Value.pointer (some ⟨g1, 0, none⟩), .pointer (some ⟨g2, 0, none⟩)]) := Lib.hid (by rw [hw5, hl]; exact Row.new w4 _ _)
  have HF5 := Lib.hid (HF4.out.trans hf45 (fun _ _ h => h))
  have HO5 : Hid (w5.ownsRow w.heap.size 5 1 (.slice AS S.length cS) S.length (S.map bytec)) := Lib.hid (own_base (hf45.own HO4.out (fun _ _ h => h)) HF1.out.size)
  have HB5 : Hid (∀ k, k < 2 → ∃ g A c bs, w5.cell? ⟨l, k, none⟩ = some (.pointer (some ⟨g, 0, none⟩)) ∧ Wr w5 g A c bs ∧ bs.length ≤ 3000000 ∧ upTo (S, l8) F D (k + 1) = shorter (upTo (S, l8) F D k) bs) := Lib.hid (fun k hk => by
    match k, hk with
    | 0, _ => exact ⟨g1, A1, c1, F, HL5.out.cell rfl, HW4.out.1.frA hf45 (fun h => h) (fun _ _ h => h), HFDL.out.1, rfl⟩
    | 1, _ => exact ⟨g2, A2, c2, D, HL5.out.cell rfl, HW4.out.2.frA hf45 (fun h => h) (fun _ _ h => h), HFDL.out.2, rfl⟩)
  rw [← hw5, ← hl]
  clear hw5 hl hf45 HF4 HF3 HF2 HF1 HW4 HO4 HL5 HFDL
  go_loopw [4, 5, 21] (fun sh le i wr => ∃ (k m : Nat) (X : List UInt8) (AX : Option Addr) (xn cX : Nat), k ≤ 2 ∧ i = .int .i64 (k : Int) ∧ sh = .slice AX xn cX ∧ le = .int .i64 (m : Int) ∧ m ≤ 3000000 ∧ Hid (upTo (S, l8) F D k = (X, m)) ∧ Hid (wr.ownsRow w.heap.size 5 1 (.slice AX xn cX) xn (X.map bytec)) ∧ Hid (Fr (fun _ => False) w5 wr)) (fun _ _ i _ => 2 - (intOf i).toNat)
  case atStart => exact ⟨0, l8, S, AS, sl, cS, by omega, rfl, rfl, rfl, by omega, rfl, by rw [HSL.out]; exact HO5.out, Fr.refl _ _⟩
  case round =>
    obtain ⟨k, m, X, AX, xn, cX, hk, rfl, rfl, rfl, hm, HU, HO, HF⟩ := hrel
    rename World => wr
    by_cases hlt : k < 2
    · obtain ⟨g, A3, c3, bs, l1, hw, hbl, hup⟩ := HB5.out k hlt
      have l2 := HF.out.cell l1 (fun h => h)
      have HWr := Lib.hid (hw.frA HF.out (fun h => h) (fun _ _ h => h))
      have HBL := Lib.hid hbl
      have HUK : Hid (upTo (S, l8) F D (k + 1) = shorter (X, m) bs) := Lib.hid (by rw [hup, HU.out])
      have hki : (k : Int) < 2 := by omega
      clear l1 hw hup
      go_upto_region 7 with fail
      obtain ⟨w6, hw6⟩ : ∃ w6, w6 = wr.alloc (.cells #[Value.pointer (some ⟨g, 0, none⟩)] 38) := ⟨_, rfl⟩
      obtain ⟨q, hq⟩ : ∃ q, q = wr.heap.size := ⟨_, rfl⟩
      have hf6 : Fr (fun _ => False) wr w6 := by rw [hw6]; exact (Fr.refl _ wr).alloc _
      have hq6 : Row w6 q 38 [Value.pointer (some ⟨g, 0, none⟩)] := by rw [hw6, hq]; exact Row.new wr _ _
      have d0 : w6.cell? ⟨q, 0, none⟩ = some (.pointer (some ⟨g, 0, none⟩)) := hq6.cell rfl
      have HQ3 := Lib.hid hq6
      have HF6 := Lib.hid (HF.out.trans hf6 (fun _ _ h => h))
      have HW6 := Lib.hid (HWr.out.frA hf6 (fun h => h) (fun _ _ h => h))
      have HO6 := Lib.hid (hf6.own HO.out (fun _ _ h => h))
      rw [← hw6, ← hq]
      clear hw6 hq hf6 hq6 l2
      obtain ⟨bl, hbn⟩ : ∃ bl, bl = bs.length := ⟨_, rfl⟩
      have hlen := len_any g c3 A3 bs w6 HW6.out
      rw [← hbn] at hlen hbl
      have HLEN := Lib.hid hlen
      have HBN := Lib.hid hbn
      clear hlen hbn
      by_cases hsh : bl < m
      · have hsi : (bl : Int) < (m : Int) := by omega
        go_wp2_with (refine HLEN.out.mono ?_; rintro e w6' ⟨rfl, rfl⟩)
        go_upto_region 8 with fail
        refine wp_region_held_drew (S := fun w' => w'.cell? ⟨q, 0, none⟩ = some (.pointer (some ⟨g, 0, none⟩))) (by kernel_rfl) ?_ (fun hHeld => ?_)
        · exact HQ3.out.cell rfl
        refine wpAnyH_take (i := 0) (v := ?va0) rfl (by kernel_rfl) (by kernel_rfl) (by kernel_rfl) (fun _ _ _ h => h) (Or.inl ⟨by rfl, ?hya0⟩) hHeld ?resta0
        case hya0 => intro w hSw; (try dsimp only at hSw); go_simp; try (with_reducible rfl)
        (try simp only [Act.put, List.setIfInBounds_toArray, List.set_cons_zero, List.set_cons_succ, List.getElem_toArray, List.getElem_cons_zero])
        refine wpAnyH_take (i := 1) (v := ?va1) rfl (by kernel_rfl) (by kernel_rfl) (by kernel_rfl) (fun _ _ _ h => h) (Or.inl ⟨by rfl, ?hya1⟩) hHeld ?resta1
        case hya1 => intro w hSw; (try dsimp only at hSw); go_simp; try (with_reducible rfl)
        (try simp only [Act.put, List.setIfInBounds_toArray, List.set_cons_zero, List.set_cons_succ, List.getElem_toArray, List.getElem_cons_zero, List.getElem_cons_succ])
        refine wpAnyH_take (i := 3) (v := ?va3) rfl (by kernel_rfl) (by kernel_rfl) (by kernel_rfl) (fun _ _ _ h => h) (Or.inl ⟨by rfl, ?hya3⟩) hHeld ?resta3
        case hya3 => intro w hSw; (try dsimp only at hSw); go_simp; try (with_reducible rfl)
        (try simp only [Act.put, List.setIfInBounds_toArray, List.set_cons_zero, List.set_cons_succ, List.getElem_toArray, List.getElem_cons_zero, List.getElem_cons_succ])
        refine wpAnyH_take (i := 4) (v := ?va4) rfl (by kernel_rfl) (by kernel_rfl) (by kernel_rfl) (fun _ _ _ h => h) (Or.inl ⟨by rfl, ?hya4⟩) hHeld ?resta4
        case hya4 => intro w hSw; (try dsimp only at hSw); go_simp; try (with_reducible rfl)
        (try simp only [Act.put, List.setIfInBounds_toArray, List.set_cons_zero, List.set_cons_succ, List.getElem_toArray, List.getElem_cons_zero, List.getElem_cons_succ])
        refine wpAnyH_ready (rs := [2]) (by kernel_rfl) (by simp) ?_
        refine AllReadyH.cons rfl (fun Kx hKx => ?_) AllReadyH.nil
        go_simp
        refine (wbytes_any g c3 A3 bs w6.drew HW6.out (by have := HBL.out; omega)).mono ?_
        rintro e w8 ⟨A4, c4, rfl, ho4, hf4⟩
        have HF4 := Lib.hid ((Fr.refl (fun _ => False) w6).drew.trans hf4 (fun _ _ h => h))
        have HO4 := Lib.hid ho4
        have HL8 := len_any g c3 A3 bs w8 (HW6.out.frA HF4.out (fun h => h) (fun _ _ h => h))
        rw [← HBN.out] at HL8
        clear ho4 hf4
        refine hKx.out _ _ ?_ (fun hHeld => ?_)
        · exact (HQ3.out.fr HF4.out (fun h => h)).cell rfl
        clear hKx Kx
        (try simp only [Act.put, List.setIfInBounds_toArray, List.set_cons_zero, List.set_cons_succ, List.getElem_toArray, List.getElem_cons_zero, List.getElem_cons_succ])
        refine wpAnyH_ready (rs := [5]) (by kernel_rfl) (by simp) ?_
        refine AllReadyH.cons rfl (fun Kx hKx => ?_) AllReadyH.nil
        go_simp
        refine HL8.mono ?_
        rintro e w8' ⟨rfl, rfl⟩
        refine hKx.out _ _ ?_ (fun hHeld => ?_)
        · exact (HQ3.out.fr HF4.out (fun h => h)).cell rfl
        clear hKx Kx
        (try simp only [Act.put, List.setIfInBounds_toArray, List.set_cons_zero, List.set_cons_succ, List.getElem_toArray, List.getElem_cons_zero, List.getElem_cons_succ])
        refine wpAnyH_take (i := 6) (v := ?va6) rfl (by kernel_rfl) (by kernel_rfl) (by kernel_rfl) (fun _ _ _ h => h) (Or.inl ⟨by rfl, ?hya6⟩) hHeld ?resta6
        case hya6 => intro w hSw; (try dsimp only at hSw); go_simp; try (with_reducible rfl)
        (try simp only [Act.put, List.setIfInBounds_toArray, List.set_cons_zero, List.set_cons_succ, List.getElem_toArray, List.getElem_cons_zero, List.getElem_cons_succ])
        refine wpAnyH_take (i := 7) (v := ?va7) rfl (by kernel_rfl) (by kernel_rfl) (by kernel_rfl) (fun _ _ _ h => h) (Or.inl ⟨by rfl, ?hya7⟩) hHeld ?resta7
        case hya7 => intro w hSw; (try dsimp only at hSw); go_simp; try (with_reducible rfl)
        (try simp only [Act.put, List.setIfInBounds_toArray, List.set_cons_zero, List.set_cons_succ, List.getElem_toArray, List.getElem_cons_zero, List.getElem_cons_succ])
        refine wpAnyH_done (by kernel_rfl) ?_ _
        go_wp2_with fail
        refine ⟨⟨k + 1, bl, pack bs, A4, (pack bs).length, c4, by omega, by go_num, rfl, rfl, by omega, ?_, own_base HO4.out (Nat.le_trans HF5.out.size HF6.out.size), HF6.out.trans HF4.out (fun _ _ h => h)⟩, by simp [intOf]; omega⟩
        show _ = _
        rw [HUK.out, HBN.out]
        unfold shorter
        rw [if_pos (by show bs.length < m; have := HBN.out; omega)]
      · have hsi : ¬ (bl : Int) < (m : Int) := by omega
        go_wp2_with (refine HLEN.out.mono ?_; rintro e w6' ⟨rfl, rfl⟩)
        refine ⟨⟨k + 1, m, X, AX, xn, cX, by omega, by go_num, rfl, rfl, hm, ?_, HO6.out, HF6.out⟩, by simp [intOf]; omega⟩
        show _ = _
        rw [HUK.out]
        unfold shorter
        rw [if_neg (by show ¬ bs.length < m; have := HBN.out; omega)]
    · obtain rfl : k = 2 := by omega
      have hXR : X = R := by have h := HUP.out; rw [HU.out] at h; exact h
      go_wp2_with fail
      go_ret
      have hxn : xn = R.length := by have h := HO.out.1; rw [hXR] at h; simp at h; omega
      subst hxn
      exact ⟨AX, cX, rfl, by rw [← hXR] at *; exact HO.out, HF5.out.trans HF.out (fun _ _ h => h)⟩
/-- the program keeps the contracts -/
theorem deflC : DeflC Gl9 where
  fr0 := fun h hf => h.fr0 hf
  stored := fun A n c B w hG hr hc hcm hn => pStored9_any A n c B w hr hc hcm (by omega)
  fixed := fun A n c B w hG hr hc hcm hn => pFixed9_any A n c B w hG hr hc hcm hn
  dynamic := fun A n c B w hG hr hc hcm hn => pDynamic9_any A n c B w hG hr hc hcm hn
  press := fun A n c B w hG hr hc hcm hn => pPress9_any A n c B w hG hr hc hcm hn
end Go.Proofs.YtgpkiijmembggaaGreatDoor
namespace Go.Proofs.YtgpkiijmembggaaGreatDoor
open Go.RowKit CoM BitsM HuffM LzM Mem Go.Lib
attribute [local go_sem ↓] Go.wp_at_zero Go.wp_at_succ
set_option linter.unusedVariables false
set_option maxRecDepth 100000

theorem blocks_err {most : Int} {f k : Nat} {out : List UInt8} {bs : List Bool} (h : InM.blockR most out bs = .error k) : InM.blocksR most (f + 1) out bs = .error k := by
  unfold InM.blocksR
  rw [h]
theorem blocks_last {most : Int} {f : Nat} {out X : List UInt8} {bs r : List Bool} (h : InM.blockR most out bs = .ok (true, X, r)) : InM.blocksR most (f + 1) out bs = .ok (X, r) := by
  unfold InM.blocksR
  rw [h]
theorem blocks_next {most : Int} {f : Nat} {out X : List UInt8} {bs r : List Bool} (h : InM.blockR most out bs = .ok (false, X, r)) : InM.blocksR most (f + 1) out bs = InM.blocksR most f X r := by
  conv => lhs; unfold InM.blocksR
  rw [h]
theorem block_less {most : Int} {out X : List UInt8} {bs r : List Bool} {l : Bool} (h : InM.blockR most out bs = .ok (l, X, r)) : r.length < bs.length := by
  obtain ⟨u, e, h3, _⟩ := InM.block_ext most out h
  rw [e, List.length_append]
  omega
/-- what blocks tell, as Open answers it -/
def openE (n : Nat) : Except Nat (List UInt8 × List Bool) → Except Nat (List UInt8 × Nat)
  | .error e => .error e
  | .ok (out, r) => .ok (out, (8 * n - r.length + 7) / 8)
theorem openE_is (B : List UInt8) (most : Int) : InM.openP B most = openE B.length (InM.blocksR most (8 * B.length + 1) [] (bitsOf B)) := by
  unfold InM.openP
  cases InM.blocksR most (8 * B.length + 1) [] (bitsOf B) with
  | error e => rfl
  | ok x => rfl
theorem atD_any (r c p : Nat) (A : Option Addr) (B : List UInt8) (w : World) (h : Re w r A c B p) :
    Calls Tryz.prog 22 #[.pointer (some ⟨r, 0, none⟩)] w fun e w' => e = .returned (.int .i64 (p : Int)) ∧ w' = w := (at_any r c p A B w h).mono fun _ _ h => ⟨h.1, h.2.symm⟩
set_option maxHeartbeats 3200000 in
theorem pOpen10_any (A : Option Addr) (n c : Nat) (most : Int) (B : List UInt8) (w : World) (hG : Gl9 w) (hr : Rd w A n (B.map bytec)) (hn : n ≤ 100000) (hlm : -9223372036854775808 ≤ most) (hhm : most ≤ 100000) :
    Calls Tryz.prog 12 #[.slice A n c, .int .i64 most] w (Opens w (InM.openP B most)) := by
  have hln : B.length = n := by simpa using hr.1
  obtain ⟨RES, hRES⟩ : ∃ R, R = InM.blocksR most (8 * B.length + 1) [] (bitsOf B) := ⟨_, rfl⟩
  have hOP : InM.openP B most = openE B.length RES := by rw [hRES]; exact openE_is B most
  have HOP := Lib.hid hOP
  have HRES := Lib.hid hRES
  have HNW := Lib.hid (new_any A n c B w hr (by omega))
  have HLN := Lib.hid hln
  have HG := Lib.hid hG
  have HMB := Lib.hid (And.intro hlm hhm)
  have HN := Lib.hid hn
  have HBL : Hid ((bitsOf B).length = 8 * B.length) := Lib.hid (bitsOf_length B)
  clear hr hln hRES hOP hG hlm hhm hn
  go_enter Tryz.func12, Tryz.ntmps12
  go_wp2_with (refine HNW.out.mono ?_)
  rintro e w1 ⟨r, A1, c1, rfl, hre, hrb, hab, hf1⟩
  obtain ⟨w2, hw2⟩ : ∃ w2, w2 = w1.alloc (.cells #[Value.pointer (some ⟨r, 0, none⟩), .slice none 0 0, .int .i64 most, .pointer none, .pointer none] 57) := ⟨_, rfl⟩
  obtain ⟨o, ho⟩ : ∃ o, o = w1.heap.size := ⟨_, rfl⟩
  have hf12 : Fr (fun _ => False) w1 w2 := by rw [hw2]; exact (Fr.refl _ w1).alloc _
  have hf2 := hf1.trans hf12 (fun _ _ h => h)
  have HO2 : Hid (Opn w2 w.heap.size o r c1 A1 B 0 none 0 [] most none none) := Lib.hid {
    row := by rw [hw2, ho]; exact Row.new w1 _ _
    re := hre.fr hf12 (fun h => h) (fun _ _ h => h)
    own := Own.nil w2 _
    ne := fun k hk => by cases hk
    gl := HG.out.fr0 hf2
    tb := HG.out.size
    bo := by rw [ho]; exact hf1.size
    br := hrb
    lB := by rw [HLN.out]; exact HN.out
    lo := Nat.zero_le _
    lm := HMB.out.1
    hm := HMB.out.2 }
  have HF2 := Lib.hid hf2
  have HA2 : Hid (Agr w2 none none) := Lib.hid (.inl rfl)
  clear hre hrb hab hf1 hf12 hf2 HNW
  go_upto_region 2 with fail
  rw [← hw2, ← ho]
  clear hw2 ho
  go_loopw [4] (fun v wr => v = .slice none 0 0 ∧ ∃ (p1 : Nat) (ao1 : Option Addr) (co1 : Nat) (out1 : List UInt8) (pl pd : Option Addr) (f : Nat), Hid (Opn wr w.heap.size o r c1 A1 B p1 ao1 co1 out1 most pl pd) ∧ Hid (Agr wr pl pd) ∧ Hid (Fr (fun _ => False) w wr) ∧ Hid (((bitsOf B).drop p1).length < f ∧ InM.blocksR most f out1 ((bitsOf B).drop p1) = RES)) (fun _ wr => 8 * B.length - posAt wr r)
  case atStart => exact ⟨rfl, 0, none, 0, [], none, none, 8 * B.length + 1, HO2.out, HA2.out, HF2.out, by rw [List.drop_zero, HBL.out]; omega, by rw [List.drop_zero]; exact HRES.out.symm⟩
  case round =>
    obtain ⟨rfl, p1, ao1, co1, out1, pl, pd, f, HO, HA, HF, HQ⟩ := hrel
    rename World => wr
    obtain ⟨f, rfl⟩ : ∃ f', f = f' + 1 := ⟨f - 1, by have := HQ.out.1; omega⟩
    have HBK := Lib.hid (oblock_any HO.out HA.out)
    cases hB : InM.blockR most out1 ((bitsOf B).drop p1) with
    | error k =>
      have HX : Hid (RES = .error k) := Lib.hid (HQ.out.2.symm.trans (blocks_err hB))
      have tk : ((k : Int) != 0) = true := by
        have : k ≠ 0 := fun h => by subst h; exact InM.block_fuel0 hB
        simp; omega
      have HBK2 : Hid (Calls Tryz.prog 21 #[.pointer (some ⟨o, 0, none⟩)] wr fun e w' => ∃ x : Nat, e = .returned (.tuple #[.int .u64 (x : Int), .int .i64 (k : Int)]) ∧ Fr (Fo o r ao1) wr w') := Lib.hid (by
        have h := HBK.out
        rw [hB] at h
        exact h.mono fun e w' h => by obtain ⟨⟨x, h1⟩, h2⟩ := h; exact ⟨x, h1, h2⟩)
      clear hB HBK
      go_wp2_with (refine HBK2.out.mono ?_)
      rintro e w3 ⟨x, rfl, hf3⟩
      have HF3 : Hid (Fr (fun _ => False) w w3) := Lib.hid (HF.out.trans hf3 (fun b hb hk => by have := HO.out.fo b hk; omega))
      clear hf3 HBK2
      go_wp2_with fail
      refine bodyPost_ret (v := .tuple #[.slice none 0 0, .int .i64 0, .int .i64 (k : Int)]) (by simp [results, Tryz.results12, go_sem]) rfl ?_
      rw [HOP.out, HX.out]
      exact ⟨none, 0, rfl, HF3.out⟩
    | ok lx =>
      obtain ⟨l, X, rest⟩ := lx
      have HLS := Lib.hid (block_less hB)
      have HBK2 : Hid (Calls Tryz.prog 21 #[.pointer (some ⟨o, 0, none⟩)] wr fun e w' => e = .returned (.tuple #[.int .u64 ((l.toNat : Nat) : Int), .int .i64 0]) ∧ ∃ ao' co' p' pl' pd', Opn w' w.heap.size o r c1 A1 B p' ao' co' X most pl' pd' ∧ Agr w' pl' pd' ∧ rest = (bitsOf B).drop p' ∧ Nxo wr ao1 ao' ∧ Fr (Fo o r ao1) wr w') := Lib.hid (by
        have h := HBK.out
        rw [hB] at h
        exact h)
      cases l with
      | true =>
        have HX : Hid (RES = .ok (X, rest)) := Lib.hid (HQ.out.2.symm.trans (blocks_last hB))
        have HBK3 : Hid (Calls Tryz.prog 21 #[.pointer (some ⟨o, 0, none⟩)] wr fun e w' => e = .returned (.tuple #[.int .u64 1, .int .i64 0]) ∧ ∃ ao' co' p' pl' pd', Opn w' w.heap.size o r c1 A1 B p' ao' co' X most pl' pd' ∧ Agr w' pl' pd' ∧ rest = (bitsOf B).drop p' ∧ Nxo wr ao1 ao' ∧ Fr (Fo o r ao1) wr w') := HBK2
        clear hB HBK HBK2
        go_wp2_with (refine HBK3.out.mono ?_)
        rintro e w3 ⟨rfl, ao', co', p', pl', pd', ho3, ha3, hrest, hn3, hf3⟩
        have HF3 : Hid (Fr (fun _ => False) w w3) := Lib.hid (HF.out.trans hf3 (fun b hb hk => by have := HO.out.fo b hk; omega))
        have HO3 := Lib.hid ho3
        have HRR := Lib.hid hrest
        obtain ⟨xl, hxl⟩ : ∃ n, n = X.length := ⟨_, rfl⟩
        have d0 : w3.cell? ⟨o, 0, none⟩ = some (.pointer (some ⟨r, 0, none⟩)) := ho3.row.cell rfl
        have d1 : w3.cell? ⟨o, 1, none⟩ = some (.slice ao' xl co') := by rw [hxl]; exact ho3.row.cell rfl
        obtain ⟨q, hq⟩ : ∃ q, q = (p' + 7) / 8 := ⟨_, rfl⟩
        have hpb : p' ≤ 800000 := by have h1 := ho3.re.2.2; have h2 := ho3.lB; omega
        obtain ⟨p8, hp8⟩ : ∃ p8, p8 = p' + 8 := ⟨_, rfl⟩
        obtain ⟨p7, hp7⟩ : ∃ p7, p7 = p' + 7 := ⟨_, rfl⟩
        have s1 : (p' : Int) + 8 = (p8 : Int) := by omega
        have s2 : IntKind.i64.wrap ((p' : Int) + 8) = (p8 : Int) := by rw [IntKind.wrap_i64]; omega
        have s3 : (p8 : Int) - 1 = (p7 : Int) := by omega
        have s4 : IntKind.i64.wrap ((p8 : Int) - 1) = (p7 : Int) := by rw [IntKind.wrap_i64]; omega
        have s5 : (p7 : Int) / 8 = (q : Int) := by omega
        have s6 : IntKind.i64.wrap ((p7 : Int) / 8) = (q : Int) := by rw [IntKind.wrap_i64]; omega
        have s7 : IntKind.i64.wrap (p8 : Int) = (p8 : Int) := by rw [IntKind.wrap_i64]; omega
        have s8 : IntKind.i64.wrap (p7 : Int) = (p7 : Int) := by rw [IntKind.wrap_i64]; omega
        have s9 : IntKind.i64.wrap (q : Int) = (q : Int) := by rw [IntKind.wrap_i64]; omega
        have s10 : (p7 : Int).tdiv 8 = (q : Int) := by rw [Int.tdiv_eq_ediv_of_nonneg (by omega)]; omega
        have HQQ : Hid (q = (8 * B.length - rest.length + 7) / 8) := Lib.hid (by
          have h1 := ho3.re.2.2
          rw [hq, hrest, List.length_drop, HBL.out]
          congr 2
          omega)
        have HXL := Lib.hid hxl
        have HAT := Lib.hid (atD_any r c1 p' A1 B w3.drew ho3.re.drew)
        clear ho3 ha3 hrest hn3 hf3 HBK3 hxl hq hp8 hp7
        go_upto_region 6 with fail
        refine wp_region_still_lit (by kernel_rfl) (by kernel_rfl) ?_
        repeat still_step
        still_call HAT.out
        repeat still_step
        refine wpStill_nil ?_
        go_wp2_with fail
        refine bodyPost_ret (v := .tuple #[.slice ao' xl co', .int .i64 (q : Int), .int .i64 0]) (by simp [results, Tryz.results12, go_sem]) rfl ?_
        rw [HOP.out, HX.out]
        show Opens w (.ok (X, (8 * B.length - rest.length + 7) / 8)) _ _
        rw [← HQQ.out]
        exact ⟨ao', co', by rw [HXL.out], HO3.out.drew.own, HF3.out.drew⟩
      | false =>
        have HX : Hid (InM.blocksR most f X rest = RES) := Lib.hid ((blocks_next hB).symm.trans HQ.out.2)
        have HBK3 : Hid (Calls Tryz.prog 21 #[.pointer (some ⟨o, 0, none⟩)] wr fun e w' => e = .returned (.tuple #[.int .u64 0, .int .i64 0]) ∧ ∃ ao' co' p' pl' pd', Opn w' w.heap.size o r c1 A1 B p' ao' co' X most pl' pd' ∧ Agr w' pl' pd' ∧ rest = (bitsOf B).drop p' ∧ Nxo wr ao1 ao' ∧ Fr (Fo o r ao1) wr w') := HBK2
        clear hB HBK HBK2
        go_wp2_with (refine HBK3.out.mono ?_)
        rintro e w3 ⟨rfl, ao', co', p', pl', pd', ho3, ha3, hrest, hn3, hf3⟩
        have HF3 : Hid (Fr (fun _ => False) w w3) := Lib.hid (HF.out.trans hf3 (fun b hb hk => by have := HO.out.fo b hk; omega))
        have HO3 := Lib.hid ho3
        have HA3 := Lib.hid ha3
        have HMS : Hid (8 * B.length - posAt w3 r < 8 * B.length - posAt wr r) := Lib.hid (by
          rw [ho3.re.pos, HO.out.re.pos]
          have h1 := HLS.out
          rw [hrest, List.length_drop, List.length_drop, HBL.out] at h1
          omega)
        have HQ3 : Hid (((bitsOf B).drop p').length < f ∧ InM.blocksR most f X ((bitsOf B).drop p') = RES) := Lib.hid (by
          rw [← hrest]
          exact ⟨by have := HLS.out; have := HQ.out.1; omega, HX.out⟩)
        clear ho3 ha3 hrest hn3 hf3 HBK3
        go_wp2_with fail
        exact ⟨⟨rfl, p', ao', co', X, pl', pd', f, HO3.out, HA3.out, HF3.out, HQ3.out⟩, HMS.out⟩
/-- the program's contracts -/
theorem infC : InfC Gl9 where
  d := deflC
  open_ := fun A n c most B w hG hr hnc hcm hn h1 h2 => pOpen10_any A n c most B w hG hr hn h1 h2
end Go.Proofs.YtgpkiijmembggaaGreatDoor
namespace Go.Proofs.YtgpkiijmembggaaGreatDoor
open Go.ChangeShapes Go.WideShapes Go.RowKit Go.Deep Mem Go.Lib
set_option maxRecDepth 100000

def PartsC (w : World) (A : Option Addr) (n : Nat) (L : List (List UInt8)) : Prop :=
  ∃ vs, Rd w A n vs ∧ vs.length = L.length ∧ ∀ (i : Nat) (v : Value) (B : List UInt8), vs[i]? = some v → L[i]? = some B → ∃ Ai ci, v = .slice Ai B.length ci ∧ B.length ≤ ci ∧ ci ≤ maxLen ∧ Rd w Ai B.length (B.map bytec)
theorem PartsC.fr {w w' : World} {A : Option Addr} {n : Nat} {L : List (List UInt8)} (h : PartsC w A n L) (hf : Fr (fun _ => False) w w') : PartsC w' A n L := by
  obtain ⟨vs, h1, h2, h3⟩ := h
  refine ⟨vs, h1.fr hf (fun _ _ h => h), h2, fun i v B hv hB => ?_⟩
  obtain ⟨Ai, ci, e, hl, hm, hr⟩ := h3 i v B hv hB
  exact ⟨Ai, ci, e, hl, hm, hr.fr hf (fun _ _ h => h)⟩
theorem PartsC.len {w : World} {A : Option Addr} {n : Nat} {L : List (List UInt8)} (h : PartsC w A n L) : L.length = n := by
  obtain ⟨vs, h1, h2, _⟩ := h
  rw [← h2, h1.1]
/-- a part: its cell -/
theorem PartsC.at_ {w : World} {A : Option Addr} {n : Nat} {L : List (List UInt8)} (h : PartsC w A n L) {k : Nat} (hk : k < n) : ∃ (ad : Addr) (B : List UInt8) (Ai : Option Addr) (ci : Nat), A = some ad ∧ L[k]? = some B ∧ w.cell? (ad.add k) = some (.slice Ai B.length ci) ∧ B.length ≤ ci ∧ ci ≤ maxLen ∧ Rd w Ai B.length (B.map bytec) := by
  have hl := h.len
  obtain ⟨vs, h1, h2, h3⟩ := h
  obtain ⟨ad, v, hA, hv, hcell⟩ := h1.at_ hk
  obtain ⟨B, hB⟩ : ∃ B, L[k]? = some B := ⟨_, List.getElem?_eq_getElem (by omega)⟩
  obtain ⟨Ai, ci, rfl, h4, h5, h6⟩ := h3 k v B hv hB
  exact ⟨ad, B, Ai, ci, hA, hB, hcell, h4, h5, h6⟩
theorem partsC_arg {H : Type} {enc : TypeId × Value → H} {W : World} {r : Reach} {b0 : Nat} {v : Value} {d : DataW H} {p : List MemPlace} (hv : Value.okWide Tryz.prog W r b0 27 v)
    (h : DataW.Trod enc Tryz.prog W 0 (fun _ => true) true 27 v d p) : ∃ (A : Option Addr) (n c : Nat) (L : List (List UInt8)), v = .slice A n c ∧ n ≤ c ∧ c ≤ maxLen ∧ PartsC W A n L := by
  obtain ⟨a0, len, cap, rfl⟩ := okWide_slice Tryz.underlying27 hv
  obtain ⟨fuel, hf⟩ := h
  rcases open_slice1 Tryz.underlying27 (by kernel_rfl) (show DataW.trod enc Tryz.prog W 0 (fun _ => true) true fuel 27 [.slice a0 len cap] = some (d, p) by simpa [Value.cells] using hf) with ⟨hcs, _⟩ | ⟨a, n, c, m, fu, V, D, Pl, hcs, _, hl, hm, hmm, _, hx⟩
  · injection hcs with hcs
    injection hcs with e1 e2 e3
    subst e1 e2 e3
    exact ⟨none, 0, 0, [], rfl, Nat.le_refl _, Nat.zero_le _, [], Rd.nil _ _, rfl, fun i v B h => by simp at h⟩
  · injection hcs with hcs
    injection hcs with e1 e2 e3
    subst e1 e2 e3
    have hnm : len ≤ m := by rw [hmm]; simpa using hl
    have hB : ∀ i, i < len → ∃ B : List UInt8, ∃ Ai ci, V i = .slice Ai B.length ci ∧ B.length ≤ ci ∧ ci ≤ maxLen ∧ Rd W Ai B.length (B.map bytec) := by
      intro i hi
      obtain ⟨hc, ht⟩ := hx i (by omega)
      obtain ⟨Ai, ni, ci, B, e, h1, h2, h3⟩ := open_u8s Tryz.underlying22 Tryz.underlying5 (by kernel_rfl) ht
      have hBl : B.length = ni := by simpa using h3.1
      subst hBl
      exact ⟨B, Ai, ci, e, h1, h2, h3⟩
    obtain ⟨F, hF⟩ := choose_lt (α := List UInt8) hB
    refine ⟨some a, len, cap, (List.range len).map F, rfl, hl, hm, (List.range len).map V, ⟨by simp, fun _ => ⟨a, rfl, fun j u hu => ?_⟩⟩, by simp, fun i v B hv hB => ?_⟩
    · have hj : j < len := by have := (List.getElem?_eq_some_iff.1 hu).1; simpa using this
      rw [List.getElem?_map, List.getElem?_range hj] at hu
      simp at hu
      subst hu
      exact (hx j (by omega)).1
    · have hj : i < len := by have := (List.getElem?_eq_some_iff.1 hv).1; simpa using this
      rw [List.getElem?_map, List.getElem?_range hj] at hv hB
      simp at hv hB
      subst hv hB
      exact hF i hj
end Go.Proofs.YtgpkiijmembggaaGreatDoor
