/-
  Layer 9's program: Press; the program keeps the contracts (written by gen_press9.py).
  Layer 9, plain: bytes that are all the same are pressed to few.
  Layer 9's reference: Stored.
-/
import Derived.Test.YtahfmcdhcbfkaaaDoorZm41
import Derived.Test.YtahfmcdhcbfkaaaDoorZm04
import Derived.Test.YtahfmcdhcbfkaaaDoorZm07
import Derived.Test.YtahfmcdhcbfkaaaDoorZm22
import Derived.Test.YtahfmcdhcbfkaaaDoorZm09
namespace Go.Proofs.YtahfmcdhcbfkaaaDoor
open Go.RowKit BitsM Mem Go.Lib
attribute [local go_sem ↓] Go.wp_at_zero Go.wp_at_succ
set_option linter.unusedVariables false
set_option maxRecDepth 100000

/-- the shorter one, the first of like ones -/
def shorter (s : List UInt8 × Nat) (bs : List Bool) : List UInt8 × Nat := if bs.length < s.2 then (pack bs, bs.length) else s
theorem press_two (B : List UInt8) : (shorter (shorter (DeM.storedB B, 8 * (DeM.storedB B).length) (DeM.fixedBits B)) (DeM.dynBits B)).1 = DeM.pressB B := by
  unfold shorter DeM.pressB
  simp only
  by_cases h1 : (DeM.fixedBits B).length < 8 * (DeM.storedB B).length
  · rw [if_pos h1, if_pos h1]
    simp only
    split <;> rfl
  · rw [if_neg h1, if_neg h1]
    simp only
    split <;> rfl
/-- the shortest of the first k of two -/
def upTo (s : List UInt8 × Nat) (F D : List Bool) : Nat → List UInt8 × Nat
  | 0 => s
  | 1 => shorter s F
  | _ => shorter (shorter s F) D
theorem upTo_len (s : List UInt8 × Nat) (F D : List Bool) (N : Nat) (h0 : s.2 ≤ N) (hF : F.length ≤ N) (hD : D.length ≤ N) : ∀ k, (upTo s F D k).2 ≤ N := by
  have hs : ∀ (s : List UInt8 × Nat) (b : List Bool), s.2 ≤ N → b.length ≤ N → (shorter s b).2 ≤ N := by
    intro s b h1 h2
    unfold shorter
    split
    · exact h2
    · exact h1
  intro k
  match k with
  | 0 => exact h0
  | 1 => exact hs _ _ h0 hF
  | k + 2 => exact hs _ _ (hs _ _ h0 hF) hD
set_option maxHeartbeats 6400000 in
theorem pPress9_any (A : Option Addr) (n c : Nat) (B : List UInt8) (w : World) (hG : Gl9 w) (hr : Rd w A n (B.map bytec)) (hc : n ≤ c) (hcm : c ≤ maxLen) (hn : n ≤ 10000) :
    Calls Tryd.prog 8 #[.slice A n c] w (Gives w (DeM.pressB B)) := by
  have hbl : B.length = n := by simpa using hr.1
  have hTn : (LzM.press B).length ≤ n := by rw [← hbl]; exact LzV.press_len B
  have HTF : Hid (∀ t ∈ LzM.press B, Fits t) := Lib.hid (press_fits B)
  have HP := Lib.hid (pPressT_any A n c B w hr (by omega) hc hcm)
  have HST : Hid (∀ w', Fr (fun _ => False) w w' → Calls Tryd.prog 10 #[.slice A n c] w' (Gives w' (DeM.storedB B))) := Lib.hid (fun w' hf => pStored9_any A n c B w' (hr.fr hf (fun _ _ h => h)) hc hcm (by omega))
  have HFI : Hid (∀ (AT : Option Addr) (cT : Nat) (w' : World), Fr (fun _ => False) w w' → Toks w' AT (LzM.press B).length (LzM.press B) → Calls Tryd.prog 15 #[.slice AT (LzM.press B).length cT] w' (MadeB w' (DeM.fixedBits B))) := Lib.hid (fun AT cT w' hf hT => asFixed_any AT _ cT (LzM.press B) w' (hG.1.fr0 hf) hT (by omega) HTF.out)
  have HDY : Hid (∀ (AT : Option Addr) (cT : Nat) (w' : World), Fr (fun _ => False) w w' → Toks w' AT (LzM.press B).length (LzM.press B) → Calls Tryd.prog 16 #[.slice AT (LzM.press B).length cT] w' (MadeB w' (DeM.dynBits B))) := Lib.hid (fun AT cT w' hf hT => asDynamic_any AT _ cT (LzM.press B) w' (hG.1.fr0 hf) (hG.2.fr0 hf) hT (by omega) HTF.out)
  have hS0 := storedB_len B (by omega)
  have hF0 := fixed_len B
  have hD0 := dyn_len B
  have hpt := press_two B
  obtain ⟨F, hF⟩ : ∃ F, F = DeM.fixedBits B := ⟨_, rfl⟩
  obtain ⟨D, hD⟩ : ∃ D, D = DeM.dynBits B := ⟨_, rfl⟩
  obtain ⟨S, hS⟩ : ∃ S, S = DeM.storedB B := ⟨_, rfl⟩
  obtain ⟨R, hR⟩ : ∃ R, R = DeM.pressB B := ⟨_, rfl⟩
  rw [← hF] at HFI hF0 hpt
  rw [← hD] at HDY hD0 hpt
  rw [← hS] at HST hS0 hpt
  rw [← hR] at hpt ⊢
  obtain ⟨T, hT⟩ : ∃ T, T = LzM.press B := ⟨_, rfl⟩
  rw [← hT] at HP HFI HDY
  obtain ⟨tn, htn⟩ : ∃ tn, tn = T.length := ⟨_, rfl⟩
  rw [← htn] at HP HFI HDY
  have HTN := Lib.hid htn
  obtain ⟨sl, hsl⟩ : ∃ sl, sl = S.length := ⟨_, rfl⟩
  have hsl2 : sl ≤ 10005 := by omega
  have HSL := Lib.hid hsl
  have HUP : Hid ((upTo (S, 8 * sl) F D 2).1 = R) := Lib.hid (by rw [hsl]; exact hpt)
  have HUL : Hid (∀ k, (upTo (S, 8 * sl) F D k).2 ≤ 3000000) := Lib.hid (upTo_len _ _ _ _ (by show 8 * sl ≤ _; omega) (by omega) (by omega))
  have HFDL : Hid (F.length ≤ 3000000 ∧ D.length ≤ 3000000) := Lib.hid (by omega)
  clear hr hbl hTn HTF hG hS0 hF0 hD0 hpt hF hD hS hR hT htn hsl
  unfold Gives
  go_enter Tryd.func8, Tryd.ntmps8
  go_wp2_with fail
  refine HP.out.mono ?_
  rintro e w1 ⟨AT, cT, rfl, ho1, hf1⟩
  have ht1 := ho1.toks
  rw [← HTN.out] at ht1
  have HT1 := Lib.hid ht1
  have HS1 := Lib.hid (HST.out w1 hf1)
  have HF1 := Lib.hid hf1
  clear ho1 hf1 ht1 HP HST
  go_wp2_with fail
  refine HS1.out.mono ?_
  rintro e w2 ⟨AS, cS, rfl, ho2, hf2⟩
  rw [← HSL.out]
  have HO2 := Lib.hid ho2
  have HF2 := Lib.hid (HF1.out.trans hf2 (fun _ _ h => h))
  have HA2 := Lib.hid (HFI.out AT cT w2 HF2.out (HT1.out.fr hf2 (fun _ _ h => h)))
  have HT2 := Lib.hid (HT1.out.fr hf2 (fun _ _ h => h))
  obtain ⟨l8, hl8⟩ : ∃ l8, l8 = 8 * sl := ⟨_, rfl⟩
  have e8 : (8 : Int) * (sl : Int) = (l8 : Int) := by omega
  have hl8b : l8 ≤ 100000 := by omega
  rw [← hl8] at HUP HUL
  clear ho2 hf2 HS1 HFI HT1 hl8
  go_wp2_with fail
  refine HA2.out.mono ?_
  rintro e w3 ⟨g1, A1, c1, rfl, hw3, hn3, hf3⟩
  have HF3 := Lib.hid (HF2.out.trans hf3 (fun _ _ h => h))
  have HW3 := Lib.hid hw3
  have HO3 := Lib.hid (hf3.own HO2.out (fun _ _ h => h))
  have HA3 := Lib.hid (HDY.out AT cT w3 HF3.out (HT2.out.fr hf3 (fun _ _ h => h)))
  clear hw3 hn3 hf3 HA2 HDY HT2 HO2
  go_wp2_with fail
  refine HA3.out.mono ?_
  rintro e w4 ⟨g2, A2, c2, rfl, hw4, hn4, hf4⟩
  have HF4 := Lib.hid (HF3.out.trans hf4 (fun _ _ h => h))
  have HW4 : Hid (Wr w4 g1 A1 c1 F ∧ Wr w4 g2 A2 c2 D) := Lib.hid ⟨HW3.out.frA hf4 (fun h => h) (fun _ _ h => h), hw4⟩
  have HO4 := Lib.hid (hf4.own HO3.out (fun _ _ h => h))
  clear hw4 hn4 hf4 HA3 HW3 HO3
  go_wp2_with fail
  obtain ⟨w5, hw5⟩ : ∃ w5, w5 = w4.alloc (.cells #[Value.pointer (some ⟨g1, 0, none⟩), .pointer (some ⟨g2, 0, none⟩)] 36) := ⟨_, rfl⟩
  obtain ⟨l, hl⟩ : ∃ l, l = w4.heap.size := ⟨_, rfl⟩
  have hf45 : Fr (fun _ => False) w4 w5 := by rw [hw5]; exact (Fr.refl _ w4).alloc _
  have HL5 : Hid (Row w5 l 36 [Value.pointer (some ⟨g1, 0, none⟩), .pointer (some ⟨g2, 0, none⟩)]) := Lib.hid (by rw [hw5, hl]; exact Row.new w4 _ _)
  have HF5 := Lib.hid (HF4.out.trans hf45 (fun _ _ h => h))
  have HO5 : Hid (w5.ownsRow w.heap.size 5 1 (.slice AS S.length cS) S.length (S.map bytec)) := Lib.hid (own_base (hf45.own HO4.out (fun _ _ h => h)) HF1.out.size)
  have HB5 : Hid (∀ k, k < 2 → ∃ g A c bs, w5.cell? ⟨l, k, none⟩ = some (.pointer (some ⟨g, 0, none⟩)) ∧ Wr w5 g A c bs ∧ bs.length ≤ 3000000 ∧ upTo (S, l8) F D (k + 1) = shorter (upTo (S, l8) F D k) bs) := Lib.hid (fun k hk => by
    match k, hk with
    | 0, _ => exact ⟨g1, A1, c1, F, HL5.out.cell rfl, HW4.out.1.frA hf45 (fun h => h) (fun _ _ h => h), HFDL.out.1, rfl⟩
    | 1, _ => exact ⟨g2, A2, c2, D, HL5.out.cell rfl, HW4.out.2.frA hf45 (fun h => h) (fun _ _ h => h), HFDL.out.2, rfl⟩)
  rw [← hw5, ← hl]
  clear hw5 hl hf45 HF4 HF3 HF2 HF1 HW4 HO4 HL5 HFDL
  go_loopw [4, 5, 21] (fun sh le i wr => ∃ (k m : Nat) (X : List UInt8) (AX : Option Addr) (xn cX : Nat), k ≤ 2 ∧ i = .int .i64 (k : Int) ∧ sh = .slice AX xn cX ∧ le = .int .i64 (m : Int) ∧ m ≤ 3000000 ∧ Hid (upTo (S, l8) F D k = (X, m)) ∧ Hid (wr.ownsRow w.heap.size 5 1 (.slice AX xn cX) xn (X.map bytec)) ∧ Hid (Fr (fun _ => False) w5 wr)) (fun _ _ i _ => 2 - (intOf i).toNat)
  case atStart => exact ⟨0, l8, S, AS, sl, cS, by omega, rfl, rfl, rfl, by omega, rfl, by rw [HSL.out]; exact HO5.out, Fr.refl _ _⟩
  case round =>
    obtain ⟨k, m, X, AX, xn, cX, hk, rfl, rfl, rfl, hm, HU, HO, HF⟩ := hrel
    rename World => wr
    by_cases hlt : k < 2
    · obtain ⟨g, A3, c3, bs, l1, hw, hbl, hup⟩ := HB5.out k hlt
      have l2 := HF.out.cell l1 (fun h => h)
      have HWr := Lib.hid (hw.frA HF.out (fun h => h) (fun _ _ h => h))
      have HBL := Lib.hid hbl
      have HUK : Hid (upTo (S, l8) F D (k + 1) = shorter (X, m) bs) := Lib.hid (by rw [hup, HU.out])
      have hki : (k : Int) < 2 := by omega
      clear l1 hw hup
      go_upto_region 7 with fail
      obtain ⟨w6, hw6⟩ : ∃ w6, w6 = wr.alloc (.cells #[Value.pointer (some ⟨g, 0, none⟩)] 36) := ⟨_, rfl⟩
      obtain ⟨q, hq⟩ : ∃ q, q = wr.heap.size := ⟨_, rfl⟩
      have hf6 : Fr (fun _ => False) wr w6 := by rw [hw6]; exact (Fr.refl _ wr).alloc _
      have hq6 : Row w6 q 36 [Value.pointer (some ⟨g, 0, none⟩)] := by rw [hw6, hq]; exact Row.new wr _ _
      have d0 : w6.cell? ⟨q, 0, none⟩ = some (.pointer (some ⟨g, 0, none⟩)) := hq6.cell rfl
      have HQ3 := Lib.hid hq6
      have HF6 := Lib.hid (HF.out.trans hf6 (fun _ _ h => h))
      have HW6 := Lib.hid (HWr.out.frA hf6 (fun h => h) (fun _ _ h => h))
      have HO6 := Lib.hid (hf6.own HO.out (fun _ _ h => h))
      rw [← hw6, ← hq]
      clear hw6 hq hf6 hq6 l2
      obtain ⟨bl, hbn⟩ : ∃ bl, bl = bs.length := ⟨_, rfl⟩
      have hlen := len_any g c3 A3 bs w6 HW6.out
      rw [← hbn] at hlen hbl
      have HLEN := Lib.hid hlen
      have HBN := Lib.hid hbn
      clear hlen hbn
      by_cases hsh : bl < m
      · have hsi : (bl : Int) < (m : Int) := by omega
        go_wp2_with (refine HLEN.out.mono ?_; rintro e w6' ⟨rfl, rfl⟩)
        go_upto_region 8 with fail
        refine wp_region_held_drew (S := fun w' => w'.cell? ⟨q, 0, none⟩ = some (.pointer (some ⟨g, 0, none⟩))) (by kernel_rfl) ?_ (fun hHeld => ?_)
        · exact HQ3.out.cell rfl
        refine wpAnyH_take (i := 0) (v := ?va0) rfl (by kernel_rfl) (by kernel_rfl) (by kernel_rfl) (fun _ _ _ h => h) (Or.inl ⟨by rfl, ?hya0⟩) hHeld ?resta0
        case hya0 => intro w hSw; (try dsimp only at hSw); go_simp; try (with_reducible rfl)
        (try simp only [Act.put, List.setIfInBounds_toArray, List.set_cons_zero, List.set_cons_succ, List.getElem_toArray, List.getElem_cons_zero])
        refine wpAnyH_take (i := 1) (v := ?va1) rfl (by kernel_rfl) (by kernel_rfl) (by kernel_rfl) (fun _ _ _ h => h) (Or.inl ⟨by rfl, ?hya1⟩) hHeld ?resta1
        case hya1 => intro w hSw; (try dsimp only at hSw); go_simp; try (with_reducible rfl)
        (try simp only [Act.put, List.setIfInBounds_toArray, List.set_cons_zero, List.set_cons_succ, List.getElem_toArray, List.getElem_cons_zero, List.getElem_cons_succ])
        refine wpAnyH_take (i := 3) (v := ?va3) rfl (by kernel_rfl) (by kernel_rfl) (by kernel_rfl) (fun _ _ _ h => h) (Or.inl ⟨by rfl, ?hya3⟩) hHeld ?resta3
        case hya3 => intro w hSw; (try dsimp only at hSw); go_simp; try (with_reducible rfl)
        (try simp only [Act.put, List.setIfInBounds_toArray, List.set_cons_zero, List.set_cons_succ, List.getElem_toArray, List.getElem_cons_zero, List.getElem_cons_succ])
        refine wpAnyH_take (i := 4) (v := ?va4) rfl (by kernel_rfl) (by kernel_rfl) (by kernel_rfl) (fun _ _ _ h => h) (Or.inl ⟨by rfl, ?hya4⟩) hHeld ?resta4
        case hya4 => intro w hSw; (try dsimp only at hSw); go_simp; try (with_reducible rfl)
        (try simp only [Act.put, List.setIfInBounds_toArray, List.set_cons_zero, List.set_cons_succ, List.getElem_toArray, List.getElem_cons_zero, List.getElem_cons_succ])
        refine wpAnyH_ready (rs := [2]) (by kernel_rfl) (by simp) ?_
        refine AllReadyH.cons rfl (fun Kx hKx => ?_) AllReadyH.nil
        go_simp
        refine (wbytes_any g c3 A3 bs w6.drew HW6.out (by have := HBL.out; omega)).mono ?_
        rintro e w8 ⟨A4, c4, rfl, ho4, hf4⟩
        have HF4 := Lib.hid ((Fr.refl (fun _ => False) w6).drew.trans hf4 (fun _ _ h => h))
        have HO4 := Lib.hid ho4
        have HL8 := len_any g c3 A3 bs w8 (HW6.out.frA HF4.out (fun h => h) (fun _ _ h => h))
        rw [← HBN.out] at HL8
        clear ho4 hf4
        refine hKx.out _ _ ?_ (fun hHeld => ?_)
        · exact (HQ3.out.fr HF4.out (fun h => h)).cell rfl
        clear hKx Kx
        (try simp only [Act.put, List.setIfInBounds_toArray, List.set_cons_zero, List.set_cons_succ, List.getElem_toArray, List.getElem_cons_zero, List.getElem_cons_succ])
        refine wpAnyH_ready (rs := [5]) (by kernel_rfl) (by simp) ?_
        refine AllReadyH.cons rfl (fun Kx hKx => ?_) AllReadyH.nil
        go_simp
        refine HL8.mono ?_
        rintro e w8' ⟨rfl, rfl⟩
        refine hKx.out _ _ ?_ (fun hHeld => ?_)
        · exact (HQ3.out.fr HF4.out (fun h => h)).cell rfl
        clear hKx Kx
        (try simp only [Act.put, List.setIfInBounds_toArray, List.set_cons_zero, List.set_cons_succ, List.getElem_toArray, List.getElem_cons_zero, List.getElem_cons_succ])
        refine wpAnyH_take (i := 6) (v := ?va6) rfl (by kernel_rfl) (by kernel_rfl) (by kernel_rfl) (fun _ _ _ h => h) (Or.inl ⟨by rfl, ?hya6⟩) hHeld ?resta6
        case hya6 => intro w hSw; (try dsimp only at hSw); go_simp; try (with_reducible rfl)
        (try simp only [Act.put, List.setIfInBounds_toArray, List.set_cons_zero, List.set_cons_succ, List.getElem_toArray, List.getElem_cons_zero, List.getElem_cons_succ])
        refine wpAnyH_take (i := 7) (v := ?va7) rfl (by kernel_rfl) (by kernel_rfl) (by kernel_rfl) (fun _ _ _ h => h) (Or.inl ⟨by rfl, ?hya7⟩) hHeld ?resta7
        case hya7 => intro w hSw; (try dsimp only at hSw); go_simp; try (with_reducible rfl)
        (try simp only [Act.put, List.setIfInBounds_toArray, List.set_cons_zero, List.set_cons_succ, List.getElem_toArray, List.getElem_cons_zero, List.getElem_cons_succ])
        refine wpAnyH_done (by kernel_rfl) ?_ _
        go_wp2_with fail
        refine ⟨⟨k + 1, bl, pack bs, A4, (pack bs).length, c4, by omega, by go_num, rfl, rfl, by omega, ?_, own_base HO4.out (Nat.le_trans HF5.out.size HF6.out.size), HF6.out.trans HF4.out (fun _ _ h => h)⟩, by simp [intOf]; omega⟩
        show _ = _
        rw [HUK.out, HBN.out]
        unfold shorter
        rw [if_pos (by show bs.length < m; have := HBN.out; omega)]
      · have hsi : ¬ (bl : Int) < (m : Int) := by omega
        go_wp2_with (refine HLEN.out.mono ?_; rintro e w6' ⟨rfl, rfl⟩)
        refine ⟨⟨k + 1, m, X, AX, xn, cX, by omega, by go_num, rfl, rfl, hm, ?_, HO6.out, HF6.out⟩, by simp [intOf]; omega⟩
        show _ = _
        rw [HUK.out]
        unfold shorter
        rw [if_neg (by show ¬ bs.length < m; have := HBN.out; omega)]
    · obtain rfl : k = 2 := by omega
      have hXR : X = R := by have h := HUP.out; rw [HU.out] at h; exact h
      go_wp2_with fail
      go_ret
      have hxn : xn = R.length := by have h := HO.out.1; rw [hXR] at h; simp at h; omega
      subst hxn
      exact ⟨AX, cX, rfl, by rw [← hXR] at *; exact HO.out, HF5.out.trans HF.out (fun _ _ h => h)⟩
/-- the program keeps the contracts -/
theorem deflC : DeflC Gl9 where
  fr0 := fun h hf => h.fr0 hf
  stored := fun A n c B w hG hr hc hcm hn => pStored9_any A n c B w hr hc hcm (by omega)
  fixed := fun A n c B w hG hr hc hcm hn => pFixed9_any A n c B w hG hr hc hcm hn
  dynamic := fun A n c B w hG hr hc hcm hn => pDynamic9_any A n c B w hG hr hc hcm hn
  press := fun A n c B w hG hr hc hcm hn => pPress9_any A n c B w hG hr hc hcm hn
end Go.Proofs.YtahfmcdhcbfkaaaDoor
namespace Go.Proofs.YtahfmcdhcbfkaaaDoor.DeM
open BitsM

/-- the bits of tokens by the codes that are agreed upon -/
def fixT (T : List LzM.Tok) : Nat := (T.flatMap (tokBits (HuffM.codesL (CoM.ints SyM.fixA)) SyM.fixA (HuffM.codesL (CoM.ints SyM.fixB)) SyM.fixB)).length
theorem fixT_cons (t : LzM.Tok) (T : List LzM.Tok) : fixT (t :: T) = (tokBits (HuffM.codesL (CoM.ints SyM.fixA)) SyM.fixA (HuffM.codesL (CoM.ints SyM.fixB)) SyM.fixB t).length + fixT T := by
  unfold fixT
  rw [List.flatMap_cons, List.length_append]
theorem code_len (cs len : List Nat) (s : Nat) : (codeBits cs len s).length ≤ len[s]! := by
  unfold codeBits
  rw [List.length_reverse, low_length]
  omega
theorem fix_9 : ∀ s, s < 256 → SyM.fixA[s]! ≤ 9 := by
  intro s hs
  have h : ∀ s : Fin 256, SyM.fixA[(s : Nat)]! ≤ 9 := by decide +kernel
  exact h ⟨s, hs⟩
theorem fix_8 : ∀ s, s < 29 → SyM.fixA[257 + s]! ≤ 8 ∧ SyM.wid SyM.lens s ≤ 5 := by
  intro s hs
  have h : ∀ s : Fin 29, SyM.fixA[257 + (s : Nat)]! ≤ 8 ∧ SyM.wid SyM.lens (s : Nat) ≤ 5 := by decide +kernel
  exact h ⟨s, hs⟩
theorem fix_c : SyM.lenS 258 = 28 ∧ SyM.wid SyM.lens 28 = 0 ∧ SyM.distS 1 = 0 ∧ SyM.wid SyM.dists 0 = 0 ∧ SyM.fixB[0]! = 5 ∧ SyM.fixA[256]! = 7 := by decide +kernel
theorem lit_len (xs ys b : List Nat) (c : UInt8) : (tokBits xs SyM.fixA ys b (LzM.lit c)).length ≤ 9 := by
  unfold tokBits LzM.lit
  rw [if_pos rfl]
  have h1 := code_len xs SyM.fixA c.toNat
  have h2 := fix_9 c.toNat c.toNat_lt
  simp only
  omega
theorem mat_len (xs ys : List Nat) (L : Nat) (hL : 3 ≤ L) : (tokBits xs SyM.fixA ys SyM.fixB (LzM.mat L 1)).length ≤ 18 ∧ (L = 258 → (tokBits xs SyM.fixA ys SyM.fixB (LzM.mat L 1)).length ≤ 13) := by
  obtain ⟨f1, f2, f3, f4, f5, _⟩ := fix_c
  have e : (tokBits xs SyM.fixA ys SyM.fixB (LzM.mat L 1)).length = (codeBits xs SyM.fixA (257 + SyM.lenS (L : Int))).length + SyM.wid SyM.lens (SyM.lenS (L : Int)) + ((codeBits ys SyM.fixB (SyM.distS 1)).length + SyM.wid SyM.dists (SyM.distS 1)) := by
    unfold tokBits LzM.mat
    rw [if_neg (by simp; omega)]
    simp only [List.length_append, low_length]
    rfl
  have h1 := code_len xs SyM.fixA (257 + SyM.lenS (L : Int))
  have h2 := code_len ys SyM.fixB (SyM.distS 1)
  have h3 := fix_8 (SyM.lenS (L : Int)) (SyM.lenS_lt _)
  rw [f3] at h2 e
  rw [f5] at h2
  rw [f4] at e
  refine ⟨by omega, fun h => ?_⟩
  subst h
  have h4 := fix_8 28 (by omega)
  rw [show ((258 : Nat) : Int) = 258 from rfl, f1] at e h1
  omega
/-- what is left to be pressed, where all bytes are the same -/
theorem rep_bits (n : Nat) (c : UInt8) : ∀ f a, 0 < a → a ≤ n → (n - a ≤ 2 → fixT (LzM.pressF (List.replicate n c) f a) ≤ 9 * (n - a)) ∧ fixT (LzM.pressF (List.replicate n c) f a) ≤ 13 * ((n - a) / 258) + 18 := by
  intro f
  induction f with
  | zero => intro a h0 ha; exact ⟨fun _ => Nat.zero_le _, Nat.zero_le _⟩
  | succ f ih =>
    intro a h0 ha
    rw [LzM.pressF]
    rw [List.length_replicate]
    by_cases hlt : a < n
    · rw [if_pos hlt, LzV.rep_find n c a h0 hlt]
      simp only
      by_cases h3 : min 258 (n - a) < 3
      · rw [if_pos h3, fixT_cons]
        have hl := lit_len (HuffM.codesL (CoM.ints SyM.fixA)) (HuffM.codesL (CoM.ints SyM.fixB)) SyM.fixB ((List.replicate n c)[a]!)
        have hi := (ih (a + 1) (by omega) (by omega)).1 (by omega)
        refine ⟨fun _ => by omega, by omega⟩
      · rw [if_neg h3, fixT_cons]
        have hm := mat_len (HuffM.codesL (CoM.ints SyM.fixA)) (HuffM.codesL (CoM.ints SyM.fixB)) (min 258 (n - a)) (by omega)
        have hi := ih (a + min 258 (n - a)) (by omega) (by omega)
        refine ⟨fun _ => by omega, ?_⟩
        by_cases h258 : 258 ≤ n - a
        · have h13 := hm.2 (by omega)
          have h2 := hi.2
          have e : min 258 (n - a) = 258 := by omega
          rw [e] at h13 h2 ⊢
          have e2 : (n - a) / 258 = (n - (a + 258)) / 258 + 1 := by omega
          omega
        · have h1 := hi.1 (by omega)
          have h18 := hm.1
          have e : a + min 258 (n - a) = n := by omega
          rw [e, Nat.sub_self] at h1
          rw [e]
          omega
    · rw [if_neg hlt]
      exact ⟨fun _ => Nat.zero_le _, Nat.zero_le _⟩
theorem zeros_len (k : Nat) (c : UInt8) : (pressB (List.replicate k c)).length ≤ 12 + k / 100 := by
  have h := (press_is (List.replicate k c)).2.2.1
  rw [pack_length] at h
  have h256 := code_len (HuffM.codesL (CoM.ints SyM.fixA)) SyM.fixA 256
  rw [fix_c.2.2.2.2.2] at h256
  have e : (fixedBits (List.replicate k c)).length = 3 + (fixT (LzM.press (List.replicate k c)) + (codeBits (HuffM.codesL (CoM.ints SyM.fixA)) SyM.fixA 256).length) := by
    unfold fixedBits toksBits fixT
    rw [List.length_append, List.length_append]
    rfl
  have hb : fixT (LzM.press (List.replicate k c)) ≤ 27 + 13 * ((k - 1) / 258) := by
    unfold LzM.press
    rw [List.length_replicate]
    cases k with
    | zero => exact Nat.zero_le _
    | succ k =>
      rw [LzM.pressF, if_pos (by rw [List.length_replicate]; omega), LzV.rep_find0]
      simp only
      rw [if_pos (by omega), fixT_cons]
      have hl := lit_len (HuffM.codesL (CoM.ints SyM.fixA)) (HuffM.codesL (CoM.ints SyM.fixB)) SyM.fixB ((List.replicate (k + 1) c)[0]!)
      have hi := (rep_bits (k + 1) c k (0 + 1) (by omega) (by omega)).2
      omega
  omega
end Go.Proofs.YtahfmcdhcbfkaaaDoor.DeM
namespace Go.Proofs.YtahfmcdhcbfkaaaDoor
open Go.RowKit Mem Go.Lib
attribute [local go_sem ↓] Go.wp_at_zero Go.wp_at_succ
set_option linter.unusedVariables false
set_option maxRecDepth 100000

def slenS : Value → Nat
  | .slice _ n _ => n
  | _ => 0
theorem head_0 : (DeM.head5 0 65535).map bytec = [.int .u8 0, .int .u8 255, .int .u8 255, .int .u8 0, .int .u8 0] := by rfl
theorem head_1 (n x0 x1 x2 x3 : Nat) (hn : n ≤ 65535) (h0 : x0 = n % 256) (h1 : x1 = n / 256) (h2 : x2 = 255 - x0) (h3 : x3 = 255 - x1) : (DeM.head5 1 n).map bytec = [.int .u8 1, .int .u8 (x0 : Int), .int .u8 (x1 : Int), .int .u8 (x2 : Int), .int .u8 (x3 : Int)] := by
  unfold DeM.head5
  simp only [List.map_cons, List.map_nil]
  rw [bytec_ofNat (by omega), bytec_ofNat (by omega), bytec_ofNat (by omega), bytec_ofNat (by omega), bytec_ofNat (by omega), ← h0, ← h1, ← h2, ← h3]
  rfl
theorem conv_u8 (x : Nat) (hx : x < 256) (w : World) : (convert 3 5 (.int .i64 (x : Int))).run Tryd.prog w = .ok (.int .u8 (x : Int)) w := by
  go_simp
  unfold IntKind.wrap
  simp [IntKind.bits, IntKind.signed]
  omega
theorem five_one (a b c d e : Int) : ∀ u ∈ [Value.int .u8 a, .int .u8 b, .int .u8 c, .int .u8 d, .int .u8 e], u.oneCell' = true := by
  intro u hu
  simp at hu
  rcases hu with rfl | rfl | rfl | rfl | rfl <;> rfl
set_option maxHeartbeats 3200000 in
theorem rStored_any (A : Option Addr) (n c : Nat) (B : List UInt8) (w : World) (hr : Rd w A n (B.map bytec)) (hc : n ≤ c) (hcm : c ≤ maxLen) (hn : n ≤ 1000000) :
    Calls Tryd.prog 13 #[.slice A n c] w (Gives w (DeM.storedB B)) := by
  have hbl : B.length = n := by simpa using hr.1
  obtain ⟨R, hR⟩ : ∃ R, R = DeM.storedB B := ⟨_, rfl⟩
  unfold Gives
  rw [← hR]
  obtain ⟨base, hbase⟩ : ∃ base, base = w.heap.size := ⟨_, rfl⟩
  rw [← hbase]
  have HB := Lib.hid hbase
  have HR0 := Lib.hid hr
  have HRR := Lib.hid hR
  have HBL := Lib.hid hbl
  clear hr hbl hR hbase
  go_enter Tryd.func13, Tryd.ntmps13
  go_wp2_with fail
  go_loopw [0, 3] (fun b s wr => ∃ (B1 : List UInt8) (A1 : Option Addr) (n1 c1 r : Nat) (D : Option Addr) (d : Nat) (Q : List UInt8), b = .slice A1 n1 c1 ∧ s = .slice D r d ∧ n1 ≤ c1 ∧ c1 ≤ maxLen ∧ r + 2 * n1 ≤ 2 * n ∧ Hid (Rd w A1 n1 (B1.map bytec)) ∧ Hid (Q ++ DeM.storedB B1 = R) ∧ Hid (wr.ownsRow base 5 1 (.slice D r d) r (Q.map bytec)) ∧ Hid (Fr (fun _ => False) w wr)) (fun b _ _ => slenS b)
  case atStart => exact ⟨B, A, n, c, 0, none, 0, [], rfl, rfl, hc, hcm, by omega, HR0.out, HRR.out.symm, World.ownsRow_nil _ _ _ _, Fr.refl _ _⟩
  case round =>
    obtain ⟨B1, A1, n1, c1, r, D, d, Q, rfl, rfl, hc1, hcm1, hrn, HR1, HQ, HO, HF⟩ := hrel
    rename World => wr
    have hbl1 : B1.length = n1 := by simpa using HR1.out.1
    by_cases hlt : 65535 < n1
    · obtain ⟨r1, hr1⟩ : ∃ r1, r1 = r + 5 := ⟨_, rfl⟩
      obtain ⟨r2, hr2⟩ : ∃ r2, r2 = r1 + 65535 := ⟨_, rfl⟩
      obtain ⟨n2, hn2⟩ : ∃ n2, n2 = n1 - 65535 := ⟨_, rfl⟩
      obtain ⟨c2, hc2⟩ : ∃ c2, c2 = c1 - 65535 := ⟨_, rfl⟩
      obtain ⟨A2, hA2⟩ : ∃ A2, A2 = cutAt A1 c1 65535 := ⟨_, rfl⟩
      have hs1 : ∀ w' : World, (Instr.sliceAt 22 (.slice A1 n1 c1) none (some (.int .i64 65535)) none).run Tryd.prog w' = .ok (.slice A1 65535 c1) w' := fun w' => run_toB A1 n1 c1 65535 (by omega) hc1 _ rfl w'
      have hs2 : ∀ w' : World, (Instr.sliceAt 22 (.slice A1 n1 c1) (some (.int .i64 65535)) none none).run Tryd.prog w' = .ok (.slice A2 n2 c2) w' := fun w' => by rw [hA2, hn2, hc2]; exact run_fromB A1 n1 c1 65535 (by omega) _ rfl w'
      have HRT : Hid (Rd w A1 65535 ((B1.take 65535).map bytec)) := Lib.hid (by rw [List.map_take]; exact rd_to HR1.out (by omega))
      have HRF : Hid (Rd w A2 n2 ((B1.drop 65535).map bytec)) := Lib.hid (by rw [List.map_drop, hA2, hn2]; exact rd_from HR1.out (by omega) hc1)
      have HSB : Hid (DeM.storedB B1 = DeM.head5 0 65535 ++ B1.take 65535 ++ DeM.storedB (B1.drop 65535)) := Lib.hid (DeM.storedB_more B1 (by omega))
      have H1 := Lib.hid hr1
      have H2 := Lib.hid hr2
      have HN2 : Hid (n2 ≤ c2 ∧ c2 ≤ maxLen ∧ r2 + 2 * n2 ≤ 2 * n ∧ n2 < n1) := Lib.hid (by unfold maxLen at *; omega)
      have hr1b : r1 ≤ 3000000 := by omega
      have hr2b : r2 ≤ 3000000 := by omega
      clear hr1 hr2 hn2 hc2 hA2 hbl1 hc1 hcm1
      go_wp2_with (at_builtin; refine wpList_appN u8T _ rfl _ _ rfl base _ r (Q.map bytec) rfl (HO.out.alloc _) _ 5 _ [.int .u8 0, .int .u8 255, .int .u8 255, .int .u8 0, .int .u8 0] rfl (Rd.cells rfl [.int .u8 0, .int .u8 255, .int .u8 255, .int .u8 0, .int .u8 0] _) (five_one _ _ _ _ _) r1 H1.out (by unfold maxLen; omega) (by omega) (by have h1 := HF.out.size; have h2 := HB.out; simp; omega) ?_)
      intro D3 d3 w3 _ _ hown3 hf3 _
      rw [← head_0, ← List.map_append] at hown3
      have HO3 := Lib.hid hown3
      have HF3 : Hid (Fr (fun _ => False) w w3) := Lib.hid ((HF.out.alloc _).trans hf3 (fun b hb h => by have h1 := (HO.out.lt b h).1; have h2 := HB.out; omega))
      clear hown3 hf3
      go_wp2_with (at_builtin; refine wpList_appN u8T _ rfl _ _ rfl base _ r1 _ rfl HO3.out _ 65535 _ ((B1.take 65535).map bytec) rfl (HRT.out.fr HF3.out (fun _ _ h => h)) (bytec_one _) r2 H2.out (by unfold maxLen; omega) (by omega) (by have h1 := HF3.out.size; have h2 := HB.out; omega) ?_)
      intro D4 d4 w4 _ _ hown4 hf4 _
      have HO4 : Hid (w4.ownsRow base 5 1 (.slice D4 r2 d4) r2 ((Q ++ DeM.head5 0 65535 ++ B1.take 65535).map bytec)) := Lib.hid (own_list hown4 (by simp only [List.map_append, List.map_take, List.append_assoc]))
      have HF4 : Hid (Fr (fun _ => False) w w4) := Lib.hid (HF3.out.trans hf4 (fun b hb h => by have h1 := (HO3.out.lt b h).1; have h2 := HB.out; omega))
      have HQ4 : Hid (Q ++ DeM.head5 0 65535 ++ B1.take 65535 ++ DeM.storedB (B1.drop 65535) = R) := Lib.hid (by
        rw [← HQ.out, HSB.out]
        simp only [List.append_assoc])
      clear hown4 hf4
      go_wp2_with fail
      exact ⟨⟨B1.drop 65535, A2, n2, c2, r2, D4, d4, Q ++ DeM.head5 0 65535 ++ B1.take 65535, rfl, rfl, HN2.out.1, HN2.out.2.1, HN2.out.2.2.1, HRF.out, HQ4.out, HO4.out, HF4.out⟩, HN2.out.2.2.2⟩
    · obtain ⟨x0, h0⟩ : ∃ x, x = n1 % 256 := ⟨_, rfl⟩
      obtain ⟨x1, h1⟩ : ∃ x, x = n1 / 256 := ⟨_, rfl⟩
      obtain ⟨x2, h2⟩ : ∃ x, x = 255 - x0 := ⟨_, rfl⟩
      obtain ⟨x3, h3⟩ : ∃ x, x = 255 - x1 := ⟨_, rfl⟩
      have HH := Lib.hid (head_1 n1 x0 x1 x2 x3 (by omega) h0 h1 h2 h3)
      have e0 : (n1 : Int).tmod 256 = (x0 : Int) := by rw [h0, Int.tmod_eq_emod_of_nonneg (by omega)]; omega
      have e1 : (n1 : Int).tdiv 256 = (x1 : Int) := by rw [h1, Int.tdiv_eq_ediv_of_nonneg (by omega)]; omega
      have e2 : (255 : Int) - (x0 : Int) = (x2 : Int) := by omega
      have e3 : (255 : Int) - (x1 : Int) = (x3 : Int) := by omega
      have q0 := conv_u8 x0 (by omega)
      have q1 := conv_u8 x1 (by omega)
      have q2 := conv_u8 x2 (by omega)
      have q3 := conv_u8 x3 (by omega)
      obtain ⟨r1, hr1⟩ : ∃ r1, r1 = r + 5 := ⟨_, rfl⟩
      obtain ⟨r2, hr2⟩ : ∃ r2, r2 = r1 + n1 := ⟨_, rfl⟩
      have H1 := Lib.hid hr1
      have H2 := Lib.hid hr2
      have hr1b : r1 ≤ 3000000 := by omega
      have hr2b : r2 ≤ 3000000 := by omega
      have HSB : Hid (DeM.storedB B1 = DeM.head5 1 n1 ++ B1) := Lib.hid (by rw [DeM.storedB_less B1 (by omega), hbl1])
      clear h0 h1 h2 h3 hr1 hr2 hbl1
      go_wp2_with (at_builtin; refine wpList_appN u8T _ rfl _ _ rfl base _ r (Q.map bytec) rfl (HO.out.alloc _) _ 5 _ [.int .u8 1, .int .u8 (x0 : Int), .int .u8 (x1 : Int), .int .u8 (x2 : Int), .int .u8 (x3 : Int)] rfl (Rd.cells rfl [.int .u8 1, .int .u8 (x0 : Int), .int .u8 (x1 : Int), .int .u8 (x2 : Int), .int .u8 (x3 : Int)] _) (five_one _ _ _ _ _) r1 H1.out (by unfold maxLen; omega) (by omega) (by have h1 := HF.out.size; have h2 := HB.out; simp; omega) ?_)
      intro D3 d3 w3 _ _ hown3 hf3 _
      rw [← HH.out, ← List.map_append] at hown3
      have HO3 := Lib.hid hown3
      have HF3 : Hid (Fr (fun _ => False) w w3) := Lib.hid ((HF.out.alloc _).trans hf3 (fun b hb h => by have h1 := (HO.out.lt b h).1; have h2 := HB.out; omega))
      clear hown3 hf3
      go_wp2_with (at_builtin; refine wpList_appN u8T _ rfl _ _ rfl base _ r1 _ rfl HO3.out _ n1 _ (B1.map bytec) rfl (HR1.out.fr HF3.out (fun _ _ h => h)) (bytec_one _) r2 H2.out (by unfold maxLen; omega) (by omega) (by have h1 := HF3.out.size; have h2 := HB.out; omega) ?_)
      intro D4 d4 w4 _ _ hown4 hf4 _
      have hQR : Q ++ DeM.head5 1 n1 ++ B1 = R := by rw [← HQ.out, HSB.out, List.append_assoc]
      have HO4 : Hid (w4.ownsRow base 5 1 (.slice D4 r2 d4) r2 (R.map bytec)) := Lib.hid (own_list hown4 (by rw [← hQR]; simp only [List.map_append, List.append_assoc]))
      have HF4 : Hid (Fr (fun _ => False) w w4) := Lib.hid (HF3.out.trans hf4 (fun b hb h => by have h1 := (HO3.out.lt b h).1; have h2 := HB.out; omega))
      clear hown4 hf4 hQR
      go_wp2_with fail
      go_ret
      have hrl : r2 = R.length := by have h := HO4.out.1; simp at h; omega
      subst hrl
      exact ⟨D4, d4, rfl, HO4.out, HF4.out⟩
end Go.Proofs.YtahfmcdhcbfkaaaDoor
