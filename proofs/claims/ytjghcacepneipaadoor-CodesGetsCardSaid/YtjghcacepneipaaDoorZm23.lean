/-
  What a coder's Next is to tell: the reference's symbol of the bits that are left.
  The program's Next: the symbol that bits tell.
-/
import Derived.Test.YtjghcacepneipaaDoorZm22
import Derived.Test.YtjghcacepneipaaDoorZm07
import Derived.Test.YtjghcacepneipaaDoorZm21
namespace Go.Proofs.YtjghcacepneipaaDoor
open Go.RowKit HuffM BitsM Mem Go.Lib

/-- bits as the reference has them -/
def bb (bs : List Bool) : List UInt8 := bs.map fun b => UInt8.ofNat b.toNat
theorem bb_cells (bs : List Bool) : (bb bs).map bytec = bs.map bitc := by
  unfold bb
  rw [List.map_map]
  apply List.map_congr_left
  intro b _
  cases b <;> rfl
theorem bb_len (bs : List Bool) : (bb bs).length = bs.length := by simp [bb]
theorem next_cases {L : List Int} {B : List UInt8} (hL : ∀ x ∈ L, inR x = true) : nextS L B = (-1, 0) ∨ ∃ s k : Nat, nextS L B = ((s : Int), (k : Int)) ∧ s < L.length ∧ k ≤ B.length ∧ k ≤ 15 := by
  unfold nextS
  cases h : firstHit L B L.length with
  | none => exact .inl rfl
  | some s =>
    right
    unfold firstHit at h
    have hh := List.find?_some h
    have hm := List.mem_of_find?_eq_some h
    have hs : s < L.length := List.mem_range.1 hm
    have hx := hL _ (List.getElem_mem hs)
    have hgd : L.getD s 0 = L[s] := by rw [List.getD_eq_getElem?_getD, List.getElem?_eq_getElem hs]; rfl
    have hr : 0 ≤ L[s] ∧ L[s] ≤ 15 := by simpa [inR] using hx
    unfold hits at hh
    simp only [hgd, Bool.and_eq_true, decide_eq_true_eq] at hh
    refine ⟨s, L[s].toNat, ?_, hs, by omega, by omega⟩
    simp only [hgd]
    rw [Int.toNat_of_nonneg hr.1]
def NextOk (L : List Int) (bs : List Bool) (s : Int) (is : Bool) (p p' : Nat) : Prop :=
  (is = true ∧ (nextS L (bb bs)).1 = s ∧ 0 ≤ s ∧ (p' : Int) = p + (nextS L (bb bs)).2) ∨ (is = false ∧ s = 0 ∧ nextS L (bb bs) = (-1, 0))
end Go.Proofs.YtjghcacepneipaaDoor
namespace Go.Proofs.YtjghcacepneipaaDoor
open Go.RowKit HuffM BitsM Mem Go.Lib
attribute [local go_sem ↓] Go.wp_at_zero Go.wp_at_succ

theorem bb_at {bs : List Bool} {k : Nat} {b : Bool} (h : bs[k]? = some b) : (bb bs)[k]? = some (UInt8.ofNat b.toNat) := by
  unfold bb
  rw [List.getElem?_map, h]
  rfl
theorem bb_one (bs : List Bool) : ∀ b ∈ bb bs, b.toNat ≤ 1 := by
  intro b hb
  obtain ⟨x, _, rfl⟩ := List.mem_map.1 hb
  cases x <;> decide
theorem bcode_bit {bs : List Bool} {k : Nat} {b : Bool} (h : bs[k]? = some b) : bcode (bb bs) (k + 1) = 2 * bcode (bb bs) k + b.toNat := by
  rw [bcode_succ (bb_at h)]
  congr 1
  cases b <;> decide
theorem num_one (b : Bool) : num [b] = b.toNat := by cases b <;> rfl

set_option maxRecDepth 1000000 in
set_option maxHeartbeats 6400000 in
theorem pNextG_any {w : World} {G : Nat → Prop} {r c p : Nat} {pa : Addr} {L : List Int} {A : Option Addr} {B : List UInt8} (hca : CB w G pa L) (hR : rightB L = true) (hre : Re w r A c B p) (hG : ¬ G r) (hB : B.length ≤ 1000000) :
    Calls Tryd.prog 76 #[.pointer (some pa), .pointer (some ⟨r, 0, none⟩)] w fun e w' => ∃ (s : Int) (is : Bool) (p' : Nat), e = .returned (.tuple #[.int .i64 s, .bool is]) ∧ Re w' r A c B p' ∧ Fr (fun k => k = r) w w' ∧ NextOk L ((bitsOf B).drop p) s is p p' := by
  obtain ⟨p0, gs, m, cs1, rfl, hp0, hgs, hm, hmc, hm1, hrow, hcol⟩ := hca
  obtain ⟨bs, hbs⟩ : ∃ bs, bs = (bitsOf B).drop p := ⟨_, rfl⟩
  rw [← hbs]
  have hlb : bs.length = 8 * B.length - p := by rw [hbs, List.length_drop, bitsOf_length]
  have hbit : ∀ k, p + k < 8 * B.length → ∃ b, bs[k]? = some b ∧ num (cut B (p + k) 1) = b.toNat := by
    intro k hk
    have h2 : p + k < (bitsOf B).length := by rw [bitsOf_length]; exact hk
    refine ⟨(bitsOf B)[p + k], by rw [hbs, List.getElem?_drop, List.getElem?_eq_getElem h2], ?_⟩
    unfold cut
    rw [List.drop_eq_getElem_cons h2]
    exact num_one _
  have HROW := Lib.hid hrow
  have HCOL := Lib.hid hcol
  have HM := Lib.hid hm
  have HL := Lib.hid (And.intro (right_in hR) (show (codedL L).length ≤ 1000 by omega))
  have HBIT := Lib.hid hbit
  have HLB := Lib.hid hlb
  have HRE := Lib.hid hre
  have hp0r : p0 ≠ r := fun e => hG (e ▸ hp0)
  have hgsr : gs ≠ r := fun e => hG (e ▸ hgs)
  have HNE := Lib.hid (And.intro hp0r hgsr)
  clear hrow hcol hm hbit hlb hre hR hbs hp0 hgs hp0r hgsr hG
  go_enter Tryd.func76, Tryd.ntmps76
  go_wp2_with fail
  go_loopw [6, 7, 17] (fun f z i wr => ∃ (k a : Nat), k ≤ 15 ∧ i = .int .i64 (k : Int) ∧ f = .int .i64 ((cod L k).length : Int) ∧ z = .int .i64 (a : Int) ∧ a ≤ 255 * 32767 ∧ Hid (Re wr r A c B (p + k)) ∧ Hid (∀ j, j ≤ k → fe L j ≤ bcode (bb bs) j) ∧ Hid (bcode (bb bs) k = fe L k + a) ∧ Fr (fun b => b = r) w wr)
    (fun _ _ i _ => 15 - (intOf i).toNat)
  case atStart =>
    refine ⟨0, 0, by omega, rfl, rfl, rfl, by omega, HRE, ?_, rfl, Fr.refl _ _⟩
    intro j hj
    obtain rfl : j = 0 := by omega
    exact Nat.zero_le _
  case round =>
    obtain ⟨k, a, hk, rfl, rfl, rfl, ha, HREk, HFE, HV, hfr⟩ := hrel
    by_cases hlt : k < 15
    · obtain ⟨ct, hct⟩ : ∃ ct, ct = (blk L (k + 1) L.length).length := ⟨_, rfl⟩
      have hcnt : (cns L m)[k + 1]? = some ct := by
        rw [cns_at L m (k + 1) (by omega), HM.out, List.take_length]
        show some (List.countP _ (cod L 15)) = _
        rw [cod_cnt L (k + 1) 15 (by omega), if_pos (by omega), hct]
      have hcc := (HROW.out.fr hfr HNE.out.1).cell (i := 2 + k) (u := .int .i64 (ct : Int)) (by rw [show 2 + k = (k + 1) + 1 by omega, List.getElem?_cons_succ, List.getElem?_map, hcnt]; rfl)
      have HCT := Lib.hid hct
      have hct1 : ct ≤ 1000 := by
        have h1 := cod_len_succ L k
        have h2 := cod_len_le L (k := k + 1) (by omega)
        have := HL.out.2
        omega
      obtain ⟨fr, hfr0⟩ : ∃ fr, fr = (cod L k).length := ⟨_, rfl⟩
      have hfr1 : fr ≤ 1000 := by
        have h2 := cod_len_le L (k := k) (by omega)
        have := HL.out.2
        omega
      rw [← hfr0]
      have HFR0 := Lib.hid hfr0
      clear hcnt hct hfr0
      have hq := HREk.out.2.2
      by_cases hleft : p + k < 8 * B.length
      · obtain ⟨b, hb, hnum⟩ := HBIT.out k hleft
        have hcall := bits_ok r c (p + k) A B 1 wr HREk.out (by omega) (by omega) (by omega)
        rw [hnum] at hcall
        obtain ⟨bt, hbt⟩ : ∃ bt, bt = b.toNat := ⟨_, rfl⟩
        have hbt1 : bt ≤ 1 := by rw [hbt]; cases b <;> decide
        have hv1 := bcode_bit hb
        rw [← hbt] at hcall hv1
        have hbd : 2 * a + bt ≤ 255 * 32767 := by
          have h1 := bcode_lt (bb bs) (k + 1)
          have h2 := Nat.pow_le_pow_right (show 0 < 2 by omega) (show k + 1 ≤ 15 by omega)
          have h3 := HV.out
          omega
        have HCALL : Hid (Calls Tryd.prog 67 #[.pointer (some ⟨r, 0, none⟩), .int .i64 1] wr fun e w' => e = .returned (.tuple #[.int .u64 (bt : Int), .bool true]) ∧ Re w' r A c B (p + k + 1) ∧ Fr (fun k => k = r) wr w') := hcall
        have HV1 := Lib.hid hv1
        have hkb : k < bs.length := by rw [HLB.out]; omega
        have HKB := Lib.hid hkb
        have hwb : IntKind.i64.wrap (bt : Int) = (bt : Int) := by rw [IntKind.wrap_i64]; omega
        clear hb hnum hcall hbt hv1 hkb
        go_wp2_with fail
        refine HCALL.out.mono ?_
        rintro e w2 ⟨rfl, hre2, hf2⟩
        have HRE2 := Lib.hid hre2
        have HF2 := Lib.hid (hfr.trans hf2 (fun _ _ h => h))
        clear hre2 hf2 hfr HCALL hcc HREk
        by_cases hfound : 2 * a + bt < ct
        · obtain ⟨s, hs⟩ : ∃ s, (blk L (k + 1) L.length)[2 * a + bt]? = some s := ⟨_, List.getElem?_eq_getElem (by have := HCT.out; omega)⟩
          obtain ⟨ix, hix⟩ : ∃ ix, ix = fr + (2 * a + bt) := ⟨_, rfl⟩
          have hcs := (HCOL.out.fr HF2.out HNE.out.2).cell (i := ix) (by rw [hix, HFR0.out]; exact coded_at hlt hs)
          have hixm : ix < m := by
            have h1 := coded_at hlt hs
            have h2 := (List.getElem?_eq_some_iff.1 h1).1
            have h3 := HM.out
            have h4 := HFR0.out
            omega
          have eix : (fr : Int) + (2 * (a : Int) + (bt : Int)) = (ix : Int) := by omega
          have hnx := found (K := k) (a := 2 * a + bt) HL.out.2 HL.out.1 (bb_one bs) HFE.out hlt (by rw [bb_len]; exact HKB.out) (by rw [HV1.out, HV.out]; omega) hs
          have HNX := Lib.hid hnx
          have tf : 2 * (a : Int) + (bt : Int) < (ct : Int) := by omega
          have hc0 := (HROW.out.fr HF2.out HNE.out.1).cell (i := 0) rfl
          clear hs hix hnx hfound
          go_wp2
          exact bodyPost_ret (v := .tuple #[.int .i64 (s : Int), .bool true]) (by simp [results, Tryd.results76, go_sem]) rfl
            ⟨(s : Int), true, p + k + 1, rfl, HRE2.out, HF2.out, .inl ⟨rfl, by rw [HNX.out], by omega, by rw [HNX.out]; omega⟩⟩
        · have tf : ¬ 2 * (a : Int) + (bt : Int) < (ct : Int) := by omega
          have hlen := cod_len_succ L k
          rw [← HCT.out, ← HFR0.out] at hlen
          have HLEN := Lib.hid hlen
          have hv2 : bcode (bb bs) (k + 1) = fe L (k + 1) + (2 * a + bt - ct) := by
            have h1 := HV1.out
            have h2 := HV.out
            have h3 : fe L (k + 1) = 2 * fe L k + (blk L (k + 1) L.length).length := rfl
            have h4 := HCT.out
            omega
          have HV2 := Lib.hid hv2
          clear hlen hv2
          go_wp2
          go_roundw
          case rel =>
            refine ⟨k + 1, 2 * a + bt - ct, by omega, by go_num, by rw [HLEN.out]; first | go_num | (congr 1), by congr 1; omega, by omega, HRE2, ?_, HV2, HF2.out⟩
            intro j hj
            by_cases hjk : j ≤ k
            · exact HFE.out j hjk
            · obtain rfl : j = k + 1 := by omega
              have := HV2.out
              omega
          case measure => simp [intOf] <;> omega
      · have hcall := bits_no r c (p + k) A B 1 wr HREk.out (by omega) (.inr (.inr (by omega)))
        have HCALL := Lib.hid hcall
        have hnx := lost (K := k) HL.out.2 HL.out.1 HFE.out (.inr (by rw [bb_len, HLB.out]; omega))
        have HNX := Lib.hid hnx
        clear hcall hnx
        go_wp2_with fail
        refine HCALL.out.mono ?_
        rintro e w2 ⟨rfl, hre2, hf2⟩
        have HRE2 := Lib.hid hre2
        have HF2 := Lib.hid (hfr.trans hf2 (fun b hb h => h.elim))
        clear hre2 hf2 hfr HCALL hcc HREk
        go_wp2
        exact bodyPost_ret (v := .tuple #[.int .i64 0, .bool false]) (by simp [results, Tryd.results76, go_sem]) rfl
          ⟨0, false, p + k, rfl, HRE2.out, HF2.out, .inr ⟨rfl, rfl, HNX.out⟩⟩
    · obtain rfl : k = 15 := by omega
      have hnx := lost (K := 15) HL.out.2 HL.out.1 HFE.out (.inl rfl)
      have HNX := Lib.hid hnx
      clear hnx
      go_wp2
      exact bodyPost_ret (v := .tuple #[.int .i64 0, .bool false]) (by simp [results, Tryd.results76, go_sem]) rfl
        ⟨0, false, p + 15, rfl, HREk.out, hfr, .inr ⟨rfl, rfl, HNX.out⟩⟩
theorem pNext_any {w : World} {hi r c p : Nat} {pa : Addr} {L : List Int} {A : Option Addr} {B : List UInt8} (hca : CA w hi pa L) (hR : rightB L = true) (hre : Re w r A c B p) (hr : hi ≤ r) (hB : B.length ≤ 1000000) :
    Calls Tryd.prog 76 #[.pointer (some pa), .pointer (some ⟨r, 0, none⟩)] w fun e w' => ∃ (s : Int) (is : Bool) (p' : Nat), e = .returned (.tuple #[.int .i64 s, .bool is]) ∧ Re w' r A c B p' ∧ Fr (fun k => k = r) w w' ∧ NextOk L ((bitsOf B).drop p) s is p p' :=
  pNextG_any hca hR hre (by omega) hB
end Go.Proofs.YtjghcacepneipaaDoor
