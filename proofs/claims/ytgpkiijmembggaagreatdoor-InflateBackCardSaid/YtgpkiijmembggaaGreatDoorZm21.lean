/-
  The program's Next: the symbol that bits tell.
  Layer 8's program: repeat.
  Layer 8's program: same, choose.
  Layer 8's program: choose (written by gen_choose.py).
-/
import Derived.Test.YtgpkiijmembggaaGreatDoorZm20
import Derived.Test.YtgpkiijmembggaaGreatDoorZm08
import Derived.Test.YtgpkiijmembggaaGreatDoorZm14
import Derived.Test.YtgpkiijmembggaaGreatDoorZm12
import Derived.Deep.RegionHeld3
namespace Go.Proofs.YtgpkiijmembggaaGreatDoor
open Go.RowKit HuffM BitsM Mem Go.Lib
attribute [local go_sem ↓] Go.wp_at_zero Go.wp_at_succ

set_option maxRecDepth 1000000 in
set_option maxHeartbeats 6400000 in
theorem pNextG_any {w : World} {G : Nat → Prop} {r c p : Nat} {pa : Addr} {L : List Int} {A : Option Addr} {B : List UInt8} (hca : CB w G pa L) (hR : rightB L = true) (hre : Re w r A c B p) (hG : ¬ G r) (hB : B.length ≤ 1000000) :
    Calls Tryz.prog 101 #[.pointer (some pa), .pointer (some ⟨r, 0, none⟩)] w fun e w' => ∃ (s : Int) (is : Bool) (p' : Nat), e = .returned (.tuple #[.int .i64 s, .bool is]) ∧ Re w' r A c B p' ∧ Fr (fun k => k = r) w w' ∧ NextOk L ((bitsOf B).drop p) s is p p' := by
  obtain ⟨p0, gs, m, cs1, rfl, hp0, hgs, hm, hmc, hm1, hrow, hcol⟩ := hca
  obtain ⟨bs, hbs⟩ : ∃ bs, bs = (bitsOf B).drop p := ⟨_, rfl⟩
  rw [← hbs]
  have hlb : bs.length = 8 * B.length - p := by rw [hbs, List.length_drop, bitsOf_length]
  have hbit : ∀ k, p + k < 8 * B.length → ∃ b, bs[k]? = some b ∧ num (cut B (p + k) 1) = b.toNat := by
    intro k hk
    have h2 : p + k < (bitsOf B).length := by rw [bitsOf_length]; exact hk
    refine ⟨(bitsOf B)[p + k], by rw [hbs, List.getElem?_drop, List.getElem?_eq_getElem h2], ?_⟩
    unfold cut
    rw [List.drop_eq_getElem_cons h2]
    exact num_one _
  have HROW := Lib.hid hrow
  have HCOL := Lib.hid hcol
  have HM := Lib.hid hm
  have HL := Lib.hid (And.intro (right_in hR) (show (codedL L).length ≤ 1000 by omega))
  have HBIT := Lib.hid hbit
  have HLB := Lib.hid hlb
  have HRE := Lib.hid hre
  have hp0r : p0 ≠ r := fun e => hG (e ▸ hp0)
  have hgsr : gs ≠ r := fun e => hG (e ▸ hgs)
  have HNE := Lib.hid (And.intro hp0r hgsr)
  clear hrow hcol hm hbit hlb hre hR hbs hp0 hgs hp0r hgsr hG
  go_enter Tryz.func101, Tryz.ntmps101
  go_wp2_with fail
  go_loopw [6, 7, 17] (fun f z i wr => ∃ (k a : Nat), k ≤ 15 ∧ i = .int .i64 (k : Int) ∧ f = .int .i64 ((cod L k).length : Int) ∧ z = .int .i64 (a : Int) ∧ a ≤ 255 * 32767 ∧ Hid (Re wr r A c B (p + k)) ∧ Hid (∀ j, j ≤ k → fe L j ≤ bcode (bb bs) j) ∧ Hid (bcode (bb bs) k = fe L k + a) ∧ Fr (fun b => b = r) w wr)
    (fun _ _ i _ => 15 - (intOf i).toNat)
  case atStart =>
    refine ⟨0, 0, by omega, rfl, rfl, rfl, by omega, HRE, ?_, rfl, Fr.refl _ _⟩
    intro j hj
    obtain rfl : j = 0 := by omega
    exact Nat.zero_le _
  case round =>
    obtain ⟨k, a, hk, rfl, rfl, rfl, ha, HREk, HFE, HV, hfr⟩ := hrel
    by_cases hlt : k < 15
    · obtain ⟨ct, hct⟩ : ∃ ct, ct = (blk L (k + 1) L.length).length := ⟨_, rfl⟩
      have hcnt : (cns L m)[k + 1]? = some ct := by
        rw [cns_at L m (k + 1) (by omega), HM.out, List.take_length]
        show some (List.countP _ (cod L 15)) = _
        rw [cod_cnt L (k + 1) 15 (by omega), if_pos (by omega), hct]
      have hcc := (HROW.out.fr hfr HNE.out.1).cell (i := 2 + k) (u := .int .i64 (ct : Int)) (by rw [show 2 + k = (k + 1) + 1 by omega, List.getElem?_cons_succ, List.getElem?_map, hcnt]; rfl)
      have HCT := Lib.hid hct
      have hct1 : ct ≤ 1000 := by
        have h1 := cod_len_succ L k
        have h2 := cod_len_le L (k := k + 1) (by omega)
        have := HL.out.2
        omega
      obtain ⟨fr, hfr0⟩ : ∃ fr, fr = (cod L k).length := ⟨_, rfl⟩
      have hfr1 : fr ≤ 1000 := by
        have h2 := cod_len_le L (k := k) (by omega)
        have := HL.out.2
        omega
      rw [← hfr0]
      have HFR0 := Lib.hid hfr0
      clear hcnt hct hfr0
      have hq := HREk.out.2.2
      by_cases hleft : p + k < 8 * B.length
      · obtain ⟨b, hb, hnum⟩ := HBIT.out k hleft
        have hcall := bits_ok r c (p + k) A B 1 wr HREk.out (by omega) (by omega) (by omega)
        rw [hnum] at hcall
        obtain ⟨bt, hbt⟩ : ∃ bt, bt = b.toNat := ⟨_, rfl⟩
        have hbt1 : bt ≤ 1 := by rw [hbt]; cases b <;> decide
        have hv1 := bcode_bit hb
        rw [← hbt] at hcall hv1
        have hbd : 2 * a + bt ≤ 255 * 32767 := by
          have h1 := bcode_lt (bb bs) (k + 1)
          have h2 := Nat.pow_le_pow_right (show 0 < 2 by omega) (show k + 1 ≤ 15 by omega)
          have h3 := HV.out
          omega
        have HCALL : Hid (Calls Tryz.prog 36 #[.pointer (some ⟨r, 0, none⟩), .int .i64 1] wr fun e w' => e = .returned (.tuple #[.int .u64 (bt : Int), .bool true]) ∧ Re w' r A c B (p + k + 1) ∧ Fr (fun k => k = r) wr w') := hcall
        have HV1 := Lib.hid hv1
        have hkb : k < bs.length := by rw [HLB.out]; omega
        have HKB := Lib.hid hkb
        have hwb : IntKind.i64.wrap (bt : Int) = (bt : Int) := by rw [IntKind.wrap_i64]; omega
        clear hb hnum hcall hbt hv1 hkb
        go_wp2_with fail
        refine HCALL.out.mono ?_
        rintro e w2 ⟨rfl, hre2, hf2⟩
        have HRE2 := Lib.hid hre2
        have HF2 := Lib.hid (hfr.trans hf2 (fun _ _ h => h))
        clear hre2 hf2 hfr HCALL hcc HREk
        by_cases hfound : 2 * a + bt < ct
        · obtain ⟨s, hs⟩ : ∃ s, (blk L (k + 1) L.length)[2 * a + bt]? = some s := ⟨_, List.getElem?_eq_getElem (by have := HCT.out; omega)⟩
          obtain ⟨ix, hix⟩ : ∃ ix, ix = fr + (2 * a + bt) := ⟨_, rfl⟩
          have hcs := (HCOL.out.fr HF2.out HNE.out.2).cell (i := ix) (by rw [hix, HFR0.out]; exact coded_at hlt hs)
          have hixm : ix < m := by
            have h1 := coded_at hlt hs
            have h2 := (List.getElem?_eq_some_iff.1 h1).1
            have h3 := HM.out
            have h4 := HFR0.out
            omega
          have eix : (fr : Int) + (2 * (a : Int) + (bt : Int)) = (ix : Int) := by omega
          have hnx := found (K := k) (a := 2 * a + bt) HL.out.2 HL.out.1 (bb_one bs) HFE.out hlt (by rw [bb_len]; exact HKB.out) (by rw [HV1.out, HV.out]; omega) hs
          have HNX := Lib.hid hnx
          have tf : 2 * (a : Int) + (bt : Int) < (ct : Int) := by omega
          have hc0 := (HROW.out.fr HF2.out HNE.out.1).cell (i := 0) rfl
          clear hs hix hnx hfound
          go_wp2
          exact bodyPost_ret (v := .tuple #[.int .i64 (s : Int), .bool true]) (by simp [results, Tryz.results101, go_sem]) rfl
            ⟨(s : Int), true, p + k + 1, rfl, HRE2.out, HF2.out, .inl ⟨rfl, by rw [HNX.out], by omega, by rw [HNX.out]; omega⟩⟩
        · have tf : ¬ 2 * (a : Int) + (bt : Int) < (ct : Int) := by omega
          have hlen := cod_len_succ L k
          rw [← HCT.out, ← HFR0.out] at hlen
          have HLEN := Lib.hid hlen
          have hv2 : bcode (bb bs) (k + 1) = fe L (k + 1) + (2 * a + bt - ct) := by
            have h1 := HV1.out
            have h2 := HV.out
            have h3 : fe L (k + 1) = 2 * fe L k + (blk L (k + 1) L.length).length := rfl
            have h4 := HCT.out
            omega
          have HV2 := Lib.hid hv2
          clear hlen hv2
          go_wp2
          go_roundw
          case rel =>
            refine ⟨k + 1, 2 * a + bt - ct, by omega, by go_num, by rw [HLEN.out]; first | go_num | (congr 1), by congr 1; omega, by omega, HRE2, ?_, HV2, HF2.out⟩
            intro j hj
            by_cases hjk : j ≤ k
            · exact HFE.out j hjk
            · obtain rfl : j = k + 1 := by omega
              have := HV2.out
              omega
          case measure => simp [intOf] <;> omega
      · have hcall := bits_no r c (p + k) A B 1 wr HREk.out (by omega) (.inr (.inr (by omega)))
        have HCALL := Lib.hid hcall
        have hnx := lost (K := k) HL.out.2 HL.out.1 HFE.out (.inr (by rw [bb_len, HLB.out]; omega))
        have HNX := Lib.hid hnx
        clear hcall hnx
        go_wp2_with fail
        refine HCALL.out.mono ?_
        rintro e w2 ⟨rfl, hre2, hf2⟩
        have HRE2 := Lib.hid hre2
        have HF2 := Lib.hid (hfr.trans hf2 (fun b hb h => h.elim))
        clear hre2 hf2 hfr HCALL hcc HREk
        go_wp2
        exact bodyPost_ret (v := .tuple #[.int .i64 0, .bool false]) (by simp [results, Tryz.results101, go_sem]) rfl
          ⟨0, false, p + k, rfl, HRE2.out, HF2.out, .inr ⟨rfl, rfl, HNX.out⟩⟩
    · obtain rfl : k = 15 := by omega
      have hnx := lost (K := 15) HL.out.2 HL.out.1 HFE.out (.inl rfl)
      have HNX := Lib.hid hnx
      clear hnx
      go_wp2
      exact bodyPost_ret (v := .tuple #[.int .i64 0, .bool false]) (by simp [results, Tryz.results101, go_sem]) rfl
        ⟨0, false, p + 15, rfl, HREk.out, hfr, .inr ⟨rfl, rfl, HNX.out⟩⟩
theorem pNext_any {w : World} {hi r c p : Nat} {pa : Addr} {L : List Int} {A : Option Addr} {B : List UInt8} (hca : CA w hi pa L) (hR : rightB L = true) (hre : Re w r A c B p) (hr : hi ≤ r) (hB : B.length ≤ 1000000) :
    Calls Tryz.prog 101 #[.pointer (some pa), .pointer (some ⟨r, 0, none⟩)] w fun e w' => ∃ (s : Int) (is : Bool) (p' : Nat), e = .returned (.tuple #[.int .i64 s, .bool is]) ∧ Re w' r A c B p' ∧ Fr (fun k => k = r) w w' ∧ NextOk L ((bitsOf B).drop p) s is p p' :=
  pNextG_any hca hR hre (by omega) hB
end Go.Proofs.YtgpkiijmembggaaGreatDoor
namespace Go.Proofs.YtgpkiijmembggaaGreatDoor
open Go.RowKit CoM Mem Go.Lib
attribute [local go_sem ↓] Go.wp_at_zero Go.wp_at_succ
set_option linter.unusedVariables false

theorem itmSz : (Tryz.prog.info? 133).map (·.size) = some 3 := by kernel_rfl
theorem itm_one (a b c : Nat) : [Value.int .i64 (a : Int), .int .i64 (b : Int), .int .u64 (c : Int)].toArray.all (·.oneCell') = true := by simp [Value.oneCell']
def itv (t : It) : Value := .agg #[.int .i64 (t.s : Int), .int .i64 (t.b : Int), .int .u64 (t.x : Int)]
theorem spn_le {k a b c : Nat} (h : spn[k]? = some (a, b, c)) : a ≤ b ∧ b ≤ 138 ∧ c ≤ 7 ∧ 3 ≤ a ∧ b < a + 2 ^ c := by
  match k, h with
  | 0, h => simp [spn] at h; obtain ⟨rfl, rfl, rfl⟩ := h; decide
  | 1, h => simp [spn] at h; obtain ⟨rfl, rfl, rfl⟩ := h; decide
  | 2, h => simp [spn] at h; obtain ⟨rfl, rfl, rfl⟩ := h; decide
  | k + 3, h => simp [spn] at h
set_option maxRecDepth 100000 in
set_option maxHeartbeats 1600000 in
theorem repeat_any (s k a b c n m : Nat) (hk : s = 16 + k) (h : spn[k]? = some (a, b, c)) (hn : a ≤ n) (hn2 : n ≤ 1000000) (hm : m = min n b) (w : World) (hG : GlS w) :
    Calls Tryz.prog 91 #[.int .i64 (s : Int), .int .i64 (n : Int)] w fun e w' => e = .returned (.tuple #[itv ⟨s, c, m - a⟩, .int .i64 (m : Int)]) ∧ Fr (fun _ => False) w w' := by
  obtain ⟨b1, b2, b3, b4, b5⟩ := spn_le h
  obtain ⟨x, hx⟩ : ∃ x, x = m - a := ⟨_, rfl⟩
  have hxi : (m : Int) - (a : Int) = (x : Int) := by omega
  have hxw : IntKind.i64.wrap ((m : Int) - (a : Int)) = (x : Int) := by rw [IntKind.wrap_i64]; omega
  have hxu : IntKind.u64.wrap ((m : Int) - (a : Int)) = (x : Int) := by unfold IntKind.wrap; simp [IntKind.bits, IntKind.signed]; omega
  have q1 := run_min8 (n : Int) (b : Int) (m : Int) (by omega)
  have q2 := conv_u64 x (by omega)
  have hsp : ∀ w, GlS w → Calls Tryz.prog 90 #[.int .i64 (s : Int)] w fun e w' => e = .returned (.agg #[.int .i64 (a : Int), .int .i64 (b : Int), .int .i64 (c : Int)]) ∧ Fr (fun _ => False) w w' := fun w hG => spanOf_any s k a b c hk h w hG
  have HSP := Lib.hid hsp
  have hmb : m ≤ 138 := by omega
  have HG := Lib.hid hG
  unfold itv
  simp only
  rw [← hx]
  clear hsp hG h hk hm hx b1 b2 b3 b4 b5 hn
  go_enter Tryz.func91, Tryz.ntmps91
  go_upto_region 1 with fail
  obtain ⟨w1, hw1⟩ : ∃ w1, w1 = w.alloc (.cells #[Value.int .i64 0, .int .i64 0, .int .u64 0] 133) := ⟨_, rfl⟩
  have hr1 : Row w1 w.heap.size 133 [Value.int .i64 0, .int .i64 0, .int .u64 0] := by rw [hw1]; exact Row.new w _ _
  have hf1 : Fr (fun _ => False) w w1 := by rw [hw1]; exact (Fr.refl _ w).alloc _
  obtain ⟨r, hr⟩ : ∃ r, r = w.heap.size := ⟨_, rfl⟩
  rw [← hw1]
  rw [← hr] at hr1 ⊢
  have HF1 := Lib.hid hf1
  have HR1 := Lib.hid hr1
  have HRW : Hid (w.heap.size ≤ r) := Lib.hid (by omega)
  have HG1 := Lib.hid (HG.out.fr0 hf1)
  clear hw1 hf1 hr1 hr
  go_wp2_with (first
    | (refine (HSP.out w1 HG1.out).mono ?_
       rintro e w2 ⟨rfl, hf2⟩
       have HF2 := Lib.hid (HF1.out.trans hf2 (fun _ _ h => h))
       have HR2 := Lib.hid (HR1.out.fr hf2 (fun h => h))
       clear hf2)
    | (refine store_st itmSz rfl (.tmp 4) (.tmp 21) rfl r (by rfl) [.int .i64 (s : Int), .int .i64 (c : Int), .int .u64 (x : Int)] (by rfl) _ _ (HR2.out.alloc _) rfl rfl (itm_one s c x) ?_
       intro w4 hr4 hf4
       have HR4 := Lib.hid hr4
       have HF4 := Lib.hid ((HF2.out.alloc _).trans hf4 (fun b hb h => by have := HRW.out; omega))
       clear hr4 hf4))
  have d0 : w4.cell? ⟨r, 0, none⟩ = some (.int .i64 (s : Int)) := HR4.out.cell rfl
  have d1 : w4.cell? ⟨r, 1, none⟩ = some (.int .i64 (c : Int)) := HR4.out.cell rfl
  have d2 : w4.cell? ⟨r, 2, none⟩ = some (.int .u64 (x : Int)) := HR4.out.cell rfl
  go_wp2_with fail
  exact bodyPost_ret (v := .tuple #[.agg #[.int .i64 (s : Int), .int .i64 (c : Int), .int .u64 (x : Int)], .int .i64 (m : Int)]) (by simp [results, Tryz.results91, go_sem, d0, d1, d2]) rfl ⟨rfl, HF4.out⟩
end Go.Proofs.YtgpkiijmembggaaGreatDoor
namespace Go.Proofs.YtgpkiijmembggaaGreatDoor
open Go.RowKit CoM Mem Go.Lib
attribute [local go_sem ↓] Go.wp_at_zero Go.wp_at_succ
set_option linter.unusedVariables false

theorem run_fld1 (a b c : Int) (w : World) : (Instr.field 155 (.agg #[.int .i64 a, .int .i64 b, .int .i64 c]) 1).run Tryz.prog w = .ok (.int .i64 b) w := by
  unfold Instr.field
  go_simp
  rfl
theorem run_fld0 (a b c : Int) (w : World) : (Instr.field 155 (.agg #[.int .i64 a, .int .i64 b, .int .i64 c]) 0).run Tryz.prog w = .ok (.int .i64 a) w := by
  unfold Instr.field
  go_simp
  rfl
theorem span18 (w : World) (hG : GlS w) : Calls Tryz.prog 90 #[.int .i64 18] w fun e w' => e = .returned (.agg #[.int .i64 11, .int .i64 138, .int .i64 7]) ∧ Fr (fun _ => False) w w' := spanOf_any 18 2 11 138 7 rfl rfl w hG
theorem span17 (w : World) (hG : GlS w) : Calls Tryz.prog 90 #[.int .i64 17] w fun e w' => e = .returned (.agg #[.int .i64 3, .int .i64 10, .int .i64 3]) ∧ Fr (fun _ => False) w w' := spanOf_any 17 1 3 10 3 rfl rfl w hG
theorem span16 (w : World) (hG : GlS w) : Calls Tryz.prog 90 #[.int .i64 16] w fun e w' => e = .returned (.agg #[.int .i64 3, .int .i64 6, .int .i64 2]) ∧ Fr (fun _ => False) w w' := spanOf_any 16 0 3 6 2 rfl rfl w hG

/-- how often the first comes, at most so often as an item tells -/
theorem rn0_of (M : List Nat) (m : Nat) (h1 : m ≤ M.length) (h2 : ∀ j, j < m → M[j]! = M[0]!) (h3 : m = M.length ∨ M[m]! ≠ M[0]!) : rn M 0 = m :=
  rn_of M 0 m (by omega) (fun j hj => by rw [Nat.zero_add]; exact h2 j hj) (by rw [Nat.zero_add]; exact h3)

theorem while_ge (v : Nat) : ∀ (M : List Nat) (m : Nat), m ≤ M.length → (∀ j, j < m → M[j]! = v) → m ≤ (M.takeWhile (· == v)).length
  | [], m, h, _ => by simp at h; omega
  | x :: M, 0, _, _ => Nat.zero_le _
  | x :: M, m + 1, h, h1 => by
    have hx : x = v := h1 0 (by omega)
    rw [List.takeWhile_cons, if_pos (by simpa using hx), List.length_cons]
    have := while_ge v M m (by simpa using h) (fun j hj => h1 (j + 1) (by omega))
    omega
theorem rn0_ge (M : List Nat) (m : Nat) (h1 : m ≤ M.length) (h2 : ∀ j, j < m → M[j]! = M[0]!) : m ≤ rn M 0 := while_ge _ _ m h1 h2
set_option maxRecDepth 100000 in
set_option maxHeartbeats 3200000 in
theorem same_any (A : Option Addr) (n c : Nat) (M : List Nat) (w : World) (hG : GlS w) (hr : Rd w A n (M.map natc)) (hn : 1 ≤ n) (hn2 : n ≤ 1000) :
    Calls Tryz.prog 89 #[.slice A n c] w fun e w' => e = .returned (.int .i64 (min (rn M 0) 138 : Nat)) ∧ Fr (fun _ => False) w w' := by
  have hln : M.length = n := by simpa using hr.1
  have HRD := Lib.hid hr
  have HLN := Lib.hid hln
  have HG := Lib.hid hG
  obtain ⟨m, hm⟩ : ∃ m, m = min n 138 := ⟨_, rfl⟩
  have q1 := run_min8 (n : Int) 138 (m : Int) (by omega)
  have q2 := run_fld1
  have hmn : m ≤ n := by omega
  have hm1 : 1 ≤ m := by omega
  have HM := Lib.hid hm
  have HS : Hid (∀ w, GlS w → Calls Tryz.prog 90 #[.int .i64 18] w fun e w' => e = .returned (.agg #[.int .i64 11, .int .i64 138, .int .i64 7]) ∧ Fr (fun _ => False) w w') := Lib.hid span18
  obtain ⟨ad, rfl, c0⟩ := nat_cell hr (k := 0) (by omega)
  obtain ⟨R, hR⟩ : ∃ R, R = min (rn M 0) 138 := ⟨_, rfl⟩
  rw [← hR]
  have HRR := Lib.hid hR
  have hn0 : (0 : Int) < (n : Int) := by omega
  have hn0q : 0 < n := by omega
  clear hr hln hG hm c0 hR
  go_enter Tryz.func89, Tryz.ntmps89
  go_wp2_with (refine (HS.out w HG.out).mono ?_; rintro e w2 ⟨rfl, hf2⟩)
  have HF2 := Lib.hid hf2
  clear hf2
  go_loopw [4] (fun i wr => ∃ k : Nat, 1 ≤ k ∧ k ≤ m ∧ i = .int .i64 (k : Int) ∧ Hid (∀ j, j < k → M[j]! = M[0]!) ∧ Hid (Fr (fun _ => False) w wr)) (fun i _ => n - (intOf i).toNat)
  case atStart => exact ⟨1, by omega, by omega, rfl, fun j hj => by rw [show j = 0 by omega], HF2.out⟩
  case round =>
    obtain ⟨k, hk1, hk, rfl, HE, HF⟩ := hrel
    rename World => wr
    by_cases hlt : k < m
    · have hrd := HRD.out.fr HF.out (fun _ _ h => h)
      obtain ⟨ad1, e1, ck⟩ := nat_cell hrd (k := k) (by omega)
      obtain ⟨ad2, e2, c0⟩ := nat_cell hrd (k := 0) (by omega)
      injection e1 with e1
      injection e2 with e2
      subst e1
      subst e2
      obtain ⟨a, ha⟩ : ∃ a, a = M[k]! := ⟨_, rfl⟩
      obtain ⟨b, hb⟩ : ∃ a, a = M[0]! := ⟨_, rfl⟩
      rw [← ha] at ck
      rw [← hb] at c0
      have HAB := Lib.hid (And.intro ha hb)
      rw [show ad.add 0 = ad from rfl] at c0
      have hkn : k < n := by omega
      clear hrd ha hb
      by_cases hv : a = b
      · have tv : ((a : Int) != (b : Int)) = false := by simp [hv]
        have hs2 : ∀ j, j < k + 1 → M[j]! = M[0]! := by
          intro j hj
          by_cases e : j = k
          · rw [e, ← HAB.out.1, ← HAB.out.2]; exact hv
          · exact HE.out j (by omega)
        have HS2 := Lib.hid hs2
        clear hs2 hv
        go_wp2_with fail
        go_still (by kernel_rfl)
        go_wp2_with fail
        exact ⟨⟨k + 1, by omega, by omega, by go_num, HS2.out, HF.out.drew⟩, by simp [intOf]; omega⟩
      · have tv : ((a : Int) != (b : Int)) = true := by simp; omega
        have hl : rn M 0 = k := rn0_of M k (by rw [HLN.out]; omega) HE.out (.inr (by rw [← HAB.out.1, ← HAB.out.2]; exact hv))
        have hres : R = k := by have h := HRR.out; rw [hl] at h; have := HM.out; omega
        have HRES := Lib.hid hres
        clear hl hres hv
        go_wp2_with fail
        go_still (by kernel_rfl)
        go_wp2_with fail
        go_ret
        have hrr := HRES.out
        subst hrr
        exact ⟨rfl, HF.out.drew⟩
    · have hkm : k = m := by omega
      have hres : R = m := by
        rw [HRR.out]
        rcases Nat.lt_or_ge m n with h | h
        · have h138 : m = 138 := by have := HM.out; omega
          have hge : 138 ≤ rn M 0 := rn0_ge M 138 (by rw [HLN.out]; omega) (fun j hj => HE.out j (by omega))
          omega
        · have h1 : m = n := by omega
          have := rn0_of M m (by rw [HLN.out]; omega) (fun j hj => HE.out j (by omega)) (.inl (by rw [HLN.out]; exact h1))
          have := HM.out
          omega
      have HRES := Lib.hid hres
      clear hres
      go_wp2_with fail
      go_ret
      have hrr := HRES.out
      subst hrr
      exact ⟨rfl, HF.out⟩
end Go.Proofs.YtgpkiijmembggaaGreatDoor
namespace Go.Proofs.YtgpkiijmembggaaGreatDoor
open Go.RowKit CoM Mem Go.Lib
attribute [local go_sem ↓] Go.wp_at_zero Go.wp_at_succ
set_option linter.unusedVariables false

theorem rn_drop (L : List Nat) (i : Nat) (h : i < L.length) : rn (L.drop i) 0 = rn L i := by
  unfold rn
  rw [List.drop_zero, getElem!_pos (L.drop i) 0 (by rw [List.length_drop]; omega), getElem!_pos L i h, List.getElem_drop]
  rfl

set_option maxRecDepth 100000 in
set_option maxHeartbeats 6400000 in
theorem choose_any (A : Option Addr) (n c i : Nat) (L : List Nat) (w : World) (hG : GlS w) (hr : Rd w A n (L.map natc)) (hi : i < n) (hc : n ≤ c) (hn : n ≤ 1000) (hL : ∀ x ∈ L, x ≤ 1000000) :
    Calls Tryz.prog 77 #[.slice A n c, .int .i64 (i : Int)] w fun e w' => e = .returned (.tuple #[itv (itemAt L i).1, .int .i64 ((itemAt L i).2 : Nat)]) ∧ Fr (fun _ => False) w w' := by
  have hln : L.length = n := by simpa using hr.1
  obtain ⟨ad, rfl, cv⟩ := nat_cell hr hi
  obtain ⟨v, hv⟩ : ∃ v, v = L[i]! := ⟨_, rfl⟩
  obtain ⟨q, hq⟩ : ∃ q, q = rn L i := ⟨_, rfl⟩
  obtain ⟨m, hm⟩ : ∃ m, m = min q 138 := ⟨_, rfl⟩
  have hvb : v ≤ 1000000 := by rw [hv, getElem!_pos L i (by omega)]; exact hL _ (List.getElem_mem _)
  rw [← hv] at cv
  have hm1 : 1 ≤ m := by have := rn_pos L i (by omega); omega
  have hm138 : m ≤ 138 := by omega
  obtain ⟨A2, hA2⟩ : ∃ A2, A2 = cutAt (some ad) c i := ⟨_, rfl⟩
  obtain ⟨n2, hn2⟩ : ∃ n2, n2 = n - i := ⟨_, rfl⟩
  obtain ⟨c2, hc2⟩ : ∃ c2, c2 = c - i := ⟨_, rfl⟩
  have hsl := run_fromI (some ad) n c i (by omega) (i : Int) rfl
  rw [← hA2, ← hn2, ← hc2] at hsl
  have hsm : ∀ w', Fr (fun _ => False) w w' → Calls Tryz.prog 89 #[.slice A2 n2 c2] w' fun e w'' => e = .returned (.int .i64 (m : Int)) ∧ Fr (fun _ => False) w' w'' := by
    intro w' hf
    have h := same_any A2 n2 c2 (L.drop i) w' (hG.fr0 hf) (by
      have h1 := rd_from (hr.fr hf (fun _ _ h => h)) (f := i) (by omega) hc
      rw [← List.map_drop, ← hA2, ← hn2] at h1
      exact h1) (by omega) (by omega)
    rw [rn_drop L i (by omega), ← hq, ← hm] at h
    exact h
  have HSM := Lib.hid hsm
  obtain ⟨t, z, htz⟩ : ∃ t z, itemAt L i = (t, z) := ⟨_, _, rfl⟩
  rw [htz]
  have hit := htz
  unfold itemAt at hit
  rw [← hv, ← hq] at hit
  have hprev : 0 < i → ∃ i1 u, i1 = i - 1 ∧ u = L[i - 1]! ∧ w.cell? (ad.add (i - 1)) = some (.int .i64 (u : Int)) := fun h => by
    obtain ⟨ad2, h1, h2⟩ := nat_cell hr (k := i - 1) (by omega)
    injection h1 with h1
    subst h1
    exact ⟨i - 1, _, rfl, rfl, h2⟩
  have HS18 := Lib.hid span18
  have HS17 := Lib.hid span17
  have HS16 := Lib.hid span16
  have q0 := run_fld0
  have HG := Lib.hid hG
  have HLN := Lib.hid hln
  have HQ := Lib.hid (And.intro hq hm)
  have HV := Lib.hid hv
  have HIT := Lib.hid hit
  have HPV := Lib.hid hprev
  have HIN := Lib.hid hi
  have hiI : (i : Int) < (n : Int) := by omega
  have hi0 : (i : Int) ≤ (n : Int) := by omega
  clear hr hln hq hv hA2 hn2 hc2 hsm htz hit hprev hG hL hc
  clear hm
  go_enter Tryz.func77, Tryz.ntmps77
  go_upto_region 1 with fail
  obtain ⟨w1, hw1⟩ : ∃ w1, w1 = w.alloc (.cells #[Value.int .i64 0, .int .i64 0, .int .u64 0] 133) := ⟨_, rfl⟩
  have hr1 : Row w1 w.heap.size 133 [Value.int .i64 0, .int .i64 0, .int .u64 0] := by rw [hw1]; exact Row.new w _ _
  have hf1 : Fr (fun _ => False) w w1 := by rw [hw1]; exact (Fr.refl _ w).alloc _
  obtain ⟨r, hr⟩ : ∃ r, r = w.heap.size := ⟨_, rfl⟩
  rw [← hw1]
  rw [← hr] at hr1 ⊢
  have cv1 : w1.cell? (ad.add i) = some (.int .i64 (v : Int)) := hf1.cell cv (fun h => h)
  have HF1 := Lib.hid hf1
  have HR1 := Lib.hid hr1
  have HRW : Hid (w.heap.size ≤ r) := Lib.hid (by omega)
  clear hw1 hf1 hr1 hr cv
  go_region_held3 (fun w' => w'.cell? (ad.add i) = some (.int .i64 (v : Int)))
    (first
      | go_keep
      | exact hk2)
    (first
      | (go_at_call 89
         refine (HSM.out w1.drew HF1.out.drew).mono ?_
         rintro e w2 ⟨rfl, hf2⟩
         have hk2 : w2.cell? (ad.add i) = some (.int .i64 (v : Int)) := hf2.cell (w := w1.drew) cv1 (fun h => h)
         have HF2 := Lib.hid (HF1.out.drew.trans hf2 (fun _ _ h => h))
         have HR2 := Lib.hid (HR1.out.drew.fr hf2 (fun h => h))
         clear hf2))
  clear cv1 hsl
  by_cases hv0 : v = 0
  · have tz : ((v : Int) == 0) = true := by simp [hv0]
    have HV0 := Lib.hid hv0
    by_cases h18 : 11 ≤ m
    · clear hv0
      have aa : decide ((m : Int) ≥ 11) = true := by simp; omega
      have ab : decide (11 ≤ (m : Int)) = true := by simp; omega
      have ac : decide (11 ≤ m) = true := by simp; omega
      go_wp2_with fail
      refine (HS18.out w2 (HG.out.fr0 HF2.out)).mono ?_
      rintro e w3 ⟨rfl, hf3⟩
      have HF3 := Lib.hid (HF2.out.trans hf3 (fun _ _ h => h))
      have HR3 := Lib.hid (HR2.out.fr hf3 (fun h => h))
      clear hf3
      obtain ⟨y, hy⟩ : ∃ y, y = min m 138 := ⟨_, rfl⟩
      obtain ⟨x, hx⟩ : ∃ x, x = y - 11 := ⟨_, rfl⟩
      have HTT : Hid (t = ⟨18, 7, x⟩ ∧ z = y) := Lib.hid (by
        have h1 := HIT.out
        have h2 := HQ.out.2
        rw [if_pos ⟨HV0.out, by omega⟩] at h1
        injection h1 with h1 h3
        refine ⟨?_, ?_⟩
        · rw [← h1]
          congr 1
          omega
        · omega)
      have HRP : Hid (∀ w, GlS w → Calls Tryz.prog 91 #[.int .i64 18, .int .i64 (m : Int)] w fun e w' => e = .returned (.tuple #[.agg #[.int .i64 18, .int .i64 7, .int .u64 (x : Int)], .int .i64 (y : Int)]) ∧ Fr (fun _ => False) w w') := Lib.hid (fun w hG => by
        have h := repeat_any 18 2 11 138 7 m y rfl rfl (by omega) (by omega) hy w hG
        rw [← hx] at h
        exact h)
      clear hx hy
      go_wp2_with (first
        | (refine (HRP.out w3 (HG.out.fr0 HF3.out)).mono ?_
           rintro e w4 ⟨rfl, hf4⟩
           have HF4 := Lib.hid (HF3.out.trans hf4 (fun _ _ h => h))
           have HR4 := Lib.hid (HR3.out.fr hf4 (fun h => h))
           clear hf4)
        | (refine store_st itmSz rfl (.tmp 4) (.tmp 29) rfl r (by rfl) [.int .i64 18, .int .i64 7, .int .u64 (x : Int)] (by rfl) _ _ HR4.out rfl rfl (itm_one 18 7 x) ?_
           intro w5 hr5 hf5
           have HR5 := Lib.hid hr5
           have HF5 := Lib.hid (HF4.out.trans hf5 (fun b hb h => by have := HRW.out; omega))
           clear hr5 hf5))
      have d0 : w5.cell? ⟨r, 0, none⟩ = some (.int .i64 ((18 : Nat) : Int)) := HR5.out.cell rfl
      have d1 : w5.cell? ⟨r, 1, none⟩ = some (.int .i64 ((7 : Nat) : Int)) := HR5.out.cell rfl
      have d2 : w5.cell? ⟨r, 2, none⟩ = some (.int .u64 (x : Int)) := HR5.out.cell rfl
      go_wp2_with fail
      exact bodyPost_ret (v := .tuple #[.agg #[.int .i64 ((18 : Nat) : Int), .int .i64 ((7 : Nat) : Int), .int .u64 (x : Int)], .int .i64 (y : Int)]) (by simp [results, Tryz.results77, go_sem, d0, d1, d2]) rfl ⟨by rw [HTT.out.1, HTT.out.2]; rfl, HF5.out⟩
    · by_cases h17 : 3 ≤ m
      · clear hv0
        have aa : decide ((m : Int) ≥ 11) = false := by simp; omega
        have ab : decide (11 ≤ (m : Int)) = false := by simp; omega
        have ac : decide (11 ≤ m) = false := by simp; omega
        have ba : decide ((m : Int) ≥ 3) = true := by simp; omega
        have bb : decide (3 ≤ (m : Int)) = true := by simp; omega
        have bc : decide (3 ≤ m) = true := by simp; omega
        go_wp2_with fail
        refine (HS18.out w2 (HG.out.fr0 HF2.out)).mono ?_
        rintro e w3 ⟨rfl, hf3⟩
        have HF3 := Lib.hid (HF2.out.trans hf3 (fun _ _ h => h))
        have HR3 := Lib.hid (HR2.out.fr hf3 (fun h => h))
        clear hf3
        go_wp2_with fail
        refine (HS17.out w3 (HG.out.fr0 HF3.out)).mono ?_
        rintro e w4 ⟨rfl, hf4⟩
        have HF4 := Lib.hid (HF3.out.trans hf4 (fun _ _ h => h))
        have HR4 := Lib.hid (HR3.out.fr hf4 (fun h => h))
        clear hf4
        obtain ⟨y, hy⟩ : ∃ y, y = min m 10 := ⟨_, rfl⟩
        obtain ⟨x, hx⟩ : ∃ x, x = y - 3 := ⟨_, rfl⟩
        have HTT : Hid (t = ⟨17, 3, x⟩ ∧ z = y) := Lib.hid (by
          have h1 := HIT.out
          have h2 := HQ.out.2
          rw [if_neg (fun h => by omega), if_pos ⟨HV0.out, by omega⟩] at h1
          injection h1 with h1 h3
          refine ⟨?_, ?_⟩
          · rw [← h1]
            congr 1
            omega
          · omega)
        have HRP : Hid (∀ w, GlS w → Calls Tryz.prog 91 #[.int .i64 17, .int .i64 (m : Int)] w fun e w' => e = .returned (.tuple #[.agg #[.int .i64 17, .int .i64 3, .int .u64 (x : Int)], .int .i64 (y : Int)]) ∧ Fr (fun _ => False) w w') := Lib.hid (fun w hG => by
          have h := repeat_any 17 1 3 10 3 m y rfl rfl (by omega) (by omega) hy w hG
          rw [← hx] at h
          exact h)
        clear hx hy
        go_wp2_with (first
          | (refine (HRP.out w4 (HG.out.fr0 HF4.out)).mono ?_
             rintro e w5 ⟨rfl, hf5⟩
             have HF5 := Lib.hid (HF4.out.trans hf5 (fun _ _ h => h))
             have HR5 := Lib.hid (HR4.out.fr hf5 (fun h => h))
             clear hf5)
          | (refine store_st itmSz rfl (.tmp 4) (.tmp 42) rfl r (by rfl) [.int .i64 17, .int .i64 3, .int .u64 (x : Int)] (by rfl) _ _ HR5.out rfl rfl (itm_one 17 3 x) ?_
             intro w6 hr6 hf6
             have HR6 := Lib.hid hr6
             have HF6 := Lib.hid (HF5.out.trans hf6 (fun b hb h => by have := HRW.out; omega))
             clear hr6 hf6))
        have d0 : w6.cell? ⟨r, 0, none⟩ = some (.int .i64 ((17 : Nat) : Int)) := HR6.out.cell rfl
        have d1 : w6.cell? ⟨r, 1, none⟩ = some (.int .i64 ((3 : Nat) : Int)) := HR6.out.cell rfl
        have d2 : w6.cell? ⟨r, 2, none⟩ = some (.int .u64 (x : Int)) := HR6.out.cell rfl
        go_wp2_with fail
        exact bodyPost_ret (v := .tuple #[.agg #[.int .i64 ((17 : Nat) : Int), .int .i64 ((3 : Nat) : Int), .int .u64 (x : Int)], .int .i64 (y : Int)]) (by simp [results, Tryz.results77, go_sem, d0, d1, d2]) rfl ⟨by rw [HTT.out.1, HTT.out.2]; rfl, HF6.out⟩
      · clear hv0
        have aa : decide ((m : Int) ≥ 11) = false := by simp; omega
        have ab : decide (11 ≤ (m : Int)) = false := by simp; omega
        have ac : decide (11 ≤ m) = false := by simp; omega
        have ba : decide ((m : Int) ≥ 3) = false := by simp; omega
        have bb : decide (3 ≤ (m : Int)) = false := by simp; omega
        have bc : decide (3 ≤ m) = false := by simp; omega
        go_wp2_with fail
        refine (HS18.out w2 (HG.out.fr0 HF2.out)).mono ?_
        rintro e w3 ⟨rfl, hf3⟩
        have HF3 := Lib.hid (HF2.out.trans hf3 (fun _ _ h => h))
        have HR3 := Lib.hid (HR2.out.fr hf3 (fun h => h))
        clear hf3
        go_wp2_with fail
        refine (HS17.out w3 (HG.out.fr0 HF3.out)).mono ?_
        rintro e w4 ⟨rfl, hf4⟩
        have HF4 := Lib.hid (HF3.out.trans hf4 (fun _ _ h => h))
        have HR4 := Lib.hid (HR3.out.fr hf4 (fun h => h))
        clear hf4
        by_cases hi1 : 0 < i
        · obtain ⟨i1, u, hi1e, hu, cp⟩ := HPV.out hi1
          have HU := Lib.hid hu
          have cp4 : w4.cell? (ad.add (i - 1)) = some (.int .i64 (u : Int)) := HF4.out.cell cp (fun h => h)
          have cq4 : w4.cell? (ad.add i1) = some (.int .i64 (u : Int)) := by rw [hi1e]; exact cp4
          have hi1n : (i1 : Int) < (n : Int) := by omega
          have hi1i : (i : Int) - 1 = (i1 : Int) := by omega
          have hi1w : IntKind.i64.wrap ((i : Int) - 1) = (i1 : Int) := by rw [IntKind.wrap_i64]; omega
          have t3a : decide ((i : Int) > 0) = true := by simp; omega
          have t3b : decide (0 < (i : Int)) = true := by simp; omega
          have t3c : decide (0 < i) = true := by simp; omega
          clear hu cp hi1e
          by_cases hvu : v = u
          · have t4 : ((v : Int) == (u : Int)) = true := by simp [hvu]
            have HVU := Lib.hid hvu
            clear hvu
            have pa : decide ((m : Int) ≥ 3) = false := by simp; omega
            have pb : decide (3 ≤ (m : Int)) = false := by simp; omega
            have pc : decide (3 ≤ m) = false := by simp; omega
            go_wp2_with fail
            refine (HS16.out w4 (HG.out.fr0 HF4.out)).mono ?_
            rintro e w5 ⟨rfl, hf5⟩
            have HF5 := Lib.hid (HF4.out.trans hf5 (fun _ _ h => h))
            have HR5 := Lib.hid (HR4.out.fr hf5 (fun h => h))
            clear hf5
            have HTT : Hid (t = ⟨v, 0, 0⟩ ∧ z = 1) := Lib.hid (by
              have h1 := HIT.out
              have h2 := HQ.out.2
              rw [if_neg (fun h => by omega), if_neg (fun h => by omega), if_neg (fun h => by omega)] at h1
              injection h1 with h1 h3
              exact ⟨h1.symm, h3.symm⟩)
            go_wp2_with (refine store_st itmSz rfl (.tmp 4) (.tmp 17) rfl r (by rfl) [.int .i64 (v : Int), .int .i64 0, .int .u64 0] (by rfl) _ _ HR5.out rfl rfl (itm_one v 0 0) ?_
                         intro w6 hr6 hf6
                         have HR6 := Lib.hid hr6
                         have HF6 := Lib.hid (HF5.out.trans hf6 (fun b hb h => by have := HRW.out; omega))
                         clear hr6 hf6)
            have d0 : w6.cell? ⟨r, 0, none⟩ = some (.int .i64 (v : Int)) := HR6.out.cell rfl
            have d1 : w6.cell? ⟨r, 1, none⟩ = some (.int .i64 ((0 : Nat) : Int)) := HR6.out.cell rfl
            have d2 : w6.cell? ⟨r, 2, none⟩ = some (.int .u64 ((0 : Nat) : Int)) := HR6.out.cell rfl
            go_wp2_with fail
            exact bodyPost_ret (v := .tuple #[.agg #[.int .i64 (v : Int), .int .i64 ((0 : Nat) : Int), .int .u64 ((0 : Nat) : Int)], .int .i64 ((1 : Nat) : Int)]) (by simp [results, Tryz.results77, go_sem, d0, d1, d2]) rfl ⟨by rw [HTT.out.1, HTT.out.2]; rfl, HF6.out⟩
          · have t4 : ((v : Int) == (u : Int)) = false := by simp; omega
            have HTT : Hid (t = ⟨v, 0, 0⟩ ∧ z = 1) := Lib.hid (by
              have h1 := HIT.out
              have h2 := HQ.out.2
              rw [if_neg (fun h => by omega), if_neg (fun h => by omega), if_neg (fun h => by have := HU.out; omega)] at h1
              injection h1 with h1 h3
              exact ⟨h1.symm, h3.symm⟩)
            go_wp2_with (refine store_st itmSz rfl (.tmp 4) (.tmp 17) rfl r (by rfl) [.int .i64 (v : Int), .int .i64 0, .int .u64 0] (by rfl) _ _ HR4.out rfl rfl (itm_one v 0 0) ?_
                         intro w5 hr5 hf5
                         have HR5 := Lib.hid hr5
                         have HF5 := Lib.hid (HF4.out.trans hf5 (fun b hb h => by have := HRW.out; omega))
                         clear hr5 hf5)
            have d0 : w5.cell? ⟨r, 0, none⟩ = some (.int .i64 (v : Int)) := HR5.out.cell rfl
            have d1 : w5.cell? ⟨r, 1, none⟩ = some (.int .i64 ((0 : Nat) : Int)) := HR5.out.cell rfl
            have d2 : w5.cell? ⟨r, 2, none⟩ = some (.int .u64 ((0 : Nat) : Int)) := HR5.out.cell rfl
            go_wp2_with fail
            exact bodyPost_ret (v := .tuple #[.agg #[.int .i64 (v : Int), .int .i64 ((0 : Nat) : Int), .int .u64 ((0 : Nat) : Int)], .int .i64 ((1 : Nat) : Int)]) (by simp [results, Tryz.results77, go_sem, d0, d1, d2]) rfl ⟨by rw [HTT.out.1, HTT.out.2]; rfl, HF5.out⟩
        · have t3a : decide ((i : Int) > 0) = false := by simp; omega
          have t3b : decide (0 < (i : Int)) = false := by simp; omega
          have t3c : decide (0 < i) = false := by simp; omega
          have HTT : Hid (t = ⟨v, 0, 0⟩ ∧ z = 1) := Lib.hid (by
            have h1 := HIT.out
            have h2 := HQ.out.2
            rw [if_neg (fun h => by omega), if_neg (fun h => by omega), if_neg (fun h => by omega)] at h1
            injection h1 with h1 h3
            exact ⟨h1.symm, h3.symm⟩)
          go_wp2_with (refine store_st itmSz rfl (.tmp 4) (.tmp 17) rfl r (by rfl) [.int .i64 (v : Int), .int .i64 0, .int .u64 0] (by rfl) _ _ HR4.out rfl rfl (itm_one v 0 0) ?_
                       intro w5 hr5 hf5
                       have HR5 := Lib.hid hr5
                       have HF5 := Lib.hid (HF4.out.trans hf5 (fun b hb h => by have := HRW.out; omega))
                       clear hr5 hf5)
          have d0 : w5.cell? ⟨r, 0, none⟩ = some (.int .i64 (v : Int)) := HR5.out.cell rfl
          have d1 : w5.cell? ⟨r, 1, none⟩ = some (.int .i64 ((0 : Nat) : Int)) := HR5.out.cell rfl
          have d2 : w5.cell? ⟨r, 2, none⟩ = some (.int .u64 ((0 : Nat) : Int)) := HR5.out.cell rfl
          go_wp2_with fail
          exact bodyPost_ret (v := .tuple #[.agg #[.int .i64 (v : Int), .int .i64 ((0 : Nat) : Int), .int .u64 ((0 : Nat) : Int)], .int .i64 ((1 : Nat) : Int)]) (by simp [results, Tryz.results77, go_sem, d0, d1, d2]) rfl ⟨by rw [HTT.out.1, HTT.out.2]; rfl, HF5.out⟩
  · have tz : ((v : Int) == 0) = false := by simp; omega
    have HV0 := Lib.hid hv0
    by_cases hi1 : 0 < i
    · obtain ⟨i1, u, hi1e, hu, cp⟩ := HPV.out hi1
      have HU := Lib.hid hu
      have cp2 : w2.cell? (ad.add (i - 1)) = some (.int .i64 (u : Int)) := HF2.out.cell cp (fun h => h)
      have cq2 : w2.cell? (ad.add i1) = some (.int .i64 (u : Int)) := by rw [hi1e]; exact cp2
      have hi1n : (i1 : Int) < (n : Int) := by omega
      have hi1i : (i : Int) - 1 = (i1 : Int) := by omega
      have hi1w : IntKind.i64.wrap ((i : Int) - 1) = (i1 : Int) := by rw [IntKind.wrap_i64]; omega
      have t3a : decide ((i : Int) > 0) = true := by simp; omega
      have t3b : decide (0 < (i : Int)) = true := by simp; omega
      have t3c : decide (0 < i) = true := by simp; omega
      clear hu cp hi1e
      by_cases hvu : v = u
      · have t4 : ((v : Int) == (u : Int)) = true := by simp [hvu]
        by_cases h16 : 3 ≤ m
        · have HVU := Lib.hid hvu
          clear hvu
          have pa : decide ((m : Int) ≥ 3) = true := by simp; omega
          have pb : decide (3 ≤ (m : Int)) = true := by simp; omega
          have pc : decide (3 ≤ m) = true := by simp; omega
          go_wp2_with fail
          refine (HS16.out w2 (HG.out.fr0 HF2.out)).mono ?_
          rintro e w3 ⟨rfl, hf3⟩
          have HF3 := Lib.hid (HF2.out.trans hf3 (fun _ _ h => h))
          have HR3 := Lib.hid (HR2.out.fr hf3 (fun h => h))
          clear hf3
          obtain ⟨y, hy⟩ : ∃ y, y = min m 6 := ⟨_, rfl⟩
          obtain ⟨x, hx⟩ : ∃ x, x = y - 3 := ⟨_, rfl⟩
          have HTT : Hid (t = ⟨16, 2, x⟩ ∧ z = y) := Lib.hid (by
            have h1 := HIT.out
            have h2 := HQ.out.2
            rw [if_neg (fun h => hv0 h.1), if_neg (fun h => hv0 h.1), if_pos ⟨by omega, hi1, by rw [← HU.out]; exact HVU.out, by omega⟩] at h1
            injection h1 with h1 h3
            refine ⟨?_, ?_⟩
            · rw [← h1]
              congr 1
              omega
            · omega)
          have HRP : Hid (∀ w, GlS w → Calls Tryz.prog 91 #[.int .i64 16, .int .i64 (m : Int)] w fun e w' => e = .returned (.tuple #[.agg #[.int .i64 16, .int .i64 2, .int .u64 (x : Int)], .int .i64 (y : Int)]) ∧ Fr (fun _ => False) w w') := Lib.hid (fun w hG => by
            have h := repeat_any 16 0 3 6 2 m y rfl rfl (by omega) (by omega) hy w hG
            rw [← hx] at h
            exact h)
          clear hx hy
          go_wp2_with (first
            | (refine (HRP.out w3 (HG.out.fr0 HF3.out)).mono ?_
               rintro e w4 ⟨rfl, hf4⟩
               have HF4 := Lib.hid (HF3.out.trans hf4 (fun _ _ h => h))
               have HR4 := Lib.hid (HR3.out.fr hf4 (fun h => h))
               clear hf4)
            | (refine store_st itmSz rfl (.tmp 4) (.tmp 64) rfl r (by rfl) [.int .i64 16, .int .i64 2, .int .u64 (x : Int)] (by rfl) _ _ HR4.out rfl rfl (itm_one 16 2 x) ?_
               intro w5 hr5 hf5
               have HR5 := Lib.hid hr5
               have HF5 := Lib.hid (HF4.out.trans hf5 (fun b hb h => by have := HRW.out; omega))
               clear hr5 hf5))
          have d0 : w5.cell? ⟨r, 0, none⟩ = some (.int .i64 ((16 : Nat) : Int)) := HR5.out.cell rfl
          have d1 : w5.cell? ⟨r, 1, none⟩ = some (.int .i64 ((2 : Nat) : Int)) := HR5.out.cell rfl
          have d2 : w5.cell? ⟨r, 2, none⟩ = some (.int .u64 (x : Int)) := HR5.out.cell rfl
          go_wp2_with fail
          exact bodyPost_ret (v := .tuple #[.agg #[.int .i64 ((16 : Nat) : Int), .int .i64 ((2 : Nat) : Int), .int .u64 (x : Int)], .int .i64 (y : Int)]) (by simp [results, Tryz.results77, go_sem, d0, d1, d2]) rfl ⟨by rw [HTT.out.1, HTT.out.2]; rfl, HF5.out⟩
        · have HVU := Lib.hid hvu
          clear hvu
          have pa : decide ((m : Int) ≥ 3) = false := by simp; omega
          have pb : decide (3 ≤ (m : Int)) = false := by simp; omega
          have pc : decide (3 ≤ m) = false := by simp; omega
          go_wp2_with fail
          refine (HS16.out w2 (HG.out.fr0 HF2.out)).mono ?_
          rintro e w3 ⟨rfl, hf3⟩
          have HF3 := Lib.hid (HF2.out.trans hf3 (fun _ _ h => h))
          have HR3 := Lib.hid (HR2.out.fr hf3 (fun h => h))
          clear hf3
          have HTT : Hid (t = ⟨v, 0, 0⟩ ∧ z = 1) := Lib.hid (by
            have h1 := HIT.out
            have h2 := HQ.out.2
            rw [if_neg (fun h => hv0 h.1), if_neg (fun h => hv0 h.1), if_neg (fun h => by omega)] at h1
            injection h1 with h1 h3
            exact ⟨h1.symm, h3.symm⟩)
          go_wp2_with (refine store_st itmSz rfl (.tmp 4) (.tmp 17) rfl r (by rfl) [.int .i64 (v : Int), .int .i64 0, .int .u64 0] (by rfl) _ _ HR3.out rfl rfl (itm_one v 0 0) ?_
                       intro w4 hr4 hf4
                       have HR4 := Lib.hid hr4
                       have HF4 := Lib.hid (HF3.out.trans hf4 (fun b hb h => by have := HRW.out; omega))
                       clear hr4 hf4)
          have d0 : w4.cell? ⟨r, 0, none⟩ = some (.int .i64 (v : Int)) := HR4.out.cell rfl
          have d1 : w4.cell? ⟨r, 1, none⟩ = some (.int .i64 ((0 : Nat) : Int)) := HR4.out.cell rfl
          have d2 : w4.cell? ⟨r, 2, none⟩ = some (.int .u64 ((0 : Nat) : Int)) := HR4.out.cell rfl
          go_wp2_with fail
          exact bodyPost_ret (v := .tuple #[.agg #[.int .i64 (v : Int), .int .i64 ((0 : Nat) : Int), .int .u64 ((0 : Nat) : Int)], .int .i64 ((1 : Nat) : Int)]) (by simp [results, Tryz.results77, go_sem, d0, d1, d2]) rfl ⟨by rw [HTT.out.1, HTT.out.2]; rfl, HF4.out⟩
      · have t4 : ((v : Int) == (u : Int)) = false := by simp; omega
        have HTT : Hid (t = ⟨v, 0, 0⟩ ∧ z = 1) := Lib.hid (by
          have h1 := HIT.out
          have h2 := HQ.out.2
          rw [if_neg (fun h => hv0 h.1), if_neg (fun h => hv0 h.1), if_neg (fun h => by have := HU.out; omega)] at h1
          injection h1 with h1 h3
          exact ⟨h1.symm, h3.symm⟩)
        go_wp2_with (refine store_st itmSz rfl (.tmp 4) (.tmp 17) rfl r (by rfl) [.int .i64 (v : Int), .int .i64 0, .int .u64 0] (by rfl) _ _ HR2.out rfl rfl (itm_one v 0 0) ?_
                     intro w3 hr3 hf3
                     have HR3 := Lib.hid hr3
                     have HF3 := Lib.hid (HF2.out.trans hf3 (fun b hb h => by have := HRW.out; omega))
                     clear hr3 hf3)
        have d0 : w3.cell? ⟨r, 0, none⟩ = some (.int .i64 (v : Int)) := HR3.out.cell rfl
        have d1 : w3.cell? ⟨r, 1, none⟩ = some (.int .i64 ((0 : Nat) : Int)) := HR3.out.cell rfl
        have d2 : w3.cell? ⟨r, 2, none⟩ = some (.int .u64 ((0 : Nat) : Int)) := HR3.out.cell rfl
        go_wp2_with fail
        exact bodyPost_ret (v := .tuple #[.agg #[.int .i64 (v : Int), .int .i64 ((0 : Nat) : Int), .int .u64 ((0 : Nat) : Int)], .int .i64 ((1 : Nat) : Int)]) (by simp [results, Tryz.results77, go_sem, d0, d1, d2]) rfl ⟨by rw [HTT.out.1, HTT.out.2]; rfl, HF3.out⟩
    · have t3a : decide ((i : Int) > 0) = false := by simp; omega
      have t3b : decide (0 < (i : Int)) = false := by simp; omega
      have t3c : decide (0 < i) = false := by simp; omega
      have HTT : Hid (t = ⟨v, 0, 0⟩ ∧ z = 1) := Lib.hid (by
        have h1 := HIT.out
        have h2 := HQ.out.2
        rw [if_neg (fun h => hv0 h.1), if_neg (fun h => hv0 h.1), if_neg (fun h => by omega)] at h1
        injection h1 with h1 h3
        exact ⟨h1.symm, h3.symm⟩)
      go_wp2_with (refine store_st itmSz rfl (.tmp 4) (.tmp 17) rfl r (by rfl) [.int .i64 (v : Int), .int .i64 0, .int .u64 0] (by rfl) _ _ HR2.out rfl rfl (itm_one v 0 0) ?_
                   intro w3 hr3 hf3
                   have HR3 := Lib.hid hr3
                   have HF3 := Lib.hid (HF2.out.trans hf3 (fun b hb h => by have := HRW.out; omega))
                   clear hr3 hf3)
      have d0 : w3.cell? ⟨r, 0, none⟩ = some (.int .i64 (v : Int)) := HR3.out.cell rfl
      have d1 : w3.cell? ⟨r, 1, none⟩ = some (.int .i64 ((0 : Nat) : Int)) := HR3.out.cell rfl
      have d2 : w3.cell? ⟨r, 2, none⟩ = some (.int .u64 ((0 : Nat) : Int)) := HR3.out.cell rfl
      go_wp2_with fail
      exact bodyPost_ret (v := .tuple #[.agg #[.int .i64 (v : Int), .int .i64 ((0 : Nat) : Int), .int .u64 ((0 : Nat) : Int)], .int .i64 ((1 : Nat) : Int)]) (by simp [results, Tryz.results77, go_sem, d0, d1, d2]) rfl ⟨by rw [HTT.out.1, HTT.out.2]; rfl, HF3.out⟩
end Go.Proofs.YtgpkiijmembggaaGreatDoor
