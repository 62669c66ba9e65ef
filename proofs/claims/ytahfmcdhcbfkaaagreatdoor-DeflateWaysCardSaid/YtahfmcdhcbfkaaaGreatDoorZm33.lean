/-
  Contracts of layer 7's program: fixedLiteral, Fixed; Weights as two slices.
  Layer 9's program: Codes of any lengths; a coding; what tokens' symbols are put by.
-/
import Derived.Test.YtahfmcdhcbfkaaaGreatDoorZm32
import Derived.Test.YtahfmcdhcbfkaaaGreatDoorZm30
import Derived.Test.YtahfmcdhcbfkaaaGreatDoorZm29
import Derived.Test.YtahfmcdhcbfkaaaGreatDoorZm01
namespace Go.Proofs.YtahfmcdhcbfkaaaGreatDoor
open Go.RowKit SyM LzM Mem Go.Lib
attribute [local go_sem ↓] Go.wp_at_zero Go.wp_at_succ
set_option linter.unusedVariables false

def flN (k : Nat) : Nat := if k ≤ 143 then 8 else if k ≤ 255 then 9 else if k ≤ 279 then 7 else 8
theorem flN_is (k : Nat) (h : k < 288) : fixA[k]! = flN k := by
  have h2 : ∀ k : Fin 288, fixA[(k : Nat)]! = flN k := by decide +kernel
  exact h2 ⟨k, h⟩
theorem flN_le (k : Nat) : flN k ≤ 9 := by unfold flN; split <;> (try split) <;> (try split) <;> omega
theorem fixB_is (k : Nat) (h : k < 32) : fixB[k]! = 5 := by
  have h : ∀ k : Fin 32, fixB[(k : Nat)]! = 5 := by decide +kernel
  exact h ⟨k, by assumption⟩

theorem fixedLiteral_any (k : Nat) (w : World) (hk : k < 288) : Calls Tryz.prog 51 #[.int .i64 (k : Int)] w fun e w' => e = .returned (.int .i64 ((flN k : Nat) : Int)) ∧ w = w' := by
  unfold flN
  rcases (show k ≤ 143 ∨ (144 ≤ k ∧ k ≤ 255) ∨ (256 ≤ k ∧ k ≤ 279) ∨ 280 ≤ k by omega) with h | ⟨h, h'⟩ | ⟨h, h'⟩ | h
  · rw [if_pos h]
    have t1 : decide ((k : Int) ≤ 143) = true := decide_eq_true (by omega)
    clear h
    go_enter Tryz.func51, Tryz.ntmps51
    go_wp2_with fail
    go_ret
    exact ⟨rfl, rfl⟩
  · rw [if_neg (by omega), if_pos h']
    have t1 : decide ((k : Int) ≤ 143) = false := decide_eq_false (by omega)
    have t2 : decide ((k : Int) ≤ 255) = true := decide_eq_true (by omega)
    clear h h'
    go_enter Tryz.func51, Tryz.ntmps51
    go_wp2_with fail
    go_ret
    exact ⟨rfl, rfl⟩
  · rw [if_neg (by omega), if_neg (by omega), if_pos h']
    have t1 : decide ((k : Int) ≤ 143) = false := decide_eq_false (by omega)
    have t2 : decide ((k : Int) ≤ 255) = false := decide_eq_false (by omega)
    have t3 : decide ((k : Int) ≤ 279) = true := decide_eq_true (by omega)
    clear h h'
    go_enter Tryz.func51, Tryz.ntmps51
    go_wp2_with fail
    go_ret
    exact ⟨rfl, rfl⟩
  · rw [if_neg (by omega), if_neg (by omega), if_neg (by omega)]
    have t1 : decide ((k : Int) ≤ 143) = false := decide_eq_false (by omega)
    have t2 : decide ((k : Int) ≤ 255) = false := decide_eq_false (by omega)
    have t3 : decide ((k : Int) ≤ 279) = false := decide_eq_false (by omega)
    clear h
    go_enter Tryz.func51, Tryz.ntmps51
    go_wp2_with fail
    go_ret
    exact ⟨rfl, rfl⟩

/-- the first k are filled in -/
def filled (F : List Nat) (k : Nat) : List Nat := F.take k ++ List.replicate (F.length - k) 0
theorem filled_len (F : List Nat) (k : Nat) (h : k ≤ F.length) : (filled F k).length = F.length := by unfold filled; simp; omega
theorem filled_set (F : List Nat) (k : Nat) (h : k < F.length) : (filled F k).set k F[k]! = filled F (k + 1) := by
  unfold filled
  rw [List.set_append_right _ _ (by simp; omega), List.length_take, Nat.min_eq_left (by omega), Nat.sub_self, show F.length - k = (F.length - (k + 1)) + 1 by omega, List.replicate_succ, List.set_cons_zero, getElem!_pos F k h, ← List.take_append_getElem h, List.append_assoc]
  rfl
theorem filled_zero (F : List Nat) : filled F 0 = List.replicate F.length 0 := by unfold filled; simp
theorem filled_all (F : List Nat) : filled F F.length = F := by unfold filled; simp
theorem NRow.put {w : World} {g : Nat} {L : List Nat} (h : NRow w g L) (i x : Nat) : NRow (w.setCell ⟨g, i, none⟩ (.int .i64 (x : Int))) g (L.set i x) := by
  have := Row.set h i (natc x)
  rw [← List.map_set] at this
  exact this
theorem NRow.rd {w : World} {g : Nat} {L : List Nat} (h : NRow w g L) : Rd w (some ⟨g, 0, none⟩) L.length (L.map natc) := by
  have h2 := Row.rd h 0 L.length (by simp)
  rwa [List.drop_zero, List.take_of_length_le (by simp)] at h2

set_option maxRecDepth 100000 in
set_option maxHeartbeats 3200000 in
theorem fixedN_any (w : World) : Calls Tryz.prog 28 #[] w fun e w' => ∃ ga gb, e = .returned (.tuple #[.slice (some ⟨ga, 0, none⟩) fixA.length 288, .slice (some ⟨gb, 0, none⟩) fixB.length 32]) ∧ Rd w' (some ⟨ga, 0, none⟩) fixA.length (fixA.map natc) ∧ Rd w' (some ⟨gb, 0, none⟩) fixB.length (fixB.map natc) ∧ Fr (fun _ => False) w w' ∧ w.heap.size ≤ ga ∧ w.heap.size ≤ gb := by
  obtain ⟨FA, hFA⟩ : ∃ F, F = fixA := ⟨_, rfl⟩
  obtain ⟨FB, hFB⟩ : ∃ F, F = fixB := ⟨_, rfl⟩
  have hla : FA.length = 288 := by rw [hFA]; exact fix_len.1
  have hlb : FB.length = 32 := by rw [hFB]; exact fix_len.2
  have hfa : ∀ k, k < 288 → FA[k]! = flN k := by rw [hFA]; exact flN_is
  have hfb : ∀ k, k < 32 → FB[k]! = 5 := by rw [hFB]; exact fixB_is
  rw [← hFA, ← hFB]
  have HA := Lib.hid (And.intro hla hfa)
  have HB := Lib.hid (And.intro hlb hfb)
  have hmk1 : ∀ w : World, (Instr.makeSlice 36 (.int .i64 288) (.int .i64 288)).run Tryz.prog w = .ok (.slice (some ⟨w.heap.size, 0, none⟩) 288 288) (w.alloc (.cells (Array.replicate 288 (.int .i64 0)) 3)) := mk_int7 288 (by omega)
  have hmk2 : ∀ w : World, (Instr.makeSlice 36 (.int .i64 32) (.int .i64 32)).run Tryz.prog w = .ok (.slice (some ⟨w.heap.size, 0, none⟩) 32 32) (w.alloc (.cells (Array.replicate 32 (.int .i64 0)) 3)) := mk_int7 32 (by omega)
  obtain ⟨ra, hra⟩ : ∃ r, r = Array.replicate 288 (Value.int .i64 0) := ⟨_, rfl⟩
  obtain ⟨rb, hrb⟩ : ∃ r, r = Array.replicate 32 (Value.int .i64 0) := ⟨_, rfl⟩
  have hza : ∀ w : World, NRow (w.alloc (.cells ra 3)) w.heap.size (filled FA 0) := fun w => by rw [hra, filled_zero, hla]; exact NRow.zeros w 288
  have hzb : ∀ w : World, NRow (w.alloc (.cells rb 3)) w.heap.size (filled FB 0) := fun w => by rw [hrb, filled_zero, hlb]; exact NRow.zeros w 32
  rw [← hra] at hmk1
  rw [← hrb] at hmk2
  rw [hla, hlb]
  have HZA := Lib.hid hza
  have HZB := Lib.hid hzb
  clear hFA hFB hla hlb hfa hfb hra hrb hza hzb
  go_enter Tryz.func28, Tryz.ntmps28
  go_upto_region 1 with fail
  go_cut [2, 3] (fun a b wx => ∃ ga gb, a = .slice (some ⟨ga, 0, none⟩) 288 288 ∧ b = .slice (some ⟨gb, 0, none⟩) 32 32 ∧ ga ≠ gb ∧ w.heap.size ≤ ga ∧ w.heap.size ≤ gb ∧ NRow wx ga (filled FA 0) ∧ NRow wx gb (filled FB 0) ∧ Fr (fun _ => False) w wx)
  case first =>
    go_region
    · go_wp2_with fail
      go_meet
      refine ⟨w.heap.size, w.heap.size + 1, rfl, rfl, by omega, by omega, by omega, ?_, ?_, (((Fr.refl _ w).alloc _).alloc _).drew⟩
      · exact Row.drew (Row.alloc (HZA.out w) _)
      · have h := HZB.out (w.alloc (.cells ra 3))
        rw [show (w.alloc (.cells ra 3)).heap.size = w.heap.size + 1 by simp] at h
        exact Row.drew h
    · go_wp2_with fail
      go_meet
      refine ⟨w.heap.size + 1, w.heap.size, rfl, rfl, by omega, by omega, by omega, ?_, ?_, (((Fr.refl _ w).alloc _).alloc _).drew⟩
      · have h := HZA.out (w.alloc (.cells rb 3))
        rw [show (w.alloc (.cells rb 3)).heap.size = w.heap.size + 1 by simp] at h
        exact Row.drew h
      · exact Row.drew (Row.alloc (HZB.out w) _)
  obtain ⟨ga, gb, rfl, rfl, hab, hga, hgb, ha, hb, hf⟩ := hcut
  rename World => w1
  have HAB := Lib.hid (And.intro hab (And.intro hga hgb))
  have HN1 : Hid (NRow w1 ga (filled FA 0) ∧ NRow w1 gb (filled FB 0)) := Lib.hid ⟨ha, hb⟩
  have HF1 := Lib.hid hf
  clear hab hga hgb ha hb hf hmk1 hmk2
  go_wp2_with fail
  go_loopw [10] (fun i wr => ∃ k : Nat, k ≤ 288 ∧ i = .int .i64 (k : Int) ∧ Hid (NRow wr ga (filled FA k) ∧ NRow wr gb (filled FB 0)) ∧ Hid (Fr (fun _ => False) w wr)) (fun i _ => 288 - (intOf i).toNat)
  case atStart => exact ⟨0, by omega, rfl, HN1.out, HF1.out⟩
  case round =>
    obtain ⟨k, hk, rfl, HN, HF⟩ := hrel
    rename World => wr
    by_cases hlt : k < 288
    · obtain ⟨x, hx⟩ : ∃ x, x = flN k := ⟨_, rfl⟩
      have hfl : Calls Tryz.prog 51 #[.int .i64 (k : Int)] wr fun e w' => e = .returned (.int .i64 (x : Int)) ∧ wr = w' := by rw [hx]; exact fixedLiteral_any k wr hlt
      have f1 : wr.frozen? ⟨ga, k, none⟩ = false := Row.free HN.out.1 k
      have c1 := HN.out.1.at_ (i := k) (by rw [filled_len _ _ (by rw [HA.out.1]; exact hk), HA.out.1]; exact hlt)
      have hp := HN.out.1.put k x
      rw [show x = FA[k]! by rw [hx, HA.out.2 k hlt], filled_set FA k (by rw [HA.out.1]; exact hlt), HA.out.2 k hlt, ← hx] at hp
      have HN2 : Hid (NRow (wr.setCell ⟨ga, k, none⟩ (.int .i64 (x : Int))) ga (filled FA (k + 1)) ∧ NRow (wr.setCell ⟨ga, k, none⟩ (.int .i64 (x : Int))) gb (filled FB 0)) := Lib.hid ⟨hp, Row.other HN.out.2 (fun e => HAB.out.1 e.symm) _⟩
      have HF2 : Hid (Fr (fun _ => False) w (wr.setCell ⟨ga, k, none⟩ (.int .i64 (x : Int)))) := Lib.hid (HF.out.trans (Fr.set1 wr ga k _) (fun b hb h => by have := HAB.out.2.1; omega))
      have HFL := Lib.hid hfl
      have hki : (k : Int) < 288 := by omega
      clear hx hp hfl hlt
      go_wp2_with (refine HFL.out.mono ?_; rintro e w' ⟨rfl, rfl⟩)
      exact ⟨⟨k + 1, by omega, by go_num, HN2.out, HF2.out⟩, by simp [intOf]; omega⟩
    · obtain rfl : k = 288 := by omega
      have hn := HN.out
      rw [show filled FA 288 = FA by rw [← HA.out.1]; exact filled_all FA] at hn
      have HN3 := Lib.hid hn
      rename World => w2
      clear hn HN HN1 HF1 hlt hk
      go_wp2_with fail
      go_loopw [21] (fun i wr => ∃ k : Nat, k ≤ 32 ∧ i = .int .i64 (k : Int) ∧ Hid (NRow wr ga FA ∧ NRow wr gb (filled FB k)) ∧ Hid (Fr (fun _ => False) w wr)) (fun i _ => 32 - (intOf i).toNat)
      case atStart => exact ⟨0, by omega, rfl, HN3.out, HF.out⟩
      case round =>
        obtain ⟨k, hk, rfl, HN, HF4⟩ := hrel
        rename World => wr
        by_cases hlt : k < 32
        · have f1 : wr.frozen? ⟨gb, k, none⟩ = false := Row.free HN.out.2 k
          have hp := HN.out.2.put k 5
          rw [show (filled FB k).set k 5 = filled FB (k + 1) by rw [← filled_set FB k (by rw [HB.out.1]; exact hlt), HB.out.2 k hlt]] at hp
          replace hp : NRow (wr.setCell ⟨gb, k, none⟩ (.int .i64 5)) gb (filled FB (k + 1)) := hp
          have c1 := HN.out.2.at_ (i := k) (by rw [filled_len _ _ (by rw [HB.out.1]; exact hk), HB.out.1]; exact hlt)
          have HN2 : Hid (NRow (wr.setCell ⟨gb, k, none⟩ (.int .i64 5)) ga FA ∧ NRow (wr.setCell ⟨gb, k, none⟩ (.int .i64 5)) gb (filled FB (k + 1))) := Lib.hid ⟨Row.other HN.out.1 HAB.out.1 _, hp⟩
          have HF2 : Hid (Fr (fun _ => False) w (wr.setCell ⟨gb, k, none⟩ (.int .i64 5))) := Lib.hid (HF4.out.trans (Fr.set1 wr gb k _) (fun b hb h => by have := HAB.out.2.2; omega))
          have hki : (k : Int) < 32 := by omega
          clear hp hlt
          go_wp2_with fail
          exact ⟨⟨k + 1, by omega, by go_num, HN2.out, HF2.out⟩, by simp [intOf]; omega⟩
        · obtain rfl : k = 32 := by omega
          have hn := HN.out
          rw [show filled FB 32 = FB by rw [← HB.out.1]; exact filled_all FB] at hn
          have h1 := hn.1.rd
          have h2 := hn.2.rd
          rw [HA.out.1] at h1
          rw [HB.out.1] at h2
          have HR := Lib.hid (And.intro h1 h2)
          clear hn h1 h2 hlt hk
          go_wp2_with fail
          exact bodyPost_ret (v := .tuple #[.slice (some ⟨ga, 0, none⟩) 288 288, .slice (some ⟨gb, 0, none⟩) 32 32]) (by simp [results, Tryz.results28, go_sem]) rfl ⟨_, _, rfl, HR.out.1, HR.out.2, HF4.out, HAB.out.2.1, HAB.out.2.2⟩
theorem fixed_any (w : World) : Calls Tryz.prog 28 #[] w (Two w fixA fixB) :=
  (fixedN_any w).mono fun e w' ⟨ga, gb, he, h1, h2, hf, _⟩ => ⟨_, _, _, _, he, h1, h2, hf⟩

theorem start_len7 : (SyM.start).1.length = 286 ∧ (SyM.start).2.length = 30 := by decide +kernel
/-- the program's contracts -/
theorem pWeightsTwo_any (A : Option Addr) (n c : Nat) (T : List Tok) (w : World) (hG : Gl w) (hT : Toks w A n T) (hn : n ≤ 1000000) (hfit : ∀ t ∈ T, Fits t) :
    Calls Tryz.prog 35 #[.slice A n c] w (Two w (weigh T SyM.start).1 (weigh T SyM.start).2) :=
  (pWeights_any A n c T w hG hT hn hfit).mono fun e w' ⟨ga, gb, he, h1, h2, hf⟩ => by
    have l1 := (weigh_length T SyM.start).1
    have l2 := (weigh_length T SyM.start).2
    rw [start_len7.1] at l1
    rw [start_len7.2] at l2
    exact ⟨some ⟨ga, 0, none⟩, 286, some ⟨gb, 0, none⟩, 30, by rw [he, l1, l2], h1.rd, h2.rd, hf⟩
end Go.Proofs.YtahfmcdhcbfkaaaGreatDoor
namespace Go.Proofs.YtahfmcdhcbfkaaaGreatDoor
open Go.RowKit BitsM Mem Go.Lib
attribute [local go_sem ↓] Go.wp_at_zero Go.wp_at_succ
set_option linter.unusedVariables false
set_option maxRecDepth 100000

/-- lengths that are none of a code: as many 0s -/
theorem pCodesNo_any (A : Option Addr) (n c : Nat) (L : List Int) (w : World) (hr : Rd w A n (L.map intc)) (hn : n ≤ 1000) (hR : HuffM.rightB L = false) :
    Calls Tryz.prog 56 #[.slice A n c] w fun e w' => ∃ A' c', e = .returned (.slice A' n c') ∧ n ≤ c' ∧ Rd w' A' n ((List.replicate n 0).map numc) ∧ Fr (fun _ => False) w w' ∧ ∀ ad, A' = some ad → w.heap.size ≤ ad.block := by
  have HR := Lib.hid hr
  have HRT := Lib.hid hR
  have hmk := mk_u64 n (by omega) w
  clear hr hR
  go_enter Tryz.func56, Tryz.ntmps56
  go_wp2_with fail
  obtain ⟨g, hg⟩ : ∃ g, g = w.heap.size := ⟨_, rfl⟩
  obtain ⟨w0, hw0⟩ : ∃ w0, w.alloc (.cells (Array.replicate n (.int .u64 0)) 46) = w0 := ⟨_, rfl⟩
  have hb0 : Row w0 g 46 ((List.replicate n 0).map numc) := by
    have h := Row.new w 46 ((List.replicate n 0).map numc)
    have e : ((List.replicate n 0).map numc).toArray = Array.replicate n (.int .u64 0) := by
      rw [List.map_replicate]
      simp [numc]
    rw [e, hw0, ← hg] at h
    exact h
  have hf0 : Fr (fun _ => False) w w0 := by rw [← hw0]; exact (Fr.refl _ _).alloc _
  have hr0 := HR.out.fr hf0 (fun _ _ h => h)
  rw [hw0, ← hg]
  have HG := Lib.hid hg
  have HB0 := Lib.hid hb0
  have HF0 := Lib.hid hf0
  have HR0 := Lib.hid hr0
  clear hmk hg hw0 hb0 hf0 hr0
  refine (pRight_any A n c L w0 HR0.out hn).mono ?_
  rintro e w1 ⟨rfl, rfl⟩
  rw [HRT.out]
  go_wp2_with fail
  go_ret
  refine ⟨_, _, rfl, Nat.le_refl _, ?_, HF0.out, fun ad h => by injection h with h; subst h; have := HG.out; show w.heap.size ≤ g; omega⟩
  have h := HB0.out.rd 0 n (by simp)
  rw [List.drop_zero, List.take_of_length_le (by simp)] at h
  exact h
/-- of any lengths: so many numbers; of a code's lengths the codes -/
theorem pCodesG_any (A : Option Addr) (n c : Nat) (L : List Int) (w : World) (hr : Rd w A n (L.map intc)) (hn : n ≤ 1000) (hA : ∀ ad, A = some ad → ad.block < w.heap.size) :
    ∃ X : List Nat, X.length = n ∧ (∀ x ∈ X, x < 18446744073709551616) ∧ (HuffM.rightB L = true → X = HuffM.codesL L) ∧
    Calls Tryz.prog 56 #[.slice A n c] w fun e w' => ∃ A' c', e = .returned (.slice A' n c') ∧ n ≤ c' ∧ Rd w' A' n (X.map numc) ∧ Fr (fun _ => False) w w' ∧ ∀ ad, A' = some ad → w.heap.size ≤ ad.block := by
  have hln : L.length = n := by simpa using hr.1
  cases hR : HuffM.rightB L with
  | true => exact ⟨HuffM.codesL L, by rw [HuffM.codes_len]; exact hln, HuffM.codes_lt L, fun _ => rfl, pCodesN_any A n c L w hr hn hA hR⟩
  | false => exact ⟨List.replicate n 0, by simp, fun x hx => by rw [List.eq_of_mem_replicate hx]; decide, (by simp), pCodesNo_any A n c L w hr hn hR⟩

theorem Gl.frT {S : Nat → Prop} {w w' : World} (h : Gl w) (hf : Fr S w w') (hS : ∀ k, S k → top7 ≤ k) : Gl w' :=
  ⟨h.1.fr hf (fun h => by have := hS _ h; unfold top7 at this; omega), h.2.fr hf (fun h => by have := hS _ h; unfold top7 at this; omega)⟩
theorem codingSize : (Tryz.prog.info? 53).map (·.size) = some 2 := by kernel_rfl
set_option maxHeartbeats 1600000 in
theorem codingOf_any (A : Option Addr) (n c : Nat) (L : List Int) (w : World) (hr : Rd w A n (L.map intc)) (hn : n ≤ 1000) (hA : ∀ ad, A = some ad → ad.block < w.heap.size) :
    ∃ X : List Nat, X.length = n ∧ (∀ x ∈ X, x < 18446744073709551616) ∧ (HuffM.rightB L = true → X = HuffM.codesL L) ∧
    Calls Tryz.prog 30 #[.slice A n c] w fun e w' => ∃ A' c', e = .returned (.agg #[.slice A n c, .slice A' n c']) ∧ Rd w' A' n (X.map numc) ∧ Fr (fun _ => False) w w' ∧ ∀ ad, A' = some ad → w.heap.size ≤ ad.block := by
  obtain ⟨w0, hw0⟩ : ∃ w0, w0 = w.alloc (.cells #[Value.slice none 0 0, .slice none 0 0] 53) := ⟨_, rfl⟩
  obtain ⟨p, hp⟩ : ∃ p, p = w.heap.size := ⟨_, rfl⟩
  have hr0 : Row w0 p 53 [Value.slice none 0 0, .slice none 0 0] := by rw [hw0, hp]; exact Row.new w _ _
  have hf0 : Fr (fun _ => False) w w0 := by rw [hw0]; exact (Fr.refl _ w).alloc _
  obtain ⟨X, h1, h2, h3, hc⟩ := pCodesG_any A n c L w0 (hr.fr hf0 (fun _ _ h => h)) hn (fun ad h => Nat.lt_of_lt_of_le (hA ad h) hf0.size)
  refine ⟨X, h1, h2, h3, ?_⟩
  have HC := Lib.hid hc
  have HF0 := Lib.hid hf0
  have HR0 := Lib.hid hr0
  have HPW : Hid (w.heap.size ≤ p ∧ p < w0.heap.size) := Lib.hid ⟨by omega, hr0.lt⟩
  clear h1 h2 h3 hc hr hA hf0 hr0
  go_enter Tryz.func30, Tryz.ntmps30
  go_upto_region 1 with fail
  rw [← hw0, ← hp]
  clear hw0 hp
  go_wp2_with fail
  refine HC.out.mono ?_
  rintro e w1 ⟨AX, cX, rfl, hcX, hrX, hf1, hXb⟩
  have HR1 := Lib.hid (HR0.out.fr hf1 (fun h => h))
  have HF1 := Lib.hid (HF0.out.trans hf1 (fun _ _ h => h))
  have HX : Hid (Rd w1 AX n (X.map numc) ∧ ∀ ad, AX = some ad → w0.heap.size ≤ ad.block) := Lib.hid ⟨hrX, hXb⟩
  clear hrX hf1 hXb HC hcX
  have hra := HR1.out.set 0 (.slice A n c)
  have hrb := hra.set 1 (.slice AX n cX)
  have e0 : w1.cell? ⟨p, 0, none⟩ = some (.slice none 0 0) := HR1.out.cell rfl
  have f0 := HR1.out.free 0
  have e1 : (w1.setCell ⟨p, 0, none⟩ (.slice A n c)).cell? ⟨p, 1, none⟩ = some (.slice none 0 0) := hra.cell rfl
  have f1 := hra.free 1
  have hfa := (Fr.set1 w1 p 0 (.slice A n c)).trans (Fr.set1 _ p 1 (.slice AX n cX)) (fun _ _ h => h)
  have HRB := Lib.hid hrb
  have HFA := Lib.hid hfa
  clear hra hrb hfa
  go_wp2_with fail
  have hr2 := HRB.out
  have hf2 := HFA.out
  obtain ⟨w2, hw2⟩ : ∃ w2, w2 = (w1.setCell ⟨p, 0, none⟩ (.slice A n c)).setCell ⟨p, 1, none⟩ (.slice AX n cX) := ⟨_, rfl⟩
  rw [← hw2] at hr2 hf2 ⊢
  have d0 : w2.cell? ⟨p, 0, none⟩ = some (.slice A n c) := hr2.cell rfl
  have d1 : w2.cell? ⟨p, 1, none⟩ = some (.slice AX n cX) := hr2.cell rfl
  have HF2 := Lib.hid (HF1.out.trans hf2 (fun b hb h => by have := HPW.out.1; omega))
  have HX2 := Lib.hid (HX.out.1.fr hf2 (fun ad e h => by have := HX.out.2 ad e; have := HPW.out.2; omega))
  clear hr2 hf2 hw2 e0 e1 f0 f1
  exact bodyPost_ret (v := .agg #[.slice A n c, .slice AX n cX]) (by simp [results, Tryz.results30, go_sem, d0, d1]) rfl ⟨AX, cX, rfl, HX2.out, HF2.out, fun ad e => Nat.le_trans HF0.out.size (HX.out.2 ad e)⟩
/-- what a block's symbols are put by: the block's own cell, two codings -/
structure EnvD (w : World) (g : Nat) (A : Option Addr) (p r1 r2 n1 c1 cX n2 c2 cY : Nat) (A1 AX A2 AY : Option Addr) (a xs b ys : List Nat) : Prop where
  row : Row w p 30 [Value.pointer (some ⟨g, 0, none⟩)]
  ro1 : Row w r1 53 [Value.slice A1 n1 c1, .slice AX n1 cX]
  ro2 : Row w r2 53 [Value.slice A2 n2 c2, .slice AY n2 cY]
  pn : ¬ Ft g A p
  rn1 : ¬ Ft g A r1
  rn2 : ¬ Ft g A r2
  ra : Rd w A1 n1 (a.map natc)
  rx : Rd w AX n1 (xs.map numc)
  rb : Rd w A2 n2 (b.map natc)
  ry : Rd w AY n2 (ys.map numc)
  na : ∀ ad, A1 = some ad → ¬ Ft g A ad.block ∧ ad.block < w.heap.size
  nx : ∀ ad, AX = some ad → ¬ Ft g A ad.block ∧ ad.block < w.heap.size
  nb : ∀ ad, A2 = some ad → ¬ Ft g A ad.block ∧ ad.block < w.heap.size
  ny : ∀ ad, AY = some ad → ¬ Ft g A ad.block ∧ ad.block < w.heap.size
  gl : Gl w
  gt : ∀ k, Ft g A k → top7 ≤ k
theorem EnvD.fr {w w' : World} {g p r1 r2 n1 c1 cX n2 c2 cY : Nat} {A A' A1 AX A2 AY : Option Addr} {a xs b ys : List Nat} (h : EnvD w g A p r1 r2 n1 c1 cX n2 c2 cY A1 AX A2 AY a xs b ys) (hf : Fr (Ft g A) w w') (hn : Nx w A A') : EnvD w' g A' p r1 r2 n1 c1 cX n2 c2 cY A1 AX A2 AY a xs b ys where
  row := h.row.fr hf h.pn
  ro1 := h.ro1.fr hf h.rn1
  ro2 := h.ro2.fr hf h.rn2
  pn := hn.old h.row.lt h.pn
  rn1 := hn.old h.ro1.lt h.rn1
  rn2 := hn.old h.ro2.lt h.rn2
  ra := h.ra.fr hf (fun ad e => (h.na ad e).1)
  rx := h.rx.fr hf (fun ad e => (h.nx ad e).1)
  rb := h.rb.fr hf (fun ad e => (h.nb ad e).1)
  ry := h.ry.fr hf (fun ad e => (h.ny ad e).1)
  na := fun ad e => ⟨hn.old (h.na ad e).2 (h.na ad e).1, Nat.lt_of_lt_of_le (h.na ad e).2 hf.size⟩
  nx := fun ad e => ⟨hn.old (h.nx ad e).2 (h.nx ad e).1, Nat.lt_of_lt_of_le (h.nx ad e).2 hf.size⟩
  nb := fun ad e => ⟨hn.old (h.nb ad e).2 (h.nb ad e).1, Nat.lt_of_lt_of_le (h.nb ad e).2 hf.size⟩
  ny := fun ad e => ⟨hn.old (h.ny ad e).2 (h.ny ad e).1, Nat.lt_of_lt_of_le (h.ny ad e).2 hf.size⟩
  gl := h.gl.frT hf h.gt
  gt := by
    intro k hk
    rcases hk with hk | hk
    · exact h.gt k (.inl hk)
    · rcases hn with e | ⟨b, e, hb⟩
      · exact h.gt k (.inr (e ▸ hk))
      · rw [e] at hk
        injection hk with hk
        have := h.gl.size
        omega
theorem EnvD.fr0 {w w' : World} {g p r1 r2 n1 c1 cX n2 c2 cY : Nat} {A A1 AX A2 AY : Option Addr} {a xs b ys : List Nat} (h : EnvD w g A p r1 r2 n1 c1 cX n2 c2 cY A1 AX A2 AY a xs b ys) (hf : Fr (fun _ => False) w w') : EnvD w' g A p r1 r2 n1 c1 cX n2 c2 cY A1 AX A2 AY a xs b ys :=
  h.fr (hf.mono (fun _ _ h => h.elim)) (Nx.refl w A)
/-- a symbol of the first code, of the second -/
theorem symA_any {w : World} {g p r1 r2 n1 c1 cX n2 c2 cY : Nat} {A A1 AX A2 AY : Option Addr} {a xs b ys : List Nat} (h : EnvD w g A p r1 r2 n1 c1 cX n2 c2 cY A1 AX A2 AY a xs b ys) (c s t x : Nat) (bs : List Bool) (hw : Wr w g A c bs) (hb : bs.length ≤ 2000000000) (hs : s < n1) (ht : t ≤ 64) (hx : x < 18446744073709551616) (hxs : ∀ x ∈ xs, x < 18446744073709551616) :
    Calls Tryz.prog 52 #[.agg #[.pointer (some ⟨g, 0, none⟩)], .agg #[.slice A1 n1 c1, .slice AX n1 cX], .agg #[.int .i64 (s : Int), .int .i64 (t : Int), .int .u64 (x : Int)]] w fun e w' => e = .returned (.tuple #[]) ∧ ∃ A' c', Wr w' g A' c' (bs ++ DeM.codeBits xs a s ++ low x t) ∧ EnvD w' g A' p r1 r2 n1 c1 cX n2 c2 cY A1 AX A2 AY a xs b ys ∧ Fr (Ft g A) w w' ∧ Nx w A A' :=
  (sym9_any g c A A1 AX n1 c1 n1 cX s t x a xs bs w hw hb h.ra h.rx hs hs ht hx hxs).mono fun e w' ⟨he, A', c', h1, h2, h3⟩ => ⟨he, A', c', h1, h.fr h2 h3, h2, h3⟩
theorem symB_any {w : World} {g p r1 r2 n1 c1 cX n2 c2 cY : Nat} {A A1 AX A2 AY : Option Addr} {a xs b ys : List Nat} (h : EnvD w g A p r1 r2 n1 c1 cX n2 c2 cY A1 AX A2 AY a xs b ys) (c s t x : Nat) (bs : List Bool) (hw : Wr w g A c bs) (hb : bs.length ≤ 2000000000) (hs : s < n2) (ht : t ≤ 64) (hx : x < 18446744073709551616) (hys : ∀ x ∈ ys, x < 18446744073709551616) :
    Calls Tryz.prog 52 #[.agg #[.pointer (some ⟨g, 0, none⟩)], .agg #[.slice A2 n2 c2, .slice AY n2 cY], .agg #[.int .i64 (s : Int), .int .i64 (t : Int), .int .u64 (x : Int)]] w fun e w' => e = .returned (.tuple #[]) ∧ ∃ A' c', Wr w' g A' c' (bs ++ DeM.codeBits ys b s ++ low x t) ∧ EnvD w' g A' p r1 r2 n1 c1 cX n2 c2 cY A1 AX A2 AY a xs b ys ∧ Fr (Ft g A) w w' ∧ Nx w A A' :=
  (sym9_any g c A A2 AY n2 c2 n2 cY s t x b ys bs w hw hb h.rb h.ry hs hs ht hx hys).mono fun e w' ⟨he, A', c', h1, h2, h3⟩ => ⟨he, A', c', h1, h.fr h2 h3, h2, h3⟩
end Go.Proofs.YtahfmcdhcbfkaaaGreatDoor
