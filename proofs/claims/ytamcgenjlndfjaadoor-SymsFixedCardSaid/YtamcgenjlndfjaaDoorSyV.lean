/-
  Contracts of layer 7's program: fixedLiteral, Fixed; all its contracts together.
-/
import Derived.Test.YtamcgenjlndfjaaDoorSyU
namespace Go.Proofs.YtamcgenjlndfjaaDoor
open Go.RowKit SyM LzM Mem Go.Lib
attribute [local go_sem ↓] Go.wp_at_zero Go.wp_at_succ
set_option linter.unusedVariables false

def flN (k : Nat) : Nat := if k ≤ 143 then 8 else if k ≤ 255 then 9 else if k ≤ 279 then 7 else 8
theorem flN_is (k : Nat) (h : k < 288) : fixA[k]! = flN k := by
  have h2 : ∀ k : Fin 288, fixA[(k : Nat)]! = flN k := by decide +kernel
  exact h2 ⟨k, h⟩
theorem flN_le (k : Nat) : flN k ≤ 9 := by unfold flN; split <;> (try split) <;> (try split) <;> omega
theorem fixB_is (k : Nat) (h : k < 32) : fixB[k]! = 5 := by
  have h : ∀ k : Fin 32, fixB[(k : Nat)]! = 5 := by decide +kernel
  exact h ⟨k, by assumption⟩

theorem fixedLiteral_any (k : Nat) (w : World) (hk : k < 288) : Calls Tryd.prog 28 #[.int .i64 (k : Int)] w fun e w' => e = .returned (.int .i64 ((flN k : Nat) : Int)) ∧ w = w' := by
  unfold flN
  rcases (show k ≤ 143 ∨ (144 ≤ k ∧ k ≤ 255) ∨ (256 ≤ k ∧ k ≤ 279) ∨ 280 ≤ k by omega) with h | ⟨h, h'⟩ | ⟨h, h'⟩ | h
  · rw [if_pos h]
    have t1 : decide ((k : Int) ≤ 143) = true := decide_eq_true (by omega)
    clear h
    go_enter Tryd.func28, Tryd.ntmps28
    go_wp2_with fail
    go_ret
    exact ⟨rfl, rfl⟩
  · rw [if_neg (by omega), if_pos h']
    have t1 : decide ((k : Int) ≤ 143) = false := decide_eq_false (by omega)
    have t2 : decide ((k : Int) ≤ 255) = true := decide_eq_true (by omega)
    clear h h'
    go_enter Tryd.func28, Tryd.ntmps28
    go_wp2_with fail
    go_ret
    exact ⟨rfl, rfl⟩
  · rw [if_neg (by omega), if_neg (by omega), if_pos h']
    have t1 : decide ((k : Int) ≤ 143) = false := decide_eq_false (by omega)
    have t2 : decide ((k : Int) ≤ 255) = false := decide_eq_false (by omega)
    have t3 : decide ((k : Int) ≤ 279) = true := decide_eq_true (by omega)
    clear h h'
    go_enter Tryd.func28, Tryd.ntmps28
    go_wp2_with fail
    go_ret
    exact ⟨rfl, rfl⟩
  · rw [if_neg (by omega), if_neg (by omega), if_neg (by omega)]
    have t1 : decide ((k : Int) ≤ 143) = false := decide_eq_false (by omega)
    have t2 : decide ((k : Int) ≤ 255) = false := decide_eq_false (by omega)
    have t3 : decide ((k : Int) ≤ 279) = false := decide_eq_false (by omega)
    clear h
    go_enter Tryd.func28, Tryd.ntmps28
    go_wp2_with fail
    go_ret
    exact ⟨rfl, rfl⟩

/-- the first k are filled in -/
def filled (F : List Nat) (k : Nat) : List Nat := F.take k ++ List.replicate (F.length - k) 0
theorem filled_len (F : List Nat) (k : Nat) (h : k ≤ F.length) : (filled F k).length = F.length := by unfold filled; simp; omega
theorem filled_set (F : List Nat) (k : Nat) (h : k < F.length) : (filled F k).set k F[k]! = filled F (k + 1) := by
  unfold filled
  rw [List.set_append_right _ _ (by simp; omega), List.length_take, Nat.min_eq_left (by omega), Nat.sub_self, show F.length - k = (F.length - (k + 1)) + 1 by omega, List.replicate_succ, List.set_cons_zero, getElem!_pos F k h, ← List.take_append_getElem h, List.append_assoc]
  rfl
theorem filled_zero (F : List Nat) : filled F 0 = List.replicate F.length 0 := by unfold filled; simp
theorem filled_all (F : List Nat) : filled F F.length = F := by unfold filled; simp
theorem NRow.put {w : World} {g : Nat} {L : List Nat} (h : NRow w g L) (i x : Nat) : NRow (w.setCell ⟨g, i, none⟩ (.int .i64 (x : Int))) g (L.set i x) := by
  have := Row.set h i (natc x)
  rw [← List.map_set] at this
  exact this
theorem NRow.rd {w : World} {g : Nat} {L : List Nat} (h : NRow w g L) : Rd w (some ⟨g, 0, none⟩) L.length (L.map natc) := by
  have h2 := Row.rd h 0 L.length (by simp)
  rwa [List.drop_zero, List.take_of_length_le (by simp)] at h2

set_option maxRecDepth 100000 in
set_option maxHeartbeats 3200000 in
theorem fixed_any (w : World) : Calls Tryd.prog 21 #[] w (Two w fixA fixB) := by
  obtain ⟨FA, hFA⟩ : ∃ F, F = fixA := ⟨_, rfl⟩
  obtain ⟨FB, hFB⟩ : ∃ F, F = fixB := ⟨_, rfl⟩
  have hla : FA.length = 288 := by rw [hFA]; exact fix_len.1
  have hlb : FB.length = 32 := by rw [hFB]; exact fix_len.2
  have hfa : ∀ k, k < 288 → FA[k]! = flN k := by rw [hFA]; exact flN_is
  have hfb : ∀ k, k < 32 → FB[k]! = 5 := by rw [hFB]; exact fixB_is
  rw [← hFA, ← hFB]
  unfold Two
  have HA := Lib.hid (And.intro hla hfa)
  have HB := Lib.hid (And.intro hlb hfb)
  have hmk1 : ∀ w : World, (Instr.makeSlice 44 (.int .i64 288) (.int .i64 288)).run Tryd.prog w = .ok (.slice (some ⟨w.heap.size, 0, none⟩) 288 288) (w.alloc (.cells (Array.replicate 288 (.int .i64 0)) 3)) := mk_int7 288 (by omega)
  have hmk2 : ∀ w : World, (Instr.makeSlice 44 (.int .i64 32) (.int .i64 32)).run Tryd.prog w = .ok (.slice (some ⟨w.heap.size, 0, none⟩) 32 32) (w.alloc (.cells (Array.replicate 32 (.int .i64 0)) 3)) := mk_int7 32 (by omega)
  obtain ⟨ra, hra⟩ : ∃ r, r = Array.replicate 288 (Value.int .i64 0) := ⟨_, rfl⟩
  obtain ⟨rb, hrb⟩ : ∃ r, r = Array.replicate 32 (Value.int .i64 0) := ⟨_, rfl⟩
  have hza : ∀ w : World, NRow (w.alloc (.cells ra 3)) w.heap.size (filled FA 0) := fun w => by rw [hra, filled_zero, hla]; exact NRow.zeros w 288
  have hzb : ∀ w : World, NRow (w.alloc (.cells rb 3)) w.heap.size (filled FB 0) := fun w => by rw [hrb, filled_zero, hlb]; exact NRow.zeros w 32
  rw [← hra] at hmk1
  rw [← hrb] at hmk2
  rw [hla, hlb]
  have HZA := Lib.hid hza
  have HZB := Lib.hid hzb
  clear hFA hFB hla hlb hfa hfb hra hrb hza hzb
  go_enter Tryd.func21, Tryd.ntmps21
  go_upto_region 1 with fail
  go_cut [2, 3] (fun a b wx => ∃ ga gb, a = .slice (some ⟨ga, 0, none⟩) 288 288 ∧ b = .slice (some ⟨gb, 0, none⟩) 32 32 ∧ ga ≠ gb ∧ w.heap.size ≤ ga ∧ w.heap.size ≤ gb ∧ NRow wx ga (filled FA 0) ∧ NRow wx gb (filled FB 0) ∧ Fr (fun _ => False) w wx)
  case first =>
    go_region
    · go_wp2_with fail
      go_meet
      refine ⟨w.heap.size, w.heap.size + 1, rfl, rfl, by omega, by omega, by omega, ?_, ?_, (((Fr.refl _ w).alloc _).alloc _).drew⟩
      · exact Row.drew (Row.alloc (HZA.out w) _)
      · have h := HZB.out (w.alloc (.cells ra 3))
        rw [show (w.alloc (.cells ra 3)).heap.size = w.heap.size + 1 by simp] at h
        exact Row.drew h
    · go_wp2_with fail
      go_meet
      refine ⟨w.heap.size + 1, w.heap.size, rfl, rfl, by omega, by omega, by omega, ?_, ?_, (((Fr.refl _ w).alloc _).alloc _).drew⟩
      · have h := HZA.out (w.alloc (.cells rb 3))
        rw [show (w.alloc (.cells rb 3)).heap.size = w.heap.size + 1 by simp] at h
        exact Row.drew h
      · exact Row.drew (Row.alloc (HZB.out w) _)
  obtain ⟨ga, gb, rfl, rfl, hab, hga, hgb, ha, hb, hf⟩ := hcut
  rename World => w1
  have HAB := Lib.hid (And.intro hab (And.intro hga hgb))
  have HN1 : Hid (NRow w1 ga (filled FA 0) ∧ NRow w1 gb (filled FB 0)) := Lib.hid ⟨ha, hb⟩
  have HF1 := Lib.hid hf
  clear hab hga hgb ha hb hf hmk1 hmk2
  go_wp2_with fail
  go_loopw [10] (fun i wr => ∃ k : Nat, k ≤ 288 ∧ i = .int .i64 (k : Int) ∧ Hid (NRow wr ga (filled FA k) ∧ NRow wr gb (filled FB 0)) ∧ Hid (Fr (fun _ => False) w wr)) (fun i _ => 288 - (intOf i).toNat)
  case atStart => exact ⟨0, by omega, rfl, HN1.out, HF1.out⟩
  case round =>
    obtain ⟨k, hk, rfl, HN, HF⟩ := hrel
    rename World => wr
    by_cases hlt : k < 288
    · obtain ⟨x, hx⟩ : ∃ x, x = flN k := ⟨_, rfl⟩
      have hfl : Calls Tryd.prog 28 #[.int .i64 (k : Int)] wr fun e w' => e = .returned (.int .i64 (x : Int)) ∧ wr = w' := by rw [hx]; exact fixedLiteral_any k wr hlt
      have f1 : wr.frozen? ⟨ga, k, none⟩ = false := Row.free HN.out.1 k
      have c1 := HN.out.1.at_ (i := k) (by rw [filled_len _ _ (by rw [HA.out.1]; exact hk), HA.out.1]; exact hlt)
      have hp := HN.out.1.put k x
      rw [show x = FA[k]! by rw [hx, HA.out.2 k hlt], filled_set FA k (by rw [HA.out.1]; exact hlt), HA.out.2 k hlt, ← hx] at hp
      have HN2 : Hid (NRow (wr.setCell ⟨ga, k, none⟩ (.int .i64 (x : Int))) ga (filled FA (k + 1)) ∧ NRow (wr.setCell ⟨ga, k, none⟩ (.int .i64 (x : Int))) gb (filled FB 0)) := Lib.hid ⟨hp, Row.other HN.out.2 (fun e => HAB.out.1 e.symm) _⟩
      have HF2 : Hid (Fr (fun _ => False) w (wr.setCell ⟨ga, k, none⟩ (.int .i64 (x : Int)))) := Lib.hid (HF.out.trans (Fr.set1 wr ga k _) (fun b hb h => by have := HAB.out.2.1; omega))
      have HFL := Lib.hid hfl
      have hki : (k : Int) < 288 := by omega
      clear hx hp hfl hlt
      go_wp2_with (refine HFL.out.mono ?_; rintro e w' ⟨rfl, rfl⟩)
      exact ⟨⟨k + 1, by omega, by go_num, HN2.out, HF2.out⟩, by simp [intOf]; omega⟩
    · obtain rfl : k = 288 := by omega
      have hn := HN.out
      rw [show filled FA 288 = FA by rw [← HA.out.1]; exact filled_all FA] at hn
      have HN3 := Lib.hid hn
      rename World => w2
      clear hn HN HN1 HF1 hlt hk
      go_wp2_with fail
      go_loopw [21] (fun i wr => ∃ k : Nat, k ≤ 32 ∧ i = .int .i64 (k : Int) ∧ Hid (NRow wr ga FA ∧ NRow wr gb (filled FB k)) ∧ Hid (Fr (fun _ => False) w wr)) (fun i _ => 32 - (intOf i).toNat)
      case atStart => exact ⟨0, by omega, rfl, HN3.out, HF.out⟩
      case round =>
        obtain ⟨k, hk, rfl, HN, HF4⟩ := hrel
        rename World => wr
        by_cases hlt : k < 32
        · have f1 : wr.frozen? ⟨gb, k, none⟩ = false := Row.free HN.out.2 k
          have hp := HN.out.2.put k 5
          rw [show (filled FB k).set k 5 = filled FB (k + 1) by rw [← filled_set FB k (by rw [HB.out.1]; exact hlt), HB.out.2 k hlt]] at hp
          replace hp : NRow (wr.setCell ⟨gb, k, none⟩ (.int .i64 5)) gb (filled FB (k + 1)) := hp
          have c1 := HN.out.2.at_ (i := k) (by rw [filled_len _ _ (by rw [HB.out.1]; exact hk), HB.out.1]; exact hlt)
          have HN2 : Hid (NRow (wr.setCell ⟨gb, k, none⟩ (.int .i64 5)) ga FA ∧ NRow (wr.setCell ⟨gb, k, none⟩ (.int .i64 5)) gb (filled FB (k + 1))) := Lib.hid ⟨Row.other HN.out.1 HAB.out.1 _, hp⟩
          have HF2 : Hid (Fr (fun _ => False) w (wr.setCell ⟨gb, k, none⟩ (.int .i64 5))) := Lib.hid (HF4.out.trans (Fr.set1 wr gb k _) (fun b hb h => by have := HAB.out.2.2; omega))
          have hki : (k : Int) < 32 := by omega
          clear hp hlt
          go_wp2_with fail
          exact ⟨⟨k + 1, by omega, by go_num, HN2.out, HF2.out⟩, by simp [intOf]; omega⟩
        · obtain rfl : k = 32 := by omega
          have hn := HN.out
          rw [show filled FB 32 = FB by rw [← HB.out.1]; exact filled_all FB] at hn
          have h1 := hn.1.rd
          have h2 := hn.2.rd
          rw [HA.out.1] at h1
          rw [HB.out.1] at h2
          have HR := Lib.hid (And.intro h1 h2)
          clear hn h1 h2 hlt hk
          go_wp2_with fail
          exact bodyPost_ret (v := .tuple #[.slice (some ⟨ga, 0, none⟩) 288 288, .slice (some ⟨gb, 0, none⟩) 32 32]) (by simp [results, Tryd.results21, go_sem]) rfl ⟨_, _, _, _, rfl, HR.out.1, HR.out.2, HF4.out⟩

theorem start_len : (SyM.start).1.length = 286 ∧ (SyM.start).2.length = 30 := by decide +kernel
/-- the program's contracts -/
theorem symsC : SymsC Gl where
  fr := fun h hf => h.fr0 hf
  literal := fun b w _ => literal_any b w
  length := fun n w h hn => length_any n w h hn
  distance := fun n w h hn => distance_any n w h hn
  lengthOf := fun s w h hs => lengthOf_any s w h hs
  distanceOf := fun s w h hs => distanceOf_any s w h hs
  weights := fun A n c T w h hT hn hfit => (pWeights_any A n c T w h hT hn hfit).mono fun e w' ⟨ga, gb, he, h1, h2, hf⟩ => by
    have l1 := (weigh_length T SyM.start).1
    have l2 := (weigh_length T SyM.start).2
    rw [start_len.1] at l1
    rw [start_len.2] at l2
    exact ⟨some ⟨ga, 0, none⟩, 286, some ⟨gb, 0, none⟩, 30, by rw [he, l1, l2], h1.rd, h2.rd, hf⟩
  fixed := fun w _ => fixed_any w
end Go.Proofs.YtamcgenjlndfjaaDoor
