/-
  The program's halve.
  The program's Lengths: by joins; where one is too long, by halves.
-/
import Derived.Test.YtahfmcdhcbfkaaaDoorZm33
import Derived.Test.YtahfmcdhcbfkaaaDoorZm15
import Derived.WalkMore
import Derived.Deep.LoopGhost
namespace Go.Proofs.YtahfmcdhcbfkaaaDoor
open Go.RowKit HuffM Mem Go.Lib
attribute [local go_sem ↓] Go.wp_at_zero Go.wp_at_succ
set_option linter.unusedVariables false

theorem half_same {V : List Nat} (h : (V.any fun x => decide (1 < x)) = false) : half V = V := by
  unfold half
  conv => rhs; rw [← List.map_id V]
  apply List.map_congr_left
  intro x hx
  have := List.any_eq_false.1 h x hx
  simp at this
  show x / 2 + x % 2 = x
  omega
theorem set_same (l : List Nat) (k x : Nat) (h : l[k]? = some x) : l.set k x = l := by
  apply List.ext_getElem?
  intro i
  rw [List.getElem?_set]
  split
  · rename_i e
    subst e
    rw [if_pos (List.getElem?_eq_some_iff.1 h).1, h]
  · rfl
theorem half_cur {V : List Nat} {k x : Nat} (h : V[k]? = some x) : ((half V).take k ++ V.drop k)[k]? = some x := by
  have hk : k < V.length := (List.getElem?_eq_some_iff.1 h).1
  rw [List.getElem?_append_right (by rw [List.length_take]; omega), List.length_take, half_len, Nat.min_eq_left (by omega), Nat.sub_self, List.getElem?_drop, Nat.add_zero]
  exact h
set_option maxRecDepth 100000 in
set_option maxHeartbeats 1600000 in
theorem halve_any (base g n c : Nat) (V : List Nat) (w : World) (hc : w.ownsRow base 3 1 (.slice (some ⟨g, 0, none⟩) n c) n (V.map natc)) (hn : V.length = n) (hn1 : n ≤ 1000) (hV : ∀ x ∈ V, x ≤ 1073741824) :
    Calls Tryd.prog 55 #[.slice (some ⟨g, 0, none⟩) n c] w fun e w' => e = .returned (.bool (V.any fun x => decide (1 < x))) ∧ w'.ownsRow base 3 1 (.slice (some ⟨g, 0, none⟩) n c) n ((half V).map natc) ∧ Fr (fun b => b = g) w w' := by
  have HC := Lib.hid hc
  have HN := Lib.hid hn
  have HV := Lib.hid hV
  clear hc hn hV
  go_enter Tryd.func55, Tryd.ntmps55
  go_wp2_with fail
  go_loopw [3, 8] (fun v i wr => ∃ (k : Nat) (b : Bool), k ≤ n ∧ i = .int .i64 (k : Int) ∧ v = .bool b ∧ Hid (b = (V.take k).any fun x => decide (1 < x)) ∧ Hid (wr.ownsRow base 3 1 (.slice (some ⟨g, 0, none⟩) n c) n (((half V).take k ++ V.drop k).map natc)) ∧ Fr (fun b => b = g) w wr)
    (fun _ i _ => n - (intOf i).toNat)
  case atStart => exact ⟨0, false, by omega, rfl, rfl, rfl, HC, Fr.refl _ _⟩
  case round =>
    clear HC
    obtain ⟨k, b, hk, rfl, rfl, HB, HCk, hfr⟩ := hrel
    by_cases hlt : k < n
    · obtain ⟨g', hgg, _, hcol⟩ := col_of_own HCk.out (by omega)
      obtain rfl : g = g' := by injection hgg with hgg; injection hgg
      obtain ⟨x, hx⟩ : ∃ x, V[k]? = some x := ⟨_, List.getElem?_eq_getElem (by have := HN.out; omega)⟩
      have hxb := HV.out x (List.mem_of_getElem? hx)
      have cx := hcol.cell (half_cur hx)
      have fx := hcol.free k
      have hat := half_at hx
      have hany : ((V.take (k + 1)).any fun x => decide (1 < x)) = (b || decide (1 < x)) := by rw [take_snoc hx, List.any_append, ← HB.out]; simp
      clear hgg hcol
      have hkl : k < ((half V).take k ++ V.drop k).length := (List.getElem?_eq_some_iff.1 (half_cur hx)).1
      by_cases h1 : 1 < x
      · obtain ⟨y, hy⟩ : ∃ y, y = x / 2 := ⟨_, rfl⟩
        obtain ⟨z, hz⟩ : ∃ z, z = x / 2 + x % 2 := ⟨_, rfl⟩
        have e1 : (x : Int) / 2 = (y : Int) := by omega
        have e2 : (x : Int) - (y : Int) = (z : Int) := by omega
        rw [← hz] at hat
        have hset := own_setI HCk.out k hlt (natc z)
        rw [← List.map_set, hat] at hset
        have HSET := Lib.hid hset
        have HANY := Lib.hid (hany.trans (show (b || decide (1 < x)) = true by simp [h1]))
        have HF := Lib.hid (hfr.setCell (p := ⟨g, k, none⟩) (fun _ => rfl) (.int .i64 (z : Int)))
        clear hx hat hany hkl hy hz hset hfr HCk
        go_wp2_with fail
        exact ⟨⟨k + 1, true, by omega, by go_num, rfl, HANY.out.symm, HSET, HF.out⟩, by simp [intOf]; omega⟩
      · have hxx : x / 2 + x % 2 = x := by omega
        have tx : ¬ (1 : Int) < (x : Int) := by omega
        rw [hxx, set_same _ _ _ (half_cur hx)] at hat
        have hcol := HCk.out
        rw [hat] at hcol
        have HCOL := Lib.hid hcol
        have HANY := Lib.hid (hany.trans (show (b || decide (1 < x)) = b by simp [h1]))
        clear hx hat hany hkl hxx hcol HCk
        go_wp2
        go_roundw
        case rel => exact ⟨k + 1, b, by omega, by go_num, rfl, HANY.out.symm, HCOL, hfr⟩
        case measure => simp [intOf] <;> omega
    · obtain rfl : k = n := by omega
      have hcol := HCk.out
      rw [List.take_of_length_le (by rw [half_len, HN.out]; exact Nat.le_refl _), List.drop_eq_nil_of_le (by rw [HN.out]; exact Nat.le_refl _), List.append_nil] at hcol
      have hb := HB.out
      rw [List.take_of_length_le (by rw [HN.out]; exact Nat.le_refl _)] at hb
      have HE := Lib.hid (And.intro hcol hb)
      clear hcol hb HCk
      go_wp2
      go_ret
      exact ⟨by rw [← HE.out.2]; rfl, HE.out.1, hfr⟩
end Go.Proofs.YtahfmcdhcbfkaaaDoor
namespace Go.Proofs.YtahfmcdhcbfkaaaDoor
open Go.RowKit HuffM Mem Go.Lib
attribute [local go_sem ↓] Go.wp_at_zero Go.wp_at_succ
set_option linter.unusedVariables false

theorem fits_at {m : Nat} {o : List Nat} {k x : Nat} (h : o[k]? = some x) (hx : m < x) : fits m o = false := by
  unfold fits
  rw [List.all_eq_false]
  exact ⟨x, List.mem_of_getElem? h, by simpa using hx⟩
theorem half_le {V : List Nat} {M : Nat} (h : ∀ x ∈ V, x ≤ M) : ∀ x ∈ half V, x ≤ M := by
  intro x hx
  unfold half at hx
  obtain ⟨y, hy, rfl⟩ := List.mem_map.1 hx
  have := h y hy
  omega
/-- what the program's Lengths answers lies in a new block -/
def LensN (f : FuncId) : Prop := ∀ (A : Option Addr) (n c m : Nat) (W : List Nat) (w : World), Rd w A n (W.map natc) → n ≤ c → n ≤ 1000 → (∀ ad, A = some ad → ad.block < w.heap.size) → (∀ x ∈ W, x ≤ 1073741824) → 1 ≤ m → m ≤ 15 → cnt W ≤ 2 ^ m →
    Calls Tryd.prog f #[.int .i64 (m : Int), .slice A n c] w fun e w' => ∃ A' c', e = .returned (.slice A' n c') ∧ n ≤ c' ∧ Rd w' A' n ((lens m W).map natc) ∧ Fr (fun _ => False) w w' ∧ (∀ ad, A' = some ad → ad.block < w'.heap.size) ∧ ∀ ad, A' = some ad → w.heap.size ≤ ad.block
set_option maxRecDepth 1000000 in
set_option maxHeartbeats 6400000 in
theorem pLengthsN_any : LensN 32 := by
  intro A n c m W w hr hc hn hA hW hm1 hm15 hcn
  have hln : W.length = n := by simpa using hr.1
  have HR := Lib.hid hr
  have HLN := Lib.hid hln
  have HW := Lib.hid hW
  have HCN := Lib.hid hcn
  clear hr hln hW hA hcn
  go_enter Tryd.func32, Tryd.ntmps32
  go_wp2_with fail
  go_step3
  go_wp2_with (at_builtin; refine wpList_appN intT _ rfl _ _ rfl w.heap.size _ _ _ rfl (World.ownsRow_nil _ _ _ _) _ _ _ _ rfl HR.out (natc_one _) n (by omega) (by unfold maxLen; omega) (by omega) (Nat.le_refl _) ?_)
  intro A1 c1 w1 hc1 _ hown1 hfr1 _
  have hf1 : Fr (fun _ => False) w w1 := hfr1.mono (fun k hk h => by simp [Value.ownBlock] at h)
  have HO1 := Lib.hid hown1
  have HF1 := Lib.hid hf1
  clear hown1 hfr1 hf1 HR
  go_wp2_with fail
  go_step3
  go_wp2_with fail
  go_loopw [6] (fun _ wr => ∃ V : List Nat, Hid (V.length = n) ∧ Hid (lens m V = lens m W) ∧ Hid (cnt V ≤ 2 ^ m) ∧ Hid (∀ x ∈ V, x ≤ 1073741824) ∧
      Hid (wr.ownsRow w.heap.size 3 1 (.slice A1 n c1) n (V.map natc)) ∧ Fr (fun _ => False) w wr) (fun _ wr => rsumW (.slice A1 n c1) wr)
  case atStart => exact ⟨W, HLN.out, rfl, HCN, HW, HO1, HF1.out⟩
  case round =>
    clear HO1 HF1
    obtain ⟨V, HVN, HLe, HCn, HVb, HO, hfr⟩ := hrel
    have hblk : ∀ ad, A1 = some ad → ad.block < wr.heap.size := fun ad h => by subst h; exact (HO.out.lt ad.block rfl).2
    have HJ := Lib.hid (joins_any A1 n c1 V wr (Rd.of_own HO.out) hn hblk HVb.out)
    have HF := Lib.hid hfr
    have hms := rsum_of (c := c1) (Rd.of_own HO.out)
    have HMS := Lib.hid hms
    rename World => wa
    clear hblk hfr hms
    go_wp2_with fail
    refine HJ.out.mono ?_
    rintro e w2 ⟨g, c6, rfl, hc6, hg, hcol, hf2⟩
    have hol : (onceL V).length = n := by rw [onceL_len]; exact HVN.out
    have HOL := Lib.hid hol
    have HCOL := Lib.hid hcol
    have HO2 := Lib.hid (hf2.own HO.out (fun _ _ h => h))
    have HF2 := Lib.hid (HF.out.trans hf2 (fun _ _ h => h))
    have HG := Lib.hid (And.intro hg hcol.lt)
    clear hg hcol hf2 hol HJ
    by_cases hfit : fits m (onceL V) = true
    · -- all fit
      have hall : ∀ k x : Nat, (onceL V)[k]? = some x → x ≤ m := by
        intro k x hx
        unfold fits at hfit
        have := List.all_eq_true.1 hfit x (List.mem_of_getElem? hx)
        simpa using this
      have hle := (lens_yes hfit)
      have HLY := Lib.hid (hle.symm.trans HLe.out)
      have HALL := Lib.hid hall
      clear hall hle hfit
      go_wp2_with fail
      go_loop [15] (fun i => ∃ k : Nat, k ≤ n ∧ i = .int .i64 (k : Int)) (fun i => n - (intOf i).toNat)
      case atStart => exact ⟨0, by omega, rfl⟩
      case round =>
        obtain ⟨k, hk, rfl⟩ := hrel
        by_cases hlt : k < n
        · obtain ⟨x, hx⟩ : ∃ x, (onceL V)[k]? = some x := ⟨_, List.getElem?_eq_getElem (by have := HOL.out; omega)⟩
          have cx := HCOL.out.cell hx
          have hxm := HALL.out k x hx
          clear hx
          go_wp2
          go_round
          case rel => exact ⟨k + 1, by omega, by go_num⟩
          case measure => simp [intOf] <;> omega
        · obtain rfl : k = n := by omega
          have hrd := HCOL.out.rd HOL.out
          have HE := Lib.hid hrd
          clear hrd
          go_wp2
          go_ret
          exact ⟨_, _, rfl, hc6, by rw [← HLY.out]; exact HE.out, HF2.out, fun ad h => by injection h with h; subst h; exact HG.out.2, fun ad h => by injection h with h; subst h; exact Nat.le_trans HF.out.size HG.out.1⟩
    · -- one is too long
      have hno := lens_no hm1 HCn.out (by simpa using hfit)
      have HNO := Lib.hid hno
      have hany : (V.any fun x => decide (1 < x)) = true := by
        cases h : V.any fun x => decide (1 < x) with
        | true => rfl
        | false =>
          have := hno.2
          rw [half_same h] at this
          omega
      have hnn : 0 < n := by
        rcases Nat.eq_zero_or_pos n with h | h
        · exfalso
          apply hfit
          have : onceL V = [] := List.eq_nil_of_length_eq_zero (by rw [HOL.out, h])
          rw [this]
          rfl
        · exact h
      obtain ⟨g1, rfl, hg1b, hcol1⟩ := col_of_own HO2.out hnn
      have hgg : g1 ≠ g := by
        have h1 := (HO.out.lt g1 rfl).2
        have := HG.out.1
        omega
      have hhv := halve_any w.heap.size g1 n c1 V w2 HO2.out HVN.out hn HVb.out
      rw [hany] at hhv
      have HHV := Lib.hid hhv
      have HFIT := Lib.hid hfit
      have HGG := Lib.hid (And.intro hgg hg1b)
      clear hno hany hcol1 hgg hhv hfit hg1b
      go_wp2_with fail
      go_loop [15] (fun i => ∃ k : Nat, k ≤ n ∧ i = .int .i64 (k : Int) ∧ Hid (∀ j x, j < k → (onceL V)[j]? = some x → x ≤ m)) (fun i => n - (intOf i).toNat)
      case atStart => exact ⟨0, by omega, rfl, Lib.hid (by intro j x h; omega)⟩
      case round =>
        obtain ⟨k, hk, rfl, HU⟩ := hrel
        by_cases hlt : k < n
        · obtain ⟨x, hx⟩ : ∃ x, (onceL V)[k]? = some x := ⟨_, List.getElem?_eq_getElem (by have := HOL.out; omega)⟩
          have cx := HCOL.out.cell hx
          by_cases hxm : x ≤ m
          · have HX := Lib.hid hx
            clear hx
            go_wp2
            go_round
            case rel =>
              refine ⟨k + 1, by omega, by go_num, fun j y hj hy => ?_⟩
              by_cases hjk : j < k
              · exact HU.out j y hjk hy
              · obtain rfl : j = k := by omega
                have := HX.out
                rw [hy] at this
                injection this with this
                omega
            case measure => simp [intOf] <;> omega
          · clear hx
            go_wp2_with fail
            refine HHV.out.mono ?_
            rintro e w3 ⟨rfl, hown3, hf3⟩
            have HO3 := Lib.hid hown3
            have HF3 := Lib.hid (HF2.out.trans hf3 (fun b hb e => by have := HGG.out.2; omega))
            have hms3 := rsum_of (c := c1) (Rd.of_own hown3)
            have HMS3 := Lib.hid hms3
            clear hf3 hown3 hms3 cx
            go_wp2
            refine ⟨⟨half V, by show _ = _; rw [half_len]; exact HVN.out, HNO.out.1.symm.trans HLe.out, by show _ ≤ _; rw [cnt_half]; exact HCn.out, half_le HVb.out, HO3, HF3.out⟩, ?_⟩
            rw [HMS3.out, HMS.out]
            exact HNO.out.2
        · exfalso
          obtain rfl : k = n := by omega
          refine HFIT.out ?_
          unfold fits
          rw [List.all_eq_true]
          intro x hx
          obtain ⟨j, hj, rfl⟩ := List.getElem_of_mem hx
          have := HU.out j _ (by have := HOL.out; omega) (List.getElem?_eq_getElem hj)
          simpa using this
theorem pLengths_any : LensC 32 := fun A n c m W w h1 h2 h3 h4 h5 h6 h7 h8 =>
  (pLengthsN_any A n c m W w h1 h2 h3 h4 h5 h6 h7 h8).mono fun _ _ ⟨A', c', a1, a2, a3, a4, a5, _⟩ => ⟨A', c', a1, a2, a3, a4, a5⟩
end Go.Proofs.YtahfmcdhcbfkaaaDoor
