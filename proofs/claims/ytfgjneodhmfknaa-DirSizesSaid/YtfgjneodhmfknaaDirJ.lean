/-
  Layer 16's laws: same (columns, and those of the reference that have bytes).
-/
import Derived.Test.YtfgjneodhmfknaaDirI
import Derived.BigQuiet
namespace Go.Proofs.Ytfgjneodhmfknaa
open Go.RowKit Mem Go.Lib LebM DirM
attribute [local go_sem ↓] Go.wp_at_zero Go.wp_at_succ
set_option linter.unusedVariables false

theorem full_cut {M : List Col} {k : Nat} {x : Col} (h : M[k]? = some x) (hx : 0 < x.2.length) : full M = full (M.take k) ++ x :: full (M.drop (k + 1)) := by
  have e : M = M.take k ++ x :: M.drop (k + 1) := by
    obtain ⟨h1, h2⟩ := List.getElem?_eq_some_iff.1 h
    rw [← h2, ← List.drop_eq_getElem_cons h1, List.take_append_drop]
  conv => lhs; rw [e]
  unfold full
  rw [List.filter_append, List.filter_cons, if_pos (decide_eq_true hx)]
theorem same_not {V M : List Col} {k m : Nat} {x : Col} (h : M[k]? = some x) (hx : 0 < x.2.length) (hF : full (M.take k) = V.take m) (hm : m ≤ V.length) (hn : V[m]? ≠ some x) : V ≠ full M := by
  intro e
  apply hn
  have h2 := full_cut h hx
  rw [hF] at h2
  have h3 : (full M)[m]? = some x := by
    rw [h2, List.getElem?_append_right (by rw [List.length_take]; omega), List.length_take, Nat.min_eq_left hm, Nat.sub_self]
    rfl
  rw [← e] at h3
  exact h3
set_option maxRecDepth 100000 in
set_option maxHeartbeats 6400000 in
theorem lsame_any (A : Option Addr) (n c : Nat) (L : List Cl) (A' : Option Addr) (n' c' : Nat) (M : List Col) (w : World) (hL : Cols w A n L) (hM : Prs ridc rtxt w A' n' M) (hn : n ≤ 1000000) (hn' : n' ≤ 1000000) :
    Calls Try.prog 15 #[.slice A n c, .slice A' n' c'] w fun e w' => e = .returned (.bool (decide (L.map Cl.v = full M))) ∧ Fr (fun _ => False) w w' := by
  have hln := hL.1.1
  have hln' := hM.1
  obtain ⟨R, hR⟩ : ∃ R, R = decide (L.map Cl.v = full M) := ⟨_, rfl⟩
  rw [← hR]
  have HL := Lib.hid hL
  have HM := Lib.hid hM
  have HLN := Lib.hid hln
  have HLM := Lib.hid hln'
  have HR := Lib.hid hR
  clear hL hM hln hln' hR
  go_enter Try.func15, Try.ntmps15
  go_wp2_with fail
  go_loopw [5, 6] (fun v i wr => ∃ (k m : Nat), k ≤ n' ∧ m ≤ n ∧ i = .int .i64 (k : Int) ∧ v = .int .i64 (m : Int) ∧ Hid (full (M.take k) = (L.map Cl.v).take m) ∧ Hid (Fr (fun _ => False) w wr)) (fun _ i _ => n' - (intOf i).toNat)
  case atStart => exact ⟨0, 0, Nat.zero_le _, Nat.zero_le _, rfl, rfl, (by simp [full] : full (M.take 0) = (L.map Cl.v).take 0), Fr.refl _ _⟩
  case round =>
    obtain ⟨k, m, hk, hm, rfl, rfl, HE, HF⟩ := hrel
    rename World => wr
    by_cases hlt : k < n'
    · obtain ⟨⟨id, S⟩, hx⟩ : ∃ x, M[k]? = some x := ⟨_, List.getElem?_eq_getElem (by have := HLM.out; omega)⟩
      obtain ⟨gx, ox, rfl, _, h0, h1⟩ := (HM.out.fr HF.out (fun _ _ => fun h => h)).2 k _ hx
      have h0' : wr.cell? ⟨gx, ox + k * 2, none⟩ = some (.int .i64 (id : Int)) := h0
      have h1' : wr.cell? ⟨gx, ox + k * 2 + 1, none⟩ = some (.string (txt S)) := h1
      have HX := Lib.hid hx
      have hfs := fullR_step hx
      simp only at hfs
      have HFS := Lib.hid hfs
      clear hx h0 h1 hfs
      by_cases hS : S = []
      · subst hS
        have t0 : (txt ([] : List UInt8)).toList.isEmpty = true := by rw [txt_empty]; rfl
        have HE2 : Hid (full (M.take (k + 1)) = (L.map Cl.v).take m) := Lib.hid (by rw [HFS.out, if_neg (by simp), List.append_nil]; exact HE.out)
        go_wp2_with fail
        go_roundw
        case rel => exact ⟨k + 1, m, by omega, hm, by go_num, by rfl, HE2, HF⟩
        case measure => simp [intOf]; omega
      · have t0 : (txt S).toList.isEmpty = false := by rw [txt_empty]; exact decide_eq_false hS
        have hSp : 0 < S.length := List.length_pos_iff.2 hS
        have HSP := Lib.hid hSp
        clear hS hSp
        have hVl : (L.map Cl.v).length = n := by rw [List.length_map]; exact HLN.out
        have HVL := Lib.hid hVl
        clear hVl
        by_cases hmn : m < n
        · obtain ⟨y, hy⟩ : ∃ y, L[m]? = some y := ⟨_, List.getElem?_eq_getElem (by have := HLN.out; omega)⟩
          obtain ⟨gy, oy, rfl, _, g0, g1⟩ := (HL.out.1.fr HF.out (fun _ _ => fun h => h)).2 m _ hy
          have hby := HL.out.2 y (List.mem_of_getElem? hy)
          have hvy : (L.map Cl.v)[m]? = some y.v := by rw [List.getElem?_map, hy]; rfl
          have HVY := Lib.hid hvy
          simp only [idc, dac] at g0 g1
          obtain ⟨id2, hid2⟩ : ∃ id2, y.id = id2 := ⟨_, rfl⟩
          have t1 : decide ((n : Int) ≤ (m : Int)) = false := decide_eq_false (by omega)
          have t1' : decide (n ≤ m) = false := decide_eq_false (by omega)
          rw [hid2] at g0
          have HID := Lib.hid hid2
          obtain ⟨z, hz⟩ : ∃ z, y.B.length = z := ⟨_, rfl⟩
          obtain ⟨X, hX⟩ : ∃ X, y.B = X := ⟨_, rfl⟩
          have hrd := hby.1.fr HF.out (fun _ _ h => h)
          rw [hz] at g1 hrd
          rw [hX] at hrd
          have hcv : ∀ q, (convert 22 9 (.slice y.A z y.c)).run Try.prog (wr.drewN q) = .ok (.string (txt X)) (wr.drewN q) := fun q => str_rd (hrd.drewN q) y.c
          have HXX := Lib.hid hX
          clear hy hby hvy hid2 hz hX hrd
          by_cases hi : id2 = id
          · subst hi
            by_cases hq : X = S
            · subst hq
              have HE2 : Hid (full (M.take (k + 1)) = (L.map Cl.v).take (m + 1)) := Lib.hid (by
                rw [HFS.out, if_pos HSP.out, HE.out, List.take_add_one, HVY.out]
                show _ = _ ++ [y.v]
                unfold Cl.v
                rw [HID.out, HXX.out])
              have r1 : IntKind.i64.wrap ((m : Int) + 1) = ((m + 1 : Nat) : Int) := by rw [IntKind.wrap_i64]; omega
              go_upto_region 6 with fail
              go_quiet (fail)
              go_wp2_with fail
              go_roundw
              case rel => exact ⟨k + 1, m + 1, by omega, by omega, by go_num, by rfl, HE2, HF.out.drewN _⟩
              case measure => simp [intOf]; omega
            · have hne : ((txt X).toList == (txt S).toList) = false := by rw [beq_txt]; exact decide_eq_false hq
              have HRF : Hid (R = false) := Lib.hid (by
                rw [HR.out]
                refine decide_eq_false (same_not HX.out HSP.out HE.out (by have := HVL.out; omega) (fun h => ?_))
                rw [HVY.out] at h
                injection h with h
                unfold Cl.v at h
                injection h with _ h
                rw [HXX.out] at h
                exact hq h)
              clear hq
              go_upto_region 6 with fail
              go_quiet (fail)
              go_wp2_with fail
              go_ret
              exact ⟨by rw [HRF.out]; rfl, HF.out.drewN _⟩
          · have t2 : ((id2 : Int) != (id : Int)) = true := by simp; omega
            have t2' : (id2 != id) = true := by simp; omega
            have t3 : ((id2 : Int) == (id : Int)) = false := by simp; omega
            have t3' : (id2 == id) = false := by simp; omega
            have HRF : Hid (R = false) := Lib.hid (by
              rw [HR.out]
              refine decide_eq_false (same_not HX.out HSP.out HE.out (by have := HVL.out; omega) (fun h => ?_))
              rw [HVY.out] at h
              injection h with h
              unfold Cl.v at h
              injection h with h _
              rw [HID.out] at h
              exact hi h)
            clear hi
            go_upto_region 6 with fail
            go_quiet (fail)
            go_wp2_with fail
            go_ret
            exact ⟨by rw [HRF.out]; rfl, HF.out.drewN _⟩
        · have t1 : decide ((n : Int) ≤ (m : Int)) = true := decide_eq_true (by omega)
          have t1' : decide (n ≤ m) = true := decide_eq_true (by omega)
          have HRF : Hid (R = false) := Lib.hid (by
            rw [HR.out]
            refine decide_eq_false (same_not HX.out HSP.out HE.out (by have := HVL.out; omega) (fun h => ?_))
            have := (List.getElem?_eq_some_iff.1 h).1
            have := HVL.out
            omega)
          clear hmn
          go_upto_region 6 with fail
          go_quiet (fail)
          go_wp2_with fail
          go_ret
          exact ⟨by rw [HRF.out]; rfl, HF.out.drewN _⟩
    · obtain rfl : k = n' := by omega
      obtain ⟨b, hb⟩ : ∃ b : Bool, b = decide (m = n) := ⟨_, rfl⟩
      have t1 : ((m : Int) == (n : Int)) = b := by
        rw [hb]
        by_cases h : m = n
        · subst h; simp
        · rw [decide_eq_false h]; simp; omega
      have t1' : (m == n) = b := by rw [hb]; rfl
      have HRB : Hid (R = b) := Lib.hid (by
        rw [HR.out, hb]
        have h1 := HE.out
        rw [List.take_of_length_le (by have := HLM.out; omega)] at h1
        rw [h1]
        refine decide_eq_decide.2 ⟨fun h => ?_, fun h => ?_⟩
        · have h2 := congrArg List.length h
          rw [List.length_take, List.length_map, HLN.out] at h2
          omega
        · rw [h, List.take_of_length_le (by rw [List.length_map, HLN.out]; exact Nat.le_refl _)])
      clear hb
      go_wp2_with fail
      go_ret
      exact ⟨by rw [HRB.out]; rfl, HF.out⟩
end Go.Proofs.Ytfgjneodhmfknaa
