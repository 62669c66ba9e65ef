/-
  The program's halve.
-/
import Derived.Test.YtphalcpmeblkgaaHyC
import Derived.Test.YtphalcpmeblkgaaHxJ
namespace Go.Proofs.Ytphalcpmeblkgaa
open Go.RowKit HuffM Mem Go.Lib
attribute [local go_sem ↓] Go.wp_at_zero Go.wp_at_succ
set_option linter.unusedVariables false

theorem half_same {V : List Nat} (h : (V.any fun x => decide (1 < x)) = false) : half V = V := by
  unfold half
  conv => rhs; rw [← List.map_id V]
  apply List.map_congr_left
  intro x hx
  have := List.any_eq_false.1 h x hx
  simp at this
  show x / 2 + x % 2 = x
  omega
theorem set_same (l : List Nat) (k x : Nat) (h : l[k]? = some x) : l.set k x = l := by
  apply List.ext_getElem?
  intro i
  rw [List.getElem?_set]
  split
  · rename_i e
    subst e
    rw [if_pos (List.getElem?_eq_some_iff.1 h).1, h]
  · rfl
theorem half_cur {V : List Nat} {k x : Nat} (h : V[k]? = some x) : ((half V).take k ++ V.drop k)[k]? = some x := by
  have hk : k < V.length := (List.getElem?_eq_some_iff.1 h).1
  rw [List.getElem?_append_right (by rw [List.length_take]; omega), List.length_take, half_len, Nat.min_eq_left (by omega), Nat.sub_self, List.getElem?_drop, Nat.add_zero]
  exact h
set_option maxRecDepth 100000 in
set_option maxHeartbeats 1600000 in
theorem halve_any (base g n c : Nat) (V : List Nat) (w : World) (hc : w.ownsRow base 3 1 (.slice (some ⟨g, 0, none⟩) n c) n (V.map natc)) (hn : V.length = n) (hn1 : n ≤ 1000) (hV : ∀ x ∈ V, x ≤ 1073741824) :
    Calls Try.prog 24 #[.slice (some ⟨g, 0, none⟩) n c] w fun e w' => e = .returned (.bool (V.any fun x => decide (1 < x))) ∧ w'.ownsRow base 3 1 (.slice (some ⟨g, 0, none⟩) n c) n ((half V).map natc) ∧ Fr (fun b => b = g) w w' := by
  have HC := Lib.hid hc
  have HN := Lib.hid hn
  have HV := Lib.hid hV
  clear hc hn hV
  go_enter Try.func24, Try.ntmps24
  go_wp2_with fail
  go_loopw [3, 8] (fun v i wr => ∃ (k : Nat) (b : Bool), k ≤ n ∧ i = .int .i64 (k : Int) ∧ v = .bool b ∧ Hid (b = (V.take k).any fun x => decide (1 < x)) ∧ Hid (wr.ownsRow base 3 1 (.slice (some ⟨g, 0, none⟩) n c) n (((half V).take k ++ V.drop k).map natc)) ∧ Fr (fun b => b = g) w wr)
    (fun _ i _ => n - (intOf i).toNat)
  case atStart => exact ⟨0, false, by omega, rfl, rfl, rfl, HC, Fr.refl _ _⟩
  case round =>
    clear HC
    obtain ⟨k, b, hk, rfl, rfl, HB, HCk, hfr⟩ := hrel
    by_cases hlt : k < n
    · obtain ⟨g', hgg, _, hcol⟩ := col_of_own HCk.out (by omega)
      obtain rfl : g = g' := by injection hgg with hgg; injection hgg
      obtain ⟨x, hx⟩ : ∃ x, V[k]? = some x := ⟨_, List.getElem?_eq_getElem (by have := HN.out; omega)⟩
      have hxb := HV.out x (List.mem_of_getElem? hx)
      have cx := hcol.cell (half_cur hx)
      have fx := hcol.free k
      have hat := half_at hx
      have hany : ((V.take (k + 1)).any fun x => decide (1 < x)) = (b || decide (1 < x)) := by rw [take_snoc hx, List.any_append, ← HB.out]; simp
      clear hgg hcol
      have hkl : k < ((half V).take k ++ V.drop k).length := (List.getElem?_eq_some_iff.1 (half_cur hx)).1
      by_cases h1 : 1 < x
      · obtain ⟨y, hy⟩ : ∃ y, y = x / 2 := ⟨_, rfl⟩
        obtain ⟨z, hz⟩ : ∃ z, z = x / 2 + x % 2 := ⟨_, rfl⟩
        have e1 : (x : Int) / 2 = (y : Int) := by omega
        have e2 : (x : Int) - (y : Int) = (z : Int) := by omega
        rw [← hz] at hat
        have hset := own_setI HCk.out k hlt (natc z)
        rw [← List.map_set, hat] at hset
        have HSET := Lib.hid hset
        have HANY := Lib.hid (hany.trans (show (b || decide (1 < x)) = true by simp [h1]))
        have HF := Lib.hid (hfr.setCell (p := ⟨g, k, none⟩) (fun _ => rfl) (.int .i64 (z : Int)))
        clear hx hat hany hkl hy hz hset hfr HCk
        go_wp2_with fail
        exact ⟨⟨k + 1, true, by omega, by go_num, rfl, HANY.out.symm, HSET, HF.out⟩, by simp [intOf]; omega⟩
      · have hxx : x / 2 + x % 2 = x := by omega
        have tx : ¬ (1 : Int) < (x : Int) := by omega
        rw [hxx, set_same _ _ _ (half_cur hx)] at hat
        have hcol := HCk.out
        rw [hat] at hcol
        have HCOL := Lib.hid hcol
        have HANY := Lib.hid (hany.trans (show (b || decide (1 < x)) = b by simp [h1]))
        clear hx hat hany hkl hxx hcol HCk
        go_wp2
        go_roundw
        case rel => exact ⟨k + 1, b, by omega, by go_num, rfl, HANY.out.symm, HCOL, hfr⟩
        case measure => simp [intOf] <;> omega
    · obtain rfl : k = n := by omega
      have hcol := HCk.out
      rw [List.take_of_length_le (by rw [half_len, HN.out]; exact Nat.le_refl _), List.drop_eq_nil_of_le (by rw [HN.out]; exact Nat.le_refl _), List.append_nil] at hcol
      have hb := HB.out
      rw [List.take_of_length_le (by rw [HN.out]; exact Nat.le_refl _)] at hb
      have HE := Lib.hid (And.intro hcol hb)
      clear hcol hb HCk
      go_wp2
      go_ret
      exact ⟨by rw [← HE.out.2]; rfl, HE.out.1, hfr⟩
end Go.Proofs.Ytphalcpmeblkgaa
