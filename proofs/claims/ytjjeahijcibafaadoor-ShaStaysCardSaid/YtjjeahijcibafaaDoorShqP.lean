/-
  What ShaParts wants besides: how many bytes there are; hashes held against each other by !=; a slice of slices of bytes out of the reading.
-/
import Derived.Test.YtjjeahijcibafaaDoorShqJ
import Derived.Deep.Slices
namespace Go.Proofs.YtjjeahijcibafaaDoor
open Go.ChangeShapes Go.WideShapes Go.RowKit Go.Deep ShaM Mem Go.Lib
attribute [local go_sem ↓] Go.wp_at_zero Go.wp_at_succ

theorem hash_ne (B : List UInt8) : (∀ (x y : Operand) (w : World), (eqGuard .neq 25 x y (hashV B) (hashV B)).run Tryd.prog w = .ok () w) ∧ (∀ w : World, (binOp .neq 25 (hashV B) (hashV B)).run Tryd.prog w = .ok (.bool false) w) := by
  obtain ⟨h, hl, e⟩ := hashV_bytes B
  rw [e]
  refine ⟨fun x y w => run_eqGuard_agg w .neq _ x y _ _ (by kernel_rfl), fun w => ?_⟩
  have := run_equalIn_bytes (P := Tryd.prog) w 9998 25 5 32 Tryd.underlying25 Tryd.underlying5 (fun w => by kernel_rfl) h h hl hl
  change (binOp .neq 25 (.agg (h.map Extern.Stop.cell).toArray) (.agg (h.map Extern.Stop.cell).toArray)).run Tryd.prog w = _
  rw [run_neq_struct, this]
  simp

/-- a slice of slices of bytes, out of the reading -/
theorem parts_arg {H : Type} {enc : TypeId × Value → H} {W : World} {r : Reach} {b0 : Nat} {v : Value} {d : DataW H} {p : List MemPlace} (hv : Value.okWide Tryd.prog W r b0 29 v)
    (h : DataW.Trod enc Tryd.prog W 0 (fun _ => true) true 29 v d p) : ∃ (A : Option Addr) (n c : Nat) (L : List (List UInt8)), v = .slice A n c ∧ n ≤ c ∧ c ≤ maxLen ∧ Parts W A n L := by
  obtain ⟨a0, len, cap, rfl⟩ := okWide_slice Tryd.underlying29 hv
  obtain ⟨fuel, hf⟩ := h
  rcases open_slice1 Tryd.underlying29 (by kernel_rfl) (show DataW.trod enc Tryd.prog W 0 (fun _ => true) true fuel 29 [.slice a0 len cap] = some (d, p) by simpa [Value.cells] using hf) with ⟨hcs, _⟩ | ⟨a, n, c, m, fu, V, D, Pl, hcs, _, hl, hm, hmm, _, hx⟩
  · injection hcs with hcs
    injection hcs with e1 e2 e3
    subst e1 e2 e3
    exact ⟨none, 0, 0, [], rfl, Nat.le_refl _, Nat.zero_le _, Parts.nil _⟩
  · injection hcs with hcs
    injection hcs with e1 e2 e3
    subst e1 e2 e3
    have hnm : len ≤ m := by rw [hmm]; simpa using hl
    have hB : ∀ i, i < len → ∃ B : List UInt8, ∃ Ai ci, V i = .slice Ai B.length ci ∧ B.length ≤ ci ∧ Rd W Ai B.length (B.map bytec) := by
      intro i hi
      obtain ⟨hc, ht⟩ := hx i (by omega)
      obtain ⟨Ai, ni, ci, B, e, h1, h2, h3⟩ := open_u8s Tryd.underlying22 Tryd.underlying5 (by kernel_rfl) ht
      have hBl : B.length = ni := by simpa using h3.1
      subst hBl
      exact ⟨B, Ai, ci, e, h1, h3⟩
    obtain ⟨F, hF⟩ := choose_lt (α := List UInt8) hB
    refine ⟨some a, len, cap, (List.range len).map F, rfl, hl, hm, (List.range len).map V, ⟨by simp, fun _ => ⟨a, rfl, fun j u hu => ?_⟩⟩, by simp, fun i v B hv hB => ?_⟩
    · have hj : j < len := by have := (List.getElem?_eq_some_iff.1 hu).1; simpa using this
      rw [List.getElem?_map, List.getElem?_range hj] at hu
      simp at hu
      subst hu
      exact (hx j (by omega)).1
    · have hj : i < len := by have := (List.getElem?_eq_some_iff.1 hv).1; simpa using this
      rw [List.getElem?_map, List.getElem?_range hj] at hv hB
      simp at hv hB
      subst hv hB
      exact hF i hj

set_option maxHeartbeats 800000 in
theorem long_any (A : Option Addr) (n c : Nat) (L : List (List UInt8)) (w : World) (hp : Parts w A n L) (hn : n ≤ maxLen) (q : Bool) (hq : decide (1500 < n + L.flatten.length) = q) :
    Calls Tryd.prog 11 #[.slice A n c] w fun e w' => e = .returned (.bool q) ∧ w = w' := by
  obtain ⟨vs, h1, h2, h3⟩ := hp
  have hLn : L.length = n := by rw [← h2, h1.1]
  unfold maxLen at hn
  have H1 := Lib.hid h1
  have H2 := Lib.hid h2
  have H3 := Lib.hid h3
  have HLN := Lib.hid hLn
  have HQ := Lib.hid hq
  clear h1 h2 h3 hLn hq
  go_enter Tryd.func11, Tryd.ntmps11
  go_wp2_with fail
  go_loop [3, 4] (fun v i => ∃ k m : Nat, k ≤ n ∧ i = .int .i64 (k : Int) ∧ v = .int .i64 (m : Int) ∧ m ≤ n + (L.take k).flatten.length ∧ (m ≤ 1500 → m = n + (L.take k).flatten.length) ∧ (m = n ∨ m ≤ 3001)) (fun _ i => n - (intOf i).toNat)
  case atStart => exact ⟨0, n, by omega, rfl, rfl, by simp, by simp, .inl rfl⟩
  case round =>
    obtain ⟨k, m, hk, rfl, rfl, hm1, hm2, hm3⟩ := hrel
    by_cases hlt : k < n
    · by_cases hfew : m ≤ 1500
      · obtain ⟨ad, v, rfl, hv, hcell⟩ := H1.out.at_ hlt
        obtain ⟨B, hB⟩ : ∃ B, L[k]? = some B := ⟨_, List.getElem?_eq_getElem (by rw [HLN.out]; exact hlt)⟩
        obtain ⟨Ai, ci, rfl, hl, hr⟩ := H3.out k v B hv hB
        have hft := flat_take hB
        have hfl : (L.take (k + 1)).flatten.length = (L.take k).flatten.length + B.length := by rw [hft, List.length_append]
        obtain ⟨b, hb⟩ : ∃ b, b = B.length := ⟨_, rfl⟩
        rw [← hb] at hfl hcell
        obtain ⟨F1, hF1⟩ : ∃ x, x = (L.take (k + 1)).flatten.length := ⟨_, rfl⟩
        have HF1 := Lib.hid hF1
        rw [← hF1] at hfl
        have i1 : (k : Int) < (n : Int) := by omega
        have i2 : (m : Int) ≤ 1500 := by omega
        clear hv hB hl hr hft hb hF1
        go_wp2_with fail
        obtain ⟨y, hy⟩ : ∃ y : Nat, ((m : Int) + if 1501 < (b : Int) then 1501 else (b : Int)) = (y : Int) := by
          split
          · exact ⟨m + 1501, by omega⟩
          · exact ⟨m + b, by omega⟩
        have hyb : (y = m + 1501 ∧ 1501 < b) ∨ (y = m + b ∧ b ≤ 1501) := by
          split at hy <;> omega
        rw [hy]
        have hm := hm2 hfew
        refine ⟨⟨k + 1, y, by omega, by go_num, rfl, by rw [← HF1.out]; omega, fun h => by rw [← HF1.out]; omega, .inr (by omega)⟩, by simp [intOf]; omega⟩
      · have hle := flat_le L k
        have t1 : decide ((m : Int) ≤ 1500) = false := by simp; omega
        have t2 : decide (1500 < (m : Int)) = true := by simp; omega
        have hqt : q = true := by rw [← HQ.out]; exact decide_eq_true (by omega)
        go_wp2_with fail
        go_ret
        exact ⟨rfl, rfl⟩
    · obtain rfl : k = n := by omega
      have e : L.take k = L := List.take_of_length_le (by rw [HLN.out]; omega)
      rw [e] at hm1 hm2
      have hqm : decide (1500 < m) = q := by
        rw [← HQ.out]
        congr 1
        apply propext
        constructor
        · intro h; omega
        · intro h
          rcases Nat.lt_or_ge 1500 m with h2 | h2
          · exact h2
          · have := hm2 h2; omega
      by_cases h15 : 1500 < m
      · have t2 : decide (1500 < (m : Int)) = true := by simp; omega
        have hqt : q = true := by rw [← hqm]; exact decide_eq_true (by omega)
        clear hqm
        go_wp2_with fail
        go_ret
        exact ⟨rfl, rfl⟩
      · have t2 : decide (1500 < (m : Int)) = false := by simp; omega
        have hqt : q = false := by rw [← hqm]; exact decide_eq_false (by omega)
        clear hqm
        go_wp2_with fail
        go_ret
        exact ⟨rfl, rfl⟩
end Go.Proofs.YtjjeahijcibafaaDoor
