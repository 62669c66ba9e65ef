/-
  Layer 14, the program: Right; slices of values. THE CONTRACTS as one word.
-/
import Derived.Test.YtmiofhoojahpjaaVaI
namespace Go.Proofs.Ytmiofhoojahpjaa
open Go.RowKit Mem Go.Lib VaM LebM UtfM
attribute [local go_sem ↓] Go.wp_at_zero Go.wp_at_succ
set_option linter.unusedVariables false

/-- a slice reads as these values -/
def Vls (w : World) (A : Option Addr) (n : Nat) (L : List V) : Prop := L.length = n ∧ ∀ k v, L[k]? = some v → ∃ b o, A = some ⟨b, o, none⟩ ∧ b < w.heap.size ∧
  w.cell? ⟨b, o + k * 4, none⟩ = some (.int .i64 v.k) ∧ w.cell? ⟨b, o + k * 4 + 1, none⟩ = some (.int .u64 (v.u : Int)) ∧ w.cell? ⟨b, o + k * 4 + 2, none⟩ = some (.int .i64 v.n) ∧ w.cell? ⟨b, o + k * 4 + 3, none⟩ = some (.string (txt v.s))
theorem Vls.fr {S : Nat → Prop} {w w' : World} {A : Option Addr} {n : Nat} {L : List V} (h : Vls w A n L) (hf : Fr S w w') (hS : ∀ ad, A = some ad → ¬ S ad.block) : Vls w' A n L :=
  ⟨h.1, fun k v hk => by
    obtain ⟨b, o, e, hb, h0, h1, h2, h3⟩ := h.2 k v hk
    exact ⟨b, o, e, Nat.lt_of_lt_of_le hb hf.size, hf.cell h0 (hS ⟨b, o, none⟩ e), hf.cell h1 (hS ⟨b, o, none⟩ e), hf.cell h2 (hS ⟨b, o, none⟩ e), hf.cell h3 (hS ⟨b, o, none⟩ e)⟩⟩
theorem Vls.nil (w : World) (A : Option Addr) : Vls w A 0 [] := ⟨rfl, fun k t h => by simp at h⟩
theorem v_flat : ∀ (T : List V) (k : Nat) (t : V), T[k]? = some t → ∀ j, j < 4 → (T.flatMap vls)[k * 4 + j]? = (vls t)[j]?
  | [], k, t, h, j, hj => by simp at h
  | s :: T, 0, t, h, j, hj => by
    simp at h
    subst h
    rw [List.flatMap_cons, List.getElem?_append_left (by show _ < 4; omega), Nat.zero_mul, Nat.zero_add]
  | s :: T, k + 1, t, h, j, hj => by
    rw [List.flatMap_cons, List.getElem?_append_right (by show 4 ≤ _; omega), show (k + 1) * 4 + j - (vls s).length = k * 4 + j by show (k + 1) * 4 + j - 4 = _; omega]
    exact v_flat T k t (by simpa using h) j hj
/-- a block of values -/
theorem Vls.row {w : World} {b : Nat} {L : List V} (h : Row w b 30 (L.flatMap vls)) : Vls w (some ⟨b, 0, none⟩) L.length L := by
  refine ⟨rfl, fun k v hk => ⟨b, 0, rfl, h.lt, ?_, ?_, ?_, ?_⟩⟩
  all_goals rw [Nat.zero_add]
  · exact h.cell (v_flat L k v hk 0 (by omega))
  · exact h.cell (v_flat L k v hk 1 (by omega))
  · exact h.cell (v_flat L k v hk 2 (by omega))
  · exact h.cell (v_flat L k v hk 3 (by omega))

set_option maxRecDepth 100000 in
set_option maxHeartbeats 3200000 in
theorem pvRight_any (A : Option Addr) (n c : Nat) (L : List V) (w : World) (hL : Vls w A n L) (hn : n ≤ 1000000) (hok : ∀ v ∈ L, v.ok ∧ v.s.length ≤ 1000000) :
    Calls Try.prog 34 #[.slice A n c] w fun e w' => e = .returned (.bool (L.all rightV)) ∧ Fr (fun _ => False) w w' := by
  have hln := hL.1
  obtain ⟨r, hr⟩ : ∃ r, L.all rightV = r := ⟨_, rfl⟩
  rw [hr]
  have HR := Lib.hid hr
  have HL := Lib.hid hL
  have HLN := Lib.hid hln
  have HOK := Lib.hid hok
  clear hL hln hok hr
  go_enter Try.func34, Try.ntmps34
  go_wp2_with fail
  go_loopw [7] (fun i wr => ∃ k : Nat, k ≤ n ∧ i = .int .i64 (k : Int) ∧ Hid ((L.take k).all rightV = true) ∧ Hid (Fr (fun _ => False) w wr)) (fun i _ => n - (intOf i).toNat)
  case atStart => exact ⟨0, Nat.zero_le _, rfl, (by simp : (L.take 0).all rightV = true), Fr.refl _ _⟩
  case round =>
    obtain ⟨k, hk, rfl, HA, HF⟩ := hrel
    rename World => wr
    by_cases hlt : k < n
    · obtain ⟨v, hv⟩ : ∃ v, L[k]? = some v := ⟨_, List.getElem?_eq_getElem (by have := HLN.out; omega)⟩
      obtain ⟨g, o, rfl, hg, h0, h1, h2, h3⟩ := (HL.out.fr HF.out (fun _ _ => id)).2 k v hv
      obtain ⟨hvo, hvl⟩ := HOK.out v (List.mem_of_getElem? hv)
      obtain ⟨q, hq⟩ : ∃ q, rightV v = q := ⟨_, rfl⟩
      have hnext : (L.take (k + 1)).all rightV = q := by
        rw [List.take_add_one, hv, List.all_append, HA.out, Option.toList_some]
        simp [hq]
      obtain ⟨p, hp⟩ : ∃ p, wr.heap.size = p := ⟨_, rfl⟩
      obtain ⟨w1, hw1⟩ : ∃ w1, wr.alloc (.cells #[.int .i64 0, .int .u64 0, .int .i64 0, .string ⟨#[]⟩] 30) = w1 := ⟨_, rfl⟩
      have hf1 : Fr (fun _ => False) wr w1 := by rw [← hw1]; exact (Fr.refl _ _).alloc _
      have hr1 : RowV w1 p zeroV := by rw [← hw1, ← hp]; exact RowV.new wr zeroV
      have hmb := fun w => mayBe_any v w hvo hvl
      simp only [hq, valc] at hmb
      have HM := Lib.hid hmb
      have HNX := Lib.hid hnext
      have HW1 := Lib.hid hr1
      have HP := Lib.hid hp
      have HF1 := Lib.hid hf1
      clear hv hmb hnext hr1 hf1 hq hvo hvl
      go_wp2_with (refine store_st vSz rfl (.tmp 4) (.tmp 10) rfl p (by rfl) (vls v) (by rfl) _ _ HW1.out rfl rfl (v_one _) ?_)
      intro w2 hr2 hf2
      have hv2 : RowV w2 p v := hr2
      obtain ⟨c0, c1, c2, c3⟩ := hv2.cells
      have HF2 := Lib.hid (HF.out.trans (HF1.out.trans hf2 (fun b hb h => by have := HP.out; omega)) (fun _ _ h => h))
      clear hr2 hf2 hv2 hw1 hp
      go_wp2_with fail
      refine (HM.out w2).mono ?_
      rintro e w3 ⟨rfl, hf3⟩
      have HF3 := Lib.hid (HF2.out.trans hf3 (fun _ _ h => h))
      clear hf3
      cases q
      · have hrf : false = r := by
          rw [← HR.out, ← List.take_append_drop (k + 1) L, List.all_append, HNX.out, Bool.false_and]
        have HRF := Lib.hid hrf
        clear hrf
        go_wp2_with fail
        go_ret
        exact ⟨by rw [← HRF.out]; rfl, HF3.out⟩
      · go_wp2_with fail
        exact ⟨⟨k + 1, by omega, by go_num, HNX.out, HF3.out⟩, by simp [intOf]; omega⟩
    · obtain rfl : k = n := by omega
      have hrf : true = r := by
        rw [← HR.out]
        have := HA.out
        rw [List.take_of_length_le (by have := HLN.out; omega)] at this
        exact this.symm
      have HRF := Lib.hid hrf
      clear hrf
      go_wp2_with fail
      go_ret
      exact ⟨by rw [← HRF.out]; rfl, HF.out⟩
/-- what the program keeps -/
structure VaC : Prop where
  put : ∀ (v : V) (w : World), v.ok → Calls Try.prog 43 #[valc v] w (Tells w (putV v))
  get : ∀ (k : Int) (A : Option Addr) (n c : Nat) (B : List UInt8) (w : World), Rd w A n (B.map bytec) → n ≤ c → n ≤ 1000000 →
    Calls Try.prog 42 #[.int .i64 k, .slice A n c] w fun e w' => e = .returned (getR (getV k B)) ∧ Fr (fun _ => False) w w'
  right : ∀ (A : Option Addr) (n c : Nat) (L : List V) (w : World), Vls w A n L → n ≤ 1000000 → (∀ v ∈ L, v.ok ∧ v.s.length ≤ 1000000) →
    Calls Try.prog 34 #[.slice A n c] w fun e w' => e = .returned (.bool (L.all rightV)) ∧ Fr (fun _ => False) w w'
theorem vaC : VaC := ⟨pvPut_any, pvGet_any, pvRight_any⟩
end Go.Proofs.Ytmiofhoojahpjaa
