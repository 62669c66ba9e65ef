/-
  Layer 16, the program: Find.
-/
import Derived.Test.YtfgjneodhmfknaaDirC
namespace Go.Proofs.Ytfgjneodhmfknaa
open Go.RowKit Mem Go.Lib LebM DirM
attribute [local go_sem ↓] Go.wp_at_zero Go.wp_at_succ
set_option linter.unusedVariables false

theorem find_at {L : List Cl} {k : Nat} {x : Cl} {id : Int} (hx : L[k]? = some x) (h : ∀ (j : Nat) (y : Cl), j < k → L[j]? = some y → (y.id : Int) ≠ id) (he : (x.id : Int) = id) : findC (L.map Cl.v) id = x.B := by
  induction L generalizing k with
  | nil => simp at hx
  | cons y L ih =>
    cases k with
    | zero =>
      simp at hx
      subst hx
      show (if (y.id : Int) = id then y.B else _) = _
      rw [if_pos he]
    | succ k =>
      show (if (y.id : Int) = id then y.B else findC (L.map Cl.v) id) = _
      rw [if_neg (h 0 y (by omega) (by simp))]
      exact ih (by simpa using hx) (fun j z hj hz => h (j + 1) z (by omega) (by simpa using hz))
theorem find_none {L : List Cl} {id : Int} (h : ∀ (j : Nat) (y : Cl), L[j]? = some y → (y.id : Int) ≠ id) : findC (L.map Cl.v) id = [] := by
  induction L with
  | nil => rfl
  | cons y L ih =>
    show (if (y.id : Int) = id then y.B else findC (L.map Cl.v) id) = _
    rw [if_neg (h 0 y (by simp))]
    exact ih (fun j z hz => h (j + 1) z (by simpa using hz))
set_option maxRecDepth 100000 in
set_option maxHeartbeats 3200000 in
/-- THE CONTRACT of Find -/
theorem find_any (A : Option Addr) (n c : Nat) (L : List Cl) (id : Int) (w : World) (hL : Cols w A n L) (hn : n ≤ 1000000) (hb : ∀ x ∈ L, x.B.length ≤ 1000000) :
    Calls Try.prog 12 #[.slice A n c, .int .i64 id] w (Gives w (findC (L.map Cl.v) id)) := by
  have hln := hL.1.1
  have HL := Lib.hid hL
  have HLN := Lib.hid hln
  have HBB := Lib.hid hb
  obtain ⟨base, hbase⟩ : ∃ base, base = w.heap.size := ⟨_, rfl⟩
  have HB := Lib.hid hbase
  unfold Gives
  rw [← hbase]
  clear hL hln hb hbase
  go_enter Try.func12, Try.ntmps12
  go_wp2_with fail
  go_loopw [9] (fun v wr => ∃ (k : Nat), k ≤ n ∧ v = .int .i64 (k : Int) ∧ Hid (∀ (j : Nat) (y : Cl), j < k → L[j]? = some y → (y.id : Int) ≠ id) ∧ Hid (Fr (fun _ => False) w wr)) (fun v _ => n - (intOf v).toNat)
  case atStart => exact ⟨0, Nat.zero_le _, rfl, (fun j y h => absurd h (by omega)), Fr.refl _ _⟩
  case round =>
    obtain ⟨k, hk, rfl, HN, HF⟩ := hrel
    rename World => wr
    by_cases hlt : k < n
    · obtain ⟨x, hx⟩ : ∃ x, L[k]? = some x := ⟨_, List.getElem?_eq_getElem (by have := HLN.out; omega)⟩
      obtain ⟨gx, ox, rfl, hgx, h0, h1⟩ := (HL.out.1.fr HF.out (fun _ _ => fun h => h)).2 k x hx
      have hby := HL.out.2 x (List.mem_of_getElem? hx)
      have hxb := HBB.out x (List.mem_of_getElem? hx)
      simp only [idc, dac] at h0 h1
      obtain ⟨z, hz⟩ : ∃ z, x.B.length = z := ⟨_, rfl⟩
      obtain ⟨i, hi⟩ : ∃ i : Int, (x.id : Int) = i := ⟨_, rfl⟩
      rw [hz] at h1 hxb
      rw [hi] at h0
      obtain ⟨p, hp⟩ : ∃ p, wr.heap.size = p := ⟨_, rfl⟩
      obtain ⟨w1, hw1⟩ : ∃ w1, wr.alloc (.cells #[.int .i64 0, .slice none 0 0] 45) = w1 := ⟨_, rfl⟩
      have hf1 : Fr (fun _ => False) wr w1 := by rw [← hw1]; exact (Fr.refl _ _).alloc _
      have hr1 : Row w1 p 45 [.int .i64 0, .slice none 0 0] := by rw [← hw1, ← hp]; exact Row.new wr _ _
      have HW1 := Lib.hid hr1
      have HPP := Lib.hid hp
      have HF1 := Lib.hid hf1
      have HBY := Lib.hid hby
      have HX := Lib.hid hx
      have HZ := Lib.hid hz
      have HIE := Lib.hid hi
      clear hx hby hz hi hr1 hf1
      go_upto_region 4 with (refine store_st colSz rfl (.tmp 6) (.tmp 12) rfl p (by rfl) [.int .i64 i, .slice x.A z x.c] (by rfl) _ _ HW1.out rfl rfl (by simp [Value.oneCell']) ?_)
      intro w2 hr2 hf2
      have k0 : w2.cell? ⟨p, 0, none⟩ = some (.int .i64 i) := hr2.cell rfl
      have k1 : w2.cell? ⟨p, 1, none⟩ = some (.slice x.A z x.c) := hr2.cell rfl
      have hfr2 : Fr (fun _ => False) wr w2 := HF1.out.trans hf2 (fun b hb h => by have := HPP.out; omega)
      have HFR2 := Lib.hid (HF.out.trans hfr2 (fun _ _ h => h))
      clear hr2 hf2 hw1 hp h0 h1 hfr2
      by_cases he : i = id
      · have t0 : (i == id) = true := by simpa using he
        have hby2 := HBY.out.1.fr HFR2.out (fun _ _ h => h)
        rw [HZ.out] at hby2
        have hcl := cloneB_any x.A z x.c x.B w2 hby2 (by omega)
        have hfi : findC (L.map Cl.v) id = x.B := find_at HX.out HN.out (by rw [HIE.out, he])
        have HFI := Lib.hid hfi
        have HCL := Lib.hid hcl
        clear hby2 hcl hfi he
        go_wp2_with fail
        refine HCL.out.mono ?_
        rintro e w3 ⟨A3, c3, rfl, ho3, hf3⟩
        have HO3 := Lib.hid (ho3.base (by have h1 := HB.out; have h2 := HFR2.out.size; omega : base ≤ w2.heap.size))
        have HF3 := Lib.hid (HFR2.out.trans hf3 (fun _ _ h => h))
        clear ho3 hf3
        go_wp2_with fail
        go_ret
        rw [HFI.out]
        exact ⟨A3, c3, rfl, HO3.out, HF3.out⟩
      · have t0 : (i == id) = false := by simpa using he
        have HE := Lib.hid he
        clear he
        go_wp2_with fail
        go_roundw
        case rel =>
          refine ⟨k + 1, by omega, by go_num, Lib.hid (fun j y hj hy => ?_), HFR2⟩
          by_cases hjk : j = k
          · subst hjk
            rw [HX.out] at hy
            injection hy with hy
            subst hy
            rw [HIE.out]
            exact HE.out
          · exact HN.out j y (by omega) hy
        case measure => simp [intOf]; omega
    · obtain rfl : k = n := by omega
      have hfi : findC (L.map Cl.v) id = [] := find_none (fun j y hy => HN.out j y (by have := (List.getElem?_eq_some_iff.1 hy).1; have := HLN.out; omega) hy)
      have HFI := Lib.hid hfi
      clear hfi
      go_wp2_with fail
      go_ret
      rw [HFI.out]
      exact ⟨none, 0, rfl, Own.nil _ _, HF.out⟩
end Go.Proofs.Ytfgjneodhmfknaa
