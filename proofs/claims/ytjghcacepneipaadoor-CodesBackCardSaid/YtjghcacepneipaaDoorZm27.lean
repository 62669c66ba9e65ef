/-
  Layer 8's reference: trim, order.
  A region that draws its order, walked by the lone laws: the condition that is kept may be made more on the way. Nothing of any program here.
-/
import Derived.Test.YtjghcacepneipaaDoorZm03
import Derived.Test.YtjghcacepneipaaDoorZm08
import Derived.Deep.RegionHeld3
import Derived.Deep.DrawnRows
namespace Go.Proofs.YtjghcacepneipaaDoor
open Go.RowKit CoM Mem Go.Lib
attribute [local go_sem ↓] Go.wp_at_zero Go.wp_at_succ
set_option linter.unusedVariables false
set_option maxRecDepth 100000

theorem rd_take {w : World} {A : Option Addr} {n t : Nat} {xs : List Value} (h : Rd w A n xs) (ht : t ≤ n) : Rd w A t (xs.take t) :=
  ⟨by rw [List.length_take, h.1]; omega, fun hn => by
    obtain ⟨ad, e, hc⟩ := h.2 (by omega)
    refine ⟨ad, e, fun j u hu => hc j u ?_⟩
    rw [List.getElem?_take] at hu
    split at hu
    · exact hu
    · cases hu⟩
set_option maxHeartbeats 3200000 in
theorem rTrim_any (A : Option Addr) (n c m : Nat) (L : List Nat) (w : World) (hr : Rd w A n (L.map natc)) (hc : n ≤ c) (hn : n ≤ 1000) (hm : m ≤ n) :
    Calls Tryd.prog 34 #[.slice A n c, .int .i64 (m : Int)] w fun e w' => ∃ A', e = .returned (.slice A' (trimL L m).length c) ∧ (trimL L m).length ≤ c ∧ Rd w' A' (trimL L m).length ((trimL L m).map natc) ∧ Fr (fun _ => False) w w' := by
  have hln : L.length = n := by simpa using hr.1
  have HR := Lib.hid hr
  have HLN := Lib.hid hln
  clear hr hln
  go_enter Tryd.func34, Tryd.ntmps34
  go_wp2_with fail
  go_loopw [5, 6] (fun s i wr => ∃ k t : Nat, m + k ≤ n ∧ t ≤ n ∧ Hid (t = trimN L m k) ∧ i = .int .i64 ((m + k : Nat) : Int) ∧ s = .int .i64 (t : Int) ∧ Hid (Fr (fun _ => False) w wr)) (fun _ i _ => n - (intOf i).toNat)
  case atStart => exact ⟨0, m, hm, hm, rfl, rfl, rfl, Fr.refl _ _⟩
  case round =>
    obtain ⟨k, t, hk, htn, HT, rfl, rfl, HF⟩ := hrel
    rename World => wr
    obtain ⟨i, hi⟩ : ∃ i, i = m + k := ⟨_, rfl⟩
    rw [← hi] at hk ⊢
    by_cases hlt : i < n
    · obtain ⟨ad, rfl, hc1⟩ := nat_cell (HR.out.fr HF.out (fun _ _ h => h)) hlt
      by_cases hv : L[i]! = 0
      · rw [hv] at hc1
        have HT2 : Hid (t = trimN L m (k + 1)) := Lib.hid (by rw [trimN, ← hi, if_pos hv]; exact HT.out)
        replace hc1 : wr.cell? (ad.add i) = some (.int .i64 0) := hc1
        have HI := Lib.hid hi
        clear hv hi
        go_wp2_with fail
        exact ⟨⟨k + 1, t, by have := HI.out; omega, htn, HT2.out, by have := HI.out; first | go_num | (congr 1; omega), rfl, HF.out⟩, by simp [intOf]; omega⟩
      · obtain ⟨v, hvv⟩ : ∃ v, v = L[i]! := ⟨_, rfl⟩
        rw [← hvv] at hc1 hv
        have HT2 : Hid (i + 1 = trimN L m (k + 1)) := Lib.hid (by rw [trimN, ← hi, ← hvv, if_neg hv])
        have t1 : ((v : Int) != 0) = true := by simp; omega
        have t2 : ((v : Int) == 0) = false := by simp; omega
        have HI := Lib.hid hi
        clear hvv hi
        go_wp2_with fail
        exact ⟨⟨k + 1, i + 1, by have := HI.out; omega, by omega, HT2.out, by have := HI.out; first | go_num | (congr 1; omega), by go_num, HF.out⟩, by simp [intOf]; omega⟩
    · have hin : i = n := by omega
      have hl : trimL L m = L.take t := by rw [trimL, HLN.out, HT.out, show n - m = k by omega]
      have hll : (L.take t).length = t := by rw [List.length_take]; have := HLN.out; omega
      have HCUT := Lib.hid (rd_take (HR.out.fr HF.out (fun _ _ h => h)) htn)
      have HL := Lib.hid hl
      have HLL := Lib.hid hll
      clear hl hll hi
      go_wp2_with fail
      all_goals go_ret
      all_goals (rw [HL.out, HLL.out])
      all_goals exact ⟨A, rfl, by omega, by rw [List.map_take]; exact HCUT.out, HF.out⟩

theorem rOrder_any (w : World) : Calls Tryd.prog 36 #[] w fun e w' => ∃ A c, e = .returned (.slice A 19 c) ∧ Rd w' A 19 (ord.map natc) ∧ Fr (fun _ => False) w w' := by
  go_enter Tryd.func36, Tryd.ntmps36
  go_wp2_with fail
  go_ret
  exact ⟨_, _, rfl, Rd.cells rfl (ord.map natc) _, (Fr.refl _ _).alloc _⟩
/-- .. in a new block -/
theorem rOrder_new (w : World) : Calls Tryd.prog 36 #[] w fun e w' => ∃ g c, e = .returned (.slice (some ⟨g, 0, none⟩) 19 c) ∧ w.heap.size ≤ g ∧ Rd w' (some ⟨g, 0, none⟩) 19 (ord.map natc) ∧ Fr (fun _ => False) w w' := by
  go_enter Tryd.func36, Tryd.ntmps36
  go_wp2_with fail
  go_ret
  exact ⟨_, _, rfl, Nat.le_refl _, Rd.cells rfl (ord.map natc) _, (Fr.refl _ _).alloc _⟩
end Go.Proofs.YtjghcacepneipaaDoor
namespace Go.Proofs.YtjghcacepneipaaDoor
open Go

theorem wpAnyH_imp {P : Program} {md : Region.Mode} {ops : Array Oper} {Q : Exit → Act → World → Prop} {S S' : World → Prop} (hS : ∀ w, S' w → S w) :
    ∀ (fuel : Nat) (listed : Array Bool) (a : Act) (w : World), wpAnyH P md ops Q S' fuel listed a w → wpAnyH P md ops Q S fuel listed a w
  | 0, _, _, _, h => h
  | fuel + 1, _, _, _, h => ⟨h.1, fun i hi => wpOp_mono (fun a' w' h' => ⟨hS _ h'.1, wpAnyH_imp hS fuel _ a' w' h'.2⟩) (h.2 i hi)⟩
theorem wpAnyH_more {P : Program} {md : Region.Mode} {ops : Array Oper} {Q : Exit → Act → World → Prop} {S : World → Prop} (S' : World → Prop) {fuel : Nat} {listed : Array Bool} {a : Act} {w : World}
    (hS : ∀ w, S' w → S w) (h : S' w) (hk : S' w → wpAnyH P md ops Q S' fuel listed a w) : wpAnyH P md ops Q S fuel listed a w :=
  wpAnyH_imp hS fuel listed a w (hk h)
end Go.Proofs.YtjghcacepneipaaDoor
