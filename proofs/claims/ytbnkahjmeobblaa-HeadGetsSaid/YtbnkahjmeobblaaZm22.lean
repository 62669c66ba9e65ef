/-
  Layer 20, the reference: Less.
  Layer 20, the program: rightNumber, rising.
-/
import Derived.Test.YtbnkahjmeobblaaZm21
import Derived.Test.YtbnkahjmeobblaaZm10
import Derived.Test.YtbnkahjmeobblaaZm12
import Derived.BigQuiet
namespace Go.Proofs.Ytbnkahjmeobblaa
open Go.RowKit Mem Go.Lib LebM UtfM VaM OpM AcM HeM
attribute [local go_sem ↓] Go.wp_at_zero Go.wp_at_succ
set_option linter.unusedVariables false

theorem less_at : ∀ (x y : Tx) (i : Nat) (a b : UInt8), x.take i = y.take i → x[i]? = some a → y[i]? = some b → a ≠ b → Op.bytesLess x y = decide (a.toNat < b.toNat)
  | [], _, _, _, _, _, h, _, _ => by simp at h
  | _ :: _, [], _, _, _, _, _, h, _ => by simp at h
  | c :: x, d :: y, 0, a, b, _, hx, hy, hne => by
    simp at hx hy
    subst hx hy
    have h := bless_cons c d x y
    by_cases hl : c.toNat < d.toNat
    · rw [decide_eq_true hl]; exact h.2 (.inl hl)
    · rw [decide_eq_false hl]
      cases hq : Op.bytesLess (c :: x) (d :: y)
      · rfl
      · rcases h.1 hq with h1 | h1
        · exact absurd h1 hl
        · exact absurd h1.1 hne
  | c :: x, d :: y, i + 1, a, b, ht, hx, hy, hne => by
    simp at ht hx hy
    obtain ⟨rfl, ht⟩ := ht
    have ih := less_at x y i a b ht hx hy hne
    rw [← ih]
    have h := bless_cons c c x y
    cases hq : Op.bytesLess x y
    · cases hp : Op.bytesLess (c :: x) (c :: y)
      · rfl
      · rcases h.1 hp with h1 | h1
        · exact absurd h1 (Nat.lt_irrefl _)
        · rw [hq] at h1; exact absurd h1.2 (by simp)
    · exact h.2 (.inr ⟨rfl, hq⟩)
set_option maxRecDepth 100000 in
set_option maxHeartbeats 3200000 in
theorem rLess_any (x y : Tx) (w : World) (hx : x.length = 32) (hy : y.length = 32) (C D : Array Value) (hC : (x.map bytec).toArray = C) (hD : (y.map bytec).toArray = D) :
    Calls Try.prog 27 #[.agg C, .agg D] w fun e w' => e = .returned (.bool (Op.bytesLess x y)) ∧ Fr (fun _ => False) w w' := by
  obtain ⟨r, hr⟩ : ∃ r, Op.bytesLess x y = r := ⟨_, rfl⟩
  rw [hr]
  obtain ⟨g, hg⟩ : ∃ g, w.heap.size = g := ⟨_, rfl⟩
  obtain ⟨w1, hw1⟩ : ∃ w1, w.alloc (.cells C 60) = w1 := ⟨_, rfl⟩
  obtain ⟨g2, hg2⟩ : ∃ g, w1.heap.size = g := ⟨_, rfl⟩
  obtain ⟨w2, hw2⟩ : ∃ w2, w1.alloc (.cells D 60) = w2 := ⟨_, rfl⟩
  have HX : Hid (Row w2 g 60 (x.map bytec)) := Lib.hid (by rw [← hw2]; refine Row.alloc ?_ _; rw [← hw1, ← hg, ← hC]; exact Row.new _ _ _)
  have HY : Hid (Row w2 g2 60 (y.map bytec)) := Lib.hid (by rw [← hw2, ← hg2, ← hD]; exact Row.new _ _ _)
  have HF : Hid (Fr (fun _ => False) w w2) := Lib.hid (by rw [← hw2, ← hw1]; exact ((Fr.refl _ _).alloc _).alloc _)
  have HXL := Lib.hid hx
  have HYL := Lib.hid hy
  have HRR := Lib.hid hr
  clear hx hy hC hD hr
  go_enter Try.func27, Try.ntmps27
  go_wp2_with fail
  clear hw1 hw2 hg hg2
  go_loopw [5] (fun v wr => ∃ i : Nat, i ≤ 32 ∧ v = .int .i64 (i : Int) ∧ Hid (x.take i = y.take i) ∧ Hid (Fr (fun _ => False) w2 wr)) (fun v _ => 32 - (intOf v).toNat)
  case atStart => exact ⟨0, Nat.zero_le _, rfl, Lib.hid rfl, Lib.hid (Fr.refl _ _)⟩
  case round =>
    obtain ⟨i, hi, rfl, HE, HFr⟩ := hrel
    rename World => wr
    by_cases hlt : i < 32
    · have t1 : decide ((i : Int) < 32) = true := decide_eq_true (by omega)
      have hlt2 : (i : Int) < 32 := by omega
      obtain ⟨a, ha⟩ : ∃ a, x[i]? = some a := ⟨_, List.getElem?_eq_getElem (by have := HXL.out; omega)⟩
      obtain ⟨b, hb⟩ : ∃ b, y[i]? = some b := ⟨_, List.getElem?_eq_getElem (by have := HYL.out; omega)⟩
      have c1 : wr.cell? ⟨g, i, none⟩ = some (.int .u8 (a.toNat : Int)) := (HX.out.fr HFr.out (fun h => h)).cell (by rw [List.getElem?_map, ha]; rfl)
      have c2 : wr.cell? ⟨g2, i, none⟩ = some (.int .u8 (b.toNat : Int)) := (HY.out.fr HFr.out (fun h => h)).cell (by rw [List.getElem?_map, hb]; rfl)
      have HA := Lib.hid ha
      have HB := Lib.hid hb
      clear ha hb
      by_cases hab : a = b
      · subst hab
        have t2 : ((a.toNat : Int) != (a.toNat : Int)) = false := by simp
        have c1' : wr.drew.cell? ⟨g, i, none⟩ = some (.int .u8 (a.toNat : Int)) := c1
        have c2' : wr.drew.cell? ⟨g2, i, none⟩ = some (.int .u8 (a.toNat : Int)) := c2
        go_wp2_with fail
        go_still (by kernel_rfl)
        go_wp2_with fail
        exact ⟨⟨i + 1, by omega, rfl, Lib.hid (by rw [List.take_add_one, List.take_add_one, HA.out, HB.out, HE.out]), Lib.hid HFr.out.drew⟩, by show 32 - ((i : Int) + 1).toNat < 32 - (i : Int).toNat; omega⟩
      · have hab' : a.toNat ≠ b.toNat := fun e => hab (UInt8.toNat_inj.1 e)
        have t2 : ((a.toNat : Int) != (b.toNat : Int)) = true := by simp; omega
        have HR : Hid (r = decide (a.toNat < b.toNat)) := Lib.hid (by rw [← HRR.out]; exact less_at x y i a b HE.out HA.out HB.out hab)
        obtain ⟨na, hna⟩ : ∃ n, a.toNat = n := ⟨_, rfl⟩
        obtain ⟨nb, hnb⟩ : ∃ n, b.toNat = n := ⟨_, rfl⟩
        rw [hna] at c1 HR t2
        rw [hnb] at c2 HR t2
        have hrt := HR.out
        subst hrt
        have t3 : decide ((na : Int) < (nb : Int)) = decide (na < nb) := decide_eq_decide.2 (by omega)
        have c1' : wr.drew.cell? ⟨g, i, none⟩ = some (.int .u8 (na : Int)) := c1
        have c2' : wr.drew.cell? ⟨g2, i, none⟩ = some (.int .u8 (nb : Int)) := c2
        have hfd : Fr (fun _ => False) w wr.drew := (HF.out.trans HFr.out (fun _ _ h => h)).drew
        obtain ⟨wd, hwd⟩ : ∃ wd, wr.drew = wd := ⟨_, rfl⟩
        rw [hwd] at c1' c2' hfd
        have c1'' : wd.drew.cell? ⟨g, i, none⟩ = some (.int .u8 (na : Int)) := c1'
        have c2'' : wd.drew.cell? ⟨g2, i, none⟩ = some (.int .u8 (nb : Int)) := c2'
        have HFD := Lib.hid hfd
        have HWD := Lib.hid hwd
        clear hab hab' hna hnb hfd hwd
        go_wp2_with fail
        go_still (by kernel_rfl)
        change Exit.then _ _ _ _ wr.drew
        rw [HWD.out]
        go_wp2_with fail
        go_still (by kernel_rfl)
        change Exit.then _ _ _ _ wd.drew
        go_wp2_with fail
        go_ret
        exact ⟨rfl, HFD.out.drew⟩
    · have t1 : decide ((i : Int) < 32) = false := decide_eq_false (by omega)
      have hi32 : i = 32 := by omega
      have HR : Hid (r = false) := Lib.hid (by
        have h := HE.out
        rw [List.take_of_length_le (by have := HXL.out; omega), List.take_of_length_le (by have := HYL.out; omega)] at h
        rw [← HRR.out, h]
        exact bless_irr y)
      have hrt := HR.out
      subst hrt
      go_wp2_with fail
      go_ret
      exact ⟨rfl, HF.out.trans HFr.out (fun _ _ h => h)⟩
end Go.Proofs.Ytbnkahjmeobblaa
namespace Go.Proofs.Ytbnkahjmeobblaa
open Go.RowKit Mem Go.Lib LebM UtfM VaM OpM AcM HeM
attribute [local go_sem ↓] Go.wp_at_zero Go.wp_at_succ
set_option linter.unusedVariables false

theorem sw20 {F : FuncId} {args : Array Value} {w : World} {v : Value} (h : Calls Try.prog F args w fun e w' => e = .returned v ∧ w = w') : Calls Try.prog F args w fun e w' => e = .returned v ∧ w' = w := h.mono (fun _ _ g => ⟨g.1, g.2.symm⟩)
set_option maxRecDepth 100000 in
theorem rightN_any (n : Int) (w : World) : Calls Try.prog 22 #[.int .i64 n] w fun e w' => e = .returned (.bool (rightN n)) ∧ w = w' := by
  obtain ⟨a, ha⟩ : ∃ a, decide (1 ≤ n) = a := ⟨_, rfl⟩
  obtain ⟨b, hb⟩ : ∃ b, decide (n ≤ 9007199254740991) = b := ⟨_, rfl⟩
  have e : rightN n = (a && b) := by unfold rightN; rw [ha, hb]
  rw [e]
  clear e
  cases a with
  | false =>
    go_enter Try.func22, Try.ntmps22
    go_wp2_with fail
    go_ret
    exact ⟨rfl, rfl⟩
  | true =>
    go_enter Try.func22, Try.ntmps22
    go_wp2_with fail
    go_ret
    exact ⟨rfl, rfl⟩
set_option maxRecDepth 100000 in
set_option maxHeartbeats 3200000 in
theorem rising_any (A : Option Addr) (n c : Nat) (L : List Tx) (w : World) (hL : Hsh w A n L) (hn : n ≤ 1000000) :
    Calls Try.prog 24 #[.slice A n c] w fun e w' => e = .returned (.bool (rises L)) ∧ Fr (fun _ => False) w w' := by
  have HL := Lib.hid hL
  have HLN := Lib.hid hL.1
  obtain ⟨r, hr⟩ : ∃ r, rises L = r := ⟨_, rfl⟩
  have HI := Lib.hid (rises_iff L)
  rw [hr] at HI ⊢
  clear hL hr
  go_enter Try.func24, Try.ntmps24
  go_wp2_with fail
  go_loopw [3] (fun v wr => ∃ i : Nat, 1 ≤ i ∧ (i ≤ n ∨ i = 1) ∧ v = .int .i64 (i : Int) ∧ Hid (∀ j, j + 1 < i → Op.bytesLess (L.getD j []) (L.getD (j + 1) []) = true) ∧ Hid (Fr (fun _ => False) w wr)) (fun v _ => n - (intOf v).toNat)
  case atStart => exact ⟨1, Nat.le_refl _, .inr rfl, rfl, Lib.hid (fun j hj => by omega), Lib.hid (Fr.refl _ _)⟩
  case round =>
    obtain ⟨i, hi1, hin, rfl, HE, HF⟩ := hrel
    rename World => wr
    by_cases hlt : i < n
    · obtain ⟨k, hk⟩ : ∃ k, i = k + 1 := ⟨i - 1, by omega⟩
      obtain ⟨x, hx⟩ : ∃ x, L[k]? = some x := ⟨_, List.getElem?_eq_getElem (by have := HLN.out; omega)⟩
      obtain ⟨y, hy⟩ : ∃ y, L[i]? = some y := ⟨_, List.getElem?_eq_getElem (by have := HLN.out; omega)⟩
      have hLr := HL.out.fr HF.out
      obtain ⟨g, o, rfl, _, hrx⟩ := hLr.2.2 k x hx
      obtain ⟨g', o', e', _, hry⟩ := hLr.2.2 i y hy
      injection e' with e'
      injection e' with e1 e2
      subst e1 e2
      have hx32 := HL.out.2.1 x (List.mem_of_getElem? hx)
      have hy32 := HL.out.2.1 y (List.mem_of_getElem? hy)
      have hrx' := range_rd hrx
      have hry' := range_rd hry
      rw [hx32] at hrx'
      rw [hy32] at hry'
      have hcm := sw20 (compare_any _ 32 32 x _ 32 32 y wr.drew hrx'.drew hry'.drew)
      have hge := compare_ge x y
      obtain ⟨d, hd⟩ : ∃ d, compareBytes x y = d := ⟨_, rfl⟩
      obtain ⟨b, hb⟩ : ∃ b, Op.bytesLess x y = b := ⟨_, rfl⟩
      rw [hd] at hcm hge
      rw [hb] at hge
      have HB : Hid (Op.bytesLess (L.getD k []) (L.getD (k + 1) []) = b) := Lib.hid (by rw [← hb, ← hk, List.getD_eq_getElem?_getD, List.getD_eq_getElem?_getD, hx, hy]; rfl)
      have HCM := Lib.hid hcm
      have HK := Lib.hid hk
      have e1 : IntKind.i64.wrap ((i : Int) - 1) = (k : Int) := by rw [IntKind.wrap_i64]; omega
      have hkn : k < n := by omega
      have t1 : decide ((i : Int) < (n : Int)) = true := decide_eq_true (by omega)
      clear hcm hrx hry hrx' hry' hx32 hy32 hLr hx hy hd hb hk
      cases b with
      | true =>
        have hge' : decide (0 ≤ d) = false := hge
        clear hge
        go_wp2_with fail
        refine wp_region_still_lit (by kernel_rfl) (by kernel_rfl) ?_
        repeat still_step
        still_call HCM.out
        repeat still_step
        refine wpStill_nil ?_
        go_wp2_with fail
        exact ⟨⟨i + 1, by omega, .inl (by omega), by congr 1, Lib.hid (fun j hj => by
          by_cases hj2 : j + 1 < i
          · exact HE.out j hj2
          · obtain rfl : j = k := by have := HK.out; omega
            exact HB.out), Lib.hid HF.out.drew⟩, by show n - ((i : Int) + 1).toNat < n - (i : Int).toNat; omega⟩
      | false =>
        have hge' : decide (0 ≤ d) = true := hge
        have HR : Hid (r = false) := Lib.hid (by
          cases r with
          | false => rfl
          | true =>
            have h := HI.out.1 rfl k (by have := HLN.out; have := HK.out; omega)
            rw [HB.out] at h
            cases h)
        have hrt := HR.out
        subst hrt
        clear hge
        go_wp2_with fail
        refine wp_region_still_lit (by kernel_rfl) (by kernel_rfl) ?_
        repeat still_step
        still_call HCM.out
        repeat still_step
        refine wpStill_nil ?_
        go_wp2_with fail
        go_ret
        exact ⟨rfl, HF.out.drew⟩
    · have t1 : decide ((i : Int) < (n : Int)) = false := decide_eq_false (by omega)
      have HR : Hid (r = true) := Lib.hid (HI.out.2 (fun j hj => HE.out j (by have := HLN.out; omega)))
      have hrt := HR.out
      subst hrt
      go_wp2_with fail
      go_ret
      exact ⟨rfl, HF.out⟩
end Go.Proofs.Ytbnkahjmeobblaa
