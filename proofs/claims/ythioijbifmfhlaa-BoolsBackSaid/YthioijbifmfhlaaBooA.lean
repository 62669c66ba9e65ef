/-
  Layer 13, the program: rows of one cell each (numbers, truths); numbers.
-/
import Derived.Test.YthioijbifmfhlaaBooM
import Derived.Test.YthioijbifmfhlaaRleA
import Derived.Test.YthioijbifmfhlaaSt
import Derived.Lib.Hide
import Derived.Deep.QuietTactic
import Derived.BigQuiet
import Derived.StillTailTactics
import Derived.Deep.DrawnRows
namespace Go.Proofs.Ythioijbifmfhlaa
open Go.RowKit Mem Go.Lib BooM
attribute [local go_sem ↓] Go.wp_at_zero Go.wp_at_succ
set_option linter.unusedVariables false

def boc (b : Bool) : Value := .bool b
theorem boc_one (l : List Bool) : ∀ u ∈ l.map boc, u.oneCell' = true := by
  intro u hu
  obtain ⟨b, _, rfl⟩ := List.mem_map.1 hu
  rfl
theorem uT13 : ElemTy Try.prog 33 40 (.int .u64 0) 8 := ⟨Try.underlying33, by kernel_rfl, rfl⟩
theorem bT13 : ElemTy Try.prog 22 4 (.bool false) 1 := ⟨Try.underlying22, by kernel_rfl, rfl⟩
/-- rows of one's own: numbers, truths -/
def OwU (w : World) (base : Nat) (A : Option Addr) (c : Nat) (N : List Nat) : Prop := w.ownsRow base 40 1 (.slice A N.length c) N.length (N.map numc)
def OwB (w : World) (base : Nat) (A : Option Addr) (c : Nat) (L : List Bool) : Prop := w.ownsRow base 4 1 (.slice A L.length c) L.length (L.map boc)
theorem OwU.nil (w : World) (base : Nat) : OwU w base none 0 [] := World.ownsRow_nil _ _ _ _
theorem OwB.nil (w : World) (base : Nat) : OwB w base none 0 [] := World.ownsRow_nil _ _ _ _
theorem OwU.fr {w w' : World} {base c : Nat} {A : Option Addr} {N : List Nat} (h : OwU w base A c N) (hf : Fr (fun _ => False) w w') : OwU w' base A c N := hf.own h (fun _ _ h => h)
theorem OwB.fr {w w' : World} {base c : Nat} {A : Option Addr} {L : List Bool} (h : OwB w base A c L) (hf : Fr (fun _ => False) w w') : OwB w' base A c L := hf.own h (fun _ _ h => h)
theorem OwU.rd {w : World} {base c : Nat} {A : Option Addr} {N : List Nat} (h : OwU w base A c N) : Rd w A N.length (N.map numc) := Rd.of_own h
theorem OwB.rd {w : World} {base c : Nat} {A : Option Addr} {L : List Bool} (h : OwB w base A c L) : Rd w A L.length (L.map boc) := Rd.of_own h
theorem OwU.snoc {w : World} {base c n : Nat} {A : Option Addr} {N : List Nat} {x : Nat} (hn : N.length = n) (h : w.ownsRow base 40 1 (.slice A (n + 1) c) (n + 1) (N.map numc ++ [.int .u64 (x : Int)])) : OwU w base A c (N ++ [x]) := by
  subst hn
  unfold OwU
  rw [List.length_append, List.map_append, List.map_singleton]
  exact h
theorem OwB.snoc {w : World} {base c n : Nat} {A : Option Addr} {N : List Bool} {x : Bool} (hn : N.length = n) (h : w.ownsRow base 4 1 (.slice A (n + 1) c) (n + 1) (N.map boc ++ [.bool x])) : OwB w base A c (N ++ [x]) := by
  subst hn
  unfold OwB
  rw [List.length_append, List.map_append, List.map_singleton]
  exact h
/-- the last number is turned -/
theorem OwU.last {w : World} {base g c m : Nat} {L : List Nat} (h : OwU w base (some ⟨g, 0, none⟩) c (L ++ [m])) (m' : Nat) :
    OwU (w.setCell ⟨g, L.length, none⟩ (.int .u64 (m' : Int))) base (some ⟨g, 0, none⟩) c (L ++ [m']) := by
  have hl : (L ++ [m']).length = (L ++ [m]).length := by simp
  unfold OwU at h ⊢
  rw [hl]
  have h2 := (h.stored L.length (.int .u64 (m' : Int))).1
  have e : ((L ++ [m]).map numc).set L.length (.int .u64 (m' : Int)) = (L ++ [m']).map numc := by
    rw [List.map_append, List.map_append, List.set_append_right _ _ (by simp)]
    simp [numc]
  rw [e] at h2
  exact h2
theorem own_u1 {w : World} (b base : Nat) (hb : base ≤ w.heap.size) {k : Nat} (hk : k = w.heap.size) : OwU (w.alloc (.cells #[.int .u64 (b : Int)] 40)) base (some ⟨k, 0, none⟩) 1 [b] := by
  subst hk
  exact World.ownsRow_lit (size := 1) w #[numc b] 1 hb (by decide) rfl

set_option maxRecDepth 100000 in
set_option maxHeartbeats 1600000 in
theorem numbers_any (A : Option Addr) (n c : Nat) (L : List Bool) (w : World) (hL : Rd w A n (L.map boc)) (hn : n ≤ 1000000) :
    Calls Try.prog 10 #[.slice A n c] w fun e w' => ∃ A' c', e = .returned (.slice A' (numsB L).length c') ∧ OwU w' w.heap.size A' c' (numsB L) ∧ Fr (fun _ => False) w w' := by
  have HL := Lib.hid hL
  have hln : L.length = n := by simpa using hL.1
  have HLN := Lib.hid hln
  clear hL hln
  obtain ⟨base, hbase⟩ : ∃ base, base = w.heap.size := ⟨_, rfl⟩
  have HB := Lib.hid hbase
  rw [← hbase]
  clear hbase
  obtain ⟨R, hR⟩ : ∃ R, R = numsB L := ⟨_, rfl⟩
  rw [← hR]
  have HR := Lib.hid hR
  clear hR
  go_enter Try.func10, Try.ntmps10
  go_wp2_with fail
  obtain ⟨w0, hw0⟩ : ∃ w0, w.alloc (.cells #[.int .u64 0] 40) = w0 := ⟨_, rfl⟩
  rw [hw0]
  obtain ⟨g0, hg0⟩ : ∃ g, w.heap.size = g := ⟨_, rfl⟩
  rw [hg0]
  have HO0 : Hid (OwU w0 base (some ⟨g0, 0, none⟩) 1 [0]) := Lib.hid (by rw [← hw0]; exact own_u1 0 base (Nat.le_of_eq HB.out) hg0.symm)
  have HF0 : Hid (Fr (fun _ => False) w w0) := Lib.hid (by rw [← hw0]; exact (Fr.refl _ _).alloc _)
  clear hw0 hg0
  go_loopw [3, 4, 10] (fun s x v wr => ∃ (j : Nat) (M : List Nat) (k : Nat) (y : Bool) (g c1 p : Nat), j ≤ n ∧ v = .int .i64 (j : Int) ∧ x = .bool y ∧ s = .slice (some ⟨g, 0, none⟩) (p + 1) c1 ∧ Hid (p = M.length) ∧ p ≤ j ∧ k ≤ j ∧ Hid (stB (L.take j) = (M ++ [k], y)) ∧
    Hid (OwU wr base (some ⟨g, 0, none⟩) c1 (M ++ [k])) ∧ Hid (Fr (fun _ => False) w wr)) (fun _ _ v _ => n - (intOf v).toNat)
  case atStart => exact ⟨0, [], 0, false, g0, 1, 0, Nat.zero_le _, rfl, rfl, rfl, rfl, Nat.le_refl _, Nat.le_refl _, rfl, HO0.out, HF0.out⟩
  case round =>
    obtain ⟨j, M, k, y, g, c1, p, hj, rfl, rfl, rfl, HP, hpj, hkj, HS, HO, HF⟩ := hrel
    rename World => wr
    have hp := HP.out
    by_cases hlt : j < n
    · obtain ⟨ad, v, rfl, hv, hcell⟩ := (HL.out.fr HF.out (fun _ _ h => h)).at_ hlt
      obtain ⟨x, hx⟩ : ∃ x, L[j]? = some x := ⟨L[j]'(by have := HLN.out; omega), List.getElem?_eq_getElem _⟩
      obtain rfl : boc x = v := by simpa [hx] using hv
      unfold boc at hcell
      have hnext : stB (L.take (j + 1)) = addB (stB (L.take j)) x := by rw [List.take_add_one, hx]; exact st_snoc _ _
      by_cases hxy : x = y
      · subst hxy
        have hs2 : stB (L.take (j + 1)) = (M ++ [k + 1], x) := by rw [hnext, HS.out, add_same]
        have HS2 := Lib.hid hs2
        obtain ⟨g', e', hc, hfz⟩ := own_at (i := p) (u := numc k) HO.out (by rw [hp]; simp)
        obtain rfl : g = g' := by injection e' with e'; injection e'
        unfold numc at hc
        have t1 : (x != x) = false := by simp
        have r1 : IntKind.u64.wrap ((k : Int) + 1) = ((k + 1 : Nat) : Int) := by rw [IntKind.wrap_u64]; omega
        have r2 : IntKind.i64.wrap (((p + 1 : Nat) : Int) - 1) = (p : Int) := by rw [IntKind.wrap_i64]; omega
        have hlast := HO.out.last (k + 1)
        rw [← hp] at hlast
        have HO2 := Lib.hid hlast
        have HF2 := Lib.hid ((HF.out).setCell (p := ⟨g, p, none⟩) (fun h => by have h1 := (HO.out.lt g rfl).1; have h2 := HB.out; dsimp only at h; omega) (.int .u64 ((k + 1 : Nat) : Int)))
        clear hv hx hnext hs2 hlast hp
        go_wp2_with fail
        go_roundw
        case rel => exact ⟨j + 1, M, k + 1, x, g, c1, p, by omega, by go_num, rfl, rfl, HP.out, by omega, by omega, HS2.out, HO2.out, HF2.out⟩
        case measure => simp [intOf] <;> omega
      · have hs2 : stB (L.take (j + 1)) = (M ++ [k] ++ [1], x) := by rw [hnext, HS.out, add_other _ _ _ hxy]
        have HS2 := Lib.hid hs2
        have t1 : (x == y) = false := by simpa using hxy
        have hown : wr.ownsRow base 40 1 (.slice (some ⟨g, 0, none⟩) (p + 1) c1) (p + 1) ((M ++ [k]).map numc) := by have h := HO.out; unfold OwU at h; rw [List.length_append, List.length_singleton, ← hp] at h; exact h
        obtain ⟨X, hX⟩ : ∃ X, X = (M ++ [k]).map numc := ⟨_, rfl⟩
        rw [← hX] at hown
        have HX := Lib.hid hX
        have HOW := Lib.hid hown
        have hb : base ≤ wr.heap.size := by have := HB.out; have := HF.out.size; omega
        have hpn : p ≤ 1000000 := by omega
        clear hv hx hnext hs2 hown hp hX
        go_wp2_with (at_builtin; refine wpList_app uT13 _ rfl _ _ rfl base _ _ _ rfl (HOW.out.alloc _) _ _ _ _ rfl (Rd.one _ _ _) (one_one _ _) (by unfold maxLen; omega) (by omega) (by simp; omega) ?_)
        intro A' c' w' _ _ hown' hfr' _
        have hp := HP.out
        rw [HX.out] at hown'
        have hO3 : OwU w' base A' c' (M ++ [k] ++ [0]) := OwU.snoc (by rw [List.length_append, List.length_singleton, hp]) hown'
        obtain ⟨g', e', hc, hfz⟩ := own_at (i := p + 1) (u := numc 0) hO3 (by rw [hp]; simp)
        subst e'
        unfold numc at hc
        have r1 : IntKind.u64.wrap (((0 : Nat) : Int) + 1) = ((1 : Nat) : Int) := by rw [IntKind.wrap_u64]; omega
        have r2 : IntKind.i64.wrap (((p + 1 + 1 : Nat) : Int) - 1) = ((p + 1 : Nat) : Int) := by rw [IntKind.wrap_i64]; omega
        have hlast := hO3.last 1
        rw [List.length_append, List.length_singleton, ← hp] at hlast
        have HO2 := Lib.hid hlast
        have hfw : Fr (fun _ => False) w w' := (HF.out.alloc _).trans hfr' (fun b hb h => by have h1 := (HOW.out.lt b h).1; have := HB.out; omega)
        have HF2 := Lib.hid (hfw.setCell (p := ⟨g', p + 1, none⟩) (fun h => by have h1 := (hO3.lt g' rfl).1; have h2 := HB.out; dsimp only at h; omega) (.int .u64 ((1 : Nat) : Int)))
        clear hlast hfw hO3 hown' hfr' hp
        go_wp2_with fail
        go_roundw
        case rel => exact ⟨j + 1, M ++ [k], 1, x, g', c', p + 1, by omega, by go_num, rfl, rfl, by show _ = _; rw [List.length_append, List.length_singleton, HP.out], by omega, by omega, HS2.out, HO2.out, HF2.out⟩
        case measure => simp [intOf] <;> omega
    · obtain rfl : j = n := by omega
      have he : R = M ++ [k] := by
        have h := HS.out
        rw [List.take_of_length_le (by have := HLN.out; omega)] at h
        rw [HR.out]
        exact congrArg Prod.fst h
      have hRl : R.length = p + 1 := by rw [he, List.length_append, List.length_singleton, hp]
      have HE := Lib.hid he
      have HRL := Lib.hid hRl
      clear he hRl hp
      go_wp2_with fail
      go_ret
      refine ⟨some ⟨g, 0, none⟩, c1, by rw [HRL.out]; rfl, ?_, HF.out⟩
      rw [HE.out]
      exact HO.out
end Go.Proofs.Ythioijbifmfhlaa
