/-
  Layer 12: a row of cells made at once and filled from the front. No condition.
  Layer 13, the program: rows of one cell each (numbers, truths); numbers.
-/
import Derived.Test.YtohbcepbodcapaaZm26
import Derived.Test.YtohbcepbodcapaaZm29
import Derived.Test.YtohbcepbodcapaaZm27
import Derived.Test.YtohbcepbodcapaaZm07
import Derived.Test.YtohbcepbodcapaaZm08
import Derived.Lib.Hide
import Derived.Deep.QuietTactic
import Derived.BigQuiet
import Derived.StillTailTactics
import Derived.Deep.DrawnRows
namespace Go.Proofs.Ytohbcepbodcapaa
open Go.RowKit Mem Go.Lib RleM LebM
set_option linter.unusedVariables false

def clD (L : List (Bool × Int)) : List Value := L.flatMap (ccells nv)
def fillC (F : List (Bool × Int)) (n : Nat) : List (Bool × Int) := F ++ List.replicate (n - F.length) (false, 0)
theorem cl_len (L : List (Bool × Int)) : (clD L).length = L.length * 2 := flat_klen _ 2 (fun _ => rfl) L
theorem cl_set : ∀ (G : List (Bool × Int)) (k : Nat) (t : Bool × Int), ((clD G).set (k * 2) (.bool t.1)).set (k * 2 + 1) (nv t.2) = clD (G.set k t)
  | [], k, t => rfl
  | (i, x) :: G, 0, t => rfl
  | (i, x) :: G, k + 1, t => by
    have e : (k + 1) * 2 = k * 2 + 1 + 1 := by omega
    rw [e]
    show _ :: _ :: ((clD G).set (k * 2) (.bool t.1)).set (k * 2 + 1) (nv t.2) = _ :: _ :: clD (G.set k t)
    rw [cl_set G k t]
theorem cl_at (G : List (Bool × Int)) (k : Nat) (t : Bool × Int) (h : G[k]? = some t) : (clD G)[k * 2]? = some (.bool t.1) ∧ (clD G)[k * 2 + 1]? = some (nv t.2) :=
  ⟨by have := flat_k (ccells nv) 2 (fun _ => rfl) G k t h 0 (by omega); simpa [ccells, clD] using this, by have := flat_k (ccells nv) 2 (fun _ => rfl) G k t h 1 (by omega); simpa [ccells, clD] using this⟩
theorem fill_at (F : List (Bool × Int)) (n : Nat) (h : F.length < n) : (fillC F n)[F.length]? = some (false, 0) := by
  unfold fillC
  rw [List.getElem?_append_right (Nat.le_refl _), Nat.sub_self, List.getElem?_replicate, if_pos (by omega)]
theorem fill_set (F : List (Bool × Int)) (n : Nat) (t : Bool × Int) (h : F.length < n) : (fillC F n).set F.length t = fillC (F ++ [t]) n := by
  unfold fillC
  obtain ⟨m, hm⟩ : ∃ m, n - F.length = m + 1 := ⟨n - F.length - 1, by omega⟩
  have hm2 : n - (F ++ [t]).length = m := by rw [List.length_append, List.length_singleton]; omega
  rw [hm, hm2, List.set_append_right _ _ (Nat.le_refl _), Nat.sub_self, List.replicate_succ, List.set_cons_zero, List.append_assoc, List.singleton_append]
theorem fill_zero (F : List (Bool × Int)) (n : Nat) (h : F.length < n) : fillC (F ++ [(false, 0)]) n = fillC F n := by
  unfold fillC
  obtain ⟨m, hm⟩ : ∃ m, n - F.length = m + 1 := ⟨n - F.length - 1, by omega⟩
  have hm2 : n - (F ++ [((false, 0) : Bool × Int)]).length = m := by rw [List.length_append, List.length_singleton]; omega
  rw [hm, hm2, List.replicate_succ, List.append_assoc, List.singleton_append]
theorem fill_full (F : List (Bool × Int)) : fillC F F.length = F := by simp [fillC]
theorem fill_len (F : List (Bool × Int)) (n : Nat) (h : F.length ≤ n) : (fillC F n).length = n := by simp [fillC]; omega
theorem made_cl : ∀ n : Nat, madeCells #[.bool false, .int .i64 0] (n * 2) = (clD (List.replicate n (false, 0))).toArray := by
  intro n
  apply Array.ext'
  show (madeCells _ _).toList = clD _
  simp only [madeCells, Array.toList_map, Array.toList_range]
  induction n with
  | zero => rfl
  | succ n ih =>
    have e : (n + 1) * 2 = n * 2 + 1 + 1 := by omega
    rw [e, List.range_succ, List.range_succ, List.map_append, List.map_append, ih, List.replicate_succ', clD, clD, List.flatMap_append, List.append_assoc]
    congr 1
    have e1 : n * 2 % 2 = 0 := by omega
    have e2 : (n * 2 + 1) % 2 = 1 := by omega
    simp [e1, e2, ccells, nv]
theorem mkZ (m : Nat) (hm : m ≤ 4000000) (w : World) : (Instr.makeSlice 46 (.int .i64 (m : Int)) (.int .i64 (m : Int))).run Try.prog w = .ok (.slice (some ⟨w.heap.size, 0, none⟩) m m) (w.alloc (.cells (clD (List.replicate m (false, 0))).toArray 68)) := by
  obtain ⟨i, hi, hz, hs, hb⟩ : ∃ i, Try.prog.info? 68 = some i ∧ i.zero = some (.agg #[.bool false, (.int .i64 0)]) ∧ i.size = 2 ∧ i.bytes = 16 := by
    have h := cellTC.info
    cases hq : Try.prog.info? 68 with
    | none => rw [hq] at h; cases h
    | some i =>
      rw [hq] at h
      simp only [Option.map_some, Option.some.injEq, Prod.mk.injEq] at h
      exact ⟨i, rfl, h.1, h.2.1, h.2.2⟩
  have h := run_makeSlice (P := Try.prog) w 46 68 i _ Try.underlying46 hi hz .i64 .i64 (m : Int) (m : Int) (by omega) (by omega) (by rw [hs]; omega) (by rw [hb]; omega) (by omega)
  rw [h, hs, Int.toNat_natCast]
  exact congrArg (fun q => Result.ok _ (w.alloc (.cells q 68))) (made_cl m)
/-- a block that is known whole is a row of one's own -/
theorem own_row {w : World} {base g n : Nat} {G : List (Bool × Int)} (hn : G.length = n) (hr : Row w g 68 (clD G)) (hb : base ≤ g) (hx : n ≤ maxLen) : OwnC nv 68 w base (some ⟨g, 0, none⟩) n G := by
  subst hn
  exact ⟨cl_len G, .inr ⟨g, G.length, (clD G).toArray, rfl, hb, hr, Nat.le_refl _, hx, by simp [cl_len], by rw [← cl_len]; exact List.take_length⟩⟩
theorem goodM : RleM.Good kS mayS := by
  refine ⟨⟨fun _ => rfl, goodS.zero⟩, fun B hB => ⟨⟨?_, (goodS.bd B hB).1⟩, (goodS.bd B hB).2⟩, goodS.pos⟩
  by_cases h : (gs B).2.2 ≠ 0
  · have e : kS.get B = ((false, 0), 0, (gs B).2.2) := if_pos h
    rw [e]
    exact fun _ => rfl
  · have e : kS.get B = ((true, (gs B).1), (gs B).2.1, 0) := if_neg h
    rw [e]
    intro h
    cases h
end Go.Proofs.Ytohbcepbodcapaa
namespace Go.Proofs.Ytohbcepbodcapaa
open Go.RowKit Mem Go.Lib BooM
attribute [local go_sem ↓] Go.wp_at_zero Go.wp_at_succ
set_option linter.unusedVariables false

def boc (b : Bool) : Value := .bool b
theorem boc_one (l : List Bool) : ∀ u ∈ l.map boc, u.oneCell' = true := by
  intro u hu
  obtain ⟨b, _, rfl⟩ := List.mem_map.1 hu
  rfl
theorem uT13 : ElemTy Try.prog 102 36 (.int .u64 0) 8 := ⟨Try.underlying102, by kernel_rfl, rfl⟩
theorem bT13 : ElemTy Try.prog 52 4 (.bool false) 1 := ⟨Try.underlying52, by kernel_rfl, rfl⟩
/-- rows of one's own: numbers, truths -/
def OwU (w : World) (base : Nat) (A : Option Addr) (c : Nat) (N : List Nat) : Prop := w.ownsRow base 36 1 (.slice A N.length c) N.length (N.map numc)
def OwB (w : World) (base : Nat) (A : Option Addr) (c : Nat) (L : List Bool) : Prop := w.ownsRow base 4 1 (.slice A L.length c) L.length (L.map boc)
theorem OwU.nil (w : World) (base : Nat) : OwU w base none 0 [] := World.ownsRow_nil _ _ _ _
theorem OwB.nil (w : World) (base : Nat) : OwB w base none 0 [] := World.ownsRow_nil _ _ _ _
theorem OwU.fr {w w' : World} {base c : Nat} {A : Option Addr} {N : List Nat} (h : OwU w base A c N) (hf : Fr (fun _ => False) w w') : OwU w' base A c N := hf.own h (fun _ _ h => h)
theorem OwB.fr {w w' : World} {base c : Nat} {A : Option Addr} {L : List Bool} (h : OwB w base A c L) (hf : Fr (fun _ => False) w w') : OwB w' base A c L := hf.own h (fun _ _ h => h)
theorem OwU.rd {w : World} {base c : Nat} {A : Option Addr} {N : List Nat} (h : OwU w base A c N) : Rd w A N.length (N.map numc) := Rd.of_own h
theorem OwB.rd {w : World} {base c : Nat} {A : Option Addr} {L : List Bool} (h : OwB w base A c L) : Rd w A L.length (L.map boc) := Rd.of_own h
theorem OwU.snoc {w : World} {base c n : Nat} {A : Option Addr} {N : List Nat} {x : Nat} (hn : N.length = n) (h : w.ownsRow base 36 1 (.slice A (n + 1) c) (n + 1) (N.map numc ++ [.int .u64 (x : Int)])) : OwU w base A c (N ++ [x]) := by
  subst hn
  unfold OwU
  rw [List.length_append, List.map_append, List.map_singleton]
  exact h
theorem OwB.snoc {w : World} {base c n : Nat} {A : Option Addr} {N : List Bool} {x : Bool} (hn : N.length = n) (h : w.ownsRow base 4 1 (.slice A (n + 1) c) (n + 1) (N.map boc ++ [.bool x])) : OwB w base A c (N ++ [x]) := by
  subst hn
  unfold OwB
  rw [List.length_append, List.map_append, List.map_singleton]
  exact h
/-- the last number is turned -/
theorem OwU.last {w : World} {base g c m : Nat} {L : List Nat} (h : OwU w base (some ⟨g, 0, none⟩) c (L ++ [m])) (m' : Nat) :
    OwU (w.setCell ⟨g, L.length, none⟩ (.int .u64 (m' : Int))) base (some ⟨g, 0, none⟩) c (L ++ [m']) := by
  have hl : (L ++ [m']).length = (L ++ [m]).length := by simp
  unfold OwU at h ⊢
  rw [hl]
  have h2 := (h.stored L.length (.int .u64 (m' : Int))).1
  have e : ((L ++ [m]).map numc).set L.length (.int .u64 (m' : Int)) = (L ++ [m']).map numc := by
    rw [List.map_append, List.map_append, List.set_append_right _ _ (by simp)]
    simp [numc]
  rw [e] at h2
  exact h2
theorem own_u1 {w : World} (b base : Nat) (hb : base ≤ w.heap.size) {k : Nat} (hk : k = w.heap.size) : OwU (w.alloc (.cells #[.int .u64 (b : Int)] 36)) base (some ⟨k, 0, none⟩) 1 [b] := by
  subst hk
  exact World.ownsRow_lit (size := 1) w #[numc b] 1 hb (by decide) rfl

set_option maxRecDepth 100000 in
set_option maxHeartbeats 1600000 in
theorem numbers_any (A : Option Addr) (n c : Nat) (L : List Bool) (w : World) (hL : Rd w A n (L.map boc)) (hn : n ≤ 1000000) :
    Calls Try.prog 43 #[.slice A n c] w fun e w' => ∃ A' c', e = .returned (.slice A' (numsB L).length c') ∧ OwU w' w.heap.size A' c' (numsB L) ∧ Fr (fun _ => False) w w' := by
  have HL := Lib.hid hL
  have hln : L.length = n := by simpa using hL.1
  have HLN := Lib.hid hln
  clear hL hln
  obtain ⟨base, hbase⟩ : ∃ base, base = w.heap.size := ⟨_, rfl⟩
  have HB := Lib.hid hbase
  rw [← hbase]
  clear hbase
  obtain ⟨R, hR⟩ : ∃ R, R = numsB L := ⟨_, rfl⟩
  rw [← hR]
  have HR := Lib.hid hR
  clear hR
  go_enter Try.func43, Try.ntmps43
  go_wp2_with fail
  obtain ⟨w0, hw0⟩ : ∃ w0, w.alloc (.cells #[.int .u64 0] 36) = w0 := ⟨_, rfl⟩
  rw [hw0]
  obtain ⟨g0, hg0⟩ : ∃ g, w.heap.size = g := ⟨_, rfl⟩
  rw [hg0]
  have HO0 : Hid (OwU w0 base (some ⟨g0, 0, none⟩) 1 [0]) := Lib.hid (by rw [← hw0]; exact own_u1 0 base (Nat.le_of_eq HB.out) hg0.symm)
  have HF0 : Hid (Fr (fun _ => False) w w0) := Lib.hid (by rw [← hw0]; exact (Fr.refl _ _).alloc _)
  clear hw0 hg0
  go_loopw [3, 4, 10] (fun s x v wr => ∃ (j : Nat) (M : List Nat) (k : Nat) (y : Bool) (g c1 p : Nat), j ≤ n ∧ v = .int .i64 (j : Int) ∧ x = .bool y ∧ s = .slice (some ⟨g, 0, none⟩) (p + 1) c1 ∧ Hid (p = M.length) ∧ p ≤ j ∧ k ≤ j ∧ Hid (stB (L.take j) = (M ++ [k], y)) ∧
    Hid (OwU wr base (some ⟨g, 0, none⟩) c1 (M ++ [k])) ∧ Hid (Fr (fun _ => False) w wr)) (fun _ _ v _ => n - (intOf v).toNat)
  case atStart => exact ⟨0, [], 0, false, g0, 1, 0, Nat.zero_le _, rfl, rfl, rfl, rfl, Nat.le_refl _, Nat.le_refl _, rfl, HO0.out, HF0.out⟩
  case round =>
    obtain ⟨j, M, k, y, g, c1, p, hj, rfl, rfl, rfl, HP, hpj, hkj, HS, HO, HF⟩ := hrel
    rename World => wr
    have hp := HP.out
    by_cases hlt : j < n
    · obtain ⟨ad, v, rfl, hv, hcell⟩ := (HL.out.fr HF.out (fun _ _ h => h)).at_ hlt
      obtain ⟨x, hx⟩ : ∃ x, L[j]? = some x := ⟨L[j]'(by have := HLN.out; omega), List.getElem?_eq_getElem _⟩
      obtain rfl : boc x = v := by simpa [hx] using hv
      unfold boc at hcell
      have hnext : stB (L.take (j + 1)) = addB (stB (L.take j)) x := by rw [List.take_add_one, hx]; exact st_snoc _ _
      by_cases hxy : x = y
      · subst hxy
        have hs2 : stB (L.take (j + 1)) = (M ++ [k + 1], x) := by rw [hnext, HS.out, add_same]
        have HS2 := Lib.hid hs2
        obtain ⟨g', e', hc, hfz⟩ := own_at (i := p) (u := numc k) HO.out (by rw [hp]; simp)
        obtain rfl : g = g' := by injection e' with e'; injection e'
        unfold numc at hc
        have t1 : (x != x) = false := by simp
        have r1 : IntKind.u64.wrap ((k : Int) + 1) = ((k + 1 : Nat) : Int) := by rw [IntKind.wrap_u64]; omega
        have r2 : IntKind.i64.wrap (((p + 1 : Nat) : Int) - 1) = (p : Int) := by rw [IntKind.wrap_i64]; omega
        have hlast := HO.out.last (k + 1)
        rw [← hp] at hlast
        have HO2 := Lib.hid hlast
        have HF2 := Lib.hid ((HF.out).setCell (p := ⟨g, p, none⟩) (fun h => by have h1 := (HO.out.lt g rfl).1; have h2 := HB.out; dsimp only at h; omega) (.int .u64 ((k + 1 : Nat) : Int)))
        clear hv hx hnext hs2 hlast hp
        go_wp2_with fail
        go_roundw
        case rel => exact ⟨j + 1, M, k + 1, x, g, c1, p, by omega, by go_num, rfl, rfl, HP.out, by omega, by omega, HS2.out, HO2.out, HF2.out⟩
        case measure => simp [intOf] <;> omega
      · have hs2 : stB (L.take (j + 1)) = (M ++ [k] ++ [1], x) := by rw [hnext, HS.out, add_other _ _ _ hxy]
        have HS2 := Lib.hid hs2
        have t1 : (x == y) = false := by simpa using hxy
        have hown : wr.ownsRow base 36 1 (.slice (some ⟨g, 0, none⟩) (p + 1) c1) (p + 1) ((M ++ [k]).map numc) := by have h := HO.out; unfold OwU at h; rw [List.length_append, List.length_singleton, ← hp] at h; exact h
        obtain ⟨X, hX⟩ : ∃ X, X = (M ++ [k]).map numc := ⟨_, rfl⟩
        rw [← hX] at hown
        have HX := Lib.hid hX
        have HOW := Lib.hid hown
        have hb : base ≤ wr.heap.size := by have := HB.out; have := HF.out.size; omega
        have hpn : p ≤ 1000000 := by omega
        clear hv hx hnext hs2 hown hp hX
        go_wp2_with (at_builtin; refine wpList_app uT13 _ rfl _ _ rfl base _ _ _ rfl (HOW.out.alloc _) _ _ _ _ rfl (Rd.one _ _ _) (one_one _ _) (by unfold maxLen; omega) (by omega) (by simp; omega) ?_)
        intro A' c' w' _ _ hown' hfr' _
        have hp := HP.out
        rw [HX.out] at hown'
        have hO3 : OwU w' base A' c' (M ++ [k] ++ [0]) := OwU.snoc (by rw [List.length_append, List.length_singleton, hp]) hown'
        obtain ⟨g', e', hc, hfz⟩ := own_at (i := p + 1) (u := numc 0) hO3 (by rw [hp]; simp)
        subst e'
        unfold numc at hc
        have r1 : IntKind.u64.wrap (((0 : Nat) : Int) + 1) = ((1 : Nat) : Int) := by rw [IntKind.wrap_u64]; omega
        have r2 : IntKind.i64.wrap (((p + 1 + 1 : Nat) : Int) - 1) = ((p + 1 : Nat) : Int) := by rw [IntKind.wrap_i64]; omega
        have hlast := hO3.last 1
        rw [List.length_append, List.length_singleton, ← hp] at hlast
        have HO2 := Lib.hid hlast
        have hfw : Fr (fun _ => False) w w' := (HF.out.alloc _).trans hfr' (fun b hb h => by have h1 := (HOW.out.lt b h).1; have := HB.out; omega)
        have HF2 := Lib.hid (hfw.setCell (p := ⟨g', p + 1, none⟩) (fun h => by have h1 := (hO3.lt g' rfl).1; have h2 := HB.out; dsimp only at h; omega) (.int .u64 ((1 : Nat) : Int)))
        clear hlast hfw hO3 hown' hfr' hp
        go_wp2_with fail
        go_roundw
        case rel => exact ⟨j + 1, M ++ [k], 1, x, g', c', p + 1, by omega, by go_num, rfl, rfl, by show _ = _; rw [List.length_append, List.length_singleton, HP.out], by omega, by omega, HS2.out, HO2.out, HF2.out⟩
        case measure => simp [intOf] <;> omega
    · obtain rfl : j = n := by omega
      have he : R = M ++ [k] := by
        have h := HS.out
        rw [List.take_of_length_le (by have := HLN.out; omega)] at h
        rw [HR.out]
        exact congrArg Prod.fst h
      have hRl : R.length = p + 1 := by rw [he, List.length_append, List.length_singleton, hp]
      have HE := Lib.hid he
      have HRL := Lib.hid hRl
      clear he hRl hp
      go_wp2_with fail
      go_ret
      refine ⟨some ⟨g, 0, none⟩, c1, by rw [HRL.out]; rfl, ?_, HF.out⟩
      rw [HE.out]
      exact HO.out
end Go.Proofs.Ytohbcepbodcapaa
