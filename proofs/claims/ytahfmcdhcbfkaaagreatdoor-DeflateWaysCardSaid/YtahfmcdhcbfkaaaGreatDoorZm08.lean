/-
  Slices of slices: what a slice expression answers, in letters (written by gen_cut.py).
  Taking a loop's body out of a function's code, by a region that it holds; what the program is does not matter here.
  Layer 8's reference: Press (written by gen_run.py).
-/
import Derived.Test.YtahfmcdhcbfkaaaGreatDoorZm02
import Derived.WalkKit
import Derived.Test.YtahfmcdhcbfkaaaGreatDoorZm00
import Derived.Deep.DrawnRows
import Derived.StillTailTactics
import Derived.Deep.QuietTactic
import Derived.BigQuiet
namespace Go.Proofs.YtahfmcdhcbfkaaaGreatDoor
open Go.RowKit Mem Go.Lib

/-- what is cut out of a slice -/
def cutAt (A : Option Addr) (c f : Nat) : Option Addr := if c = f then A else A.map (·.add f)
theorem cutAt_zero (A : Option Addr) (c : Nat) : cutAt A c 0 = A := by
  unfold cutAt
  split
  · rfl
  · cases A with
    | none => rfl
    | some ad => obtain ⟨b, o, s⟩ := ad; cases s <;> simp [Addr.add]
theorem rd_cut {w : World} {A : Option Addr} {n c : Nat} {xs : List Value} (h : Rd w A n xs) {f y : Nat} (hf : f ≤ y) (hy : y ≤ n) (hn : n ≤ c) : Rd w (cutAt A c f) (y - f) ((xs.take y).drop f) := h.cut hf hy hn
theorem rd_to {w : World} {A : Option Addr} {n : Nat} {xs : List Value} (h : Rd w A n xs) {y : Nat} (hy : y ≤ n) : Rd w A y (xs.take y) := by
  have h2 := h.cut (k := 0) (m := y) (cap := n + 1) (by omega) hy (by omega)
  rw [show (if n + 1 = 0 then A else A.map (·.add 0)) = A from cutAt_zero A (n + 1)] at h2
  exact h2
theorem rd_from {w : World} {A : Option Addr} {n c : Nat} {xs : List Value} (h : Rd w A n xs) {f : Nat} (hf : f ≤ n) (hn : n ≤ c) : Rd w (cutAt A c f) (n - f) (xs.drop f) := by
  have h2 := rd_cut h hf (Nat.le_refl n) hn
  rwa [List.take_of_length_le (by rw [h.1]; exact Nat.le_refl _)] at h2
theorem cutAt_blk {A : Option Addr} {c f : Nat} {ad : Addr} (h : cutAt A c f = some ad) : ∃ a, A = some a ∧ a.block = ad.block := by
  unfold cutAt at h
  split at h
  · exact ⟨ad, h, rfl⟩
  · cases A with
    | none => cases h
    | some a =>
      injection h with h
      exact ⟨a, rfl, by rw [← h, add_block]⟩
theorem run_cutB (A : Option Addr) (n c f y : Nat) (hf : f ≤ y) (hy : y ≤ n) (hn : n ≤ c) (fi yi : Int) (ef : fi = (f : Int)) (ey : yi = (y : Int)) (w' : World) :
    (Instr.sliceAt 22 (.slice A n c) (some (.int .i64 fi)) (some (.int .i64 yi)) none).run Tryz.prog w' = .ok (.slice (cutAt A c f) (y - f) (c - f)) w' := by
  subst ef ey
  unfold cutAt
  cases A with
  | none =>
    go_simp
    intro h
    omega
  | some ad =>
    go_simp
    intro h
    omega
theorem run_toB (A : Option Addr) (n c y : Nat) (hy : y ≤ n) (hn : n ≤ c) (yi : Int) (ey : yi = (y : Int)) (w' : World) :
    (Instr.sliceAt 22 (.slice A n c) none (some (.int .i64 yi)) none).run Tryz.prog w' = .ok (.slice A y c) w' := by
  subst ey
  have h0 := cutAt_zero A c
  unfold cutAt at h0
  cases A with
  | none =>
    go_simp
    intro h
    omega
  | some ad =>
    simp only [Option.map_some] at h0
    go_simp
    try (rw [h0])
    try (intro h; omega)
    try (refine ⟨fun h => ?_, fun h => ?_⟩ <;> omega)
theorem run_fromB (A : Option Addr) (n c f : Nat) (hf : f ≤ n) (fi : Int) (ef : fi = (f : Int)) (w' : World) :
    (Instr.sliceAt 22 (.slice A n c) (some (.int .i64 fi)) none none).run Tryz.prog w' = .ok (.slice (cutAt A c f) (n - f) (c - f)) w' := by
  subst ef
  unfold cutAt
  cases A with
  | none =>
    go_simp
    try (intro h; omega)
  | some ad =>
    go_simp
    try (intro h; omega)
theorem run_cutI (A : Option Addr) (n c f y : Nat) (hf : f ≤ y) (hy : y ≤ n) (hn : n ≤ c) (fi yi : Int) (ef : fi = (f : Int)) (ey : yi = (y : Int)) (w' : World) :
    (Instr.sliceAt 36 (.slice A n c) (some (.int .i64 fi)) (some (.int .i64 yi)) none).run Tryz.prog w' = .ok (.slice (cutAt A c f) (y - f) (c - f)) w' := by
  subst ef ey
  unfold cutAt
  cases A with
  | none =>
    go_simp
    intro h
    omega
  | some ad =>
    go_simp
    intro h
    omega
theorem run_toI (A : Option Addr) (n c y : Nat) (hy : y ≤ n) (hn : n ≤ c) (yi : Int) (ey : yi = (y : Int)) (w' : World) :
    (Instr.sliceAt 36 (.slice A n c) none (some (.int .i64 yi)) none).run Tryz.prog w' = .ok (.slice A y c) w' := by
  subst ey
  have h0 := cutAt_zero A c
  unfold cutAt at h0
  cases A with
  | none =>
    go_simp
    intro h
    omega
  | some ad =>
    simp only [Option.map_some] at h0
    go_simp
    try (rw [h0])
    try (intro h; omega)
    try (refine ⟨fun h => ?_, fun h => ?_⟩ <;> omega)
theorem run_fromI (A : Option Addr) (n c f : Nat) (hf : f ≤ n) (fi : Int) (ef : fi = (f : Int)) (w' : World) :
    (Instr.sliceAt 36 (.slice A n c) (some (.int .i64 fi)) none none).run Tryz.prog w' = .ok (.slice (cutAt A c f) (n - f) (c - f)) w' := by
  subst ef
  unfold cutAt
  cases A with
  | none =>
    go_simp
    try (intro h; omega)
  | some ad =>
    go_simp
    try (intro h; omega)
end Go.Proofs.YtahfmcdhcbfkaaaGreatDoor
namespace Go.Proofs.YtahfmcdhcbfkaaaGreatDoor
open Go

def hasRegion (r : Nat) : Code → Bool
  | .region id _ _ => id == r
  | .seq a b => hasRegion r a || hasRegion r b
  | .cond _ a b => hasRegion r a || hasRegion r b
  | .block _ c => hasRegion r c
  | .loop c => hasRegion r c
  | .scope c => hasRegion r c
  | _ => false
/-- the body of the innermost loop that holds region r -/
def loopAt (r : Nat) : Code → Option Code
  | .seq a b => match loopAt r a with
    | some c => some c
    | none => loopAt r b
  | .cond _ a b => match loopAt r a with
    | some c => some c
    | none => loopAt r b
  | .block _ c => loopAt r c
  | .scope c => loopAt r c
  | .loop c => match loopAt r c with
    | some d => some d
    | none => bif hasRegion r c then some c else none
  | _ => none
/-- region r -/
def regionAt (r : Nat) : Code → Option Code
  | .region id ops d => bif id == r then some (.region id ops d) else none
  | .seq a b => match regionAt r a with
    | some c => some c
    | none => regionAt r b
  | .cond _ a b => match regionAt r a with
    | some c => some c
    | none => regionAt r b
  | .block _ c => regionAt r c
  | .loop c => regionAt r c
  | .scope c => regionAt r c
  | _ => none
/-- a post that is asked of one exit alone: blind at a panic (go_region's short way wants that) -/
def onExit (n : Nat) (Q1 : Act → World → Prop) : Exit → Act → World → Prop
  | .exit m, a, w => m = n ∧ Q1 a w
  | _, _, _ => False
theorem onExit_imp {n : Nat} {Q0 : Exit → Act → World → Prop} : ∀ e a w, onExit n (Q0 (.exit n)) e a w → Q0 e a w := by
  intro e a w h
  cases e with
  | exit m => obtain ⟨rfl, h⟩ := h; exact h
  | _ => exact h.elim
end Go.Proofs.YtahfmcdhcbfkaaaGreatDoor
namespace Go.Proofs.YtahfmcdhcbfkaaaGreatDoor
open Go.RowKit CoM Mem Go.Lib
attribute [local go_sem ↓] Go.wp_at_zero Go.wp_at_succ
set_option linter.unusedVariables false

/-- a cell of a slice of numbers -/
theorem nat_cell {w : World} {A : Option Addr} {n : Nat} {L : List Nat} (h : Rd w A n (L.map natc)) {k : Nat} (hk : k < n) : ∃ ad, A = some ad ∧ w.cell? (ad.add k) = some (.int .i64 ((L[k]! : Nat) : Int)) := by
  have hl : L.length = n := by simpa using h.1
  obtain ⟨ad, u, e, h1, h2⟩ := h.at_ hk
  rw [List.getElem?_map, List.getElem?_eq_getElem (by omega)] at h1
  refine ⟨ad, e, ?_⟩
  rw [h2, getElem!_pos L k (by omega), ← h1]
  rfl

set_option maxRecDepth 1000000 in
noncomputable def runBody : Code := ((Tryz.f46.body.bind (loopAt 6)).getD .skip)

set_option maxRecDepth 1000000 in
set_option maxHeartbeats 3200000 in
theorem run_loop (Q0 : Exit → Act → World → Prop) (s1 s2 s3 s7 s8 s9 s10 s11 s12 s13 s14 s15 s16 s17 s18 s19 s20 s21 s22 s23 s24 s25 s26 s27 s28 s29 s30 s31 s32 s33 s34 s35 s36 s37 s38 s39 s40 s41 s42 s43 s44 s45 s46 s47 s48 s49 s50 s51 s52 s53 s54 s55 s56 s57 s58 s59 s60 s61 s62 s63 s64 s65 s66 s67 s68 s69 s70 s71 s72 s73 s74 s75 s76 s77 s78 s79 s80 s81 s82 s83 s84 s85 s86 s87 s88 s89 s90 s91 s92 s93 s94 s95 s96 s97 s98 s99 s100 s101 s102 s103 s104 s105 s106 s107 s108 s109 s110 : Value) (A : Option Addr) (n c i : Nat) (L : List Nat) (wc : World)
    (HR : Hid (Rd wc A n (L.map natc))) (HLN : Hid (L.length = n)) (hn : n ≤ 1000000) (hi : i < n)
    (hexit : ∀ (w'' : World) (r6 r12 r13 r14 r15 r16 r17 r18 r19 r20 r21 r22 r23 r24 r25 r26 r27 r28 r29 r30 : Value), Fr (fun _ => False) wc w'' → Q0 (.exit 2) ⟨List.toArray (.slice A n c :: s1 :: s2 :: s3 :: .int .i64 (i : Int) :: .int .i64 (rn L i : Nat) :: r6 :: s7 :: s8 :: s9 :: s10 :: s11 :: r12 :: r13 :: r14 :: r15 :: r16 :: r17 :: r18 :: r19 :: r20 :: r21 :: r22 :: r23 :: r24 :: r25 :: r26 :: r27 :: r28 :: r29 :: r30 :: s31 :: s32 :: s33 :: s34 :: s35 :: s36 :: s37 :: s38 :: s39 :: s40 :: s41 :: s42 :: s43 :: s44 :: s45 :: s46 :: s47 :: s48 :: s49 :: s50 :: s51 :: s52 :: s53 :: s54 :: s55 :: s56 :: s57 :: s58 :: s59 :: s60 :: s61 :: s62 :: s63 :: s64 :: s65 :: s66 :: s67 :: s68 :: s69 :: s70 :: s71 :: s72 :: s73 :: s74 :: s75 :: s76 :: s77 :: s78 :: s79 :: s80 :: s81 :: s82 :: s83 :: s84 :: s85 :: s86 :: s87 :: s88 :: s89 :: s90 :: s91 :: s92 :: s93 :: s94 :: s95 :: s96 :: s97 :: s98 :: s99 :: s100 :: s101 :: s102 :: s103 :: s104 :: s105 :: s106 :: s107 :: s108 :: s109 :: s110 :: []), []⟩ w'') :
    Code.wp Tryz.prog (Code.loop runBody) Q0 ⟨List.toArray (.slice A n c :: s1 :: s2 :: s3 :: .int .i64 (i : Int) :: .int .i64 0 :: .int .i64 (i : Int) :: s7 :: s8 :: s9 :: s10 :: s11 :: s12 :: s13 :: s14 :: s15 :: s16 :: s17 :: s18 :: s19 :: s20 :: s21 :: s22 :: s23 :: s24 :: s25 :: s26 :: s27 :: s28 :: s29 :: s30 :: s31 :: s32 :: s33 :: s34 :: s35 :: s36 :: s37 :: s38 :: s39 :: s40 :: s41 :: s42 :: s43 :: s44 :: s45 :: s46 :: s47 :: s48 :: s49 :: s50 :: s51 :: s52 :: s53 :: s54 :: s55 :: s56 :: s57 :: s58 :: s59 :: s60 :: s61 :: s62 :: s63 :: s64 :: s65 :: s66 :: s67 :: s68 :: s69 :: s70 :: s71 :: s72 :: s73 :: s74 :: s75 :: s76 :: s77 :: s78 :: s79 :: s80 :: s81 :: s82 :: s83 :: s84 :: s85 :: s86 :: s87 :: s88 :: s89 :: s90 :: s91 :: s92 :: s93 :: s94 :: s95 :: s96 :: s97 :: s98 :: s99 :: s100 :: s101 :: s102 :: s103 :: s104 :: s105 :: s106 :: s107 :: s108 :: s109 :: s110 :: []), []⟩ wc := by
  have HEX := Lib.hid hexit
  clear hexit
  conv => arg 2; arg 1; whnf
  go_loopw [5, 6] (fun x k wx => ∃ m k1 : Nat, k1 = i + m ∧ k1 ≤ n ∧ x = .int .i64 (m : Int) ∧ k = .int .i64 (k1 : Int) ∧ Hid (∀ j, j < m → L[i + j]! = L[i]!) ∧ Hid (Fr (fun _ => False) wc wx)) (fun x _ _ => n - (intOf x).toNat)
  case atStart => exact ⟨0, i, by omega, by omega, rfl, rfl, fun j hj => by omega, Fr.refl _ _⟩
  case round =>
    obtain ⟨m, k, hkm, hk, rfl, rfl, HE, HF3⟩ := hrel
    rename World => wr
    have HKM := Lib.hid hkm
    by_cases hin : k < n
    · have hrd := HR.out.fr HF3.out (fun _ _ h => h)
      obtain ⟨ad, rfl, hc1⟩ := nat_cell hrd hin
      obtain ⟨ad2, hA2, hc2⟩ := nat_cell hrd hi
      injection hA2 with hA2
      subst hA2
      obtain ⟨a, ha⟩ : ∃ a, a = L[k]! := ⟨_, rfl⟩
      obtain ⟨b, hb⟩ : ∃ a, a = L[i]! := ⟨_, rfl⟩
      rw [← ha] at hc1
      rw [← hb] at hc2
      have HAB := Lib.hid (And.intro ha hb)
      have t2 : decide ((k : Int) < (n : Int)) = true := by simp; omega
      have hmn : m < n := by omega
      by_cases hv : a = b
      · have tv : ((a : Int) == (b : Int)) = true := by simp [hv]
        have hs2 : ∀ j, j < m + 1 → L[i + j]! = L[i]! := by
          intro j hj
          by_cases e : j = m
          · rw [e, ← hkm, ← HAB.out.1, ← HAB.out.2]; exact hv
          · exact HE.out j (by omega)
        have HS2 := Lib.hid hs2
        clear ha hb hrd hs2 hv hkm
        go_wp2_with fail
        go_still (by kernel_rfl)
        change Exit.then _ _ _ _ wr.drew
        obtain ⟨w5, hw5⟩ : ∃ w5, w5 = wr.drew := ⟨_, rfl⟩
        rw [← hw5]
        have HF5 : Hid (Fr (fun _ => False) wc w5) := (by rw [hw5]; exact HF3.out.drew)
        clear hw5 hc1 hc2 tv
        go_wp2_with fail
        go_roundw
        case rel => exact ⟨m + 1, k + 1, by have := HKM.out; omega, by omega, by go_num, by go_num, HS2.out, HF5.out⟩
        case measure => simp [intOf] <;> omega
      · have tv : ((a : Int) == (b : Int)) = false := by simp; omega
        have hl : m = rn L i := by
          refine (rn_of L i m (by rw [HLN.out]; omega) HE.out (.inr ?_)).symm
          rw [← hkm, ← HAB.out.1, ← HAB.out.2]
          exact hv
        have HL := Lib.hid hl
        clear ha hb hrd hl hv hkm
        go_wp2_with fail
        go_still (by kernel_rfl)
        change Exit.then _ _ _ _ wr.drew
        obtain ⟨w5, hw5⟩ : ∃ w5, w5 = wr.drew := ⟨_, rfl⟩
        rw [← hw5]
        have HF5 : Hid (Fr (fun _ => False) wc w5) := (by rw [hw5]; exact HF3.out.drew)
        clear hw5 hc1 hc2 tv
        go_wp2_with fail
        rw [HL.out]
        exact HEX.out _ _ _ _ _ _ _ _ _ _ _ _ _ _ _ _ _ _ _ _ _ HF5.out
    · have t2 : decide ((k : Int) < (n : Int)) = false := by simp; omega
      have t3 : decide (k < n) = false := by simp; omega
      have hl : m = rn L i := (rn_of L i m (by rw [HLN.out]; omega) HE.out (.inl (by rw [HLN.out]; omega))).symm
      have HL := Lib.hid hl
      clear hl hin hkm
      go_wp2_with fail
      go_quiet (fail)
      have HF5 := Lib.hid (HF3.out.drewN nq)
      go_wp2_with fail
      rw [HL.out]
      exact HEX.out _ _ _ _ _ _ _ _ _ _ _ _ _ _ _ _ _ _ _ _ _ HF5.out
end Go.Proofs.YtahfmcdhcbfkaaaGreatDoor
