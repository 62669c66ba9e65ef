/-
  Contracts of layer 7's program: the tables, within, the closures, the library's search, symbol.
  Taking a loop's body out of a function's code, by a region that it holds; what the program is does not matter here.
  Layer 8's reference: Press (written by gen_run.py).
  Layer 8's reference: Press (written by gen_item.py).
-/
import Derived.Test.YtahfmcdhcbfkaaaDoorZm08
import Derived.Test.YtahfmcdhcbfkaaaDoorZm03
import Derived.WalkKit
import Derived.Test.YtahfmcdhcbfkaaaDoorZm04
import Derived.Test.YtahfmcdhcbfkaaaDoorZm05
import Derived.Test.YtahfmcdhcbfkaaaDoorZm00
import Derived.Deep.DrawnRows
import Derived.StillTailTactics
import Derived.Deep.QuietTactic
import Derived.BigQuiet
namespace Go.Proofs.YtahfmcdhcbfkaaaDoor
open Go.RowKit SyM LzM Mem Go.Lib
attribute [local go_sem ↓] Go.wp_at_zero Go.wp_at_succ
set_option linter.unusedVariables false

/-- a table of pairs lies in a block -/
def TabG (w : World) (g : Nat) (R : List (Nat × Nat)) : Prop := ∀ i, i < R.length → w.cell? ⟨g, i * 2, none⟩ = some (.int .i64 (least R i : Int)) ∧ w.cell? ⟨g, i * 2 + 1, none⟩ = some (.int .i64 (wid R i : Int))
/-- the program's tables lie in their variables -/
def Gl (w : World) : Prop := TabG w 0 lens ∧ TabG w 1 dists
/-- the tables lie below this block -/
def top7 : Nat := max 0 1 + 1
theorem TabG.fr {S : Nat → Prop} {w w' : World} {g : Nat} {R : List (Nat × Nat)} (h : TabG w g R) (hf : Fr S w w') (hg : ¬ S g) : TabG w' g R := fun i hi => ⟨hf.cell (h i hi).1 hg, hf.cell (h i hi).2 hg⟩
theorem Gl.fr0 {w w' : World} (h : Gl w) (hf : Fr (fun _ => False) w w') : Gl w' := ⟨h.1.fr hf (fun h => h), h.2.fr hf (fun h => h)⟩
theorem Gl.size {w : World} (h : Gl w) : top7 ≤ w.heap.size := by
  have h1 : (⟨0, 0 * 2, none⟩ : Addr).block < w.heap.size := World.block_lt_of_cell? w ⟨0, 0 * 2, none⟩ (h.1 0 (by decide)).1
  have h2 : (⟨1, 0 * 2, none⟩ : Addr).block < w.heap.size := World.block_lt_of_cell? w ⟨1, 0 * 2, none⟩ (h.2 0 (by decide)).1
  simp at h1 h2
  unfold top7
  omega

theorem clamp_any (n lo hi : Int) (w : World) : Calls Tryd.prog 76 #[.int .i64 n, .int .i64 lo, .int .i64 hi] w fun e w' => e = .returned (.int .i64 (clampI n lo hi)) ∧ w = w' := by
  obtain ⟨m, hm⟩ : ∃ m, m = max n lo := ⟨_, rfl⟩
  obtain ⟨c, hc⟩ : ∃ c, c = min m hi := ⟨_, rfl⟩
  have hcl : clampI n lo hi = c := by unfold clampI; omega
  rw [hcl]
  have q1 := run_max7 n lo m hm
  have q2 := run_min7 m hi c hc
  clear hm hc hcl
  go_enter Tryd.func76, Tryd.ntmps76
  go_wp2_with fail
  go_ret
  exact ⟨rfl, rfl⟩

set_option maxRecDepth 100000 in
theorem len1_any (i p n : Nat) (w : World) (hG : TabG w 0 lens) (hi : i < 29) (hp : w.cell? ⟨p, 0, none⟩ = some (.int .i64 (n : Int))) :
    Calls Tryd.prog 78 #[.int .i64 (i : Int), .pointer (some ⟨p, 0, none⟩)] w fun e w' => e = .returned (.bool (decide (n < least lens i))) ∧ Fr (fun _ => False) w w' := by
  obtain ⟨m, hm⟩ : ∃ m, m = least lens i := ⟨_, rfl⟩
  have h0 := (hG i hi).1
  rw [← hm] at h0
  rw [← hm]
  have hii : (i : Int) < 29 := by omega
  clear hG hm
  go_enter Tryd.func78, Tryd.ntmps78
  go_upto_region 1 with fail
  go_still (by kernel_rfl)
  go_wp2_with fail
  go_ret
  exact ⟨rfl, (Fr.refl _ w).drew⟩

set_option maxRecDepth 100000 in
theorem dist1_any (i p n : Nat) (w : World) (hG : TabG w 1 dists) (hi : i < 30) (hp : w.cell? ⟨p, 0, none⟩ = some (.int .i64 (n : Int))) :
    Calls Tryd.prog 80 #[.int .i64 (i : Int), .pointer (some ⟨p, 0, none⟩)] w fun e w' => e = .returned (.bool (decide (n < least dists i))) ∧ Fr (fun _ => False) w w' := by
  obtain ⟨m, hm⟩ : ∃ m, m = least dists i := ⟨_, rfl⟩
  have h0 := (hG i hi).1
  rw [← hm] at h0
  rw [← hm]
  have hii : (i : Int) < 30 := by omega
  clear hG hm
  go_enter Tryd.func80, Tryd.ntmps80
  go_upto_region 1 with fail
  go_still (by kernel_rfl)
  go_wp2_with fail
  go_ret
  exact ⟨rfl, (Fr.refl _ w).drew⟩

end Go.Proofs.YtahfmcdhcbfkaaaDoor
namespace Go.Proofs.YtahfmcdhcbfkaaaDoor
open Go

def hasRegion (r : Nat) : Code → Bool
  | .region id _ _ => id == r
  | .seq a b => hasRegion r a || hasRegion r b
  | .cond _ a b => hasRegion r a || hasRegion r b
  | .block _ c => hasRegion r c
  | .loop c => hasRegion r c
  | .scope c => hasRegion r c
  | _ => false
/-- the body of the innermost loop that holds region r -/
def loopAt (r : Nat) : Code → Option Code
  | .seq a b => match loopAt r a with
    | some c => some c
    | none => loopAt r b
  | .cond _ a b => match loopAt r a with
    | some c => some c
    | none => loopAt r b
  | .block _ c => loopAt r c
  | .scope c => loopAt r c
  | .loop c => match loopAt r c with
    | some d => some d
    | none => bif hasRegion r c then some c else none
  | _ => none
/-- region r -/
def regionAt (r : Nat) : Code → Option Code
  | .region id ops d => bif id == r then some (.region id ops d) else none
  | .seq a b => match regionAt r a with
    | some c => some c
    | none => regionAt r b
  | .cond _ a b => match regionAt r a with
    | some c => some c
    | none => regionAt r b
  | .block _ c => regionAt r c
  | .loop c => regionAt r c
  | .scope c => regionAt r c
  | _ => none
/-- a post that is asked of one exit alone: blind at a panic (go_region's short way wants that) -/
def onExit (n : Nat) (Q1 : Act → World → Prop) : Exit → Act → World → Prop
  | .exit m, a, w => m = n ∧ Q1 a w
  | _, _, _ => False
theorem onExit_imp {n : Nat} {Q0 : Exit → Act → World → Prop} : ∀ e a w, onExit n (Q0 (.exit n)) e a w → Q0 e a w := by
  intro e a w h
  cases e with
  | exit m => obtain ⟨rfl, h⟩ := h; exact h
  | _ => exact h.elim
end Go.Proofs.YtahfmcdhcbfkaaaDoor
namespace Go.Proofs.YtahfmcdhcbfkaaaDoor
open Go.RowKit CoM Mem Go.Lib
attribute [local go_sem ↓] Go.wp_at_zero Go.wp_at_succ
set_option linter.unusedVariables false

/-- a cell of a slice of numbers -/
theorem nat_cell {w : World} {A : Option Addr} {n : Nat} {L : List Nat} (h : Rd w A n (L.map natc)) {k : Nat} (hk : k < n) : ∃ ad, A = some ad ∧ w.cell? (ad.add k) = some (.int .i64 ((L[k]! : Nat) : Int)) := by
  have hl : L.length = n := by simpa using h.1
  obtain ⟨ad, u, e, h1, h2⟩ := h.at_ hk
  rw [List.getElem?_map, List.getElem?_eq_getElem (by omega)] at h1
  refine ⟨ad, e, ?_⟩
  rw [h2, getElem!_pos L k (by omega), ← h1]
  rfl

set_option maxRecDepth 1000000 in
noncomputable def runBody : Code := ((Tryd.f70.body.bind (loopAt 6)).getD .skip)

set_option maxRecDepth 1000000 in
set_option maxHeartbeats 3200000 in
theorem run_loop (Q0 : Exit → Act → World → Prop) (s1 s2 s3 s7 s8 s9 s10 s11 s12 s13 s14 s15 s16 s17 s18 s19 s20 s21 s22 s23 s24 s25 s26 s27 s28 s29 s30 s31 s32 s33 s34 s35 s36 s37 s38 s39 s40 s41 s42 s43 s44 s45 s46 s47 s48 s49 s50 s51 s52 s53 s54 s55 s56 s57 s58 s59 s60 s61 s62 s63 s64 s65 s66 s67 s68 s69 s70 s71 s72 s73 s74 s75 s76 s77 s78 s79 s80 s81 s82 s83 s84 s85 s86 s87 s88 s89 s90 s91 s92 s93 s94 s95 s96 s97 s98 s99 s100 s101 s102 s103 s104 s105 s106 s107 s108 s109 s110 : Value) (A : Option Addr) (n c i : Nat) (L : List Nat) (wc : World)
    (HR : Hid (Rd wc A n (L.map natc))) (HLN : Hid (L.length = n)) (hn : n ≤ 1000000) (hi : i < n)
    (hexit : ∀ (w'' : World) (r6 r12 r13 r14 r15 r16 r17 r18 r19 r20 r21 r22 r23 r24 r25 r26 r27 r28 r29 r30 : Value), Fr (fun _ => False) wc w'' → Q0 (.exit 2) ⟨List.toArray (.slice A n c :: s1 :: s2 :: s3 :: .int .i64 (i : Int) :: .int .i64 (rn L i : Nat) :: r6 :: s7 :: s8 :: s9 :: s10 :: s11 :: r12 :: r13 :: r14 :: r15 :: r16 :: r17 :: r18 :: r19 :: r20 :: r21 :: r22 :: r23 :: r24 :: r25 :: r26 :: r27 :: r28 :: r29 :: r30 :: s31 :: s32 :: s33 :: s34 :: s35 :: s36 :: s37 :: s38 :: s39 :: s40 :: s41 :: s42 :: s43 :: s44 :: s45 :: s46 :: s47 :: s48 :: s49 :: s50 :: s51 :: s52 :: s53 :: s54 :: s55 :: s56 :: s57 :: s58 :: s59 :: s60 :: s61 :: s62 :: s63 :: s64 :: s65 :: s66 :: s67 :: s68 :: s69 :: s70 :: s71 :: s72 :: s73 :: s74 :: s75 :: s76 :: s77 :: s78 :: s79 :: s80 :: s81 :: s82 :: s83 :: s84 :: s85 :: s86 :: s87 :: s88 :: s89 :: s90 :: s91 :: s92 :: s93 :: s94 :: s95 :: s96 :: s97 :: s98 :: s99 :: s100 :: s101 :: s102 :: s103 :: s104 :: s105 :: s106 :: s107 :: s108 :: s109 :: s110 :: []), []⟩ w'') :
    Code.wp Tryd.prog (Code.loop runBody) Q0 ⟨List.toArray (.slice A n c :: s1 :: s2 :: s3 :: .int .i64 (i : Int) :: .int .i64 0 :: .int .i64 (i : Int) :: s7 :: s8 :: s9 :: s10 :: s11 :: s12 :: s13 :: s14 :: s15 :: s16 :: s17 :: s18 :: s19 :: s20 :: s21 :: s22 :: s23 :: s24 :: s25 :: s26 :: s27 :: s28 :: s29 :: s30 :: s31 :: s32 :: s33 :: s34 :: s35 :: s36 :: s37 :: s38 :: s39 :: s40 :: s41 :: s42 :: s43 :: s44 :: s45 :: s46 :: s47 :: s48 :: s49 :: s50 :: s51 :: s52 :: s53 :: s54 :: s55 :: s56 :: s57 :: s58 :: s59 :: s60 :: s61 :: s62 :: s63 :: s64 :: s65 :: s66 :: s67 :: s68 :: s69 :: s70 :: s71 :: s72 :: s73 :: s74 :: s75 :: s76 :: s77 :: s78 :: s79 :: s80 :: s81 :: s82 :: s83 :: s84 :: s85 :: s86 :: s87 :: s88 :: s89 :: s90 :: s91 :: s92 :: s93 :: s94 :: s95 :: s96 :: s97 :: s98 :: s99 :: s100 :: s101 :: s102 :: s103 :: s104 :: s105 :: s106 :: s107 :: s108 :: s109 :: s110 :: []), []⟩ wc := by
  have HEX := Lib.hid hexit
  clear hexit
  conv => arg 2; arg 1; whnf
  go_loopw [5, 6] (fun x k wx => ∃ m k1 : Nat, k1 = i + m ∧ k1 ≤ n ∧ x = .int .i64 (m : Int) ∧ k = .int .i64 (k1 : Int) ∧ Hid (∀ j, j < m → L[i + j]! = L[i]!) ∧ Hid (Fr (fun _ => False) wc wx)) (fun x _ _ => n - (intOf x).toNat)
  case atStart => exact ⟨0, i, by omega, by omega, rfl, rfl, fun j hj => by omega, Fr.refl _ _⟩
  case round =>
    obtain ⟨m, k, hkm, hk, rfl, rfl, HE, HF3⟩ := hrel
    rename World => wr
    have HKM := Lib.hid hkm
    by_cases hin : k < n
    · have hrd := HR.out.fr HF3.out (fun _ _ h => h)
      obtain ⟨ad, rfl, hc1⟩ := nat_cell hrd hin
      obtain ⟨ad2, hA2, hc2⟩ := nat_cell hrd hi
      injection hA2 with hA2
      subst hA2
      obtain ⟨a, ha⟩ : ∃ a, a = L[k]! := ⟨_, rfl⟩
      obtain ⟨b, hb⟩ : ∃ a, a = L[i]! := ⟨_, rfl⟩
      rw [← ha] at hc1
      rw [← hb] at hc2
      have HAB := Lib.hid (And.intro ha hb)
      have t2 : decide ((k : Int) < (n : Int)) = true := by simp; omega
      have hmn : m < n := by omega
      by_cases hv : a = b
      · have tv : ((a : Int) == (b : Int)) = true := by simp [hv]
        have hs2 : ∀ j, j < m + 1 → L[i + j]! = L[i]! := by
          intro j hj
          by_cases e : j = m
          · rw [e, ← hkm, ← HAB.out.1, ← HAB.out.2]; exact hv
          · exact HE.out j (by omega)
        have HS2 := Lib.hid hs2
        clear ha hb hrd hs2 hv hkm
        go_wp2_with fail
        go_still (by kernel_rfl)
        change Exit.then _ _ _ _ wr.drew
        obtain ⟨w5, hw5⟩ : ∃ w5, w5 = wr.drew := ⟨_, rfl⟩
        rw [← hw5]
        have HF5 : Hid (Fr (fun _ => False) wc w5) := (by rw [hw5]; exact HF3.out.drew)
        clear hw5 hc1 hc2 tv
        go_wp2_with fail
        go_roundw
        case rel => exact ⟨m + 1, k + 1, by have := HKM.out; omega, by omega, by go_num, by go_num, HS2.out, HF5.out⟩
        case measure => simp [intOf] <;> omega
      · have tv : ((a : Int) == (b : Int)) = false := by simp; omega
        have hl : m = rn L i := by
          refine (rn_of L i m (by rw [HLN.out]; omega) HE.out (.inr ?_)).symm
          rw [← hkm, ← HAB.out.1, ← HAB.out.2]
          exact hv
        have HL := Lib.hid hl
        clear ha hb hrd hl hv hkm
        go_wp2_with fail
        go_still (by kernel_rfl)
        change Exit.then _ _ _ _ wr.drew
        obtain ⟨w5, hw5⟩ : ∃ w5, w5 = wr.drew := ⟨_, rfl⟩
        rw [← hw5]
        have HF5 : Hid (Fr (fun _ => False) wc w5) := (by rw [hw5]; exact HF3.out.drew)
        clear hw5 hc1 hc2 tv
        go_wp2_with fail
        rw [HL.out]
        exact HEX.out _ _ _ _ _ _ _ _ _ _ _ _ _ _ _ _ _ _ _ _ _ HF5.out
    · have t2 : decide ((k : Int) < (n : Int)) = false := by simp; omega
      have t3 : decide (k < n) = false := by simp; omega
      have hl : m = rn L i := (rn_of L i m (by rw [HLN.out]; omega) HE.out (.inl (by rw [HLN.out]; omega))).symm
      have HL := Lib.hid hl
      clear hl hin hkm
      go_wp2_with fail
      go_quiet (fail)
      have HF5 := Lib.hid (HF3.out.drewN nq)
      go_wp2_with fail
      rw [HL.out]
      exact HEX.out _ _ _ _ _ _ _ _ _ _ _ _ _ _ _ _ _ _ _ _ _ HF5.out
end Go.Proofs.YtahfmcdhcbfkaaaDoor
namespace Go.Proofs.YtahfmcdhcbfkaaaDoor
open Go.RowKit CoM Mem Go.Lib
attribute [local go_sem ↓] Go.wp_at_zero Go.wp_at_succ
set_option linter.unusedVariables false

def itc (t : It) : List Value := [.int .i64 (t.s : Int), .int .i64 (t.b : Int), .int .u64 (t.x : Int)]
theorem itemT : ElemTyS Tryd.prog 99 101 (.agg #[.int .i64 0, .int .i64 0, .int .u64 0]) 3 24 := ⟨Tryd.underlying99, by kernel_rfl, rfl, by decide⟩
/-- a slice of one's own holds these items -/
def OwnIt (w : World) (base : Nat) (e : TypeId) (A : Option Addr) (c : Nat) (T : List It) : Prop := w.ownsRow base e 3 (.slice A T.length c) T.length (T.flatMap itc)
theorem OwnIt.fr {w w' : World} {base c : Nat} {e : TypeId} {A : Option Addr} {T : List It} (h : OwnIt w base e A c T) (hf : Fr (fun _ => False) w w') : OwnIt w' base e A c T := hf.own h (fun _ _ h => h)
theorem it_one (a b x : Int) : ∀ v ∈ [Value.int .i64 a, .int .i64 b, .int .u64 x], v.oneCell' = true := by
  intro v hv
  simp at hv
  rcases hv with rfl | rfl | rfl <;> rfl
theorem flatI (O : List It) (t : It) : (O ++ [t]).flatMap itc = O.flatMap itc ++ itc t := by rw [List.flatMap_append]; simp
theorem cells_new8 {w : World} {k : Nat} (hk : k = w.heap.size) (xs : List Value) (t : TypeId) : ∀ j x, xs[j]? = some x → (w.alloc (.cells xs.toArray t)).cell? ((⟨k, 0, none⟩ : Addr).add j) = some x := by
  subst hk
  intro j x hx
  have hl : 0 < xs.length := by have := (List.getElem?_eq_some_iff.1 hx).1; omega
  obtain ⟨ad, e, h⟩ := (Rd.cells rfl xs t).2 hl
  injection e with e
  subst e
  exact h j x hx
theorem run_min8 (n k m : Int) (h : m = min n k) (w : World) : (Builtin.min_ #[3, 3] 3 #[.int .i64 n, .int .i64 k]).run Tryd.prog w = .ok (.int .i64 m) w := by
  rw [h]
  go_simp
  split <;> omega
theorem conv_u64 (e : Nat) (he : e ≤ 1000000) (w : World) : (convert 3 44 (.int .i64 (e : Int))).run Tryd.prog w = .ok (.int .u64 (e : Int)) w := by
  go_simp
  unfold IntKind.wrap
  simp [IntKind.bits, IntKind.signed]
  omega

set_option maxRecDepth 100000 in
set_option maxHeartbeats 6400000 in
theorem rItems_any (A : Option Addr) (n c : Nat) (L : List Nat) (w : World) (hr : Rd w A n (L.map natc)) (hn : n ≤ 1000) (hL : ∀ x ∈ L, x ≤ 1000000) :
    Calls Tryd.prog 70 #[.slice A n c] w fun e w' => ∃ A' c', e = .returned (.slice A' (items L).length c') ∧ OwnIt w' w.heap.size 101 A' c' (items L) ∧ Fr (fun _ => False) w w' := by
  have hln : L.length = n := by simpa using hr.1
  have HRD := Lib.hid hr
  have HLN := Lib.hid hln
  have HLX := Lib.hid hL
  obtain ⟨base, hbase⟩ : ∃ base, base = w.heap.size := ⟨_, rfl⟩
  have HB := Lib.hid hbase
  rw [← hbase]
  obtain ⟨R, hR⟩ : ∃ R, R = items L := ⟨_, rfl⟩
  rw [← hR]
  have HRR := Lib.hid hR
  clear hr hln hbase hR hL
  go_enter Tryd.func70, Tryd.ntmps70
  go_wp2_with fail
  go_loopw [3, 4] (fun s i wr => ∃ (k : Nat) (O : List It) (A1 : Option Addr) (c1 : Nat), k ≤ n ∧ i = .int .i64 (k : Int) ∧ s = .slice A1 O.length c1 ∧ Hid (OwnIt wr base 101 A1 c1 O) ∧ O.length ≤ k ∧ Hid (O ++ pressI L (n - k) k = R) ∧ Hid (Fr (fun _ => False) w wr)) (fun _ i _ => n - (intOf i).toNat)
  case atStart => exact ⟨0, [], none, 0, Nat.zero_le _, rfl, rfl, World.ownsRow_nil _ _ _ _, by simp, by rw [HRR.out, items, HLN.out]; rfl, Fr.refl _ _⟩
  case round =>
    obtain ⟨i, O, A1, c1, hk, rfl, rfl, HO, hol, HE, HF⟩ := hrel
    rename World => wr
    by_cases hlt : i < n
    · have HRr := Lib.hid (HRD.out.fr HF.out (fun _ _ h => h))
      go_wp2_with fail
      refine run_loop _ _ _ _ _ _ _ _ _ _ _ _ _ _ _ _ _ _ _ _ _ _ _ _ _ _ _ _ _ _ _ _ _ _ _ _ _ _ _ _ _ _ _ _ _ _ _ _ _ _ _ _ _ _ _ _ _ _ _ _ _ _ _ _ _ _ _ _ _ _ _ _ _ _ _ _ _ _ _ _ _ _ _ _ _ _ _ _ _ _ _ _ _ _ _ _ _ _ _ _ _ _ _ _ _ _ _ _ A n c i L _ HRr HLN (by omega) hlt ?_
      intro w5 r6 r12 r13 r14 r15 r16 r17 r18 r19 r20 r21 r22 r23 r24 r25 r26 r27 r28 r29 r30 hf5
      have HFX := Lib.hid (HF.out.trans hf5 (fun _ _ h => h))
      have HOX := Lib.hid (HO.out.fr hf5)
      have hrd := HRr.out.fr hf5 (fun _ _ h => h)
      obtain ⟨ad, rfl, cv⟩ := nat_cell hrd hlt
      have hin : i < L.length := by rw [HLN.out]; exact hlt
      have hp := HE.out
      obtain ⟨f, hf⟩ : ∃ f, n - i = f + 1 := ⟨n - i - 1, by omega⟩
      rw [hf, pressI, if_pos hin] at hp
      have HHF := Lib.hid hf
      have hm1 := rn_pos L i hin
      have hm2 := rn_le L i (Nat.le_of_lt hin)
      rw [HLN.out] at hm2
      obtain ⟨v, hv⟩ : ∃ a, a = L[i]! := ⟨_, rfl⟩
      obtain ⟨m, hm⟩ : ∃ a, a = rn L i := ⟨_, rfl⟩
      have hvb : v ≤ 1000000 := by rw [hv, getElem!_pos L i hin]; exact HLX.out _ (List.getElem_mem hin)
      rw [← hv] at cv
      rw [← hm] at hm1 hm2 ⊢
      have HVM := Lib.hid (And.intro hv hm)
      have hprev : 0 < i → ∃ i1, i1 = i - 1 ∧ w5.cell? (ad.add i1) = some (.int .i64 ((L[i - 1]! : Nat) : Int)) := fun h => by
        obtain ⟨ad2, h1, h2⟩ := nat_cell hrd (k := i - 1) (by omega)
        injection h1 with h1
        subst h1
        exact ⟨i - 1, rfl, h2⟩
      clear hf5 hrd hf hm
      by_cases hv0 : v = 0
      · clear hv hprev
        by_cases h10 : 10 < m
        · obtain ⟨k, hk⟩ : ∃ k, k = min m 138 := ⟨_, rfl⟩
          obtain ⟨x, hx⟩ : ∃ x, x = k - 11 := ⟨_, rfl⟩
          have hmn : (Builtin.min_ #[3, 3] 3 #[.int .i64 (m : Int), .int .i64 138]).run Tryd.prog = (Builtin.min_ #[3, 3] 3 #[.int .i64 (m : Int), .int .i64 138]).run Tryd.prog := rfl
          have q1 := run_min8 (m : Int) 138 (k : Int) (by omega)
          have hkx : (k : Int) - 11 = (x : Int) := by omega
          have hkw : IntKind.u64.wrap ((k : Int) - 11) = (x : Int) := by unfold IntKind.wrap; simp [IntKind.bits, IntKind.signed]; omega
          have hk1 : 11 ≤ k := by omega
          have hk2 : k ≤ 138 := by omega
          have hkm : k ≤ m := by omega
          have q2 := conv_u64 k (by omega)
          clear hmn
          have hit : itemAt L i = (⟨18, 7, x⟩, k) := by
            unfold itemAt
            rw [← HVM.out.1, ← HVM.out.2]
            rw [if_pos ⟨hv0, h10⟩, hx, hk]
          rw [hit] at hp
          obtain ⟨O2, hO2⟩ : ∃ O2, O2 = O ++ [⟨18, 7, x⟩] := ⟨_, rfl⟩
          have hO2l : O2.length = O.length + 1 := by rw [hO2]; simp
          have hE4 : O2 ++ pressI L (n - (i + k)) (i + k) = R := by
            have hm := pressI_more L (n - (i + k)) (i + k) (by have := HLN.out; omega) (k - 1)
            rw [hO2, List.append_assoc, ← hm, show n - (i + k) + (k - 1) = f by have := HHF.out; omega]
            exact hp
          have hmN : O2.length ≤ i + 1 := by omega
          have hol2 : O2.length ≤ 1001 := by omega
          have HN2 := Lib.hid (And.intro hO2 hO2l)
          have HE4 := Lib.hid hE4
          have HMN := Lib.hid hmN
          clear hit hp hO2 hO2l hE4 hmN
          clear hk hx
          go_wp2_with (at_builtin; refine wpList_appS itemT _ rfl _ _ rfl base _ O.length (O.flatMap itc) rfl (HOX.out.alloc _) ⟨w5.heap.size, 0, none⟩ 1 [.int .i64 18, .int .i64 7, .int .u64 (x : Int)] rfl rfl (cells_new8 rfl _ _) (it_one _ _ _) O2.length (by rw [HN2.out.2]) (by unfold maxLen; omega) (by omega) (by have h1 := HFX.out.size; have h2 := HB.out; simp; omega) ?_)
          all_goals
            intro A' c' w' hown' hcc hfr'
            have HO4 : Hid (OwnIt w' base 101 A' c' O2) := Lib.hid (by
              show w'.ownsRow base _ 3 _ _ (O2.flatMap itc)
              have e : O2.flatMap itc = O.flatMap itc ++ [.int .i64 18, .int .i64 7, .int .u64 (x : Int)] := by rw [HN2.out.1, flatI]; rfl
              rw [e]
              exact hown')
            have HF4 : Hid (Fr (fun _ => False) w w') := Lib.hid ((HFX.out.alloc _).trans hfr' (fun b hb h => by have h1 := HOX.out.lt _ h; have h2 := HB.out; omega))
            clear hown' hfr'
            go_wp2_with fail
            exact ⟨⟨i + k, O2, A', c', by omega, by go_num, rfl, HO4.out, by have := HMN.out; omega, HE4.out, HF4.out⟩, by simp [intOf]; omega⟩
        · by_cases h2 : 2 < m
          · obtain ⟨x, hx⟩ : ∃ x, x = m - 3 := ⟨_, rfl⟩
            have hkx : (m : Int) - 3 = (x : Int) := by omega
            have hkw : IntKind.u64.wrap ((m : Int) - 3) = (x : Int) := by unfold IntKind.wrap; simp [IntKind.bits, IntKind.signed]; omega
            have q2 := conv_u64 m (by omega)
            have hit : itemAt L i = (⟨17, 3, x⟩, m) := by
              unfold itemAt
              rw [← HVM.out.1, ← HVM.out.2]
              rw [if_neg (fun h => h10 h.2), if_pos ⟨hv0, h2⟩, hx]
            rw [hit] at hp
            obtain ⟨O2, hO2⟩ : ∃ O2, O2 = O ++ [⟨17, 3, x⟩] := ⟨_, rfl⟩
            have hO2l : O2.length = O.length + 1 := by rw [hO2]; simp
            have hE4 : O2 ++ pressI L (n - (i + m)) (i + m) = R := by
              have hm := pressI_more L (n - (i + m)) (i + m) (by have := HLN.out; omega) (m - 1)
              rw [hO2, List.append_assoc, ← hm, show n - (i + m) + (m - 1) = f by have := HHF.out; omega]
              exact hp
            have hmN : O2.length ≤ i + 1 := by omega
            have hol2 : O2.length ≤ 1001 := by omega
            have HN2 := Lib.hid (And.intro hO2 hO2l)
            have HE4 := Lib.hid hE4
            have HMN := Lib.hid hmN
            clear hit hp hO2 hO2l hE4 hmN
            clear hx
            go_wp2_with (at_builtin; refine wpList_appS itemT _ rfl _ _ rfl base _ O.length (O.flatMap itc) rfl (HOX.out.alloc _) ⟨w5.heap.size, 0, none⟩ 1 [.int .i64 17, .int .i64 3, .int .u64 (x : Int)] rfl rfl (cells_new8 rfl _ _) (it_one _ _ _) O2.length (by rw [HN2.out.2]) (by unfold maxLen; omega) (by omega) (by have h1 := HFX.out.size; have h2 := HB.out; simp; omega) ?_)
            all_goals
              intro A' c' w' hown' hcc hfr'
              have HO4 : Hid (OwnIt w' base 101 A' c' O2) := Lib.hid (by
                show w'.ownsRow base _ 3 _ _ (O2.flatMap itc)
                have e : O2.flatMap itc = O.flatMap itc ++ [.int .i64 17, .int .i64 3, .int .u64 (x : Int)] := by rw [HN2.out.1, flatI]; rfl
                rw [e]
                exact hown')
              have HF4 : Hid (Fr (fun _ => False) w w') := Lib.hid ((HFX.out.alloc _).trans hfr' (fun b hb h => by have h1 := HOX.out.lt _ h; have h2 := HB.out; omega))
              clear hown' hfr'
              go_wp2_with fail
              exact ⟨⟨i + m, O2, A', c', by omega, by go_num, rfl, HO4.out, by have := HMN.out; omega, HE4.out, HF4.out⟩, by simp [intOf]; omega⟩
          · have hit : itemAt L i = (⟨v, 0, 0⟩, 1) := by
              unfold itemAt
              rw [← HVM.out.1, ← HVM.out.2]
              rw [if_neg (fun h => h10 h.2), if_neg (fun h => h2 h.2), if_neg (fun h => by omega)]
            rw [hit] at hp
            obtain ⟨O2, hO2⟩ : ∃ O2, O2 = O ++ [⟨v, 0, 0⟩] := ⟨_, rfl⟩
            have hO2l : O2.length = O.length + 1 := by rw [hO2]; simp
            have hE4 : O2 ++ pressI L (n - (i + 1)) (i + 1) = R := by
              have hm := pressI_more L (n - (i + 1)) (i + 1) (by have := HLN.out; omega) (1 - 1)
              rw [hO2, List.append_assoc, ← hm, show n - (i + 1) + (1 - 1) = f by have := HHF.out; omega]
              exact hp
            have hmN : O2.length ≤ i + 1 := by omega
            have hol2 : O2.length ≤ 1001 := by omega
            have HN2 := Lib.hid (And.intro hO2 hO2l)
            have HE4 := Lib.hid hE4
            have HMN := Lib.hid hmN
            clear hit hp hO2 hO2l hE4 hmN
            subst hv0
            have t1 : decide (((0 : Nat) : Int) > 0) = false := by simp
            have t5 : decide ((m : Int) > 2) = false := by simp; omega
            have t5' : decide (2 < (m : Int)) = false := by simp; omega
            have t5q : decide (2 < m) = false := by simp; omega
            have t6 : decide ((m : Int) > 10) = false := by simp; omega
            replace cv : w5.cell? (ad.add i) = some (.int .i64 0) := cv
            go_wp2_with fail
            go_quiet (fail)
            obtain ⟨w6, hw6⟩ : ∃ w6, w6 = w5.drewN nq := ⟨_, rfl⟩
            rw [← hw6]
            have HOY : Hid (OwnIt w6 base 101 A1 c1 O) := Lib.hid (by rw [hw6]; exact HOX.out)
            have HFY : Hid (Fr (fun _ => False) w w6) := Lib.hid (by rw [hw6]; exact HFX.out.drewN nq)
            replace cv : w6.cell? (ad.add i) = some (.int .i64 0) := by rw [hw6]; exact cv
            clear hw6 nq
            go_wp2_with (at_builtin; refine wpList_appS itemT _ rfl _ _ rfl base _ O.length (O.flatMap itc) rfl (HOY.out.alloc _) ⟨w6.heap.size, 0, none⟩ 1 [.int .i64 0, .int .i64 0, .int .u64 0] rfl rfl (cells_new8 rfl _ _) (it_one _ _ _) O2.length (by rw [HN2.out.2]) (by unfold maxLen; omega) (by omega) (by have h1 := HFY.out.size; have h2 := HB.out; simp; omega) ?_)
            all_goals
              intro A' c' w' hown' hcc hfr'
              have HO4 : Hid (OwnIt w' base 101 A' c' O2) := Lib.hid (by
                show w'.ownsRow base _ 3 _ _ (O2.flatMap itc)
                have e : O2.flatMap itc = O.flatMap itc ++ [.int .i64 0, .int .i64 0, .int .u64 0] := by rw [HN2.out.1, flatI]; rfl
                rw [e]
                exact hown')
              have HF4 : Hid (Fr (fun _ => False) w w') := Lib.hid ((HFY.out.alloc _).trans hfr' (fun b hb h => by have h1 := HOY.out.lt _ h; have h2 := HB.out; omega))
              clear hown' hfr'
              go_wp2_with fail
              exact ⟨⟨i + 1, O2, A', c', by omega, by go_num, rfl, HO4.out, by have := HMN.out; omega, HE4.out, HF4.out⟩, by simp [intOf]; omega⟩
      · by_cases hi0 : 0 < i
        · obtain ⟨i1, hi1, cp⟩ := hprev hi0
          have hi1n : i1 < n := by omega
          have hi1i : (i : Int) - 1 = (i1 : Int) := by omega
          have hi1w : IntKind.i64.wrap ((i : Int) - 1) = (i1 : Int) := by rw [IntKind.wrap_i64]; omega
          clear hv hprev hi1
          by_cases hvp : v = L[i - 1]!
          · by_cases h2 : 2 < m
            · obtain ⟨k, hk⟩ : ∃ k, k = min m 6 := ⟨_, rfl⟩
              obtain ⟨x, hx⟩ : ∃ x, x = k - 3 := ⟨_, rfl⟩
              have q1 := run_min8 (m : Int) 6 (k : Int) (by omega)
              have hkx : (k : Int) - 3 = (x : Int) := by omega
              have hkw : IntKind.u64.wrap ((k : Int) - 3) = (x : Int) := by unfold IntKind.wrap; simp [IntKind.bits, IntKind.signed]; omega
              have hk1 : 3 ≤ k := by omega
              have hk2 : k ≤ 6 := by omega
              have hkm : k ≤ m := by omega
              have q2 := conv_u64 k (by omega)
              have hit : itemAt L i = (⟨16, 2, x⟩, k) := by
                unfold itemAt
                rw [← HVM.out.1, ← HVM.out.2]
                rw [if_neg (fun h => hv0 h.1), if_neg (fun h => hv0 h.1), if_pos ⟨by omega, hi0, hvp, h2⟩, hx, hk]
              rw [hit] at hp
              obtain ⟨O2, hO2⟩ : ∃ O2, O2 = O ++ [⟨16, 2, x⟩] := ⟨_, rfl⟩
              have hO2l : O2.length = O.length + 1 := by rw [hO2]; simp
              have hE4 : O2 ++ pressI L (n - (i + k)) (i + k) = R := by
                have hm := pressI_more L (n - (i + k)) (i + k) (by have := HLN.out; omega) (k - 1)
                rw [hO2, List.append_assoc, ← hm, show n - (i + k) + (k - 1) = f by have := HHF.out; omega]
                exact hp
              have hmN : O2.length ≤ i + 1 := by omega
              have hol2 : O2.length ≤ 1001 := by omega
              have HN2 := Lib.hid (And.intro hO2 hO2l)
              have HE4 := Lib.hid hE4
              have HMN := Lib.hid hmN
              clear hit hp hO2 hO2l hE4 hmN
              clear hk hx
              have t1 : ((v : Int) == 0) = false := by simp; omega
              have t2 : decide ((v : Int) > 0) = true := by simp; omega
              have t2' : decide (0 < (v : Int)) = true := by simp; omega
              have t2q : decide (0 < v) = true := by simp; omega
              have t3 : decide ((i : Int) > 0) = true := by simp; omega
              have t3' : decide (0 < (i : Int)) = true := by simp; omega
              have t3q : decide (0 < i) = true := by simp; omega
              have t4 : ((v : Int) == (v : Int)) = true := by simp
              rw [← hvp] at cp
              clear hvp
              have t5 : decide ((m : Int) > 2) = true := by simp; omega
              have t5' : decide (2 < (m : Int)) = true := by simp; omega
              have t5q : decide (2 < m) = true := by simp; omega
              go_wp2_with fail
              go_quiet (fail)
              obtain ⟨w6, hw6⟩ : ∃ w6, w6 = w5.drewN nq := ⟨_, rfl⟩
              rw [← hw6]
              have HOY : Hid (OwnIt w6 base 101 A1 c1 O) := Lib.hid (by rw [hw6]; exact HOX.out)
              have HFY : Hid (Fr (fun _ => False) w w6) := Lib.hid (by rw [hw6]; exact HFX.out.drewN nq)
              replace cv : w6.cell? (ad.add i) = some (.int .i64 (v : Int)) := by rw [hw6]; exact cv
              clear hw6 nq cp
              go_wp2_with (at_builtin; refine wpList_appS itemT _ rfl _ _ rfl base _ O.length (O.flatMap itc) rfl (HOY.out.alloc _) ⟨w6.heap.size, 0, none⟩ 1 [.int .i64 16, .int .i64 2, .int .u64 (x : Int)] rfl rfl (cells_new8 rfl _ _) (it_one _ _ _) O2.length (by rw [HN2.out.2]) (by unfold maxLen; omega) (by omega) (by have h1 := HFY.out.size; have h2 := HB.out; simp; omega) ?_)
              all_goals
                intro A' c' w' hown' hcc hfr'
                have HO4 : Hid (OwnIt w' base 101 A' c' O2) := Lib.hid (by
                  show w'.ownsRow base _ 3 _ _ (O2.flatMap itc)
                  have e : O2.flatMap itc = O.flatMap itc ++ [.int .i64 16, .int .i64 2, .int .u64 (x : Int)] := by rw [HN2.out.1, flatI]; rfl
                  rw [e]
                  exact hown')
                have HF4 : Hid (Fr (fun _ => False) w w') := Lib.hid ((HFY.out.alloc _).trans hfr' (fun b hb h => by have h1 := HOY.out.lt _ h; have h2 := HB.out; omega))
                clear hown' hfr'
                go_wp2_with fail
                exact ⟨⟨i + k, O2, A', c', by omega, by go_num, rfl, HO4.out, by have := HMN.out; omega, HE4.out, HF4.out⟩, by simp [intOf]; omega⟩
            · have hit : itemAt L i = (⟨v, 0, 0⟩, 1) := by
                unfold itemAt
                rw [← HVM.out.1, ← HVM.out.2]
                rw [if_neg (fun h => hv0 h.1), if_neg (fun h => hv0 h.1), if_neg (fun h => h2 h.2.2.2)]
              rw [hit] at hp
              obtain ⟨O2, hO2⟩ : ∃ O2, O2 = O ++ [⟨v, 0, 0⟩] := ⟨_, rfl⟩
              have hO2l : O2.length = O.length + 1 := by rw [hO2]; simp
              have hE4 : O2 ++ pressI L (n - (i + 1)) (i + 1) = R := by
                have hm := pressI_more L (n - (i + 1)) (i + 1) (by have := HLN.out; omega) (1 - 1)
                rw [hO2, List.append_assoc, ← hm, show n - (i + 1) + (1 - 1) = f by have := HHF.out; omega]
                exact hp
              have hmN : O2.length ≤ i + 1 := by omega
              have hol2 : O2.length ≤ 1001 := by omega
              have HN2 := Lib.hid (And.intro hO2 hO2l)
              have HE4 := Lib.hid hE4
              have HMN := Lib.hid hmN
              clear hit hp hO2 hO2l hE4 hmN
              have t1 : ((v : Int) == 0) = false := by simp; omega
              have t2 : decide ((v : Int) > 0) = true := by simp; omega
              have t2' : decide (0 < (v : Int)) = true := by simp; omega
              have t2q : decide (0 < v) = true := by simp; omega
              have t3 : decide ((i : Int) > 0) = true := by simp; omega
              have t3' : decide (0 < (i : Int)) = true := by simp; omega
              have t3q : decide (0 < i) = true := by simp; omega
              have t4 : ((v : Int) == (v : Int)) = true := by simp
              have t5 : decide ((m : Int) > 2) = false := by simp; omega
              have t5' : decide (2 < (m : Int)) = false := by simp; omega
              have t5q : decide (2 < m) = false := by simp; omega
              rw [← hvp] at cp
              clear hvp
              go_wp2_with fail
              go_quiet (fail)
              obtain ⟨w6, hw6⟩ : ∃ w6, w6 = w5.drewN nq := ⟨_, rfl⟩
              rw [← hw6]
              have HOY : Hid (OwnIt w6 base 101 A1 c1 O) := Lib.hid (by rw [hw6]; exact HOX.out)
              have HFY : Hid (Fr (fun _ => False) w w6) := Lib.hid (by rw [hw6]; exact HFX.out.drewN nq)
              replace cv : w6.cell? (ad.add i) = some (.int .i64 (v : Int)) := by rw [hw6]; exact cv
              clear hw6 nq cp
              go_wp2_with (at_builtin; refine wpList_appS itemT _ rfl _ _ rfl base _ O.length (O.flatMap itc) rfl (HOY.out.alloc _) ⟨w6.heap.size, 0, none⟩ 1 [.int .i64 (v : Int), .int .i64 0, .int .u64 0] rfl rfl (cells_new8 rfl _ _) (it_one _ _ _) O2.length (by rw [HN2.out.2]) (by unfold maxLen; omega) (by omega) (by have h1 := HFY.out.size; have h2 := HB.out; simp; omega) ?_)
              all_goals
                intro A' c' w' hown' hcc hfr'
                have HO4 : Hid (OwnIt w' base 101 A' c' O2) := Lib.hid (by
                  show w'.ownsRow base _ 3 _ _ (O2.flatMap itc)
                  have e : O2.flatMap itc = O.flatMap itc ++ [.int .i64 (v : Int), .int .i64 0, .int .u64 0] := by rw [HN2.out.1, flatI]; rfl
                  rw [e]
                  exact hown')
                have HF4 : Hid (Fr (fun _ => False) w w') := Lib.hid ((HFY.out.alloc _).trans hfr' (fun b hb h => by have h1 := HOY.out.lt _ h; have h2 := HB.out; omega))
                clear hown' hfr'
                go_wp2_with fail
                exact ⟨⟨i + 1, O2, A', c', by omega, by go_num, rfl, HO4.out, by have := HMN.out; omega, HE4.out, HF4.out⟩, by simp [intOf]; omega⟩
          · have hit : itemAt L i = (⟨v, 0, 0⟩, 1) := by
              unfold itemAt
              rw [← HVM.out.1, ← HVM.out.2]
              rw [if_neg (fun h => hv0 h.1), if_neg (fun h => hv0 h.1), if_neg (fun h => hvp h.2.2.1)]
            rw [hit] at hp
            obtain ⟨O2, hO2⟩ : ∃ O2, O2 = O ++ [⟨v, 0, 0⟩] := ⟨_, rfl⟩
            have hO2l : O2.length = O.length + 1 := by rw [hO2]; simp
            have hE4 : O2 ++ pressI L (n - (i + 1)) (i + 1) = R := by
              have hm := pressI_more L (n - (i + 1)) (i + 1) (by have := HLN.out; omega) (1 - 1)
              rw [hO2, List.append_assoc, ← hm, show n - (i + 1) + (1 - 1) = f by have := HHF.out; omega]
              exact hp
            have hmN : O2.length ≤ i + 1 := by omega
            have hol2 : O2.length ≤ 1001 := by omega
            have HN2 := Lib.hid (And.intro hO2 hO2l)
            have HE4 := Lib.hid hE4
            have HMN := Lib.hid hmN
            clear hit hp hO2 hO2l hE4 hmN
            have t1 : ((v : Int) == 0) = false := by simp; omega
            have t2 : decide ((v : Int) > 0) = true := by simp; omega
            have t2' : decide (0 < (v : Int)) = true := by simp; omega
            have t2q : decide (0 < v) = true := by simp; omega
            have t3 : decide ((i : Int) > 0) = true := by simp; omega
            have t3' : decide (0 < (i : Int)) = true := by simp; omega
            have t3q : decide (0 < i) = true := by simp; omega
            obtain ⟨v2, hv2⟩ : ∃ a, a = L[i - 1]! := ⟨_, rfl⟩
            rw [← hv2] at cp hvp
            have t4 : ((v : Int) == (v2 : Int)) = false := by simp; omega
            clear hv2
            go_wp2_with fail
            go_quiet (fail)
            obtain ⟨w6, hw6⟩ : ∃ w6, w6 = w5.drewN nq := ⟨_, rfl⟩
            rw [← hw6]
            have HOY : Hid (OwnIt w6 base 101 A1 c1 O) := Lib.hid (by rw [hw6]; exact HOX.out)
            have HFY : Hid (Fr (fun _ => False) w w6) := Lib.hid (by rw [hw6]; exact HFX.out.drewN nq)
            replace cv : w6.cell? (ad.add i) = some (.int .i64 (v : Int)) := by rw [hw6]; exact cv
            clear hw6 nq cp
            go_wp2_with (at_builtin; refine wpList_appS itemT _ rfl _ _ rfl base _ O.length (O.flatMap itc) rfl (HOY.out.alloc _) ⟨w6.heap.size, 0, none⟩ 1 [.int .i64 (v : Int), .int .i64 0, .int .u64 0] rfl rfl (cells_new8 rfl _ _) (it_one _ _ _) O2.length (by rw [HN2.out.2]) (by unfold maxLen; omega) (by omega) (by have h1 := HFY.out.size; have h2 := HB.out; simp; omega) ?_)
            all_goals
              intro A' c' w' hown' hcc hfr'
              have HO4 : Hid (OwnIt w' base 101 A' c' O2) := Lib.hid (by
                show w'.ownsRow base _ 3 _ _ (O2.flatMap itc)
                have e : O2.flatMap itc = O.flatMap itc ++ [.int .i64 (v : Int), .int .i64 0, .int .u64 0] := by rw [HN2.out.1, flatI]; rfl
                rw [e]
                exact hown')
              have HF4 : Hid (Fr (fun _ => False) w w') := Lib.hid ((HFY.out.alloc _).trans hfr' (fun b hb h => by have h1 := HOY.out.lt _ h; have h2 := HB.out; omega))
              clear hown' hfr'
              go_wp2_with fail
              exact ⟨⟨i + 1, O2, A', c', by omega, by go_num, rfl, HO4.out, by have := HMN.out; omega, HE4.out, HF4.out⟩, by simp [intOf]; omega⟩
        · clear hv hprev
          have hit : itemAt L i = (⟨v, 0, 0⟩, 1) := by
            unfold itemAt
            rw [← HVM.out.1, ← HVM.out.2]
            rw [if_neg (fun h => hv0 h.1), if_neg (fun h => hv0 h.1), if_neg (fun h => by omega)]
          rw [hit] at hp
          obtain ⟨O2, hO2⟩ : ∃ O2, O2 = O ++ [⟨v, 0, 0⟩] := ⟨_, rfl⟩
          have hO2l : O2.length = O.length + 1 := by rw [hO2]; simp
          have hE4 : O2 ++ pressI L (n - (i + 1)) (i + 1) = R := by
            have hm := pressI_more L (n - (i + 1)) (i + 1) (by have := HLN.out; omega) (1 - 1)
            rw [hO2, List.append_assoc, ← hm, show n - (i + 1) + (1 - 1) = f by have := HHF.out; omega]
            exact hp
          have hmN : O2.length ≤ i + 1 := by omega
          have hol2 : O2.length ≤ 1001 := by omega
          have HN2 := Lib.hid (And.intro hO2 hO2l)
          have HE4 := Lib.hid hE4
          have HMN := Lib.hid hmN
          clear hit hp hO2 hO2l hE4 hmN
          have t1 : ((v : Int) == 0) = false := by simp; omega
          have t2 : decide ((v : Int) > 0) = true := by simp; omega
          have t2' : decide (0 < (v : Int)) = true := by simp; omega
          have t2q : decide (0 < v) = true := by simp; omega
          have t3 : decide ((i : Int) > 0) = false := by simp; omega
          have t3' : decide (0 < (i : Int)) = false := by simp; omega
          have t3q : decide (0 < i) = false := by simp; omega
          go_wp2_with fail
          go_quiet (fail)
          obtain ⟨w6, hw6⟩ : ∃ w6, w6 = w5.drewN nq := ⟨_, rfl⟩
          rw [← hw6]
          have HOY : Hid (OwnIt w6 base 101 A1 c1 O) := Lib.hid (by rw [hw6]; exact HOX.out)
          have HFY : Hid (Fr (fun _ => False) w w6) := Lib.hid (by rw [hw6]; exact HFX.out.drewN nq)
          replace cv : w6.cell? (ad.add i) = some (.int .i64 (v : Int)) := by rw [hw6]; exact cv
          clear hw6 nq
          go_wp2_with (at_builtin; refine wpList_appS itemT _ rfl _ _ rfl base _ O.length (O.flatMap itc) rfl (HOY.out.alloc _) ⟨w6.heap.size, 0, none⟩ 1 [.int .i64 (v : Int), .int .i64 0, .int .u64 0] rfl rfl (cells_new8 rfl _ _) (it_one _ _ _) O2.length (by rw [HN2.out.2]) (by unfold maxLen; omega) (by omega) (by have h1 := HFY.out.size; have h2 := HB.out; simp; omega) ?_)
          all_goals
            intro A' c' w' hown' hcc hfr'
            have HO4 : Hid (OwnIt w' base 101 A' c' O2) := Lib.hid (by
              show w'.ownsRow base _ 3 _ _ (O2.flatMap itc)
              have e : O2.flatMap itc = O.flatMap itc ++ [.int .i64 (v : Int), .int .i64 0, .int .u64 0] := by rw [HN2.out.1, flatI]; rfl
              rw [e]
              exact hown')
            have HF4 : Hid (Fr (fun _ => False) w w') := Lib.hid ((HFY.out.alloc _).trans hfr' (fun b hb h => by have h1 := HOY.out.lt _ h; have h2 := HB.out; omega))
            clear hown' hfr'
            go_wp2_with fail
            exact ⟨⟨i + 1, O2, A', c', by omega, by go_num, rfl, HO4.out, by have := HMN.out; omega, HE4.out, HF4.out⟩, by simp [intOf]; omega⟩
    · have hin : i = n := by omega
      have hr : O = R := by have h := HE.out; rw [hin, Nat.sub_self] at h; simpa [pressI] using h
      subst hr
      go_wp2_with fail
      go_ret
      exact ⟨A1, c1, rfl, HO.out, HF.out⟩
end Go.Proofs.YtahfmcdhcbfkaaaDoor
