/-
  Layer 9's reference: Stored.
  What layer 8's laws want of the program's Press: its contract; awake out of it; the lengths that a law makes of bytes.
  Layer 9's reference: Agreed.
  Layer 1 for higher layers: bits as cells, the reference's Low; blocks of slices.
-/
import Derived.Test.YtahfmcdhcbfkaaaGreatDoorZm01
import Derived.Test.YtahfmcdhcbfkaaaGreatDoorZm08
import Derived.Test.YtahfmcdhcbfkaaaGreatDoorCoB
import Derived.Laws.StructEq
import Derived.Test.YtahfmcdhcbfkaaaGreatDoorZm02
import Derived.Test.YtahfmcdhcbfkaaaGreatDoorZm00
import Derived.BigRegion
import Derived.BigQuiet
import Derived.Deep.QuietTactic
import Derived.Deep.RegionWith
import Derived.StillTailTactics
namespace Go.Proofs.YtahfmcdhcbfkaaaGreatDoor
open Go.RowKit Mem Go.Lib
attribute [local go_sem ↓] Go.wp_at_zero Go.wp_at_succ
set_option linter.unusedVariables false
set_option maxRecDepth 100000

def slenS : Value → Nat
  | .slice _ n _ => n
  | _ => 0
theorem head_0 : (DeM.head5 0 65535).map bytec = [.int .u8 0, .int .u8 255, .int .u8 255, .int .u8 0, .int .u8 0] := by rfl
theorem head_1 (n x0 x1 x2 x3 : Nat) (hn : n ≤ 65535) (h0 : x0 = n % 256) (h1 : x1 = n / 256) (h2 : x2 = 255 - x0) (h3 : x3 = 255 - x1) : (DeM.head5 1 n).map bytec = [.int .u8 1, .int .u8 (x0 : Int), .int .u8 (x1 : Int), .int .u8 (x2 : Int), .int .u8 (x3 : Int)] := by
  unfold DeM.head5
  simp only [List.map_cons, List.map_nil]
  rw [bytec_ofNat (by omega), bytec_ofNat (by omega), bytec_ofNat (by omega), bytec_ofNat (by omega), bytec_ofNat (by omega), ← h0, ← h1, ← h2, ← h3]
  rfl
theorem conv_u8 (x : Nat) (hx : x < 256) (w : World) : (convert 3 5 (.int .i64 (x : Int))).run Tryz.prog w = .ok (.int .u8 (x : Int)) w := by
  go_simp
  unfold IntKind.wrap
  simp [IntKind.bits, IntKind.signed]
  omega
theorem five_one (a b c d e : Int) : ∀ u ∈ [Value.int .u8 a, .int .u8 b, .int .u8 c, .int .u8 d, .int .u8 e], u.oneCell' = true := by
  intro u hu
  simp at hu
  rcases hu with rfl | rfl | rfl | rfl | rfl <;> rfl
set_option maxHeartbeats 3200000 in
theorem rStored_any (A : Option Addr) (n c : Nat) (B : List UInt8) (w : World) (hr : Rd w A n (B.map bytec)) (hc : n ≤ c) (hcm : c ≤ maxLen) (hn : n ≤ 1000000) :
    Calls Tryz.prog 10 #[.slice A n c] w (Gives w (DeM.storedB B)) := by
  have hbl : B.length = n := by simpa using hr.1
  obtain ⟨R, hR⟩ : ∃ R, R = DeM.storedB B := ⟨_, rfl⟩
  unfold Gives
  rw [← hR]
  obtain ⟨base, hbase⟩ : ∃ base, base = w.heap.size := ⟨_, rfl⟩
  rw [← hbase]
  have HB := Lib.hid hbase
  have HR0 := Lib.hid hr
  have HRR := Lib.hid hR
  have HBL := Lib.hid hbl
  clear hr hbl hR hbase
  go_enter Tryz.func10, Tryz.ntmps10
  go_wp2_with fail
  go_loopw [0, 3] (fun b s wr => ∃ (B1 : List UInt8) (A1 : Option Addr) (n1 c1 r : Nat) (D : Option Addr) (d : Nat) (Q : List UInt8), b = .slice A1 n1 c1 ∧ s = .slice D r d ∧ n1 ≤ c1 ∧ c1 ≤ maxLen ∧ r + 2 * n1 ≤ 2 * n ∧ Hid (Rd w A1 n1 (B1.map bytec)) ∧ Hid (Q ++ DeM.storedB B1 = R) ∧ Hid (wr.ownsRow base 5 1 (.slice D r d) r (Q.map bytec)) ∧ Hid (Fr (fun _ => False) w wr)) (fun b _ _ => slenS b)
  case atStart => exact ⟨B, A, n, c, 0, none, 0, [], rfl, rfl, hc, hcm, by omega, HR0.out, HRR.out.symm, World.ownsRow_nil _ _ _ _, Fr.refl _ _⟩
  case round =>
    obtain ⟨B1, A1, n1, c1, r, D, d, Q, rfl, rfl, hc1, hcm1, hrn, HR1, HQ, HO, HF⟩ := hrel
    rename World => wr
    have hbl1 : B1.length = n1 := by simpa using HR1.out.1
    by_cases hlt : 65535 < n1
    · obtain ⟨r1, hr1⟩ : ∃ r1, r1 = r + 5 := ⟨_, rfl⟩
      obtain ⟨r2, hr2⟩ : ∃ r2, r2 = r1 + 65535 := ⟨_, rfl⟩
      obtain ⟨n2, hn2⟩ : ∃ n2, n2 = n1 - 65535 := ⟨_, rfl⟩
      obtain ⟨c2, hc2⟩ : ∃ c2, c2 = c1 - 65535 := ⟨_, rfl⟩
      obtain ⟨A2, hA2⟩ : ∃ A2, A2 = cutAt A1 c1 65535 := ⟨_, rfl⟩
      have hs1 : ∀ w' : World, (Instr.sliceAt 22 (.slice A1 n1 c1) none (some (.int .i64 65535)) none).run Tryz.prog w' = .ok (.slice A1 65535 c1) w' := fun w' => run_toB A1 n1 c1 65535 (by omega) hc1 _ rfl w'
      have hs2 : ∀ w' : World, (Instr.sliceAt 22 (.slice A1 n1 c1) (some (.int .i64 65535)) none none).run Tryz.prog w' = .ok (.slice A2 n2 c2) w' := fun w' => by rw [hA2, hn2, hc2]; exact run_fromB A1 n1 c1 65535 (by omega) _ rfl w'
      have HRT : Hid (Rd w A1 65535 ((B1.take 65535).map bytec)) := Lib.hid (by rw [List.map_take]; exact rd_to HR1.out (by omega))
      have HRF : Hid (Rd w A2 n2 ((B1.drop 65535).map bytec)) := Lib.hid (by rw [List.map_drop, hA2, hn2]; exact rd_from HR1.out (by omega) hc1)
      have HSB : Hid (DeM.storedB B1 = DeM.head5 0 65535 ++ B1.take 65535 ++ DeM.storedB (B1.drop 65535)) := Lib.hid (DeM.storedB_more B1 (by omega))
      have H1 := Lib.hid hr1
      have H2 := Lib.hid hr2
      have HN2 : Hid (n2 ≤ c2 ∧ c2 ≤ maxLen ∧ r2 + 2 * n2 ≤ 2 * n ∧ n2 < n1) := Lib.hid (by unfold maxLen at *; omega)
      have hr1b : r1 ≤ 3000000 := by omega
      have hr2b : r2 ≤ 3000000 := by omega
      clear hr1 hr2 hn2 hc2 hA2 hbl1 hc1 hcm1
      go_wp2_with (at_builtin; refine wpList_appN u8T _ rfl _ _ rfl base _ r (Q.map bytec) rfl (HO.out.alloc _) _ 5 _ [.int .u8 0, .int .u8 255, .int .u8 255, .int .u8 0, .int .u8 0] rfl (Rd.cells rfl [.int .u8 0, .int .u8 255, .int .u8 255, .int .u8 0, .int .u8 0] _) (five_one _ _ _ _ _) r1 H1.out (by unfold maxLen; omega) (by omega) (by have h1 := HF.out.size; have h2 := HB.out; simp; omega) ?_)
      intro D3 d3 w3 _ _ hown3 hf3 _
      rw [← head_0, ← List.map_append] at hown3
      have HO3 := Lib.hid hown3
      have HF3 : Hid (Fr (fun _ => False) w w3) := Lib.hid ((HF.out.alloc _).trans hf3 (fun b hb h => by have h1 := (HO.out.lt b h).1; have h2 := HB.out; omega))
      clear hown3 hf3
      go_wp2_with (at_builtin; refine wpList_appN u8T _ rfl _ _ rfl base _ r1 _ rfl HO3.out _ 65535 _ ((B1.take 65535).map bytec) rfl (HRT.out.fr HF3.out (fun _ _ h => h)) (bytec_one _) r2 H2.out (by unfold maxLen; omega) (by omega) (by have h1 := HF3.out.size; have h2 := HB.out; omega) ?_)
      intro D4 d4 w4 _ _ hown4 hf4 _
      have HO4 : Hid (w4.ownsRow base 5 1 (.slice D4 r2 d4) r2 ((Q ++ DeM.head5 0 65535 ++ B1.take 65535).map bytec)) := Lib.hid (own_list hown4 (by simp only [List.map_append, List.map_take, List.append_assoc]))
      have HF4 : Hid (Fr (fun _ => False) w w4) := Lib.hid (HF3.out.trans hf4 (fun b hb h => by have h1 := (HO3.out.lt b h).1; have h2 := HB.out; omega))
      have HQ4 : Hid (Q ++ DeM.head5 0 65535 ++ B1.take 65535 ++ DeM.storedB (B1.drop 65535) = R) := Lib.hid (by
        rw [← HQ.out, HSB.out]
        simp only [List.append_assoc])
      clear hown4 hf4
      go_wp2_with fail
      exact ⟨⟨B1.drop 65535, A2, n2, c2, r2, D4, d4, Q ++ DeM.head5 0 65535 ++ B1.take 65535, rfl, rfl, HN2.out.1, HN2.out.2.1, HN2.out.2.2.1, HRF.out, HQ4.out, HO4.out, HF4.out⟩, HN2.out.2.2.2⟩
    · obtain ⟨x0, h0⟩ : ∃ x, x = n1 % 256 := ⟨_, rfl⟩
      obtain ⟨x1, h1⟩ : ∃ x, x = n1 / 256 := ⟨_, rfl⟩
      obtain ⟨x2, h2⟩ : ∃ x, x = 255 - x0 := ⟨_, rfl⟩
      obtain ⟨x3, h3⟩ : ∃ x, x = 255 - x1 := ⟨_, rfl⟩
      have HH := Lib.hid (head_1 n1 x0 x1 x2 x3 (by omega) h0 h1 h2 h3)
      have e0 : (n1 : Int).tmod 256 = (x0 : Int) := by rw [h0, Int.tmod_eq_emod_of_nonneg (by omega)]; omega
      have e1 : (n1 : Int).tdiv 256 = (x1 : Int) := by rw [h1, Int.tdiv_eq_ediv_of_nonneg (by omega)]; omega
      have e2 : (255 : Int) - (x0 : Int) = (x2 : Int) := by omega
      have e3 : (255 : Int) - (x1 : Int) = (x3 : Int) := by omega
      have q0 := conv_u8 x0 (by omega)
      have q1 := conv_u8 x1 (by omega)
      have q2 := conv_u8 x2 (by omega)
      have q3 := conv_u8 x3 (by omega)
      obtain ⟨r1, hr1⟩ : ∃ r1, r1 = r + 5 := ⟨_, rfl⟩
      obtain ⟨r2, hr2⟩ : ∃ r2, r2 = r1 + n1 := ⟨_, rfl⟩
      have H1 := Lib.hid hr1
      have H2 := Lib.hid hr2
      have hr1b : r1 ≤ 3000000 := by omega
      have hr2b : r2 ≤ 3000000 := by omega
      have HSB : Hid (DeM.storedB B1 = DeM.head5 1 n1 ++ B1) := Lib.hid (by rw [DeM.storedB_less B1 (by omega), hbl1])
      clear h0 h1 h2 h3 hr1 hr2 hbl1
      go_wp2_with (at_builtin; refine wpList_appN u8T _ rfl _ _ rfl base _ r (Q.map bytec) rfl (HO.out.alloc _) _ 5 _ [.int .u8 1, .int .u8 (x0 : Int), .int .u8 (x1 : Int), .int .u8 (x2 : Int), .int .u8 (x3 : Int)] rfl (Rd.cells rfl [.int .u8 1, .int .u8 (x0 : Int), .int .u8 (x1 : Int), .int .u8 (x2 : Int), .int .u8 (x3 : Int)] _) (five_one _ _ _ _ _) r1 H1.out (by unfold maxLen; omega) (by omega) (by have h1 := HF.out.size; have h2 := HB.out; simp; omega) ?_)
      intro D3 d3 w3 _ _ hown3 hf3 _
      rw [← HH.out, ← List.map_append] at hown3
      have HO3 := Lib.hid hown3
      have HF3 : Hid (Fr (fun _ => False) w w3) := Lib.hid ((HF.out.alloc _).trans hf3 (fun b hb h => by have h1 := (HO.out.lt b h).1; have h2 := HB.out; omega))
      clear hown3 hf3
      go_wp2_with (at_builtin; refine wpList_appN u8T _ rfl _ _ rfl base _ r1 _ rfl HO3.out _ n1 _ (B1.map bytec) rfl (HR1.out.fr HF3.out (fun _ _ h => h)) (bytec_one _) r2 H2.out (by unfold maxLen; omega) (by omega) (by have h1 := HF3.out.size; have h2 := HB.out; omega) ?_)
      intro D4 d4 w4 _ _ hown4 hf4 _
      have hQR : Q ++ DeM.head5 1 n1 ++ B1 = R := by rw [← HQ.out, HSB.out, List.append_assoc]
      have HO4 : Hid (w4.ownsRow base 5 1 (.slice D4 r2 d4) r2 (R.map bytec)) := Lib.hid (own_list hown4 (by rw [← hQR]; simp only [List.map_append, List.append_assoc]))
      have HF4 : Hid (Fr (fun _ => False) w w4) := Lib.hid (HF3.out.trans hf4 (fun b hb h => by have h1 := (HO3.out.lt b h).1; have h2 := HB.out; omega))
      clear hown4 hf4 hQR
      go_wp2_with fail
      go_ret
      have hrl : r2 = R.length := by have h := HO4.out.1; simp at h; omega
      subst hrl
      exact ⟨D4, d4, rfl, HO4.out, HF4.out⟩
end Go.Proofs.YtahfmcdhcbfkaaaGreatDoor
namespace Go.Proofs.YtahfmcdhcbfkaaaGreatDoor
open Go.RowKit CoM Mem Go.Lib
attribute [local go_sem ↓] Go.wp_at_zero Go.wp_at_succ
set_option linter.unusedVariables false

/-- a slice reads as these items -/
def Its (w : World) (A : Option Addr) (n : Nat) (T : List It) : Prop := T.length = n ∧ ∀ k t, T[k]? = some t → ∃ g o, A = some ⟨g, o, none⟩ ∧ g < w.heap.size ∧
  w.cell? ⟨g, o + k * 3, none⟩ = some (.int .i64 (t.s : Int)) ∧ w.cell? ⟨g, o + k * 3 + 1, none⟩ = some (.int .i64 (t.b : Int)) ∧ w.cell? ⟨g, o + k * 3 + 2, none⟩ = some (.int .u64 (t.x : Int))
theorem Its.fr {S : Nat → Prop} {w w' : World} {A : Option Addr} {n : Nat} {T : List It} (h : Its w A n T) (hf : Fr S w w') (hS : ∀ g, g < w.heap.size → ¬ S g) : Its w' A n T :=
  ⟨h.1, fun k t hk => by
    obtain ⟨g, o, e, hg, h1, h2, h3⟩ := h.2 k t hk
    exact ⟨g, o, e, Nat.lt_of_lt_of_le hg hf.size, hf.cell h1 (hS g hg), hf.cell h2 (hS g hg), hf.cell h3 (hS g hg)⟩⟩
theorem flat_at8 : ∀ (T : List It) (k : Nat) (t : It), T[k]? = some t → ∀ j, j < 3 → (T.flatMap itc)[k * 3 + j]? = (itc t)[j]?
  | [], k, t, h, j, hj => by simp at h
  | s :: T, 0, t, h, j, hj => by
    simp at h
    subst h
    rw [List.flatMap_cons, List.getElem?_append_left (by simp [itc]; omega), Nat.zero_mul, Nat.zero_add]
  | s :: T, k + 1, t, h, j, hj => by
    rw [List.flatMap_cons, List.getElem?_append_right (by simp [itc]; omega)]
    have e : (k + 1) * 3 + j - (itc s).length = k * 3 + j := by simp [itc]; omega
    rw [e]
    exact flat_at8 T k t (by simpa using h) j hj
theorem OwnIt.its {w : World} {base c : Nat} {e : TypeId} {A : Option Addr} {T : List It} (h : OwnIt w base e A c T) : Its w A T.length T := by
  refine ⟨rfl, fun k t ht => ?_⟩
  have hk := (List.getElem?_eq_some_iff.1 ht).1
  rcases h.2 with ⟨hv, h0⟩ | ⟨g, cap, cur, hv, _⟩
  · injection hv with _ h1 h2
    omega
  · have hA : A = some ⟨g, 0, none⟩ := by injection hv
    subst hA
    have hc := h.cells (g := g) rfl
    have hadd : ∀ j, (⟨g, 0, none⟩ : Addr).add j = ⟨g, j, none⟩ := fun j => by unfold Addr.add; split <;> simp_all
    refine ⟨g, 0, rfl, (h.lt g rfl).2, ?_, ?_, ?_⟩
    · rw [← hadd]; exact hc _ _ (by have := flat_at8 T k t ht 0 (by omega); simpa [itc] using this)
    · rw [Nat.add_assoc, Nat.zero_add, ← hadd]; exact hc _ _ (by have := flat_at8 T k t ht 1 (by omega); simpa [itc] using this)
    · rw [Nat.add_assoc, Nat.zero_add, ← hadd]; exact hc _ _ (by have := flat_at8 T k t ht 2 (by omega); simpa [itc] using this)

/-- the program's Press answers the items, in the worlds that follow one -/
def PressC (w0 : World) : Prop := ∀ (A : Option Addr) (n c : Nat) (L : List Nat) (w : World), Fr (fun _ => False) w0 w → Rd w A n (L.map natc) → n ≤ c → c ≤ maxLen → n ≤ 1000 → (∀ x ∈ L, x ≤ 15) →
  Calls Tryz.prog 64 #[.slice A n c] w fun e w' => ∃ A' c', e = .returned (.slice A' (items L).length c') ∧ Its w' A' (items L).length (items L) ∧ Fr (fun _ => False) w w'

theorem int8T : ElemTy Tryz.prog 36 3 (.int .i64 0) 8 := ⟨Tryz.underlying36, by kernel_rfl, rfl⟩
end Go.Proofs.YtahfmcdhcbfkaaaGreatDoor
namespace Go.Proofs.YtahfmcdhcbfkaaaGreatDoor
open Go.RowKit Mem Go.Lib
attribute [local go_sem ↓] Go.wp_at_zero Go.wp_at_succ
set_option linter.unusedVariables false
set_option maxRecDepth 100000

theorem fixA_take (k : Nat) (h : k < 288) : SyM.fixA.take (k + 1) = SyM.fixA.take k ++ [SyM.fixA[k]!] := by
  rw [List.take_add_one, List.getElem?_eq_getElem (by rw [SyM.fix_len.1]; exact h), getElem!_pos SyM.fixA k (by rw [SyM.fix_len.1]; exact h)]
  rfl
theorem fixB_take (k : Nat) (h : k < 32) : SyM.fixB.take (k + 1) = SyM.fixB.take k ++ [5] := by
  have e := (SyM.fix_at k (by omega)).2
  rw [Nat.mod_eq_of_lt h, getElem!_pos SyM.fixB k (by rw [SyM.fix_len.2]; exact h)] at e
  rw [List.take_add_one, List.getElem?_eq_getElem (by rw [SyM.fix_len.2]; exact h), e]
  rfl
set_option maxHeartbeats 3200000 in
theorem rAgreed_any (w : World) : Calls Tryz.prog 18 #[] w fun e w' => ∃ A1 c1 A2 c2, e = .returned (.tuple #[.slice A1 288 c1, .slice A2 32 c2]) ∧ w'.ownsRow w.heap.size 3 1 (.slice A1 288 c1) 288 (SyM.fixA.map natc) ∧ w'.ownsRow w.heap.size 3 1 (.slice A2 32 c2) 32 (SyM.fixB.map natc) ∧ Fr (fun _ => False) w w' := by
  obtain ⟨base, hbase⟩ : ∃ base, base = w.heap.size := ⟨_, rfl⟩
  have HB := Lib.hid hbase
  rw [← hbase]
  clear hbase
  go_enter Tryz.func18, Tryz.ntmps18
  go_wp2_with fail
  go_loopw [2, 4] (fun s i wr => ∃ (k : Nat) (A1 : Option Addr) (c1 : Nat), k ≤ 288 ∧ i = .int .i64 (k : Int) ∧ s = .slice A1 k c1 ∧ Hid (wr.ownsRow base 3 1 (.slice A1 k c1) k ((SyM.fixA.map natc).take k)) ∧ Hid (Fr (fun _ => False) w wr)) (fun _ i _ => 288 - (intOf i).toNat)
  case atStart => exact ⟨0, none, 0, by omega, rfl, rfl, World.ownsRow_nil _ _ _ _, Fr.refl _ _⟩
  case round =>
    obtain ⟨k, A1, c1, hk, rfl, rfl, HO, HF⟩ := hrel
    rename World => wr
    by_cases hlt : k < 288
    · obtain ⟨v, hv⟩ : ∃ v, v = SyM.fixA[k]! := ⟨_, rfl⟩
      have hfx := (SyM.fix_at k hlt).1
      rw [← hv] at hfx
      have HT : Hid ((SyM.fixA.map natc).take (k + 1) = (SyM.fixA.map natc).take k ++ [.int .i64 (v : Int)]) := Lib.hid (by rw [← List.map_take, fixA_take k hlt, List.map_append, ← hv, List.map_take]; rfl)
      obtain ⟨z, hz⟩ : ∃ z, z = k + 1 := ⟨_, rfl⟩
      have HZ := Lib.hid hz
      have hz3 : z ≤ 288 := by omega
      clear hz hv
      have hcase : (k < 144 ∧ v = 8) ∨ (144 ≤ k ∧ k ≤ 255 ∧ v = 9) ∨ (256 ≤ k ∧ k ≤ 279 ∧ v = 7) ∨ (280 ≤ k ∧ v = 8) := by
        split at hfx
        · omega
        · split at hfx <;> omega
      clear hfx
      rcases hcase with ⟨h1, rfl⟩ | ⟨h1, h2, rfl⟩ | ⟨h1, h2, rfl⟩ | ⟨h1, rfl⟩
      all_goals
        have T1 := Lib.hid h1
        go_wp2_with (at_builtin; refine wpList_appN int8T _ rfl _ _ rfl base _ _ _ rfl (HO.out.alloc _) _ _ _ _ rfl (Rd.one _ _ _) (one_one _ _) z HZ.out (by unfold maxLen; omega) (by omega) (by have h1 := HF.out.size; have h2 := HB.out; simp; omega) ?_)
        intro A4 c4 w4 _ _ hown4 hf4 _
        have HO4 : Hid (w4.ownsRow base 3 1 (.slice A4 z c4) z ((SyM.fixA.map natc).take (k + 1))) := Lib.hid (by rw [HT.out]; exact hown4)
        have HF4 : Hid (Fr (fun _ => False) w w4) := Lib.hid ((HF.out.alloc _).trans hf4 (fun b hb h => by have h1 := (HO.out.lt b h).1; have h2 := HB.out; omega))
        have hz1 := HZ.out
        subst hz1
        clear hown4 hf4
        go_wp2_with fail
        exact ⟨⟨k + 1, A4, c4, by omega, by go_num, rfl, HO4.out, HF4.out⟩, by simp [intOf]; omega⟩
    · obtain rfl : k = 288 := by omega
      have ho := HO.out
      rw [List.take_of_length_le (by rw [List.length_map, SyM.fix_len.1]; omega)] at ho
      have HOA := Lib.hid ho
      obtain ⟨b2, hb2⟩ : ∃ b2, b2 = wr.heap.size := ⟨_, rfl⟩
      have HB2 := Lib.hid hb2
      rename World => w2
      clear ho hb2 HO
      go_wp2_with fail
      go_loopw [3, 6] (fun s i wx => ∃ (k : Nat) (A2 : Option Addr) (c2 : Nat), k ≤ 32 ∧ i = .int .i64 (k : Int) ∧ s = .slice A2 k c2 ∧ Hid (wx.ownsRow b2 3 1 (.slice A2 k c2) k ((SyM.fixB.map natc).take k)) ∧ Hid (Fr (fun _ => False) w2 wx)) (fun _ i _ => 32 - (intOf i).toNat)
      case atStart => exact ⟨0, none, 0, by omega, rfl, rfl, World.ownsRow_nil _ _ _ _, Fr.refl _ _⟩
      case round =>
        obtain ⟨j, A2, c2, hj, rfl, rfl, HO2, HF2⟩ := hrel
        rename World => wx
        by_cases hjt : j < 32
        · have HT : Hid ((SyM.fixB.map natc).take (j + 1) = (SyM.fixB.map natc).take j ++ [.int .i64 5]) := Lib.hid (by rw [← List.map_take, fixB_take j hjt, List.map_append, List.map_take]; rfl)
          obtain ⟨z, hz⟩ : ∃ z, z = j + 1 := ⟨_, rfl⟩
          have HZ := Lib.hid hz
          have hz3 : z ≤ 32 := by omega
          clear hz
          go_wp2_with (at_builtin; refine wpList_appN int8T _ rfl _ _ rfl b2 _ _ _ rfl (HO2.out.alloc _) _ _ _ _ rfl (Rd.one _ _ _) (one_one _ _) z HZ.out (by unfold maxLen; omega) (by omega) (by have h1 := HF2.out.size; have h2 := HB2.out; simp; omega) ?_)
          intro A4 c4 w4 _ _ hown4 hf4 _
          have HO4 : Hid (w4.ownsRow b2 3 1 (.slice A4 z c4) z ((SyM.fixB.map natc).take (j + 1))) := Lib.hid (by rw [HT.out]; exact hown4)
          have HF4 : Hid (Fr (fun _ => False) w2 w4) := Lib.hid ((HF2.out.alloc _).trans hf4 (fun b hb h => by have h1 := (HO2.out.lt b h).1; have h2 := HB2.out; omega))
          have hz1 := HZ.out
          subst hz1
          clear hown4 hf4
          go_wp2_with fail
          exact ⟨⟨j + 1, by omega, by go_num, A4, c4, ⟨rfl, rfl, rfl⟩, HO4.out⟩, by simp [intOf]; omega⟩
        · obtain rfl : j = 32 := by omega
          have ho := HO2.out
          rw [List.take_of_length_le (by rw [List.length_map, SyM.fix_len.2]; omega)] at ho
          have HOB := Lib.hid ho
          clear ho HO2
          go_wp2_with fail
          exact bodyPost_ret (v := .tuple #[.slice A1 288 c1, .slice A2 32 c2]) (by simp [results, Tryz.results18, go_sem]) rfl
            ⟨A1, c1, A2, c2, rfl, HF2.out.own HOA.out (fun _ _ h => h), own_base HOB.out (by have h1 := HF.out.size; have h2 := HB.out; have h3 := HB2.out; omega), HF.out.trans HF2.out (fun _ _ h => h)⟩
end Go.Proofs.YtahfmcdhcbfkaaaGreatDoor
namespace Go.Proofs.YtahfmcdhcbfkaaaGreatDoor
open Go.RowKit BitsM Mem
set_option maxRecDepth 100000

def bitc (b : Bool) : Value := .int .u8 (b.toNat : Int)
theorem bitc_one (l : List Bool) : ∀ u ∈ l.map bitc, u.oneCell' = true := by
  intro u hu
  obtain ⟨b, _, rfl⟩ := List.mem_map.1 hu
  rfl
theorem bitc_low {x k z : Nat} (h : z = x / 2 ^ k) : Value.int .u8 ((z : Int) % 2) = bitc (x.testBit k) := by
  subst h
  unfold bitc
  rw [Nat.testBit_eq_decide_div_mod_eq]
  have e : ((x / 2 ^ k : Nat) : Int) % 2 = ((x / 2 ^ k % 2 : Nat) : Int) := by omega
  rw [e]
  rcases Nat.mod_two_eq_zero_or_one (x / 2 ^ k) with h | h <;> simp [h]
set_option maxHeartbeats 400000 in
theorem low_any (x : Nat) (n : Int) (w : World) (hx1 : x < 18446744073709551616) (hn0 : -9223372036854775808 ≤ n) (hn1 : n ≤ 9223372036854775807) :
    Calls Tryz.prog 43 #[.int .u64 (x : Int), .int .i64 n] w fun e w' => ∃ A c, e = .returned (.slice A (min n.toNat 64) c) ∧ w'.ownsRow w.heap.size 5 1 (.slice A (min n.toNat 64) c) (min n.toNat 64) ((low x (min n.toNat 64)).map bitc) ∧ Fr (fun _ => False) w w' := by
  go_enter Tryz.func43, Tryz.ntmps43
  go_wp2
  go_loopw [0, 5, 6] (fun y v i wr => ∃ (k z : Nat) (A : Option Addr) (c : Nat), k ≤ min n.toNat 64 ∧ i = .int .i64 k ∧ y = .int .u64 (z : Int) ∧ z < 18446744073709551616 ∧ Hid (z = x / 2 ^ k) ∧ v = .slice A k c ∧ wr.ownsRow w.heap.size 5 1 (.slice A k c) k ((low x k).map bitc) ∧ Fr (fun _ => False) w wr)
    (fun _ _ i _ => 64 - (intOf i).toNat)
  case atStart => exact ⟨0, x, none, 0, Nat.zero_le _, rfl, rfl, hx1, by simp [Hid], rfl, World.ownsRow_nil _ _ _ _, Fr.refl _ _⟩
  case round =>
    obtain ⟨k, z, A, c, hk, rfl, rfl, hz, Hz, rfl, hown, hfr⟩ := hrel
    have hsz := hfr.size
    by_cases hlt : (k : Int) < n
    · by_cases h64 : (k : Int) < 64
      · go_wp2_with (at_builtin; refine wpList_app u8T _ rfl _ _ rfl w.heap.size _ _ _ rfl (hown.alloc _) _ _ _ _ rfl (Rd.one _ _ _) (one_one _ _) (by unfold maxLen; omega) (by omega) (by simp; omega) ?_)
        intro A' c' w' _ _ hown' hfr' _
        go_wp2
        go_roundw
        case rel =>
          refine ⟨k + 1, z / 2, A', c', by omega, by go_num, by congr 1, by omega, ?_, rfl, ?_, ?_⟩
          · have := Hz.out; subst this; show _ = _; rw [Nat.pow_succ, Nat.div_div_eq_div_mul]
          · rw [low_succ, List.map_append]
            rw [bitc_low Hz.out] at hown'
            exact hown'
          · exact (hfr.alloc _).trans hfr' (fun b hb h => by have := hown.lt _ h; omega)
        case measure => simp [intOf] <;> omega
      · go_wp2
        go_ret
        obtain rfl : k = 64 := by omega
        rw [show min n.toNat 64 = 64 from by omega]
        exact ⟨_, _, rfl, hown, hfr⟩
    · go_wp2
      go_ret
      have hkk : min n.toNat 64 = k := by omega
      rw [hkk]
      exact ⟨_, _, rfl, hown, hfr⟩
/-- the block in which a slice lies -/
def bl (A : Option Addr) : Option Nat := A.map (·.block)
theorem bl_own (A : Option Addr) (n c : Nat) : (Value.slice A n c).ownBlock = bl A := by cases A <;> rfl
theorem set_of {w : World} {g : Nat} {cs : Array Value} {t : TypeId} (h : w.heap[g]? = some (.cells cs t (0, 0))) (i : Nat) (u : Value) : (w.setCell ⟨g, i, none⟩ u).heap[g]? = some (.cells (cs.setIfInBounds i u) t (0, 0)) := by
  simp [World.setCell, Array.getElem?_modify, h]
end Go.Proofs.YtahfmcdhcbfkaaaGreatDoor
