/-
  The law DeltaRow, over what Put and Get must keep (written by gen_rows12.py).
-/
import Derived.Test.YtmdobloncbljeaaDelK
import Derived.Test.YtmdobloncbljeaaRleY
import Derived.Test.YtmdobloncbljeaaReg
import Derived.Deep.DeepCutAuto
import Derived.Deep.CutRange
namespace Go.Proofs.Ytmdobloncbljeaa
open Go.RowKit Mem Go.Lib RleM LebM
attribute [local go_sem ↓] Go.wp_at_zero Go.wp_at_succ
set_option linter.unusedVariables false

set_option maxRecDepth 100000 in
set_option maxHeartbeats 3200000 in
theorem drow_law (K : DelC) (x : Int) (N : Nat) (h0 : -9223372036854775808 ≤ x) (h1 : x < 9223372036854775808) (hN : N < 65536) (w : World) :
    Calls Try.prog 5 #[.int .i64 x, .int .u16 (N : Int)] w fun e w' => e = .returned (.bool true) ∧ Fr (fun _ => False) w w' := by
  obtain ⟨m, hm⟩ : ∃ m, m = N % 1000 := ⟨_, rfl⟩
  obtain ⟨k, hk⟩ : ∃ k, k = 2 + m := ⟨_, rfl⟩
  have hk1 : 2 ≤ k := by omega
  have hk3 : k ≤ 3001 := by omega
  have r0 : IntKind.i64.wrap (N : Int) = (N : Int) := by rw [IntKind.wrap_i64]; omega
  have r1 : (N : Int).tmod 1000 = (m : Int) := by rw [hm]; rfl
  have r2 : IntKind.i64.wrap (m : Int) = (m : Int) := by rw [IntKind.wrap_i64]; omega
  have r3 : IntKind.i64.wrap (2 + (m : Int)) = (k : Int) := by rw [IntKind.wrap_i64]; omega
  clear hk hm
  have H0 := Lib.hid h0
  have H1 := Lib.hid h1
  clear h0 h1
  go_enter Try.func5, Try.ntmps5
  go_wp2_with fail
  refine (awake12_any K w).mono ?_
  rintro e w2 ⟨rfl, hf2⟩
  have HF2 := Lib.hid hf2
  clear hf2
  go_wp2_with fail
  go_loopw [6, 7] (fun a i wr => ∃ (j : Nat) (La : List (Bool × Int)) (Aa : Option Addr) (ca : Nat), j ≤ k ∧ i = .int .i64 (j : Int) ∧ a = .slice Aa La.length ca ∧ La.length = j ∧ Hid (La = rowF x j) ∧
    Hid (OwnC nv 30 wr w.heap.size Aa ca La) ∧ Hid (Fr (fun _ => False) w wr)) (fun _ i _ => k - (intOf i).toNat)
  case atStart => exact ⟨0, [], none, 0, Nat.zero_le _, rfl, rfl, rfl, rfl, OwnC.nil _ _ _, HF2.out⟩
  case round =>
    obtain ⟨j, La, Aa, ca, hj, rfl, rfl, hla, HLA, HOA, HF⟩ := hrel
    rename World => wr
    by_cases hlt : j < k
    · obtain ⟨N1, hN1⟩ : ∃ N1, N1 = j + 1 := ⟨_, rfl⟩
      have hN1l : N1 ≤ 1000001 := by omega
      obtain ⟨XA, hXA⟩ : ∃ XS, XS = La.flatMap (ccells nv) := ⟨_, rfl⟩
      have hoa : wr.ownsRow w.heap.size 30 2 (.slice Aa j ca) j XA := by rw [hXA, ← hla]; exact HOA.out
      have HA := Lib.hid hoa
      have HN1 := Lib.hid hN1
      have HXA := Lib.hid hXA
      have HLa := Lib.hid hla
      obtain ⟨y, hy⟩ : ∃ y : Int, y = IntKind.i64.wrap (x + (j : Int)) := ⟨_, rfl⟩
      have r5 : IntKind.i64.wrap (j : Int) = (j : Int) := by rw [IntKind.wrap_i64]; omega
      have r6 : IntKind.i64.wrap (x + (j : Int)) = y := hy.symm
      have HY := Lib.hid hy
      rw [hla]
      clear hla hN1 hXA hoa hy
      go_wp2_with (at_builtin; refine wpList_appS2 cellTC _ rfl _ _ rfl w.heap.size _ _ _ rfl (HA.out.alloc _) _ _ [.bool true, .int .i64 y] rfl rfl (new_at (by simp) [.bool true, .int .i64 y] _) (by intro u hu; simp at hu; rcases hu with rfl | rfl <;> rfl) N1 HN1.out (by unfold maxLen; omega) (by omega) (by have h1 := HF.out.size; simp; omega) ?_)
      intro A5 c5 w5 hown5 _ hfr5 hwh5
      rw [HXA.out] at hown5
      obtain ⟨La2, hLa2⟩ : ∃ z, z = La ++ [(true, y)] := ⟨_, rfl⟩
      have hla2 : La2.length = N1 := by rw [hLa2, List.length_append, HLa.out, HN1.out]; rfl
      have HO5 : Hid (OwnC nv 30 w5 w.heap.size A5 c5 La2) := Lib.hid (by rw [hLa2]; exact OwnC.snoc (f := nv) (t := (true, y)) (by rw [HLa.out, HN1.out]) hown5)
      have HF5 : Hid (Fr (fun _ => False) w w5) := Lib.hid ((HF.out.alloc _).trans hfr5 (fun b hb h => by have := (HA.out.lt b h).1; omega))
      have HLA2 : Hid (La2 = rowF x (j + 1)) := Lib.hid (by rw [hLa2, HLA.out, HY.out]; exact (row_succ x j).symm)
      have hla3 : La2.length = j + 1 := by rw [hla2, HN1.out]
      have HA3 := Lib.hid hla2
      have HA4 := Lib.hid hla3
      clear hown5 hfr5 hwh5 hLa2 hla2 hla3
      go_wp2
      go_roundw
      case rel => exact ⟨j + 1, La2, A5, c5, by omega, by go_num, by rw [HA3.out], HA4.out, HLA2.out, HO5.out, HF5.out⟩
      case measure => simp [intOf] <;> omega
    · obtain rfl : k = j := by omega
      have hmay : ∀ c ∈ La, mayS c := by rw [HLA.out]; exact row_may x _
      obtain ⟨q, hq⟩ : ∃ q, k = q + 1 := ⟨k - 1, by omega⟩
      have hst : stepsF 0 La = (true, x) :: List.replicate q (true, 1) := by rw [HLA.out, hq]; exact row_steps x H0.out H1.out q
      have hlen : (tellW kS (gatherG (stepsF 0 La))).length ≤ 14 := by rw [hst]; exact len_two x 1 q ⟨H0.out, H1.out⟩ s_one (by omega)
      have hput := K.put Aa La.length ca La wr HOA.out.cls (by omega) hmay
      have hback : toC (readG kS (La.length : Int) (tellW kS (gatherG (stepsF 0 La)))) = (stepsF 0 La, 0) := by
        have hmem : (true, x) ∈ stepsF 0 La := by rw [hst]; exact List.mem_cons_self ..
        have h := read_back backS (steps_may 0 La hmay) hmem (by intro h; injection h with h; cases h) (by rw [steps_len]; omega) (La.length : Int) (by omega)
        rw [steps_len, if_pos (Int.le_refl _)] at h
        rw [h]
        show (spreadG (gatherG _), 0) = _
        rw [spread_gather]
      have hsum : sumsF 0 (stepsF 0 La) = La := sums_steps 0 La (fun c hc => (hmay c hc).2)
      obtain ⟨P, hP⟩ : ∃ P, P = tellW kS (gatherG (stepsF 0 La)) := ⟨_, rfl⟩
      rw [← hP] at hput hlen hback
      have hget : ∀ w' base A c, Own w' base A c P → Calls Try.prog 11 #[.slice A P.length c, .int .i64 (k : Int)] w' fun e w'' => ∃ A' c', e = .returned (.tuple #[.slice A' k c', .int .i64 0]) ∧ OwnC nv 30 w'' w'.heap.size A' c' La ∧ Fr (fun _ => False) w' w'' := fun w' base A c ho => by
        have h := K.get A P.length c P (k : Int) w' ho.rd ho.cap.1 (by omega) (by omega) (by omega)
        rw [← hla, hback, hsum, hla] at h
        exact h
      have HPUT := Lib.hid hput
      have HGET := Lib.hid hget
      have t1 : decide ((P.length : Int) ≤ 16) = true := by simp; omega
      have t1' : decide (P.length ≤ 16) = true := by simp; omega
      have HLa := Lib.hid hla
      rw [hla] at HPUT ⊢
      clear hmay hst hlen hput hback hsum hP hget hq hla
      go_wp2_with fail
      refine HPUT.out.mono ?_
      rintro e w3 ⟨A3, c3, rfl, hO3, hf3⟩
      have HF3 := Lib.hid hf3
      have HO3 := Lib.hid hO3
      clear hO3 hf3
      go_wp2_with fail
      refine (HGET.out w3 _ A3 c3 HO3.out).mono ?_
      rintro e w4 ⟨A4, c4, rfl, hO4, hf4⟩
      have HF4 := Lib.hid (HF3.out.trans hf4 (fun _ _ h => h))
      have hc4 : Cls nv w4 A4 k La := by have h := hO4.cls; rw [HLa.out] at h; exact h
      have hc0 : Cls nv w4 Aa k La := by have h := (HOA.out.fr HF4.out).cls; rw [HLa.out] at h; exact h
      have hsame := rsameC_any A4 k c4 La Aa k ca La w4 hc4 hc0 (by omega) (by omega)
      rw [decide_eq_true rfl] at hsame
      have HS := Lib.hid hsame
      clear hO4 hf4 hc4 hc0 hsame
      go_wp2_with fail
      refine HS.out.mono ?_
      rintro e w5 ⟨rfl, hf5⟩
      have HF5 := Lib.hid (HF.out.trans (HF4.out.trans hf5 (fun _ _ h => h)) (fun _ _ h => h))
      clear hf5
      go_wp2_with fail
      go_ret
      exact ⟨rfl, HF5.out⟩
end Go.Proofs.Ytmdobloncbljeaa
