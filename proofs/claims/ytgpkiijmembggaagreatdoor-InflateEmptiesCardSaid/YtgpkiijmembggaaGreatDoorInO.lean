/-
  The law InflateEmpties, out of the program's contracts.
-/
import Derived.Test.YtgpkiijmembggaaGreatDoorZm13
namespace Go.Proofs.YtgpkiijmembggaaGreatDoor
open Go.RowKit BitsM Mem Go.Lib
attribute [local go_sem ↓] Go.wp_at_zero Go.wp_at_succ
set_option linter.unusedVariables false
set_option maxRecDepth 100000

theorem five10 (a b c d e : Int) : ∀ u ∈ [Value.int .u8 a, .int .u8 b, .int .u8 c, .int .u8 d, .int .u8 e], u.oneCell' = true := by
  intro u hu
  simp at hu
  rcases hu with rfl | rfl | rfl | rfl | rfl <;> rfl
/-- so many stored blocks of nothing -/
def nones (k : Nat) : List (List UInt8) := List.replicate k []
theorem nones_flat : ∀ k, (nones k).flatten = []
  | 0 => rfl
  | k + 1 => by
    unfold nones
    rw [List.replicate_succ, List.flatten_cons]
    exact nones_flat k
theorem ahead_more : ∀ k, InM.ahead (nones (k + 1)) = InM.ahead (nones k) ++ [0, 0, 0, 255, 255] := by
  intro k
  unfold nones InM.ahead
  rw [List.replicate_succ', List.flatMap_append]
  rfl
theorem ahead_nones : ∀ k, (InM.ahead (nones k)).length = 5 * k
  | 0 => rfl
  | k + 1 => by rw [ahead_more, List.length_append, ahead_nones k]; show _ + 5 = _; omega
theorem five_cells : ([0, 0, 0, 255, 255] : List UInt8).map bytec = [Value.int .u8 0, .int .u8 0, .int .u8 0, .int .u8 255, .int .u8 255] := by rfl
set_option maxHeartbeats 3200000 in
theorem empties10_law {Gl : World → Prop} (K : InfC Gl) (x : Nat) (A : Option Addr) (n c : Nat) (B : List UInt8) (hx : x < 256) (w : World) (hG : Gl w) (hr : Rd w A n (B.map bytec)) (hc : n ≤ c) (hcm : c ≤ maxLen) :
    Calls Tryz.prog 6 #[.int .u8 (x : Int), .slice A n c] w fun e w' => e = .returned (.bool true) ∧ Fr (fun _ => False) w w' := by
  have HAW := Lib.hid (awake10_any K)
  have HG := Lib.hid hG
  have HR := Lib.hid hr
  have HC := Lib.hid (And.intro hc hcm)
  have hbl : B.length = n := by simpa using hr.1
  have HBL := Lib.hid hbl
  clear hG hr hc hcm hbl
  by_cases hbig : 700 < n
  · have t : decide (700 < (n : Int)) = true := decide_eq_true (by omega)
    go_enter Tryz.func6, Tryz.ntmps6
    go_wp2_with fail
    refine (HAW.out w HG.out).mono ?_
    rintro e w2 ⟨rfl, hf2⟩
    have HF2 := Lib.hid hf2
    clear hf2
    go_wp2_with fail
    refine (HAW.out w2 (K.d.fr0 HG.out HF2.out)).mono ?_
    rintro e w3 ⟨rfl, hf3⟩
    have HF3 := Lib.hid (HF2.out.trans hf3 (fun _ _ h => h))
    clear hf3
    go_wp2_with fail
    go_ret
    exact ⟨rfl, HF3.out⟩
  have t : decide (700 < (n : Int)) = false := decide_eq_false (by omega)
  obtain ⟨P, hP⟩ : ∃ P, P = DeM.pressB B := ⟨_, rfl⟩
  have hpm : P.length ≤ n + 5 := by rw [hP, ← HBL.out]; exact press_at_most B (by rw [HBL.out]; omega)
  have HW : Hid (P = DeM.storedB B ∨ P = pack (DeM.fixedBits B) ∨ P = pack (DeM.dynBits B)) := Lib.hid (by rw [hP]; exact press_way B)
  obtain ⟨pl, hpl⟩ : ∃ p, p = P.length := ⟨_, rfl⟩
  rw [← hpl] at hpm
  obtain ⟨N, hN⟩ : ∃ N, N = x % 20 := ⟨_, rfl⟩
  have hN20 : N < 20 := by rw [hN]; exact Nat.mod_lt _ (by omega)
  have hq : ∀ w : World, (convert 5 3 (.int .u8 (x : Int))).run Tryz.prog w = .ok (.int .i64 (x : Int)) w := by
    intro w
    go_simp
    rw [IntKind.wrap_i64]
    omega
  have etm : (x : Int).tmod 20 = (N : Int) := by rw [Int.tmod_eq_emod_of_nonneg (by omega), hN]; omega
  have HPL := Lib.hid hpl
  have HPR : Hid (∀ w', Fr (fun _ => False) w w' → Calls Tryz.prog 11 #[.slice A n c] w' fun e w'' => ∃ A' c', e = .returned (.slice A' pl c') ∧ w''.ownsRow w'.heap.size 5 1 (.slice A' pl c') pl (P.map bytec) ∧ Fr (fun _ => False) w' w'') := Lib.hid (fun w' hf => by
    rw [hpl, hP]
    exact K.d.press A n c B w' (K.d.fr0 HG.out hf) (HR.out.fr hf (fun _ _ h => h)) HC.out.1 HC.out.2 (by omega))
  obtain ⟨base, hbase⟩ : ∃ base, base = w.heap.size := ⟨_, rfl⟩
  have HBA := Lib.hid hbase
  clear hP hpl hN hbase
  go_enter Tryz.func6, Tryz.ntmps6
  go_wp2_with fail
  refine (HAW.out w HG.out).mono ?_
  rintro e w2 ⟨rfl, hf2⟩
  have HF2 := Lib.hid hf2
  clear hf2
  go_wp2_with fail
  go_loopw [5, 6] (fun a i wr => ∃ (k r : Nat) (D : Option Addr) (d : Nat), k ≤ N ∧ r = 5 * k ∧ i = .int .i64 (k : Int) ∧ a = .slice D r d ∧ Hid (wr.ownsRow base 5 1 (.slice D r d) r ((InM.ahead (nones k)).map bytec)) ∧ Hid (Fr (fun _ => False) w wr)) (fun _ i _ => N - (intOf i).toNat)
  case atStart => exact ⟨0, 0, none, 0, Nat.zero_le _, rfl, rfl, rfl, World.ownsRow_nil _ _ _ _, HF2.out⟩
  case round =>
    obtain ⟨k, r, D, d, hk, hrk, rfl, rfl, HO, HF⟩ := hrel
    rename World => wr
    have HRK := Lib.hid hrk
    have hr100 : r ≤ 100 := by omega
    clear hrk
    by_cases hlt : k < N
    · have hki : (k : Int) < (N : Int) := by omega
      obtain ⟨r1, hr1⟩ : ∃ r1, r1 = r + 5 := ⟨_, rfl⟩
      have H1 := Lib.hid hr1
      have hr1b : r1 ≤ 105 := by omega
      clear hr1
      go_wp2_with (at_builtin; refine wpList_appN u8T _ rfl _ _ rfl base _ r ((InM.ahead (nones k)).map bytec) rfl (HO.out.alloc _) _ 5 _ [.int .u8 0, .int .u8 0, .int .u8 0, .int .u8 255, .int .u8 255] rfl (Rd.cells rfl [.int .u8 0, .int .u8 0, .int .u8 0, .int .u8 255, .int .u8 255] _) (five10 _ _ _ _ _) r1 H1.out (by unfold maxLen; omega) (by omega) (by have h1 := HF.out.size; have h2 := HBA.out; simp; omega) ?_)
      intro D3 d3 w3 _ _ hown3 hf3 _
      rw [← five_cells, ← List.map_append, ← ahead_more] at hown3
      have HO3 := Lib.hid hown3
      have HF3 : Hid (Fr (fun _ => False) w w3) := Lib.hid ((HF.out.alloc _).trans hf3 (fun b hb h => by have h1 := (HO.out.lt b h).1; have h2 := HBA.out; omega))
      clear hown3 hf3
      go_wp2_with fail
      exact ⟨⟨k + 1, r1, D3, d3, by omega, by have h1 := H1.out; have h2 := HRK.out; omega, by go_num, rfl, HO3.out, HF3.out⟩, by simp [intOf]; omega⟩
    · obtain rfl : k = N := by omega
      have hki : ¬ (k : Int) < (k : Int) := by omega
      have HPW := Lib.hid (HPR.out wr HF.out)
      obtain ⟨al, hal⟩ : ∃ al, al = r + pl := ⟨_, rfl⟩
      have HAL := Lib.hid hal
      have hal2 : al ≤ 1000 := by omega
      clear hal
      go_wp2_with fail
      refine HPW.out.mono ?_
      rintro e w3 ⟨A3, c3, rfl, ho3, hf3⟩
      have HO3 := Lib.hid (Rd.of_own ho3)
      have HA3 := Lib.hid (hf3.own HO.out (fun _ _ h => h))
      have HF3 := Lib.hid (HF.out.trans hf3 (fun _ _ h => h))
      clear ho3 hf3 HPW
      go_wp2_with (at_builtin; refine wpList_appN u8T _ rfl _ _ rfl base _ r ((InM.ahead (nones k)).map bytec) rfl HA3.out _ pl _ (P.map bytec) rfl HO3.out (bytec_one _) al HAL.out (by unfold maxLen; omega) (by omega) (by have h1 := HF3.out.size; have h2 := HBA.out; omega) ?_)
      intro D4 d4 w4 _ _ hown4 hf4 _
      rw [← List.map_append] at hown4
      have HO4 := Lib.hid (Rd.of_own hown4)
      have HC4 := Lib.hid (own_cap hown4).2
      have HF4 : Hid (Fr (fun _ => False) w w4) := Lib.hid (HF3.out.trans hf4 (fun b hb h => by have h1 := (HA3.out.lt b h).1; have h2 := HBA.out; omega))
      clear hown4 hf4
      have HOP : Hid (Calls Tryz.prog 12 #[.slice D4 al d4, .int .i64 (n : Int)] w4 fun e w' => ∃ A c, e = .returned (.tuple #[.slice A n c, .int .i64 (al : Int), .int .i64 0]) ∧ Own w' w4.heap.size A c B ∧ Fr (fun _ => False) w4 w') := Lib.hid (by
        have h := K.open_ D4 al d4 (n : Int) _ w4 (K.d.fr0 HG.out HF4.out) HO4.out HC4.out.1 HC4.out.2 (by omega) (by omega) (by omega)
        have ho := InM.open_all (nones k) P B [] (fun p hp => by rw [List.eq_of_mem_replicate hp]; simp) (by rw [HBL.out]; omega) HW.out (n : Int) (by rw [nones_flat, HBL.out]; simp)
        rw [List.append_nil, nones_flat, List.nil_append, ahead_nones, ← HPL.out, ← HRK.out, ← HAL.out] at ho
        rw [ho] at h
        unfold Opens at h
        simp only [HBL.out] at h
        exact h)
      go_wp2_with fail
      refine HOP.out.mono ?_
      rintro e w5 ⟨A5, c5, rfl, ho5, hf5⟩
      have hrd5 : Rd w5 A5 n (B.map bytec) := by have h := ho5.rd; rw [HBL.out] at h; exact h
      have HF5 := Lib.hid (HF4.out.trans hf5 (fun _ _ h => h))
      have s5 := str_rd hrd5 c5
      have s0 := str_rd (HR.out.fr HF5.out (fun _ _ h => h)) c
      clear ho5 hf5 hrd5 HOP
      go_wp2_with fail
      go_ret
      exact ⟨rfl, HF5.out⟩
end Go.Proofs.YtgpkiijmembggaaGreatDoor
