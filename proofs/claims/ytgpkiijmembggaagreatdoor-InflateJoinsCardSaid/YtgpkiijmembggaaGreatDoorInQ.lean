/-
  The law InflateJoins, out of the program's contracts.
-/
import Derived.Test.YtgpkiijmembggaaGreatDoorZm13
import Derived.Test.YtgpkiijmembggaaGreatDoorZm47
import Derived.Test.YtgpkiijmembggaaGreatDoorZm16
namespace Go.Proofs.YtgpkiijmembggaaGreatDoor
open Go.RowKit BitsM Mem Go.Lib
attribute [local go_sem ↓] Go.wp_at_zero Go.wp_at_succ
set_option linter.unusedVariables false
set_option maxRecDepth 100000

/-- how much is looked at: the first k parts -/
def looked (L : List (List UInt8)) (k : Nat) : Nat := ((L.take k).map fun p => min p.length 701 + 1).sum
theorem looked_zero (L : List (List UInt8)) : looked L 0 = 0 := by unfold looked; simp
theorem looked_more {L : List (List UInt8)} {k : Nat} {p : List UInt8} (h : L[k]? = some p) : looked L (k + 1) = looked L k + (min p.length 701 + 1) := by
  unfold looked
  rw [List.take_add_one, h]
  simp
theorem looked_all : ∀ (L : List (List UInt8)), (L.map fun p => min p.length 701 + 1).sum ≤ 700 → (∀ p ∈ L, p.length ≤ 700) ∧ L.flatten.length + L.length ≤ (L.map fun p => min p.length 701 + 1).sum
  | [], _ => by
    refine ⟨?_, Nat.le_refl _⟩
    intro p h
    exact absurd h (List.not_mem_nil)
  | p :: L, h => by
    rw [List.map_cons, List.sum_cons] at h
    obtain ⟨h1, h2⟩ := looked_all L (by omega)
    refine ⟨fun q hq => ?_, ?_⟩
    · rcases List.mem_cons.1 hq with e | hq
      · rw [e]; omega
      · exact h1 q hq
    · rw [List.map_cons, List.sum_cons, List.flatten_cons, List.length_append, List.length_cons]
      omega
theorem ahead_take {L : List (List UInt8)} {k : Nat} {p : List UInt8} (h : L[k]? = some p) : InM.ahead (L.take (k + 1)) = InM.ahead (L.take k) ++ (DeM.head5 0 p.length ++ p) := by
  unfold InM.ahead
  rw [List.take_add_one, h, List.flatMap_append]
  simp
theorem flat_take {L : List (List UInt8)} {k : Nat} {p : List UInt8} (h : L[k]? = some p) : (L.take (k + 1)).flatten = (L.take k).flatten ++ p := by
  rw [List.take_add_one, h, List.flatten_append]
  simp
theorem ahead_length : ∀ (L : List (List UInt8)), (InM.ahead L).length = 5 * L.length + L.flatten.length
  | [] => rfl
  | p :: L => by
    have e : InM.ahead (p :: L) = DeM.head5 0 p.length ++ p ++ InM.ahead L := by unfold InM.ahead; rw [List.flatMap_cons]
    rw [e, List.length_append, List.length_append, ahead_length L, List.flatten_cons, List.length_append, List.length_cons]
    show 5 + _ + _ = _
    omega
/-- the first byte is turned: not the last block -/
theorem stored_turned (p : List UInt8) (h : p.length ≤ 65535) : ((DeM.storedB p).map bytec).set 0 (.int .u8 0) = (DeM.head5 0 p.length ++ p).map bytec ∧ (DeM.storedB p).length = p.length + 5 := by
  refine ⟨?_, storedB_len p h⟩
  rw [DeM.storedB_less p h]
  rfl
theorem flat_part_le {L : List (List UInt8)} {N : Nat} (h : L.flatten.length ≤ N) (k : Nat) : (L.take k).flatten.length ≤ N := by
  have e : L.flatten = (L.take k).flatten ++ (L.drop k).flatten := by rw [← List.flatten_append, List.take_append_drop]
  rw [e, List.length_append] at h
  omega
theorem txt_add (X Y : List UInt8) (hX : X.length ≤ 1000) (hY : Y.length ≤ 1000) : txt X ++ txt Y = txt (X ++ Y) ∧ (txt X).size + (txt Y).size ≤ 9223372036854775807 := by
  have sX : (txt X).size = X.length := by simp [txt, ByteArray.size]
  have sY : (txt Y).size = Y.length := by simp [txt, ByteArray.size]
  refine ⟨?_, by omega⟩
  unfold txt
  apply ByteArray.ext
  simp
set_option maxHeartbeats 6400000 in
theorem joins10_law {Gl : World → Prop} (K : InfC Gl) (AL : Option Addr) (m cl : Nat) (L : List (List UInt8)) (A : Option Addr) (n c : Nat) (B : List UInt8) (w : World) (hG : Gl w) (hL : PartsC w AL m L) (hml : m ≤ cl) (hclm : cl ≤ maxLen) (hr : Rd w A n (B.map bytec)) (hc : n ≤ c) (hcm : c ≤ maxLen) :
    Calls Tryz.prog 5 #[.slice AL m cl, .slice A n c] w fun e w' => e = .returned (.bool true) ∧ Fr (fun _ => False) w w' := by
  have HAW := Lib.hid (awake10_any K)
  have HG := Lib.hid hG
  have HR := Lib.hid hr
  have HL := Lib.hid hL
  have HC := Lib.hid (And.intro hc hcm)
  have hbl : B.length = n := by simpa using hr.1
  have HBL := Lib.hid hbl
  have HLL := Lib.hid hL.len
  have hn63 : n ≤ maxLen := Nat.le_trans hc hcm
  have hm63 : m ≤ maxLen := Nat.le_trans hml hclm
  unfold maxLen at hn63 hm63
  clear hG hr hL hc hcm hbl hml hclm
  go_enter Tryz.func5, Tryz.ntmps5
  go_wp2_with fail
  go_loopw [5, 6] (fun v i wr => ∃ k N : Nat, k ≤ m ∧ i = .int .i64 (k : Int) ∧ v = .int .i64 (N : Int) ∧ N = n + looked L k ∧ (N ≤ n + 702 * k) ∧ (k = 0 ∨ N ≤ 1402) ∧ wr = w) (fun _ i _ => m - (intOf i).toNat)
  case atStart => exact ⟨0, n, by omega, rfl, rfl, by rw [looked_zero]; rfl, by omega, .inl rfl, rfl⟩
  case round =>
    obtain ⟨k0, N, hk, rfl, rfl, hN, hN2, hN3, rfl⟩ := hrel
    by_cases hfew : N ≤ 700
    · have t1 : decide ((N : Int) ≤ 700) = true := decide_eq_true (by omega)
      have t3 : decide (700 < (N : Int)) = false := decide_eq_false (by omega)
      by_cases hlt : k0 < m
      · have hki : (k0 : Int) < (m : Int) := by omega
        obtain ⟨ad, p, Ai, ci, rfl, hp, hcell, hpc, hcm2, hrp⟩ := HL.out.at_ hlt
        obtain ⟨pl, hpl⟩ : ∃ pl, pl = p.length := ⟨_, rfl⟩
        rw [← hpl] at hcell
        have hlk := looked_more hp
        rw [← hpl] at hlk hpc
        have hpl63 : pl ≤ maxLen := Nat.le_trans hpc hcm2
        unfold maxLen at hpl63
        obtain ⟨mn, hmn⟩ : ∃ mn, mn = min pl 701 := ⟨_, rfl⟩
        rw [← hmn] at hlk
        have hmn7 : mn ≤ 701 := by omega
        have hmin := fun w => run_min7 (pl : Int) 701 (mn : Int) (by omega) w
        obtain ⟨N1, hN1⟩ : ∃ N1, N1 = N + mn := ⟨_, rfl⟩
        obtain ⟨N4, hN4⟩ : ∃ N4, N4 = N1 + 1 := ⟨_, rfl⟩
        have a1 : (N : Int) + (mn : Int) = (N1 : Int) := by omega
        have a2 : (N1 : Int) + 1 = (N4 : Int) := by omega
        have HP : Hid (N4 = n + looked L (k0 + 1) ∧ N4 ≤ n + 702 * (k0 + 1) ∧ N4 ≤ 1402) := Lib.hid (by omega)
        have hN1b : N1 ≤ 1401 := by omega
        clear hp hpc hcm2 hrp hpl hmn hN hlk hN2 hN3 hN1 hN4
        go_wp2_with fail
        exact ⟨⟨k0 + 1, N4, by omega, by go_num, rfl, HP.out.1, HP.out.2.1, .inr HP.out.2.2, trivial⟩, by simp [intOf]; omega⟩
      · obtain rfl : k0 = m := by omega
        have hki : ¬ (k0 : Int) < (k0 : Int) := by omega
        have hlook : looked L k0 = (L.map fun p => min p.length 701 + 1).sum := by
          unfold looked
          rw [List.take_of_length_le (by rw [HLL.out]; exact Nat.le_refl _)]
        have HALL : Hid ((∀ p ∈ L, p.length ≤ 700) ∧ L.flatten.length + k0 + n ≤ 700) := Lib.hid (by
          rw [hlook] at hN
          obtain ⟨h1, h2⟩ := looked_all L (by omega)
          rw [HLL.out] at h2
          exact ⟨h1, by omega⟩)
        have hn7 : n ≤ 700 := by omega
        have hk7 : k0 ≤ 700 := by have := HALL.out.2; omega
        clear hN hN2 hN3 hlook hlt
        go_wp2_with fail
        refine (HAW.out wr HG.out).mono ?_
        rintro e w2 ⟨rfl, hf2⟩
        have HF2 := Lib.hid hf2
        obtain ⟨base, hbase⟩ : ∃ base, base = wr.heap.size := ⟨_, rfl⟩
        have HBA := Lib.hid hbase
        clear hf2 hbase
        go_wp2_with fail
        go_loopw [7, 8, 9] (fun a v i wx => ∃ (k r q : Nat) (D E : Option Addr) (d e : Nat), k ≤ k0 ∧ i = .int .i64 (k : Int) ∧ a = .slice D r d ∧ v = .slice E q e ∧ Hid (r ≤ 5000 ∧ q ≤ 700 ∧ r = (InM.ahead (L.take k)).length ∧ q = ((L.take k).flatten).length) ∧ Hid (wx.ownsRow base 5 1 (.slice D r d) r ((InM.ahead (L.take k)).map bytec)) ∧ Hid (wx.ownsRow base 5 1 (.slice E q e) q (((L.take k).flatten).map bytec)) ∧ Hid (∀ b, (Value.slice D r d).ownBlock = some b → (Value.slice E q e).ownBlock ≠ some b) ∧ Hid (Fr (fun _ => False) wr wx)) (fun _ _ i _ => k0 - (intOf i).toNat)
        case atStart => exact ⟨0, 0, 0, none, none, 0, 0, by omega, rfl, rfl, rfl, ⟨by omega, by omega, rfl, rfl⟩, World.ownsRow_nil _ _ _ _, World.ownsRow_nil _ _ _ _, fun b h => by simp [Value.ownBlock] at h, HF2.out⟩
        case round =>
          obtain ⟨k, r, q, D, E, d, e, hk, rfl, rfl, rfl, HRQ, HD, HE, HNE, HF⟩ := hrel
          rename World => wx
          have HBW : Hid (base ≤ wx.heap.size) := Lib.hid (by have h1 := HBA.out; have h2 := HF.out.size; omega)
          by_cases hlt : k < k0
          · have hki : (k : Int) < (k0 : Int) := by omega
            obtain ⟨ad, p, Ai, ci, hAL, hp, hcell, hpc, hcm2, hrp⟩ := HL.out.at_ hlt
            subst hAL
            have hp7 : p.length ≤ 700 := HALL.out.1 p (List.mem_of_getElem? hp)
            obtain ⟨hst, hstl⟩ := stored_turned p (by omega)
            obtain ⟨pl, hpl⟩ : ∃ pl, pl = p.length := ⟨_, rfl⟩
            rw [← hpl] at hcell hpc hrp hp7 hstl
            have HST := Lib.hid hst
            obtain ⟨sl, hsl⟩ : ∃ sl, sl = (DeM.storedB p).length := ⟨_, rfl⟩
            have hsl2 : sl = pl + 5 := by rw [hsl]; exact hstl
            have HSL := Lib.hid hsl2
            have lc := HF.out.cell hcell (fun h => h)
            have HCELL := Lib.hid hcell
            have HSTO : Hid (∀ w', Fr (fun _ => False) wr w' → Calls Tryz.prog 10 #[.slice Ai pl ci] w' fun e w'' => ∃ A' c', e = .returned (.slice A' sl c') ∧ w''.ownsRow w'.heap.size 5 1 (.slice A' sl c') sl ((DeM.storedB p).map bytec) ∧ Fr (fun _ => False) w' w'') := Lib.hid (fun w' hf => by
              rw [hsl]
              exact K.d.stored Ai pl ci p w' (K.d.fr0 HG.out hf) (hrp.fr hf (fun _ _ h => h)) hpc hcm2 (by omega))
            have HRP := Lib.hid hrp
            have HAT := Lib.hid (ahead_take hp)
            have HFT := Lib.hid (flat_take hp)
            obtain ⟨r1, hr1⟩ : ∃ r1, r1 = r + sl := ⟨_, rfl⟩
            obtain ⟨q1, hq1⟩ : ∃ q1, q1 = q + pl := ⟨_, rfl⟩
            have hr1m : r1 ≤ 6000 := by have := HRQ.out.1; omega
            have hq1m : q1 ≤ 1400 := by have := HRQ.out.2.1; omega
            have H1 := Lib.hid (And.intro hr1 hq1)
            have HPL := Lib.hid hpl
            have hsl7 : sl ≤ 705 := by omega
            have hsl0 : (0 : Int) < (sl : Int) := by omega
            clear hp hcell hpc hcm2 hrp hst hstl hsl hsl2 hpl hr1 hq1
            go_wp2_with fail
            refine (HSTO.out wx HF.out).mono ?_
            rintro e1 w3 ⟨A3, c3, rfl, ho3, hf3⟩
            obtain ⟨x0, hg0⟩ : ∃ x0, ((DeM.storedB p).map bytec)[0]? = some x0 := ⟨_, List.getElem?_eq_getElem (by have := ho3.1; have := HSL.out; omega)⟩
            obtain ⟨g3, rfl, c30, f30⟩ := own_at ho3 hg0
            have hset := own_set ho3 0 (by have := HSL.out; omega) (.int .u8 0)
            rw [HST.out] at hset
            obtain ⟨w4, hw4⟩ : ∃ w4, w4 = w3.setCell ⟨g3, 0, none⟩ (.int .u8 0) := ⟨_, rfl⟩
            rw [← hw4] at hset
            have hg3n : wx.heap.size ≤ g3 := (ho3.lt g3 (by simp [Value.ownBlock])).1
            have hf34 : Fr (fun b => b = g3) w3 w4 := by rw [hw4]; exact Fr.set1 w3 g3 0 _
            have HF4x : Hid (Fr (fun _ => False) wx w4) := Lib.hid (hf3.trans hf34 (fun b hb h => by omega))
            have HS4 := Lib.hid (Rd.of_own hset)
            have HD4 := Lib.hid (HF4x.out.own HD.out (fun _ _ h => h))
            have HE4 := Lib.hid (HF4x.out.own HE.out (fun _ _ h => h))
            have HF4 := Lib.hid (HF.out.trans HF4x.out (fun _ _ h => h))
            have HW4 := Lib.hid hw4
            clear hset hf34 hg3n ho3 hf3 hw4 HSTO lc hg0
            go_upto_region 14 with fail
            rw [← HW4.out]
            go_wp2_with (at_builtin; refine wpList_appN u8T _ rfl _ _ rfl base _ r ((InM.ahead (L.take k)).map bytec) rfl HD4.out _ sl _ ((DeM.head5 0 p.length ++ p).map bytec) rfl HS4.out (bytec_one _) r1 H1.out.1 (by unfold maxLen; omega) (by omega) (by have h1 := HF4x.out.size; have h2 := HBA.out; have h3 := HBW.out; omega) ?_)
            intro D2 d2 w5 _ _ hown5 hf5 hnxD
            have HD5 : Hid (w5.ownsRow base 5 1 (.slice D2 r1 d2) r1 ((InM.ahead (L.take (k + 1))).map bytec)) := Lib.hid (own_list hown5 (by rw [HAT.out]; simp only [List.map_append]))
            have HE5 := Lib.hid (hf5.own HE4.out (fun b hb hD => HNE.out b hD hb))
            have HF5 : Hid (Fr (fun _ => False) wr w5) := Lib.hid (HF4.out.trans hf5 (fun b hb h => by have h1 := (HD4.out.lt b h).1; have h2 := HBA.out; have h3 := HF2.out.size; omega))
            have NE2 : Hid (∀ b, (Value.slice D2 r1 d2).ownBlock = some b → (Value.slice E q e).ownBlock ≠ some b) := Lib.hid (by
              intro b hb he
              rcases hnxD with h | h
              · rw [h] at hb; exact HNE.out b hb he
              · rw [h] at hb
                injection hb with hb
                have := (HE4.out.lt b he).2
                omega)
            have lc5 := HF5.out.cell HCELL.out (fun h => h)
            obtain ⟨FL, hFL⟩ : ∃ FL, FL = (L.take k).flatten := ⟨_, rfl⟩
            have hE5 := HE5.out
            rw [← hFL] at hE5
            have HFL := Lib.hid hFL
            have HE5f := Lib.hid hE5
            clear hFL hE5
            have HB5 : Hid (base ≤ w5.heap.size) := Lib.hid (Nat.le_trans (by have h1 := HF4x.out.size; have h3 := HBW.out; omega) hf5.size)
            clear hown5 hf5 hnxD c30 f30
            go_wp2_with (at_builtin; refine wpList_appN u8T _ rfl _ _ rfl base _ q (FL.map bytec) rfl HE5f.out _ pl _ (p.map bytec) rfl (HRP.out.fr HF5.out (fun _ _ h => h)) (bytec_one _) q1 H1.out.2 (by unfold maxLen; omega) (by omega) HB5.out ?_)
            intro E2 e2 w6 _ _ hown6 hf6 hnxE
            have HE6 : Hid (w6.ownsRow base 5 1 (.slice E2 q1 e2) q1 (((L.take (k + 1)).flatten).map bytec)) := Lib.hid (own_list hown6 (by rw [HFT.out, ← HFL.out]; simp only [List.map_append]))
            have HD6 := Lib.hid (hf6.own HD5.out (fun b hb hE => NE2.out b hb hE))
            have HF6 : Hid (Fr (fun _ => False) wr w6) := Lib.hid (HF5.out.trans hf6 (fun b hb h => by have h1 := (HE5.out.lt b h).1; have h2 := HBA.out; have h3 := HF2.out.size; omega))
            have NE3 : Hid (∀ b, (Value.slice D2 r1 d2).ownBlock = some b → (Value.slice E2 q1 e2).ownBlock ≠ some b) := Lib.hid (by
              intro b hb he
              rcases hnxE with h | h
              · rw [h] at he; exact NE2.out b hb he
              · rw [h] at he
                injection he with he
                have := (HD5.out.lt b hb).2
                omega)
            have HR1 : Hid (r1 ≤ 5000 ∧ q1 ≤ 700 ∧ r1 = (InM.ahead (L.take (k + 1))).length ∧ q1 = ((L.take (k + 1)).flatten).length) := Lib.hid (by
              have h1 := HD6.out.1
              have h2 := HE6.out.1
              rw [List.length_map] at h1 h2
              have h3 := ahead_length (L.take (k + 1))
              have h4 := flat_part_le (N := 700) (L := L) (by have := HALL.out.2; omega) (k + 1)
              have h5 : (L.take (k + 1)).length ≤ 700 := by rw [List.length_take]; omega
              omega)
            clear hown6 hf6 hnxE lc5
            go_wp2_with fail
            exact ⟨⟨k + 1, r1, q1, D2, E2, d2, e2, by omega, by go_num, rfl, rfl, HR1.out, HD6.out, HE6.out, NE3.out, HF6.out⟩, by simp [intOf]; omega⟩
          · obtain rfl : k = k0 := by omega
            have hki : ¬ (k : Int) < (k : Int) := by omega
            have htake : L.take k = L := List.take_of_length_le (by rw [HLL.out]; exact Nat.le_refl _)
            rw [htake] at HRQ HD HE
            obtain ⟨P, hP⟩ : ∃ P, P = DeM.pressB B := ⟨_, rfl⟩
            have hpm : P.length ≤ n + 5 := by rw [hP, ← HBL.out]; exact press_at_most B (by rw [HBL.out]; omega)
            have HW : Hid (P = DeM.storedB B ∨ P = pack (DeM.fixedBits B) ∨ P = pack (DeM.dynBits B)) := Lib.hid (by rw [hP]; exact press_way B)
            obtain ⟨pl, hpl⟩ : ∃ p, p = P.length := ⟨_, rfl⟩
            rw [← hpl] at hpm
            have HPR : Hid (Calls Tryz.prog 11 #[.slice A n c] wx fun e w'' => ∃ A' c', e = .returned (.slice A' pl c') ∧ w''.ownsRow wx.heap.size 5 1 (.slice A' pl c') pl (P.map bytec) ∧ Fr (fun _ => False) wx w'') := Lib.hid (by
              rw [hpl, hP]
              exact K.d.press A n c B wx (K.d.fr0 HG.out HF.out) (HR.out.fr HF.out (fun _ _ h => h)) HC.out.1 HC.out.2 (by omega))
            have HPL := Lib.hid hpl
            obtain ⟨al, hal⟩ : ∃ al, al = r + pl := ⟨_, rfl⟩
            have HAL := Lib.hid hal
            have hal2 : al ≤ 5705 := by have := HRQ.out.1; omega
            have hr5 : r ≤ 5000 := HRQ.out.1
            have hq7 : q ≤ 700 := HRQ.out.2.1
            obtain ⟨qn, hqn⟩ : ∃ qn, qn = q + n := ⟨_, rfl⟩
            have aqn : (q : Int) + (n : Int) = (qn : Int) := by omega
            have HQN := Lib.hid hqn
            have hqn2 : qn ≤ 1400 := by omega
            clear hP hpl hal hqn htake
            go_wp2_with fail
            refine HPR.out.mono ?_
            rintro e1 w3 ⟨A3, c3, rfl, ho3, hf3⟩
            have HO3 := Lib.hid (Rd.of_own ho3)
            have HD3 := Lib.hid (hf3.own HD.out (fun _ _ h => h))
            have HE3 := Lib.hid (hf3.own HE.out (fun _ _ h => h))
            have HF3 := Lib.hid (HF.out.trans hf3 (fun _ _ h => h))
            have HB3 : Hid (base ≤ w3.heap.size) := Lib.hid (Nat.le_trans HBW.out hf3.size)
            clear ho3 hf3 HPR
            go_wp2_with (at_builtin; refine wpList_appN u8T _ rfl _ _ rfl base _ r _ rfl HD3.out _ pl _ (P.map bytec) rfl HO3.out (bytec_one _) al HAL.out (by unfold maxLen; omega) (by omega) HB3.out ?_)
            intro D4 d4 w4 _ _ hown4 hf4 _
            have HO4 : Hid (Rd w4 D4 al ((InM.ahead L ++ P).map bytec)) := Lib.hid (by rw [List.map_append]; exact Rd.of_own hown4)
            have HC4 := Lib.hid (own_cap hown4).2
            have HE4 := Lib.hid (hf4.own HE3.out (fun b hb hD => HNE.out b hD hb))
            have HF4 : Hid (Fr (fun _ => False) wr w4) := Lib.hid (HF3.out.trans hf4 (fun b hb h => by have h1 := (HD3.out.lt b h).1; have h2 := HBA.out; have h3 := HF2.out.size; omega))
            clear hown4 hf4
            have HOP : Hid (Calls Tryz.prog 12 #[.slice D4 al d4, .int .i64 (qn : Int)] w4 fun e w' => ∃ A c, e = .returned (.tuple #[.slice A qn c, .int .i64 (al : Int), .int .i64 0]) ∧ Own w' w4.heap.size A c (L.flatten ++ B) ∧ Fr (fun _ => False) w4 w') := Lib.hid (by
              have h := K.open_ D4 al d4 (qn : Int) _ w4 (K.d.fr0 HG.out HF4.out) HO4.out HC4.out.1 HC4.out.2 (by omega) (by omega) (by omega)
              have ho := InM.open_all L P B [] (fun p hp => by have := HALL.out.1 p hp; omega) (by rw [HBL.out]; omega) HW.out (qn : Int) (by rw [HBL.out, ← HRQ.out.2.2.2, ← HQN.out]; exact Int.le_refl _)
              rw [List.append_nil, ← HRQ.out.2.2.1, ← HPL.out, ← HAL.out] at ho
              rw [ho] at h
              unfold Opens at h
              have hlen : (L.flatten ++ B).length = qn := by rw [List.length_append, HBL.out, ← HRQ.out.2.2.2, HQN.out]
              simp only [hlen] at h
              exact h)
            go_wp2_with fail
            refine HOP.out.mono ?_
            rintro e1 w5 ⟨A5, c5, rfl, ho5, hf5⟩
            have hrd5 : Rd w5 A5 qn ((L.flatten ++ B).map bytec) := by
              have h := ho5.rd
              rw [List.length_append, HBL.out, ← HRQ.out.2.2.2, ← HQN.out] at h
              exact h
            have HF5 := Lib.hid (HF4.out.trans hf5 (fun _ _ h => h))
            have s5 := str_rd hrd5 c5
            have s0 := str_rd (HR.out.fr HF5.out (fun _ _ h => h)) c
            have s1 := str_rd ((Rd.of_own HE4.out).fr hf5 (fun _ _ h => h)) e
            obtain ⟨hcat, hsz⟩ := txt_add L.flatten B (by have := HALL.out.2; omega) (by rw [HBL.out]; omega)
            obtain ⟨tf, htf⟩ : ∃ tf, tf = txt L.flatten := ⟨_, rfl⟩
            obtain ⟨tb, htb⟩ : ∃ tb, tb = txt B := ⟨_, rfl⟩
            obtain ⟨tt, htt⟩ : ∃ tt, tt = txt (L.flatten ++ B) := ⟨_, rfl⟩
            rw [← htf] at s1 hcat hsz
            rw [← htb] at s0 hcat hsz
            rw [← htt] at s5 hcat
            clear ho5 hf5 hrd5 HOP htf htb htt
            go_wp2_with fail
            go_ret
            exact ⟨rfl, HF5.out⟩
    · have t1 : decide ((N : Int) ≤ 700) = false := decide_eq_false (by omega)
      have t3 : decide (700 < (N : Int)) = true := decide_eq_true (by omega)
      by_cases hlt : k0 < m
      · have hki : (k0 : Int) < (m : Int) := by omega
        clear hN hN2 hN3
        go_wp2_with fail
        refine (HAW.out wr HG.out).mono ?_
        rintro e w2 ⟨rfl, hf2⟩
        have HF2 := Lib.hid hf2
        clear hf2
        go_wp2_with fail
        refine (HAW.out w2 (K.d.fr0 HG.out HF2.out)).mono ?_
        rintro e w3 ⟨rfl, hf3⟩
        have HF3 := Lib.hid (HF2.out.trans hf3 (fun _ _ h => h))
        clear hf3
        go_wp2_with fail
        go_ret
        exact ⟨rfl, HF3.out⟩
      · have hki : ¬ (k0 : Int) < (m : Int) := by omega
        clear hN hN2 hN3
        go_wp2_with fail
        refine (HAW.out wr HG.out).mono ?_
        rintro e w2 ⟨rfl, hf2⟩
        have HF2 := Lib.hid hf2
        clear hf2
        go_wp2_with fail
        refine (HAW.out w2 (K.d.fr0 HG.out HF2.out)).mono ?_
        rintro e w3 ⟨rfl, hf3⟩
        have HF3 := Lib.hid (HF2.out.trans hf3 (fun _ _ h => h))
        clear hf3
        go_wp2_with fail
        go_ret
        exact ⟨rfl, HF3.out⟩
end Go.Proofs.YtgpkiijmembggaaGreatDoor
