/-
  Layer 8's reference: Press (written by gen_item.py).
-/
import Derived.Test.YtahfmcdhcbfkaaaGreatDoorZm08
namespace Go.Proofs.YtahfmcdhcbfkaaaGreatDoor
open Go.RowKit CoM Mem Go.Lib
attribute [local go_sem ↓] Go.wp_at_zero Go.wp_at_succ
set_option linter.unusedVariables false

def itc (t : It) : List Value := [.int .i64 (t.s : Int), .int .i64 (t.b : Int), .int .u64 (t.x : Int)]
theorem itemT : ElemTyS Tryz.prog 75 78 (.agg #[.int .i64 0, .int .i64 0, .int .u64 0]) 3 24 := ⟨Tryz.underlying75, by kernel_rfl, rfl, by decide⟩
/-- a slice of one's own holds these items -/
def OwnIt (w : World) (base : Nat) (e : TypeId) (A : Option Addr) (c : Nat) (T : List It) : Prop := w.ownsRow base e 3 (.slice A T.length c) T.length (T.flatMap itc)
theorem OwnIt.fr {w w' : World} {base c : Nat} {e : TypeId} {A : Option Addr} {T : List It} (h : OwnIt w base e A c T) (hf : Fr (fun _ => False) w w') : OwnIt w' base e A c T := hf.own h (fun _ _ h => h)
theorem it_one (a b x : Int) : ∀ v ∈ [Value.int .i64 a, .int .i64 b, .int .u64 x], v.oneCell' = true := by
  intro v hv
  simp at hv
  rcases hv with rfl | rfl | rfl <;> rfl
theorem flatI (O : List It) (t : It) : (O ++ [t]).flatMap itc = O.flatMap itc ++ itc t := by rw [List.flatMap_append]; simp
theorem cells_new8 {w : World} {k : Nat} (hk : k = w.heap.size) (xs : List Value) (t : TypeId) : ∀ j x, xs[j]? = some x → (w.alloc (.cells xs.toArray t)).cell? ((⟨k, 0, none⟩ : Addr).add j) = some x := by
  subst hk
  intro j x hx
  have hl : 0 < xs.length := by have := (List.getElem?_eq_some_iff.1 hx).1; omega
  obtain ⟨ad, e, h⟩ := (Rd.cells rfl xs t).2 hl
  injection e with e
  subst e
  exact h j x hx
theorem run_min8 (n k m : Int) (h : m = min n k) (w : World) : (Builtin.min_ #[3, 3] 3 #[.int .i64 n, .int .i64 k]).run Tryz.prog w = .ok (.int .i64 m) w := by
  rw [h]
  go_simp
  split <;> omega
theorem conv_u64 (e : Nat) (he : e ≤ 1000000) (w : World) : (convert 3 46 (.int .i64 (e : Int))).run Tryz.prog w = .ok (.int .u64 (e : Int)) w := by
  go_simp
  unfold IntKind.wrap
  simp [IntKind.bits, IntKind.signed]
  omega

set_option maxRecDepth 100000 in
set_option maxHeartbeats 6400000 in
theorem rItems_any (A : Option Addr) (n c : Nat) (L : List Nat) (w : World) (hr : Rd w A n (L.map natc)) (hn : n ≤ 1000) (hL : ∀ x ∈ L, x ≤ 1000000) :
    Calls Tryz.prog 46 #[.slice A n c] w fun e w' => ∃ A' c', e = .returned (.slice A' (items L).length c') ∧ OwnIt w' w.heap.size 78 A' c' (items L) ∧ Fr (fun _ => False) w w' := by
  have hln : L.length = n := by simpa using hr.1
  have HRD := Lib.hid hr
  have HLN := Lib.hid hln
  have HLX := Lib.hid hL
  obtain ⟨base, hbase⟩ : ∃ base, base = w.heap.size := ⟨_, rfl⟩
  have HB := Lib.hid hbase
  rw [← hbase]
  obtain ⟨R, hR⟩ : ∃ R, R = items L := ⟨_, rfl⟩
  rw [← hR]
  have HRR := Lib.hid hR
  clear hr hln hbase hR hL
  go_enter Tryz.func46, Tryz.ntmps46
  go_wp2_with fail
  go_loopw [3, 4] (fun s i wr => ∃ (k : Nat) (O : List It) (A1 : Option Addr) (c1 : Nat), k ≤ n ∧ i = .int .i64 (k : Int) ∧ s = .slice A1 O.length c1 ∧ Hid (OwnIt wr base 78 A1 c1 O) ∧ O.length ≤ k ∧ Hid (O ++ pressI L (n - k) k = R) ∧ Hid (Fr (fun _ => False) w wr)) (fun _ i _ => n - (intOf i).toNat)
  case atStart => exact ⟨0, [], none, 0, Nat.zero_le _, rfl, rfl, World.ownsRow_nil _ _ _ _, by simp, by rw [HRR.out, items, HLN.out]; rfl, Fr.refl _ _⟩
  case round =>
    obtain ⟨i, O, A1, c1, hk, rfl, rfl, HO, hol, HE, HF⟩ := hrel
    rename World => wr
    by_cases hlt : i < n
    · have HRr := Lib.hid (HRD.out.fr HF.out (fun _ _ h => h))
      go_wp2_with fail
      refine run_loop _ _ _ _ _ _ _ _ _ _ _ _ _ _ _ _ _ _ _ _ _ _ _ _ _ _ _ _ _ _ _ _ _ _ _ _ _ _ _ _ _ _ _ _ _ _ _ _ _ _ _ _ _ _ _ _ _ _ _ _ _ _ _ _ _ _ _ _ _ _ _ _ _ _ _ _ _ _ _ _ _ _ _ _ _ _ _ _ _ _ _ _ _ _ _ _ _ _ _ _ _ _ _ _ _ _ _ _ A n c i L _ HRr HLN (by omega) hlt ?_
      intro w5 r6 r12 r13 r14 r15 r16 r17 r18 r19 r20 r21 r22 r23 r24 r25 r26 r27 r28 r29 r30 hf5
      have HFX := Lib.hid (HF.out.trans hf5 (fun _ _ h => h))
      have HOX := Lib.hid (HO.out.fr hf5)
      have hrd := HRr.out.fr hf5 (fun _ _ h => h)
      obtain ⟨ad, rfl, cv⟩ := nat_cell hrd hlt
      have hin : i < L.length := by rw [HLN.out]; exact hlt
      have hp := HE.out
      obtain ⟨f, hf⟩ : ∃ f, n - i = f + 1 := ⟨n - i - 1, by omega⟩
      rw [hf, pressI, if_pos hin] at hp
      have HHF := Lib.hid hf
      have hm1 := rn_pos L i hin
      have hm2 := rn_le L i (Nat.le_of_lt hin)
      rw [HLN.out] at hm2
      obtain ⟨v, hv⟩ : ∃ a, a = L[i]! := ⟨_, rfl⟩
      obtain ⟨m, hm⟩ : ∃ a, a = rn L i := ⟨_, rfl⟩
      have hvb : v ≤ 1000000 := by rw [hv, getElem!_pos L i hin]; exact HLX.out _ (List.getElem_mem hin)
      rw [← hv] at cv
      rw [← hm] at hm1 hm2 ⊢
      have HVM := Lib.hid (And.intro hv hm)
      have hprev : 0 < i → ∃ i1, i1 = i - 1 ∧ w5.cell? (ad.add i1) = some (.int .i64 ((L[i - 1]! : Nat) : Int)) := fun h => by
        obtain ⟨ad2, h1, h2⟩ := nat_cell hrd (k := i - 1) (by omega)
        injection h1 with h1
        subst h1
        exact ⟨i - 1, rfl, h2⟩
      clear hf5 hrd hf hm
      by_cases hv0 : v = 0
      · clear hv hprev
        by_cases h10 : 10 < m
        · obtain ⟨k, hk⟩ : ∃ k, k = min m 138 := ⟨_, rfl⟩
          obtain ⟨x, hx⟩ : ∃ x, x = k - 11 := ⟨_, rfl⟩
          have hmn : (Builtin.min_ #[3, 3] 3 #[.int .i64 (m : Int), .int .i64 138]).run Tryz.prog = (Builtin.min_ #[3, 3] 3 #[.int .i64 (m : Int), .int .i64 138]).run Tryz.prog := rfl
          have q1 := run_min8 (m : Int) 138 (k : Int) (by omega)
          have hkx : (k : Int) - 11 = (x : Int) := by omega
          have hkw : IntKind.u64.wrap ((k : Int) - 11) = (x : Int) := by unfold IntKind.wrap; simp [IntKind.bits, IntKind.signed]; omega
          have hk1 : 11 ≤ k := by omega
          have hk2 : k ≤ 138 := by omega
          have hkm : k ≤ m := by omega
          have q2 := conv_u64 k (by omega)
          clear hmn
          have hit : itemAt L i = (⟨18, 7, x⟩, k) := by
            unfold itemAt
            rw [← HVM.out.1, ← HVM.out.2]
            rw [if_pos ⟨hv0, h10⟩, hx, hk]
          rw [hit] at hp
          obtain ⟨O2, hO2⟩ : ∃ O2, O2 = O ++ [⟨18, 7, x⟩] := ⟨_, rfl⟩
          have hO2l : O2.length = O.length + 1 := by rw [hO2]; simp
          have hE4 : O2 ++ pressI L (n - (i + k)) (i + k) = R := by
            have hm := pressI_more L (n - (i + k)) (i + k) (by have := HLN.out; omega) (k - 1)
            rw [hO2, List.append_assoc, ← hm, show n - (i + k) + (k - 1) = f by have := HHF.out; omega]
            exact hp
          have hmN : O2.length ≤ i + 1 := by omega
          have hol2 : O2.length ≤ 1001 := by omega
          have HN2 := Lib.hid (And.intro hO2 hO2l)
          have HE4 := Lib.hid hE4
          have HMN := Lib.hid hmN
          clear hit hp hO2 hO2l hE4 hmN
          clear hk hx
          go_wp2_with (at_builtin; refine wpList_appS itemT _ rfl _ _ rfl base _ O.length (O.flatMap itc) rfl (HOX.out.alloc _) ⟨w5.heap.size, 0, none⟩ 1 [.int .i64 18, .int .i64 7, .int .u64 (x : Int)] rfl rfl (cells_new8 rfl _ _) (it_one _ _ _) O2.length (by rw [HN2.out.2]) (by unfold maxLen; omega) (by omega) (by have h1 := HFX.out.size; have h2 := HB.out; simp; omega) ?_)
          all_goals
            intro A' c' w' hown' hcc hfr'
            have HO4 : Hid (OwnIt w' base 78 A' c' O2) := Lib.hid (by
              show w'.ownsRow base _ 3 _ _ (O2.flatMap itc)
              have e : O2.flatMap itc = O.flatMap itc ++ [.int .i64 18, .int .i64 7, .int .u64 (x : Int)] := by rw [HN2.out.1, flatI]; rfl
              rw [e]
              exact hown')
            have HF4 : Hid (Fr (fun _ => False) w w') := Lib.hid ((HFX.out.alloc _).trans hfr' (fun b hb h => by have h1 := HOX.out.lt _ h; have h2 := HB.out; omega))
            clear hown' hfr'
            go_wp2_with fail
            exact ⟨⟨i + k, O2, A', c', by omega, by go_num, rfl, HO4.out, by have := HMN.out; omega, HE4.out, HF4.out⟩, by simp [intOf]; omega⟩
        · by_cases h2 : 2 < m
          · obtain ⟨x, hx⟩ : ∃ x, x = m - 3 := ⟨_, rfl⟩
            have hkx : (m : Int) - 3 = (x : Int) := by omega
            have hkw : IntKind.u64.wrap ((m : Int) - 3) = (x : Int) := by unfold IntKind.wrap; simp [IntKind.bits, IntKind.signed]; omega
            have q2 := conv_u64 m (by omega)
            have hit : itemAt L i = (⟨17, 3, x⟩, m) := by
              unfold itemAt
              rw [← HVM.out.1, ← HVM.out.2]
              rw [if_neg (fun h => h10 h.2), if_pos ⟨hv0, h2⟩, hx]
            rw [hit] at hp
            obtain ⟨O2, hO2⟩ : ∃ O2, O2 = O ++ [⟨17, 3, x⟩] := ⟨_, rfl⟩
            have hO2l : O2.length = O.length + 1 := by rw [hO2]; simp
            have hE4 : O2 ++ pressI L (n - (i + m)) (i + m) = R := by
              have hm := pressI_more L (n - (i + m)) (i + m) (by have := HLN.out; omega) (m - 1)
              rw [hO2, List.append_assoc, ← hm, show n - (i + m) + (m - 1) = f by have := HHF.out; omega]
              exact hp
            have hmN : O2.length ≤ i + 1 := by omega
            have hol2 : O2.length ≤ 1001 := by omega
            have HN2 := Lib.hid (And.intro hO2 hO2l)
            have HE4 := Lib.hid hE4
            have HMN := Lib.hid hmN
            clear hit hp hO2 hO2l hE4 hmN
            clear hx
            go_wp2_with (at_builtin; refine wpList_appS itemT _ rfl _ _ rfl base _ O.length (O.flatMap itc) rfl (HOX.out.alloc _) ⟨w5.heap.size, 0, none⟩ 1 [.int .i64 17, .int .i64 3, .int .u64 (x : Int)] rfl rfl (cells_new8 rfl _ _) (it_one _ _ _) O2.length (by rw [HN2.out.2]) (by unfold maxLen; omega) (by omega) (by have h1 := HFX.out.size; have h2 := HB.out; simp; omega) ?_)
            all_goals
              intro A' c' w' hown' hcc hfr'
              have HO4 : Hid (OwnIt w' base 78 A' c' O2) := Lib.hid (by
                show w'.ownsRow base _ 3 _ _ (O2.flatMap itc)
                have e : O2.flatMap itc = O.flatMap itc ++ [.int .i64 17, .int .i64 3, .int .u64 (x : Int)] := by rw [HN2.out.1, flatI]; rfl
                rw [e]
                exact hown')
              have HF4 : Hid (Fr (fun _ => False) w w') := Lib.hid ((HFX.out.alloc _).trans hfr' (fun b hb h => by have h1 := HOX.out.lt _ h; have h2 := HB.out; omega))
              clear hown' hfr'
              go_wp2_with fail
              exact ⟨⟨i + m, O2, A', c', by omega, by go_num, rfl, HO4.out, by have := HMN.out; omega, HE4.out, HF4.out⟩, by simp [intOf]; omega⟩
          · have hit : itemAt L i = (⟨v, 0, 0⟩, 1) := by
              unfold itemAt
              rw [← HVM.out.1, ← HVM.out.2]
              rw [if_neg (fun h => h10 h.2), if_neg (fun h => h2 h.2), if_neg (fun h => by omega)]
            rw [hit] at hp
            obtain ⟨O2, hO2⟩ : ∃ O2, O2 = O ++ [⟨v, 0, 0⟩] := ⟨_, rfl⟩
            have hO2l : O2.length = O.length + 1 := by rw [hO2]; simp
            have hE4 : O2 ++ pressI L (n - (i + 1)) (i + 1) = R := by
              have hm := pressI_more L (n - (i + 1)) (i + 1) (by have := HLN.out; omega) (1 - 1)
              rw [hO2, List.append_assoc, ← hm, show n - (i + 1) + (1 - 1) = f by have := HHF.out; omega]
              exact hp
            have hmN : O2.length ≤ i + 1 := by omega
            have hol2 : O2.length ≤ 1001 := by omega
            have HN2 := Lib.hid (And.intro hO2 hO2l)
            have HE4 := Lib.hid hE4
            have HMN := Lib.hid hmN
            clear hit hp hO2 hO2l hE4 hmN
            subst hv0
            have t1 : decide (((0 : Nat) : Int) > 0) = false := by simp
            have t5 : decide ((m : Int) > 2) = false := by simp; omega
            have t5' : decide (2 < (m : Int)) = false := by simp; omega
            have t5q : decide (2 < m) = false := by simp; omega
            have t6 : decide ((m : Int) > 10) = false := by simp; omega
            replace cv : w5.cell? (ad.add i) = some (.int .i64 0) := cv
            go_wp2_with fail
            go_quiet (fail)
            obtain ⟨w6, hw6⟩ : ∃ w6, w6 = w5.drewN nq := ⟨_, rfl⟩
            rw [← hw6]
            have HOY : Hid (OwnIt w6 base 78 A1 c1 O) := Lib.hid (by rw [hw6]; exact HOX.out)
            have HFY : Hid (Fr (fun _ => False) w w6) := Lib.hid (by rw [hw6]; exact HFX.out.drewN nq)
            replace cv : w6.cell? (ad.add i) = some (.int .i64 0) := by rw [hw6]; exact cv
            clear hw6 nq
            go_wp2_with (at_builtin; refine wpList_appS itemT _ rfl _ _ rfl base _ O.length (O.flatMap itc) rfl (HOY.out.alloc _) ⟨w6.heap.size, 0, none⟩ 1 [.int .i64 0, .int .i64 0, .int .u64 0] rfl rfl (cells_new8 rfl _ _) (it_one _ _ _) O2.length (by rw [HN2.out.2]) (by unfold maxLen; omega) (by omega) (by have h1 := HFY.out.size; have h2 := HB.out; simp; omega) ?_)
            all_goals
              intro A' c' w' hown' hcc hfr'
              have HO4 : Hid (OwnIt w' base 78 A' c' O2) := Lib.hid (by
                show w'.ownsRow base _ 3 _ _ (O2.flatMap itc)
                have e : O2.flatMap itc = O.flatMap itc ++ [.int .i64 0, .int .i64 0, .int .u64 0] := by rw [HN2.out.1, flatI]; rfl
                rw [e]
                exact hown')
              have HF4 : Hid (Fr (fun _ => False) w w') := Lib.hid ((HFY.out.alloc _).trans hfr' (fun b hb h => by have h1 := HOY.out.lt _ h; have h2 := HB.out; omega))
              clear hown' hfr'
              go_wp2_with fail
              exact ⟨⟨i + 1, O2, A', c', by omega, by go_num, rfl, HO4.out, by have := HMN.out; omega, HE4.out, HF4.out⟩, by simp [intOf]; omega⟩
      · by_cases hi0 : 0 < i
        · obtain ⟨i1, hi1, cp⟩ := hprev hi0
          have hi1n : i1 < n := by omega
          have hi1i : (i : Int) - 1 = (i1 : Int) := by omega
          have hi1w : IntKind.i64.wrap ((i : Int) - 1) = (i1 : Int) := by rw [IntKind.wrap_i64]; omega
          clear hv hprev hi1
          by_cases hvp : v = L[i - 1]!
          · by_cases h2 : 2 < m
            · obtain ⟨k, hk⟩ : ∃ k, k = min m 6 := ⟨_, rfl⟩
              obtain ⟨x, hx⟩ : ∃ x, x = k - 3 := ⟨_, rfl⟩
              have q1 := run_min8 (m : Int) 6 (k : Int) (by omega)
              have hkx : (k : Int) - 3 = (x : Int) := by omega
              have hkw : IntKind.u64.wrap ((k : Int) - 3) = (x : Int) := by unfold IntKind.wrap; simp [IntKind.bits, IntKind.signed]; omega
              have hk1 : 3 ≤ k := by omega
              have hk2 : k ≤ 6 := by omega
              have hkm : k ≤ m := by omega
              have q2 := conv_u64 k (by omega)
              have hit : itemAt L i = (⟨16, 2, x⟩, k) := by
                unfold itemAt
                rw [← HVM.out.1, ← HVM.out.2]
                rw [if_neg (fun h => hv0 h.1), if_neg (fun h => hv0 h.1), if_pos ⟨by omega, hi0, hvp, h2⟩, hx, hk]
              rw [hit] at hp
              obtain ⟨O2, hO2⟩ : ∃ O2, O2 = O ++ [⟨16, 2, x⟩] := ⟨_, rfl⟩
              have hO2l : O2.length = O.length + 1 := by rw [hO2]; simp
              have hE4 : O2 ++ pressI L (n - (i + k)) (i + k) = R := by
                have hm := pressI_more L (n - (i + k)) (i + k) (by have := HLN.out; omega) (k - 1)
                rw [hO2, List.append_assoc, ← hm, show n - (i + k) + (k - 1) = f by have := HHF.out; omega]
                exact hp
              have hmN : O2.length ≤ i + 1 := by omega
              have hol2 : O2.length ≤ 1001 := by omega
              have HN2 := Lib.hid (And.intro hO2 hO2l)
              have HE4 := Lib.hid hE4
              have HMN := Lib.hid hmN
              clear hit hp hO2 hO2l hE4 hmN
              clear hk hx
              have t1 : ((v : Int) == 0) = false := by simp; omega
              have t2 : decide ((v : Int) > 0) = true := by simp; omega
              have t2' : decide (0 < (v : Int)) = true := by simp; omega
              have t2q : decide (0 < v) = true := by simp; omega
              have t3 : decide ((i : Int) > 0) = true := by simp; omega
              have t3' : decide (0 < (i : Int)) = true := by simp; omega
              have t3q : decide (0 < i) = true := by simp; omega
              have t4 : ((v : Int) == (v : Int)) = true := by simp
              rw [← hvp] at cp
              clear hvp
              have t5 : decide ((m : Int) > 2) = true := by simp; omega
              have t5' : decide (2 < (m : Int)) = true := by simp; omega
              have t5q : decide (2 < m) = true := by simp; omega
              go_wp2_with fail
              go_quiet (fail)
              obtain ⟨w6, hw6⟩ : ∃ w6, w6 = w5.drewN nq := ⟨_, rfl⟩
              rw [← hw6]
              have HOY : Hid (OwnIt w6 base 78 A1 c1 O) := Lib.hid (by rw [hw6]; exact HOX.out)
              have HFY : Hid (Fr (fun _ => False) w w6) := Lib.hid (by rw [hw6]; exact HFX.out.drewN nq)
              replace cv : w6.cell? (ad.add i) = some (.int .i64 (v : Int)) := by rw [hw6]; exact cv
              clear hw6 nq cp
              go_wp2_with (at_builtin; refine wpList_appS itemT _ rfl _ _ rfl base _ O.length (O.flatMap itc) rfl (HOY.out.alloc _) ⟨w6.heap.size, 0, none⟩ 1 [.int .i64 16, .int .i64 2, .int .u64 (x : Int)] rfl rfl (cells_new8 rfl _ _) (it_one _ _ _) O2.length (by rw [HN2.out.2]) (by unfold maxLen; omega) (by omega) (by have h1 := HFY.out.size; have h2 := HB.out; simp; omega) ?_)
              all_goals
                intro A' c' w' hown' hcc hfr'
                have HO4 : Hid (OwnIt w' base 78 A' c' O2) := Lib.hid (by
                  show w'.ownsRow base _ 3 _ _ (O2.flatMap itc)
                  have e : O2.flatMap itc = O.flatMap itc ++ [.int .i64 16, .int .i64 2, .int .u64 (x : Int)] := by rw [HN2.out.1, flatI]; rfl
                  rw [e]
                  exact hown')
                have HF4 : Hid (Fr (fun _ => False) w w') := Lib.hid ((HFY.out.alloc _).trans hfr' (fun b hb h => by have h1 := HOY.out.lt _ h; have h2 := HB.out; omega))
                clear hown' hfr'
                go_wp2_with fail
                exact ⟨⟨i + k, O2, A', c', by omega, by go_num, rfl, HO4.out, by have := HMN.out; omega, HE4.out, HF4.out⟩, by simp [intOf]; omega⟩
            · have hit : itemAt L i = (⟨v, 0, 0⟩, 1) := by
                unfold itemAt
                rw [← HVM.out.1, ← HVM.out.2]
                rw [if_neg (fun h => hv0 h.1), if_neg (fun h => hv0 h.1), if_neg (fun h => h2 h.2.2.2)]
              rw [hit] at hp
              obtain ⟨O2, hO2⟩ : ∃ O2, O2 = O ++ [⟨v, 0, 0⟩] := ⟨_, rfl⟩
              have hO2l : O2.length = O.length + 1 := by rw [hO2]; simp
              have hE4 : O2 ++ pressI L (n - (i + 1)) (i + 1) = R := by
                have hm := pressI_more L (n - (i + 1)) (i + 1) (by have := HLN.out; omega) (1 - 1)
                rw [hO2, List.append_assoc, ← hm, show n - (i + 1) + (1 - 1) = f by have := HHF.out; omega]
                exact hp
              have hmN : O2.length ≤ i + 1 := by omega
              have hol2 : O2.length ≤ 1001 := by omega
              have HN2 := Lib.hid (And.intro hO2 hO2l)
              have HE4 := Lib.hid hE4
              have HMN := Lib.hid hmN
              clear hit hp hO2 hO2l hE4 hmN
              have t1 : ((v : Int) == 0) = false := by simp; omega
              have t2 : decide ((v : Int) > 0) = true := by simp; omega
              have t2' : decide (0 < (v : Int)) = true := by simp; omega
              have t2q : decide (0 < v) = true := by simp; omega
              have t3 : decide ((i : Int) > 0) = true := by simp; omega
              have t3' : decide (0 < (i : Int)) = true := by simp; omega
              have t3q : decide (0 < i) = true := by simp; omega
              have t4 : ((v : Int) == (v : Int)) = true := by simp
              have t5 : decide ((m : Int) > 2) = false := by simp; omega
              have t5' : decide (2 < (m : Int)) = false := by simp; omega
              have t5q : decide (2 < m) = false := by simp; omega
              rw [← hvp] at cp
              clear hvp
              go_wp2_with fail
              go_quiet (fail)
              obtain ⟨w6, hw6⟩ : ∃ w6, w6 = w5.drewN nq := ⟨_, rfl⟩
              rw [← hw6]
              have HOY : Hid (OwnIt w6 base 78 A1 c1 O) := Lib.hid (by rw [hw6]; exact HOX.out)
              have HFY : Hid (Fr (fun _ => False) w w6) := Lib.hid (by rw [hw6]; exact HFX.out.drewN nq)
              replace cv : w6.cell? (ad.add i) = some (.int .i64 (v : Int)) := by rw [hw6]; exact cv
              clear hw6 nq cp
              go_wp2_with (at_builtin; refine wpList_appS itemT _ rfl _ _ rfl base _ O.length (O.flatMap itc) rfl (HOY.out.alloc _) ⟨w6.heap.size, 0, none⟩ 1 [.int .i64 (v : Int), .int .i64 0, .int .u64 0] rfl rfl (cells_new8 rfl _ _) (it_one _ _ _) O2.length (by rw [HN2.out.2]) (by unfold maxLen; omega) (by omega) (by have h1 := HFY.out.size; have h2 := HB.out; simp; omega) ?_)
              all_goals
                intro A' c' w' hown' hcc hfr'
                have HO4 : Hid (OwnIt w' base 78 A' c' O2) := Lib.hid (by
                  show w'.ownsRow base _ 3 _ _ (O2.flatMap itc)
                  have e : O2.flatMap itc = O.flatMap itc ++ [.int .i64 (v : Int), .int .i64 0, .int .u64 0] := by rw [HN2.out.1, flatI]; rfl
                  rw [e]
                  exact hown')
                have HF4 : Hid (Fr (fun _ => False) w w') := Lib.hid ((HFY.out.alloc _).trans hfr' (fun b hb h => by have h1 := HOY.out.lt _ h; have h2 := HB.out; omega))
                clear hown' hfr'
                go_wp2_with fail
                exact ⟨⟨i + 1, O2, A', c', by omega, by go_num, rfl, HO4.out, by have := HMN.out; omega, HE4.out, HF4.out⟩, by simp [intOf]; omega⟩
          · have hit : itemAt L i = (⟨v, 0, 0⟩, 1) := by
              unfold itemAt
              rw [← HVM.out.1, ← HVM.out.2]
              rw [if_neg (fun h => hv0 h.1), if_neg (fun h => hv0 h.1), if_neg (fun h => hvp h.2.2.1)]
            rw [hit] at hp
            obtain ⟨O2, hO2⟩ : ∃ O2, O2 = O ++ [⟨v, 0, 0⟩] := ⟨_, rfl⟩
            have hO2l : O2.length = O.length + 1 := by rw [hO2]; simp
            have hE4 : O2 ++ pressI L (n - (i + 1)) (i + 1) = R := by
              have hm := pressI_more L (n - (i + 1)) (i + 1) (by have := HLN.out; omega) (1 - 1)
              rw [hO2, List.append_assoc, ← hm, show n - (i + 1) + (1 - 1) = f by have := HHF.out; omega]
              exact hp
            have hmN : O2.length ≤ i + 1 := by omega
            have hol2 : O2.length ≤ 1001 := by omega
            have HN2 := Lib.hid (And.intro hO2 hO2l)
            have HE4 := Lib.hid hE4
            have HMN := Lib.hid hmN
            clear hit hp hO2 hO2l hE4 hmN
            have t1 : ((v : Int) == 0) = false := by simp; omega
            have t2 : decide ((v : Int) > 0) = true := by simp; omega
            have t2' : decide (0 < (v : Int)) = true := by simp; omega
            have t2q : decide (0 < v) = true := by simp; omega
            have t3 : decide ((i : Int) > 0) = true := by simp; omega
            have t3' : decide (0 < (i : Int)) = true := by simp; omega
            have t3q : decide (0 < i) = true := by simp; omega
            obtain ⟨v2, hv2⟩ : ∃ a, a = L[i - 1]! := ⟨_, rfl⟩
            rw [← hv2] at cp hvp
            have t4 : ((v : Int) == (v2 : Int)) = false := by simp; omega
            clear hv2
            go_wp2_with fail
            go_quiet (fail)
            obtain ⟨w6, hw6⟩ : ∃ w6, w6 = w5.drewN nq := ⟨_, rfl⟩
            rw [← hw6]
            have HOY : Hid (OwnIt w6 base 78 A1 c1 O) := Lib.hid (by rw [hw6]; exact HOX.out)
            have HFY : Hid (Fr (fun _ => False) w w6) := Lib.hid (by rw [hw6]; exact HFX.out.drewN nq)
            replace cv : w6.cell? (ad.add i) = some (.int .i64 (v : Int)) := by rw [hw6]; exact cv
            clear hw6 nq cp
            go_wp2_with (at_builtin; refine wpList_appS itemT _ rfl _ _ rfl base _ O.length (O.flatMap itc) rfl (HOY.out.alloc _) ⟨w6.heap.size, 0, none⟩ 1 [.int .i64 (v : Int), .int .i64 0, .int .u64 0] rfl rfl (cells_new8 rfl _ _) (it_one _ _ _) O2.length (by rw [HN2.out.2]) (by unfold maxLen; omega) (by omega) (by have h1 := HFY.out.size; have h2 := HB.out; simp; omega) ?_)
            all_goals
              intro A' c' w' hown' hcc hfr'
              have HO4 : Hid (OwnIt w' base 78 A' c' O2) := Lib.hid (by
                show w'.ownsRow base _ 3 _ _ (O2.flatMap itc)
                have e : O2.flatMap itc = O.flatMap itc ++ [.int .i64 (v : Int), .int .i64 0, .int .u64 0] := by rw [HN2.out.1, flatI]; rfl
                rw [e]
                exact hown')
              have HF4 : Hid (Fr (fun _ => False) w w') := Lib.hid ((HFY.out.alloc _).trans hfr' (fun b hb h => by have h1 := HOY.out.lt _ h; have h2 := HB.out; omega))
              clear hown' hfr'
              go_wp2_with fail
              exact ⟨⟨i + 1, O2, A', c', by omega, by go_num, rfl, HO4.out, by have := HMN.out; omega, HE4.out, HF4.out⟩, by simp [intOf]; omega⟩
        · clear hv hprev
          have hit : itemAt L i = (⟨v, 0, 0⟩, 1) := by
            unfold itemAt
            rw [← HVM.out.1, ← HVM.out.2]
            rw [if_neg (fun h => hv0 h.1), if_neg (fun h => hv0 h.1), if_neg (fun h => by omega)]
          rw [hit] at hp
          obtain ⟨O2, hO2⟩ : ∃ O2, O2 = O ++ [⟨v, 0, 0⟩] := ⟨_, rfl⟩
          have hO2l : O2.length = O.length + 1 := by rw [hO2]; simp
          have hE4 : O2 ++ pressI L (n - (i + 1)) (i + 1) = R := by
            have hm := pressI_more L (n - (i + 1)) (i + 1) (by have := HLN.out; omega) (1 - 1)
            rw [hO2, List.append_assoc, ← hm, show n - (i + 1) + (1 - 1) = f by have := HHF.out; omega]
            exact hp
          have hmN : O2.length ≤ i + 1 := by omega
          have hol2 : O2.length ≤ 1001 := by omega
          have HN2 := Lib.hid (And.intro hO2 hO2l)
          have HE4 := Lib.hid hE4
          have HMN := Lib.hid hmN
          clear hit hp hO2 hO2l hE4 hmN
          have t1 : ((v : Int) == 0) = false := by simp; omega
          have t2 : decide ((v : Int) > 0) = true := by simp; omega
          have t2' : decide (0 < (v : Int)) = true := by simp; omega
          have t2q : decide (0 < v) = true := by simp; omega
          have t3 : decide ((i : Int) > 0) = false := by simp; omega
          have t3' : decide (0 < (i : Int)) = false := by simp; omega
          have t3q : decide (0 < i) = false := by simp; omega
          go_wp2_with fail
          go_quiet (fail)
          obtain ⟨w6, hw6⟩ : ∃ w6, w6 = w5.drewN nq := ⟨_, rfl⟩
          rw [← hw6]
          have HOY : Hid (OwnIt w6 base 78 A1 c1 O) := Lib.hid (by rw [hw6]; exact HOX.out)
          have HFY : Hid (Fr (fun _ => False) w w6) := Lib.hid (by rw [hw6]; exact HFX.out.drewN nq)
          replace cv : w6.cell? (ad.add i) = some (.int .i64 (v : Int)) := by rw [hw6]; exact cv
          clear hw6 nq
          go_wp2_with (at_builtin; refine wpList_appS itemT _ rfl _ _ rfl base _ O.length (O.flatMap itc) rfl (HOY.out.alloc _) ⟨w6.heap.size, 0, none⟩ 1 [.int .i64 (v : Int), .int .i64 0, .int .u64 0] rfl rfl (cells_new8 rfl _ _) (it_one _ _ _) O2.length (by rw [HN2.out.2]) (by unfold maxLen; omega) (by omega) (by have h1 := HFY.out.size; have h2 := HB.out; simp; omega) ?_)
          all_goals
            intro A' c' w' hown' hcc hfr'
            have HO4 : Hid (OwnIt w' base 78 A' c' O2) := Lib.hid (by
              show w'.ownsRow base _ 3 _ _ (O2.flatMap itc)
              have e : O2.flatMap itc = O.flatMap itc ++ [.int .i64 (v : Int), .int .i64 0, .int .u64 0] := by rw [HN2.out.1, flatI]; rfl
              rw [e]
              exact hown')
            have HF4 : Hid (Fr (fun _ => False) w w') := Lib.hid ((HFY.out.alloc _).trans hfr' (fun b hb h => by have h1 := HOY.out.lt _ h; have h2 := HB.out; omega))
            clear hown' hfr'
            go_wp2_with fail
            exact ⟨⟨i + 1, O2, A', c', by omega, by go_num, rfl, HO4.out, by have := HMN.out; omega, HE4.out, HF4.out⟩, by simp [intOf]; omega⟩
    · have hin : i = n := by omega
      have hr : O = R := by have h := HE.out; rw [hin, Nat.sub_self] at h; simpa [pressI] using h
      subst hr
      go_wp2_with fail
      go_ret
      exact ⟨A1, c1, rfl, HO.out, HF.out⟩
end Go.Proofs.YtahfmcdhcbfkaaaGreatDoor
