/-
  Layer 8's program: Press.
-/
import Derived.Test.YtjghcacepneipaaDoorCpD
import Derived.Test.YtjghcacepneipaaDoorCoC
namespace Go.Proofs.YtjghcacepneipaaDoor
open Go.RowKit CoM Mem Go.Lib
attribute [local go_sem ↓] Go.wp_at_zero Go.wp_at_succ
set_option linter.unusedVariables false

theorem itmT : ElemTyS Tryd.prog 24 32 (.agg #[.int .i64 0, .int .i64 0, .int .u64 0]) 3 24 := ⟨Tryd.underlying24, by kernel_rfl, rfl, by decide⟩

set_option maxRecDepth 100000 in
set_option maxHeartbeats 3200000 in
theorem pPress_own (A : Option Addr) (n c : Nat) (L : List Nat) (w : World) (hG : GlS w) (hr : Rd w A n (L.map natc)) (hc : n ≤ c) (hn : n ≤ 1000) (hL : ∀ x ∈ L, x ≤ 15) :
    Calls Tryd.prog 10 #[.slice A n c] w fun e w' => ∃ A' c', e = .returned (.slice A' (items L).length c') ∧ OwnIt w' w.heap.size 32 A' c' (items L) ∧ Fr (fun _ => False) w w' := by
  have hln : L.length = n := by simpa using hr.1
  have HRD := Lib.hid hr
  have HLN := Lib.hid hln
  have HLX := Lib.hid hL
  have HG := Lib.hid hG
  have HC := Lib.hid hc
  obtain ⟨base, hbase⟩ : ∃ base, base = w.heap.size := ⟨_, rfl⟩
  have HB := Lib.hid hbase
  rw [← hbase]
  obtain ⟨R, hR⟩ : ∃ R, R = items L := ⟨_, rfl⟩
  rw [← hR]
  have HRR := Lib.hid hR
  clear hr hln hbase hR hL hG hc
  go_enter Tryd.func10, Tryd.ntmps10
  go_wp2_with fail
  go_loopw [3, 4] (fun s i wr => ∃ (k : Nat) (O : List It) (A1 : Option Addr) (c1 : Nat), k ≤ n ∧ i = .int .i64 (k : Int) ∧ s = .slice A1 O.length c1 ∧ Hid (OwnIt wr base 32 A1 c1 O) ∧ O.length ≤ k ∧ Hid (O ++ pressI L (n - k) k = R) ∧ Hid (Fr (fun _ => False) w wr)) (fun _ i _ => n - (intOf i).toNat)
  case atStart => exact ⟨0, [], none, 0, Nat.zero_le _, rfl, rfl, World.ownsRow_nil _ _ _ _, by simp, by rw [HRR.out, items, HLN.out]; rfl, Fr.refl _ _⟩
  case round =>
    obtain ⟨i, O, A1, c1, hk, rfl, rfl, HO, hol, HE, HF⟩ := hrel
    rename World => wr
    by_cases hlt : i < n
    · have HRr := Lib.hid (HRD.out.fr HF.out (fun _ _ h => h))
      have hin : i < L.length := by rw [HLN.out]; exact hlt
      have hp := HE.out
      obtain ⟨f, hf⟩ : ∃ f, n - i = f + 1 := ⟨n - i - 1, by omega⟩
      rw [hf, pressI, if_pos hin] at hp
      have hz := item_pos L i hin
      obtain ⟨s, b, x, z, hit⟩ : ∃ s b x z, itemAt L i = (⟨s, b, x⟩, z) := ⟨_, _, _, _, rfl⟩
      have hch := choose_any A n c i L wr (HG.out.fr0 HF.out) HRr.out hlt HC.out hn (fun y hy => by have := HLX.out y hy; omega)
      rw [hit] at hp hz hch
      obtain ⟨hz1, hz2, hz3⟩ := hz
      rw [HLN.out] at hz2
      have HCH : Hid (Calls Tryd.prog 26 #[.slice A n c, .int .i64 (i : Int)] wr fun e w' => e = .returned (.tuple #[.agg #[.int .i64 (s : Int), .int .i64 (b : Int), .int .u64 (x : Int)], .int .i64 (z : Int)]) ∧ Fr (fun _ => False) wr w') := Lib.hid hch
      obtain ⟨O2, hO2⟩ : ∃ O2, O2 = O ++ [⟨s, b, x⟩] := ⟨_, rfl⟩
      have hO2l : O2.length = O.length + 1 := by rw [hO2]; simp
      have hE4 : O2 ++ pressI L (n - (i + z)) (i + z) = R := by
        have hm := pressI_more L (n - (i + z)) (i + z) (by have := HLN.out; omega) (z - 1)
        rw [hO2, List.append_assoc, ← hm, show n - (i + z) + (z - 1) = f by omega]
        exact hp
      have hmN : O2.length ≤ i + 1 := by omega
      have hol2 : O2.length ≤ 1001 := by omega
      have HN2 := Lib.hid (And.intro hO2 hO2l)
      have HE4 := Lib.hid hE4
      have HMN := Lib.hid hmN
      clear hf hp hit hch hO2 hO2l hE4 hmN hz3
      go_wp2_with (first
        | (refine HCH.out.mono ?_
           rintro e w2 ⟨rfl, hf2⟩
           have HF2 := Lib.hid (HF.out.trans hf2 (fun _ _ h => h))
           have HO3 := Lib.hid (HO.out.fr hf2)
           clear hf2)
        | (at_builtin; refine wpList_appS itmT _ rfl _ _ rfl base _ O.length (O.flatMap itc) rfl ((HO3.out.alloc _).alloc _) ⟨w2.heap.size + 1, 0, none⟩ 1 [.int .i64 (s : Int), .int .i64 (b : Int), .int .u64 (x : Int)] rfl rfl (cells_new8 (by simp) _ _) (it_one _ _ _) O2.length (by rw [HN2.out.2]) (by unfold maxLen; omega) (by omega) (by have h1 := HF2.out.size; have h2 := HB.out; simp; omega) ?_))
      all_goals
        intro A' c' w' hown' hcc hfr'
        have HO4 : Hid (OwnIt w' base 32 A' c' O2) := Lib.hid (by
          show w'.ownsRow base _ 3 _ _ (O2.flatMap itc)
          have e : O2.flatMap itc = O.flatMap itc ++ [.int .i64 (s : Int), .int .i64 (b : Int), .int .u64 (x : Int)] := by rw [HN2.out.1, flatI]; rfl
          rw [e]
          exact hown')
        have HF4 : Hid (Fr (fun _ => False) w w') := Lib.hid (((HF2.out.alloc _).alloc _).trans hfr' (fun b hb h => by have h1 := HO3.out.lt _ h; have h2 := HB.out; omega))
        clear hown' hfr'
        go_wp2_with fail
        exact ⟨⟨i + z, O2, A', c', by omega, by go_num, rfl, HO4.out, by have := HMN.out; omega, HE4.out, HF4.out⟩, by simp [intOf]; omega⟩
    · have hin : i = n := by omega
      have hr : O = R := by have h := HE.out; rw [hin, Nat.sub_self] at h; simpa [pressI] using h
      subst hr
      go_wp2_with fail
      go_ret
      exact ⟨A1, c1, rfl, HO.out, HF.out⟩
theorem pPress_any (w0 : World) (hG : GlS w0) : PressC w0 := by
  intro A n c L w hf hr hc hcm hn hL
  refine (pPress_own A n c L w (hG.fr0 hf) hr hc hn hL).mono ?_
  rintro e w' ⟨A', c', rfl, hO, hf'⟩
  exact ⟨A', c', rfl, hO.its, hf'⟩
end Go.Proofs.YtjghcacepneipaaDoor
