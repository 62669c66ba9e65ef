/-
  Layer 16, the program: Put.
-/
import Derived.Test.YtfgjneodhmfknaaDirB
import Derived.Deep.DeepCutAuto
import Derived.Deep.CutRange
namespace Go.Proofs.Ytfgjneodhmfknaa
open Go.RowKit Mem Go.Lib LebM DirM
attribute [local go_sem ↓] Go.wp_at_zero Go.wp_at_succ
set_option linter.unusedVariables false

/-- two values lie in blocks apart -/
def Apart (v1 v2 : Value) : Prop := ∀ k, v1.ownBlock = some k → v2.ownBlock ≠ some k
theorem Apart.symm {v1 v2 : Value} (h : Apart v1 v2) : Apart v2 v1 := fun k h2 h1 => h k h1 h2
theorem Apart.grow {v1 v1' v2 : Value} {n : Nat} (h : Apart v1 v2) (hl : ∀ k, v2.ownBlock = some k → k < n) (hg : v1'.ownBlock = v1.ownBlock ∨ v1'.ownBlock = some n) : Apart v1' v2 := by
  intro k hk h2
  rcases hg with e | e
  · exact h k (by rw [← e]; exact hk) h2
  · rw [e] at hk
    injection hk with hk
    have := hl k h2
    omega
theorem full_step {L : List Cl} {k : Nat} {x : Cl} (h : L[k]? = some x) : full ((L.take (k + 1)).map Cl.v) = full ((L.take k).map Cl.v) ++ (if 0 < x.B.length then [x.v] else []) := by
  rw [List.take_add_one, h, Option.toList_some, List.map_append]
  unfold full
  rw [List.filter_append]
  congr 1
  show List.filter _ [x.v] = _
  rw [List.filter_cons]
  by_cases hx : 0 < x.B.length
  · rw [if_pos (show decide (0 < x.v.snd.length) = true from decide_eq_true hx), if_pos hx]
    rfl
  · rw [if_neg (show ¬ decide (0 < x.v.snd.length) = true from fun h => hx (of_decide_eq_true h)), if_neg hx]
    rfl
theorem headC_snoc (F : List Col) (c : Col) : headC (F ++ [c]) = headC F ++ (u c.1 ++ u c.2.length) := by simp [headC]
theorem dataC_snoc (F : List Col) (c : Col) : dataC (F ++ [c]) = dataC F ++ c.2 := by simp [dataC]
theorem colSz : (Try.prog.info? 45).map (·.size) = some 2 := by kernel_rfl
set_option maxRecDepth 100000 in
set_option maxHeartbeats 6400000 in
/-- THE CONTRACT of Put -/
theorem put_any (A : Option Addr) (n c : Nat) (L : List Cl) (w : World) (hL : Cols w A n L) (hn : n ≤ 1000) (hid : ∀ x ∈ L, x.id ≤ 1000000000000) (hb : ∀ x ∈ L, x.B.length ≤ 1000000) :
    Calls Try.prog 10 #[.slice A n c] w (Gives w (putC (L.map Cl.v))) := by
  have hln := hL.1.1
  have HL := Lib.hid hL
  have HLN := Lib.hid hln
  have HID := Lib.hid hid
  have HBB := Lib.hid hb
  obtain ⟨base, hbase⟩ : ∃ base, base = w.heap.size := ⟨_, rfl⟩
  have HB := Lib.hid hbase
  unfold Gives
  rw [← hbase]
  clear hL hln hid hb hbase
  go_enter Try.func10, Try.ntmps10
  go_wp2_with fail
  go_loopw [3, 4, 5, 10] (fun cn s b v wr => ∃ (k m : Nat) (P D : List UInt8) (A1 A2 : Option Addr) (c1 c2 : Nat), k ≤ n ∧ v = .int .i64 (k : Int) ∧ cn = .int .u64 (m : Int) ∧ m ≤ k ∧ s = .slice A1 P.length c1 ∧ b = .slice A2 D.length c2 ∧
    P.length ≤ 20 * k ∧ D.length ≤ 1000000 * k ∧ Hid (m = (full ((L.take k).map Cl.v)).length) ∧ Hid (P = headC (full ((L.take k).map Cl.v))) ∧ Hid (D = dataC (full ((L.take k).map Cl.v))) ∧
    Hid (Own wr base A1 c1 P) ∧ Hid (Own wr base A2 c2 D) ∧ Hid (Apart (.slice A1 P.length c1) (.slice A2 D.length c2)) ∧ Hid (Fr (fun _ => False) w wr)) (fun _ _ _ v _ => n - (intOf v).toNat)
  case atStart => exact ⟨0, 0, [], [], none, none, 0, 0, Nat.zero_le _, rfl, rfl, Nat.zero_le _, rfl, rfl, by simp, by simp, (by simp [full] : 0 = (full ((L.take 0).map Cl.v)).length), (by simp [full, headC] : ([] : List UInt8) = headC (full ((L.take 0).map Cl.v))), (by simp [full, dataC] : ([] : List UInt8) = dataC (full ((L.take 0).map Cl.v))), Own.nil _ _, Own.nil _ _, (fun k h => by cases h), Fr.refl _ _⟩
  case round =>
    obtain ⟨k, m, P, D, A1, A2, c1, c2, hk, rfl, rfl, hm, rfl, rfl, hPl, hDl, HM, HP, HD, HO1, HO2, HAP, HF⟩ := hrel
    rename World => wr
    by_cases hlt : k < n
    · obtain ⟨x, hx⟩ : ∃ x, L[k]? = some x := ⟨_, List.getElem?_eq_getElem (by have := HLN.out; omega)⟩
      obtain ⟨gx, ox, rfl, hgx, h0, h1⟩ := (HL.out.1.fr HF.out (fun _ _ => id)).2 k x hx
      have hby := HL.out.2 x (List.mem_of_getElem? hx)
      have hxi := HID.out x (List.mem_of_getElem? hx)
      have hxb := HBB.out x (List.mem_of_getElem? hx)
      have hfs := full_step hx
      simp only [idc, dac] at h0 h1
      obtain ⟨z, hz⟩ : ∃ z, x.B.length = z := ⟨_, rfl⟩
      obtain ⟨id, hidd⟩ : ∃ id, x.id = id := ⟨_, rfl⟩
      rw [hz] at h1 hxb hfs
      rw [hidd] at h0 hxi
      obtain ⟨p, hp⟩ : ∃ p, wr.heap.size = p := ⟨_, rfl⟩
      obtain ⟨w1, hw1⟩ : ∃ w1, wr.alloc (.cells #[.int .i64 0, .slice none 0 0] 45) = w1 := ⟨_, rfl⟩
      have hf1 : Fr (fun _ => False) wr w1 := by rw [← hw1]; exact (Fr.refl _ _).alloc _
      have hr1 : Row w1 p 45 [.int .i64 0, .slice none 0 0] := by rw [← hw1, ← hp]; exact Row.new wr _ _
      have HW1 := Lib.hid hr1
      have HPP := Lib.hid hp
      have HF1 := Lib.hid hf1
      have HBY := Lib.hid hby
      have HFS := Lib.hid hfs
      have HZ := Lib.hid hz
      have HIE := Lib.hid hidd
      clear hx hby hfs hz hidd hr1 hf1
      go_upto_region 6 with (refine store_st colSz rfl (.tmp 7) (.tmp 13) rfl p (by rfl) [.int .i64 (id : Int), .slice x.A z x.c] (by rfl) _ _ HW1.out rfl rfl (by simp [Value.oneCell']) ?_)
      intro w2 hr2 hf2
      have HR2 := Lib.hid hr2
      have k0 : w2.cell? ⟨p, 0, none⟩ = some (.int .i64 (id : Int)) := hr2.cell rfl
      have k1 : w2.cell? ⟨p, 1, none⟩ = some (.slice x.A z x.c) := hr2.cell rfl
      have hfr2 : Fr (fun _ => False) wr w2 := HF1.out.trans hf2 (fun b hb h => by have := HPP.out; omega)
      have HFR2 := Lib.hid hfr2
      clear hr2 hf2 hw1 hp h0 h1 hfr2
      by_cases hz0 : z = 0
      · subst hz0
        have HFS0 : Hid (full ((L.take (k + 1)).map Cl.v) = full ((L.take k).map Cl.v)) := Lib.hid (by rw [HFS.out, if_neg (by omega), List.append_nil])
        go_wp2_with fail
        go_roundw
        case rel =>
          exact ⟨k + 1, m, P, D, A1, A2, c1, c2, by omega, by go_num, by rfl, by omega, by rfl, by rfl, by omega, by omega, by rw [HFS0.out]; exact HM, by rw [HFS0.out]; exact HP, by rw [HFS0.out]; exact HD,
            HO1.out.fr HFR2.out, HO2.out.fr HFR2.out, HAP, HF.out.trans HFR2.out (fun _ _ h => h)⟩
        case measure => simp [intOf]; omega
      · have HFS1 : Hid (full ((L.take (k + 1)).map Cl.v) = full ((L.take k).map Cl.v) ++ [x.v]) := Lib.hid (by rw [HFS.out, if_pos (by omega)])
        have t0 : ((z : Int) == 0) = false := by simp; omega
        have t0' : (z == 0) = false := by simp; omega
        have e3 : IntKind.u64.wrap ((m : Int) + 1) = ((m + 1 : Nat) : Int) := by rw [IntKind.wrap_u64]; omega
        have e4 : IntKind.u64.wrap (id : Int) = (id : Int) := by rw [IntKind.wrap_u64]; omega
        have e5 : IntKind.u64.wrap (z : Int) = (z : Int) := by rw [IntKind.wrap_u64]; omega
        obtain ⟨w3, hw3⟩ : ∃ w3, w2.alloc (.cells #[.int .u64 (id : Int), .int .u64 (z : Int)] 47) = w3 := ⟨_, rfl⟩
        obtain ⟨q, hq⟩ : ∃ q, w2.heap.size = q := ⟨_, rfl⟩
        have hrd3 : Rd w3 (some ⟨q, 0, none⟩) 2 ([id, z].map numc) := by rw [← hw3]; exact Rd.cells hq.symm [.int .u64 (id : Int), .int .u64 (z : Int)] _
        have hall := All_any (some ⟨q, 0, none⟩) 2 2 [id, z] w3 hrd3 (by intro y hy; simp at hy; omega) (by omega)
        have HFR3 : Hid (Fr (fun _ => False) wr w3) := Lib.hid (by rw [← hw3]; exact HFR2.out.alloc _)
        obtain ⟨C, hC⟩ : ∃ C, C = u id ++ u z := ⟨_, rfl⟩
        rw [show [id, z].flatMap u = C by rw [hC]; simp] at hall
        have hCl : 0 < C.length ∧ C.length ≤ 20 := by
          have g1 := u_len10 (show id < 18446744073709551616 by omega)
          have g2 := u_len10 (show z < 18446744073709551616 by omega)
          have g3 := u_pos id
          rw [hC, List.length_append]
          omega
        have HC := Lib.hid hC
        have HALL := Lib.hid hall
        have HCl := Lib.hid hCl
        have HZ0 : Hid (0 < z) := Lib.hid (by omega)
        clear hrd3 hall hC hCl hz0
        have HR3 : Hid (Row w3 p 45 [.int .i64 (id : Int), .slice x.A z x.c]) := Lib.hid (by rw [← hw3]; exact HR2.out.alloc _)
        go_wp2_with fail
        refine HALL.out.mono ?_
        rintro e w4 ⟨A4, c4, rfl, ho4, hf4⟩
        have HFR4 := Lib.hid (HFR3.out.trans hf4 (fun _ _ h => h))
        have HO4 := Lib.hid ho4
        have HR4 := Lib.hid (HR3.out.fr hf4 (fun h => h))
        clear ho4 hf4 k0 k1 hw3 hq
        obtain ⟨P2, hP2⟩ : ∃ P2, P2 = P ++ C := ⟨_, rfl⟩
        have hP2l : P2.length ≤ 20 * (k + 1) := by rw [hP2, List.length_append]; have := HCl.out; omega
        have HP2 := Lib.hid hP2
        have HO14 := Lib.hid (HO1.out.fr HFR4.out)
        have HO24 := Lib.hid (HO2.out.fr HFR4.out)
        have HBW : Hid (base ≤ w4.heap.size) := Lib.hid (by have h1 := HB.out; have h2 := HF.out.size; have h3 := HFR4.out.size; omega)
        clear hP2
        go_wp2_with (at_builtin; refine wpList_appB w4 rfl _ _ rfl base A1 c1 P rfl HO14.out A4 C.length c4 C rfl HO4.out.rd HCl.out.1 P2 HP2.out (by omega) HBW.out ?_)
        intro A5 c5 w5 ho5 hf5 hg5
        have HO5 := Lib.hid ho5
        have HO25 : Hid (Own w5 base A2 c2 D) := Lib.hid (hf5.own HO24.out (fun b hb e => HAP.out b e hb))
        have HAP5 : Hid (Apart (.slice A5 P2.length c5) (.slice A2 D.length c2)) := Lib.hid (HAP.out.grow (fun k hk => (HO24.out.lt k hk).2) hg5)
        have HR5 := Lib.hid (HR4.out.fr hf5 (fun h => by have h1 := (HO1.out.lt _ h).2; have := HPP.out; omega))
        have HF5 : Hid (Fr (fun _ => False) w w5) := Lib.hid ((HF.out.trans HFR4.out (fun _ _ h => h)).trans hf5 (fun b hb h => by have h1 := (HO14.out.lt _ h).1; have := HB.out; omega))
        clear ho5 hf5 hg5
        have hby5 := HBY.out.1.fr HF5.out (fun _ _ h => h)
        rw [HZ.out] at hby5
        have HBY5 := Lib.hid hby5
        obtain ⟨D2, hD2⟩ : ∃ D2, D2 = D ++ x.B := ⟨_, rfl⟩
        have hD2l : D2.length ≤ 1000000 * (k + 1) := by rw [hD2, List.length_append, HZ.out]; omega
        have HD2 := Lib.hid hD2
        have HBW5 : Hid (base ≤ w5.heap.size) := Lib.hid (by have h1 := HB.out; have h2 := HF5.out.size; omega)
        have k1 : w5.cell? ⟨p, 1, none⟩ = some (.slice x.A z x.c) := HR5.out.cell rfl
        clear hD2 hby5
        go_wp2_with (at_builtin; refine wpList_appB w5 rfl _ _ rfl base A2 c2 D rfl HO25.out x.A z x.c x.B rfl HBY5.out HZ0.out D2 HD2.out (by omega) HBW5.out ?_)
        intro A6 c6 w6 ho6 hf6 hg6
        have HO6 := Lib.hid ho6
        have HO56 : Hid (Own w6 base A5 c5 P2) := Lib.hid (hf6.own HO5.out (fun b hb e => HAP5.out b hb e))
        have HAP6 : Hid (Apart (.slice A5 P2.length c5) (.slice A6 D2.length c6)) := Lib.hid ((HAP5.out.symm.grow (fun k hk => (HO5.out.lt k hk).2) hg6).symm)
        have HF6 : Hid (Fr (fun _ => False) w w6) := Lib.hid (HF5.out.trans hf6 (fun b hb h => by have h1 := (HO25.out.lt _ h).1; have := HB.out; omega))
        clear ho6 hf6 hg6 k1
        go_wp2_with fail
        go_roundw
        case rel =>
          refine ⟨k + 1, m + 1, P2, D2, A5, A6, c5, c6, by omega, by go_num, by rfl, by omega, by rfl, by rfl, hP2l, hD2l, ?_, ?_, ?_, HO56, HO6, HAP6, HF6⟩
          · exact Lib.hid (by rw [HFS1.out, List.length_append, ← HM.out]; rfl)
          · exact Lib.hid (by rw [HFS1.out, headC_snoc, ← HP.out, HP2.out, HC.out]; show _ = P ++ (u x.id ++ u x.B.length); rw [HIE.out, HZ.out])
          · exact Lib.hid (by rw [HFS1.out, dataC_snoc, ← HD.out, HD2.out]; rfl)
        case measure => simp [intOf]; omega
    · obtain rfl : k = n := by omega
      have hall : L.take k = L := List.take_of_length_le (by have := HLN.out; omega)
      rw [hall] at HM HP HD
      have hmu := U_any m wr (by omega)
      have HMU := Lib.hid hmu
      have hml := u_len10 (show m < 18446744073709551616 by omega)
      clear hall hmu
      go_wp2_with fail
      refine HMU.out.mono ?_
      rintro e w2 ⟨A3, c3, rfl, ho3, hf3⟩
      obtain ⟨B3, hB3⟩ : ∃ B3, B3 = u m := ⟨_, rfl⟩
      rw [← hB3] at ho3 hml ⊢
      have HB3 := Lib.hid hB3
      have HO3 := Lib.hid ho3
      have HO12 := Lib.hid (HO1.out.fr hf3)
      have HO22 := Lib.hid (HO2.out.fr hf3)
      have HF2 := Lib.hid (HF.out.trans hf3 (fun _ _ h => h))
      clear hB3 ho3 hf3
      obtain ⟨w4, hw4⟩ : ∃ w4, w2.alloc (.cells #[.slice A3 B3.length c3, .slice A1 P.length c1, .slice A2 D.length c2] 22) = w4 := ⟨_, rfl⟩
      obtain ⟨q, hq⟩ : ∃ q, w2.heap.size = q := ⟨_, rfl⟩
      have hfa : Fr (fun _ => False) w2 w4 := by rw [← hw4]; exact (Fr.refl _ _).alloc _
      have hrd : Rd w4 (some ⟨q, 0, none⟩) 3 (([⟨0, A3, c3, B3⟩, ⟨0, A1, c1, P⟩, ⟨0, A2, c2, D⟩] : List Cl).map dac) := by rw [← hw4]; exact Rd.cells hq.symm [.slice A3 B3.length c3, .slice A1 P.length c1, .slice A2 D.length c2] _
      have hcc := concat_any (some ⟨q, 0, none⟩) 3 3 [⟨0, A3, c3, B3⟩, ⟨0, A1, c1, P⟩, ⟨0, A2, c2, D⟩] w4 hrd (by
        intro y hy
        simp at hy
        rcases hy with rfl | rfl | rfl
        · exact (HO3.out.fr hfa).rd
        · exact (HO12.out.fr hfa).rd
        · exact (HO22.out.fr hfa).rd) (by show B3.length + (P.length + (D.length + 0)) ≤ _; omega) (by omega)
      have hce : catB [⟨0, A3, c3, B3⟩, ⟨0, A1, c1, P⟩, ⟨0, A2, c2, D⟩] = putC (L.map Cl.v) := by
        show B3 ++ (P ++ (D ++ [])) = _
        unfold putC
        rw [← HM.out, ← HP.out, ← HD.out, ← HB3.out, List.append_nil]
      rw [hce] at hcc
      have HCC := Lib.hid hcc
      have HFA := Lib.hid (HF2.out.trans hfa (fun _ _ h => h))
      clear hrd hcc hfa hce
      go_wp2_with fail
      refine HCC.out.mono ?_
      rintro e w5 ⟨A6, c6, rfl, ho6, hf6⟩
      have HO6 := Lib.hid (ho6.base (by have h1 := HB.out; have h2 := HFA.out.size; omega : base ≤ w4.heap.size))
      have HF6 := Lib.hid (HFA.out.trans hf6 (fun _ _ h => h))
      clear ho6 hf6 hw4 hq
      go_wp2_with fail
      go_ret
      exact ⟨A6, c6, rfl, HO6.out, HF6.out⟩
end Go.Proofs.Ytfgjneodhmfknaa
