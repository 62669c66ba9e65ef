/-
  The innermost loop of layer 6's reference Press, as a theorem of its own (written by gen_lenloop.py).
  Contract of layer 6's reference: Press (written by gen_press.py).
-/
import Derived.Test.YtahfmcdhcbfkaaaDoorZm06
import Derived.Test.YtahfmcdhcbfkaaaDoorZm09
import Derived.Deep.DrawnRows
import Derived.StillTailTactics
import Derived.Deep.QuietTactic
import Derived.BigQuiet
namespace Go.Proofs.YtahfmcdhcbfkaaaDoor
open Go.RowKit LzM Mem Go.Lib
attribute [local go_sem ↓] Go.wp_at_zero Go.wp_at_succ
set_option linter.unusedVariables false

set_option maxRecDepth 1000000 in
noncomputable def lenBody : Code := ((Tryd.f36.body.bind (loopAt 9)).getD .skip)

set_option maxRecDepth 1000000 in
set_option maxHeartbeats 3200000 in
theorem len_loop (Q0 : Exit → Act → World → Prop) (s1 s2 s3 s5 s6 s9 s10 s11 s12 s13 s14 s15 s16 s17 s18 s19 s20 s21 s22 s23 s24 s25 s26 s27 s28 s29 s30 s31 s32 s33 s34 s35 s36 s37 s38 s39 s40 s41 s42 s43 s44 s45 s46 s47 s48 s49 s50 s51 s52 s53 s54 s55 s56 s57 s58 s59 s60 s61 s62 s63 s64 s65 s66 s67 s68 s69 s70 s71 s72 s73 s74 s75 s76 s77 : Value) (A : Option Addr) (n c i d : Nat) (B : List UInt8) (wc : World)
    (HR : Hid (Rd wc A n (B.map bytec))) (HLN : Hid (B.length = n)) (hn : n ≤ 1000000) (hi : i < n) (hd1 : 1 ≤ d) (hd2 : d ≤ i)
    (hexit : ∀ (w'' : World) (r22 r23 r24 r25 r26 r27 r28 r29 r30 r31 r32 r33 r34 r35 r36 r37 r38 r39 r40 r41 r42 r43 r44 r45 r46 r47 r48 r49 r50 : Value), Fr (fun _ => False) wc w'' → Q0 (.exit 4) ⟨List.toArray (.slice A n c :: s1 :: s2 :: s3 :: .int .i64 (i : Int) :: s5 :: s6 :: .int .i64 (d : Int) :: .int .i64 (len B i d : Nat) :: s9 :: s10 :: s11 :: s12 :: s13 :: s14 :: s15 :: s16 :: s17 :: s18 :: s19 :: s20 :: s21 :: r22 :: r23 :: r24 :: r25 :: r26 :: r27 :: r28 :: r29 :: r30 :: r31 :: r32 :: r33 :: r34 :: r35 :: r36 :: r37 :: r38 :: r39 :: r40 :: r41 :: r42 :: r43 :: r44 :: r45 :: r46 :: r47 :: r48 :: r49 :: r50 :: s51 :: s52 :: s53 :: s54 :: s55 :: s56 :: s57 :: s58 :: s59 :: s60 :: s61 :: s62 :: s63 :: s64 :: s65 :: s66 :: s67 :: s68 :: s69 :: s70 :: s71 :: s72 :: s73 :: s74 :: s75 :: s76 :: s77 :: []), []⟩ w'') :
    Code.wp Tryd.prog (Code.loop lenBody) Q0 ⟨List.toArray (.slice A n c :: s1 :: s2 :: s3 :: .int .i64 (i : Int) :: s5 :: s6 :: .int .i64 (d : Int) :: .int .i64 0 :: s9 :: s10 :: s11 :: s12 :: s13 :: s14 :: s15 :: s16 :: s17 :: s18 :: s19 :: s20 :: s21 :: s22 :: s23 :: s24 :: s25 :: s26 :: s27 :: s28 :: s29 :: s30 :: s31 :: s32 :: s33 :: s34 :: s35 :: s36 :: s37 :: s38 :: s39 :: s40 :: s41 :: s42 :: s43 :: s44 :: s45 :: s46 :: s47 :: s48 :: s49 :: s50 :: s51 :: s52 :: s53 :: s54 :: s55 :: s56 :: s57 :: s58 :: s59 :: s60 :: s61 :: s62 :: s63 :: s64 :: s65 :: s66 :: s67 :: s68 :: s69 :: s70 :: s71 :: s72 :: s73 :: s74 :: s75 :: s76 :: s77 :: []), []⟩ wc := by
  conv => arg 2; arg 1; whnf
  go_loopw [8] (fun x wx => ∃ m : Nat, m ≤ 258 ∧ x = .int .i64 (m : Int) ∧ Hid (same B i d (258 - m) m = len B i d) ∧ Hid (Fr (fun _ => False) wc wx)) (fun x _ => 258 - (intOf x).toNat)
  case atStart => exact ⟨0, by omega, rfl, rfl, Fr.refl _ _⟩
  case round =>
    obtain ⟨m, hm, rfl, Hs, HF3⟩ := hrel
    by_cases hm2 : m < 258
    · by_cases hin : i + m < n
      · have hrd := HR.out.fr HF3.out (fun _ _ h => h)
        obtain ⟨ad, u1, rfl, hu1, hc1⟩ := hrd.at_ (k := i + m) (by omega)
        obtain ⟨ad2, u2, hA2, hu2, hc2⟩ := hrd.at_ (k := i + m - d) (by omega)
        injection hA2 with hA2
        subst hA2
        obtain ⟨b1, hb1⟩ : ∃ b1, b1 = B[i + m]! := ⟨_, rfl⟩
        obtain ⟨b2, hb2⟩ : ∃ b2, b2 = B[i + m - d]! := ⟨_, rfl⟩
        have hin' : i + m < B.length := by rw [HLN.out]; exact hin
        have e1 : u1 = .int .u8 (b1.toNat : Int) := by
          rw [List.getElem?_map, List.getElem?_eq_getElem hin'] at hu1
          rw [hb1, getElem!_pos B (i + m) hin']
          exact (Option.some.inj hu1).symm
        have e2 : u2 = .int .u8 (b2.toNat : Int) := by
          rw [List.getElem?_map, List.getElem?_eq_getElem (by omega)] at hu2
          rw [hb2, getElem!_pos B (i + m - d) (by omega)]
          exact (Option.some.inj hu2).symm
        subst e1 e2
        obtain ⟨v, hv⟩ : ∃ v, v = decide (b1 = b2) := ⟨_, rfl⟩
        have tv : ((b1.toNat : Int) == (b2.toNat : Int)) = v := by
          rw [hv]
          by_cases e : b1 = b2
          · simp [e]
          · have : b1.toNat ≠ b2.toNat := fun h => e (UInt8.toNat_inj.1 h)
            simp [e]; omega
        have HV := Lib.hid (show v = decide (B[i + m]! = B[i + m - d]!) by rw [hv, hb1, hb2])
        obtain ⟨p, hp⟩ : ∃ p, p = i + m := ⟨_, rfl⟩
        obtain ⟨q, hq⟩ : ∃ q, q = i + m - d := ⟨_, rfl⟩
        rw [← hp] at hc1
        rw [← hq] at hc2
        have hpn : p < n := by omega
        have hqn : q < n := by omega
        have r1 : IntKind.i64.wrap ((i : Int) + (m : Int)) = (p : Int) := by rw [IntKind.wrap_i64]; omega
        have r2 : IntKind.i64.wrap ((p : Int) - (d : Int)) = (q : Int) := by rw [IntKind.wrap_i64]; omega
        have HP := Lib.hid hp
        have t1 : decide ((m : Int) < 258) = true := by simp; omega
        have t2 : decide ((p : Int) < (n : Int)) = true := by simp; omega
        clear hu1 hu2 hb1 hb2 hv hrd hin hin' hp hq
        go_wp2_with fail
        go_still (by kernel_rfl)
        change Exit.then _ _ _ _ wr.drew
        obtain ⟨w5, hw5⟩ : ∃ w5, w5 = wr.drew := ⟨_, rfl⟩
        rw [← hw5]
        have HF5 : Hid (Fr (fun _ => False) wc w5) := (by rw [hw5]; exact HF3.out.drew)
        clear hw5
        cases v with
        | true =>
          have hs2 : same B i d (258 - (m + 1)) (m + 1) = len B i d := by
            rw [← Hs.out, show 258 - m = (258 - (m + 1)) + 1 by omega]
            exact (same_step B i d _ m (by rw [HLN.out, ← HP.out]; exact hpn) (of_decide_eq_true HV.out.symm)).symm
          have HS2 := Lib.hid hs2
          clear hs2 tv hc1 hc2
          go_wp2_with fail
          go_roundw
          case rel => exact ⟨m + 1, by omega, by go_num, HS2.out, HF5.out⟩
          case measure => simp [intOf] <;> omega
        | false =>
          have hl : m = len B i d := by
            rw [← Hs.out, show 258 - m = (258 - (m + 1)) + 1 by omega]
            exact (same_stop B i d _ m (fun h => of_decide_eq_false HV.out.symm h.2)).symm
          clear tv hc1 hc2
          go_wp2_with fail
          rw [hl]
          exact hexit _ _ _ _ _ _ _ _ _ _ _ _ _ _ _ _ _ _ _ _ _ _ _ _ _ _ _ _ _ _ HF5.out
      · obtain ⟨p, hp⟩ : ∃ p, p = i + m := ⟨_, rfl⟩
        have r1 : IntKind.i64.wrap ((i : Int) + (m : Int)) = (p : Int) := by rw [IntKind.wrap_i64]; omega
        have t1 : decide ((m : Int) < 258) = true := by simp; omega
        have t2 : decide ((p : Int) < (n : Int)) = false := by simp; omega
        have t3 : decide (p < n) = false := by simp; omega
        have hl : m = len B i d := by
          rw [← Hs.out, show 258 - m = (258 - (m + 1)) + 1 by omega]
          exact (same_stop B i d _ m (fun h => hin (by rw [← HLN.out]; exact h.1))).symm
        have HL := Lib.hid hl
        clear hl hp hin
        go_wp2_with fail
        go_quiet (fail)
        have HF5 := Lib.hid (HF3.out.drewN nq)
        go_wp2_with fail
        rw [HL.out]
        exact hexit _ _ _ _ _ _ _ _ _ _ _ _ _ _ _ _ _ _ _ _ _ _ _ _ _ _ _ _ _ _ HF5.out
    · obtain rfl : m = 258 := by omega
      have hl : 258 = len B i d := by rw [← Hs.out]; rfl
      have HL := Lib.hid hl
      clear hl
      go_wp2_with fail
      go_quiet (fail)
      have HF5 := Lib.hid (HF3.out.drewN nq)
      rw [← HL.out] at hexit
      go_wp2_with fail
      exact HF5.out
end Go.Proofs.YtahfmcdhcbfkaaaDoor
namespace Go.Proofs.YtahfmcdhcbfkaaaDoor
open Go.RowKit LzM Mem Go.Lib
set_option linter.unusedVariables false

theorem tokT : ElemTyS Tryd.prog 32 49 (.agg #[.int .u8 0, .int .i64 0, .int .i64 0]) 3 24 := ⟨Tryd.underlying32, by kernel_rfl, rfl, by decide⟩
theorem tcells_one (t : Tok) : ∀ u ∈ tcells t, u.oneCell' = true := by
  intro u hu
  simp [tcells] at hu
  rcases hu with rfl | rfl | rfl <;> rfl
theorem flat_len (l : List Tok) : (l.flatMap tcells).length = l.length * 3 := by
  induction l with
  | nil => rfl
  | cons x l ih => rw [List.flatMap_cons, List.length_append, ih]; simp [tcells]; omega
/-- a slice of one's own holds these tokens -/
def OwnT (w : World) (base : Nat) (A : Option Addr) (c : Nat) (T : List Tok) : Prop := w.ownsRow base 49 3 (.slice A T.length c) T.length (T.flatMap tcells)
theorem OwnT.nil (w : World) (base : Nat) : OwnT w base none 0 [] := World.ownsRow_nil _ _ _ _
theorem OwnT.fr {w w' : World} {base c : Nat} {A : Option Addr} {T : List Tok} (h : OwnT w base A c T) (hf : Fr (fun _ => False) w w') : OwnT w' base A c T := hf.own h (fun _ _ h => h)
theorem OwnT.base {w : World} {b b' c : Nat} {A : Option Addr} {T : List Tok} (h : OwnT w b A c T) (hb : b' ≤ b) : OwnT w b' A c T := own_base h hb
theorem OwnT.cap {w : World} {base c : Nat} {A : Option Addr} {T : List Tok} (h : OwnT w base A c T) : T.length ≤ c ∧ c ≤ maxLen := ⟨(own_cap h).2.1, (own_cap h).2.2⟩
theorem new_cells {w : World} {k : Nat} (hk : k = w.heap.size) (xs : List Value) (t : TypeId) : ∀ j x, xs[j]? = some x → (w.alloc (.cells xs.toArray t)).cell? ((⟨k, 0, none⟩ : Addr).add j) = some x := by
  subst hk
  intro j x hx
  have hl : 0 < xs.length := by have := (List.getElem?_eq_some_iff.1 hx).1; omega
  obtain ⟨ad, e, h⟩ := (Rd.cells rfl xs t).2 hl
  injection e with e
  subst e
  exact h j x hx
theorem best_step {B : List UInt8} {i d a b : Nat} (hd : 1 ≤ d) (h : (a, b) = best B i (d - 1)) : best B i d = if a < len B i d then (len B i d, d) else (a, b) := by
  obtain ⟨k, rfl⟩ : ∃ k, d = k + 1 := ⟨d - 1, by omega⟩
  rw [Nat.add_sub_cancel] at h
  rw [best, ← h]

set_option maxRecDepth 100000 in
set_option maxHeartbeats 3200000 in
theorem rPress_any (A : Option Addr) (n c : Nat) (B : List UInt8) (w : World) (hB : Rd w A n (B.map bytec)) (hn : n ≤ 1000000) :
    Calls Tryd.prog 36 #[.slice A n c] w fun e w' => ∃ A' c', e = .returned (.slice A' (press B).length c') ∧ OwnT w' w.heap.size A' c' (press B) ∧ Fr (fun _ => False) w w' := by
  have hln : B.length = n := by simpa using hB.1
  have HR := Lib.hid hB
  have HLN := Lib.hid hln
  clear hB hln
  obtain ⟨base, hbase⟩ : ∃ base, base = w.heap.size := ⟨_, rfl⟩
  have HB := Lib.hid hbase
  rw [← hbase]
  clear hbase
  obtain ⟨R, hR⟩ : ∃ R, R = press B := ⟨_, rfl⟩
  rw [← hR]
  have HRR := Lib.hid hR
  clear hR
  go_enter Tryd.func36, Tryd.ntmps36
  go_wp2
  go_loopw [3, 4] (fun s i wr => ∃ (k : Nat) (O : List Tok) (A1 : Option Addr) (c1 : Nat), k ≤ n ∧ i = .int .i64 (k : Int) ∧ s = .slice A1 O.length c1 ∧ Hid (OwnT wr base A1 c1 O) ∧ O.length ≤ k ∧ Hid (O ++ pressF B (n - k) k = R) ∧ Hid (Fr (fun _ => False) w wr)) (fun _ i _ => n - (intOf i).toNat)
  case atStart => exact ⟨0, [], none, 0, Nat.zero_le _, rfl, rfl, World.ownsRow_nil _ _ _ _, by simp, by rw [HRR.out, press, HLN.out]; rfl, Fr.refl _ _⟩
  case round =>
    obtain ⟨i, O, A1, c1, hk, rfl, rfl, HO, hol, HE, HF⟩ := hrel
    rename World => wr
    by_cases hlt : i < n
    · have HRr := Lib.hid (HR.out.fr HF.out (fun _ _ h => h))
      go_wp2_with fail
      go_loopw [5, 6, 7] (fun l e x wx => ∃ (d a b : Nat), 1 ≤ d ∧ d ≤ min i 32768 + 1 ∧ x = .int .i64 (d : Int) ∧ l = .int .i64 (a : Int) ∧ e = .int .i64 (b : Int) ∧ a ≤ 258 ∧ b ≤ 32768 ∧ Hid ((a, b) = best B i (d - 1)) ∧ Hid (Fr (fun _ => False) wr wx)) (fun _ _ x _ => 32769 - (intOf x).toNat)
      case atStart => exact ⟨1, 0, 0, by omega, by omega, rfl, rfl, rfl, by omega, by omega, rfl, Fr.refl _ _⟩
      case round =>
        obtain ⟨d, a, b, hd1, hd2, rfl, rfl, rfl, ha, hb, Hab, HF2⟩ := hrel
        by_cases hdl : d ≤ i ∧ d ≤ 32768
        · obtain ⟨hd3, hd4⟩ := hdl
          have HRx := Lib.hid (HRr.out.fr HF2.out (fun _ _ h => h))
          go_wp2_with fail
          refine len_loop _ _ _ _ _ _ _ _ _ _ _ _ _ _ _ _ _ _ _ _ _ _ _ _ _ _ _ _ _ _ _ _ _ _ _ _ _ _ _ _ _ _ _ _ _ _ _ _ _ _ _ _ _ _ _ _ _ _ _ _ _ _ _ _ _ _ _ _ _ _ _ _ _ _ _ A n c i d B _ HRx HLN hn hlt hd1 hd3 ?_
          intro w5 r22 r23 r24 r25 r26 r27 r28 r29 r30 r31 r32 r33 r34 r35 r36 r37 r38 r39 r40 r41 r42 r43 r44 r45 r46 r47 r48 r49 r50 hf5
          have HF5 := Lib.hid (HF2.out.trans hf5 (fun _ _ h => h))
          clear hf5
          obtain ⟨m, hm⟩ : ∃ m, m = len B i d := ⟨_, rfl⟩
          have hm258 : m ≤ 258 := by rw [hm]; exact len_le B i d
          rw [← hm]
          have HM := Lib.hid hm
          clear hm
          by_cases hc : a < m
          · have hbest : (m, d) = best B i (d + 1 - 1) := by rw [Nat.add_sub_cancel, best_step hd1 Hab.out, ← HM.out, if_pos hc]
            have HBS := Lib.hid hbest
            clear hbest
            go_wp2_with fail
            exact ⟨⟨d + 1, m, d, by omega, by omega, by go_num, rfl, rfl, by omega, by omega, HBS.out, HF5.out⟩, by simp [intOf]; omega⟩
          · have hbest : (a, b) = best B i (d + 1 - 1) := by rw [Nat.add_sub_cancel, best_step hd1 Hab.out, ← HM.out, if_neg hc]
            have HBS := Lib.hid hbest
            clear hbest
            go_wp2_with fail
            exact ⟨⟨d + 1, a, b, by omega, by omega, by go_num, rfl, rfl, by omega, by omega, HBS.out, HF5.out⟩, by simp [intOf]; omega⟩
        · have hfind : find B i = (a, b) := by
            have e : min i 32768 = d - 1 := by omega
            unfold find
            rw [e]
            exact Hab.out.symm
          rename World => wx
          have HFx := Lib.hid (HF.out.trans HF2.out (fun _ _ h => h))
          have HOx := Lib.hid (HO.out.fr HF2.out)
          have hbx : base ≤ wx.heap.size := by have := HB.out; have := HFx.out.size; omega
          have hrd := HRr.out.fr HF2.out (fun _ _ h => h)
          obtain ⟨ad, u1, rfl, hu1, hc1⟩ := hrd.at_ (k := i) hlt
          obtain ⟨b1, hb1⟩ : ∃ b1, b1 = B[i]! := ⟨_, rfl⟩
          have hin' : i < B.length := by rw [HLN.out]; exact hlt
          have e1 : u1 = bytec b1 := by
            rw [List.getElem?_map, List.getElem?_eq_getElem hin'] at hu1
            rw [hb1, getElem!_pos B i hin']
            exact (Option.some.inj hu1).symm
          subst e1
          have hp := HE.out
          obtain ⟨f, hf⟩ : ∃ f, n - i = f + 1 := ⟨n - i - 1, by omega⟩
          rw [hf, pressF, if_pos hin', hfind, ← hb1] at hp
          have hbi := best_in B i (Nat.le_of_lt hin') (min i 32768)
          have hfd : best B i (min i 32768) = (a, b) := hfind
          rw [hfd, HLN.out] at hbi
          unfold bytec at hc1
          obtain ⟨O2, hO2⟩ : ∃ O2, O2 = O ++ [if a < 3 then lit b1 else mat a b] := ⟨_, rfl⟩
          have hO2l : O2.length = O.length + 1 := by rw [hO2]; simp
          have hol2 : O2.length ≤ 1000001 := by omega
          clear hu1 hrd hin' hb1 hfind hfd Hab
          have HN2 := Lib.hid (And.intro hO2 hO2l)
          have hmN : O2.length ≤ i + 1 := by omega
          have HMN := Lib.hid hmN
          have HHF := Lib.hid hf
          have HBI := Lib.hid hbi
          have HHP := Lib.hid hp
          clear hO2 hO2l hmN hf hbi hp
          by_cases h3 : a < 3
          · have hN := HN2.out.1
            rw [if_pos h3] at hN
            have HNN := Lib.hid hN
            have hp := HHP.out
            rw [if_pos h3] at hp
            have HHP2 := Lib.hid hp
            clear hN hp
            go_wp2_with (at_builtin; refine wpList_appS tokT _ rfl _ _ rfl base _ O.length (O.flatMap tcells) rfl (HOx.out.alloc _) ⟨wx.heap.size, 0, none⟩ 1 (tcells (lit b1)) rfl rfl (new_cells rfl _ _) (tcells_one _) O2.length (by rw [HN2.out.2]) (by unfold maxLen; omega) (by omega) (by simp; omega) ?_)
            all_goals
              intro A' c' w' hown' hcc hfr'
              have HO4 : Hid (OwnT w' base A' c' O2) := by
                show w'.ownsRow base _ 3 _ _ (O2.flatMap tcells)
                have e : O2.flatMap tcells = O.flatMap tcells ++ tcells (lit b1) := by rw [HNN.out, List.flatMap_append]; simp
                rw [e]
                exact hown'
              have HF4 : Hid (Fr (fun _ => False) w w') := (HFx.out.alloc _).trans hfr' (fun b hb h => by have := HOx.out.lt _ h; have := HB.out; omega)
              have HE4 : Hid (O2 ++ pressF B (n - (i + 1)) (i + 1) = R) := by
                rw [HNN.out, List.append_assoc, show n - (i + 1) = f by have := HHF.out; omega]
                exact HHP2.out
              clear hown' hfr'
              go_wp2_with fail
              exact ⟨⟨i + 1, O2, A', c', by omega, by go_num, rfl, HO4.out, by have := HMN.out; omega, HE4.out, HF4.out⟩, by simp [intOf]; omega⟩
          · have hN := HN2.out.1
            rw [if_neg h3] at hN
            have HNN := Lib.hid hN
            have hp := HHP.out
            rw [if_neg h3] at hp
            have HHP2 := Lib.hid hp
            clear hN hp
            go_wp2_with (at_builtin; refine wpList_appS tokT _ rfl _ _ rfl base _ O.length (O.flatMap tcells) rfl (HOx.out.alloc _) ⟨wx.heap.size, 0, none⟩ 1 (tcells (mat a b)) rfl rfl (new_cells rfl _ _) (tcells_one _) O2.length (by rw [HN2.out.2]) (by unfold maxLen; omega) (by omega) (by simp; omega) ?_)
            all_goals
              intro A' c' w' hown' hcc hfr'
              have HO4 : Hid (OwnT w' base A' c' O2) := by
                show w'.ownsRow base _ 3 _ _ (O2.flatMap tcells)
                have e : O2.flatMap tcells = O.flatMap tcells ++ tcells (mat a b) := by rw [HNN.out, List.flatMap_append]; simp
                rw [e]
                exact hown'
              have HF4 : Hid (Fr (fun _ => False) w w') := (HFx.out.alloc _).trans hfr' (fun b hb h => by have := HOx.out.lt _ h; have := HB.out; omega)
              have HE4 : Hid (O2 ++ pressF B (n - (i + a)) (i + a) = R) := by
                have hm := pressF_more B (n - (i + a)) (i + a) (by have := HLN.out; have := HBI.out; omega) (a - 1)
                rw [HNN.out, List.append_assoc, ← hm, show n - (i + a) + (a - 1) = f by have := HHF.out; have := HBI.out; omega]
                exact HHP2.out
              have hbi := HBI.out
              clear hown' hfr'
              go_wp2_with fail
              exact ⟨⟨i + a, O2, A', c', by omega, by go_num, rfl, HO4.out, by have := HMN.out; omega, HE4.out, HF4.out⟩, by simp [intOf]; omega⟩
    · obtain rfl : i = n := by omega
      have hr : O = R := by have h := HE.out; rw [Nat.sub_self] at h; simpa [pressF] using h
      subst hr
      go_wp2_with fail
      go_ret
      exact ⟨A1, c1, rfl, HO.out, HF.out⟩
end Go.Proofs.YtahfmcdhcbfkaaaDoor
