/-
  Contract of layer 6's reference: Press (written by gen_press.py).
  Tokens of a row of one's own, read as tokens.
  Layer 8's reference: trim, order.
  Layer 5: what a function that answers lengths by weights keeps.
  Layer 8: a block that holds numbers.
-/
import Derived.Test.YtahfmcdhcbfkaaaGreatDoorLzC
import Derived.Test.YtahfmcdhcbfkaaaGreatDoorZm08
import Derived.Test.YtahfmcdhcbfkaaaGreatDoorZm00
import Derived.Test.YtahfmcdhcbfkaaaGreatDoorHuffB
import Derived.Test.YtahfmcdhcbfkaaaGreatDoorZm02
import Derived.Test.YtahfmcdhcbfkaaaGreatDoorZm04
namespace Go.Proofs.YtahfmcdhcbfkaaaGreatDoor
open Go.RowKit LzM Mem Go.Lib
set_option linter.unusedVariables false

theorem tokT : ElemTyS Tryz.prog 32 58 (.agg #[.int .u8 0, .int .i64 0, .int .i64 0]) 3 24 := ⟨Tryz.underlying32, by kernel_rfl, rfl, by decide⟩
theorem tcells_one (t : Tok) : ∀ u ∈ tcells t, u.oneCell' = true := by
  intro u hu
  simp [tcells] at hu
  rcases hu with rfl | rfl | rfl <;> rfl
theorem flat_len (l : List Tok) : (l.flatMap tcells).length = l.length * 3 := by
  induction l with
  | nil => rfl
  | cons x l ih => rw [List.flatMap_cons, List.length_append, ih]; simp [tcells]; omega
/-- a slice of one's own holds these tokens -/
def OwnT (w : World) (base : Nat) (A : Option Addr) (c : Nat) (T : List Tok) : Prop := w.ownsRow base 58 3 (.slice A T.length c) T.length (T.flatMap tcells)
theorem OwnT.nil (w : World) (base : Nat) : OwnT w base none 0 [] := World.ownsRow_nil _ _ _ _
theorem OwnT.fr {w w' : World} {base c : Nat} {A : Option Addr} {T : List Tok} (h : OwnT w base A c T) (hf : Fr (fun _ => False) w w') : OwnT w' base A c T := hf.own h (fun _ _ h => h)
theorem OwnT.base {w : World} {b b' c : Nat} {A : Option Addr} {T : List Tok} (h : OwnT w b A c T) (hb : b' ≤ b) : OwnT w b' A c T := own_base h hb
theorem OwnT.cap {w : World} {base c : Nat} {A : Option Addr} {T : List Tok} (h : OwnT w base A c T) : T.length ≤ c ∧ c ≤ maxLen := ⟨(own_cap h).2.1, (own_cap h).2.2⟩
theorem new_cells {w : World} {k : Nat} (hk : k = w.heap.size) (xs : List Value) (t : TypeId) : ∀ j x, xs[j]? = some x → (w.alloc (.cells xs.toArray t)).cell? ((⟨k, 0, none⟩ : Addr).add j) = some x := by
  subst hk
  intro j x hx
  have hl : 0 < xs.length := by have := (List.getElem?_eq_some_iff.1 hx).1; omega
  obtain ⟨ad, e, h⟩ := (Rd.cells rfl xs t).2 hl
  injection e with e
  subst e
  exact h j x hx
theorem best_step {B : List UInt8} {i d a b : Nat} (hd : 1 ≤ d) (h : (a, b) = best B i (d - 1)) : best B i d = if a < len B i d then (len B i d, d) else (a, b) := by
  obtain ⟨k, rfl⟩ : ∃ k, d = k + 1 := ⟨d - 1, by omega⟩
  rw [Nat.add_sub_cancel] at h
  rw [best, ← h]

set_option maxRecDepth 100000 in
set_option maxHeartbeats 3200000 in
theorem rPress_any (A : Option Addr) (n c : Nat) (B : List UInt8) (w : World) (hB : Rd w A n (B.map bytec)) (hn : n ≤ 1000000) :
    Calls Tryz.prog 20 #[.slice A n c] w fun e w' => ∃ A' c', e = .returned (.slice A' (press B).length c') ∧ OwnT w' w.heap.size A' c' (press B) ∧ Fr (fun _ => False) w w' := by
  have hln : B.length = n := by simpa using hB.1
  have HR := Lib.hid hB
  have HLN := Lib.hid hln
  clear hB hln
  obtain ⟨base, hbase⟩ : ∃ base, base = w.heap.size := ⟨_, rfl⟩
  have HB := Lib.hid hbase
  rw [← hbase]
  clear hbase
  obtain ⟨R, hR⟩ : ∃ R, R = press B := ⟨_, rfl⟩
  rw [← hR]
  have HRR := Lib.hid hR
  clear hR
  go_enter Tryz.func20, Tryz.ntmps20
  go_wp2
  go_loopw [3, 4] (fun s i wr => ∃ (k : Nat) (O : List Tok) (A1 : Option Addr) (c1 : Nat), k ≤ n ∧ i = .int .i64 (k : Int) ∧ s = .slice A1 O.length c1 ∧ Hid (OwnT wr base A1 c1 O) ∧ O.length ≤ k ∧ Hid (O ++ pressF B (n - k) k = R) ∧ Hid (Fr (fun _ => False) w wr)) (fun _ i _ => n - (intOf i).toNat)
  case atStart => exact ⟨0, [], none, 0, Nat.zero_le _, rfl, rfl, World.ownsRow_nil _ _ _ _, by simp, by rw [HRR.out, press, HLN.out]; rfl, Fr.refl _ _⟩
  case round =>
    obtain ⟨i, O, A1, c1, hk, rfl, rfl, HO, hol, HE, HF⟩ := hrel
    rename World => wr
    by_cases hlt : i < n
    · have HRr := Lib.hid (HR.out.fr HF.out (fun _ _ h => h))
      go_wp2_with fail
      go_loopw [5, 6, 7] (fun l e x wx => ∃ (d a b : Nat), 1 ≤ d ∧ d ≤ min i 32768 + 1 ∧ x = .int .i64 (d : Int) ∧ l = .int .i64 (a : Int) ∧ e = .int .i64 (b : Int) ∧ a ≤ 258 ∧ b ≤ 32768 ∧ Hid ((a, b) = best B i (d - 1)) ∧ Hid (Fr (fun _ => False) wr wx)) (fun _ _ x _ => 32769 - (intOf x).toNat)
      case atStart => exact ⟨1, 0, 0, by omega, by omega, rfl, rfl, rfl, by omega, by omega, rfl, Fr.refl _ _⟩
      case round =>
        obtain ⟨d, a, b, hd1, hd2, rfl, rfl, rfl, ha, hb, Hab, HF2⟩ := hrel
        by_cases hdl : d ≤ i ∧ d ≤ 32768
        · obtain ⟨hd3, hd4⟩ := hdl
          have HRx := Lib.hid (HRr.out.fr HF2.out (fun _ _ h => h))
          go_wp2_with fail
          refine len_loop _ _ _ _ _ _ _ _ _ _ _ _ _ _ _ _ _ _ _ _ _ _ _ _ _ _ _ _ _ _ _ _ _ _ _ _ _ _ _ _ _ _ _ _ _ _ _ _ _ _ _ _ _ _ _ _ _ _ _ _ _ _ _ _ _ _ _ _ _ _ _ _ _ _ _ A n c i d B _ HRx HLN hn hlt hd1 hd3 ?_
          intro w5 r22 r23 r24 r25 r26 r27 r28 r29 r30 r31 r32 r33 r34 r35 r36 r37 r38 r39 r40 r41 r42 r43 r44 r45 r46 r47 r48 r49 r50 hf5
          have HF5 := Lib.hid (HF2.out.trans hf5 (fun _ _ h => h))
          clear hf5
          obtain ⟨m, hm⟩ : ∃ m, m = len B i d := ⟨_, rfl⟩
          have hm258 : m ≤ 258 := by rw [hm]; exact len_le B i d
          rw [← hm]
          have HM := Lib.hid hm
          clear hm
          by_cases hc : a < m
          · have hbest : (m, d) = best B i (d + 1 - 1) := by rw [Nat.add_sub_cancel, best_step hd1 Hab.out, ← HM.out, if_pos hc]
            have HBS := Lib.hid hbest
            clear hbest
            go_wp2_with fail
            exact ⟨⟨d + 1, m, d, by omega, by omega, by go_num, rfl, rfl, by omega, by omega, HBS.out, HF5.out⟩, by simp [intOf]; omega⟩
          · have hbest : (a, b) = best B i (d + 1 - 1) := by rw [Nat.add_sub_cancel, best_step hd1 Hab.out, ← HM.out, if_neg hc]
            have HBS := Lib.hid hbest
            clear hbest
            go_wp2_with fail
            exact ⟨⟨d + 1, a, b, by omega, by omega, by go_num, rfl, rfl, by omega, by omega, HBS.out, HF5.out⟩, by simp [intOf]; omega⟩
        · have hfind : find B i = (a, b) := by
            have e : min i 32768 = d - 1 := by omega
            unfold find
            rw [e]
            exact Hab.out.symm
          rename World => wx
          have HFx := Lib.hid (HF.out.trans HF2.out (fun _ _ h => h))
          have HOx := Lib.hid (HO.out.fr HF2.out)
          have hbx : base ≤ wx.heap.size := by have := HB.out; have := HFx.out.size; omega
          have hrd := HRr.out.fr HF2.out (fun _ _ h => h)
          obtain ⟨ad, u1, rfl, hu1, hc1⟩ := hrd.at_ (k := i) hlt
          obtain ⟨b1, hb1⟩ : ∃ b1, b1 = B[i]! := ⟨_, rfl⟩
          have hin' : i < B.length := by rw [HLN.out]; exact hlt
          have e1 : u1 = bytec b1 := by
            rw [List.getElem?_map, List.getElem?_eq_getElem hin'] at hu1
            rw [hb1, getElem!_pos B i hin']
            exact (Option.some.inj hu1).symm
          subst e1
          have hp := HE.out
          obtain ⟨f, hf⟩ : ∃ f, n - i = f + 1 := ⟨n - i - 1, by omega⟩
          rw [hf, pressF, if_pos hin', hfind, ← hb1] at hp
          have hbi := best_in B i (Nat.le_of_lt hin') (min i 32768)
          have hfd : best B i (min i 32768) = (a, b) := hfind
          rw [hfd, HLN.out] at hbi
          unfold bytec at hc1
          obtain ⟨O2, hO2⟩ : ∃ O2, O2 = O ++ [if a < 3 then lit b1 else mat a b] := ⟨_, rfl⟩
          have hO2l : O2.length = O.length + 1 := by rw [hO2]; simp
          have hol2 : O2.length ≤ 1000001 := by omega
          clear hu1 hrd hin' hb1 hfind hfd Hab
          have HN2 := Lib.hid (And.intro hO2 hO2l)
          have hmN : O2.length ≤ i + 1 := by omega
          have HMN := Lib.hid hmN
          have HHF := Lib.hid hf
          have HBI := Lib.hid hbi
          have HHP := Lib.hid hp
          clear hO2 hO2l hmN hf hbi hp
          by_cases h3 : a < 3
          · have hN := HN2.out.1
            rw [if_pos h3] at hN
            have HNN := Lib.hid hN
            have hp := HHP.out
            rw [if_pos h3] at hp
            have HHP2 := Lib.hid hp
            clear hN hp
            go_wp2_with (at_builtin; refine wpList_appS tokT _ rfl _ _ rfl base _ O.length (O.flatMap tcells) rfl (HOx.out.alloc _) ⟨wx.heap.size, 0, none⟩ 1 (tcells (lit b1)) rfl rfl (new_cells rfl _ _) (tcells_one _) O2.length (by rw [HN2.out.2]) (by unfold maxLen; omega) (by omega) (by simp; omega) ?_)
            all_goals
              intro A' c' w' hown' hcc hfr'
              have HO4 : Hid (OwnT w' base A' c' O2) := by
                show w'.ownsRow base _ 3 _ _ (O2.flatMap tcells)
                have e : O2.flatMap tcells = O.flatMap tcells ++ tcells (lit b1) := by rw [HNN.out, List.flatMap_append]; simp
                rw [e]
                exact hown'
              have HF4 : Hid (Fr (fun _ => False) w w') := (HFx.out.alloc _).trans hfr' (fun b hb h => by have := HOx.out.lt _ h; have := HB.out; omega)
              have HE4 : Hid (O2 ++ pressF B (n - (i + 1)) (i + 1) = R) := by
                rw [HNN.out, List.append_assoc, show n - (i + 1) = f by have := HHF.out; omega]
                exact HHP2.out
              clear hown' hfr'
              go_wp2_with fail
              exact ⟨⟨i + 1, O2, A', c', by omega, by go_num, rfl, HO4.out, by have := HMN.out; omega, HE4.out, HF4.out⟩, by simp [intOf]; omega⟩
          · have hN := HN2.out.1
            rw [if_neg h3] at hN
            have HNN := Lib.hid hN
            have hp := HHP.out
            rw [if_neg h3] at hp
            have HHP2 := Lib.hid hp
            clear hN hp
            go_wp2_with (at_builtin; refine wpList_appS tokT _ rfl _ _ rfl base _ O.length (O.flatMap tcells) rfl (HOx.out.alloc _) ⟨wx.heap.size, 0, none⟩ 1 (tcells (mat a b)) rfl rfl (new_cells rfl _ _) (tcells_one _) O2.length (by rw [HN2.out.2]) (by unfold maxLen; omega) (by omega) (by simp; omega) ?_)
            all_goals
              intro A' c' w' hown' hcc hfr'
              have HO4 : Hid (OwnT w' base A' c' O2) := by
                show w'.ownsRow base _ 3 _ _ (O2.flatMap tcells)
                have e : O2.flatMap tcells = O.flatMap tcells ++ tcells (mat a b) := by rw [HNN.out, List.flatMap_append]; simp
                rw [e]
                exact hown'
              have HF4 : Hid (Fr (fun _ => False) w w') := (HFx.out.alloc _).trans hfr' (fun b hb h => by have := HOx.out.lt _ h; have := HB.out; omega)
              have HE4 : Hid (O2 ++ pressF B (n - (i + a)) (i + a) = R) := by
                have hm := pressF_more B (n - (i + a)) (i + a) (by have := HLN.out; have := HBI.out; omega) (a - 1)
                rw [HNN.out, List.append_assoc, ← hm, show n - (i + a) + (a - 1) = f by have := HHF.out; have := HBI.out; omega]
                exact HHP2.out
              have hbi := HBI.out
              clear hown' hfr'
              go_wp2_with fail
              exact ⟨⟨i + a, O2, A', c', by omega, by go_num, rfl, HO4.out, by have := HMN.out; omega, HE4.out, HF4.out⟩, by simp [intOf]; omega⟩
    · obtain rfl : i = n := by omega
      have hr : O = R := by have h := HE.out; rw [Nat.sub_self] at h; simpa [pressF] using h
      subst hr
      go_wp2_with fail
      go_ret
      exact ⟨A1, c1, rfl, HO.out, HF.out⟩
end Go.Proofs.YtahfmcdhcbfkaaaGreatDoor
namespace Go.Proofs.YtahfmcdhcbfkaaaGreatDoor
open Go.RowKit LzM Mem Go.Lib

theorem flat_at : ∀ (T : List Tok) (k : Nat) (t : Tok), T[k]? = some t → ∀ j, j < 3 → (T.flatMap tcells)[k * 3 + j]? = (tcells t)[j]?
  | [], k, t, h, j, hj => by simp at h
  | s :: T, 0, t, h, j, hj => by
    simp at h
    subst h
    rw [List.flatMap_cons, List.getElem?_append_left (by simp [tcells]; omega), Nat.zero_mul, Nat.zero_add]
  | s :: T, k + 1, t, h, j, hj => by
    rw [List.flatMap_cons, List.getElem?_append_right (by simp [tcells]; omega)]
    have e : (k + 1) * 3 + j - (tcells s).length = k * 3 + j := by simp [tcells]; omega
    rw [e]
    exact flat_at T k t (by simpa using h) j hj
theorem OwnT.toks {w : World} {base c : Nat} {A : Option Addr} {T : List Tok} (h : OwnT w base A c T) : Toks w A T.length T := by
  refine ⟨rfl, fun k t ht => ?_⟩
  have hk := (List.getElem?_eq_some_iff.1 ht).1
  rcases h.2 with ⟨hv, h0⟩ | ⟨g, cap, cur, hv, _⟩
  · injection hv with _ h1 h2
    omega
  · have hA : A = some ⟨g, 0, none⟩ := by injection hv
    subst hA
    have hc := h.cells (g := g) rfl
    have hadd : ∀ j, (⟨g, 0, none⟩ : Addr).add j = ⟨g, j, none⟩ := fun j => by unfold Addr.add; split <;> simp_all
    refine ⟨g, 0, rfl, (h.lt g rfl).2, ?_, ?_, ?_⟩
    · rw [← hadd]; exact hc _ _ (by have := flat_at T k t ht 0 (by omega); simpa [tcells] using this)
    · rw [Nat.add_assoc, Nat.zero_add, ← hadd]; exact hc _ _ (by have := flat_at T k t ht 1 (by omega); simpa [tcells] using this)
    · rw [Nat.add_assoc, Nat.zero_add, ← hadd]; exact hc _ _ (by have := flat_at T k t ht 2 (by omega); simpa [tcells] using this)
end Go.Proofs.YtahfmcdhcbfkaaaGreatDoor
namespace Go.Proofs.YtahfmcdhcbfkaaaGreatDoor
open Go.RowKit CoM Mem Go.Lib
attribute [local go_sem ↓] Go.wp_at_zero Go.wp_at_succ
set_option linter.unusedVariables false
set_option maxRecDepth 100000

set_option maxHeartbeats 3200000 in
theorem rTrim_any (A : Option Addr) (n c m : Nat) (L : List Nat) (w : World) (hr : Rd w A n (L.map natc)) (hc : n ≤ c) (hn : n ≤ 1000) (hm : m ≤ n) :
    Calls Tryz.prog 45 #[.slice A n c, .int .i64 (m : Int)] w fun e w' => ∃ A', e = .returned (.slice A' (trimL L m).length c) ∧ (trimL L m).length ≤ c ∧ Rd w' A' (trimL L m).length ((trimL L m).map natc) ∧ Fr (fun _ => False) w w' := by
  have hln : L.length = n := by simpa using hr.1
  have HR := Lib.hid hr
  have HLN := Lib.hid hln
  clear hr hln
  go_enter Tryz.func45, Tryz.ntmps45
  go_wp2_with fail
  go_loopw [5, 6] (fun s i wr => ∃ k t : Nat, m + k ≤ n ∧ t ≤ n ∧ Hid (t = trimN L m k) ∧ i = .int .i64 ((m + k : Nat) : Int) ∧ s = .int .i64 (t : Int) ∧ Hid (Fr (fun _ => False) w wr)) (fun _ i _ => n - (intOf i).toNat)
  case atStart => exact ⟨0, m, hm, hm, rfl, rfl, rfl, Fr.refl _ _⟩
  case round =>
    obtain ⟨k, t, hk, htn, HT, rfl, rfl, HF⟩ := hrel
    rename World => wr
    obtain ⟨i, hi⟩ : ∃ i, i = m + k := ⟨_, rfl⟩
    rw [← hi] at hk ⊢
    by_cases hlt : i < n
    · obtain ⟨ad, rfl, hc1⟩ := nat_cell (HR.out.fr HF.out (fun _ _ h => h)) hlt
      by_cases hv : L[i]! = 0
      · rw [hv] at hc1
        have HT2 : Hid (t = trimN L m (k + 1)) := Lib.hid (by rw [trimN, ← hi, if_pos hv]; exact HT.out)
        replace hc1 : wr.cell? (ad.add i) = some (.int .i64 0) := hc1
        have HI := Lib.hid hi
        clear hv hi
        go_wp2_with fail
        exact ⟨⟨k + 1, t, by have := HI.out; omega, htn, HT2.out, by have := HI.out; first | go_num | (congr 1; omega), rfl, HF.out⟩, by simp [intOf]; omega⟩
      · obtain ⟨v, hvv⟩ : ∃ v, v = L[i]! := ⟨_, rfl⟩
        rw [← hvv] at hc1 hv
        have HT2 : Hid (i + 1 = trimN L m (k + 1)) := Lib.hid (by rw [trimN, ← hi, ← hvv, if_neg hv])
        have t1 : ((v : Int) != 0) = true := by simp; omega
        have t2 : ((v : Int) == 0) = false := by simp; omega
        have HI := Lib.hid hi
        clear hvv hi
        go_wp2_with fail
        exact ⟨⟨k + 1, i + 1, by have := HI.out; omega, by omega, HT2.out, by have := HI.out; first | go_num | (congr 1; omega), by go_num, HF.out⟩, by simp [intOf]; omega⟩
    · have hin : i = n := by omega
      have hl : trimL L m = L.take t := by rw [trimL, HLN.out, HT.out, show n - m = k by omega]
      have hll : (L.take t).length = t := by rw [List.length_take]; have := HLN.out; omega
      have HCUT := Lib.hid (rd_take (HR.out.fr HF.out (fun _ _ h => h)) htn)
      have HL := Lib.hid hl
      have HLL := Lib.hid hll
      clear hl hll hi
      go_wp2_with fail
      all_goals go_ret
      all_goals (rw [HL.out, HLL.out])
      all_goals exact ⟨A, rfl, by omega, by rw [List.map_take]; exact HCUT.out, HF.out⟩

theorem rOrder_any (w : World) : Calls Tryz.prog 47 #[] w fun e w' => ∃ A c, e = .returned (.slice A 19 c) ∧ Rd w' A 19 (ord.map natc) ∧ Fr (fun _ => False) w w' := by
  go_enter Tryz.func47, Tryz.ntmps47
  go_wp2_with fail
  go_ret
  exact ⟨_, _, rfl, Rd.cells rfl (ord.map natc) _, (Fr.refl _ _).alloc _⟩
/-- .. in a new block -/
theorem rOrder_new (w : World) : Calls Tryz.prog 47 #[] w fun e w' => ∃ g c, e = .returned (.slice (some ⟨g, 0, none⟩) 19 c) ∧ w.heap.size ≤ g ∧ Rd w' (some ⟨g, 0, none⟩) 19 (ord.map natc) ∧ Fr (fun _ => False) w w' := by
  go_enter Tryz.func47, Tryz.ntmps47
  go_wp2_with fail
  go_ret
  exact ⟨_, _, rfl, Nat.le_refl _, Rd.cells rfl (ord.map natc) _, (Fr.refl _ _).alloc _⟩
end Go.Proofs.YtahfmcdhcbfkaaaGreatDoor
namespace Go.Proofs.YtahfmcdhcbfkaaaGreatDoor
open Go.RowKit HuffM Mem Go.Lib

/-- a function answers the lengths by weights -/
def LensC (f : FuncId) : Prop := ∀ (A : Option Addr) (n c m : Nat) (W : List Nat) (w : World), Rd w A n (W.map natc) → n ≤ c → n ≤ 1000 → (∀ ad, A = some ad → ad.block < w.heap.size) → (∀ x ∈ W, x ≤ 1073741824) → 1 ≤ m → m ≤ 15 → cnt W ≤ 2 ^ m →
    Calls Tryz.prog f #[.int .i64 (m : Int), .slice A n c] w fun e w' => ∃ A' c', e = .returned (.slice A' n c') ∧ n ≤ c' ∧ Rd w' A' n ((lens m W).map natc) ∧ Fr (fun _ => False) w w' ∧ ∀ ad, A' = some ad → ad.block < w'.heap.size
theorem natc_int (L : List Nat) : ∀ v ∈ L.map natc, ∃ x : Int, v = .int .i64 x := by
  intro v hv
  obtain ⟨x, _, rfl⟩ := List.mem_map.1 hv
  exact ⟨x, rfl⟩
end Go.Proofs.YtahfmcdhcbfkaaaGreatDoor
namespace Go.Proofs.YtahfmcdhcbfkaaaGreatDoor
open Go.RowKit Mem Go.Lib

/-- block g holds these numbers -/
def NR (w : World) (g : Nat) (L : List Nat) : Prop := Row w g 3 (L.map natc)
theorem NR.zeros (w : World) (m : Nat) : NR (w.alloc (.cells (Array.replicate m (.int .i64 0)) 3)) w.heap.size (List.replicate m 0) := by
  have h := Row.new w 3 (List.replicate m (Value.int .i64 0))
  rw [List.toArray_replicate] at h
  unfold NR
  rw [List.map_replicate]
  exact h
theorem NR.at_ {w : World} {g : Nat} {L : List Nat} (h : NR w g L) {i : Nat} (hi : i < L.length) : w.cell? ⟨g, i, none⟩ = some (.int .i64 ((L[i]! : Nat) : Int)) := by
  refine Row.cell h ?_
  rw [List.getElem?_map, List.getElem?_eq_getElem hi, getElem!_pos L i hi]
  rfl
theorem NR.set {w : World} {g : Nat} {L : List Nat} (h : NR w g L) (i x : Nat) : NR (w.setCell ⟨g, i, none⟩ (.int .i64 (x : Int))) g (L.set i x) := by
  have := Row.set h i (natc x)
  rw [← List.map_set] at this
  exact this
theorem NR.rd {w : World} {g : Nat} {L : List Nat} (h : NR w g L) : Rd w (some ⟨g, 0, none⟩) L.length (L.map natc) := by
  have := Row.rd h 0 L.length (by simp)
  rw [List.drop_zero, List.take_of_length_le (by simp)] at this
  exact this
theorem fill_next {k i x : Nat} (h : i < k) : (List.replicate i x ++ List.replicate (k - i) 0).set i x = List.replicate (i + 1) x ++ List.replicate (k - (i + 1)) 0 := by
  obtain ⟨r, hr⟩ : ∃ r, k - i = r + 1 := ⟨k - i - 1, by omega⟩
  rw [hr, List.set_append_right _ _ (by simp), List.length_replicate, Nat.sub_self, List.replicate_succ, List.set_cons_zero, List.replicate_succ', show k - (i + 1) = r by omega, List.append_assoc]
  rfl
end Go.Proofs.YtahfmcdhcbfkaaaGreatDoor
