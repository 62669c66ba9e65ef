/-
  Layer 8's program: Press.
  Layer 8's program: right, cut.
  Layer 8's program: weights, inOrder.
  Plain mathematics of a heap of nodes (weights, numbers): what sifting down, sifting up keep. Nothing of any program here.
  Plain mathematics of layer 5's lengths: the program's joins, told by numbers, are the reference's; depths, from the last join on, are how often a symbol was joined. Nothing of any program here.
-/
import Derived.Test.YtahfmcdhcbfkaaaGreatDoorCpD
import Derived.Test.YtahfmcdhcbfkaaaGreatDoorZm10
import Derived.Test.YtahfmcdhcbfkaaaGreatDoorZm23
import Derived.Test.YtahfmcdhcbfkaaaGreatDoorZm08
import Derived.Test.YtahfmcdhcbfkaaaGreatDoorZm15
import Derived.Test.YtahfmcdhcbfkaaaGreatDoorZm00
import Derived.Test.YtahfmcdhcbfkaaaGreatDoorZm04
import Derived.Test.YtahfmcdhcbfkaaaGreatDoorZm01
namespace Go.Proofs.YtahfmcdhcbfkaaaGreatDoor
open Go.RowKit CoM Mem Go.Lib
attribute [local go_sem ↓] Go.wp_at_zero Go.wp_at_succ
set_option linter.unusedVariables false

theorem itmT : ElemTyS Tryz.prog 95 125 (.agg #[.int .i64 0, .int .i64 0, .int .u64 0]) 3 24 := ⟨Tryz.underlying95, by kernel_rfl, rfl, by decide⟩

set_option maxRecDepth 100000 in
set_option maxHeartbeats 3200000 in
theorem pPress_own (A : Option Addr) (n c : Nat) (L : List Nat) (w : World) (hG : GlS w) (hr : Rd w A n (L.map natc)) (hc : n ≤ c) (hn : n ≤ 1000) (hL : ∀ x ∈ L, x ≤ 15) :
    Calls Tryz.prog 64 #[.slice A n c] w fun e w' => ∃ A' c', e = .returned (.slice A' (items L).length c') ∧ OwnIt w' w.heap.size 125 A' c' (items L) ∧ Fr (fun _ => False) w w' := by
  have hln : L.length = n := by simpa using hr.1
  have HRD := Lib.hid hr
  have HLN := Lib.hid hln
  have HLX := Lib.hid hL
  have HG := Lib.hid hG
  have HC := Lib.hid hc
  obtain ⟨base, hbase⟩ : ∃ base, base = w.heap.size := ⟨_, rfl⟩
  have HB := Lib.hid hbase
  rw [← hbase]
  obtain ⟨R, hR⟩ : ∃ R, R = items L := ⟨_, rfl⟩
  rw [← hR]
  have HRR := Lib.hid hR
  clear hr hln hbase hR hL hG hc
  go_enter Tryz.func64, Tryz.ntmps64
  go_wp2_with fail
  go_loopw [3, 4] (fun s i wr => ∃ (k : Nat) (O : List It) (A1 : Option Addr) (c1 : Nat), k ≤ n ∧ i = .int .i64 (k : Int) ∧ s = .slice A1 O.length c1 ∧ Hid (OwnIt wr base 125 A1 c1 O) ∧ O.length ≤ k ∧ Hid (O ++ pressI L (n - k) k = R) ∧ Hid (Fr (fun _ => False) w wr)) (fun _ i _ => n - (intOf i).toNat)
  case atStart => exact ⟨0, [], none, 0, Nat.zero_le _, rfl, rfl, World.ownsRow_nil _ _ _ _, by simp, by rw [HRR.out, items, HLN.out]; rfl, Fr.refl _ _⟩
  case round =>
    obtain ⟨i, O, A1, c1, hk, rfl, rfl, HO, hol, HE, HF⟩ := hrel
    rename World => wr
    by_cases hlt : i < n
    · have HRr := Lib.hid (HRD.out.fr HF.out (fun _ _ h => h))
      have hin : i < L.length := by rw [HLN.out]; exact hlt
      have hp := HE.out
      obtain ⟨f, hf⟩ : ∃ f, n - i = f + 1 := ⟨n - i - 1, by omega⟩
      rw [hf, pressI, if_pos hin] at hp
      have hz := item_pos L i hin
      obtain ⟨s, b, x, z, hit⟩ : ∃ s b x z, itemAt L i = (⟨s, b, x⟩, z) := ⟨_, _, _, _, rfl⟩
      have hch := choose_any A n c i L wr (HG.out.fr0 HF.out) HRr.out hlt HC.out hn (fun y hy => by have := HLX.out y hy; omega)
      rw [hit] at hp hz hch
      obtain ⟨hz1, hz2, hz3⟩ := hz
      rw [HLN.out] at hz2
      have HCH : Hid (Calls Tryz.prog 85 #[.slice A n c, .int .i64 (i : Int)] wr fun e w' => e = .returned (.tuple #[.agg #[.int .i64 (s : Int), .int .i64 (b : Int), .int .u64 (x : Int)], .int .i64 (z : Int)]) ∧ Fr (fun _ => False) wr w') := Lib.hid hch
      obtain ⟨O2, hO2⟩ : ∃ O2, O2 = O ++ [⟨s, b, x⟩] := ⟨_, rfl⟩
      have hO2l : O2.length = O.length + 1 := by rw [hO2]; simp
      have hE4 : O2 ++ pressI L (n - (i + z)) (i + z) = R := by
        have hm := pressI_more L (n - (i + z)) (i + z) (by have := HLN.out; omega) (z - 1)
        rw [hO2, List.append_assoc, ← hm, show n - (i + z) + (z - 1) = f by omega]
        exact hp
      have hmN : O2.length ≤ i + 1 := by omega
      have hol2 : O2.length ≤ 1001 := by omega
      have HN2 := Lib.hid (And.intro hO2 hO2l)
      have HE4 := Lib.hid hE4
      have HMN := Lib.hid hmN
      clear hf hp hit hch hO2 hO2l hE4 hmN hz3
      go_wp2_with (first
        | (refine HCH.out.mono ?_
           rintro e w2 ⟨rfl, hf2⟩
           have HF2 := Lib.hid (HF.out.trans hf2 (fun _ _ h => h))
           have HO3 := Lib.hid (HO.out.fr hf2)
           clear hf2)
        | (at_builtin; refine wpList_appS itmT _ rfl _ _ rfl base _ O.length (O.flatMap itc) rfl ((HO3.out.alloc _).alloc _) ⟨w2.heap.size + 1, 0, none⟩ 1 [.int .i64 (s : Int), .int .i64 (b : Int), .int .u64 (x : Int)] rfl rfl (cells_new8 (by simp) _ _) (it_one _ _ _) O2.length (by rw [HN2.out.2]) (by unfold maxLen; omega) (by omega) (by have h1 := HF2.out.size; have h2 := HB.out; simp; omega) ?_))
      all_goals
        intro A' c' w' hown' hcc hfr'
        have HO4 : Hid (OwnIt w' base 125 A' c' O2) := Lib.hid (by
          show w'.ownsRow base _ 3 _ _ (O2.flatMap itc)
          have e : O2.flatMap itc = O.flatMap itc ++ [.int .i64 (s : Int), .int .i64 (b : Int), .int .u64 (x : Int)] := by rw [HN2.out.1, flatI]; rfl
          rw [e]
          exact hown')
        have HF4 : Hid (Fr (fun _ => False) w w') := Lib.hid (((HF2.out.alloc _).alloc _).trans hfr' (fun b hb h => by have h1 := HO3.out.lt _ h; have h2 := HB.out; omega))
        clear hown' hfr'
        go_wp2_with fail
        exact ⟨⟨i + z, O2, A', c', by omega, by go_num, rfl, HO4.out, by have := HMN.out; omega, HE4.out, HF4.out⟩, by simp [intOf]; omega⟩
    · have hin : i = n := by omega
      have hr : O = R := by have h := HE.out; rw [hin, Nat.sub_self] at h; simpa [pressI] using h
      subst hr
      go_wp2_with fail
      go_ret
      exact ⟨A1, c1, rfl, HO.out, HF.out⟩
theorem pPress_any (w0 : World) (hG : GlS w0) : PressC w0 := by
  intro A n c L w hf hr hc hcm hn hL
  refine (pPress_own A n c L w (hG.fr0 hf) hr hc hn hL).mono ?_
  rintro e w' ⟨A', c', rfl, hO, hf'⟩
  exact ⟨A', c', rfl, hO.its, hf'⟩
end Go.Proofs.YtahfmcdhcbfkaaaGreatDoor
namespace Go.Proofs.YtahfmcdhcbfkaaaGreatDoor
open Go.RowKit CoM Mem Go.Lib
attribute [local go_sem ↓] Go.wp_at_zero Go.wp_at_succ
set_option linter.unusedVariables false
set_option maxRecDepth 100000

set_option maxHeartbeats 1600000 in
theorem pRight8_any (A : Option Addr) (n c a b : Nat) (L : List Nat) (w : World) (hr : Rd w A n (L.map natc)) (hL : ∀ x ∈ L, x ≤ 15) (ha : a ≤ n) (hb : n ≤ b) (hb2 : b ≤ 1000) :
    Calls Tryz.prog 62 #[.slice A n c, .int .i64 (a : Int), .int .i64 (b : Int)] w fun e w' => e = .returned (.bool true) ∧ w = w' := by
  have hln : L.length = n := by simpa using hr.1
  have HR := Lib.hid hr
  have HLN := Lib.hid hln
  have HLX := Lib.hid hL
  have t1 : decide ((n : Int) ≥ (a : Int)) = true := by simp; omega
  have t2 : decide ((a : Int) ≤ (n : Int)) = true := by simp; omega
  have t3 : decide ((n : Int) ≤ (b : Int)) = true := by simp; omega
  have t1q : decide (a ≤ n) = true := by simp; omega
  have t3q : decide (n ≤ b) = true := by simp; omega
  clear hr hln hL
  go_enter Tryz.func62, Tryz.ntmps62
  go_wp2_with fail
  go_loop [11] (fun i => ∃ k : Nat, k ≤ n ∧ i = .int .i64 (k : Int)) (fun i => n - (intOf i).toNat)
  case atStart => exact ⟨0, Nat.zero_le _, rfl⟩
  case round =>
    obtain ⟨k, hk, rfl⟩ := hrel
    by_cases hlt : k < n
    · obtain ⟨ad, rfl, hc1⟩ := nat_cell HR.out hlt
      obtain ⟨v, hv⟩ : ∃ v, v = L[k]! := ⟨_, rfl⟩
      have hv15 : v ≤ 15 := by rw [hv, getElem!_pos L k (by rw [HLN.out]; exact hlt)]; exact HLX.out _ (List.getElem_mem _)
      rw [← hv] at hc1
      have u1 : decide ((v : Int) < 0) = false := by simp
      have u2 : decide ((v : Int) > 15) = false := by simp; omega
      have u3 : decide (15 < (v : Int)) = false := by simp; omega
      have u4 : decide (15 < v) = false := by simp; omega
      clear hv
      go_wp2_with fail
      exact ⟨⟨k + 1, by omega, by go_num⟩, by simp [intOf]; omega⟩
    · have hkn : k = n := by omega
      subst hkn
      go_wp2_with fail
      go_ret
      exact ⟨rfl, rfl⟩

/-- 'l[:y:y]' -/
theorem run_to3 (A : Option Addr) (n c y : Nat) (hy : y ≤ n) (hn : n ≤ c) (w' : World) :
    (Instr.sliceAt 36 (.slice A n c) none (some (.int .i64 (y : Int))) (some (.int .i64 (y : Int)))).run Tryz.prog w' = .ok (.slice A y y) w' := by
  have h0 := cutAt_zero A y
  unfold cutAt at h0
  cases A with
  | none =>
    go_simp
    intro h
    omega
  | some ad =>
    simp only [Option.map_some] at h0
    go_simp
    try (rw [h0])
    try (intro h; omega)
    try (refine ⟨fun h => ?_, fun h => ?_⟩ <;> omega)

set_option maxHeartbeats 1600000 in
theorem pCut8_any (A : Option Addr) (n c m : Nat) (L : List Nat) (w : World) (hr : Rd w A n (L.map natc)) (hc : n ≤ c) (hn : n ≤ 1000) (hm : m ≤ n) :
    Calls Tryz.prog 63 #[.slice A n c, .int .i64 (m : Int)] w fun e w' => e = .returned (.slice A (trimL L m).length (trimL L m).length) ∧ (trimL L m).length ≤ n ∧ w = w' := by
  have hln : L.length = n := by simpa using hr.1
  obtain ⟨T, hT⟩ : ∃ T, T = trimN L m (n - m) := ⟨_, rfl⟩
  have hTl : (trimL L m).length = T := by
    have := trimN_le L m (n - m)
    rw [trimL, List.length_take, hln, ← hT]
    omega
  have hTn : T ≤ n := by have := trimN_le L m (n - m); omega
  rw [hTl]
  have HR := Lib.hid hr
  have HLN := Lib.hid hln
  have HT := Lib.hid hT
  have hs := run_to3 A n c T hTn hc
  clear hr hln hT hTl
  go_enter Tryz.func63, Tryz.ntmps63
  go_wp2_with fail
  go_loop [5] (fun i => ∃ k : Nat, m + k ≤ n ∧ i = .int .i64 ((m + k : Nat) : Int) ∧ Hid (T = trimN L m k)) (fun i => (intOf i).toNat)
  case atStart => exact ⟨n - m, by omega, by congr 2; omega, HT.out⟩
  case round =>
    obtain ⟨k, hk, rfl, HK⟩ := hrel
    cases k with
    | zero =>
      have hTm : T = m := HK.out
      rw [Nat.add_zero]
      subst hTm
      go_wp2_with fail
      go_ret
      exact ⟨rfl, rfl⟩
    | succ k =>
      obtain ⟨i, hi⟩ : ∃ i, i = m + k := ⟨_, rfl⟩
      rw [show m + (k + 1) = i + 1 by omega]
      obtain ⟨ad, rfl, hc1⟩ := nat_cell HR.out (k := i) (by omega)
      have hmi : m ≤ i := by omega
      have hin : i < n := by omega
      have g1 : decide ((i + 1 : Nat) > m) = true := by simp; omega
      by_cases hv : L[i]! = 0
      · rw [hv] at hc1
        replace hc1 : w.cell? (ad.add i) = some (.int .i64 0) := hc1
        have HK2 : Hid (T = trimN L m k) := Lib.hid (by have h := HK.out; rw [trimN, ← hi, if_pos hv] at h; exact h)
        have HI := Lib.hid hi
        clear hv hi
        go_wp2_with fail
        exact ⟨⟨k, by have := HI.out; omega, by have := HI.out; first | go_num | (congr 1; omega), HK2.out⟩, by simp [intOf]⟩
      · obtain ⟨v, hvv⟩ : ∃ v, v = L[i]! := ⟨_, rfl⟩
        rw [← hvv] at hc1 hv
        have hTi : T = i + 1 := by have h := HK.out; rw [trimN, ← hi, ← hvv, if_neg hv] at h; exact h
        have t2 : ((v : Int) == 0) = false := by simp; omega
        subst hTi
        clear hvv hi
        go_wp2_with fail
        go_ret
        exact ⟨rfl, rfl⟩
end Go.Proofs.YtahfmcdhcbfkaaaGreatDoor
namespace Go.Proofs.YtahfmcdhcbfkaaaGreatDoor
open Go.RowKit CoM Mem Go.Lib
attribute [local go_sem ↓] Go.wp_at_zero Go.wp_at_succ
set_option linter.unusedVariables false
set_option maxRecDepth 100000

set_option maxHeartbeats 1600000 in
theorem pWeights8_any (A : Option Addr) (n c : Nat) (T : List It) (w : World) (hI : Its w A n T) (hs : ∀ t ∈ T, t.s ≤ 18) (hn : n ≤ 1000) :
    Calls Tryz.prog 65 #[.slice A n c] w fun e w' => ∃ g, e = .returned (.slice (some ⟨g, 0, none⟩) 19 19) ∧ w.heap.size ≤ g ∧ NR w' g (weigh8 T zeros19) ∧ Fr (fun _ => False) w w' := by
  have HI := Lib.hid hI
  have HLN := Lib.hid hI.1
  have HS := Lib.hid hs
  have hmk := mk_int 19 (by omega) w
  obtain ⟨g, hg⟩ : ∃ g, g = w.heap.size := ⟨_, rfl⟩
  obtain ⟨w1, hw1⟩ : ∃ w1, w1 = w.alloc (.cells (Array.replicate 19 (.int .i64 0)) 3) := ⟨_, rfl⟩
  have hz : NR w1 g zeros19 := by rw [hw1, hg]; exact NR.zeros w 19
  have hf1 : Fr (fun _ => False) w w1 := by rw [hw1]; exact (Fr.refl _ w).alloc _
  rw [← hg, ← hw1] at hmk
  replace hmk : (Instr.makeSlice 36 (.int .i64 19) (.int .i64 19)).run Tryz.prog w = .ok (.slice (some ⟨g, 0, none⟩) 19 19) w1 := hmk
  have HZ := Lib.hid hz
  have HF1 := Lib.hid hf1
  have HG := Lib.hid (show w.heap.size ≤ g by omega)
  clear hI hs hz hf1 hw1 hg
  go_enter Tryz.func65, Tryz.ntmps65
  go_wp2_with fail
  go_loopw [9] (fun i wr => ∃ k : Nat, k ≤ n ∧ i = .int .i64 (k : Int) ∧ Hid (NR wr g (weigh8 (T.take k) zeros19)) ∧ Hid (Fr (fun _ => False) w wr)) (fun i _ => n - (intOf i).toNat)
  case atStart => exact ⟨0, Nat.zero_le _, rfl, HZ.out, HF1.out⟩
  case round =>
    obtain ⟨k, hk, rfl, HN, HF⟩ := hrel
    rename World => wr
    by_cases hlt : k < n
    · obtain ⟨t, ht⟩ : ∃ t, T[k]? = some t := ⟨_, List.getElem?_eq_getElem (by rw [HLN.out]; exact hlt)⟩
      obtain ⟨g2, o, rfl, hg2, h1, h2, h3⟩ := (HI.out.fr HF.out (fun _ _ h => h)).2 k t ht
      have hs18 := HS.out t (List.mem_of_getElem? ht)
      obtain ⟨s, b, x⟩ := t
      simp only at h1 h2 h3 hs18
      obtain ⟨W, hW⟩ : ∃ W, W = weigh8 (T.take k) zeros19 := ⟨_, rfl⟩
      have hWl : W.length = 19 := by rw [hW, weigh8_len]; rfl
      have hWk : weigh8 (T.take (k + 1)) zeros19 = bump8 W s := by rw [weigh8_take ht, hW]
      have hWb : W[s]! ≤ n := by
        have h := weigh8_le (T.take k) zeros19 0 (fun x hx => by have := List.eq_of_mem_replicate hx; omega)
        rw [← hW] at h
        have h2 := h W[s]! (by rw [getElem!_pos W s (by omega)]; exact List.getElem_mem _)
        rw [List.length_take] at h2
        omega
      rw [← hW] at HN
      have HWK := Lib.hid hWk
      have hn2 := HN.out
      obtain ⟨v, hv⟩ : ∃ v, v = W[s]! := ⟨_, rfl⟩
      rw [← hv] at hWb
      have hsi : (s : Int) < 19 := by omega
      have HWL := Lib.hid hWl
      have HV := Lib.hid hv
      clear ht hg2 hWk hWl hW hv
      go_upto_region 5 with fail
      obtain ⟨w2, hw2⟩ : ∃ w2, w2 = wr.alloc (.cells #[Value.int .i64 (s : Int), .int .i64 (b : Int), .int .u64 (x : Int)] 125) := ⟨_, rfl⟩
      have hr2 : Row w2 wr.heap.size 125 [Value.int .i64 (s : Int), .int .i64 (b : Int), .int .u64 (x : Int)] := by rw [hw2]; exact Row.new wr _ _
      have hn3 : NR w2 g W := by rw [hw2]; exact Row.alloc hn2 _
      have hf2 : Fr (fun _ => False) w w2 := by rw [hw2]; exact HF.out.alloc _
      obtain ⟨p, hp⟩ : ∃ p, p = wr.heap.size := ⟨_, rfl⟩
      rw [← hw2]
      rw [← hp] at hr2 ⊢
      have d0 : w2.cell? ⟨p, 0, none⟩ = some (.int .i64 (s : Int)) := hr2.cell rfl
      have c1 : w2.cell? ⟨g, s, none⟩ = some (.int .i64 (v : Int)) := by rw [HV.out]; exact hn3.at_ (i := s) (by rw [HWL.out]; omega)
      have f1 : w2.frozen? ⟨g, s, none⟩ = false := Row.free hn3 s
      have HN4 : Hid (NR (w2.setCell ⟨g, s, none⟩ (.int .i64 ((v : Int) + 1))) g (weigh8 (T.take (k + 1)) zeros19)) := Lib.hid (by rw [HWK.out, bump8, ← HV.out]; exact hn3.set s (v + 1))
      have HF4 : Hid (Fr (fun _ => False) w (w2.setCell ⟨g, s, none⟩ (.int .i64 ((v : Int) + 1)))) := Lib.hid (hf2.trans (Fr.set1 w2 g s _) (fun b hb h => by have := HG.out; omega))
      clear hw2 hr2 hn3 hf2 hp hn2 h1 h2 h3
      go_wp2_with fail
      exact ⟨⟨k + 1, by omega, by go_num, HN4.out, HF4.out⟩, by simp [intOf]; omega⟩
    · have hkn : k = n := by omega
      have hT : T.take k = T := List.take_of_length_le (by rw [HLN.out]; omega)
      have HN2 : Hid (NR wr g (weigh8 T zeros19)) := Lib.hid (by rw [← hT]; exact HN.out)
      clear hT HN
      go_wp2_with fail
      go_ret
      exact ⟨g, rfl, HG.out, HN2.out, HF.out⟩

/-- the lengths in the items' order -/
def inOrd (len : List Nat) : List Nat := ord.map fun o => len[o]!
theorem ordT : RowTy Tryz.prog 128 19 := ⟨⟨19, 3, Tryz.underlying128⟩, by kernel_rfl⟩
theorem ord_lt : ∀ o ∈ ord, o < 19 := by decide
theorem wpList_load_ord {ops : Array Oper} {rest : List Oper} {op : Oper} {a : Act} {w : World} {Q : Exit → Act → World → Prop} (hgd : op.guard = none) (x : Operand) (ho : op.op = .load 128 x)
    (hx : a.eval x = .pointer (some ⟨2, 0, none⟩)) (hG : Gl8 w) (OC : Array Value) (hO : OC = (ord.map natc).toArray) (h : wpList Tryz.prog ops Q rest (a.put op.dst (.agg OC)) w) : wpList Tryz.prog ops Q (op :: rest) a w := by
  subst hO
  refine wpList_plain hgd fun K hK => ?_
  have hl : (loadVar 128 ⟨2, 0, none⟩).run Tryz.prog w = .ok (.agg (ord.map natc).toArray) w :=
    run_loadVar_mid (P := Tryz.prog) w 2 0 128 (ord.map natc) (.array 19 3) (fun j v hv => by
      rw [List.getElem?_map] at hv
      cases hj : ord[j]? with
      | none => rw [hj] at hv; cases hv
      | some x =>
        rw [hj] at hv
        injection hv with hv
        rw [← hv, Nat.zero_add]
        exact hG.1 j x hj) Tryz.underlying128 rfl (by kernel_rfl)
  unfold Oper.wp execOp
  simp only [ho, hx, Instr.loadAt, Instr.sureAddr, Sem.run_bind, Sem.run_pure, Result.andThen_ok, hl]
  exact hK _ _ h

theorem inOrd_len (len : List Nat) : (inOrd len).length = 19 := by simp [inOrd, ord]
/-- the first k are filled in -/
def inPart (len : List Nat) (k : Nat) : List Nat := (inOrd len).take k ++ List.replicate (19 - k) 0
theorem inPart_len (len : List Nat) (k : Nat) (h : k ≤ 19) : (inPart len k).length = 19 := by
  unfold inPart
  rw [List.length_append, List.length_take, inOrd_len, List.length_replicate]
  omega
theorem inPart_set (len : List Nat) (k o : Nat) (h : k < 19) (ho : ord[k]? = some o) : (inPart len k).set k len[o]! = inPart len (k + 1) := by
  have hk : (inOrd len)[k]? = some len[o]! := by simp [inOrd, ho]
  have hk2 := (List.getElem?_eq_some_iff.1 hk).2
  unfold inPart
  rw [List.set_append_right _ _ (by rw [List.length_take, inOrd_len]; omega), List.length_take, inOrd_len, Nat.min_eq_left (by omega), Nat.sub_self, show 19 - k = (19 - (k + 1)) + 1 by omega, List.replicate_succ, List.set_cons_zero, ← List.take_append_getElem (show k < (inOrd len).length by rw [inOrd_len]; exact h), List.append_assoc, hk2]
  rfl
set_option maxHeartbeats 1600000 in
theorem pInOrder_any (A : Option Addr) (c : Nat) (len : List Nat) (w : World) (hG : Gl8 w) (hr : Rd w A 19 (len.map natc)) :
    Calls Tryz.prog 66 #[.slice A 19 c] w fun e w' => ∃ g, e = .returned (.slice (some ⟨g, 0, none⟩) 19 19) ∧ w.heap.size ≤ g ∧ NR w' g (inOrd len) ∧ Fr (fun _ => False) w w' := by
  have HR := Lib.hid hr
  have hmk := mk_int 19 (by omega) w
  obtain ⟨g, hg⟩ : ∃ g, g = w.heap.size := ⟨_, rfl⟩
  obtain ⟨w1, hw1⟩ : ∃ w1, w1 = w.alloc (.cells (Array.replicate 19 (.int .i64 0)) 3) := ⟨_, rfl⟩
  have hz : NR w1 g (inPart len 0) := by rw [hw1, hg]; exact NR.zeros w 19
  have hf1 : Fr (fun _ => False) w w1 := by rw [hw1]; exact (Fr.refl _ w).alloc _
  rw [← hg, ← hw1] at hmk
  replace hmk : (Instr.makeSlice 36 (.int .i64 19) (.int .i64 19)).run Tryz.prog w = .ok (.slice (some ⟨g, 0, none⟩) 19 19) w1 := hmk
  have HZ := Lib.hid hz
  have HF1 := Lib.hid hf1
  have HG1 := Lib.hid (hG.fr0 hf1)
  have HG := Lib.hid (show w.heap.size ≤ g by omega)
  obtain ⟨OC, hOC⟩ : ∃ OC, OC = (ord.map natc).toArray := ⟨_, rfl⟩
  have HOC := Lib.hid hOC
  clear hr hG hz hf1 hw1 hg hOC
  go_enter Tryz.func66, Tryz.ntmps66
  go_upto_region 2 with fail
  go_wp2_with (refine wpList_load_ord rfl _ rfl (by rfl) HG1.out OC HOC.out ?_)
  go_loopw [8] (fun i wr => ∃ k : Nat, k ≤ 19 ∧ i = .int .i64 (k : Int) ∧ Hid (NR wr g (inPart len k)) ∧ Hid (Fr (fun _ => False) w wr)) (fun i _ => 19 - (intOf i).toNat)
  case atStart => exact ⟨0, Nat.zero_le _, rfl, HZ.out, HF1.out⟩
  case round =>
    obtain ⟨k, hk, rfl, HN, HF⟩ := hrel
    rename World => wr
    by_cases hlt : k < 19
    · obtain ⟨o, ho⟩ : ∃ o, ord[k]? = some o := ⟨_, List.getElem?_eq_getElem (show k < ord.length from hlt)⟩
      have ho19 : o < 19 := ord_lt o (List.mem_of_getElem? ho)
      have hwx := run_index_agg (P := Tryz.prog) Tryz.underlying128 Tryz.underlying3 rfl (by kernel_rfl) OC .i64 k (.int .i64 (o : Int)) hlt (by rw [HOC.out]; simp [ho, natc])
      obtain ⟨ad, rfl, hc1⟩ := nat_cell (HR.out.fr HF.out (fun _ _ h => h)) ho19
      obtain ⟨v, hv⟩ : ∃ v, v = len[o]! := ⟨_, rfl⟩
      rw [← hv] at hc1
      have hoi : (o : Int) < 19 := by omega
      have hki : (k : Int) < 19 := by omega
      have c1 := NR.at_ HN.out (i := k) (by rw [inPart_len _ _ hk]; exact hlt)
      have f1 : wr.frozen? ⟨g, k, none⟩ = false := Row.free HN.out k
      have HN4 : Hid (NR (wr.setCell ⟨g, k, none⟩ (.int .i64 (v : Int))) g (inPart len (k + 1))) := Lib.hid (by rw [← inPart_set len k o hlt ho, ← hv]; exact HN.out.set k v)
      have HF4 : Hid (Fr (fun _ => False) w (wr.setCell ⟨g, k, none⟩ (.int .i64 (v : Int)))) := Lib.hid (HF.out.trans (Fr.set1 wr g k _) (fun b hb h => by have := HG.out; omega))
      clear ho hv
      go_wp2_with fail
      exact ⟨⟨k + 1, by omega, by go_num, HN4.out, HF4.out⟩, by simp [intOf]; omega⟩
    · have hkn : k = 19 := by omega
      subst hkn
      have hT : inPart len 19 = inOrd len := by
        unfold inPart
        rw [List.take_of_length_le (by rw [inOrd_len]; omega)]
        simp
      have HN2 : Hid (NR wr g (inOrd len)) := Lib.hid (by rw [← hT]; exact HN.out)
      clear hT HN
      go_wp2_with fail
      go_ret
      exact ⟨g, rfl, HG.out, HN2.out, HF.out⟩
end Go.Proofs.YtahfmcdhcbfkaaaGreatDoor
namespace Go.Proofs.YtahfmcdhcbfkaaaGreatDoor.HuffM

/-- a node: its weight, its number -/
abbrev Nd := Nat × Nat
def ltn (x y : Nd) : Prop := x.1 < y.1 ∨ (x.1 = y.1 ∧ x.2 < y.2)
def ltb (x y : Nd) : Bool := bif x.1 != y.1 then decide (x.1 < y.1) else decide (x.2 < y.2)
theorem ltb_iff (x y : Nd) : ltb x y = true ↔ ltn x y := by
  unfold ltb ltn
  by_cases h : x.1 = y.1
  · have : (x.1 != y.1) = false := by simpa using h
    rw [this]
    simp
    omega
  · have : (x.1 != y.1) = true := by simpa using h
    rw [this]
    simp
    omega
theorem ltb_no (x y : Nd) : ltb x y = false ↔ ¬ ltn x y := by
  rw [← ltb_iff]
  cases ltb x y <;> simp
theorem ltn_trans {x y z : Nd} (h : ltn x y) (k : ltn y z) : ltn x z := by unfold ltn at *; omega
theorem ltn_asymm {x y : Nd} (h : ltn x y) : ¬ ltn y x := by unfold ltn at *; omega
theorem nlt_trans {x y z : Nd} (h : ¬ ltn x y) (k : ¬ ltn y z) : ¬ ltn x z := by unfold ltn at *; omega
theorem nlt_lt {x y z : Nd} (h : ¬ ltn x y) (k : ltn z y) : ¬ ltn x z := by unfold ltn at *; omega

def gn (l : List Nd) (i : Nat) : Nd := l.getD i (0, 0)
def swn (l : List Nd) (i j : Nat) : List Nd := (l.set i (gn l j)).set j (gn l i)
theorem swn_len (l : List Nd) (i j : Nat) : (swn l i j).length = l.length := by simp [swn]
theorem gn_at {l : List Nd} {i : Nat} (h : i < l.length) : l[i]? = some (gn l i) := by unfold gn; rw [List.getD_eq_getElem?_getD, List.getElem?_eq_getElem h]; rfl
theorem swn_at (l : List Nd) {i j : Nat} (hi : i < l.length) (hj : j < l.length) (k : Nat) : gn (swn l i j) k = if k = j then gn l i else if k = i then gn l j else gn l k := by
  unfold swn
  unfold gn
  rw [List.getD_eq_getElem?_getD, List.getElem?_set]
  by_cases h1 : j = k
  · rw [if_pos h1, if_pos h1.symm, if_pos (by rw [List.length_set]; omega)]
    rfl
  · rw [if_neg h1, if_neg (fun h => h1 h.symm), List.getElem?_set]
    by_cases h2 : i = k
    · rw [if_pos h2, if_pos h2.symm, if_pos (by omega)]
      rfl
    · rw [if_neg h2, if_neg (fun h => h2 h.symm), List.getD_eq_getElem?_getD]
theorem swn_perm (l : List Nd) {i j : Nat} (hi : i < l.length) (hj : j < l.length) : (swn l i j).Perm l := by
  have h : ((l.set i l[j]).set j l[i]).Perm l := List.set_set_perm hi hj
  have e1 : gn l j = l[j] := by have := gn_at hj; rw [List.getElem?_eq_getElem hj] at this; injection this with this; exact this.symm
  have e2 : gn l i = l[i] := by have := gn_at hi; rw [List.getElem?_eq_getElem hi] at this; injection this with this; exact this.symm
  unfold swn
  rw [e1, e2]
  exact h

/-- whoever of the first n stands under lo or behind is no less than who stands above -/
def Hp (l : List Nd) (n lo : Nat) : Prop := ∀ k, k < n → 0 < k → lo ≤ (k - 1) / 2 → ¬ ltn (gn l k) (gn l ((k - 1) / 2))
theorem Hp.root {l : List Nd} {n : Nat} (h : Hp l n 0) : ∀ k, k < n → ¬ ltn (gn l k) (gn l 0) := by
  intro k
  induction k using Nat.strongRecOn with
  | ind k ih =>
    intro hk
    rcases Nat.eq_zero_or_pos k with rfl | h0
    · unfold ltn; omega
    · exact nlt_trans (h k hk h0 (Nat.zero_le _)) (ih ((k - 1) / 2) (by omega) (by omega))
/-- sifting down: it stands at i -/
structure Dn (l : List Nd) (n i0 i : Nat) : Prop where
  a : ∀ k, k < n → 0 < k → i0 ≤ (k - 1) / 2 → (k - 1) / 2 ≠ i → ¬ ltn (gn l k) (gn l ((k - 1) / 2))
  b : i0 < i → ∀ k, k < n → 0 < k → (k - 1) / 2 = i → ¬ ltn (gn l k) (gn l ((i - 1) / 2))
theorem Dn.start {l : List Nd} {n i0 : Nat} (h : Hp l n (i0 + 1)) : Dn l n i0 i0 := ⟨fun k h1 h2 h3 h4 => h k h1 h2 (by omega), fun h => by omega⟩
theorem Dn.leaf {l : List Nd} {n i0 i : Nat} (h : Dn l n i0 i) (hl : n ≤ 2 * i + 1) : Hp l n i0 := fun k h1 h2 h3 => h.a k h1 h2 h3 (by omega)
/-- j is the lesser child of i -/
def Lc (l : List Nd) (n i j : Nat) : Prop := (j = 2 * i + 1 ∨ j = 2 * i + 2) ∧ j < n ∧ ∀ k, k < n → 0 < k → (k - 1) / 2 = i → ¬ ltn (gn l k) (gn l j)
theorem Dn.stop {l : List Nd} {n i0 i j : Nat} (h : Dn l n i0 i) (hj : Lc l n i j) (hs : ¬ ltn (gn l j) (gn l i)) : Hp l n i0 := by
  intro k h1 h2 h3
  by_cases e : (k - 1) / 2 = i
  · rw [e]
    exact nlt_trans (hj.2.2 k h1 h2 e) hs
  · exact h.a k h1 h2 h3 e
theorem Dn.go {l : List Nd} {n i0 i j : Nat} (h : Dn l n i0 i) (hi0 : i0 ≤ i) (hj : Lc l n i j) (hs : ltn (gn l j) (gn l i)) (hn : n ≤ l.length) : Dn (swn l i j) n i0 j := by
  obtain ⟨hc, hjn, hmin⟩ := hj
  have hil : i < l.length := by omega
  have hjl : j < l.length := by omega
  have hji : (j - 1) / 2 = i := by omega
  constructor
  · intro k h1 h2 h3 h4
    rw [swn_at l hil hjl, swn_at l hil hjl]
    by_cases e1 : k = j
    · subst e1
      rw [if_pos rfl, hji, if_neg (by omega), if_pos rfl]
      exact ltn_asymm hs
    · rw [if_neg e1]
      by_cases e2 : k = i
      · subst e2
        rw [if_pos rfl, if_neg h4, if_neg (by omega)]
        exact h.b (by omega) j hjn (by omega) hji
      · rw [if_neg e2, if_neg h4]
        by_cases e3 : (k - 1) / 2 = i
        · rw [if_pos e3]
          exact hmin k h1 h2 e3
        · rw [if_neg e3]
          exact h.a k h1 h2 h3 e3
  · intro h1 k h2 h3 h4
    rw [swn_at l hil hjl, swn_at l hil hjl, hji, if_neg (by omega), if_neg (by omega), if_neg (by omega), if_pos rfl]
    have := h.a k h2 h3 (by omega) (by omega)
    rwa [h4] at this
/-- sifting up: it stands at j -/
structure Up (l : List Nd) (n j : Nat) : Prop where
  a : ∀ k, k < n → 0 < k → k ≠ j → ¬ ltn (gn l k) (gn l ((k - 1) / 2))
  b : 0 < j → ∀ k, k < n → 0 < k → (k - 1) / 2 = j → ¬ ltn (gn l k) (gn l ((j - 1) / 2))
theorem Up.top {l : List Nd} {n : Nat} (h : Up l n 0) : Hp l n 0 := fun k h1 h2 _ => h.a k h1 h2 (by omega)
theorem Up.stop {l : List Nd} {n j : Nat} (h : Up l n j) (hs : ¬ ltn (gn l j) (gn l ((j - 1) / 2))) : Hp l n 0 := by
  intro k h1 h2 _
  by_cases e : k = j
  · subst e; exact hs
  · exact h.a k h1 h2 e
theorem Up.go {l : List Nd} {n j : Nat} (h : Up l n j) (hj0 : 0 < j) (hjn : j < n) (hs : ltn (gn l j) (gn l ((j - 1) / 2))) (hn : n ≤ l.length) : Up (swn l ((j - 1) / 2) j) n ((j - 1) / 2) := by
  obtain ⟨i, hi⟩ : ∃ i, i = (j - 1) / 2 := ⟨_, rfl⟩
  rw [← hi] at hs ⊢
  have hil : i < l.length := by omega
  have hjl : j < l.length := by omega
  constructor
  · intro k h1 h2 h3
    rw [swn_at l hil hjl, swn_at l hil hjl]
    by_cases e1 : k = j
    · subst e1
      rw [if_pos rfl, ← hi, if_neg (by omega), if_pos rfl]
      exact ltn_asymm hs
    · rw [if_neg e1, if_neg h3]
      by_cases e2 : (k - 1) / 2 = j
      · rw [if_pos e2]
        have := h.b hj0 k h1 h2 e2
        rwa [← hi] at this
      · rw [if_neg e2]
        by_cases e3 : (k - 1) / 2 = i
        · rw [if_pos e3]
          have := h.a k h1 h2 e1
          rw [e3] at this
          exact nlt_lt this hs
        · rw [if_neg e3]
          exact h.a k h1 h2 e1
  · intro h1 k h2 h3 h4
    have hp := h.a i (by omega) h1 (by omega)
    rw [swn_at l hil hjl, swn_at l hil hjl, if_neg (show ¬ (i - 1) / 2 = j by omega), if_neg (show ¬ (i - 1) / 2 = i by omega)]
    by_cases e1 : k = j
    · rw [if_pos e1]
      exact hp
    · rw [if_neg e1, if_neg (by omega)]
      have := h.a k h2 h3 e1
      rw [h4] at this
      exact nlt_trans this hp
theorem Up.push {l : List Nd} {x : Nd} (h : Hp l l.length 0) : Up (l ++ [x]) (l.length + 1) l.length := by
  have hg : ∀ k, k < l.length → gn (l ++ [x]) k = gn l k := fun k hk => by unfold gn; rw [List.getD_eq_getElem?_getD, List.getElem?_append_left hk, ← List.getD_eq_getElem?_getD]
  constructor
  · intro k h1 h2 h3
    rw [hg k (by omega), hg _ (by omega)]
    exact h k (by omega) h2 (Nat.zero_le _)
  · intro h0 k h1 h2 h3
    omega
/-- behind the first exchange of Pop -/
theorem Hp.pop {l : List Nd} (h : Hp l l.length 0) (h0 : 0 < l.length) : Hp (swn l 0 (l.length - 1)) (l.length - 1) 1 := by
  intro k h1 h2 h3
  rw [swn_at l h0 (by omega), swn_at l h0 (by omega), if_neg (by omega), if_neg (by omega), if_neg (by omega), if_neg (by omega)]
  exact h k (by omega) h2 (Nat.zero_le _)
theorem Hp.all {l : List Nd} {n : Nat} (lo : Nat) (h : n / 2 ≤ lo) : Hp l n lo := fun k h1 h2 h3 => by omega
end Go.Proofs.YtahfmcdhcbfkaaaGreatDoor.HuffM
namespace Go.Proofs.YtahfmcdhcbfkaaaGreatDoor.HuffM

/-- groups with their numbers -/
abbrev Zs := List (Grp × Nat)
def ks (Z : Zs) : List Nd := Z.map fun z => (z.1.w, z.2)
def gz (Z : Zs) : List Grp := Z.map (·.1)
/-- numbers rise, all below N -/
structure Wz (Z : Zs) (N : Nat) : Prop where
  asc : Z.Pairwise fun a b => a.2 < b.2
  lt : ∀ z ∈ Z, z.2 < N
theorem gz_app (A B : Zs) : gz (A ++ B) = gz A ++ gz B := by simp [gz]
theorem ks_app (A B : Zs) : ks (A ++ B) = ks A ++ ks B := by simp [ks]
theorem split_gz {Z : Zs} {A B : List Grp} {x : Grp} (h : gz Z = A ++ x :: B) : ∃ ZA z ZB, Z = ZA ++ z :: ZB ∧ gz ZA = A ∧ z.1 = x ∧ gz ZB = B := by
  unfold gz at h
  obtain ⟨ZA, Z2, h1, h2, h3⟩ := List.map_eq_append_iff.1 h
  obtain ⟨z, ZB, h4, h5, h6⟩ := List.map_eq_cons_iff.1 h3
  exact ⟨ZA, z, ZB, by rw [h1, h4], h2, h5, h6⟩
/-- the least node of a heap is the first of the groups of least weight -/
theorem pick_min {Z ZA ZB : Zs} {z : Grp × Nat} {N : Nat} {h h' : List Nd} {x : Nd} (hZ : Z = ZA ++ z :: ZB) (hw : Wz Z N) (hA : ∀ a ∈ ZA, z.1.w < a.1.w) (hB : ∀ b ∈ ZB, z.1.w ≤ b.1.w)
    (hp : h.Perm (ks Z)) (hx : (x :: h').Perm h) (hm : ∀ y ∈ h', ¬ ltn y x) : x = (z.1.w, z.2) ∧ h'.Perm (ks (ZA ++ ZB)) := by
  have hall : (x :: h').Perm (ks Z) := hx.trans hp
  have hk : ks Z = ks ZA ++ (z.1.w, z.2) :: ks ZB := by rw [hZ, ks_app]; rfl
  have hless : ∀ q ∈ Z, q = z ∨ ltn (z.1.w, z.2) (q.1.w, q.2) := by
    intro q hq
    rw [hZ] at hq
    rcases List.mem_append.1 hq with hq | hq
    · exact .inr (.inl (hA q hq))
    · rcases List.mem_cons.1 hq with hq | hq
      · exact .inl hq
      · right
        have h1 := hB q hq
        have h2 := hw.asc
        rw [hZ] at h2
        have h3 := (List.pairwise_cons.1 (List.pairwise_append.1 h2).2.1).1 q hq
        unfold ltn
        simp only
        omega
  have e : x = (z.1.w, z.2) := by
    have h1 : x ∈ ks Z := hall.mem_iff.1 (List.mem_cons_self ..)
    have h2 : (z.1.w, z.2) ∈ x :: h' := hall.mem_iff.2 (by rw [hk]; simp)
    rcases List.mem_cons.1 h2 with h2' | h2'
    · exact h2'.symm
    · obtain ⟨q, hq, rfl⟩ := List.mem_map.1 h1
      rcases hless q hq with h3 | h3
      · rw [h3]
      · exact absurd h3 (hm _ h2')
  refine ⟨e, ?_⟩
  subst e
  rw [hk] at hall
  have h4 := hall.trans List.perm_middle
  rw [ks_app]
  exact h4.cons_inv

/-- the joins from here on, as pairs of numbers -/
inductive Run : Zs → Nat → List (Nat × Nat) → Prop
  | done (Z : Zs) (N : Nat) : Z.length ≤ 1 → Run Z N []
  | step (Z Z' : Zs) (N a b : Nat) (sa sb : List Nat) (ps : List (Nat × Nat)) : 2 ≤ Z.length → gz Z' = joinG (gz Z) → (grp (gz Z)).s = sa ++ sb →
      (∃ wa wb C E, Z.Perm ((⟨wa, sa⟩, a) :: (⟨wb, sb⟩, b) :: (C ++ E)) ∧ Z' = C ++ E ++ [(⟨wa + wb, sa ++ sb⟩, N)]) → Wz Z' (N + 1) → Run Z' (N + 1) ps → Run Z N ((a, b) :: ps)
def nsum (h : List Nd) : Nat := (h.map (·.1)).sum
theorem nsum_perm {h k : List Nd} (p : h.Perm k) : nsum h = nsum k := (p.map _).sum_nat
theorem step_run {Z : Zs} {N : Nat} {h h1 h2 : List Nd} {x y : Nd} (hw : Wz Z N) (hl : 2 ≤ Z.length) (hp : h.Perm (ks Z)) (hx : (x :: h1).Perm h) (hm : ∀ q ∈ h1, ¬ ltn q x) (hy : (y :: h2).Perm h1) (hn : ∀ q ∈ h2, ¬ ltn q y) :
    ∃ Z', Wz Z' (N + 1) ∧ (h2 ++ [(x.1 + y.1, N)]).Perm (ks Z') ∧ Z'.length + 1 = Z.length ∧ (∀ ps, Run Z' (N + 1) ps → Run Z N ((x.2, y.2) :: ps)) ∧ x.2 < N ∧ y.2 < N := by
  have hlg : 2 ≤ (gz Z).length := by unfold gz; rw [List.length_map]; exact hl
  obtain ⟨A, B, C, E, gx, gy, h1', h2', h3', h4', h5, h6, h7, h8⟩ := join_row hlg
  obtain ⟨ZA, zx, ZB, rfl, rfl, rfl, rfl⟩ := split_gz h1'
  rw [← gz_app] at h2'
  obtain ⟨ZC, zy, ZE, e2, rfl, rfl, rfl⟩ := split_gz h2'
  have mem : ∀ {L : Zs} {P : Grp → Prop}, (∀ g ∈ gz L, P g) → ∀ z ∈ L, P z.1 := fun h z hz => h z.1 (List.mem_map.2 ⟨z, hz, rfl⟩)
  obtain ⟨ex, hp1⟩ := pick_min rfl hw (mem h5) (mem h6) hp hx hm
  have hw1 : Wz (ZA ++ ZB) N := ⟨hw.asc.sublist (by simp), fun z hz => hw.lt z (by
    rcases List.mem_append.1 hz with h | h
    · simp [h]
    · simp [h])⟩
  obtain ⟨ey, hp2⟩ := pick_min e2 hw1 (mem h7) (mem h8) hp1 hy hn
  subst ex ey
  have hw2 : Wz (ZC ++ ZE) N := ⟨(e2 ▸ hw1.asc).sublist (by simp), fun z hz => hw1.lt z (by
    rw [e2]
    rcases List.mem_append.1 hz with h | h
    · simp [h]
    · simp [h])⟩
  have hxN := hw.lt zx (by simp)
  have hyN := hw1.lt zy (by rw [e2]; simp)
  have hwz : Wz (ZC ++ ZE ++ [(⟨zx.1.w + zy.1.w, zx.1.s ++ zy.1.s⟩, N)]) (N + 1) := by
    refine ⟨List.pairwise_append.2 ⟨hw2.asc, List.pairwise_singleton _ _, fun p hp q hq => ?_⟩, fun z hz => ?_⟩
    · simp at hq
      subst hq
      exact hw2.lt p hp
    · rcases List.mem_append.1 hz with h | h
      · have := hw2.lt z h; omega
      · simp at h
        subst h
        simp
  have hlen : (ZA ++ ZB).length = (ZC ++ ZE).length + 1 := by rw [e2]; simp; omega
  refine ⟨ZC ++ ZE ++ [(⟨zx.1.w + zy.1.w, zx.1.s ++ zy.1.s⟩, N)], hwz, ?_, ?_, ?_, hxN, hyN⟩
  · rw [ks_app (ZC ++ ZE)]
    exact hp2.append_right _
  · simp at hlen ⊢
    omega
  · intro ps hps
    refine Run.step _ _ N zx.2 zy.2 zx.1.s zy.1.s ps hl ?_ (by rw [h4']) ⟨zx.1.w, zy.1.w, ZC, ZE, ?_, rfl⟩ hwz hps
    · rw [h3', gz_app, gz_app]
      rfl
    · refine (List.perm_middle).trans (List.Perm.cons _ ?_)
      rw [e2]
      exact List.perm_middle
theorem step_sum {h h1 h2 : List Nd} {x y : Nd} (hx : (x :: h1).Perm h) (hy : (y :: h2).Perm h1) (N : Nat) : x.1 + y.1 ≤ nsum h ∧ nsum (h2 ++ [(x.1 + y.1, N)]) = nsum h := by
  have e1 := nsum_perm hx
  have e2 := nsum_perm hy
  have e3 : nsum (x :: h1) = x.1 + nsum h1 := rfl
  have e4 : nsum (y :: h2) = y.1 + nsum h2 := rfl
  have e5 : nsum (h2 ++ [(x.1 + y.1, N)]) = nsum h2 + (x.1 + y.1) := by simp [nsum]
  omega

/-- how often a node is joined from here on; N: the next number -/
def bk : Nat → List (Nat × Nat) → Nat → Nat
  | _, [], _ => 0
  | N, p :: ps, n => if n = p.1 ∨ n = p.2 then bk (N + 1) ps N + 1 else bk (N + 1) ps n
def syz (Z : Zs) : List Nat := Z.flatMap (·.1.s)
theorem syz_perm {Z Y : Zs} (h : Z.Perm Y) : (syz Z).Perm (syz Y) := h.flatMap_right _
theorem run_merge {Z : Zs} {N : Nat} {ps : List (Nat × Nat)} (hr : Run Z N ps) : Wz Z N → ∀ (f : Nat) (o : List Nat), Z.length ≤ f + 1 → (syz Z).Nodup → (∀ s ∈ syz Z, s < o.length) →
    (∀ z ∈ Z, ∀ s ∈ z.1.s, oat (mergeF f (gz Z) o) s = oat o s + bk N ps z.2) ∧ (∀ s, s ∉ syz Z → oat (mergeF f (gz Z) o) s = oat o s) ∧ ∀ n, n < N → (∀ z ∈ Z, z.2 ≠ n) → bk N ps n = 0 := by
  induction hr with
  | done Z N hl =>
    intro hw f o hf hn ho
    have hm : mergeF f (gz Z) o = o := merge_one f (gz Z) o (by unfold gz; rw [List.length_map]; exact hl)
    rw [hm]
    exact ⟨fun z hz s hs => rfl, fun s hs => rfl, fun n _ _ => rfl⟩
  | step Z Z' N a b sa sb ps hl hj hg hperm hw' hps ih =>
    intro hw f o hf hn ho
    obtain ⟨wa, wb, C, E, hp, rfl⟩ := hperm
    obtain ⟨f, rfl⟩ : ∃ f', f = f' + 1 := ⟨f - 1, by omega⟩
    have hlg : ¬ (gz Z).length ≤ 1 := by unfold gz; rw [List.length_map]; omega
    have hmf : mergeF (f + 1) (gz Z) o = mergeF f (joinG (gz Z)) (incs o (grp (gz Z)).s) := by rw [mergeF, if_neg hlg]
    rw [hmf, ← hj, hg]
    have hsp : (syz Z).Perm (sa ++ (sb ++ syz (C ++ E))) := syz_perm hp
    have hsp' : (syz (C ++ E ++ [(⟨wa + wb, sa ++ sb⟩, N)])).Perm (syz Z) := by
      refine List.Perm.trans ?_ hsp.symm
      unfold syz
      rw [List.flatMap_append]
      simp only [List.flatMap_cons, List.flatMap_nil, List.append_nil]
      rw [← List.append_assoc sa]
      exact List.perm_append_comm
    have hn2 : (sa ++ (sb ++ syz (C ++ E))).Nodup := hsp.nodup_iff.1 hn
    have hnab : (sa ++ sb).Nodup := by
      rw [← List.append_assoc] at hn2
      exact (List.nodup_append.1 hn2).1
    have hdis : ∀ s ∈ sa ++ sb, s ∉ syz (C ++ E) := by
      intro s hs hs'
      rw [← List.append_assoc] at hn2
      exact (List.nodup_append.1 hn2).2.2 s hs s hs' rfl
    have hlt : ∀ s ∈ sa ++ sb, s < o.length := fun s hs => ho s (hsp.mem_iff.2 (by
      rcases List.mem_append.1 hs with h | h
      · simp [h]
      · simp [h]))
    have hinc := incs_at o (sa ++ sb) hlt hnab
    have hzl : (C ++ E ++ [((⟨wa + wb, sa ++ sb⟩ : Grp), N)]).length + 1 = Z.length := by
      have := hp.length_eq
      simp at this ⊢
      omega
    obtain ⟨i1, i2, i3⟩ := ih hw' f (incs o (sa ++ sb)) (by omega) (hsp'.nodup_iff.2 hn) (fun s hs => by rw [incs_len]; exact ho s (hsp'.mem_iff.1 hs))
    have haN : a < N := hw.lt ((⟨wa, sa⟩ : Grp), a) (hp.mem_iff.2 (List.mem_cons_self ..))
    have hbN : b < N := hw.lt ((⟨wb, sb⟩ : Grp), b) (hp.mem_iff.2 (by simp))
    have hpw : ((⟨wa, sa⟩, a) :: (⟨wb, sb⟩, b) :: (C ++ E) : Zs).Pairwise fun p q => p.2 ≠ q.2 :=
      (hp.pairwise_iff (fun {p q} h => Ne.symm h)).1 (hw.asc.imp (fun {p q} h => Nat.ne_of_lt h))
    have hna : ∀ z ∈ C ++ E, z.2 ≠ a := fun z hz => ((List.pairwise_cons.1 hpw).1 z (List.mem_cons_of_mem _ hz)).symm
    have hnb : ∀ z ∈ C ++ E, z.2 ≠ b := fun z hz => ((List.pairwise_cons.1 (List.pairwise_cons.1 hpw).2).1 z hz).symm
    have hnew : ∀ s ∈ sa ++ sb, oat (mergeF f (gz (C ++ E ++ [((⟨wa + wb, sa ++ sb⟩ : Grp), N)])) (incs o (sa ++ sb))) s = oat o s + (bk (N + 1) ps N + 1) := by
      intro s hs
      have h := i1 _ (List.mem_append_right _ (List.mem_singleton.2 rfl)) s hs
      rw [h, hinc, if_pos hs]
      simp only
      omega
    refine ⟨fun z hz s hs => ?_, fun s hs => ?_, fun n hn1 hz => ?_⟩
    · rcases List.mem_cons.1 (hp.mem_iff.1 hz) with rfl | hz
      · rw [hnew s (List.mem_append_left _ hs), bk, if_pos (.inl rfl)]
      · rcases List.mem_cons.1 hz with rfl | hz
        · rw [hnew s (List.mem_append_right _ hs), bk, if_pos (.inr rfl)]
        · rw [i1 z (List.mem_append_left _ hz) s hs, hinc, if_neg (fun h => hdis s h (List.mem_flatMap.2 ⟨z, hz, hs⟩)), bk, if_neg]
          rintro (h | h)
          · exact hna z hz h
          · exact hnb z hz h
    · rw [i2 s (fun h => hs (hsp'.mem_iff.1 h)), hinc, if_neg]
      intro h
      refine hs (hsp.mem_iff.2 ?_)
      rcases List.mem_append.1 h with h | h
      · simp [h]
      · simp [h]
    · rw [bk, if_neg]
      · refine i3 n (by omega) fun z hz' => ?_
        rcases List.mem_append.1 hz' with h | h
        · exact hz z (hp.mem_iff.2 (by simp only [List.mem_cons]; exact .inr (.inr h)))
        · simp at h
          subst h
          simp only
          omega
      · rintro (h | h)
        · exact hz _ (hp.mem_iff.2 (List.mem_cons_self ..)) h.symm
        · exact hz _ (hp.mem_iff.2 (List.mem_cons_of_mem _ (List.mem_cons_self ..))) h.symm
end Go.Proofs.YtahfmcdhcbfkaaaGreatDoor.HuffM
