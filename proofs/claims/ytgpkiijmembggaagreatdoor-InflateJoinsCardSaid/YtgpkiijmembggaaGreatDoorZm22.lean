/-
  What layer 8's laws want of the program's Press: its contract; awake out of it; the lengths that a law makes of bytes.
  Layer 8's program: Press.
  Layer 8's program: right, cut.
  Layer 8: a block that holds numbers.
-/
import Derived.Test.YtgpkiijmembggaaGreatDoorZm13
import Derived.Laws.StructEq
import Derived.Test.YtgpkiijmembggaaGreatDoorZm21
import Derived.Test.YtgpkiijmembggaaGreatDoorZm12
import Derived.Test.YtgpkiijmembggaaGreatDoorZm04
import Derived.Test.YtgpkiijmembggaaGreatDoorZm05
namespace Go.Proofs.YtgpkiijmembggaaGreatDoor
open Go.RowKit CoM Mem Go.Lib
attribute [local go_sem ↓] Go.wp_at_zero Go.wp_at_succ
set_option linter.unusedVariables false

/-- a slice reads as these items -/
def Its (w : World) (A : Option Addr) (n : Nat) (T : List It) : Prop := T.length = n ∧ ∀ k t, T[k]? = some t → ∃ g o, A = some ⟨g, o, none⟩ ∧ g < w.heap.size ∧
  w.cell? ⟨g, o + k * 3, none⟩ = some (.int .i64 (t.s : Int)) ∧ w.cell? ⟨g, o + k * 3 + 1, none⟩ = some (.int .i64 (t.b : Int)) ∧ w.cell? ⟨g, o + k * 3 + 2, none⟩ = some (.int .u64 (t.x : Int))
theorem Its.fr {S : Nat → Prop} {w w' : World} {A : Option Addr} {n : Nat} {T : List It} (h : Its w A n T) (hf : Fr S w w') (hS : ∀ g, g < w.heap.size → ¬ S g) : Its w' A n T :=
  ⟨h.1, fun k t hk => by
    obtain ⟨g, o, e, hg, h1, h2, h3⟩ := h.2 k t hk
    exact ⟨g, o, e, Nat.lt_of_lt_of_le hg hf.size, hf.cell h1 (hS g hg), hf.cell h2 (hS g hg), hf.cell h3 (hS g hg)⟩⟩
theorem flat_at8 : ∀ (T : List It) (k : Nat) (t : It), T[k]? = some t → ∀ j, j < 3 → (T.flatMap itc)[k * 3 + j]? = (itc t)[j]?
  | [], k, t, h, j, hj => by simp at h
  | s :: T, 0, t, h, j, hj => by
    simp at h
    subst h
    rw [List.flatMap_cons, List.getElem?_append_left (by simp [itc]; omega), Nat.zero_mul, Nat.zero_add]
  | s :: T, k + 1, t, h, j, hj => by
    rw [List.flatMap_cons, List.getElem?_append_right (by simp [itc]; omega)]
    have e : (k + 1) * 3 + j - (itc s).length = k * 3 + j := by simp [itc]; omega
    rw [e]
    exact flat_at8 T k t (by simpa using h) j hj
theorem OwnIt.its {w : World} {base c : Nat} {e : TypeId} {A : Option Addr} {T : List It} (h : OwnIt w base e A c T) : Its w A T.length T := by
  refine ⟨rfl, fun k t ht => ?_⟩
  have hk := (List.getElem?_eq_some_iff.1 ht).1
  rcases h.2 with ⟨hv, h0⟩ | ⟨g, cap, cur, hv, _⟩
  · injection hv with _ h1 h2
    omega
  · have hA : A = some ⟨g, 0, none⟩ := by injection hv
    subst hA
    have hc := h.cells (g := g) rfl
    have hadd : ∀ j, (⟨g, 0, none⟩ : Addr).add j = ⟨g, j, none⟩ := fun j => by unfold Addr.add; split <;> simp_all
    refine ⟨g, 0, rfl, (h.lt g rfl).2, ?_, ?_, ?_⟩
    · rw [← hadd]; exact hc _ _ (by have := flat_at8 T k t ht 0 (by omega); simpa [itc] using this)
    · rw [Nat.add_assoc, Nat.zero_add, ← hadd]; exact hc _ _ (by have := flat_at8 T k t ht 1 (by omega); simpa [itc] using this)
    · rw [Nat.add_assoc, Nat.zero_add, ← hadd]; exact hc _ _ (by have := flat_at8 T k t ht 2 (by omega); simpa [itc] using this)

/-- the program's Press answers the items, in the worlds that follow one -/
def PressC (w0 : World) : Prop := ∀ (A : Option Addr) (n c : Nat) (L : List Nat) (w : World), Fr (fun _ => False) w0 w → Rd w A n (L.map natc) → n ≤ c → c ≤ maxLen → n ≤ 1000 → (∀ x ∈ L, x ≤ 15) →
  Calls Tryz.prog 51 #[.slice A n c] w fun e w' => ∃ A' c', e = .returned (.slice A' (items L).length c') ∧ Its w' A' (items L).length (items L) ∧ Fr (fun _ => False) w w'

theorem int8T : ElemTy Tryz.prog 60 3 (.int .i64 0) 8 := ⟨Tryz.underlying60, by kernel_rfl, rfl⟩
end Go.Proofs.YtgpkiijmembggaaGreatDoor
namespace Go.Proofs.YtgpkiijmembggaaGreatDoor
open Go.RowKit CoM Mem Go.Lib
attribute [local go_sem ↓] Go.wp_at_zero Go.wp_at_succ
set_option linter.unusedVariables false

theorem itmT : ElemTyS Tryz.prog 105 133 (.agg #[.int .i64 0, .int .i64 0, .int .u64 0]) 3 24 := ⟨Tryz.underlying105, by kernel_rfl, rfl, by decide⟩

set_option maxRecDepth 100000 in
set_option maxHeartbeats 3200000 in
theorem pPress_own (A : Option Addr) (n c : Nat) (L : List Nat) (w : World) (hG : GlS w) (hr : Rd w A n (L.map natc)) (hc : n ≤ c) (hn : n ≤ 1000) (hL : ∀ x ∈ L, x ≤ 15) :
    Calls Tryz.prog 51 #[.slice A n c] w fun e w' => ∃ A' c', e = .returned (.slice A' (items L).length c') ∧ OwnIt w' w.heap.size 133 A' c' (items L) ∧ Fr (fun _ => False) w w' := by
  have hln : L.length = n := by simpa using hr.1
  have HRD := Lib.hid hr
  have HLN := Lib.hid hln
  have HLX := Lib.hid hL
  have HG := Lib.hid hG
  have HC := Lib.hid hc
  obtain ⟨base, hbase⟩ : ∃ base, base = w.heap.size := ⟨_, rfl⟩
  have HB := Lib.hid hbase
  rw [← hbase]
  obtain ⟨R, hR⟩ : ∃ R, R = items L := ⟨_, rfl⟩
  rw [← hR]
  have HRR := Lib.hid hR
  clear hr hln hbase hR hL hG hc
  go_enter Tryz.func51, Tryz.ntmps51
  go_wp2_with fail
  go_loopw [3, 4] (fun s i wr => ∃ (k : Nat) (O : List It) (A1 : Option Addr) (c1 : Nat), k ≤ n ∧ i = .int .i64 (k : Int) ∧ s = .slice A1 O.length c1 ∧ Hid (OwnIt wr base 133 A1 c1 O) ∧ O.length ≤ k ∧ Hid (O ++ pressI L (n - k) k = R) ∧ Hid (Fr (fun _ => False) w wr)) (fun _ i _ => n - (intOf i).toNat)
  case atStart => exact ⟨0, [], none, 0, Nat.zero_le _, rfl, rfl, World.ownsRow_nil _ _ _ _, by simp, by rw [HRR.out, items, HLN.out]; rfl, Fr.refl _ _⟩
  case round =>
    obtain ⟨i, O, A1, c1, hk, rfl, rfl, HO, hol, HE, HF⟩ := hrel
    rename World => wr
    by_cases hlt : i < n
    · have HRr := Lib.hid (HRD.out.fr HF.out (fun _ _ h => h))
      have hin : i < L.length := by rw [HLN.out]; exact hlt
      have hp := HE.out
      obtain ⟨f, hf⟩ : ∃ f, n - i = f + 1 := ⟨n - i - 1, by omega⟩
      rw [hf, pressI, if_pos hin] at hp
      have hz := item_pos L i hin
      obtain ⟨s, b, x, z, hit⟩ : ∃ s b x z, itemAt L i = (⟨s, b, x⟩, z) := ⟨_, _, _, _, rfl⟩
      have hch := choose_any A n c i L wr (HG.out.fr0 HF.out) HRr.out hlt HC.out hn (fun y hy => by have := HLX.out y hy; omega)
      rw [hit] at hp hz hch
      obtain ⟨hz1, hz2, hz3⟩ := hz
      rw [HLN.out] at hz2
      have HCH : Hid (Calls Tryz.prog 77 #[.slice A n c, .int .i64 (i : Int)] wr fun e w' => e = .returned (.tuple #[.agg #[.int .i64 (s : Int), .int .i64 (b : Int), .int .u64 (x : Int)], .int .i64 (z : Int)]) ∧ Fr (fun _ => False) wr w') := Lib.hid hch
      obtain ⟨O2, hO2⟩ : ∃ O2, O2 = O ++ [⟨s, b, x⟩] := ⟨_, rfl⟩
      have hO2l : O2.length = O.length + 1 := by rw [hO2]; simp
      have hE4 : O2 ++ pressI L (n - (i + z)) (i + z) = R := by
        have hm := pressI_more L (n - (i + z)) (i + z) (by have := HLN.out; omega) (z - 1)
        rw [hO2, List.append_assoc, ← hm, show n - (i + z) + (z - 1) = f by omega]
        exact hp
      have hmN : O2.length ≤ i + 1 := by omega
      have hol2 : O2.length ≤ 1001 := by omega
      have HN2 := Lib.hid (And.intro hO2 hO2l)
      have HE4 := Lib.hid hE4
      have HMN := Lib.hid hmN
      clear hf hp hit hch hO2 hO2l hE4 hmN hz3
      go_wp2_with (first
        | (refine HCH.out.mono ?_
           rintro e w2 ⟨rfl, hf2⟩
           have HF2 := Lib.hid (HF.out.trans hf2 (fun _ _ h => h))
           have HO3 := Lib.hid (HO.out.fr hf2)
           clear hf2)
        | (at_builtin; refine wpList_appS itmT _ rfl _ _ rfl base _ O.length (O.flatMap itc) rfl ((HO3.out.alloc _).alloc _) ⟨w2.heap.size + 1, 0, none⟩ 1 [.int .i64 (s : Int), .int .i64 (b : Int), .int .u64 (x : Int)] rfl rfl (cells_new8 (by simp) _ _) (it_one _ _ _) O2.length (by rw [HN2.out.2]) (by unfold maxLen; omega) (by omega) (by have h1 := HF2.out.size; have h2 := HB.out; simp; omega) ?_))
      all_goals
        intro A' c' w' hown' hcc hfr'
        have HO4 : Hid (OwnIt w' base 133 A' c' O2) := Lib.hid (by
          show w'.ownsRow base _ 3 _ _ (O2.flatMap itc)
          have e : O2.flatMap itc = O.flatMap itc ++ [.int .i64 (s : Int), .int .i64 (b : Int), .int .u64 (x : Int)] := by rw [HN2.out.1, flatI]; rfl
          rw [e]
          exact hown')
        have HF4 : Hid (Fr (fun _ => False) w w') := Lib.hid (((HF2.out.alloc _).alloc _).trans hfr' (fun b hb h => by have h1 := HO3.out.lt _ h; have h2 := HB.out; omega))
        clear hown' hfr'
        go_wp2_with fail
        exact ⟨⟨i + z, O2, A', c', by omega, by go_num, rfl, HO4.out, by have := HMN.out; omega, HE4.out, HF4.out⟩, by simp [intOf]; omega⟩
    · have hin : i = n := by omega
      have hr : O = R := by have h := HE.out; rw [hin, Nat.sub_self] at h; simpa [pressI] using h
      subst hr
      go_wp2_with fail
      go_ret
      exact ⟨A1, c1, rfl, HO.out, HF.out⟩
theorem pPress_any (w0 : World) (hG : GlS w0) : PressC w0 := by
  intro A n c L w hf hr hc hcm hn hL
  refine (pPress_own A n c L w (hG.fr0 hf) hr hc hn hL).mono ?_
  rintro e w' ⟨A', c', rfl, hO, hf'⟩
  exact ⟨A', c', rfl, hO.its, hf'⟩
end Go.Proofs.YtgpkiijmembggaaGreatDoor
namespace Go.Proofs.YtgpkiijmembggaaGreatDoor
open Go.RowKit CoM Mem Go.Lib
attribute [local go_sem ↓] Go.wp_at_zero Go.wp_at_succ
set_option linter.unusedVariables false
set_option maxRecDepth 100000

set_option maxHeartbeats 1600000 in
theorem pRight8_any (A : Option Addr) (n c a b : Nat) (L : List Nat) (w : World) (hr : Rd w A n (L.map natc)) (hL : ∀ x ∈ L, x ≤ 15) (ha : a ≤ n) (hb : n ≤ b) (hb2 : b ≤ 1000) :
    Calls Tryz.prog 49 #[.slice A n c, .int .i64 (a : Int), .int .i64 (b : Int)] w fun e w' => e = .returned (.bool true) ∧ w = w' := by
  have hln : L.length = n := by simpa using hr.1
  have HR := Lib.hid hr
  have HLN := Lib.hid hln
  have HLX := Lib.hid hL
  have t1 : decide ((n : Int) ≥ (a : Int)) = true := by simp; omega
  have t2 : decide ((a : Int) ≤ (n : Int)) = true := by simp; omega
  have t3 : decide ((n : Int) ≤ (b : Int)) = true := by simp; omega
  have t1q : decide (a ≤ n) = true := by simp; omega
  have t3q : decide (n ≤ b) = true := by simp; omega
  clear hr hln hL
  go_enter Tryz.func49, Tryz.ntmps49
  go_wp2_with fail
  go_loop [11] (fun i => ∃ k : Nat, k ≤ n ∧ i = .int .i64 (k : Int)) (fun i => n - (intOf i).toNat)
  case atStart => exact ⟨0, Nat.zero_le _, rfl⟩
  case round =>
    obtain ⟨k, hk, rfl⟩ := hrel
    by_cases hlt : k < n
    · obtain ⟨ad, rfl, hc1⟩ := nat_cell HR.out hlt
      obtain ⟨v, hv⟩ : ∃ v, v = L[k]! := ⟨_, rfl⟩
      have hv15 : v ≤ 15 := by rw [hv, getElem!_pos L k (by rw [HLN.out]; exact hlt)]; exact HLX.out _ (List.getElem_mem _)
      rw [← hv] at hc1
      have u1 : decide ((v : Int) < 0) = false := by simp
      have u2 : decide ((v : Int) > 15) = false := by simp; omega
      have u3 : decide (15 < (v : Int)) = false := by simp; omega
      have u4 : decide (15 < v) = false := by simp; omega
      clear hv
      go_wp2_with fail
      exact ⟨⟨k + 1, by omega, by go_num⟩, by simp [intOf]; omega⟩
    · have hkn : k = n := by omega
      subst hkn
      go_wp2_with fail
      go_ret
      exact ⟨rfl, rfl⟩

/-- 'l[:y:y]' -/
theorem run_to3 (A : Option Addr) (n c y : Nat) (hy : y ≤ n) (hn : n ≤ c) (w' : World) :
    (Instr.sliceAt 60 (.slice A n c) none (some (.int .i64 (y : Int))) (some (.int .i64 (y : Int)))).run Tryz.prog w' = .ok (.slice A y y) w' := by
  have h0 := cutAt_zero A y
  unfold cutAt at h0
  cases A with
  | none =>
    go_simp
    intro h
    omega
  | some ad =>
    simp only [Option.map_some] at h0
    go_simp
    try (rw [h0])
    try (intro h; omega)
    try (refine ⟨fun h => ?_, fun h => ?_⟩ <;> omega)

set_option maxHeartbeats 1600000 in
theorem pCut8_any (A : Option Addr) (n c m : Nat) (L : List Nat) (w : World) (hr : Rd w A n (L.map natc)) (hc : n ≤ c) (hn : n ≤ 1000) (hm : m ≤ n) :
    Calls Tryz.prog 50 #[.slice A n c, .int .i64 (m : Int)] w fun e w' => e = .returned (.slice A (trimL L m).length (trimL L m).length) ∧ (trimL L m).length ≤ n ∧ w = w' := by
  have hln : L.length = n := by simpa using hr.1
  obtain ⟨T, hT⟩ : ∃ T, T = trimN L m (n - m) := ⟨_, rfl⟩
  have hTl : (trimL L m).length = T := by
    have := trimN_le L m (n - m)
    rw [trimL, List.length_take, hln, ← hT]
    omega
  have hTn : T ≤ n := by have := trimN_le L m (n - m); omega
  rw [hTl]
  have HR := Lib.hid hr
  have HLN := Lib.hid hln
  have HT := Lib.hid hT
  have hs := run_to3 A n c T hTn hc
  clear hr hln hT hTl
  go_enter Tryz.func50, Tryz.ntmps50
  go_wp2_with fail
  go_loop [5] (fun i => ∃ k : Nat, m + k ≤ n ∧ i = .int .i64 ((m + k : Nat) : Int) ∧ Hid (T = trimN L m k)) (fun i => (intOf i).toNat)
  case atStart => exact ⟨n - m, by omega, by congr 2; omega, HT.out⟩
  case round =>
    obtain ⟨k, hk, rfl, HK⟩ := hrel
    cases k with
    | zero =>
      have hTm : T = m := HK.out
      rw [Nat.add_zero]
      subst hTm
      go_wp2_with fail
      go_ret
      exact ⟨rfl, rfl⟩
    | succ k =>
      obtain ⟨i, hi⟩ : ∃ i, i = m + k := ⟨_, rfl⟩
      rw [show m + (k + 1) = i + 1 by omega]
      obtain ⟨ad, rfl, hc1⟩ := nat_cell HR.out (k := i) (by omega)
      have hmi : m ≤ i := by omega
      have hin : i < n := by omega
      have g1 : decide ((i + 1 : Nat) > m) = true := by simp; omega
      by_cases hv : L[i]! = 0
      · rw [hv] at hc1
        replace hc1 : w.cell? (ad.add i) = some (.int .i64 0) := hc1
        have HK2 : Hid (T = trimN L m k) := Lib.hid (by have h := HK.out; rw [trimN, ← hi, if_pos hv] at h; exact h)
        have HI := Lib.hid hi
        clear hv hi
        go_wp2_with fail
        exact ⟨⟨k, by have := HI.out; omega, by have := HI.out; first | go_num | (congr 1; omega), HK2.out⟩, by simp [intOf]⟩
      · obtain ⟨v, hvv⟩ : ∃ v, v = L[i]! := ⟨_, rfl⟩
        rw [← hvv] at hc1 hv
        have hTi : T = i + 1 := by have h := HK.out; rw [trimN, ← hi, ← hvv, if_neg hv] at h; exact h
        have t2 : ((v : Int) == 0) = false := by simp; omega
        subst hTi
        clear hvv hi
        go_wp2_with fail
        go_ret
        exact ⟨rfl, rfl⟩
end Go.Proofs.YtgpkiijmembggaaGreatDoor
namespace Go.Proofs.YtgpkiijmembggaaGreatDoor
open Go.RowKit Mem Go.Lib

/-- block g holds these numbers -/
def NR (w : World) (g : Nat) (L : List Nat) : Prop := Row w g 3 (L.map natc)
theorem NR.zeros (w : World) (m : Nat) : NR (w.alloc (.cells (Array.replicate m (.int .i64 0)) 3)) w.heap.size (List.replicate m 0) := by
  have h := Row.new w 3 (List.replicate m (Value.int .i64 0))
  rw [List.toArray_replicate] at h
  unfold NR
  rw [List.map_replicate]
  exact h
theorem NR.at_ {w : World} {g : Nat} {L : List Nat} (h : NR w g L) {i : Nat} (hi : i < L.length) : w.cell? ⟨g, i, none⟩ = some (.int .i64 ((L[i]! : Nat) : Int)) := by
  refine Row.cell h ?_
  rw [List.getElem?_map, List.getElem?_eq_getElem hi, getElem!_pos L i hi]
  rfl
theorem NR.set {w : World} {g : Nat} {L : List Nat} (h : NR w g L) (i x : Nat) : NR (w.setCell ⟨g, i, none⟩ (.int .i64 (x : Int))) g (L.set i x) := by
  have := Row.set h i (natc x)
  rw [← List.map_set] at this
  exact this
theorem NR.rd {w : World} {g : Nat} {L : List Nat} (h : NR w g L) : Rd w (some ⟨g, 0, none⟩) L.length (L.map natc) := by
  have := Row.rd h 0 L.length (by simp)
  rw [List.drop_zero, List.take_of_length_le (by simp)] at this
  exact this
theorem fill_next {k i x : Nat} (h : i < k) : (List.replicate i x ++ List.replicate (k - i) 0).set i x = List.replicate (i + 1) x ++ List.replicate (k - (i + 1)) 0 := by
  obtain ⟨r, hr⟩ : ∃ r, k - i = r + 1 := ⟨k - i - 1, by omega⟩
  rw [hr, List.set_append_right _ _ (by simp), List.length_replicate, Nat.sub_self, List.replicate_succ, List.set_cons_zero, List.replicate_succ', show k - (i + 1) = r by omega, List.append_assoc]
  rfl
end Go.Proofs.YtgpkiijmembggaaGreatDoor
