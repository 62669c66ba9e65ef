/-
  Layer 6, the program: match (written by gen_match2.py).
  The innermost loop of layer 6's reference Press, as a theorem of its own (written by gen_lenloop.py).
  Contract of layer 6's reference: Press (written by gen_press.py).
  Layer 6, the program: Press (written by gen_ppress.py).
-/
import Derived.Test.YtgpkiijmembggaaGreatDoorLzJ
import Derived.Test.YtgpkiijmembggaaGreatDoorZm05
import Derived.Test.YtgpkiijmembggaaGreatDoorZm12
import Derived.Deep.DrawnRows
import Derived.StillTailTactics
import Derived.Deep.QuietTactic
import Derived.BigQuiet
namespace Go.Proofs.YtgpkiijmembggaaGreatDoor
open Go.RowKit LzM LzN Mem Go.Lib
set_option linter.unusedVariables false

set_option maxRecDepth 100000 in
set_option maxHeartbeats 3200000 in
theorem match_any (p m q a c : Nat) (A : Option Addr) (B : List UInt8) (V : List Int) (w : World) (hP : Past w p A c B m q a V) (hB : Rd w A B.length (B.map bytec)) (hn : B.length ≤ 1000000) (hc : B.length ≤ c) (hcm : c ≤ maxLen) (han : a < B.length) :
    Calls Tryz.prog 27 #[.pointer (some ⟨p, 0, none⟩), .int .i64 (a : Int)] w fun e w' => e = .returned (.tuple #[.int .i64 ((matchR B a).1 : Int), .int .i64 ((matchR B a).2 : Int)]) ∧ Fr (fun _ => False) w w' := by
  have c0 := hP.c0
  have HP := Lib.hid hP
  have HB := Lib.hid hB
  have HN : Hid (B.length ≤ 1000000 ∧ B.length ≤ c ∧ c ≤ maxLen) := Lib.hid ⟨hn, hc, hcm⟩
  obtain ⟨n, hnn⟩ : ∃ n, n = B.length := ⟨_, rfl⟩
  have HNN := Lib.hid hnn
  rw [← hnn] at c0 hn han
  obtain ⟨M, hM⟩ : ∃ M, M = n - a := ⟨_, rfl⟩
  have eM : (n : Int) - (a : Int) = (M : Int) := by omega
  have ha1 : a ≤ 1000000 := by omega
  have hM1 : M ≤ 1000000 := by omega
  have HM := Lib.hid hM
  clear hP hB hc hcm hnn hM
  by_cases h3 : M < 3
  · have hMi : (M : Int) < 258 := by omega
    go_enter Tryz.func27, Tryz.ntmps27
    go_wp2_with fail
    have e : matchR B a = (0, 0) := by unfold matchR; rw [if_neg (by have h1 := HNN.out; have h2 := HM.out; omega)]
    rw [e]
    exact bodyPost_ret (v := .tuple #[.int .i64 0, .int .i64 0]) (by simp [results, Tryz.results27, go_sem]) rfl ⟨rfl, Fr.refl _ _⟩
  · have HA : Hid (a + 3 ≤ B.length) := Lib.hid (by have h1 := HNN.out; have h2 := HM.out; omega)
    have hnear : Calls Tryz.prog 44 #[.pointer (some ⟨p, 0, none⟩), .int .i64 (a : Int)] w fun e w' => e = .returned (.int .i64 (prevI B a)) ∧ Fr (fun _ => False) w w' :=
      nearest_any p A B.length c m a B _ a w HP.out.c0 HP.out.c1 HP.out.mp HB.out HA.out HN.out.1 HN.out.2.1 HN.out.2.2
    have HNEAR := Lib.hid hnear
    clear hnear
    by_cases hm : M < 258
    · have hMi : (M : Int) < 258 := by omega
      obtain ⟨MM, hMM⟩ : ∃ MM, MM = M := ⟨_, rfl⟩
      have HMM : Hid (MM = min 258 (B.length - a)) := Lib.hid (by rw [← HNN.out, ← HM.out, hMM]; omega)
      rw [← hMM] at eM hMi h3
      clear hMM
      go_enter Tryz.func27, Tryz.ntmps27
      go_wp2_with fail
      refine HNEAR.out.mono ?_
      rintro e w2 ⟨rfl, hf2⟩
      have HF2 := Lib.hid hf2
      have HP2 := Lib.hid (HP.out.fr hf2 (fun _ _ h => h))
      have HB2 := Lib.hid (HB.out.fr hf2 (fun _ _ h => h))
      clear hf2
      go_wp2_with fail
      refine match_loop _ _ _ _ _ _ _ _ _ _ _ _ _ _ _ _ _ _ _ _ _ _ _ _ _ _ _ _ _ _ _ _ _ _ _ _ _ _ _ _ _ _ _ _ _ _ _ _ _ _ _ _ _ _ _ _ _ _ _ _ _ _ _ _ _ _ _ _ _ _ _ _ _ _ _ _ _ _ p m q a c MM A B V _ HP2 HB2 HN HMM HA ?_
      intro w3 L D r7 r8 r22 r23 r24 r25 r26 r27 r28 r29 r30 r31 r32 r33 r34 r35 r36 r37 r38 r39 r40 r41 r42 r43 r44 r45 r46 r47 r48 r49 r50 r51 r52 r53 r54 r55 r56 r57 r58 r59 r60 r61 r62 r63 r64 r65 r66 r67 r68 r69 r70 r71 r72 r73 r74 r75 r76 r77 r78 r79 r80 hLD hf3
      have HF3 := Lib.hid (HF2.out.trans hf3 (fun _ _ h => h))
      have HR : Hid ((L, D) = matchR B a) := Lib.hid (by unfold matchR; rw [if_pos HA.out]; exact hLD)
      clear hLD hf3
      go_wp2_with fail
      have e1 : (matchR B a).1 = L := by rw [← HR.out]
      have e2 : (matchR B a).2 = D := by rw [← HR.out]
      rw [e1, e2]
      exact bodyPost_ret (v := .tuple #[.int .i64 (L : Int), .int .i64 (D : Int)]) (by simp [results, Tryz.results27, go_sem]) rfl ⟨rfl, HF3.out⟩
    · have hMi : 258 ≤ (M : Int) := by omega
      obtain ⟨MM, hMM⟩ : ∃ MM, MM = 258 := ⟨_, rfl⟩
      have HMM : Hid (MM = min 258 (B.length - a)) := Lib.hid (by rw [← HNN.out, ← HM.out, hMM]; omega)
      have hcast : (258 : Int) = (MM : Int) := by omega
      have HC := Lib.hid hcast
      clear hMM hcast
      go_enter Tryz.func27, Tryz.ntmps27
      go_wp2_with fail
      refine HNEAR.out.mono ?_
      rintro e w2 ⟨rfl, hf2⟩
      have HF2 := Lib.hid hf2
      have HP2 := Lib.hid (HP.out.fr hf2 (fun _ _ h => h))
      have HB2 := Lib.hid (HB.out.fr hf2 (fun _ _ h => h))
      clear hf2
      go_wp2_with fail
      rw [HC.out]
      refine match_loop _ _ _ _ _ _ _ _ _ _ _ _ _ _ _ _ _ _ _ _ _ _ _ _ _ _ _ _ _ _ _ _ _ _ _ _ _ _ _ _ _ _ _ _ _ _ _ _ _ _ _ _ _ _ _ _ _ _ _ _ _ _ _ _ _ _ _ _ _ _ _ _ _ _ _ _ _ _ p m q a c MM A B V _ HP2 HB2 HN HMM HA ?_
      intro w3 L D r7 r8 r22 r23 r24 r25 r26 r27 r28 r29 r30 r31 r32 r33 r34 r35 r36 r37 r38 r39 r40 r41 r42 r43 r44 r45 r46 r47 r48 r49 r50 r51 r52 r53 r54 r55 r56 r57 r58 r59 r60 r61 r62 r63 r64 r65 r66 r67 r68 r69 r70 r71 r72 r73 r74 r75 r76 r77 r78 r79 r80 hLD hf3
      have HF3 := Lib.hid (HF2.out.trans hf3 (fun _ _ h => h))
      have HR : Hid ((L, D) = matchR B a) := Lib.hid (by unfold matchR; rw [if_pos HA.out]; exact hLD)
      clear hLD hf3
      go_wp2_with fail
      have e1 : (matchR B a).1 = L := by rw [← HR.out]
      have e2 : (matchR B a).2 = D := by rw [← HR.out]
      rw [e1, e2]
      exact bodyPost_ret (v := .tuple #[.int .i64 (L : Int), .int .i64 (D : Int)]) (by simp [results, Tryz.results27, go_sem]) rfl ⟨rfl, HF3.out⟩
end Go.Proofs.YtgpkiijmembggaaGreatDoor
namespace Go.Proofs.YtgpkiijmembggaaGreatDoor
open Go.RowKit LzM Mem Go.Lib
attribute [local go_sem ↓] Go.wp_at_zero Go.wp_at_succ
set_option linter.unusedVariables false

end Go.Proofs.YtgpkiijmembggaaGreatDoor
namespace Go.Proofs.YtgpkiijmembggaaGreatDoor
open Go.RowKit LzM Mem Go.Lib
set_option linter.unusedVariables false

theorem tokT : ElemTyS Tryz.prog 40 71 (.agg #[.int .u8 0, .int .i64 0, .int .i64 0]) 3 24 := ⟨Tryz.underlying40, by kernel_rfl, rfl, by decide⟩
theorem tcells_one (t : Tok) : ∀ u ∈ tcells t, u.oneCell' = true := by
  intro u hu
  simp [tcells] at hu
  rcases hu with rfl | rfl | rfl <;> rfl
theorem flat_len (l : List Tok) : (l.flatMap tcells).length = l.length * 3 := by
  induction l with
  | nil => rfl
  | cons x l ih => rw [List.flatMap_cons, List.length_append, ih]; simp [tcells]; omega
/-- a slice of one's own holds these tokens -/
def OwnT (w : World) (base : Nat) (A : Option Addr) (c : Nat) (T : List Tok) : Prop := w.ownsRow base 71 3 (.slice A T.length c) T.length (T.flatMap tcells)
theorem OwnT.nil (w : World) (base : Nat) : OwnT w base none 0 [] := World.ownsRow_nil _ _ _ _
theorem OwnT.fr {w w' : World} {base c : Nat} {A : Option Addr} {T : List Tok} (h : OwnT w base A c T) (hf : Fr (fun _ => False) w w') : OwnT w' base A c T := hf.own h (fun _ _ h => h)
theorem OwnT.base {w : World} {b b' c : Nat} {A : Option Addr} {T : List Tok} (h : OwnT w b A c T) (hb : b' ≤ b) : OwnT w b' A c T := own_base h hb
theorem OwnT.cap {w : World} {base c : Nat} {A : Option Addr} {T : List Tok} (h : OwnT w base A c T) : T.length ≤ c ∧ c ≤ maxLen := ⟨(own_cap h).2.1, (own_cap h).2.2⟩
theorem new_cells {w : World} {k : Nat} (hk : k = w.heap.size) (xs : List Value) (t : TypeId) : ∀ j x, xs[j]? = some x → (w.alloc (.cells xs.toArray t)).cell? ((⟨k, 0, none⟩ : Addr).add j) = some x := by
  subst hk
  intro j x hx
  have hl : 0 < xs.length := by have := (List.getElem?_eq_some_iff.1 hx).1; omega
  obtain ⟨ad, e, h⟩ := (Rd.cells rfl xs t).2 hl
  injection e with e
  subst e
  exact h j x hx
theorem best_step {B : List UInt8} {i d a b : Nat} (hd : 1 ≤ d) (h : (a, b) = best B i (d - 1)) : best B i d = if a < len B i d then (len B i d, d) else (a, b) := by
  obtain ⟨k, rfl⟩ : ∃ k, d = k + 1 := ⟨d - 1, by omega⟩
  rw [Nat.add_sub_cancel] at h
  rw [best, ← h]

end Go.Proofs.YtgpkiijmembggaaGreatDoor
namespace Go.Proofs.YtgpkiijmembggaaGreatDoor
open Go.RowKit LzM LzN Mem Go.Lib
set_option linter.unusedVariables false

theorem OwnT.apart {w : World} {base c1 p c m q a : Nat} {A1 A : Option Addr} {T : List Tok} {B : List UInt8} {V : List Int} (h : OwnT w base A1 c1 T) (hP : Past w p A c B m q a V) : ∀ k, (Value.slice A1 T.length c1).ownBlock = some k → ¬ (k = m ∨ k = q) := by
  intro k hk
  have hq : w.heap[q]? = _ := hP.row
  obtain ⟨es, cl, hm⟩ := hP.mp.blk
  rintro (rfl | rfl)
  · rcases h.2 with ⟨hv, _⟩ | ⟨g', cap, cur, hv, _, hh, _⟩
    · rw [hv] at hk; cases hk
    · rw [hv] at hk
      obtain rfl : g' = k := by simpa [Value.ownBlock] using hk
      rw [hm] at hh
      cases hh
  · exact own_ne h hq (by decide) hk
theorem OwnT.apart2 {w : World} {base c1 p c m q a : Nat} {A1 A : Option Addr} {T : List Tok} {B : List UInt8} {V : List Int} (h : OwnT w base A1 c1 T) (hP : Past w p A c B m q a V) : ∀ k, (Value.slice A1 T.length c1).ownBlock = some k → k ≠ p := by
  intro k hk e
  subst e
  have hp : w.heap[k]? = _ := hP.blk
  exact own_ne h hp (by decide) hk
theorem one3 (u l d : Int) : ∀ v ∈ [Value.int .u8 u, .int .i64 l, .int .i64 d], v.oneCell' = true := by
  intro v hv
  simp at hv
  rcases hv with rfl | rfl | rfl <;> rfl
theorem flat1 (O : List Tok) (t : Tok) : (O ++ [t]).flatMap tcells = O.flatMap tcells ++ tcells t := by rw [List.flatMap_append]; simp

set_option maxRecDepth 100000 in
set_option maxHeartbeats 3200000 in
theorem pPressT_any (A : Option Addr) (n c : Nat) (B : List UInt8) (w : World) (hB : Rd w A n (B.map bytec)) (hn : n ≤ 1000000) (hc : n ≤ c) (hcm : c ≤ maxLen) :
    Calls Tryz.prog 14 #[.slice A n c] w fun e w' => ∃ A' c', e = .returned (.slice A' (press B).length c') ∧ OwnT w' w.heap.size A' c' (press B) ∧ Fr (fun _ => False) w w' := by
  have hln : B.length = n := by simpa using hB.1
  obtain ⟨base, hbase⟩ : ∃ base, base = w.heap.size := ⟨_, rfl⟩
  have HBS := Lib.hid hbase
  rw [← hbase]
  obtain ⟨R, hR⟩ : ∃ R, R = press B := ⟨_, rfl⟩
  rw [← hR]
  have HRR := Lib.hid hR
  have HBW : Hid (∀ ad, A = some ad → 0 < n → ad.block < base) := Lib.hid (fun ad e h => by rw [hbase]; exact hB.lt h ad e)
  have HR := Lib.hid hB
  have HLN := Lib.hid hln
  have HC := Lib.hid (And.intro hc hcm)
  clear hB hln hbase hR hc hcm
  go_enter Tryz.func14, Tryz.ntmps14
  go_wp2_with fail
  refine (begin_any A n c B w HR.out hn).mono ?_
  rintro e w1 ⟨p, m, q, V0, rfl, hP0, hp, hm, hq, hf1⟩
  have HP0 := Lib.hid hP0
  have HF1 := Lib.hid hf1
  have HNEW : Hid (base ≤ p ∧ base ≤ m ∧ base ≤ q) := Lib.hid (by rw [HBS.out]; exact ⟨hp, hm, hq⟩)
  clear hP0 hf1 hp hm hq
  go_wp2_with fail
  go_loopw [3, 5] (fun s i wr => ∃ (k : Nat) (O : List Tok) (A1 : Option Addr) (c1 : Nat) (V : List Int), k ≤ n ∧ i = .int .i64 (k : Int) ∧ s = .slice A1 O.length c1 ∧ Hid (OwnT wr base A1 c1 O) ∧ O.length ≤ k ∧ Hid (O ++ pressF B (n - k) k = R) ∧ Hid (Past wr p A c B m q k V) ∧ Hid (Fr (fun _ => False) w wr)) (fun _ i _ => n - (intOf i).toNat)
  case atStart => exact ⟨0, [], none, 0, V0, Nat.zero_le _, rfl, rfl, World.ownsRow_nil _ _ _ _, by simp, by rw [HRR.out, press, HLN.out]; rfl, HP0.out, HF1.out⟩
  case round =>
    obtain ⟨i, O, A1, c1, V, hk, rfl, rfl, HO, hol, HE, HP, HF⟩ := hrel
    rename World => wr
    by_cases hlt : i < n
    · obtain ⟨ad, rfl, h1⟩ := rd_byte (HR.out.fr HF.out (fun _ _ h => h)) hlt
      obtain ⟨b1, hb1⟩ : ∃ b1, b1 = B[i]! := ⟨_, rfl⟩
      rw [← hb1] at h1
      obtain ⟨u, hu⟩ : ∃ u, u = b1.toNat := ⟨_, rfl⟩
      rw [← hu] at h1
      have HU := Lib.hid hu
      have HB1 := Lib.hid hb1
      clear hu hb1
      go_wp2_with fail
      obtain ⟨w2, hw2⟩ : ∃ w2, wr.alloc (.cells #[.int .u8 (u : Int), .int .i64 0, .int .i64 0] 71) = w2 := ⟨_, rfl⟩
      rw [hw2]
      obtain ⟨g, hg⟩ : ∃ g, wr.heap.size = g := ⟨_, rfl⟩
      rw [hg]
      have hf2 : Fr (fun _ => False) wr w2 := by rw [← hw2]; exact (Fr.refl _ _).alloc _
      have hg2 : w2.heap[g]? = some (.cells #[.int .u8 (u : Int), .int .i64 0, .int .i64 0] 71 (0, 0)) := by rw [← hw2, ← hg]; exact heap_alloc_new wr _
      have HP2 := Lib.hid (HP.out.fr hf2 (fun _ _ h => h))
      have hR2 : Rd w2 (some ad) B.length (B.map bytec) := by rw [HLN.out]; exact (HR.out.fr (HF.out.trans hf2 (fun _ _ h => h)) (fun _ _ h => h))
      refine (match_any p m q i c (some ad) B V w2 HP2.out hR2 (by rw [HLN.out]; exact hn) (by rw [HLN.out]; exact HC.out.1) HC.out.2 (by rw [HLN.out]; exact hlt)).mono ?_
      rintro e w3 ⟨rfl, hf3⟩
      have hf23 := hf2.trans hf3 (fun _ _ h => h)
      have HF3 := Lib.hid (HF.out.trans hf23 (fun _ _ h => h))
      have HP3 := Lib.hid (HP.out.fr hf23 (fun _ _ h => h))
      have hO3 : OwnT w3 base A1 c1 O := HO.out.fr hf23
      have HO3 := Lib.hid hO3
      have hg3 := hf3.blk hg2 (fun h => h)
      have HG3 := Lib.hid hg3
      have HGO : Hid (∀ k, (Value.slice A1 O.length c1).ownBlock = some k → k ≠ g) := Lib.hid (fun k hk e => by have := HO.out.lt k hk; omega)
      have HGP : Hid (p ≠ g ∧ m ≠ g ∧ q ≠ g ∧ w.heap.size ≤ g) := Lib.hid (by
        have a1 := lt_of_heap (show wr.heap[p]? = _ from HP.out.blk)
        have a2 := HP.out.mp.lt
        have a3 := lt_of_heap (show wr.heap[q]? = _ from HP.out.row)
        have a4 := HF.out.size
        exact ⟨by omega, by omega, by omega, by omega⟩)
      have HPOS := Lib.hid (hO3.apart2 HP3.out)
      have k0 : w3.cell? ⟨g, 0, none⟩ = some (.int .u8 (u : Int)) := by rw [cell_of_row _ _ _ _ _ _ hg3]; rfl
      have k1 : w3.cell? ⟨g, 1, none⟩ = some (.int .i64 0) := by rw [cell_of_row _ _ _ _ _ _ hg3]; rfl
      have k2 : w3.cell? ⟨g, 2, none⟩ = some (.int .i64 0) := by rw [cell_of_row _ _ _ _ _ _ hg3]; rfl
      obtain ⟨L, hL⟩ : ∃ L, L = (matchR B i).1 := ⟨_, rfl⟩
      obtain ⟨D, hD⟩ : ∃ D, D = (matchR B i).2 := ⟨_, rfl⟩
      rw [← hL, ← hD]
      have hin : i < B.length := by rw [HLN.out]; exact hlt
      have hp := HE.out
      obtain ⟨f, hf⟩ : ∃ f, n - i = f + 1 := ⟨n - i - 1, by omega⟩
      rw [hf, pressF, if_pos hin, ← HB1.out] at hp
      have HHF := Lib.hid hf
      have hsum := best_in B i (Nat.le_of_lt hin) (min i 32768)
      have hbl := best_le B i (min i 32768)
      clear hw2 hg hf2 hg2 hR2 hf3 hf23 hO3 hg3 h1 hf
      by_cases hf3 : (find B i).1 < 3
      · have hD0 : D = 0 := by rw [hD]; exact match_no B i hf3
        rw [if_pos hf3] at hp
        have HHP := Lib.hid hp
        subst hD0
        clear hp hL hD hf3 hin hsum hbl

        obtain ⟨S, hS⟩ : ∃ S, S = 1 := ⟨_, rfl⟩
        have hS1 : S ≤ 258 := by omega
        have hSn : i + S ≤ n := by omega
        have hSp : 1 ≤ S := by omega
        have HSS := Lib.hid hS
        have HSIZE : Hid (∀ w : World, Calls Tryz.prog 28 #[.agg #[(.int .u8 (u : Int)), (.int .i64 0), (.int .i64 0)]] w fun e w' => e = .returned (.int .i64 (S : Int)) ∧ Fr (fun _ => False) w w') := Lib.hid (fun w => by rw [HU.out, hS]; exact size_any (lit b1) w)
        obtain ⟨O2, hO2⟩ : ∃ O2, O2 = O ++ [lit b1] := ⟨_, rfl⟩
        have hO2l : O2.length = O.length + 1 := by rw [hO2]; simp
        have hol2 : O2.length ≤ 1000001 := by omega
        have hmN : O2.length ≤ i + 1 := by omega
        have HN2 := Lib.hid (And.intro hO2 hO2l)
        have HMN := Lib.hid hmN
        have HOX := Lib.hid HO3.out
        have HFX := HF3
        clear hO2 hO2l hmN hS
        go_wp2_with (at_builtin; refine wpList_appS tokT _ rfl _ _ rfl base _ O.length (O.flatMap tcells) rfl (HOX.out.alloc _) ⟨w3.heap.size, 0, none⟩ 1 [.int .u8 (u : Int), .int .i64 0, .int .i64 0] rfl rfl (new_cells rfl _ _) (one3 _ _ _) O2.length (by rw [HN2.out.2]) (by unfold maxLen; omega) (by omega) (by have h1 := HFX.out.size; have h2 := HBS.out; simp; omega) ?_)
        all_goals
          intro A' c' w5 hown' hcc hfr'
          have HF5 : Hid (Fr (fun _ => False) w w5) := (HF3.out.trans ((Fr.refl (fun _ => False) _).alloc _) (fun _ _ h => h)).trans hfr' (fun b hb h => by have h1 := HOX.out.lt _ h; have h2 := HBS.out; omega)
          have HO5 : Hid (OwnT w5 base A' c' O2) := by
            show w5.ownsRow base _ 3 _ _ (O2.flatMap tcells)
            have e : O2.flatMap tcells = O.flatMap tcells ++ [(.int .u8 (u : Int)), (.int .i64 0), (.int .i64 0)] := by rw [HN2.out.1, flat1, HU.out]; rfl
            rw [e]
            exact hown'
          have hab := HO3.out.apart HP3.out
          have HP5 := Lib.hid ((HP3.out.fr ((Fr.refl (fun _ => False) _).alloc _) (fun _ _ h => h)).fr hfr' (fun b hb h => (by
            rcases hb with rfl | hb
            · exact HPOS.out _ h rfl
            · exact hab b h hb)))
          have hg5 := hfr'.blk (((Fr.refl (fun _ => False) _).alloc _).blk HG3.out (fun h => h)) (fun h => HGO.out _ h rfl)
          have k0 : w5.cell? ⟨g, 0, none⟩ = some (.int .u8 (u : Int)) := by rw [cell_of_row _ _ _ _ _ _ hg5]; rfl
          have k1 : w5.cell? ⟨g, 1, none⟩ = some (.int .i64 0) := by rw [cell_of_row _ _ _ _ _ _ hg5]; rfl
          have k2 : w5.cell? ⟨g, 2, none⟩ = some (.int .i64 0) := by rw [cell_of_row _ _ _ _ _ _ hg5]; rfl
          clear hown' hfr' hab hg5
          go_wp2_with fail
          refine (HSIZE.out w5).mono ?_
          rintro e w6 ⟨rfl, hf6⟩
          have HF6 := Lib.hid (HF5.out.trans hf6 (fun _ _ h => h))
          have HO6 := Lib.hid (HO5.out.fr hf6)
          have HP6 := Lib.hid (HP5.out.fr hf6 (fun _ _ h => h))
          clear hf6 k0 k1 k2
          go_wp2_with fail
          go_loopw [5, 37] (fun at_ x wy => ∃ (j y : Nat) (V2 : List Int), j ≤ S ∧ y = i + j ∧ at_ = .int .i64 (y : Int) ∧ x = .int .i64 (j : Int) ∧ Hid (OwnT wy base A' c' O2) ∧ Hid (Past wy p (some ad) c B m q y V2) ∧ Hid (Fr (fun _ => False) w wy)) (fun _ x _ => S - (intOf x).toNat)
          case atStart => exact ⟨0, i, V, Nat.zero_le _, rfl, rfl, rfl, HO6.out, HP6.out, HF6.out⟩
          case round =>
            obtain ⟨j, y, V2, hj, hy, rfl, rfl, HOy, HPy, HFy⟩ := hrel
            rename World => wy
            by_cases hjS : j < S
            · have hyn : y < n := by omega
              have HY := Lib.hid hy
              clear hy
              go_wp2_with fail
              refine (pass_any p m q y c (some ad) B V2 wy HPy.out (by rw [HLN.out]; exact HR.out.fr HFy.out (fun _ _ h => h)) (by rw [HLN.out]; exact hn) (by rw [HLN.out]; exact HC.out.1) HC.out.2 (by rw [HLN.out]; exact hyn) (fun ad2 e => by have h1 := HBW.out ad2 e (by omega); have h2 := HNEW.out; omega)).mono ?_
              rintro e w7 ⟨V3, rfl, hP7, hf7⟩
              have HP7 := Lib.hid hP7
              have HF7 : Hid (Fr (fun _ => False) w w7) := Lib.hid (HFy.out.trans hf7 (fun b hb h => by have h1 := HNEW.out; have h2 := HBS.out; omega))
              have HO7 : Hid (OwnT w7 base A' c' O2) := Lib.hid (hf7.own HOy.out (HOy.out.apart HPy.out))
              clear hP7 hf7
              go_wp2_with fail
              exact ⟨⟨j + 1, y + 1, V3, by omega, by have := HY.out; omega, by go_num, by go_num, HO7.out, HP7.out, HF7.out⟩, by simp [intOf]; omega⟩
            · obtain rfl : j = S := by omega
              have hE : Hid (O2 ++ pressF B (n - y) y = R) := Lib.hid (by
                    rw [hy]
                    rw [HSS.out, HN2.out.1, List.append_assoc, show n - (i + 1) = f by have := HHF.out; omega]
                    exact HHP.out)
              have hyn : y ≤ n := by omega
              have hOy : O2.length ≤ y := by have := HMN.out; omega
              have hiy : i < y := by omega
              clear hy
              go_wp2_with fail
              exact ⟨⟨y, O2, A', c', V2, hyn, rfl, rfl, HOy.out, hOy, hE.out, HPy.out, HFy.out⟩, by simp [intOf]; omega⟩
      · have hy := match_yes B i (Nat.le_of_lt hin) hf3
        rw [hy.1] at hL hD
        rw [← hD] at hy
        rw [if_neg hf3, ← hL, ← hD] at hp
        have hD1 : 1 ≤ D := hy.2
        have hbi : 3 ≤ L ∧ L ≤ 258 ∧ i + L ≤ n ∧ D ≤ 32768 := by
          unfold find at hL hD hf3
          rw [← hL] at hsum hf3 hbl
          rw [← hD] at hbl
          rw [HLN.out] at hsum
          omega
        obtain ⟨hL3, hL258, hLn, hDm⟩ := hbi
        have HHP := Lib.hid hp
        clear hp hL hD hf3 hy hin hsum hbl

        obtain ⟨S, hS⟩ : ∃ S, S = L := ⟨_, rfl⟩
        have hS1 : S ≤ 258 := by omega
        have hSn : i + S ≤ n := by omega
        have hSp : 1 ≤ S := by omega
        have HSS := Lib.hid hS
        have HSIZE : Hid (∀ w : World, Calls Tryz.prog 28 #[.agg #[(.int .u8 0), (.int .i64 (L : Int)), (.int .i64 (D : Int))]] w fun e w' => e = .returned (.int .i64 (S : Int)) ∧ Fr (fun _ => False) w w') := Lib.hid (fun w => by have h := size_any (mat L D) w; rw [show max (mat L D).l 1 = (S : Int) from by show max (L : Int) 1 = S; omega] at h; exact h)
        obtain ⟨O2, hO2⟩ : ∃ O2, O2 = O ++ [mat L D] := ⟨_, rfl⟩
        have hO2l : O2.length = O.length + 1 := by rw [hO2]; simp
        have hol2 : O2.length ≤ 1000001 := by omega
        have hmN : O2.length ≤ i + 1 := by omega
        have HN2 := Lib.hid (And.intro hO2 hO2l)
        have HMN := Lib.hid hmN
        have hz : ∀ k, w3.frozen? ⟨g, k, none⟩ = false := fun k => free_of HG3.out k
        have hz0 := hz 0
        have hz1 := hz 1
        have hz2 := hz 2
        clear hz
        clear hO2 hO2l hmN hS
        go_upto_region 9 with fail
        obtain ⟨w4, hw4⟩ : ∃ w4, w4 = (((w3.setCell ⟨g, 0, none⟩ (.int .u8 0)).setCell ⟨g, 1, none⟩ (.int .i64 (L : Int))).setCell ⟨g, 2, none⟩ (.int .i64 (D : Int))) := ⟨_, rfl⟩
        rw [← hw4]
        clear k0 k1 k2 hz0 hz1 hz2
        have hf4 : Fr (fun b => b = g) w3 w4 := by rw [hw4]; exact ((Fr.set1 w3 g 0 _).trans (Fr.set1 _ g 1 _) (fun _ _ h => h)).trans (Fr.set1 _ g 2 _) (fun _ _ h => h)
        have hg4 : w4.heap[g]? = some (.cells #[.int .u8 0, .int .i64 (L : Int), .int .i64 (D : Int)] 71 (0, 0)) := by
          have hr : Row w3 g 71 [.int .u8 (u : Int), .int .i64 0, .int .i64 0] := HG3.out
          have := ((hr.set 0 (.int .u8 0)).set 1 (.int .i64 (L : Int))).set 2 (.int .i64 (D : Int))
          rw [hw4]
          exact this
        have HG4 := Lib.hid hg4
        have HF4 : Hid (Fr (fun _ => False) w w4) := Lib.hid (HF3.out.trans hf4 (fun b hb h => by have h1 := HGP.out.2.2.2; omega))
        have HP4 := Lib.hid (HP3.out.fr hf4 (fun b hb h => by have h1 := HGP.out; omega))
        have HO4 : Hid (OwnT w4 base A1 c1 O) := Lib.hid (hf4.own HO3.out (fun b hb h => HGO.out b hb h))
        have HOX := HO4
        have HFX := HF4
        have k0 : w4.cell? ⟨g, 0, none⟩ = some (.int .u8 0) := by rw [cell_of_row _ _ _ _ _ _ hg4]; rfl
        have k1 : w4.cell? ⟨g, 1, none⟩ = some (.int .i64 (L : Int)) := by rw [cell_of_row _ _ _ _ _ _ hg4]; rfl
        have k2 : w4.cell? ⟨g, 2, none⟩ = some (.int .i64 (D : Int)) := by rw [cell_of_row _ _ _ _ _ _ hg4]; rfl
        clear hw4 hf4 hg4
        go_wp2_with (at_builtin; refine wpList_appS tokT _ rfl _ _ rfl base _ O.length (O.flatMap tcells) rfl (HOX.out.alloc _) ⟨w4.heap.size, 0, none⟩ 1 [.int .u8 0, .int .i64 (L : Int), .int .i64 (D : Int)] rfl rfl (new_cells rfl _ _) (one3 _ _ _) O2.length (by rw [HN2.out.2]) (by unfold maxLen; omega) (by omega) (by have h1 := HFX.out.size; have h2 := HBS.out; simp; omega) ?_)
        all_goals
          intro A' c' w5 hown' hcc hfr'
          have HF5 : Hid (Fr (fun _ => False) w w5) := (HF4.out.trans ((Fr.refl (fun _ => False) _).alloc _) (fun _ _ h => h)).trans hfr' (fun b hb h => by have h1 := HOX.out.lt _ h; have h2 := HBS.out; omega)
          have HO5 : Hid (OwnT w5 base A' c' O2) := by
            show w5.ownsRow base _ 3 _ _ (O2.flatMap tcells)
            have e : O2.flatMap tcells = O.flatMap tcells ++ [(.int .u8 0), (.int .i64 (L : Int)), (.int .i64 (D : Int))] := by rw [HN2.out.1, flat1]; rfl
            rw [e]
            exact hown'
          have hab := HO4.out.apart HP4.out
          have HP5 := Lib.hid ((HP4.out.fr ((Fr.refl (fun _ => False) _).alloc _) (fun _ _ h => h)).fr hfr' (fun b hb h => (by
            rcases hb with rfl | hb
            · exact HPOS.out _ h rfl
            · exact hab b h hb)))
          have hg5 := hfr'.blk (((Fr.refl (fun _ => False) _).alloc _).blk HG4.out (fun h => h)) (fun h => HGO.out _ h rfl)
          have k0 : w5.cell? ⟨g, 0, none⟩ = some (.int .u8 0) := by rw [cell_of_row _ _ _ _ _ _ hg5]; rfl
          have k1 : w5.cell? ⟨g, 1, none⟩ = some (.int .i64 (L : Int)) := by rw [cell_of_row _ _ _ _ _ _ hg5]; rfl
          have k2 : w5.cell? ⟨g, 2, none⟩ = some (.int .i64 (D : Int)) := by rw [cell_of_row _ _ _ _ _ _ hg5]; rfl
          clear hown' hfr' hab hg5
          go_wp2_with fail
          refine (HSIZE.out w5).mono ?_
          rintro e w6 ⟨rfl, hf6⟩
          have HF6 := Lib.hid (HF5.out.trans hf6 (fun _ _ h => h))
          have HO6 := Lib.hid (HO5.out.fr hf6)
          have HP6 := Lib.hid (HP5.out.fr hf6 (fun _ _ h => h))
          clear hf6 k0 k1 k2
          go_wp2_with fail
          go_loopw [5, 37] (fun at_ x wy => ∃ (j y : Nat) (V2 : List Int), j ≤ S ∧ y = i + j ∧ at_ = .int .i64 (y : Int) ∧ x = .int .i64 (j : Int) ∧ Hid (OwnT wy base A' c' O2) ∧ Hid (Past wy p (some ad) c B m q y V2) ∧ Hid (Fr (fun _ => False) w wy)) (fun _ x _ => S - (intOf x).toNat)
          case atStart => exact ⟨0, i, V, Nat.zero_le _, rfl, rfl, rfl, HO6.out, HP6.out, HF6.out⟩
          case round =>
            obtain ⟨j, y, V2, hj, hy, rfl, rfl, HOy, HPy, HFy⟩ := hrel
            rename World => wy
            by_cases hjS : j < S
            · have hyn : y < n := by omega
              have HY := Lib.hid hy
              clear hy
              go_wp2_with fail
              refine (pass_any p m q y c (some ad) B V2 wy HPy.out (by rw [HLN.out]; exact HR.out.fr HFy.out (fun _ _ h => h)) (by rw [HLN.out]; exact hn) (by rw [HLN.out]; exact HC.out.1) HC.out.2 (by rw [HLN.out]; exact hyn) (fun ad2 e => by have h1 := HBW.out ad2 e (by omega); have h2 := HNEW.out; omega)).mono ?_
              rintro e w7 ⟨V3, rfl, hP7, hf7⟩
              have HP7 := Lib.hid hP7
              have HF7 : Hid (Fr (fun _ => False) w w7) := Lib.hid (HFy.out.trans hf7 (fun b hb h => by have h1 := HNEW.out; have h2 := HBS.out; omega))
              have HO7 : Hid (OwnT w7 base A' c' O2) := Lib.hid (hf7.own HOy.out (HOy.out.apart HPy.out))
              clear hP7 hf7
              go_wp2_with fail
              exact ⟨⟨j + 1, y + 1, V3, by omega, by have := HY.out; omega, by go_num, by go_num, HO7.out, HP7.out, HF7.out⟩, by simp [intOf]; omega⟩
            · obtain rfl : j = S := by omega
              have hE : Hid (O2 ++ pressF B (n - y) y = R) := Lib.hid (by
                    rw [hy]
                    have hm := pressF_more B (n - (i + L)) (i + L) (by have := HLN.out; omega) (L - 1)
                    rw [HSS.out, HN2.out.1, List.append_assoc, ← hm, show n - (i + L) + (L - 1) = f by have := HHF.out; omega]
                    exact HHP.out)
              have hyn : y ≤ n := by omega
              have hOy : O2.length ≤ y := by have := HMN.out; omega
              have hiy : i < y := by omega
              clear hy
              go_wp2_with fail
              exact ⟨⟨y, O2, A', c', V2, hyn, rfl, rfl, HOy.out, hOy, hE.out, HPy.out, HFy.out⟩, by simp [intOf]; omega⟩
    · obtain rfl : i = n := by omega
      have hr : O = R := by have h := HE.out; rw [Nat.sub_self] at h; simpa [pressF] using h
      subst hr
      go_wp2_with fail
      go_ret
      exact ⟨A1, c1, rfl, HO.out, HF.out⟩
end Go.Proofs.YtgpkiijmembggaaGreatDoor
