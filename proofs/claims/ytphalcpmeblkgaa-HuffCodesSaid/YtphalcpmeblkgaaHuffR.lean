/-
  The law HuffReads out of the program's contracts (of New, of a coder's Next; awake a premise): whatever bits a coder reads, each symbol is the reference's.
-/
import Derived.Test.YtphalcpmeblkgaaHuffK
import Derived.Test.YtphalcpmeblkgaaRdr
namespace Go.Proofs.Ytphalcpmeblkgaa
open Go.RowKit HuffM BitsM Mem Go.Lib

/-- bits as the reference has them -/
def bb (bs : List Bool) : List UInt8 := bs.map fun b => UInt8.ofNat b.toNat
theorem bb_cells (bs : List Bool) : (bb bs).map bytec = bs.map bitc := by
  unfold bb
  rw [List.map_map]
  apply List.map_congr_left
  intro b _
  cases b <;> rfl
theorem bb_len (bs : List Bool) : (bb bs).length = bs.length := by simp [bb]
theorem next_cases {L : List Int} {B : List UInt8} (hL : ∀ x ∈ L, inR x = true) : nextS L B = (-1, 0) ∨ ∃ s k : Nat, nextS L B = ((s : Int), (k : Int)) ∧ s < L.length ∧ k ≤ B.length ∧ k ≤ 15 := by
  unfold nextS
  cases h : firstHit L B L.length with
  | none => exact .inl rfl
  | some s =>
    right
    unfold firstHit at h
    have hh := List.find?_some h
    have hm := List.mem_of_find?_eq_some h
    have hs : s < L.length := List.mem_range.1 hm
    have hx := hL _ (List.getElem_mem hs)
    have hgd : L.getD s 0 = L[s] := by rw [List.getD_eq_getElem?_getD, List.getElem?_eq_getElem hs]; rfl
    have hr : 0 ≤ L[s] ∧ L[s] ≤ 15 := by simpa [inR] using hx
    unfold hits at hh
    simp only [hgd, Bool.and_eq_true, decide_eq_true_eq] at hh
    refine ⟨s, L[s].toNat, ?_, hs, by omega, by omega⟩
    simp only [hgd]
    rw [Int.toNat_of_nonneg hr.1]
def NextOk (L : List Int) (bs : List Bool) (s : Int) (is : Bool) (p p' : Nat) : Prop :=
  (is = true ∧ (nextS L (bb bs)).1 = s ∧ 0 ≤ s ∧ (p' : Int) = p + (nextS L (bb bs)).2) ∨ (is = false ∧ s = 0 ∧ nextS L (bb bs) = (-1, 0))
structure HuffR (CA : World → Nat → Addr → List Int → Prop) : Prop where
  new : ∀ (A : Option Addr) (n c : Nat) (L : List Int) (w : World), Rd w A n (L.map intc) → n ≤ c → n ≤ 1000 → (∀ ad, A = some ad → ad.block < w.heap.size) → rightB L = true →
    Calls Try.prog 13 #[.slice A n c] w fun e w' => ∃ pa : Addr, e = .returned (.tuple #[.pointer (some pa), .bool true]) ∧ CA w' w'.heap.size pa L ∧ Fr (fun _ => False) w w'
  fr : ∀ {S : Nat → Prop} {w w' : World} {hi : Nat} {pa : Addr} {L : List Int}, CA w hi pa L → Fr S w w' → (∀ b, S b → hi ≤ b) → CA w' hi pa L
  next : ∀ {w : World} {hi r c p : Nat} {pa : Addr} {L : List Int} {A : Option Addr} {B : List UInt8}, CA w hi pa L → rightB L = true → Re w r A c B p → hi ≤ r → (∀ k, bl A = some k → hi ≤ k) → B.length ≤ 1000000 →
    Calls Try.prog 20 #[.pointer (some pa), .pointer (some ⟨r, 0, none⟩)] w fun e w' => ∃ (s : Int) (is : Bool) (p' : Nat), e = .returned (.tuple #[.int .i64 s, .bool is]) ∧ Re w' r A c B p' ∧ Fr (fun k => k = r) w w' ∧ NextOk L ((bitsOf B).drop p) s is p p'

set_option maxRecDepth 100000 in
set_option maxHeartbeats 3200000 in
theorem reads_law {CA : World → Nat → Addr → List Int → Prop} (K : HuffR CA) (hw : Awake5) (A : Option Addr) (n c : Nat) (L : List Int) (A2 : Option Addr) (m c2 : Nat) (B : List UInt8) (w : World) (hr : Rd w A n (L.map intc)) (hc : n ≤ c)
    (hA : ∀ ad, A = some ad → ad.block < w.heap.size) (hb : Rd w A2 m (B.map bytec)) :
    Calls Try.prog 5 #[.slice A n c, .slice A2 m c2] w fun e w' => e = .returned (.bool true) ∧ Fr (fun _ => False) w w' := by
  have HR := Lib.hid hr
  have HB := Lib.hid hb
  have HA := Lib.hid hA
  clear hr hb hA
  have skip : ∀ (_ : decide (300 < (n : Int)) = true ∨ decide (300 < (n : Int)) = false ∧ decide (300 < (m : Int)) = true),
      Calls Try.prog 5 #[.slice A n c, .slice A2 m c2] w fun e w' => e = .returned (.bool true) ∧ Fr (fun _ => False) w w' := by
    rintro (t | ⟨t, t2⟩)
    all_goals
      go_enter Try.func5, Try.ntmps5
      go_wp2_with fail
      refine (hw _).mono ?_
      rintro e w1 ⟨rfl, hf1⟩
      go_wp2_with fail
      refine (hw _).mono ?_
      rintro e w2 ⟨rfl, hf2⟩
      go_wp2
      go_ret
      exact ⟨rfl, hf1.trans hf2 (fun _ _ h => h)⟩
  by_cases hl1 : 300 < n
  · exact skip (.inl (by simp; omega))
  by_cases hl2 : 300 < m
  · exact skip (.inr ⟨by simp; omega, by simp; omega⟩)
  clear skip
  have t : decide (300 < (n : Int)) = false := by simp; omega
  have t2 : decide (300 < (m : Int)) = false := by simp; omega
  have HRf := Lib.hid (fun (w' : World) (hf : Fr (fun _ => False) w w') => rRight_any A n c L w' (HR.out.fr hf (fun _ _ h => h)) (by omega))
  have HNw := Lib.hid (fun (w' : World) (hf : Fr (fun _ => False) w w') => K.new A n c L w' (HR.out.fr hf (fun _ _ h => h)) hc (by omega) (fun ad h => Nat.lt_of_lt_of_le (HA.out ad h) hf.size))
  have hbm : B.length = m := by simpa using HB.out.1
  have HBM := Lib.hid hbm
  obtain ⟨v, hv⟩ : ∃ v, v = rightB L := ⟨_, rfl⟩
  rw [← hv] at HRf HNw
  have HV := Lib.hid hv
  clear hv hbm
  cases v with
  | false =>
    go_enter Try.func5, Try.ntmps5
    go_wp2_with fail
    refine (hw _).mono ?_
    rintro e w1 ⟨rfl, hf1⟩
    have HF1 := Lib.hid hf1
    clear hf1
    go_wp2_with fail
    refine (HRf.out _ HF1.out).mono ?_
    rintro e w2 ⟨rfl, rfl⟩
    go_wp2_with fail
    refine (hw _).mono ?_
    rintro e w2 ⟨rfl, hf2⟩
    go_wp2
    go_ret
    exact ⟨rfl, HF1.out.trans hf2 (fun _ _ h => h)⟩
  | true =>
    have hL : ∀ x ∈ L, inR x = true := by
      have h := HV.out.symm
      unfold rightB at h
      rw [Bool.and_eq_true] at h
      exact List.all_eq_true.1 h.1
    have HL := Lib.hid hL
    clear hL
    go_enter Try.func5, Try.ntmps5
    go_wp2_with fail
    refine (hw _).mono ?_
    rintro e w1 ⟨rfl, hf1⟩
    have HF1 := Lib.hid hf1
    clear hf1
    go_wp2_with fail
    refine (HRf.out _ HF1.out).mono ?_
    rintro e w2 ⟨rfl, rfl⟩
    go_wp2_with fail
    refine (HNw.out _ HF1.out trivial).mono ?_
    rintro e w2 ⟨pa, rfl, hca, hf2⟩
    have HCA := Lib.hid hca
    have HF2 := Lib.hid (HF1.out.trans hf2 (fun _ _ h => h))
    obtain ⟨hi, hhi⟩ : ∃ hi, hi = w2.heap.size := ⟨_, rfl⟩
    rw [← hhi] at HCA
    have HHI := Lib.hid hhi
    clear hca hf2 hhi HNw HRf HF1
    go_wp2_with fail
    refine (new_any A2 m c2 B w2 (HB.out.fr HF2.out (fun _ _ h => h)) (by omega)).mono ?_
    rintro e w3 ⟨r, A3, c3, rfl, hre, hr0, hA3, hf3⟩
    have HRE := Lib.hid hre
    have hhr : hi ≤ r := by have := HHI.out; omega
    have HA3 : Hid (∀ k, bl A3 = some k → hi ≤ k) := Lib.hid (fun k h => by have := hA3 k h; have := HHI.out; omega)
    have hrlt : r < w3.heap.size := lt_of_heap hre.1
    have HF3 := Lib.hid (HF2.out.trans hf3 (fun _ _ h => h))
    have HCA3 := Lib.hid (K.fr HCA.out hf3 (fun _ h => h.elim))
    have hwr : w.heap.size ≤ r := by have := HF2.out.size; omega
    clear hre hr0 hA3 hf3 HCA HHI
    go_wp2_with fail
    refine (of_any A2 m c2 B w3 (HB.out.fr HF3.out (fun _ _ h => h)) (by omega)).mono ?_
    rintro e w4 ⟨A4, c4, rfl, hown4, hf4⟩
    have HO4 := Lib.hid (Rd.of_own hown4)
    have hA4 : ∀ ad, A4 = some ad → ad.block ≠ r := fun ad h => by
      subst h
      have := (hown4.lt ad.block rfl).1
      omega
    have hcap4 := (own_cap hown4).2.1
    have HRE4 := Lib.hid (HRE.out.fr hf4 (fun h => h) (fun _ _ h => h))
    have HF4 := Lib.hid (HF3.out.trans hf4 (fun _ _ h => h))
    have HCA4 := Lib.hid (K.fr HCA3.out hf4 (fun _ h => h.elim))
    have HA4 := Lib.hid hA4
    clear hown4 hf4 hA4 HRE HCA3 HF3
    go_wp2_with fail
    go_loopw [8, 9] (fun a i wr => ∃ (j p q : Nat) (A8 : Option Addr) (c8 : Nat), j ≤ 200 ∧ i = .int .i64 (j : Int) ∧ a = .slice A8 q c8 ∧ q + p = 8 * m ∧ q ≤ c8 ∧ Hid (Rd wr A8 q (((bitsOf B).drop p).map bitc)) ∧ Hid (∀ ad, A8 = some ad → ad.block ≠ r) ∧
        Hid (Re wr r A3 c3 B p) ∧ Hid (CA wr hi pa L) ∧ Fr (fun k => k = r) w4 wr) (fun _ i _ => 200 - (intOf i).toNat)
    case atStart => exact ⟨0, 0, 8 * m, A4, c4, by omega, rfl, rfl, by omega, hcap4, HO4, HA4, HRE4, HCA4, Fr.refl _ _⟩
    case round =>
      obtain ⟨j, p, q, A8, c8, hj, rfl, rfl, hqp, hqc, HO, HA8, HRE, HCA, hfr⟩ := hrel
      by_cases hlt : j < 200
      · have HFR := Lib.hid hfr
        have hsz4 := HF4.out.size
        clear hfr
        rename World => wa
        go_wp2_with fail
        refine (K.next HCA.out HV.out.symm HRE.out hhr HA3.out (by have := HBM.out; omega)).mono ?_
        rintro e w5 ⟨s, is, p', rfl, hre5, hf5, hok⟩
        have HRE5 := Lib.hid hre5
        have HOK := Lib.hid hok
        have HF5 := Lib.hid (HFR.out.trans hf5 (fun _ _ h => h))
        have HO5 := Lib.hid (HO.out.fr hf5 (fun ad h => HA8.out ad h))
        have HCA5 := Lib.hid (K.fr HCA.out hf5 (fun b h => by omega))
        have HFw : Hid (Fr (fun _ => False) w w5) := Lib.hid (HF4.out.trans HF5.out (fun b hb e => by omega))
        clear hre5 hok hf5 HO HCA HRE HFR
        have hbb : Rd w5 A8 q ((bb ((bitsOf B).drop p)).map bytec) := by rw [bb_cells]; exact HO5.out
        have hnx := rNext_any A n c L A8 q c8 (bb ((bitsOf B).drop p)) w5 (HR.out.fr HFw.out (fun _ _ h => h)) (by omega) (fun ad h => Nat.lt_of_lt_of_le (HA.out ad h) HFw.out.size) hbb HL.out
        have hql : (bb ((bitsOf B).drop p)).length = q := by rw [bb_len, List.length_drop, bitsOf_length, HBM.out]; omega
        rcases next_cases (B := bb ((bitsOf B).drop p)) HL.out with hn | ⟨s0, k0, hn, hs0, hk0, hk15⟩
        · have hcase : is = false ∧ s = 0 := by
            rcases HOK.out with ⟨_, h1, h2, _⟩ | ⟨h1, h2, _⟩
            · rw [hn] at h1; simp at h1; omega
            · exact ⟨h1, h2⟩
          obtain ⟨rfl, rfl⟩ := hcase
          rw [hn] at hnx
          have HNX := Lib.hid hnx
          clear hnx hn hql hbb
          go_wp2_with fail
          refine HNX.out.mono ?_
          rintro e w6 ⟨rfl, hf6⟩
          go_wp2
          go_ret
          exact ⟨rfl, HFw.out.trans hf6 (fun _ _ h => h)⟩
        · have hcase : is = true ∧ s = (s0 : Int) ∧ p' = p + k0 := by
            rcases HOK.out with ⟨h0, h1, _, h3⟩ | ⟨_, _, h3⟩
            · rw [hn] at h1 h3; simp at h1 h3; exact ⟨h0, h1.symm, by omega⟩
            · rw [hn] at h3; injection h3 with h3; omega
          obtain ⟨rfl, rfl, rfl⟩ := hcase
          rw [hn] at hnx
          rw [hql] at hk0
          have t3 : ((s0 : Int) != (s0 : Int)) = false := by simp
          have HNX := Lib.hid hnx
          clear hnx hn hql hbb hs0
          go_wp2_with fail
          refine HNX.out.mono ?_
          rintro e w6 ⟨rfl, hf6⟩
          have HF6 := Lib.hid (HF5.out.trans hf6 (fun _ _ h => h.elim))
          have HRE6 := Lib.hid (HRE5.out.fr hf6 (fun h => h) (fun _ _ h => h))
          have HCA6 := Lib.hid (K.fr HCA5.out hf6 (fun b h => h.elim))
          have hcut := Rd.cut (HO5.out.fr hf6 (fun _ _ h => h)) (k := k0) (m := q) (cap := c8) hk0 (Nat.le_refl _) hqc
          obtain ⟨A9, hA9⟩ : ∃ A9, (if c8 = k0 then A8 else A8.map (·.add k0)) = A9 := ⟨_, rfl⟩
          rw [hA9] at hcut
          obtain ⟨q9, hq9⟩ : ∃ q9, q9 = q - k0 := ⟨_, rfl⟩
          have hlf := fun w' (h : Re w' r A3 c3 B (p + k0)) => left_any r c3 (p + k0) A3 B w' h (by have := HBM.out; omega)
          rw [show 8 * B.length - (p + k0) = q9 from by have := HBM.out; omega] at hlf
          have hA9r : ∀ ad, A9 = some ad → ad.block ≠ r := by
            intro ad h
            rw [← hA9] at h
            split at h
            · exact HA8.out ad h
            · obtain ⟨ad', h1, rfl⟩ := Option.map_eq_some_iff.1 h
              rw [add_block]
              exact HA8.out ad' h1
          have hrd9 : Rd w6 A9 q9 (((bitsOf B).drop (p + k0)).map bitc) := by
            rw [hq9]
            have e : ((((bitsOf B).drop p).map bitc).take q).drop k0 = ((bitsOf B).drop (p + k0)).map bitc := by
              rw [List.take_of_length_le (by rw [List.length_map, List.length_drop, bitsOf_length, HBM.out]; omega), ← List.map_drop, List.drop_drop]
            rw [← e]
            exact hcut
          have HLF := Lib.hid hlf
          have HA9 := Lib.hid hA9r
          have HR9 := Lib.hid hrd9
          have HQ9 := Lib.hid hq9
          have hk0c : (k0 : Int) ≤ (q : Int) := by omega
          have hqc' : (q : Int) ≤ (c8 : Int) := by omega
          clear hlf hA9r hrd9 hcut hf6 hq9 HO5 HA8
          go_wp2_with fail
          rw [← HQ9.out]
          clear hA9
          refine (HLF.out _ HRE6.out).mono ?_
          rintro e w7 ⟨rfl, rfl⟩
          have hq9l : q9 + (p + k0) = 8 * m := by have := HQ9.out; omega
          have hqc9 : q9 ≤ c8 - k0 := by have := HQ9.out; omega
          have HRE7 : Hid (Re w6.drew r A3 c3 B (p + k0)) := Lib.hid HRE6.out.drew
          have HCA7 : Hid (CA w6.drew hi pa L) := Lib.hid (K.fr HCA6.out ((Fr.refl (fun _ => False) w6).drew) (fun b h => h.elim))
          have HR7 : Hid (Rd w6.drew A9 q9 (((bitsOf B).drop (p + k0)).map bitc)) := Lib.hid HR9.out.drew
          have HF7 := Lib.hid HF6.out.drew
          go_wp2
          go_roundw
          case rel => exact ⟨j + 1, p + k0, q9, A9, c8 - k0, by omega, by go_num, rfl, hq9l, hqc9, HR7, HA9, HRE7, HCA7, HF7.out⟩
          case measure => simp [intOf] <;> omega
      · obtain rfl : j = 200 := by omega
        go_wp2
        go_ret
        exact ⟨rfl, HF4.out.trans hfr (fun b hb e => by omega)⟩
end Go.Proofs.Ytphalcpmeblkgaa
