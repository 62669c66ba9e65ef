/-
  Layer 8's program: readItem (written by gen_item2.py).
  Layer 8's program: readLengths.
  Layer 8's program: read.
  Layer 8's laws, plain: lengths out of bytes.
-/
import Derived.Test.YtgpkiijmembggaaGreatDoorZm21
import Derived.Test.YtgpkiijmembggaaGreatDoorZm29
import Derived.Laws.MakeOwn
import Derived.Test.YtgpkiijmembggaaGreatDoorZm22
namespace Go.Proofs.YtgpkiijmembggaaGreatDoor
open Go.RowKit CoM BitsM HuffM Mem Go.Lib
attribute [local go_sem ↓] Go.wp_at_zero Go.wp_at_succ
set_option linter.unusedVariables false
set_option maxRecDepth 100000

theorem run_fld2 (a b c : Int) (w : World) : (Instr.field 155 (.agg #[.int .i64 a, .int .i64 b, .int .i64 c]) 2).run Tryz.prog w = .ok (.int .i64 c) w := by
  unfold Instr.field
  go_simp
  rfl
/-- what readItem answers: a length, how often it comes, where the reader stands then -/
def ItemOk (len l : List Nat) (bs : List Bool) (B : List UInt8) (v t : Nat) (ok : Bool) (p' : Nat) : Prop :=
  (ok = false ∧ ∀ NN, step8 len NN l bs = none) ∨ (ok = true ∧ 1 ≤ t ∧ t ≤ 300 ∧ ∀ NN, l.length < NN → step8 len NN l bs = if NN < l.length + t then none else some (l ++ List.replicate t v, (bitsOf B).drop p'))
theorem spn_of (s : Nat) (h1 : 16 ≤ s) (h2 : s ≤ 18) : ∃ k b, s = 16 + k ∧ spn[k]? = some (leastOf8 s, b, sizeOf8 s) := by
  rcases (show s = 16 ∨ s = 17 ∨ s = 18 by omega) with rfl | rfl | rfl
  · exact ⟨0, 6, rfl, rfl⟩
  · exact ⟨1, 10, rfl, rfl⟩
  · exact ⟨2, 138, rfl, rfl⟩
set_option maxHeartbeats 6400000 in
theorem readItem_any (G : Nat → Prop) (r c p : Nat) (pa : Addr) (A A1 : Option Addr) (B : List UInt8) (n1 c1 : Nat) (len l : List Nat) (w : World) (hG : Gl8 w) (hcb : CB w G pa (ints len)) (hGr : ¬ G r) (hR : rightB (ints len) = true) (hl19 : len.length = 19) (h : Re w r A c B p) (hr2 : top8 ≤ r) (hB : B.length ≤ 1000000)
    (hl : Rd w A1 n1 (l.map natc)) (hl1 : ∀ ad, A1 = some ad → ad.block ≠ r) (hn1 : n1 ≤ 1000) :
    Calls Tryz.prog 112 #[.pointer (some ⟨r, 0, none⟩), .pointer (some pa), .slice A1 n1 c1] w fun e w' => ∃ (v t : Nat) (ok : Bool) (p' : Nat), e = .returned (.tuple #[.int .i64 (v : Int), .int .i64 (t : Int), .bool ok]) ∧ Re w' r A c B p' ∧ Fr (fun k => k = r) w w' ∧ ItemOk len l ((bitsOf B).drop p) B v t ok p' := by
  have hln : l.length = n1 := by simpa using hl.1
  obtain ⟨bs, hbs⟩ : ∃ bs, bs = (bitsOf B).drop p := ⟨_, rfl⟩
  have HNX := Lib.hid (pNextG_any hcb hR h hGr hB)
  rw [← hbs] at HNX ⊢
  have hbl : bs.length = 8 * B.length - p := by rw [hbs, List.length_drop, bitsOf_length]
  have hnc := next_cases (L := ints len) (B := bb bs) (right_in hR)
  rw [ints_len, hl19] at hnc
  have HNC := Lib.hid hnc
  have HBL := Lib.hid hbl
  have HBS := Lib.hid hbs
  have HL := Lib.hid hl
  have HL1 := Lib.hid hl1
  have HLN := Lib.hid hln
  have HG := Lib.hid hG
  have HR2 := Lib.hid hr2
  have HPL := Lib.hid h.2.2
  clear hG hcb hR h hl hl1 hln hbl hbs hnc hl19 hr2
  go_enter Tryz.func112, Tryz.ntmps112
  go_wp2_with fail
  refine HNX.out.mono ?_
  rintro e w2 ⟨s0, is, p2, rfl, hre2, hf2, hok⟩
  have HRE2 := Lib.hid hre2
  have HF2 := Lib.hid hf2
  have HOK := Lib.hid hok
  clear hre2 hf2 HNX
  cases is with
  | false =>
    have HX : Hid (∀ NN, step8 len NN l bs = none) := Lib.hid (fun NN => by
      rcases hok with ⟨h1, _⟩ | ⟨_, _, h⟩
      · cases h1
      · exact step_none h)
    clear hok
    go_wp2_with fail
    exact bodyPost_ret (v := .tuple #[.int .i64 0, .int .i64 0, .bool false]) (by simp [results, Tryz.results112, go_sem]) rfl
      ⟨0, 0, false, p2, rfl, HRE2.out, HF2.out, .inl ⟨rfl, HX.out⟩⟩
  | true =>
    obtain ⟨s, k, hs0, hnx, hs19, hpk, hkl⟩ : ∃ s k : Nat, s0 = (s : Int) ∧ nextS (ints len) (bb bs) = ((s : Int), (k : Int)) ∧ s < 19 ∧ p2 = p + k ∧ k ≤ 15 := by
      rcases hok with ⟨_, h1, h2, h3⟩ | ⟨h1, _⟩
      · rcases HNC.out with h | ⟨s, k, h, hs, hk1, hk2⟩
        · rw [h] at h1
          simp at h1
          omega
        · refine ⟨s, k, ?_, h, hs, ?_, hk2⟩
          · rw [← h1, h]
          · rw [h] at h3
            simp at h3
            omega
      · cases h1
    subst hs0
    have hdr : bs.drop k = (bitsOf B).drop p2 := by rw [HBS.out, List.drop_drop, hpk]
    have HNS := Lib.hid hnx
    have HDR := Lib.hid hdr
    clear hok hnx hdr hpk hkl HNC HOK
    by_cases hs16 : s < 16
    · have t1 : decide ((s : Int) < 16) = true := by simp; omega
      have t1q : decide (s < 16) = true := by simp; omega
      go_wp2_with fail
      exact bodyPost_ret (v := .tuple #[.int .i64 (s : Int), .int .i64 1, .bool true]) (by simp [results, Tryz.results112, go_sem]) rfl
        ⟨s, 1, true, p2, rfl, HRE2.out, HF2.out, .inr ⟨rfl, by omega, by omega, fun NN hN => by rw [step_lit HNS.out hs16, HDR.out, if_neg (by omega)]; rfl⟩⟩
    have t1 : decide ((s : Int) < 16) = false := by simp; omega
    have t1q : decide (s < 16) = false := by simp; omega
    obtain ⟨kk, b, hkk, hsp⟩ := spn_of s (by omega) (by omega)
    obtain ⟨a, ha⟩ : ∃ a, a = leastOf8 s := ⟨_, rfl⟩
    obtain ⟨sz, hsz⟩ : ∃ sz, sz = sizeOf8 s := ⟨_, rfl⟩
    rw [← ha, ← hsz] at hsp
    obtain ⟨sb1, sb2, sb3, sb4, sb5⟩ := spn_le hsp
    have HSP : Hid (∀ w, Gl8 w → Calls Tryz.prog 90 #[.int .i64 (s : Int)] w fun e w' => e = .returned (.agg #[.int .i64 (a : Int), .int .i64 (b : Int), .int .i64 (sz : Int)]) ∧ Fr (fun _ => False) w w') := Lib.hid (fun w hG => spanOf_any s kk a b sz hkk hsp w hG.2)
    have HAS := Lib.hid (And.intro ha hsz)
    have HSB : Hid (sz ≤ 7 ∧ a ≤ 138 ∧ 3 ≤ a) := Lib.hid ⟨sb3, by omega, sb4⟩
    have hs16' : 16 ≤ s := by omega
    have HG2 := Lib.hid (HG.out.fr HF2.out (fun k hk => by have := HR2.out; omega))
    clear hkk hsp sb1 sb2 sb3 sb4 sb5 ha hsz
    have hL2 := HL.out.fr HF2.out (fun ad h => HL1.out ad h)
    by_cases he : s = 16
    · have t2 : ((s : Int) == 16) = true := by simp; omega
      by_cases hl0 : n1 = 0
      · have t3 : ((n1 : Int) == 0) = true := by simp; omega
        have hnil : l = [] := List.eq_nil_of_length_eq_zero (by rw [HLN.out]; exact hl0)
        have HX : Hid (∀ NN, step8 len NN l bs = none) := Lib.hid (fun NN => by
          rw [hnil]
          have h := HNS.out
          rw [he] at h
          exact step_nil h)
        clear hnil he hl0 hL2
        go_wp2_with fail
        exact bodyPost_ret (v := .tuple #[.int .i64 0, .int .i64 0, .bool false]) (by simp [results, Tryz.results112, go_sem]) rfl
          ⟨0, 0, false, p2, rfl, HRE2.out, HF2.out, .inl ⟨rfl, HX.out⟩⟩
      · have t3 : ((n1 : Int) == 0) = false := by simp; omega
        obtain ⟨ad, hA, cl⟩ := nat_cell hL2 (k := n1 - 1) (by omega)
        subst hA
        obtain ⟨v, hv⟩ : ∃ v, v = l[n1 - 1]! := ⟨_, rfl⟩
        rw [← hv] at cl
        have hvl : l.getLastD 0 = v := by
          have e := HLN.out
          rw [hv, ← e, List.getLastD_eq_getLast?, List.getLast?_eq_getElem?, getElem!_pos l _ (by omega), List.getElem?_eq_getElem (by omega)]
          rfl
        obtain ⟨n0, hn0⟩ : ∃ n0, n0 = n1 - 1 := ⟨_, rfl⟩
        have cl2 := cl
        rw [← hn0] at cl2
        have hn0i : (n1 : Int) - 1 = (n0 : Int) := by omega
        have hn0n : (n0 : Int) < (n1 : Int) := by omega
        have hVAL : ∀ (x : List Nat), l ≠ [] ∧ (if s = 16 then l.getLastD 0 else 0) = v := fun _ => ⟨fun h => hl0 (by rw [← HLN.out, h]; rfl), by rw [if_pos he, hvl]⟩
        have HVAL := Lib.hid (hVAL [])
        clear hv hvl hL2 hn0 he hVAL hl0
        go_wp2_with fail
        refine (HSP.out w2 HG2.out).mono ?_
        rintro e w3 ⟨rfl, hf3⟩
        have HF3 := Lib.hid (HF2.out.trans hf3 (fun _ _ h => h.elim))
        have HRE3 := Lib.hid (HRE2.out.fr hf3 (fun h => h) (fun _ _ h => h))
        clear hf3 cl cl2
        go_upto_region 11 with fail
        obtain ⟨w4, hw4⟩ : ∃ w4, w4 = w3.alloc (.cells #[Value.int .i64 (a : Int), .int .i64 (b : Int), .int .i64 (sz : Int)] 155) := ⟨_, rfl⟩
        have hr4 : Row w4 w3.heap.size 155 [Value.int .i64 (a : Int), .int .i64 (b : Int), .int .i64 (sz : Int)] := by rw [hw4]; exact Row.new w3 _ _
        have hf4 : Fr (fun _ => False) w3 w4 := by rw [hw4]; exact (Fr.refl _ w3).alloc _
        obtain ⟨q, hq⟩ : ∃ q, q = w3.heap.size := ⟨_, rfl⟩
        rw [← hw4]
        rw [← hq] at hr4 ⊢
        have d2 : w4.cell? ⟨q, 2, none⟩ = some (.int .i64 (sz : Int)) := hr4.cell rfl
        have HR4 := Lib.hid hr4
        have HQR : Hid (q ≠ r) := Lib.hid (by have := HRE3.out.lt.1; omega)
        have HF4 := Lib.hid (HF3.out.trans hf4 (fun _ _ h => h.elim))
        have HRE4 := Lib.hid (HRE3.out.fr hf4 (fun h => h) (fun _ _ h => h))
        clear hw4 hr4 hf4 hq
        by_cases hp : p2 + sz ≤ 8 * B.length
        · obtain ⟨z, hz⟩ : ∃ z, z = num ((bs.drop k).take sz) := ⟨_, rfl⟩
          have hz7 : z ≤ 127 := by rw [hz]; exact num3_lt bs k sz HSB.out.1
          have hb := bits_ok r c p2 A B sz w4 HRE4.out (by omega) (by have := HSB.out.1; omega) hp
          rw [show cut B p2 sz = (bs.drop k).take sz by rw [HDR.out]; rfl, ← hz] at hb
          have HBT := Lib.hid hb
          have qz := conv_int8 z (by omega)
          have HX : Hid (∀ NN, l.length < NN → step8 len NN l bs = if NN < l.length + (a + z) then none else some (l ++ List.replicate (a + z) v, (bitsOf B).drop (p2 + sz))) := Lib.hid (fun NN hN => by
            have hlen : ¬ (bs.drop k).length < sizeOf8 s := by rw [HDR.out, List.length_drop, bitsOf_length, ← HAS.out.2]; omega
            by_cases ho : NN < l.length + (a + z)
            · rw [if_pos ho]
              exact step_over HNS.out hs16' (by rw [← HAS.out.1, ← HAS.out.2, ← hz]; exact ho)
            · rw [if_neg ho]
              have h := step_go (NN := NN) (v := v) HNS.out hs16' (fun _ => HVAL.out.1) hlen (by rw [← HAS.out.1, ← HAS.out.2, ← hz]; exact ho) HVAL.out.2.symm
              rw [← HAS.out.1, ← HAS.out.2, ← hz, HDR.out, List.drop_drop] at h
              exact h)
          have haz : a + z ≤ 300 := by have := HSB.out.2.1; omega
          have HAZ := Lib.hid haz
          have HA3 : Hid (1 ≤ a + z) := Lib.hid (by have := HSB.out.2.2; omega)
          have ha138 : a ≤ 138 := HSB.out.2.1
          have e1 : (a : Int) + (z : Int) = ((a + z : Nat) : Int) := by omega
          have e2 : IntKind.i64.wrap ((a : Int) + (z : Int)) = ((a + z : Nat) : Int) := by rw [IntKind.wrap_i64]; omega
          obtain ⟨y, hy⟩ : ∃ y, y = a + z := ⟨_, rfl⟩
          rw [← hy] at HX HAZ HA3 e1 e2
          have e3 : IntKind.i64.wrap (y : Int) = (y : Int) := by rw [IntKind.wrap_i64]; have := HAZ.out; omega
          clear hz hb haz hy
          go_wp2_with fail
          refine HBT.out.mono ?_
          rintro e w5 ⟨rfl, hre5, hf5⟩
          have HRE5 := Lib.hid hre5
          have HF5 := Lib.hid (HF4.out.trans hf5 (fun _ _ h => h))
          have d0 : w5.cell? ⟨q, 0, none⟩ = some (.int .i64 (a : Int)) := (Row.fr HR4.out hf5 (fun h => HQR.out h)).cell rfl
          clear hre5 hf5 HBT d2
          go_upto_region 14 with fail
          go_still (by kernel_rfl)
          go_wp2_with fail
          exact bodyPost_ret (v := .tuple #[.int .i64 (v : Nat), .int .i64 (y : Int), .bool true]) (by simp [results, Tryz.results112, go_sem]) rfl
            ⟨v, y, true, p2 + sz, rfl, HRE5.out.drew, HF5.out.drew, .inr ⟨rfl, HA3.out, HAZ.out, HX.out⟩⟩
        · have hb := bits_no r c p2 A B (sz : Int) w4 HRE4.out (by omega) (.inr (.inr (by have := HRE4.out.2.2; omega)))
          have HBT := Lib.hid hb
          have HX : Hid (∀ NN, step8 len NN l bs = none) := Lib.hid (fun NN => step_short HNS.out hs16' (by rw [HDR.out, List.length_drop, bitsOf_length, ← HAS.out.2]; have := HRE4.out.2.2; omega))
          clear hb
          go_wp2_with fail
          refine HBT.out.mono ?_
          rintro e w5 ⟨rfl, hre5, hf5⟩
          have HRE5 := Lib.hid hre5
          have HF5 := Lib.hid (HF4.out.trans hf5 (fun _ _ h => h.elim))
          clear hre5 hf5 HBT d2
          go_wp2_with fail
          exact bodyPost_ret (v := .tuple #[.int .i64 0, .int .i64 0, .bool false]) (by simp [results, Tryz.results112, go_sem]) rfl
            ⟨0, 0, false, p2, rfl, HRE5.out, HF5.out, .inl ⟨rfl, HX.out⟩⟩
    · have t2 : ((s : Int) == 16) = false := by simp; omega
      have HVAL : Hid ((if s = 16 then l.getLastD 0 else 0) = 0) := Lib.hid (by rw [if_neg he])
      have HE := Lib.hid he
      clear hL2 he
      go_wp2_with fail
      refine (HSP.out w2 HG2.out).mono ?_
      rintro e w3 ⟨rfl, hf3⟩
      have HF3 := Lib.hid (HF2.out.trans hf3 (fun _ _ h => h.elim))
      have HRE3 := Lib.hid (HRE2.out.fr hf3 (fun h => h) (fun _ _ h => h))
      clear hf3 
      go_upto_region 11 with fail
      obtain ⟨w4, hw4⟩ : ∃ w4, w4 = w3.alloc (.cells #[Value.int .i64 (a : Int), .int .i64 (b : Int), .int .i64 (sz : Int)] 155) := ⟨_, rfl⟩
      have hr4 : Row w4 w3.heap.size 155 [Value.int .i64 (a : Int), .int .i64 (b : Int), .int .i64 (sz : Int)] := by rw [hw4]; exact Row.new w3 _ _
      have hf4 : Fr (fun _ => False) w3 w4 := by rw [hw4]; exact (Fr.refl _ w3).alloc _
      obtain ⟨q, hq⟩ : ∃ q, q = w3.heap.size := ⟨_, rfl⟩
      rw [← hw4]
      rw [← hq] at hr4 ⊢
      have d2 : w4.cell? ⟨q, 2, none⟩ = some (.int .i64 (sz : Int)) := hr4.cell rfl
      have HR4 := Lib.hid hr4
      have HQR : Hid (q ≠ r) := Lib.hid (by have := HRE3.out.lt.1; omega)
      have HF4 := Lib.hid (HF3.out.trans hf4 (fun _ _ h => h.elim))
      have HRE4 := Lib.hid (HRE3.out.fr hf4 (fun h => h) (fun _ _ h => h))
      clear hw4 hr4 hf4 hq
      by_cases hp : p2 + sz ≤ 8 * B.length
      · obtain ⟨z, hz⟩ : ∃ z, z = num ((bs.drop k).take sz) := ⟨_, rfl⟩
        have hz7 : z ≤ 127 := by rw [hz]; exact num3_lt bs k sz HSB.out.1
        have hb := bits_ok r c p2 A B sz w4 HRE4.out (by omega) (by have := HSB.out.1; omega) hp
        rw [show cut B p2 sz = (bs.drop k).take sz by rw [HDR.out]; rfl, ← hz] at hb
        have HBT := Lib.hid hb
        have qz := conv_int8 z (by omega)
        have HX : Hid (∀ NN, l.length < NN → step8 len NN l bs = if NN < l.length + (a + z) then none else some (l ++ List.replicate (a + z) (0 : Nat), (bitsOf B).drop (p2 + sz))) := Lib.hid (fun NN hN => by
          have hlen : ¬ (bs.drop k).length < sizeOf8 s := by rw [HDR.out, List.length_drop, bitsOf_length, ← HAS.out.2]; omega
          by_cases ho : NN < l.length + (a + z)
          · rw [if_pos ho]
            exact step_over HNS.out hs16' (by rw [← HAS.out.1, ← HAS.out.2, ← hz]; exact ho)
          · rw [if_neg ho]
            have h := step_go (NN := NN) (v := (0 : Nat)) HNS.out hs16' (fun h => absurd h HE.out) hlen (by rw [← HAS.out.1, ← HAS.out.2, ← hz]; exact ho) HVAL.out.symm
            rw [← HAS.out.1, ← HAS.out.2, ← hz, HDR.out, List.drop_drop] at h
            exact h)
        have haz : a + z ≤ 300 := by have := HSB.out.2.1; omega
        have HAZ := Lib.hid haz
        have HA3 : Hid (1 ≤ a + z) := Lib.hid (by have := HSB.out.2.2; omega)
        have ha138 : a ≤ 138 := HSB.out.2.1
        have e1 : (a : Int) + (z : Int) = ((a + z : Nat) : Int) := by omega
        have e2 : IntKind.i64.wrap ((a : Int) + (z : Int)) = ((a + z : Nat) : Int) := by rw [IntKind.wrap_i64]; omega
        obtain ⟨y, hy⟩ : ∃ y, y = a + z := ⟨_, rfl⟩
        rw [← hy] at HX HAZ HA3 e1 e2
        have e3 : IntKind.i64.wrap (y : Int) = (y : Int) := by rw [IntKind.wrap_i64]; have := HAZ.out; omega
        clear hz hb haz hy
        go_wp2_with fail
        refine HBT.out.mono ?_
        rintro e w5 ⟨rfl, hre5, hf5⟩
        have HRE5 := Lib.hid hre5
        have HF5 := Lib.hid (HF4.out.trans hf5 (fun _ _ h => h))
        have d0 : w5.cell? ⟨q, 0, none⟩ = some (.int .i64 (a : Int)) := (Row.fr HR4.out hf5 (fun h => HQR.out h)).cell rfl
        clear hre5 hf5 HBT d2
        go_upto_region 14 with fail
        go_still (by kernel_rfl)
        go_wp2_with fail
        exact bodyPost_ret (v := .tuple #[.int .i64 ((0 : Nat) : Nat), .int .i64 (y : Int), .bool true]) (by simp [results, Tryz.results112, go_sem]) rfl
          ⟨(0 : Nat), y, true, p2 + sz, rfl, HRE5.out.drew, HF5.out.drew, .inr ⟨rfl, HA3.out, HAZ.out, HX.out⟩⟩
      · have hb := bits_no r c p2 A B (sz : Int) w4 HRE4.out (by omega) (.inr (.inr (by have := HRE4.out.2.2; omega)))
        have HBT := Lib.hid hb
        have HX : Hid (∀ NN, step8 len NN l bs = none) := Lib.hid (fun NN => step_short HNS.out hs16' (by rw [HDR.out, List.length_drop, bitsOf_length, ← HAS.out.2]; have := HRE4.out.2.2; omega))
        clear hb
        go_wp2_with fail
        refine HBT.out.mono ?_
        rintro e w5 ⟨rfl, hre5, hf5⟩
        have HRE5 := Lib.hid hre5
        have HF5 := Lib.hid (HF4.out.trans hf5 (fun _ _ h => h.elim))
        clear hre5 hf5 HBT d2
        go_wp2_with fail
        exact bodyPost_ret (v := .tuple #[.int .i64 0, .int .i64 0, .bool false]) (by simp [results, Tryz.results112, go_sem]) rfl
          ⟨0, 0, false, p2, rfl, HRE5.out, HF5.out, .inl ⟨rfl, HX.out⟩⟩
end Go.Proofs.YtgpkiijmembggaaGreatDoor
namespace Go.Proofs.YtgpkiijmembggaaGreatDoor
open Go.RowKit CoM BitsM HuffM Mem Go.Lib
attribute [local go_sem ↓] Go.wp_at_zero Go.wp_at_succ
set_option linter.unusedVariables false
set_option maxRecDepth 100000

/-- what readLengths answers -/
def LensOk (w' : World) (e : Ending) (base N r c : Nat) (A : Option Addr) (B : List UInt8) : Option (List Nat × List Bool) → Prop
  | none => ∃ p', e = .returned (.tuple #[.slice none 0 0, .bool false]) ∧ Re w' r A c B p'
  | some (l, rest) => ∃ A' c' p', e = .returned (.tuple #[.slice A' N c', .bool true]) ∧ l.length = N ∧ rest = (bitsOf B).drop p' ∧ w'.ownsRow base 3 1 (.slice A' N c') N (l.map natc) ∧ Re w' r A c B p'
theorem mk_room (N : Nat) (hN : N ≤ 1000) (w : World) : ∃ w' A', (Instr.makeSlice 60 (.int .i64 0) (.int .i64 (N : Int))).run Tryz.prog w = .ok (.slice A' 0 N) w' ∧ w'.ownsRow w.heap.size 3 1 (.slice A' 0 N) 0 [] ∧ Fr (fun _ => False) w w' := by
  obtain ⟨i, hi, hz, hs, hb⟩ := info_parts (show (Tryz.prog.info? 3).map (fun i => (i.zero, i.size, i.bytes)) = some (some (.int .i64 0), 1, 8) by kernel_rfl)
  obtain ⟨w', h1, h2, h3⟩ := run_make_own (P := Tryz.prog) w w.heap.size 60 3 i _ 1 Tryz.underlying60 hi hz hs .i64 .i64 N (by rw [hb]; omega) (by unfold maxLen; omega) (Nat.le_refl _)
  exact ⟨w', _, h1, h2, (Fr.of_grown h3).mono (fun b _ h => by cases h)⟩
set_option maxHeartbeats 6400000 in
theorem readLengths_any (G : Nat → Prop) (r c p : Nat) (pa : Addr) (A : Option Addr) (B : List UInt8) (N : Nat) (len : List Nat) (w : World) (hG : Gl8 w) (hcb : CB w G pa (ints len)) (hGr : ¬ G r) (hGl : ∀ k, G k → k < w.heap.size) (hR : rightB (ints len) = true) (hl19 : len.length = 19) (h : Re w r A c B p) (hr2 : top8 ≤ r) (hB : B.length ≤ 1000000) (hN : N ≤ 320) :
    Calls Tryz.prog 109 #[.pointer (some ⟨r, 0, none⟩), .pointer (some pa), .int .i64 (N : Int)] w fun e w' => LensOk w' e w.heap.size N r c A B (tells len N N [] ((bitsOf B).drop p)) ∧ Fr (fun k => k = r) w w' := by
  obtain ⟨R, hRR⟩ : ∃ R, R = tells len N N [] ((bitsOf B).drop p) := ⟨_, rfl⟩
  rw [← hRR]
  obtain ⟨w1, A0, hmk, hown1, hf1⟩ := mk_room N (by omega) w
  obtain ⟨base, hbase⟩ : ∃ base, base = w.heap.size := ⟨_, rfl⟩
  rw [← hbase] at hown1 ⊢
  have HB0 := Lib.hid hbase
  have HO1 := Lib.hid hown1
  have HF1 := Lib.hid hf1
  have HG := Lib.hid hG
  have HCB1 := Lib.hid (hcb.fr hf1 (fun _ _ h => h))
  have HGG : Hid (¬ G r ∧ (∀ k, G k → k < base) ∧ r < base) := Lib.hid ⟨hGr, fun k hk => by rw [hbase]; exact hGl k hk, by rw [hbase]; exact h.lt.1⟩
  have HAL : Hid (∀ k, bl A = some k → k < base) := Lib.hid (by rw [hbase]; exact h.lt.2)
  have HRT := Lib.hid (And.intro hR hl19)
  have HRE1 := Lib.hid (h.fr hf1 (fun h => h) (fun _ _ h => h))
  have HR2 := Lib.hid hr2
  have HRR := Lib.hid hRR
  clear hown1 hf1 hG hcb hGr hGl hR hl19 h hr2 hRR hbase
  go_enter Tryz.func109, Tryz.ntmps109
  go_wp2_with fail
  go_loopw [8] (fun s wr => ∃ (f : Nat) (l : List Nat) (p1 q : Nat) (A1 : Option Addr) (c1 : Nat), s = .slice A1 q c1 ∧ q ≤ N ∧ N ≤ q + f ∧ Hid (l.length = q) ∧ Hid (wr.ownsRow base 3 1 (.slice A1 q c1) q (l.map natc)) ∧ Hid (tells len N f l ((bitsOf B).drop p1) = R) ∧ Hid (Re wr r A c B p1) ∧ Hid (CB wr G pa (ints len)) ∧ Hid (Fr (fun k => k = r) w wr)) (fun s _ => N - slen s)
  case atStart => exact ⟨N, [], p, 0, A0, N, rfl, by omega, by omega, rfl, HO1.out, HRR.out.symm, HRE1.out, HCB1.out, HF1.out.mono (fun _ _ h => h.elim)⟩
  case round =>
    obtain ⟨f, l, p1, q, A1, c1, rfl, hq, hqf, HLQ, HO, HT, HRE, HCB, HF⟩ := hrel
    rename World => wr
    by_cases hlt : q < N
    · have HI := Lib.hid (readItem_any G r c p1 pa A A1 B q c1 len l wr (HG.out.fr HF.out (fun k hk => by have := HR2.out; omega)) HCB.out HGG.out.1 HRT.out.1 HRT.out.2 HRE.out HR2.out hB (Rd.of_own HO.out) (fun ad h => by
        have h1 := (HO.out.lt ad.block (by rw [h]; rfl)).1
        have h2 := HGG.out.2.2
        omega) (by omega))
      obtain ⟨f', hf'⟩ : ∃ f', f = f' + 1 := ⟨f - 1, by omega⟩
      have HFF := Lib.hid hf'
      clear hf'
      go_wp2_with fail
      refine HI.out.mono ?_
      rintro e w2 ⟨v, t, ok, p2, rfl, hre2, hf2, hok⟩
      have HRE2 := Lib.hid hre2
      have HF2 := Lib.hid (HF.out.trans hf2 (fun _ _ h => h))
      have HO2 := Lib.hid (hf2.own HO.out (fun k hk h => by have h1 := (HO.out.lt k hk).1; have h2 := HGG.out.2.2; omega))
      have HCB2 := Lib.hid (HCB.out.fr hf2 (fun k hk h => HGG.out.1 (h ▸ hk)))
      have HOK := Lib.hid hok
      clear hre2 hf2 HI
      cases ok with
      | false =>
        have HX : Hid (R = none) := Lib.hid (by
          rcases hok with ⟨_, h⟩ | ⟨h1, _⟩
          · rw [← HT.out, HFF.out]
            exact tells_none (by rw [HLQ.out]; exact hlt) (h N)
          · cases h1)
        clear hok
        go_wp2_with fail
        exact bodyPost_ret (v := .tuple #[.slice none 0 0, .bool false]) (by simp [results, Tryz.results109, go_sem]) rfl
          ⟨by rw [HX.out]; exact ⟨p2, rfl, HRE2.out⟩, HF2.out⟩
      | true =>
        obtain ⟨ht1, ht3, hst⟩ : 1 ≤ t ∧ t ≤ 300 ∧ step8 len N l ((bitsOf B).drop p1) = if N < l.length + t then none else some (l ++ List.replicate t v, (bitsOf B).drop p2) := by
          rcases hok with ⟨h1, _⟩ | ⟨_, h1, h2, h3⟩
          · cases h1
          · exact ⟨h1, h2, h3 N (by rw [HLQ.out]; exact hlt)⟩
        rw [HLQ.out] at hst
        obtain ⟨y, hy⟩ : ∃ y, y = q + t := ⟨_, rfl⟩
        rw [← hy] at hst
        have e1 : (q : Int) + (t : Int) = (y : Int) := by omega
        have e2 : IntKind.i64.wrap ((q : Int) + (t : Int)) = (y : Int) := by rw [IntKind.wrap_i64]; omega
        clear hok
        by_cases ho : N < y
        · have u1 : decide ((y : Int) > (N : Int)) = true := by simp; omega
          have u2 : decide ((N : Int) < (y : Int)) = true := by simp; omega
          have u3 : decide (N < y) = true := by simp; omega
          have HX : Hid (R = none) := Lib.hid (by
            rw [← HT.out, HFF.out]
            exact tells_none (by rw [HLQ.out]; exact hlt) (by rw [hst, if_pos ho]))
          clear hst hy
          go_wp2_with fail
          exact bodyPost_ret (v := .tuple #[.slice none 0 0, .bool false]) (by simp [results, Tryz.results109, go_sem]) rfl
            ⟨by rw [HX.out]; exact ⟨p2, rfl, HRE2.out⟩, HF2.out⟩
        · have u1 : decide ((y : Int) > (N : Int)) = false := by simp; omega
          have u2 : decide ((N : Int) < (y : Int)) = false := by simp; omega
          have u3 : decide (N < y) = false := by simp; omega
          have HX : Hid (tells len N f' (l ++ List.replicate t v) ((bitsOf B).drop p2) = R) := Lib.hid (by
            rw [← HT.out, HFF.out]
            exact (tells_some (by rw [HLQ.out]; exact hlt) (by rw [hst, if_neg ho])).symm)
          have HY := Lib.hid hy
          have hyN : y ≤ N := by omega
          rename World => w2
          clear hst hy
          go_wp2_with fail
          go_loopw [8, 37] (fun s i wx => ∃ (j z : Nat) (A2 : Option Addr) (c2 : Nat), j ≤ t ∧ i = .int .i64 (j : Int) ∧ s = .slice A2 z c2 ∧ Hid (z = q + j) ∧ z ≤ 320 ∧ Hid (wx.ownsRow base 3 1 (.slice A2 z c2) z ((l ++ List.replicate j v).map natc)) ∧ Hid (Re wx r A c B p2) ∧ Hid (CB wx G pa (ints len)) ∧ Hid (Fr (fun k => k = r) w wx)) (fun _ i _ => t - (intOf i).toNat)
          case atStart => exact ⟨0, q, A1, c1, Nat.zero_le _, rfl, rfl, (rfl : q = q + 0), by omega, by rw [List.replicate_zero, List.append_nil]; exact HO2.out, HRE2.out, HCB2.out, HF2.out⟩
          case round =>
            obtain ⟨j, z, A2, c2, hj, rfl, rfl, HZ, hz3, HO3, HRE3, HCB3, HF3⟩ := hrel
            rename World => wx
            by_cases hjt : j < t
            · obtain ⟨z1, hz1⟩ : ∃ z1, z1 = z + 1 := ⟨_, rfl⟩
              have HZ1 := Lib.hid hz1
              have hz13 : z1 ≤ 320 := by have := HZ.out; have := HY.out; omega
              clear hz1
              go_wp2_with (at_builtin; refine wpList_appN int8T _ rfl _ _ rfl base _ _ _ rfl (HO3.out.alloc _) _ _ _ _ rfl (Rd.one _ _ _) (one_one _ _) z1 HZ1.out (by unfold maxLen; omega) (by omega) (by have h1 := HF3.out.size; have h2 := HB0.out; simp; omega) ?_)
              intro A4 c4 w4 hc4 hc4m hown4 hf4 _
              have hfx : Fr (fun k => (Value.slice A2 z c2).ownBlock = some k) wx w4 := ((Fr.refl _ wx).alloc _).trans hf4 (fun _ _ h => h)
              have hob : ∀ k, (Value.slice A2 z c2).ownBlock = some k → base ≤ k := fun k hk => (HO3.out.lt k hk).1
              have HO4 : Hid (w4.ownsRow base 3 1 (.slice A4 z1 c4) z1 ((l ++ List.replicate (j + 1) v).map natc)) := Lib.hid (by
                have e : (l ++ List.replicate (j + 1) v).map natc = l.map natc ++ (List.replicate j (natc v) ++ [.int .i64 (v : Int)]) := by
                  rw [List.replicate_succ', List.map_append, List.map_append, List.map_replicate]
                  rfl
                rw [e]
                exact hown4)
              have HRE4 := Lib.hid (HRE3.out.fr hfx (fun h => by have h1 := hob _ h; have h2 := HGG.out.2.2; omega) (fun k hk h => by have h1 := hob _ h; have h2 := HAL.out k hk; omega))
              have HCB4 := Lib.hid (HCB3.out.fr hfx (fun k hk h => by have h1 := hob _ h; have h2 := HGG.out.2.1 k hk; omega))
              have HF4 : Hid (Fr (fun k => k = r) w w4) := Lib.hid (HF3.out.trans hfx (fun b hb h => by have h1 := hob _ h; have h2 := HB0.out; omega))
              clear hown4 hf4 hfx hob
              go_wp2_with fail
              exact ⟨⟨j + 1, z1, A4, c4, by omega, by go_num, rfl, by have h1 := HZ.out; have h2 := HZ1.out; show z1 = _; omega, hz13, HO4.out, HRE4.out, HCB4.out, HF4.out⟩, by simp [intOf]; omega⟩
            · have hjt2 : j = t := by omega
              subst hjt2
              have hzy : z = y := by have := HZ.out; have := HY.out; omega
              subst hzy
              have HLL : Hid ((l ++ List.replicate j v).length = z) := Lib.hid (by rw [List.length_append, List.length_replicate, HLQ.out]; exact HY.out.symm)
              have HYQ : Hid (q < z ∧ N ≤ z + f') := Lib.hid (by have h1 := HY.out; have h2 := HFF.out; omega)
              go_wp2_with fail
              exact ⟨⟨f', l ++ List.replicate j v, p2, z, A2, c2, rfl, hyN, HYQ.out.2, HLL.out, HO3.out, HX.out, HRE3.out, HCB3.out, HF3.out⟩, by have := HYQ.out.1; simp [slen]; omega⟩
    · have hqN : q = N := by omega
      subst hqN
      have HX : Hid (R = some (l, (bitsOf B).drop p1)) := Lib.hid (by rw [← HT.out]; exact tells_end (by rw [HLQ.out]; omega))
      go_wp2_with fail
      exact bodyPost_ret (v := .tuple #[.slice A1 q c1, .bool true]) (by simp [results, Tryz.results109, go_sem]) rfl
        ⟨by rw [HX.out]; exact ⟨A1, c1, p1, rfl, HLQ.out, rfl, HO.out, HRE.out⟩, HF.out⟩
end Go.Proofs.YtgpkiijmembggaaGreatDoor
namespace Go.Proofs.YtgpkiijmembggaaGreatDoor
open Go.RowKit CoM BitsM HuffM Mem Go.Lib
attribute [local go_sem ↓] Go.wp_at_zero Go.wp_at_succ
set_option linter.unusedVariables false
set_option maxRecDepth 100000

theorem getB_no {bs : List Bool} (h : bs.length < 14 ∨ 29 < num (bs.take 5) ∨ 29 < num ((bs.drop 5).take 5)) : getB bs = none := by
  unfold getB
  by_cases h14 : bs.length < 14
  · rw [if_pos h14]
  · rw [if_neg h14]
    simp only
    rw [if_pos (by omega)]
theorem getB_go {bs : List Bool} (h14 : 14 ≤ bs.length) (h1 : num (bs.take 5) ≤ 29) (h2 : num ((bs.drop 5).take 5) ≤ 29) :
    getB bs = if (bs.drop 14).length < 3 * (num ((bs.drop 10).take 4) + 4) ∨ rightB (ints (lens19 (bs.drop 14) (num ((bs.drop 10).take 4) + 4))) = false then none
      else match tells (lens19 (bs.drop 14) (num ((bs.drop 10).take 4) + 4)) (num (bs.take 5) + 257 + (num ((bs.drop 5).take 5) + 1)) (num (bs.take 5) + 257 + (num ((bs.drop 5).take 5) + 1)) [] ((bs.drop 14).drop (3 * (num ((bs.drop 10).take 4) + 4))) with
        | none => none
        | some (l, rest) => if l[256]! = 0 then none else some (l.take (num (bs.take 5) + 257), l.drop (num (bs.take 5) + 257), rest) := by
  unfold getB
  rw [if_neg (by omega)]
  simp only
  by_cases ha : (bs.drop 14).length < 3 * (num ((bs.drop 10).take 4) + 4)
  · rw [if_pos (.inr (.inr ha)), if_pos (.inl ha)]
  · rw [if_neg (by omega)]
    by_cases hb : rightB (ints (lens19 (bs.drop 14) (num ((bs.drop 10).take 4) + 4))) = false
    · rw [if_pos hb, if_pos (.inr hb)]
    · rw [if_neg hb, if_neg (fun h => h.elim ha hb)]
      rfl
/-- 'l[f:y:y]' -/
theorem run_cut3 (A : Option Addr) (n c f y : Nat) (hf : f ≤ y) (hy : y ≤ n) (hn : n ≤ c) (w' : World) :
    (Instr.sliceAt 60 (.slice A n c) (some (.int .i64 (f : Int))) (some (.int .i64 (y : Int))) (some (.int .i64 (y : Int)))).run Tryz.prog w' = .ok (.slice (cutAt A y f) (y - f) (y - f)) w' := by
  unfold cutAt
  cases A with
  | none =>
    go_simp
    intro h
    omega
  | some ad =>
    go_simp
    try (intro h; omega)
/-- what read answers -/
def ReadP (base : Nat) (w' : World) (e : Ending) (r c : Nat) (A : Option Addr) (B : List UInt8) : Option (List Nat × List Nat × List Bool) → Prop
  | none => ∃ p', e = .returned (.tuple #[.slice none 0 0, .slice none 0 0, .bool false]) ∧ Re w' r A c B p'
  | some (u, v, rest) => ∃ A1 A2 p', e = .returned (.tuple #[.slice A1 u.length u.length, .slice A2 v.length v.length, .bool true]) ∧ Rd w' A1 u.length (u.map natc) ∧ Rd w' A2 v.length (v.map natc) ∧ (∀ ad, A1 = some ad → base ≤ ad.block) ∧ (∀ ad, A2 = some ad → base ≤ ad.block) ∧ rest = (bitsOf B).drop p' ∧ Re w' r A c B p'
set_option maxHeartbeats 6400000 in
theorem read_any (r c p : Nat) (A : Option Addr) (B : List UInt8) (w : World) (hG : Gl8 w) (h : Re w r A c B p) (hr2 : top8 ≤ r) (hB : B.length ≤ 1000000) :
    Calls Tryz.prog 98 #[.pointer (some ⟨r, 0, none⟩)] w fun e w' => ReadP w.heap.size w' e r c A B (getB ((bitsOf B).drop p)) ∧ Fr (fun k => k = r) w w' := by
  obtain ⟨bs, hbs⟩ : ∃ bs, bs = (bitsOf B).drop p := ⟨_, rfl⟩
  rw [← hbs]
  obtain ⟨RES, hRES⟩ : ∃ R, R = getB bs := ⟨_, rfl⟩
  rw [← hRES]
  have HRES := Lib.hid hRES
  have HBS := Lib.hid hbs
  have HG := Lib.hid hG
  have HR2 := Lib.hid hr2
  have H1 : Hid (Calls Tryz.prog 107 #[.pointer (some ⟨r, 0, none⟩), .int .i64 5, .int .i64 257, .int .i64 286] w fun e w' => ∃ (x : Nat) (ok : Bool) (p' : Nat), e = .returned (.tuple #[.int .i64 (x : Int), .bool ok]) ∧ Re w' r A c B p' ∧ Fr (fun k => k = r) w w' ∧ CountOk bs 5 257 286 x ok p p') := Lib.hid (by rw [hbs]; exact readCount_any r c p A B 5 257 286 w h hB (by omega) (by omega) (by omega))
  clear hRES hbs hG hr2 h
  go_enter Tryz.func98, Tryz.ntmps98
  go_wp2_with fail
  refine H1.out.mono ?_
  rintro e w2 ⟨x1, ok1, p1, rfl, hre2, hf2, hk1⟩
  have HF2 := Lib.hid hf2
  have HK1 := Lib.hid hk1
  have H2 : Hid (Calls Tryz.prog 107 #[.pointer (some ⟨r, 0, none⟩), .int .i64 5, .int .i64 1, .int .i64 30] w2 fun e w' => ∃ (x : Nat) (ok : Bool) (p' : Nat), e = .returned (.tuple #[.int .i64 (x : Int), .bool ok]) ∧ Re w' r A c B p' ∧ Fr (fun k => k = r) w2 w' ∧ CountOk ((bitsOf B).drop p1) 5 1 30 x ok p1 p') := Lib.hid (readCount_any r c p1 A B 5 1 30 w2 hre2 hB (by omega) (by omega) (by omega))
  clear H1 hre2 hf2 hk1
  go_wp2_with fail
  refine H2.out.mono ?_
  rintro e w3 ⟨x2, ok2, p2, rfl, hre3, hf3, hk2⟩
  have HF3 := Lib.hid (HF2.out.trans hf3 (fun _ _ h => h))
  have HK2 := Lib.hid hk2
  have H3 : Hid (Calls Tryz.prog 107 #[.pointer (some ⟨r, 0, none⟩), .int .i64 4, .int .i64 4, .int .i64 19] w3 fun e w' => ∃ (x : Nat) (ok : Bool) (p' : Nat), e = .returned (.tuple #[.int .i64 (x : Int), .bool ok]) ∧ Re w' r A c B p' ∧ Fr (fun k => k = r) w3 w' ∧ CountOk ((bitsOf B).drop p2) 4 4 19 x ok p2 p') := Lib.hid (readCount_any r c p2 A B 4 4 19 w3 hre3 hB (by omega) (by omega) (by omega))
  clear H2 hre3 hf3 hk2
  go_wp2_with fail
  refine H3.out.mono ?_
  rintro e w4 ⟨x3, ok3, p3, rfl, hre4, hf4, hk3⟩
  have HF4 := Lib.hid (HF3.out.trans hf4 (fun _ _ h => h))
  have HRE4 := Lib.hid hre4
  have HK3 := Lib.hid hk3
  clear H3 hre4 hf4 hk3
  have HNO : Hid ((ok1 && ok2 && ok3) = false → RES = none) := Lib.hid (by
    intro hno
    rw [HRES.out]
    apply getB_no
    rcases HK1.out with ⟨h1, a1, a2, a3, a4⟩ | ⟨h1, a⟩
    · subst h1
      subst a4
      have hk2 := HK2.out
      rw [show (bitsOf B).drop (p + 5) = bs.drop 5 by rw [HBS.out, List.drop_drop]] at hk2
      rcases hk2 with ⟨h2, b1, b2, b3, b4⟩ | ⟨h2, b⟩
      · subst h2
        subst b4
        have hk3 := HK3.out
        rw [show (bitsOf B).drop (p + 5 + 5) = bs.drop 10 by rw [HBS.out, List.drop_drop]] at hk3
        rcases hk3 with ⟨h3, _⟩ | ⟨h3, d⟩
        · subst h3
          cases hno
        · have h16 := num_lt ((bs.drop 10).take 4)
          have h2p : 2 ^ ((bs.drop 10).take 4).length ≤ 2 ^ 4 := Nat.pow_le_pow_right (by omega) (by rw [List.length_take]; omega)
          rw [List.length_drop] at d
          omega
      · rw [List.length_drop] at b
        omega
    · omega)
  by_cases hall : (ok1 && ok2 && ok3) = false
  · have HX := Lib.hid (HNO.out hall)
    cases ok1 <;> cases ok2 <;> cases ok3
    all_goals first
      | (exfalso; simp at hall; done)
      | (clear hall
         go_wp2_with fail
         exact bodyPost_ret (v := .tuple #[.slice none 0 0, .slice none 0 0, .bool false]) (by simp [results, Tryz.results98, go_sem]) rfl
           ⟨by rw [HX.out]; exact ⟨p3, rfl, HRE4.out⟩, HF4.out⟩)
  obtain ⟨rfl, rfl, rfl⟩ : ok1 = true ∧ ok2 = true ∧ ok3 = true := by
    cases ok1 <;> cases ok2 <;> cases ok3 <;> simp at hall ⊢
  clear hall HNO
  obtain ⟨y1, y2, y3, h14, hy1, hy2, hx1, hx2, hx3, hp3, e1, e2, e3⟩ : ∃ y1 y2 y3, 14 ≤ bs.length ∧ y1 ≤ 29 ∧ y2 ≤ 29 ∧ x1 = y1 + 257 ∧ x2 = y2 + 1 ∧ x3 = y3 + 4 ∧ p3 = p + 14 ∧ y1 = num (bs.take 5) ∧ y2 = num ((bs.drop 5).take 5) ∧ y3 = num ((bs.drop 10).take 4) := by
    rcases HK1.out with ⟨_, a1, a2, a3, a4⟩ | ⟨h, _⟩
    · subst a4
      have hk2 := HK2.out
      rw [show (bitsOf B).drop (p + 5) = bs.drop 5 by rw [HBS.out, List.drop_drop]] at hk2
      rcases hk2 with ⟨_, b1, b2, b3, b4⟩ | ⟨h, _⟩
      · subst b4
        have hk3 := HK3.out
        rw [show (bitsOf B).drop (p + 5 + 5) = bs.drop 10 by rw [HBS.out, List.drop_drop]] at hk3
        rcases hk3 with ⟨_, d1, d2, d3, d4⟩ | ⟨h, _⟩
        · rw [List.length_drop] at d1
          exact ⟨_, _, _, by omega, by omega, by omega, by omega, by omega, by omega, by omega, rfl, rfl, rfl⟩
        · cases h
      · cases h
    · cases h
  have hgo := getB_go h14 (by rw [← e1]; exact hy1) (by rw [← e2]; exact hy2)
  rw [← e1, ← e2, ← e3, ← hx1, ← hx2, ← hx3, ← HRES.out] at hgo
  have hx3b : x3 ≤ 19 := by
    have h16 := num_lt ((bs.drop 10).take 4)
    have h2p : 2 ^ ((bs.drop 10).take 4).length ≤ 2 ^ 4 := Nat.pow_le_pow_right (by omega) (by rw [List.length_take]; omega)
    omega
  obtain ⟨N, hN⟩ : ∃ N, N = x1 + x2 := ⟨_, rfl⟩
  rw [← hN] at hgo
  have s1 : (x1 : Int) + (x2 : Int) = (N : Int) := by omega
  have s2 : IntKind.i64.wrap ((x1 : Int) + (x2 : Int)) = (N : Int) := by rw [IntKind.wrap_i64]; omega
  have hdr : bs.drop 14 = (bitsOf B).drop p3 := by rw [HBS.out, List.drop_drop, hp3]
  rw [hdr, List.drop_drop] at hgo
  have HGO := Lib.hid hgo
  have hx1b : 257 ≤ x1 ∧ x1 ≤ 286 := by omega
  have hx2b : 1 ≤ x2 ∧ x2 ≤ 30 := by omega
  obtain ⟨hx1c, hx1d⟩ := hx1b
  obtain ⟨hx2c, hx2d⟩ := hx2b
  have HNN := Lib.hid hN
  have hN3 : N ≤ 316 := by omega
  have HN256 : Hid (256 < N ∧ x1 ≤ N ∧ N - x1 = x2) := Lib.hid (by omega)
  have HRC := Lib.hid (readCoder_any r c p3 A B x3 w4 (HG.out.fr HF4.out (fun k hk => by have := HR2.out; omega)) HRE4.out HR2.out hB hx3b)
  clear h14 hy1 hy2 hx1 hx2 hx3 hp3 e1 e2 e3 hgo hN hdr HK1 HK2 HK3 HRES HBS
  go_wp2_with fail
  refine HRC.out.mono ?_
  rintro e w5 ⟨hco, hf5⟩
  have HF5 := Lib.hid (HF4.out.trans hf5 (fun _ _ h => h))
  clear HRC hf5
  rcases hco.symm with ⟨p', rfl, hor, hre5⟩ | ⟨pa, rfl, hl3, hR, hcb, hre5⟩
  · have HX : Hid (RES = none) := Lib.hid (by rw [HGO.out, if_pos hor])
    have HRE5 := Lib.hid hre5
    clear hor hre5
    go_wp2_with fail
    exact bodyPost_ret (v := .tuple #[.slice none 0 0, .slice none 0 0, .bool false]) (by simp [results, Tryz.results98, go_sem]) rfl
      ⟨by rw [HX.out]; exact ⟨p', rfl, HRE5.out⟩, HF5.out⟩
  have hgo := HGO.out
  rw [if_neg (fun h => by
    rcases h with h | h
    · omega
    · rw [hR] at h; cases h)] at hgo
  obtain ⟨R, hRR⟩ : ∃ R, R = tells (lens19 ((bitsOf B).drop p3) x3) N N [] ((bitsOf B).drop (p3 + 3 * x3)) := ⟨_, rfl⟩
  rw [← hRR] at hgo
  have HGO2 := Lib.hid hgo
  have HRL : Hid (Calls Tryz.prog 109 #[.pointer (some ⟨r, 0, none⟩), .pointer (some pa), .int .i64 (N : Int)] w5 fun e w' => LensOk w' e w5.heap.size N r c A B R ∧ Fr (fun k => k = r) w5 w') := Lib.hid (by
    rw [hRR]
    exact readLengths_any _ r c (p3 + 3 * x3) pa A B N (lens19 ((bitsOf B).drop p3) x3) w5 (HG.out.fr HF5.out (fun k hk => by have := HR2.out; omega)) hcb (fun h => by have := HRE4.out.lt.1; omega) (fun k hk => hk.2) hR (lens19_len _ _) hre5 HR2.out hB (by omega))
  clear hl3 hR hcb hre5 hgo hRR HGO
  go_wp2_with fail
  refine HRL.out.mono ?_
  rintro e w6 ⟨hlo, hf6⟩
  have HF6 := Lib.hid (HF5.out.trans hf6 (fun _ _ h => h))
  clear HRL hf6
  cases R with
  | none =>
    obtain ⟨p', rfl, hre6⟩ := hlo
    have HX : Hid (RES = none) := Lib.hid HGO2.out
    have HRE6 := Lib.hid hre6
    clear hre6
    go_wp2_with fail
    exact bodyPost_ret (v := .tuple #[.slice none 0 0, .slice none 0 0, .bool false]) (by simp [results, Tryz.results98, go_sem]) rfl
      ⟨by rw [HX.out]; exact ⟨p', rfl, HRE6.out⟩, HF6.out⟩
  | some lr =>
    obtain ⟨l, rest⟩ := lr
    obtain ⟨A', c', p', rfl, hll, hrest, hown, hre6⟩ := hlo
    have hgo := HGO2.out
    simp only at hgo
    have hrd := Rd.of_own hown
    obtain ⟨_, hNc, hcm⟩ := own_cap hown
    obtain ⟨z, hz⟩ : ∃ z, z = l[256]! := ⟨_, rfl⟩
    obtain ⟨ga, hA, cl, _⟩ := own_at hown (i := 256) (u := .int .i64 (z : Int)) (by
      have := HN256.out.1
      rw [List.getElem?_map, List.getElem?_eq_getElem (by omega), hz, getElem!_pos l 256 (by omega)]
      rfl)
    subst hA
    rw [← hz] at hgo
    have HRE6 := Lib.hid hre6
    have hN256 : (256 : Int) < (N : Int) := by have := HN256.out.1; omega
    have hN256q : 256 < N := HN256.out.1
    have HGO3 := Lib.hid hgo
    have HOWN := Lib.hid hown
    have HRD := Lib.hid hrd
    have HLL := Lib.hid (And.intro hll hrest)
    clear hz hgo hre6 hll hrest hown hrd HGO2
    by_cases hz0 : z = 0
    · have tz : ((z : Int) == 0) = true := by simp [hz0]
      have HX : Hid (RES = none) := Lib.hid (by rw [HGO3.out, if_pos hz0])
      clear hz0
      go_wp2_with fail
      exact bodyPost_ret (v := .tuple #[.slice none 0 0, .slice none 0 0, .bool false]) (by simp [results, Tryz.results98, go_sem]) rfl
        ⟨by rw [HX.out]; exact ⟨p', rfl, HRE6.out⟩, HF6.out⟩
    · have tz : ((z : Int) == 0) = false := by simp; omega
      have HX : Hid (RES = some (l.take x1, l.drop x1, rest)) := Lib.hid (by rw [HGO3.out, if_neg hz0])
      have k1 := run_to3 (some ⟨ga, 0, none⟩) N c' x1 HN256.out.2.1 hNc
      have k2 := run_cut3 (some ⟨ga, 0, none⟩) N c' x1 N HN256.out.2.1 (Nat.le_refl _) hNc
      rw [HN256.out.2.2] at k2
      obtain ⟨A2, hA2⟩ : ∃ A2, A2 = cutAt (some ⟨ga, 0, none⟩) N x1 := ⟨_, rfl⟩
      rw [← hA2] at k2
      have HA2 := Lib.hid hA2
      clear hz0 hA2
      go_upto_region 12 with fail
      go_quiet (fail)
      go_wp2_with fail
      have hl1 : (l.take x1).length = x1 := by rw [List.length_take, HLL.out.1]; have := HN256.out.2.1; omega
      have hl2 : (l.drop x1).length = x2 := by rw [List.length_drop, HLL.out.1]; exact HN256.out.2.2
      have hb := HOWN.out.lt ga rfl
      refine bodyPost_ret (v := .tuple #[.slice (some ⟨ga, 0, none⟩) x1 x1, .slice A2 x2 x2, .bool true]) (by simp [results, Tryz.results98, go_sem]) rfl ⟨?_, HF6.out.drewN nq⟩
      rw [HX.out]
      refine ⟨some ⟨ga, 0, none⟩, A2, p', by rw [hl1, hl2], ?_, ?_, ?_, ?_, HLL.out.2, HRE6.out.drewN nq⟩
      · rw [hl1, List.map_take]
        exact rd_take HRD.out HN256.out.2.1
      · have h := rd_from HRD.out (f := x1) (c := N) HN256.out.2.1 (Nat.le_refl _)
        rw [HN256.out.2.2, ← HA2.out, ← List.map_drop] at h
        rw [hl2]
        exact h
      · intro a h
        injection h with h
        subst h
        exact Nat.le_trans HF5.out.size hb.1
      · intro a h
        rw [HA2.out] at h
        obtain ⟨a', h1, h2⟩ := cutAt_blk h
        injection h1 with h1
        subst h1
        rw [← h2]
        exact Nat.le_trans HF5.out.size hb.1
end Go.Proofs.YtgpkiijmembggaaGreatDoor
namespace Go.Proofs.YtgpkiijmembggaaGreatDoor
open Go.RowKit CoM Mem Go.Lib

/-- lengths out of bytes -/
def modL (B : List UInt8) : List Nat := B.map fun b => b.toNat % 16
theorem modL_len (B : List UInt8) : (modL B).length = B.length := by simp [modL]
theorem modL_le (B : List UInt8) : ∀ x ∈ modL B, x ≤ 15 := by
  intro x hx
  obtain ⟨b, _, rfl⟩ := List.mem_map.1 hx
  omega
theorem modL_take (B : List UInt8) {k : Nat} {b : UInt8} (h : B[k]? = some b) : (modL (B.take (k + 1))) = modL (B.take k) ++ [b.toNat % 16] := by
  have hk := (List.getElem?_eq_some_iff.1 h).1
  have he := (List.getElem?_eq_some_iff.1 h).2
  rw [List.take_succ_eq_append_getElem hk, he]
  simp [modL]
end Go.Proofs.YtgpkiijmembggaaGreatDoor
