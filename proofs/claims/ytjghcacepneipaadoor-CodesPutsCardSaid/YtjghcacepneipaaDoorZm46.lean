/-
  Layer 8's program: readItem (written by gen_item2.py).
  Layer 8's program: readLengths.
-/
import Derived.Test.YtjghcacepneipaaDoorZm32
import Derived.Test.YtjghcacepneipaaDoorZm45
import Derived.Test.YtjghcacepneipaaDoorZm28
import Derived.Test.YtjghcacepneipaaDoorZm23
import Derived.Laws.MakeOwn
namespace Go.Proofs.YtjghcacepneipaaDoor
open Go.RowKit CoM BitsM HuffM Mem Go.Lib
attribute [local go_sem ↓] Go.wp_at_zero Go.wp_at_succ
set_option linter.unusedVariables false
set_option maxRecDepth 100000

theorem run_fld2 (a b c : Int) (w : World) : (Instr.field 77 (.agg #[.int .i64 a, .int .i64 b, .int .i64 c]) 2).run Tryd.prog w = .ok (.int .i64 c) w := by
  unfold Instr.field
  go_simp
  rfl
/-- what readItem answers: a length, how often it comes, where the reader stands then -/
def ItemOk (len l : List Nat) (bs : List Bool) (B : List UInt8) (v t : Nat) (ok : Bool) (p' : Nat) : Prop :=
  (ok = false ∧ ∀ NN, step8 len NN l bs = none) ∨ (ok = true ∧ 1 ≤ t ∧ t ≤ 300 ∧ ∀ NN, l.length < NN → step8 len NN l bs = if NN < l.length + t then none else some (l ++ List.replicate t v, (bitsOf B).drop p'))
theorem spn_of (s : Nat) (h1 : 16 ≤ s) (h2 : s ≤ 18) : ∃ k b, s = 16 + k ∧ spn[k]? = some (leastOf8 s, b, sizeOf8 s) := by
  rcases (show s = 16 ∨ s = 17 ∨ s = 18 by omega) with rfl | rfl | rfl
  · exact ⟨0, 6, rfl, rfl⟩
  · exact ⟨1, 10, rfl, rfl⟩
  · exact ⟨2, 138, rfl, rfl⟩
set_option maxHeartbeats 6400000 in
theorem readItem_any (G : Nat → Prop) (r c p : Nat) (pa : Addr) (A A1 : Option Addr) (B : List UInt8) (n1 c1 : Nat) (len l : List Nat) (w : World) (hG : Gl8 w) (hcb : CB w G pa (ints len)) (hGr : ¬ G r) (hR : rightB (ints len) = true) (hl19 : len.length = 19) (h : Re w r A c B p) (hr2 : 2 ≤ r) (hB : B.length ≤ 1000000)
    (hl : Rd w A1 n1 (l.map natc)) (hl1 : ∀ ad, A1 = some ad → ad.block ≠ r) (hn1 : n1 ≤ 1000) :
    Calls Tryd.prog 69 #[.pointer (some ⟨r, 0, none⟩), .pointer (some pa), .slice A1 n1 c1] w fun e w' => ∃ (v t : Nat) (ok : Bool) (p' : Nat), e = .returned (.tuple #[.int .i64 (v : Int), .int .i64 (t : Int), .bool ok]) ∧ Re w' r A c B p' ∧ Fr (fun k => k = r) w w' ∧ ItemOk len l ((bitsOf B).drop p) B v t ok p' := by
  have hln : l.length = n1 := by simpa using hl.1
  obtain ⟨bs, hbs⟩ : ∃ bs, bs = (bitsOf B).drop p := ⟨_, rfl⟩
  have HNX := Lib.hid (pNextG_any hcb hR h hGr hB)
  rw [← hbs] at HNX ⊢
  have hbl : bs.length = 8 * B.length - p := by rw [hbs, List.length_drop, bitsOf_length]
  have hnc := next_cases (L := ints len) (B := bb bs) (right_in hR)
  rw [ints_len, hl19] at hnc
  have HNC := Lib.hid hnc
  have HBL := Lib.hid hbl
  have HBS := Lib.hid hbs
  have HL := Lib.hid hl
  have HL1 := Lib.hid hl1
  have HLN := Lib.hid hln
  have HG := Lib.hid hG
  have HR2 := Lib.hid hr2
  have HPL := Lib.hid h.2.2
  clear hG hcb hR h hl hl1 hln hbl hbs hnc hl19 hr2
  go_enter Tryd.func69, Tryd.ntmps69
  go_wp2_with fail
  refine HNX.out.mono ?_
  rintro e w2 ⟨s0, is, p2, rfl, hre2, hf2, hok⟩
  have HRE2 := Lib.hid hre2
  have HF2 := Lib.hid hf2
  have HOK := Lib.hid hok
  clear hre2 hf2 HNX
  cases is with
  | false =>
    have HX : Hid (∀ NN, step8 len NN l bs = none) := Lib.hid (fun NN => by
      rcases hok with ⟨h1, _⟩ | ⟨_, _, h⟩
      · cases h1
      · exact step_none h)
    clear hok
    go_wp2_with fail
    exact bodyPost_ret (v := .tuple #[.int .i64 0, .int .i64 0, .bool false]) (by simp [results, Tryd.results69, go_sem]) rfl
      ⟨0, 0, false, p2, rfl, HRE2.out, HF2.out, .inl ⟨rfl, HX.out⟩⟩
  | true =>
    obtain ⟨s, k, hs0, hnx, hs19, hpk, hkl⟩ : ∃ s k : Nat, s0 = (s : Int) ∧ nextS (ints len) (bb bs) = ((s : Int), (k : Int)) ∧ s < 19 ∧ p2 = p + k ∧ k ≤ 15 := by
      rcases hok with ⟨_, h1, h2, h3⟩ | ⟨h1, _⟩
      · rcases HNC.out with h | ⟨s, k, h, hs, hk1, hk2⟩
        · rw [h] at h1
          simp at h1
          omega
        · refine ⟨s, k, ?_, h, hs, ?_, hk2⟩
          · rw [← h1, h]
          · rw [h] at h3
            simp at h3
            omega
      · cases h1
    subst hs0
    have hdr : bs.drop k = (bitsOf B).drop p2 := by rw [HBS.out, List.drop_drop, hpk]
    have HNS := Lib.hid hnx
    have HDR := Lib.hid hdr
    clear hok hnx hdr hpk hkl HNC HOK
    by_cases hs16 : s < 16
    · have t1 : decide ((s : Int) < 16) = true := by simp; omega
      have t1q : decide (s < 16) = true := by simp; omega
      go_wp2_with fail
      exact bodyPost_ret (v := .tuple #[.int .i64 (s : Int), .int .i64 1, .bool true]) (by simp [results, Tryd.results69, go_sem]) rfl
        ⟨s, 1, true, p2, rfl, HRE2.out, HF2.out, .inr ⟨rfl, by omega, by omega, fun NN hN => by rw [step_lit HNS.out hs16, HDR.out, if_neg (by omega)]; rfl⟩⟩
    have t1 : decide ((s : Int) < 16) = false := by simp; omega
    have t1q : decide (s < 16) = false := by simp; omega
    obtain ⟨kk, b, hkk, hsp⟩ := spn_of s (by omega) (by omega)
    obtain ⟨a, ha⟩ : ∃ a, a = leastOf8 s := ⟨_, rfl⟩
    obtain ⟨sz, hsz⟩ : ∃ sz, sz = sizeOf8 s := ⟨_, rfl⟩
    rw [← ha, ← hsz] at hsp
    obtain ⟨sb1, sb2, sb3, sb4, sb5⟩ := spn_le hsp
    have HSP : Hid (∀ w, Gl8 w → Calls Tryd.prog 46 #[.int .i64 (s : Int)] w fun e w' => e = .returned (.agg #[.int .i64 (a : Int), .int .i64 (b : Int), .int .i64 (sz : Int)]) ∧ Fr (fun _ => False) w w') := Lib.hid (fun w hG => spanOf_any s kk a b sz hkk hsp w hG.2)
    have HAS := Lib.hid (And.intro ha hsz)
    have HSB : Hid (sz ≤ 7 ∧ a ≤ 138 ∧ 3 ≤ a) := Lib.hid ⟨sb3, by omega, sb4⟩
    have hs16' : 16 ≤ s := by omega
    have HG2 := Lib.hid (HG.out.fr HF2.out (fun k hk => by have := HR2.out; omega))
    clear hkk hsp sb1 sb2 sb3 sb4 sb5 ha hsz
    have hL2 := HL.out.fr HF2.out (fun ad h => HL1.out ad h)
    by_cases he : s = 16
    · have t2 : ((s : Int) == 16) = true := by simp; omega
      by_cases hl0 : n1 = 0
      · have t3 : ((n1 : Int) == 0) = true := by simp; omega
        have hnil : l = [] := List.eq_nil_of_length_eq_zero (by rw [HLN.out]; exact hl0)
        have HX : Hid (∀ NN, step8 len NN l bs = none) := Lib.hid (fun NN => by
          rw [hnil]
          have h := HNS.out
          rw [he] at h
          exact step_nil h)
        clear hnil he hl0 hL2
        go_wp2_with fail
        exact bodyPost_ret (v := .tuple #[.int .i64 0, .int .i64 0, .bool false]) (by simp [results, Tryd.results69, go_sem]) rfl
          ⟨0, 0, false, p2, rfl, HRE2.out, HF2.out, .inl ⟨rfl, HX.out⟩⟩
      · have t3 : ((n1 : Int) == 0) = false := by simp; omega
        obtain ⟨ad, hA, cl⟩ := nat_cell hL2 (k := n1 - 1) (by omega)
        subst hA
        obtain ⟨v, hv⟩ : ∃ v, v = l[n1 - 1]! := ⟨_, rfl⟩
        rw [← hv] at cl
        have hvl : l.getLastD 0 = v := by
          have e := HLN.out
          rw [hv, ← e, List.getLastD_eq_getLast?, List.getLast?_eq_getElem?, getElem!_pos l _ (by omega), List.getElem?_eq_getElem (by omega)]
          rfl
        obtain ⟨n0, hn0⟩ : ∃ n0, n0 = n1 - 1 := ⟨_, rfl⟩
        have cl2 := cl
        rw [← hn0] at cl2
        have hn0i : (n1 : Int) - 1 = (n0 : Int) := by omega
        have hn0n : (n0 : Int) < (n1 : Int) := by omega
        have hVAL : ∀ (x : List Nat), l ≠ [] ∧ (if s = 16 then l.getLastD 0 else 0) = v := fun _ => ⟨fun h => hl0 (by rw [← HLN.out, h]; rfl), by rw [if_pos he, hvl]⟩
        have HVAL := Lib.hid (hVAL [])
        clear hv hvl hL2 hn0 he hVAL hl0
        go_wp2_with fail
        refine (HSP.out w2 HG2.out).mono ?_
        rintro e w3 ⟨rfl, hf3⟩
        have HF3 := Lib.hid (HF2.out.trans hf3 (fun _ _ h => h.elim))
        have HRE3 := Lib.hid (HRE2.out.fr hf3 (fun h => h) (fun _ _ h => h))
        clear hf3 cl cl2
        go_upto_region 11 with fail
        obtain ⟨w4, hw4⟩ : ∃ w4, w4 = w3.alloc (.cells #[Value.int .i64 (a : Int), .int .i64 (b : Int), .int .i64 (sz : Int)] 77) := ⟨_, rfl⟩
        have hr4 : Row w4 w3.heap.size 77 [Value.int .i64 (a : Int), .int .i64 (b : Int), .int .i64 (sz : Int)] := by rw [hw4]; exact Row.new w3 _ _
        have hf4 : Fr (fun _ => False) w3 w4 := by rw [hw4]; exact (Fr.refl _ w3).alloc _
        obtain ⟨q, hq⟩ : ∃ q, q = w3.heap.size := ⟨_, rfl⟩
        rw [← hw4]
        rw [← hq] at hr4 ⊢
        have d2 : w4.cell? ⟨q, 2, none⟩ = some (.int .i64 (sz : Int)) := hr4.cell rfl
        have HR4 := Lib.hid hr4
        have HQR : Hid (q ≠ r) := Lib.hid (by have := HRE3.out.lt.1; omega)
        have HF4 := Lib.hid (HF3.out.trans hf4 (fun _ _ h => h.elim))
        have HRE4 := Lib.hid (HRE3.out.fr hf4 (fun h => h) (fun _ _ h => h))
        clear hw4 hr4 hf4 hq
        by_cases hp : p2 + sz ≤ 8 * B.length
        · obtain ⟨z, hz⟩ : ∃ z, z = num ((bs.drop k).take sz) := ⟨_, rfl⟩
          have hz7 : z ≤ 127 := by rw [hz]; exact num3_lt bs k sz HSB.out.1
          have hb := bits_ok r c p2 A B sz w4 HRE4.out (by omega) (by have := HSB.out.1; omega) hp
          rw [show cut B p2 sz = (bs.drop k).take sz by rw [HDR.out]; rfl, ← hz] at hb
          have HBT := Lib.hid hb
          have qz := conv_int8 z (by omega)
          have HX : Hid (∀ NN, l.length < NN → step8 len NN l bs = if NN < l.length + (a + z) then none else some (l ++ List.replicate (a + z) v, (bitsOf B).drop (p2 + sz))) := Lib.hid (fun NN hN => by
            have hlen : ¬ (bs.drop k).length < sizeOf8 s := by rw [HDR.out, List.length_drop, bitsOf_length, ← HAS.out.2]; omega
            by_cases ho : NN < l.length + (a + z)
            · rw [if_pos ho]
              exact step_over HNS.out hs16' (by rw [← HAS.out.1, ← HAS.out.2, ← hz]; exact ho)
            · rw [if_neg ho]
              have h := step_go (NN := NN) (v := v) HNS.out hs16' (fun _ => HVAL.out.1) hlen (by rw [← HAS.out.1, ← HAS.out.2, ← hz]; exact ho) HVAL.out.2.symm
              rw [← HAS.out.1, ← HAS.out.2, ← hz, HDR.out, List.drop_drop] at h
              exact h)
          have haz : a + z ≤ 300 := by have := HSB.out.2.1; omega
          have HAZ := Lib.hid haz
          have HA3 : Hid (1 ≤ a + z) := Lib.hid (by have := HSB.out.2.2; omega)
          have ha138 : a ≤ 138 := HSB.out.2.1
          have e1 : (a : Int) + (z : Int) = ((a + z : Nat) : Int) := by omega
          have e2 : IntKind.i64.wrap ((a : Int) + (z : Int)) = ((a + z : Nat) : Int) := by rw [IntKind.wrap_i64]; omega
          obtain ⟨y, hy⟩ : ∃ y, y = a + z := ⟨_, rfl⟩
          rw [← hy] at HX HAZ HA3 e1 e2
          have e3 : IntKind.i64.wrap (y : Int) = (y : Int) := by rw [IntKind.wrap_i64]; have := HAZ.out; omega
          clear hz hb haz hy
          go_wp2_with fail
          refine HBT.out.mono ?_
          rintro e w5 ⟨rfl, hre5, hf5⟩
          have HRE5 := Lib.hid hre5
          have HF5 := Lib.hid (HF4.out.trans hf5 (fun _ _ h => h))
          have d0 : w5.cell? ⟨q, 0, none⟩ = some (.int .i64 (a : Int)) := (Row.fr HR4.out hf5 (fun h => HQR.out h)).cell rfl
          clear hre5 hf5 HBT d2
          go_upto_region 14 with fail
          go_still (by kernel_rfl)
          go_wp2_with fail
          exact bodyPost_ret (v := .tuple #[.int .i64 (v : Nat), .int .i64 (y : Int), .bool true]) (by simp [results, Tryd.results69, go_sem]) rfl
            ⟨v, y, true, p2 + sz, rfl, HRE5.out.drew, HF5.out.drew, .inr ⟨rfl, HA3.out, HAZ.out, HX.out⟩⟩
        · have hb := bits_no r c p2 A B (sz : Int) w4 HRE4.out (by omega) (.inr (.inr (by have := HRE4.out.2.2; omega)))
          have HBT := Lib.hid hb
          have HX : Hid (∀ NN, step8 len NN l bs = none) := Lib.hid (fun NN => step_short HNS.out hs16' (by rw [HDR.out, List.length_drop, bitsOf_length, ← HAS.out.2]; have := HRE4.out.2.2; omega))
          clear hb
          go_wp2_with fail
          refine HBT.out.mono ?_
          rintro e w5 ⟨rfl, hre5, hf5⟩
          have HRE5 := Lib.hid hre5
          have HF5 := Lib.hid (HF4.out.trans hf5 (fun _ _ h => h.elim))
          clear hre5 hf5 HBT d2
          go_wp2_with fail
          exact bodyPost_ret (v := .tuple #[.int .i64 0, .int .i64 0, .bool false]) (by simp [results, Tryd.results69, go_sem]) rfl
            ⟨0, 0, false, p2, rfl, HRE5.out, HF5.out, .inl ⟨rfl, HX.out⟩⟩
    · have t2 : ((s : Int) == 16) = false := by simp; omega
      have HVAL : Hid ((if s = 16 then l.getLastD 0 else 0) = 0) := Lib.hid (by rw [if_neg he])
      have HE := Lib.hid he
      clear hL2 he
      go_wp2_with fail
      refine (HSP.out w2 HG2.out).mono ?_
      rintro e w3 ⟨rfl, hf3⟩
      have HF3 := Lib.hid (HF2.out.trans hf3 (fun _ _ h => h.elim))
      have HRE3 := Lib.hid (HRE2.out.fr hf3 (fun h => h) (fun _ _ h => h))
      clear hf3 
      go_upto_region 11 with fail
      obtain ⟨w4, hw4⟩ : ∃ w4, w4 = w3.alloc (.cells #[Value.int .i64 (a : Int), .int .i64 (b : Int), .int .i64 (sz : Int)] 77) := ⟨_, rfl⟩
      have hr4 : Row w4 w3.heap.size 77 [Value.int .i64 (a : Int), .int .i64 (b : Int), .int .i64 (sz : Int)] := by rw [hw4]; exact Row.new w3 _ _
      have hf4 : Fr (fun _ => False) w3 w4 := by rw [hw4]; exact (Fr.refl _ w3).alloc _
      obtain ⟨q, hq⟩ : ∃ q, q = w3.heap.size := ⟨_, rfl⟩
      rw [← hw4]
      rw [← hq] at hr4 ⊢
      have d2 : w4.cell? ⟨q, 2, none⟩ = some (.int .i64 (sz : Int)) := hr4.cell rfl
      have HR4 := Lib.hid hr4
      have HQR : Hid (q ≠ r) := Lib.hid (by have := HRE3.out.lt.1; omega)
      have HF4 := Lib.hid (HF3.out.trans hf4 (fun _ _ h => h.elim))
      have HRE4 := Lib.hid (HRE3.out.fr hf4 (fun h => h) (fun _ _ h => h))
      clear hw4 hr4 hf4 hq
      by_cases hp : p2 + sz ≤ 8 * B.length
      · obtain ⟨z, hz⟩ : ∃ z, z = num ((bs.drop k).take sz) := ⟨_, rfl⟩
        have hz7 : z ≤ 127 := by rw [hz]; exact num3_lt bs k sz HSB.out.1
        have hb := bits_ok r c p2 A B sz w4 HRE4.out (by omega) (by have := HSB.out.1; omega) hp
        rw [show cut B p2 sz = (bs.drop k).take sz by rw [HDR.out]; rfl, ← hz] at hb
        have HBT := Lib.hid hb
        have qz := conv_int8 z (by omega)
        have HX : Hid (∀ NN, l.length < NN → step8 len NN l bs = if NN < l.length + (a + z) then none else some (l ++ List.replicate (a + z) (0 : Nat), (bitsOf B).drop (p2 + sz))) := Lib.hid (fun NN hN => by
          have hlen : ¬ (bs.drop k).length < sizeOf8 s := by rw [HDR.out, List.length_drop, bitsOf_length, ← HAS.out.2]; omega
          by_cases ho : NN < l.length + (a + z)
          · rw [if_pos ho]
            exact step_over HNS.out hs16' (by rw [← HAS.out.1, ← HAS.out.2, ← hz]; exact ho)
          · rw [if_neg ho]
            have h := step_go (NN := NN) (v := (0 : Nat)) HNS.out hs16' (fun h => absurd h HE.out) hlen (by rw [← HAS.out.1, ← HAS.out.2, ← hz]; exact ho) HVAL.out.symm
            rw [← HAS.out.1, ← HAS.out.2, ← hz, HDR.out, List.drop_drop] at h
            exact h)
        have haz : a + z ≤ 300 := by have := HSB.out.2.1; omega
        have HAZ := Lib.hid haz
        have HA3 : Hid (1 ≤ a + z) := Lib.hid (by have := HSB.out.2.2; omega)
        have ha138 : a ≤ 138 := HSB.out.2.1
        have e1 : (a : Int) + (z : Int) = ((a + z : Nat) : Int) := by omega
        have e2 : IntKind.i64.wrap ((a : Int) + (z : Int)) = ((a + z : Nat) : Int) := by rw [IntKind.wrap_i64]; omega
        obtain ⟨y, hy⟩ : ∃ y, y = a + z := ⟨_, rfl⟩
        rw [← hy] at HX HAZ HA3 e1 e2
        have e3 : IntKind.i64.wrap (y : Int) = (y : Int) := by rw [IntKind.wrap_i64]; have := HAZ.out; omega
        clear hz hb haz hy
        go_wp2_with fail
        refine HBT.out.mono ?_
        rintro e w5 ⟨rfl, hre5, hf5⟩
        have HRE5 := Lib.hid hre5
        have HF5 := Lib.hid (HF4.out.trans hf5 (fun _ _ h => h))
        have d0 : w5.cell? ⟨q, 0, none⟩ = some (.int .i64 (a : Int)) := (Row.fr HR4.out hf5 (fun h => HQR.out h)).cell rfl
        clear hre5 hf5 HBT d2
        go_upto_region 14 with fail
        go_still (by kernel_rfl)
        go_wp2_with fail
        exact bodyPost_ret (v := .tuple #[.int .i64 ((0 : Nat) : Nat), .int .i64 (y : Int), .bool true]) (by simp [results, Tryd.results69, go_sem]) rfl
          ⟨(0 : Nat), y, true, p2 + sz, rfl, HRE5.out.drew, HF5.out.drew, .inr ⟨rfl, HA3.out, HAZ.out, HX.out⟩⟩
      · have hb := bits_no r c p2 A B (sz : Int) w4 HRE4.out (by omega) (.inr (.inr (by have := HRE4.out.2.2; omega)))
        have HBT := Lib.hid hb
        have HX : Hid (∀ NN, step8 len NN l bs = none) := Lib.hid (fun NN => step_short HNS.out hs16' (by rw [HDR.out, List.length_drop, bitsOf_length, ← HAS.out.2]; have := HRE4.out.2.2; omega))
        clear hb
        go_wp2_with fail
        refine HBT.out.mono ?_
        rintro e w5 ⟨rfl, hre5, hf5⟩
        have HRE5 := Lib.hid hre5
        have HF5 := Lib.hid (HF4.out.trans hf5 (fun _ _ h => h.elim))
        clear hre5 hf5 HBT d2
        go_wp2_with fail
        exact bodyPost_ret (v := .tuple #[.int .i64 0, .int .i64 0, .bool false]) (by simp [results, Tryd.results69, go_sem]) rfl
          ⟨0, 0, false, p2, rfl, HRE5.out, HF5.out, .inl ⟨rfl, HX.out⟩⟩
end Go.Proofs.YtjghcacepneipaaDoor
namespace Go.Proofs.YtjghcacepneipaaDoor
open Go.RowKit CoM BitsM HuffM Mem Go.Lib
attribute [local go_sem ↓] Go.wp_at_zero Go.wp_at_succ
set_option linter.unusedVariables false
set_option maxRecDepth 100000

/-- what readLengths answers -/
def LensOk (w' : World) (e : Ending) (base N r c : Nat) (A : Option Addr) (B : List UInt8) : Option (List Nat × List Bool) → Prop
  | none => ∃ p', e = .returned (.tuple #[.slice none 0 0, .bool false]) ∧ Re w' r A c B p'
  | some (l, rest) => ∃ A' c' p', e = .returned (.tuple #[.slice A' N c', .bool true]) ∧ l.length = N ∧ rest = (bitsOf B).drop p' ∧ w'.ownsRow base 3 1 (.slice A' N c') N (l.map natc) ∧ Re w' r A c B p'
theorem mk_room (N : Nat) (hN : N ≤ 1000) (w : World) : ∃ w' A', (Instr.makeSlice 26 (.int .i64 0) (.int .i64 (N : Int))).run Tryd.prog w = .ok (.slice A' 0 N) w' ∧ w'.ownsRow w.heap.size 3 1 (.slice A' 0 N) 0 [] ∧ Fr (fun _ => False) w w' := by
  obtain ⟨i, hi, hz, hs, hb⟩ := info_parts (show (Tryd.prog.info? 3).map (fun i => (i.zero, i.size, i.bytes)) = some (some (.int .i64 0), 1, 8) by kernel_rfl)
  obtain ⟨w', h1, h2, h3⟩ := run_make_own (P := Tryd.prog) w w.heap.size 26 3 i _ 1 Tryd.underlying26 hi hz hs .i64 .i64 N (by rw [hb]; omega) (by unfold maxLen; omega) (Nat.le_refl _)
  exact ⟨w', _, h1, h2, (Fr.of_grown h3).mono (fun b _ h => by cases h)⟩
set_option maxHeartbeats 6400000 in
theorem readLengths_any (G : Nat → Prop) (r c p : Nat) (pa : Addr) (A : Option Addr) (B : List UInt8) (N : Nat) (len : List Nat) (w : World) (hG : Gl8 w) (hcb : CB w G pa (ints len)) (hGr : ¬ G r) (hGl : ∀ k, G k → k < w.heap.size) (hR : rightB (ints len) = true) (hl19 : len.length = 19) (h : Re w r A c B p) (hr2 : 2 ≤ r) (hB : B.length ≤ 1000000) (hN : N ≤ 320) :
    Calls Tryd.prog 57 #[.pointer (some ⟨r, 0, none⟩), .pointer (some pa), .int .i64 (N : Int)] w fun e w' => LensOk w' e w.heap.size N r c A B (tells len N N [] ((bitsOf B).drop p)) ∧ Fr (fun k => k = r) w w' := by
  obtain ⟨R, hRR⟩ : ∃ R, R = tells len N N [] ((bitsOf B).drop p) := ⟨_, rfl⟩
  rw [← hRR]
  obtain ⟨w1, A0, hmk, hown1, hf1⟩ := mk_room N (by omega) w
  obtain ⟨base, hbase⟩ : ∃ base, base = w.heap.size := ⟨_, rfl⟩
  rw [← hbase] at hown1 ⊢
  have HB0 := Lib.hid hbase
  have HO1 := Lib.hid hown1
  have HF1 := Lib.hid hf1
  have HG := Lib.hid hG
  have HCB1 := Lib.hid (hcb.fr hf1 (fun _ _ h => h))
  have HGG : Hid (¬ G r ∧ (∀ k, G k → k < base) ∧ r < base) := Lib.hid ⟨hGr, fun k hk => by rw [hbase]; exact hGl k hk, by rw [hbase]; exact h.lt.1⟩
  have HAL : Hid (∀ k, bl A = some k → k < base) := Lib.hid (by rw [hbase]; exact h.lt.2)
  have HRT := Lib.hid (And.intro hR hl19)
  have HRE1 := Lib.hid (h.fr hf1 (fun h => h) (fun _ _ h => h))
  have HR2 := Lib.hid hr2
  have HRR := Lib.hid hRR
  clear hown1 hf1 hG hcb hGr hGl hR hl19 h hr2 hRR hbase
  go_enter Tryd.func57, Tryd.ntmps57
  go_wp2_with fail
  go_loopw [8] (fun s wr => ∃ (f : Nat) (l : List Nat) (p1 q : Nat) (A1 : Option Addr) (c1 : Nat), s = .slice A1 q c1 ∧ q ≤ N ∧ N ≤ q + f ∧ Hid (l.length = q) ∧ Hid (wr.ownsRow base 3 1 (.slice A1 q c1) q (l.map natc)) ∧ Hid (tells len N f l ((bitsOf B).drop p1) = R) ∧ Hid (Re wr r A c B p1) ∧ Hid (CB wr G pa (ints len)) ∧ Hid (Fr (fun k => k = r) w wr)) (fun s _ => N - slen s)
  case atStart => exact ⟨N, [], p, 0, A0, N, rfl, by omega, by omega, rfl, HO1.out, HRR.out.symm, HRE1.out, HCB1.out, HF1.out.mono (fun _ _ h => h.elim)⟩
  case round =>
    obtain ⟨f, l, p1, q, A1, c1, rfl, hq, hqf, HLQ, HO, HT, HRE, HCB, HF⟩ := hrel
    rename World => wr
    by_cases hlt : q < N
    · have HI := Lib.hid (readItem_any G r c p1 pa A A1 B q c1 len l wr (HG.out.fr HF.out (fun k hk => by have := HR2.out; omega)) HCB.out HGG.out.1 HRT.out.1 HRT.out.2 HRE.out HR2.out hB (Rd.of_own HO.out) (fun ad h => by
        have h1 := (HO.out.lt ad.block (by rw [h]; rfl)).1
        have h2 := HGG.out.2.2
        omega) (by omega))
      obtain ⟨f', hf'⟩ : ∃ f', f = f' + 1 := ⟨f - 1, by omega⟩
      have HFF := Lib.hid hf'
      clear hf'
      go_wp2_with fail
      refine HI.out.mono ?_
      rintro e w2 ⟨v, t, ok, p2, rfl, hre2, hf2, hok⟩
      have HRE2 := Lib.hid hre2
      have HF2 := Lib.hid (HF.out.trans hf2 (fun _ _ h => h))
      have HO2 := Lib.hid (hf2.own HO.out (fun k hk h => by have h1 := (HO.out.lt k hk).1; have h2 := HGG.out.2.2; omega))
      have HCB2 := Lib.hid (HCB.out.fr hf2 (fun k hk h => HGG.out.1 (h ▸ hk)))
      have HOK := Lib.hid hok
      clear hre2 hf2 HI
      cases ok with
      | false =>
        have HX : Hid (R = none) := Lib.hid (by
          rcases hok with ⟨_, h⟩ | ⟨h1, _⟩
          · rw [← HT.out, HFF.out]
            exact tells_none (by rw [HLQ.out]; exact hlt) (h N)
          · cases h1)
        clear hok
        go_wp2_with fail
        exact bodyPost_ret (v := .tuple #[.slice none 0 0, .bool false]) (by simp [results, Tryd.results57, go_sem]) rfl
          ⟨by rw [HX.out]; exact ⟨p2, rfl, HRE2.out⟩, HF2.out⟩
      | true =>
        obtain ⟨ht1, ht3, hst⟩ : 1 ≤ t ∧ t ≤ 300 ∧ step8 len N l ((bitsOf B).drop p1) = if N < l.length + t then none else some (l ++ List.replicate t v, (bitsOf B).drop p2) := by
          rcases hok with ⟨h1, _⟩ | ⟨_, h1, h2, h3⟩
          · cases h1
          · exact ⟨h1, h2, h3 N (by rw [HLQ.out]; exact hlt)⟩
        rw [HLQ.out] at hst
        obtain ⟨y, hy⟩ : ∃ y, y = q + t := ⟨_, rfl⟩
        rw [← hy] at hst
        have e1 : (q : Int) + (t : Int) = (y : Int) := by omega
        have e2 : IntKind.i64.wrap ((q : Int) + (t : Int)) = (y : Int) := by rw [IntKind.wrap_i64]; omega
        clear hok
        by_cases ho : N < y
        · have u1 : decide ((y : Int) > (N : Int)) = true := by simp; omega
          have u2 : decide ((N : Int) < (y : Int)) = true := by simp; omega
          have u3 : decide (N < y) = true := by simp; omega
          have HX : Hid (R = none) := Lib.hid (by
            rw [← HT.out, HFF.out]
            exact tells_none (by rw [HLQ.out]; exact hlt) (by rw [hst, if_pos ho]))
          clear hst hy
          go_wp2_with fail
          exact bodyPost_ret (v := .tuple #[.slice none 0 0, .bool false]) (by simp [results, Tryd.results57, go_sem]) rfl
            ⟨by rw [HX.out]; exact ⟨p2, rfl, HRE2.out⟩, HF2.out⟩
        · have u1 : decide ((y : Int) > (N : Int)) = false := by simp; omega
          have u2 : decide ((N : Int) < (y : Int)) = false := by simp; omega
          have u3 : decide (N < y) = false := by simp; omega
          have HX : Hid (tells len N f' (l ++ List.replicate t v) ((bitsOf B).drop p2) = R) := Lib.hid (by
            rw [← HT.out, HFF.out]
            exact (tells_some (by rw [HLQ.out]; exact hlt) (by rw [hst, if_neg ho])).symm)
          have HY := Lib.hid hy
          have hyN : y ≤ N := by omega
          rename World => w2
          clear hst hy
          go_wp2_with fail
          go_loopw [8, 37] (fun s i wx => ∃ (j z : Nat) (A2 : Option Addr) (c2 : Nat), j ≤ t ∧ i = .int .i64 (j : Int) ∧ s = .slice A2 z c2 ∧ Hid (z = q + j) ∧ z ≤ 320 ∧ Hid (wx.ownsRow base 3 1 (.slice A2 z c2) z ((l ++ List.replicate j v).map natc)) ∧ Hid (Re wx r A c B p2) ∧ Hid (CB wx G pa (ints len)) ∧ Hid (Fr (fun k => k = r) w wx)) (fun _ i _ => t - (intOf i).toNat)
          case atStart => exact ⟨0, q, A1, c1, Nat.zero_le _, rfl, rfl, (rfl : q = q + 0), by omega, by rw [List.replicate_zero, List.append_nil]; exact HO2.out, HRE2.out, HCB2.out, HF2.out⟩
          case round =>
            obtain ⟨j, z, A2, c2, hj, rfl, rfl, HZ, hz3, HO3, HRE3, HCB3, HF3⟩ := hrel
            rename World => wx
            by_cases hjt : j < t
            · obtain ⟨z1, hz1⟩ : ∃ z1, z1 = z + 1 := ⟨_, rfl⟩
              have HZ1 := Lib.hid hz1
              have hz13 : z1 ≤ 320 := by have := HZ.out; have := HY.out; omega
              clear hz1
              go_wp2_with (at_builtin; refine wpList_appN int8T _ rfl _ _ rfl base _ _ _ rfl (HO3.out.alloc _) _ _ _ _ rfl (Rd.one _ _ _) (one_one _ _) z1 HZ1.out (by unfold maxLen; omega) (by omega) (by have h1 := HF3.out.size; have h2 := HB0.out; simp; omega) ?_)
              intro A4 c4 w4 hc4 hc4m hown4 hf4 _
              have hfx : Fr (fun k => (Value.slice A2 z c2).ownBlock = some k) wx w4 := ((Fr.refl _ wx).alloc _).trans hf4 (fun _ _ h => h)
              have hob : ∀ k, (Value.slice A2 z c2).ownBlock = some k → base ≤ k := fun k hk => (HO3.out.lt k hk).1
              have HO4 : Hid (w4.ownsRow base 3 1 (.slice A4 z1 c4) z1 ((l ++ List.replicate (j + 1) v).map natc)) := Lib.hid (by
                have e : (l ++ List.replicate (j + 1) v).map natc = l.map natc ++ (List.replicate j (natc v) ++ [.int .i64 (v : Int)]) := by
                  rw [List.replicate_succ', List.map_append, List.map_append, List.map_replicate]
                  rfl
                rw [e]
                exact hown4)
              have HRE4 := Lib.hid (HRE3.out.fr hfx (fun h => by have h1 := hob _ h; have h2 := HGG.out.2.2; omega) (fun k hk h => by have h1 := hob _ h; have h2 := HAL.out k hk; omega))
              have HCB4 := Lib.hid (HCB3.out.fr hfx (fun k hk h => by have h1 := hob _ h; have h2 := HGG.out.2.1 k hk; omega))
              have HF4 : Hid (Fr (fun k => k = r) w w4) := Lib.hid (HF3.out.trans hfx (fun b hb h => by have h1 := hob _ h; have h2 := HB0.out; omega))
              clear hown4 hf4 hfx hob
              go_wp2_with fail
              exact ⟨⟨j + 1, z1, A4, c4, by omega, by go_num, rfl, by have h1 := HZ.out; have h2 := HZ1.out; show z1 = _; omega, hz13, HO4.out, HRE4.out, HCB4.out, HF4.out⟩, by simp [intOf]; omega⟩
            · have hjt2 : j = t := by omega
              subst hjt2
              have hzy : z = y := by have := HZ.out; have := HY.out; omega
              subst hzy
              have HLL : Hid ((l ++ List.replicate j v).length = z) := Lib.hid (by rw [List.length_append, List.length_replicate, HLQ.out]; exact HY.out.symm)
              have HYQ : Hid (q < z ∧ N ≤ z + f') := Lib.hid (by have h1 := HY.out; have h2 := HFF.out; omega)
              go_wp2_with fail
              exact ⟨⟨f', l ++ List.replicate j v, p2, z, A2, c2, rfl, hyN, HYQ.out.2, HLL.out, HO3.out, HX.out, HRE3.out, HCB3.out, HF3.out⟩, by have := HYQ.out.1; simp [slen]; omega⟩
    · have hqN : q = N := by omega
      subst hqN
      have HX : Hid (R = some (l, (bitsOf B).drop p1)) := Lib.hid (by rw [← HT.out]; exact tells_end (by rw [HLQ.out]; omega))
      go_wp2_with fail
      exact bodyPost_ret (v := .tuple #[.slice A1 q c1, .bool true]) (by simp [results, Tryd.results57, go_sem]) rfl
        ⟨by rw [HX.out]; exact ⟨A1, c1, p1, rfl, HLQ.out, rfl, HO.out, HRE.out⟩, HF.out⟩
end Go.Proofs.YtjghcacepneipaaDoor
