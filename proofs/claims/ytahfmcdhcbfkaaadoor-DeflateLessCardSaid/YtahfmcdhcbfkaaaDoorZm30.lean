/-
  The library's heap over the program's nodes: how a method is reached; sifting down.
  The library's heap over the program's nodes: sifting down.
-/
import Derived.Test.YtahfmcdhcbfkaaaDoorZm29
namespace Go.Proofs.YtahfmcdhcbfkaaaDoor
open Go.RowKit HuffM Mem Go.Lib
attribute [local go_sem ↓] Go.wp_at_zero Go.wp_at_succ

theorem wrapnil (x t : TypeId) (a : Addr) (s u : ByteArray) : Builtin.ssaWrapNilChk_ #[x] t #[.pointer (some a), .string s, .string u] = pure (.pointer (some a)) := rfl
noncomputable def meth? (nm : String) : Option (Option (Option (FuncId × Bool) × Nat)) := (Tryd.prog.info? 120).map fun i => (i.methods.find? (·.name == nm)).map fun m => (m.func, m.path.size)
set_option maxRecDepth 100000 in
theorem meth_val (fuel : Nat) (nm : String) (f : FuncId) (hi : meth? nm = some (some (some (f, false), 0))) (b n c : Nat) (A : Option Addr) (w : World) (h : w.cell? ⟨b, 0, none⟩ = some (.slice A n c)) :
    Sem.run Tryd.prog (method (fuel + 1) 120 (.pointer (some ⟨b, 0, none⟩)) nm) w = .ok (f, .slice A n c) w := by
  unfold meth? at hi
  cases hq : Tryd.prog.info? 120 with
  | none => rw [hq] at hi; simp at hi
  | some i =>
    rw [hq] at hi
    cases hm : i.methods.find? (·.name == nm) with
    | none => simp [hm] at hi
    | some m =>
      simp [hm] at hi
      obtain ⟨h1, h2⟩ := hi
      unfold method
      simp [typeInfo, hq, hm, h1, h2, follow, receiverAt, run_underlying Tryd.underlying120, Place.get, strVal, wrapnil, go_sem, h]
set_option maxRecDepth 100000 in
theorem meth_ptr (fuel : Nat) (nm : String) (f : FuncId) (hi : meth? nm = some (some (some (f, true), 0))) (b : Nat) (w : World) :
    Sem.run Tryd.prog (method (fuel + 1) 120 (.pointer (some ⟨b, 0, none⟩)) nm) w = .ok (f, .pointer (some ⟨b, 0, none⟩)) w := by
  unfold meth? at hi
  cases hq : Tryd.prog.info? 120 with
  | none => rw [hq] at hi; simp at hi
  | some i =>
    rw [hq] at hi
    cases hm : i.methods.find? (·.name == nm) with
    | none => simp [hm] at hi
    | some m =>
      simp [hm] at hi
      obtain ⟨h1, h2⟩ := hi
      unfold method
      simp [typeInfo, hq, hm, h1, h2, follow, receiverAt, run_underlying Tryd.underlying120, Place.get, go_sem]
set_option maxRecDepth 100000 in
theorem i_len : meth? "Len" = some (some (some (84, false), 0)) := by kernel_rfl
set_option maxRecDepth 100000 in
theorem i_less : meth? "Less" = some (some (some (119, false), 0)) := by kernel_rfl
set_option maxRecDepth 100000 in
theorem i_swap : meth? "Swap" = some (some (some (120, false), 0)) := by kernel_rfl
set_option maxRecDepth 100000 in
theorem i_pop : meth? "Pop" = some (some (some (121, true), 0)) := by kernel_rfl
set_option maxRecDepth 100000 in
theorem i_push : meth? "Push" = some (some (some (122, true), 0)) := by kernel_rfl

/-- the heap's variable lies in block b, its nodes in a row of one's own, in a block of G -/
def Hs (w : World) (b : Nat) (G : Nat → Prop) (l : List Nd) : Prop := ¬ G b ∧ ∃ A c, w.heap[b]? = some (.cells #[.slice A l.length c] 115 (0, 0)) ∧ w.ownsRow 0 118 2 (.slice A l.length c) l.length (cellsN l) ∧ ∀ k, (Value.slice A l.length c).ownBlock = some k → G k
theorem Hs.fr {S : Nat → Prop} {w w' : World} {b : Nat} {G : Nat → Prop} {l : List Nd} (h : Hs w b G l) (hf : Fr S w w') (hb : ¬ S b) (hS : ∀ k, G k → ¬ S k) : Hs w' b G l := by
  obtain ⟨h0, A, c, h1, h2, h3⟩ := h
  exact ⟨h0, A, c, hf.blk h1 hb, hf.own h2 (fun k hk => hS k (h3 k hk)), h3⟩
theorem Hs.mono {w : World} {b : Nat} {G H : Nat → Prop} {l : List Nd} (h : Hs w b G l) (hG : ∀ k, k < w.heap.size → G k → H k) (hb : ¬ H b) : Hs w b H l := by
  obtain ⟨_, A, c, h1, h2, h3⟩ := h
  exact ⟨hb, A, c, h1, h2, fun k hk => hG k (h2.lt k hk).2 (h3 k hk)⟩
theorem Hs.lt {w : World} {b : Nat} {G : Nat → Prop} {l : List Nd} (h : Hs w b G l) : b < w.heap.size := by
  obtain ⟨_, A, c, h1, _⟩ := h
  exact lt_of_heap h1
theorem Hs.draw {w : World} {b : Nat} {G : Nat → Prop} {l : List Nd} (h : Hs w b G l) (q : Nat) : Hs (w.drewN q) b G l := h
theorem Hs.row {w : World} {b : Nat} {G : Nat → Prop} {l : List Nd} (h : Hs w b G l) (hl : 0 < l.length) : ∃ g c, G g ∧ b ≠ g ∧ w.heap[b]? = some (.cells #[.slice (some ⟨g, 0, none⟩) l.length c] 115 (0, 0)) ∧ Nods w g c l := by
  obtain ⟨h0, A, c, h1, h2, h3⟩ := h
  obtain ⟨g, rfl, hb, hn⟩ := nods_of_own h2 hl
  have hg := h3 g rfl
  exact ⟨g, c, hg, fun e => h0 (e ▸ hg), h1, hn⟩
theorem Hs.mk {w : World} {b g c n : Nat} {G : Nat → Prop} {l : List Nd} (hb : G g) (h0 : ¬ G b) (hn : n = l.length) (h1 : w.heap[b]? = some (.cells #[.slice (some ⟨g, 0, none⟩) n c] 115 (0, 0))) (h2 : Nods w g c l) : Hs w b G l := by
  subst hn
  exact ⟨h0, _, c, h1, own_of_nods h2 (Nat.zero_le _), fun k hk => by
    obtain rfl : g = k := by simpa [Value.ownBlock] using hk
    exact hb⟩
end Go.Proofs.YtahfmcdhcbfkaaaDoor
namespace Go.Proofs.YtahfmcdhcbfkaaaDoor
open Go.RowKit HuffM Mem Go.Lib
attribute [local go_sem ↓] Go.wp_at_zero Go.wp_at_succ
set_option linter.unusedVariables false

set_option maxRecDepth 100000 in
set_option maxHeartbeats 3200000 in
theorem down_any (b i0 n : Nat) (G : Nat → Prop) (l : List Nd) (w : World) (hs : Hs w b G l) (hn : n ≤ l.length) (hl : l.length ≤ 1000) (hi : i0 ≤ 1000) (hp : Hp l n (i0 + 1)) :
    Calls Tryd.prog 92 #[.iface 120 (.pointer (some ⟨b, 0, none⟩)), .int .i64 (i0 : Int), .int .i64 (n : Int)] w fun e w' =>
      ∃ v l', e = .returned (.bool v) ∧ l'.Perm l ∧ Hp l' n i0 ∧ (∀ k, n ≤ k → gn l' k = gn l k) ∧ Hs w' b G l' ∧ Fr (G) w w' := by
  have HS := Lib.hid hs
  have HP := Lib.hid hp
  clear hs hp
  go_enter Tryd.func92, Tryd.ntmps92
  go_wp2
  go_loopw [7] (fun v wr => ∃ (i : Nat) (d : List Nd), v = .int .i64 (i : Int) ∧ i0 ≤ i ∧ i ≤ 1000 ∧ (i = i0 ∨ i < n) ∧ Hid (d.Perm l ∧ ∀ k, n ≤ k → gn d k = gn l k) ∧ Hid (Dn d n i0 i) ∧ Hid (Hs wr b G d) ∧ Fr (G) w wr)
    (fun v _ => n - (intOf v).toNat)
  case atStart => exact ⟨i0, l, rfl, Nat.le_refl _, hi, .inl rfl, ⟨List.Perm.refl _, fun _ _ => rfl⟩, Dn.start HP.out, HS, Fr.refl _ _⟩
  case round =>
    clear HS HP
    obtain ⟨i, d, rfl, hii, hi1, hin, HD, HDn, HSd, hfr⟩ := hrel
    by_cases h1 : n ≤ 2 * i + 1
    · have t1 : (n : Int) ≤ 2 * (i : Int) + 1 := by omega
      have HPP := Lib.hid (HDn.out.leaf h1)
      clear h1
      go_wp2
      go_ret
      exact ⟨_, d, rfl, HD.out.1, HPP.out, HD.out.2, HSd.out, hfr⟩
    · have t1 : ¬ (n : Int) ≤ 2 * (i : Int) + 1 := by omega
      have hdl := HD.out.1.length_eq
      obtain ⟨g, c, hg, hbg, hblk, hnod⟩ := HSd.out.row (by omega)
      have hcs : wr.cell? ⟨b, 0, none⟩ = some (.slice (some ⟨g, 0, none⟩) d.length c) := by rw [cell_of hblk 0]; rfl
      have ml := fun fuel => meth_val fuel "Less" _ i_less b _ _ _ wr hcs
      obtain ⟨j1, hj1⟩ : ∃ j1, j1 = 2 * i + 1 := ⟨_, rfl⟩
      have e1 : 2 * (i : Int) + 1 = (j1 : Int) := by omega
      have b1 : j1 ≤ 3000 := by omega
      have t2 : ¬ n ≤ j1 := by omega
      obtain ⟨j2, hj2⟩ : ∃ j2, j2 = j1 + 1 := ⟨_, rfl⟩
      have e2 : (j1 : Int) + 1 = (j2 : Int) := by omega
      have b2 : j2 ≤ 3000 := by omega
      have HJ1 := Lib.hid (And.intro hj1 hj2)
      have HDL := Lib.hid hdl
      have HHwr := Lib.hid (And.intro hblk hnod)
      have HSwr := HSd
      have HFwr := Lib.hid hfr
      clear hj1 hj2 hdl hblk hnod hcs hfr HSd
      clear t1
      by_cases h2 : j2 < n
      · cases hv : ltb (gn d j2) (gn d j1) with
        | true =>
          have hl1 := less_any g d.length c j2 j1 d wr HHwr.out.2 rfl (by have := HDL.out; omega) (by have := HDL.out; omega)
          rw [hv] at hl1
          have HL1 := Lib.hid hl1
          have HV := Lib.hid hv
          clear hl1 hv
          go_wp2_with fail
          refine HL1.out.mono ?_
          rintro e w2x ⟨rfl, q, hq⟩
          subst hq
          obtain ⟨w2, hww2⟩ : ∃ x, x = wr.drewN q := ⟨_, rfl⟩
          rw [← hww2]
          have HHw2 : Hid (w2.heap[b]? = some (.cells #[.slice (some ⟨g, 0, none⟩) d.length c] 115 (0, 0)) ∧ Nods w2 g c d) := by rw [hww2]; exact HHwr
          have HSw2 : Hid (Hs w2 b G d) := by rw [hww2]; exact HSwr
          have HFw2 : Hid (Fr (G) w w2) := by rw [hww2]; exact HFwr.out.drewN q
          have hcsw2 : w2.cell? ⟨b, 0, none⟩ = some (.slice (some ⟨g, 0, none⟩) d.length c) := by rw [cell_of HHw2.out.1 0]; rfl
          clear hww2 HL1 ml
          have ml := fun fuel => meth_val fuel "Less" _ i_less b _ _ _ w2 hcsw2
          clear hcsw2
          have HLC : Hid (Lc d n i j2) := by
            refine ⟨by have := HJ1.out; omega, by omega, fun k h1 h2 h3 => ?_⟩
            have hk := (ltb_iff _ _).1 HV.out
            by_cases e : k = j2
            · subst e; exact fun h => ltn_asymm h h
            · obtain rfl : k = j1 := by have := HJ1.out; omega
              exact ltn_asymm hk
          cases hu : ltb (gn d j2) (gn d i) with
          | false =>
            have hl2 := less_any g d.length c j2 i d w2 HHw2.out.2 rfl (by have := HDL.out; omega) (by have := HDL.out; omega)
            rw [hu] at hl2
            have HL2 := Lib.hid hl2
            have HPP := Lib.hid (HDn.out.stop HLC.out ((ltb_no _ _).1 hu))
            clear hl2 hu
            go_wp2_with fail
            refine HL2.out.mono ?_
            rintro e w3x ⟨rfl, q3, hq⟩
            subst hq
            have HS3 : Hid (Hs (w2.drewN q3) b G d) := HSw2
            have HF3 := Lib.hid (HFw2.out.drewN q3)
            generalize w2.drewN q3 = w3 at HS3 HF3 ⊢
            go_wp2
            go_ret
            exact ⟨_, d, rfl, HD.out.1, HPP.out, HD.out.2, HS3.out, HF3.out⟩
          | true =>
            have hl2 := less_any g d.length c j2 i d w2 HHw2.out.2 rfl (by have := HDL.out; omega) (by have := HDL.out; omega)
            rw [hu] at hl2
            have HL2 := Lib.hid hl2
            have HDD := Lib.hid (HDn.out.go hii HLC.out ((ltb_iff _ _).1 hu) (by have := HDL.out; omega))
            clear hl2 hu
            go_wp2_with fail
            refine HL2.out.mono ?_
            rintro e w3x ⟨rfl, q3, hq⟩
            subst hq
            obtain ⟨w3, hww3⟩ : ∃ x, x = w2.drewN q3 := ⟨_, rfl⟩
            rw [← hww3]
            have HHw3 : Hid (w3.heap[b]? = some (.cells #[.slice (some ⟨g, 0, none⟩) d.length c] 115 (0, 0)) ∧ Nods w3 g c d) := by rw [hww3]; exact HHw2
            have HSw3 : Hid (Hs w3 b G d) := by rw [hww3]; exact HSw2
            have HFw3 : Hid (Fr (G) w w3) := by rw [hww3]; exact HFw2.out.drewN q3
            have hcsw3 : w3.cell? ⟨b, 0, none⟩ = some (.slice (some ⟨g, 0, none⟩) d.length c) := by rw [cell_of HHw3.out.1 0]; rfl
            have ms := fun fuel => meth_val fuel "Swap" _ i_swap b _ _ _ w3 hcsw3
            have hsw := swap_any g d.length c i j2 d w3 HHw3.out.2 rfl (by have := HDL.out; omega) (by have := HDL.out; omega)
            have HSW := Lib.hid hsw
            clear hsw hcsw3 hww3 ml
            go_wp2_with fail
            refine HSW.out.mono ?_
            rintro e w4 ⟨rfl, hn4, hf4⟩
            have HS4 : Hid (Hs w4 b G (swn d i j2)) := Hs.mk hg HSw3.out.1 (swn_len d i j2).symm (hf4.blk HHw3.out.1 hbg) hn4
            have HF4 := Lib.hid (HFw3.out.trans hf4 (fun k _ h => by rw [h]; exact hg))
            clear hn4 hf4 HSW ms
            go_wp2
            go_roundw
            case rel =>
              refine ⟨j2, swn d i j2, rfl, by have := HJ1.out; omega, by omega, .inr (by omega), ⟨?_, ?_⟩, HDD, HS4, HF4.out⟩
              · exact (swn_perm d (by have := HDL.out; omega) (by have := HDL.out; omega)).trans HD.out.1
              · intro k hk
                rw [swn_at d (by have := HDL.out; omega) (by have := HDL.out; omega), if_neg (by omega), if_neg (by have := HJ1.out; omega)]
                exact HD.out.2 k hk
            case measure => have := HJ1.out; simp [intOf]; omega
        | false =>
          have hl1 := less_any g d.length c j2 j1 d wr HHwr.out.2 rfl (by have := HDL.out; omega) (by have := HDL.out; omega)
          rw [hv] at hl1
          have HL1 := Lib.hid hl1
          have HV := Lib.hid hv
          clear hl1 hv
          go_wp2_with fail
          refine HL1.out.mono ?_
          rintro e w2x ⟨rfl, q, hq⟩
          subst hq
          obtain ⟨w2, hww2⟩ : ∃ x, x = wr.drewN q := ⟨_, rfl⟩
          rw [← hww2]
          have HHw2 : Hid (w2.heap[b]? = some (.cells #[.slice (some ⟨g, 0, none⟩) d.length c] 115 (0, 0)) ∧ Nods w2 g c d) := by rw [hww2]; exact HHwr
          have HSw2 : Hid (Hs w2 b G d) := by rw [hww2]; exact HSwr
          have HFw2 : Hid (Fr (G) w w2) := by rw [hww2]; exact HFwr.out.drewN q
          have hcsw2 : w2.cell? ⟨b, 0, none⟩ = some (.slice (some ⟨g, 0, none⟩) d.length c) := by rw [cell_of HHw2.out.1 0]; rfl
          clear hww2 HL1 ml
          have ml := fun fuel => meth_val fuel "Less" _ i_less b _ _ _ w2 hcsw2
          clear hcsw2
          have HLC : Hid (Lc d n i j1) := by
            refine ⟨by have := HJ1.out; omega, by omega, fun k h1 h2 h3 => ?_⟩
            have hk := (ltb_no _ _).1 HV.out
            by_cases e : k = j1
            · subst e; exact fun h => ltn_asymm h h
            · obtain rfl : k = j2 := by have := HJ1.out; omega
              exact hk
          cases hu : ltb (gn d j1) (gn d i) with
          | false =>
            have hl2 := less_any g d.length c j1 i d w2 HHw2.out.2 rfl (by have := HDL.out; omega) (by have := HDL.out; omega)
            rw [hu] at hl2
            have HL2 := Lib.hid hl2
            have HPP := Lib.hid (HDn.out.stop HLC.out ((ltb_no _ _).1 hu))
            clear hl2 hu
            go_wp2_with fail
            refine HL2.out.mono ?_
            rintro e w3x ⟨rfl, q3, hq⟩
            subst hq
            have HS3 : Hid (Hs (w2.drewN q3) b G d) := HSw2
            have HF3 := Lib.hid (HFw2.out.drewN q3)
            generalize w2.drewN q3 = w3 at HS3 HF3 ⊢
            go_wp2
            go_ret
            exact ⟨_, d, rfl, HD.out.1, HPP.out, HD.out.2, HS3.out, HF3.out⟩
          | true =>
            have hl2 := less_any g d.length c j1 i d w2 HHw2.out.2 rfl (by have := HDL.out; omega) (by have := HDL.out; omega)
            rw [hu] at hl2
            have HL2 := Lib.hid hl2
            have HDD := Lib.hid (HDn.out.go hii HLC.out ((ltb_iff _ _).1 hu) (by have := HDL.out; omega))
            clear hl2 hu
            go_wp2_with fail
            refine HL2.out.mono ?_
            rintro e w3x ⟨rfl, q3, hq⟩
            subst hq
            obtain ⟨w3, hww3⟩ : ∃ x, x = w2.drewN q3 := ⟨_, rfl⟩
            rw [← hww3]
            have HHw3 : Hid (w3.heap[b]? = some (.cells #[.slice (some ⟨g, 0, none⟩) d.length c] 115 (0, 0)) ∧ Nods w3 g c d) := by rw [hww3]; exact HHw2
            have HSw3 : Hid (Hs w3 b G d) := by rw [hww3]; exact HSw2
            have HFw3 : Hid (Fr (G) w w3) := by rw [hww3]; exact HFw2.out.drewN q3
            have hcsw3 : w3.cell? ⟨b, 0, none⟩ = some (.slice (some ⟨g, 0, none⟩) d.length c) := by rw [cell_of HHw3.out.1 0]; rfl
            have ms := fun fuel => meth_val fuel "Swap" _ i_swap b _ _ _ w3 hcsw3
            have hsw := swap_any g d.length c i j1 d w3 HHw3.out.2 rfl (by have := HDL.out; omega) (by have := HDL.out; omega)
            have HSW := Lib.hid hsw
            clear hsw hcsw3 hww3 ml
            go_wp2_with fail
            refine HSW.out.mono ?_
            rintro e w4 ⟨rfl, hn4, hf4⟩
            have HS4 : Hid (Hs w4 b G (swn d i j1)) := Hs.mk hg HSw3.out.1 (swn_len d i j1).symm (hf4.blk HHw3.out.1 hbg) hn4
            have HF4 := Lib.hid (HFw3.out.trans hf4 (fun k _ h => by rw [h]; exact hg))
            clear hn4 hf4 HSW ms
            go_wp2
            go_roundw
            case rel =>
              refine ⟨j1, swn d i j1, rfl, by have := HJ1.out; omega, by omega, .inr (by omega), ⟨?_, ?_⟩, HDD, HS4, HF4.out⟩
              · exact (swn_perm d (by have := HDL.out; omega) (by have := HDL.out; omega)).trans HD.out.1
              · intro k hk
                rw [swn_at d (by have := HDL.out; omega) (by have := HDL.out; omega), if_neg (by omega), if_neg (by have := HJ1.out; omega)]
                exact HD.out.2 k hk
            case measure => have := HJ1.out; simp [intOf]; omega
      · skip
        have HLC : Hid (Lc d n i j1) := by
          refine ⟨by have := HJ1.out; omega, by omega, fun k h1 h2 h3 => ?_⟩
          obtain rfl : k = j1 := by have := HJ1.out; omega
          exact fun h => ltn_asymm h h
        cases hu : ltb (gn d j1) (gn d i) with
        | false =>
          have hl2 := less_any g d.length c j1 i d wr HHwr.out.2 rfl (by have := HDL.out; omega) (by have := HDL.out; omega)
          rw [hu] at hl2
          have HL2 := Lib.hid hl2
          have HPP := Lib.hid (HDn.out.stop HLC.out ((ltb_no _ _).1 hu))
          clear hl2 hu
          go_wp2_with fail
          refine HL2.out.mono ?_
          rintro e w3x ⟨rfl, q3, hq⟩
          subst hq
          have HS3 : Hid (Hs (wr.drewN q3) b G d) := HSwr
          have HF3 := Lib.hid (HFwr.out.drewN q3)
          generalize wr.drewN q3 = w3 at HS3 HF3 ⊢
          go_wp2
          go_ret
          exact ⟨_, d, rfl, HD.out.1, HPP.out, HD.out.2, HS3.out, HF3.out⟩
        | true =>
          have hl2 := less_any g d.length c j1 i d wr HHwr.out.2 rfl (by have := HDL.out; omega) (by have := HDL.out; omega)
          rw [hu] at hl2
          have HL2 := Lib.hid hl2
          have HDD := Lib.hid (HDn.out.go hii HLC.out ((ltb_iff _ _).1 hu) (by have := HDL.out; omega))
          clear hl2 hu
          go_wp2_with fail
          refine HL2.out.mono ?_
          rintro e w3x ⟨rfl, q3, hq⟩
          subst hq
          obtain ⟨w3, hww3⟩ : ∃ x, x = wr.drewN q3 := ⟨_, rfl⟩
          rw [← hww3]
          have HHw3 : Hid (w3.heap[b]? = some (.cells #[.slice (some ⟨g, 0, none⟩) d.length c] 115 (0, 0)) ∧ Nods w3 g c d) := by rw [hww3]; exact HHwr
          have HSw3 : Hid (Hs w3 b G d) := by rw [hww3]; exact HSwr
          have HFw3 : Hid (Fr (G) w w3) := by rw [hww3]; exact HFwr.out.drewN q3
          have hcsw3 : w3.cell? ⟨b, 0, none⟩ = some (.slice (some ⟨g, 0, none⟩) d.length c) := by rw [cell_of HHw3.out.1 0]; rfl
          have ms := fun fuel => meth_val fuel "Swap" _ i_swap b _ _ _ w3 hcsw3
          have hsw := swap_any g d.length c i j1 d w3 HHw3.out.2 rfl (by have := HDL.out; omega) (by have := HDL.out; omega)
          have HSW := Lib.hid hsw
          clear hsw hcsw3 hww3 ml
          go_wp2_with fail
          refine HSW.out.mono ?_
          rintro e w4 ⟨rfl, hn4, hf4⟩
          have HS4 : Hid (Hs w4 b G (swn d i j1)) := Hs.mk hg HSw3.out.1 (swn_len d i j1).symm (hf4.blk HHw3.out.1 hbg) hn4
          have HF4 := Lib.hid (HFw3.out.trans hf4 (fun k _ h => by rw [h]; exact hg))
          clear hn4 hf4 HSW ms
          go_wp2
          go_roundw
          case rel =>
            refine ⟨j1, swn d i j1, rfl, by have := HJ1.out; omega, by omega, .inr (by omega), ⟨?_, ?_⟩, HDD, HS4, HF4.out⟩
            · exact (swn_perm d (by have := HDL.out; omega) (by have := HDL.out; omega)).trans HD.out.1
            · intro k hk
              rw [swn_at d (by have := HDL.out; omega) (by have := HDL.out; omega), if_neg (by omega), if_neg (by have := HJ1.out; omega)]
              exact HD.out.2 k hk
          case measure => have := HJ1.out; simp [intOf]; omega
end Go.Proofs.YtahfmcdhcbfkaaaDoor
