/-
  Layer 9's program: a symbol's code, and what follows it.
  Layer 9's program: Codes of any lengths; a coding; what tokens' symbols are put by.
-/
import Derived.Test.YtgpkiijmembggaaGreatDoorZm40
import Derived.Test.YtgpkiijmembggaaGreatDoorZm23
import Derived.Test.YtgpkiijmembggaaGreatDoorZm13
import Derived.Test.YtgpkiijmembggaaGreatDoorZm38
import Derived.Test.YtgpkiijmembggaaGreatDoorZm04
namespace Go.Proofs.YtgpkiijmembggaaGreatDoor
open Go.RowKit BitsM Mem Go.Lib
attribute [local go_sem ↓] Go.wp_at_zero Go.wp_at_succ
set_option linter.unusedVariables false
set_option maxRecDepth 100000

set_option maxHeartbeats 1600000 in
theorem sym9_any (g c : Nat) (A AL AC : Option Addr) (nl cl nc cc s b x : Nat) (len cs : List Nat) (bs : List Bool) (w : World) (hw : Wr w g A c bs) (hb : bs.length ≤ 2000000000)
    (hL : Rd w AL nl (len.map natc)) (hC : Rd w AC nc (cs.map numc)) (hs : s < nl) (hs2 : s < nc) (hb64 : b ≤ 64) (hx : x < 18446744073709551616) (hcs : ∀ x ∈ cs, x < 18446744073709551616) :
    Calls Tryz.prog 39 #[.agg #[.pointer (some ⟨g, 0, none⟩)], .agg #[.slice AL nl cl, .slice AC nc cc], .agg #[.int .i64 (s : Int), .int .i64 (b : Int), .int .u64 (x : Int)]] w fun e w' => e = .returned (.tuple #[]) ∧ ∃ A' c', Wr w' g A' c' (bs ++ (low cs[s]! (min len[s]! 64)).reverse ++ low x b) ∧ Fr (Ft g A) w w' ∧ Nx w A A' := by
  have hCl : cs.length = nc := by simpa using hC.1
  have HB := Lib.hid hb
  obtain ⟨w0, hw0⟩ : ∃ w0, w0 = w.alloc (.cells #[Value.pointer (some ⟨g, 0, none⟩)] 38) := ⟨_, rfl⟩
  obtain ⟨p, hp⟩ : ∃ p, p = w.heap.size := ⟨_, rfl⟩
  have hr0 : Row w0 p 38 [Value.pointer (some ⟨g, 0, none⟩)] := by rw [hw0, hp]; exact Row.new w _ _
  have hf0 : Fr (fun _ => False) w w0 := by rw [hw0]; exact (Fr.refl _ w).alloc _
  obtain ⟨wc, hwc⟩ : ∃ wc, wc = w0.alloc (.cells #[Value.slice AL nl cl, .slice AC nc cc] 66) := ⟨_, rfl⟩
  obtain ⟨r, hr⟩ : ∃ r, r = p + 1 := ⟨_, rfl⟩
  have hrs : w0.heap.size = r := by rw [hw0, hr, hp]; simp
  have hrc : Row wc r 66 [Value.slice AL nl cl, .slice AC nc cc] := by rw [hwc, ← hrs]; exact Row.new w0 _ _
  have hf0c : Fr (fun _ => False) w0 wc := by rw [hwc]; exact (Fr.refl _ w0).alloc _
  obtain ⟨w1, hw1⟩ : ∃ w1, w1 = wc.alloc (.cells #[Value.int .i64 (s : Int), .int .i64 (b : Int), .int .u64 (x : Int)] 91) := ⟨_, rfl⟩
  obtain ⟨q, hq⟩ : ∃ q, q = r + 1 := ⟨_, rfl⟩
  have hqs : wc.heap.size = q := by rw [hwc, hq, ← hrs]; simp
  have hr1 : Row w1 q 91 [Value.int .i64 (s : Int), .int .i64 (b : Int), .int .u64 (x : Int)] := by rw [hw1, ← hqs]; exact Row.new wc _ _
  have hfc1 : Fr (fun _ => False) wc w1 := by rw [hw1]; exact (Fr.refl _ wc).alloc _
  have hf1 : Fr (fun _ => False) w w1 := (hf0.trans hf0c (fun _ _ h => h)).trans hfc1 (fun _ _ h => h)
  have hr01 : Row w1 p 38 [Value.pointer (some ⟨g, 0, none⟩)] := (hr0.fr hf0c (fun h => h)).fr hfc1 (fun h => h)
  have hrc1 : Row w1 r 66 [Value.slice AL nl cl, .slice AC nc cc] := hrc.fr hfc1 (fun h => h)
  have hw_1 := hw.frA hf1 (fun h => h) (fun _ _ h => h)
  have HPN := Lib.hid (hw.new (k := p) (by omega))
  have HQN := Lib.hid (hw.new (k := q) (by omega))
  obtain ⟨adL, hAL, cL⟩ := nat_cell (hL.fr hf1 (fun _ _ h => h)) (k := s) hs
  obtain ⟨adC, hAC, cC⟩ := num_cell (hC.fr hf1 (fun _ _ h => h)) (k := s) hs2
  subst hAL
  subst hAC
  obtain ⟨v, hv⟩ : ∃ v, v = len[s]! := ⟨_, rfl⟩
  obtain ⟨cv, hcv⟩ : ∃ cv, cv = cs[s]! := ⟨_, rfl⟩
  have hcv64 : cv < 18446744073709551616 := by rw [hcv, getElem!_pos cs s (by omega)]; exact hcs _ (List.getElem_mem _)
  rw [← hv] at cL
  rw [← hcv] at cC
  rw [← hv, ← hcv]
  have HF1 := Lib.hid hf1
  have HR0 := Lib.hid hr01
  have HR1 := Lib.hid hr1
  have HB64 := Lib.hid hb64
  have c0 : w1.cell? ⟨p, 0, none⟩ = some (.pointer (some ⟨g, 0, none⟩)) := hr01.cell rfl
  have d0 : w1.cell? ⟨q, 0, none⟩ = some (.int .i64 (s : Int)) := hr1.cell rfl
  have e0 : w1.cell? ⟨r, 0, none⟩ = some (.slice (some adL) nl cl) := hrc1.cell rfl
  have e1 : w1.cell? ⟨r, 1, none⟩ = some (.slice (some adC) nc cc) := hrc1.cell rfl
  have hsn : (s : Int) < (nl : Int) := by omega
  have hsn2 : (s : Int) < (nc : Int) := by omega
  have HCODE : Hid (Calls Tryz.prog 63 #[.pointer (some ⟨g, 0, none⟩), .int .i64 (v : Int), .int .u64 (cv : Int)] w1.drew fun e w' => e = .returned (.tuple #[]) ∧ ∃ A' c', Wr w' g A' c' (bs ++ (low cv (min v 64)).reverse) ∧ Fr (Ft g A) w1.drew w' ∧ Nx w1.drew A A') := Lib.hid (by
    have h := code_any g c A (v : Int) cv bs w1.drew hw_1.drew (by omega) hcv64
    rw [Int.toNat_natCast] at h
    exact h)
  clear hw hb hL hC hcs hr0 hf0 hr1 hf0c hfc1 hf1 hr01 hrc hrc1 hw_1 hv hcv hcv64 hCl hb64 hrs hqs
  go_enter Tryz.func39, Tryz.ntmps39
  go_upto_region 1 with fail
  rw [← hw0, ← hwc, ← hw1, ← hp, ← hr]
  rw [← hq]
  clear hw0 hwc hw1 hp hr hq
  go_still_tail 14, (by kernel_rfl)
  change wpList _ _ _ _ _ w1.drew
  go_wp2_with (refine HCODE.out.mono ?_)
  rintro e w3 ⟨rfl, A3, c3, hw3, hf3, hn3⟩
  have hr3 := Row.fr (w := w1.drew) HR1.out hf3 HQN.out
  have hr03 := Row.fr (w := w1.drew) HR0.out hf3 HPN.out
  have e0' : w3.cell? ⟨p, 0, none⟩ = some (.pointer (some ⟨g, 0, none⟩)) := hr03.cell rfl
  have d1 : w3.cell? ⟨q, 1, none⟩ = some (.int .i64 (b : Int)) := hr3.cell rfl
  have d2 : w3.cell? ⟨q, 2, none⟩ = some (.int .u64 (x : Int)) := hr3.cell rfl
  have HF3 : Hid (Fr (Ft g A) w w3) := Lib.hid (HF1.out.drew.mono (fun _ _ h => h.elim) |>.trans hf3 (fun _ _ h => h))
  have HN3 : Hid (Nx w A A3) := Lib.hid (hn3.back HF1.out.size)
  have HPUT : Hid (Calls Tryz.prog 33 #[.pointer (some ⟨g, 0, none⟩), .int .i64 (b : Int), .slice (some ⟨w3.heap.size, 0, none⟩) 1 1] (w3.alloc (.cells #[.int .u64 (x : Int)] 47)) fun e w' => e = .returned (.tuple #[]) ∧ ∃ A' c', Wr w' g A' c' (bs ++ (low cv (min v 64)).reverse ++ low x b) ∧ Fr (Ft g A3) w3 w' ∧ Nx w3 A3 A') :=
    Lib.hid (put1_any g c3 A3 b x _ w3 hw3 (by rw [List.length_append, List.length_reverse, low_length]; have := HB.out; omega) HB64.out hx)
  clear hw3 hf3 hn3 hr3 hr03 cL cC c0 d0 e0 e1 HCODE
  go_wp2_with (refine HPUT.out.mono ?_)
  rintro e w5 ⟨rfl, A5, c5, hw5, hf5, hn5⟩
  have HW5 := Lib.hid hw5
  have HF5 := Lib.hid (Fr.next HF3.out HN3.out hf5)
  have HN5 := Lib.hid (HN3.out.trans hn5 HF3.out.size)
  clear hw5 hf5 hn5 e0' d1 d2 HPUT
  go_wp2_with fail
  go_end0
  exact ⟨rfl, A5, c5, HW5.out, HF5.out, HN5.out⟩
end Go.Proofs.YtgpkiijmembggaaGreatDoor
namespace Go.Proofs.YtgpkiijmembggaaGreatDoor
open Go.RowKit BitsM Mem Go.Lib
attribute [local go_sem ↓] Go.wp_at_zero Go.wp_at_succ
set_option linter.unusedVariables false
set_option maxRecDepth 100000

/-- lengths that are none of a code: as many 0s -/
theorem pCodesNo_any (A : Option Addr) (n c : Nat) (L : List Int) (w : World) (hr : Rd w A n (L.map intc)) (hn : n ≤ 1000) (hR : HuffM.rightB L = false) :
    Calls Tryz.prog 43 #[.slice A n c] w fun e w' => ∃ A' c', e = .returned (.slice A' n c') ∧ n ≤ c' ∧ Rd w' A' n ((List.replicate n 0).map numc) ∧ Fr (fun _ => False) w w' ∧ ∀ ad, A' = some ad → w.heap.size ≤ ad.block := by
  have HR := Lib.hid hr
  have HRT := Lib.hid hR
  have hmk := mk_u64 n (by omega) w
  clear hr hR
  go_enter Tryz.func43, Tryz.ntmps43
  go_wp2_with fail
  obtain ⟨g, hg⟩ : ∃ g, g = w.heap.size := ⟨_, rfl⟩
  obtain ⟨w0, hw0⟩ : ∃ w0, w.alloc (.cells (Array.replicate n (.int .u64 0)) 47) = w0 := ⟨_, rfl⟩
  have hb0 : Row w0 g 47 ((List.replicate n 0).map numc) := by
    have h := Row.new w 47 ((List.replicate n 0).map numc)
    have e : ((List.replicate n 0).map numc).toArray = Array.replicate n (.int .u64 0) := by
      rw [List.map_replicate]
      simp [numc]
    rw [e, hw0, ← hg] at h
    exact h
  have hf0 : Fr (fun _ => False) w w0 := by rw [← hw0]; exact (Fr.refl _ _).alloc _
  have hr0 := HR.out.fr hf0 (fun _ _ h => h)
  rw [hw0, ← hg]
  have HG := Lib.hid hg
  have HB0 := Lib.hid hb0
  have HF0 := Lib.hid hf0
  have HR0 := Lib.hid hr0
  clear hmk hg hw0 hb0 hf0 hr0
  refine (pRight_any A n c L w0 HR0.out hn).mono ?_
  rintro e w1 ⟨rfl, rfl⟩
  rw [HRT.out]
  go_wp2_with fail
  go_ret
  refine ⟨_, _, rfl, Nat.le_refl _, ?_, HF0.out, fun ad h => by injection h with h; subst h; have := HG.out; show w.heap.size ≤ g; omega⟩
  have h := HB0.out.rd 0 n (by simp)
  rw [List.drop_zero, List.take_of_length_le (by simp)] at h
  exact h
/-- of any lengths: so many numbers; of a code's lengths the codes -/
theorem pCodesG_any (A : Option Addr) (n c : Nat) (L : List Int) (w : World) (hr : Rd w A n (L.map intc)) (hn : n ≤ 1000) (hA : ∀ ad, A = some ad → ad.block < w.heap.size) :
    ∃ X : List Nat, X.length = n ∧ (∀ x ∈ X, x < 18446744073709551616) ∧ (HuffM.rightB L = true → X = HuffM.codesL L) ∧
    Calls Tryz.prog 43 #[.slice A n c] w fun e w' => ∃ A' c', e = .returned (.slice A' n c') ∧ n ≤ c' ∧ Rd w' A' n (X.map numc) ∧ Fr (fun _ => False) w w' ∧ ∀ ad, A' = some ad → w.heap.size ≤ ad.block := by
  have hln : L.length = n := by simpa using hr.1
  cases hR : HuffM.rightB L with
  | true => exact ⟨HuffM.codesL L, by rw [HuffM.codes_len]; exact hln, HuffM.codes_lt L, fun _ => rfl, pCodesN_any A n c L w hr hn hA hR⟩
  | false => exact ⟨List.replicate n 0, by simp, fun x hx => by rw [List.eq_of_mem_replicate hx]; decide, (by simp), pCodesNo_any A n c L w hr hn hR⟩

theorem Gl.frT {S : Nat → Prop} {w w' : World} (h : Gl w) (hf : Fr S w w') (hS : ∀ k, S k → top7 ≤ k) : Gl w' :=
  ⟨h.1.fr hf (fun h => by have := hS _ h; unfold top7 at this; omega), h.2.fr hf (fun h => by have := hS _ h; unfold top7 at this; omega)⟩
theorem codingSize : (Tryz.prog.info? 66).map (·.size) = some 2 := by kernel_rfl
set_option maxHeartbeats 1600000 in
theorem codingOf_any (A : Option Addr) (n c : Nat) (L : List Int) (w : World) (hr : Rd w A n (L.map intc)) (hn : n ≤ 1000) (hA : ∀ ad, A = some ad → ad.block < w.heap.size) :
    ∃ X : List Nat, X.length = n ∧ (∀ x ∈ X, x < 18446744073709551616) ∧ (HuffM.rightB L = true → X = HuffM.codesL L) ∧
    Calls Tryz.prog 25 #[.slice A n c] w fun e w' => ∃ A' c', e = .returned (.agg #[.slice A n c, .slice A' n c']) ∧ Rd w' A' n (X.map numc) ∧ Fr (fun _ => False) w w' ∧ ∀ ad, A' = some ad → w.heap.size ≤ ad.block := by
  obtain ⟨w0, hw0⟩ : ∃ w0, w0 = w.alloc (.cells #[Value.slice none 0 0, .slice none 0 0] 66) := ⟨_, rfl⟩
  obtain ⟨p, hp⟩ : ∃ p, p = w.heap.size := ⟨_, rfl⟩
  have hr0 : Row w0 p 66 [Value.slice none 0 0, .slice none 0 0] := by rw [hw0, hp]; exact Row.new w _ _
  have hf0 : Fr (fun _ => False) w w0 := by rw [hw0]; exact (Fr.refl _ w).alloc _
  obtain ⟨X, h1, h2, h3, hc⟩ := pCodesG_any A n c L w0 (hr.fr hf0 (fun _ _ h => h)) hn (fun ad h => Nat.lt_of_lt_of_le (hA ad h) hf0.size)
  refine ⟨X, h1, h2, h3, ?_⟩
  have HC := Lib.hid hc
  have HF0 := Lib.hid hf0
  have HR0 := Lib.hid hr0
  have HPW : Hid (w.heap.size ≤ p ∧ p < w0.heap.size) := Lib.hid ⟨by omega, hr0.lt⟩
  clear h1 h2 h3 hc hr hA hf0 hr0
  go_enter Tryz.func25, Tryz.ntmps25
  go_upto_region 1 with fail
  rw [← hw0, ← hp]
  clear hw0 hp
  go_wp2_with fail
  refine HC.out.mono ?_
  rintro e w1 ⟨AX, cX, rfl, hcX, hrX, hf1, hXb⟩
  have HR1 := Lib.hid (HR0.out.fr hf1 (fun h => h))
  have HF1 := Lib.hid (HF0.out.trans hf1 (fun _ _ h => h))
  have HX : Hid (Rd w1 AX n (X.map numc) ∧ ∀ ad, AX = some ad → w0.heap.size ≤ ad.block) := Lib.hid ⟨hrX, hXb⟩
  clear hrX hf1 hXb HC hcX
  have hra := HR1.out.set 0 (.slice A n c)
  have hrb := hra.set 1 (.slice AX n cX)
  have e0 : w1.cell? ⟨p, 0, none⟩ = some (.slice none 0 0) := HR1.out.cell rfl
  have f0 := HR1.out.free 0
  have e1 : (w1.setCell ⟨p, 0, none⟩ (.slice A n c)).cell? ⟨p, 1, none⟩ = some (.slice none 0 0) := hra.cell rfl
  have f1 := hra.free 1
  have hfa := (Fr.set1 w1 p 0 (.slice A n c)).trans (Fr.set1 _ p 1 (.slice AX n cX)) (fun _ _ h => h)
  have HRB := Lib.hid hrb
  have HFA := Lib.hid hfa
  clear hra hrb hfa
  go_wp2_with fail
  have hr2 := HRB.out
  have hf2 := HFA.out
  obtain ⟨w2, hw2⟩ : ∃ w2, w2 = (w1.setCell ⟨p, 0, none⟩ (.slice A n c)).setCell ⟨p, 1, none⟩ (.slice AX n cX) := ⟨_, rfl⟩
  rw [← hw2] at hr2 hf2 ⊢
  have d0 : w2.cell? ⟨p, 0, none⟩ = some (.slice A n c) := hr2.cell rfl
  have d1 : w2.cell? ⟨p, 1, none⟩ = some (.slice AX n cX) := hr2.cell rfl
  have HF2 := Lib.hid (HF1.out.trans hf2 (fun b hb h => by have := HPW.out.1; omega))
  have HX2 := Lib.hid (HX.out.1.fr hf2 (fun ad e h => by have := HX.out.2 ad e; have := HPW.out.2; omega))
  clear hr2 hf2 hw2 e0 e1 f0 f1
  exact bodyPost_ret (v := .agg #[.slice A n c, .slice AX n cX]) (by simp [results, Tryz.results25, go_sem, d0, d1]) rfl ⟨AX, cX, rfl, HX2.out, HF2.out, fun ad e => Nat.le_trans HF0.out.size (HX.out.2 ad e)⟩
/-- what a block's symbols are put by: the block's own cell, two codings -/
structure EnvD (w : World) (g : Nat) (A : Option Addr) (p r1 r2 n1 c1 cX n2 c2 cY : Nat) (A1 AX A2 AY : Option Addr) (a xs b ys : List Nat) : Prop where
  row : Row w p 38 [Value.pointer (some ⟨g, 0, none⟩)]
  ro1 : Row w r1 66 [Value.slice A1 n1 c1, .slice AX n1 cX]
  ro2 : Row w r2 66 [Value.slice A2 n2 c2, .slice AY n2 cY]
  pn : ¬ Ft g A p
  rn1 : ¬ Ft g A r1
  rn2 : ¬ Ft g A r2
  ra : Rd w A1 n1 (a.map natc)
  rx : Rd w AX n1 (xs.map numc)
  rb : Rd w A2 n2 (b.map natc)
  ry : Rd w AY n2 (ys.map numc)
  na : ∀ ad, A1 = some ad → ¬ Ft g A ad.block ∧ ad.block < w.heap.size
  nx : ∀ ad, AX = some ad → ¬ Ft g A ad.block ∧ ad.block < w.heap.size
  nb : ∀ ad, A2 = some ad → ¬ Ft g A ad.block ∧ ad.block < w.heap.size
  ny : ∀ ad, AY = some ad → ¬ Ft g A ad.block ∧ ad.block < w.heap.size
  gl : Gl w
  gt : ∀ k, Ft g A k → top7 ≤ k
theorem EnvD.fr {w w' : World} {g p r1 r2 n1 c1 cX n2 c2 cY : Nat} {A A' A1 AX A2 AY : Option Addr} {a xs b ys : List Nat} (h : EnvD w g A p r1 r2 n1 c1 cX n2 c2 cY A1 AX A2 AY a xs b ys) (hf : Fr (Ft g A) w w') (hn : Nx w A A') : EnvD w' g A' p r1 r2 n1 c1 cX n2 c2 cY A1 AX A2 AY a xs b ys where
  row := h.row.fr hf h.pn
  ro1 := h.ro1.fr hf h.rn1
  ro2 := h.ro2.fr hf h.rn2
  pn := hn.old h.row.lt h.pn
  rn1 := hn.old h.ro1.lt h.rn1
  rn2 := hn.old h.ro2.lt h.rn2
  ra := h.ra.fr hf (fun ad e => (h.na ad e).1)
  rx := h.rx.fr hf (fun ad e => (h.nx ad e).1)
  rb := h.rb.fr hf (fun ad e => (h.nb ad e).1)
  ry := h.ry.fr hf (fun ad e => (h.ny ad e).1)
  na := fun ad e => ⟨hn.old (h.na ad e).2 (h.na ad e).1, Nat.lt_of_lt_of_le (h.na ad e).2 hf.size⟩
  nx := fun ad e => ⟨hn.old (h.nx ad e).2 (h.nx ad e).1, Nat.lt_of_lt_of_le (h.nx ad e).2 hf.size⟩
  nb := fun ad e => ⟨hn.old (h.nb ad e).2 (h.nb ad e).1, Nat.lt_of_lt_of_le (h.nb ad e).2 hf.size⟩
  ny := fun ad e => ⟨hn.old (h.ny ad e).2 (h.ny ad e).1, Nat.lt_of_lt_of_le (h.ny ad e).2 hf.size⟩
  gl := h.gl.frT hf h.gt
  gt := by
    intro k hk
    rcases hk with hk | hk
    · exact h.gt k (.inl hk)
    · rcases hn with e | ⟨b, e, hb⟩
      · exact h.gt k (.inr (e ▸ hk))
      · rw [e] at hk
        injection hk with hk
        have := h.gl.size
        omega
theorem EnvD.fr0 {w w' : World} {g p r1 r2 n1 c1 cX n2 c2 cY : Nat} {A A1 AX A2 AY : Option Addr} {a xs b ys : List Nat} (h : EnvD w g A p r1 r2 n1 c1 cX n2 c2 cY A1 AX A2 AY a xs b ys) (hf : Fr (fun _ => False) w w') : EnvD w' g A p r1 r2 n1 c1 cX n2 c2 cY A1 AX A2 AY a xs b ys :=
  h.fr (hf.mono (fun _ _ h => h.elim)) (Nx.refl w A)
/-- a symbol of the first code, of the second -/
theorem symA_any {w : World} {g p r1 r2 n1 c1 cX n2 c2 cY : Nat} {A A1 AX A2 AY : Option Addr} {a xs b ys : List Nat} (h : EnvD w g A p r1 r2 n1 c1 cX n2 c2 cY A1 AX A2 AY a xs b ys) (c s t x : Nat) (bs : List Bool) (hw : Wr w g A c bs) (hb : bs.length ≤ 2000000000) (hs : s < n1) (ht : t ≤ 64) (hx : x < 18446744073709551616) (hxs : ∀ x ∈ xs, x < 18446744073709551616) :
    Calls Tryz.prog 39 #[.agg #[.pointer (some ⟨g, 0, none⟩)], .agg #[.slice A1 n1 c1, .slice AX n1 cX], .agg #[.int .i64 (s : Int), .int .i64 (t : Int), .int .u64 (x : Int)]] w fun e w' => e = .returned (.tuple #[]) ∧ ∃ A' c', Wr w' g A' c' (bs ++ DeM.codeBits xs a s ++ low x t) ∧ EnvD w' g A' p r1 r2 n1 c1 cX n2 c2 cY A1 AX A2 AY a xs b ys ∧ Fr (Ft g A) w w' ∧ Nx w A A' :=
  (sym9_any g c A A1 AX n1 c1 n1 cX s t x a xs bs w hw hb h.ra h.rx hs hs ht hx hxs).mono fun e w' ⟨he, A', c', h1, h2, h3⟩ => ⟨he, A', c', h1, h.fr h2 h3, h2, h3⟩
theorem symB_any {w : World} {g p r1 r2 n1 c1 cX n2 c2 cY : Nat} {A A1 AX A2 AY : Option Addr} {a xs b ys : List Nat} (h : EnvD w g A p r1 r2 n1 c1 cX n2 c2 cY A1 AX A2 AY a xs b ys) (c s t x : Nat) (bs : List Bool) (hw : Wr w g A c bs) (hb : bs.length ≤ 2000000000) (hs : s < n2) (ht : t ≤ 64) (hx : x < 18446744073709551616) (hys : ∀ x ∈ ys, x < 18446744073709551616) :
    Calls Tryz.prog 39 #[.agg #[.pointer (some ⟨g, 0, none⟩)], .agg #[.slice A2 n2 c2, .slice AY n2 cY], .agg #[.int .i64 (s : Int), .int .i64 (t : Int), .int .u64 (x : Int)]] w fun e w' => e = .returned (.tuple #[]) ∧ ∃ A' c', Wr w' g A' c' (bs ++ DeM.codeBits ys b s ++ low x t) ∧ EnvD w' g A' p r1 r2 n1 c1 cX n2 c2 cY A1 AX A2 AY a xs b ys ∧ Fr (Ft g A) w w' ∧ Nx w A A' :=
  (sym9_any g c A A2 AY n2 c2 n2 cY s t x b ys bs w hw hb h.rb h.ry hs hs ht hx hys).mono fun e w' ⟨he, A', c', h1, h2, h3⟩ => ⟨he, A', c', h1, h.fr h2 h3, h2, h3⟩
end Go.Proofs.YtgpkiijmembggaaGreatDoor
