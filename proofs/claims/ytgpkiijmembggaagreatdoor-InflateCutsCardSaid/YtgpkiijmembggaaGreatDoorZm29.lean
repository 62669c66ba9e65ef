/-
  Layer 8's reference: the loops of Get (written by gen_get.py).
  Layer 8's reference: the main loop of Get (written by gen_get.py).
  Layer 8's program: readCount.
  Layer 8's program: readCoder.
-/
import Derived.Test.YtgpkiijmembggaaGreatDoorZm12
import Derived.Test.YtgpkiijmembggaaGreatDoorZm09
import Derived.Test.YtgpkiijmembggaaGreatDoorZm28
import Derived.Test.YtgpkiijmembggaaGreatDoorZm22
import Derived.Test.YtgpkiijmembggaaGreatDoorZm16
import Derived.Test.YtgpkiijmembggaaGreatDoorZm20
import Derived.Test.YtgpkiijmembggaaGreatDoorZm06
import Derived.Test.YtgpkiijmembggaaGreatDoorZm05
import Derived.Deep.DrawnRows
import Derived.StillTailTactics
import Derived.Deep.RegionHeld3
import Derived.Test.YtgpkiijmembggaaGreatDoorZm21
import Derived.Test.YtgpkiijmembggaaGreatDoorZm23
namespace Go.Proofs.YtgpkiijmembggaaGreatDoor
open Go.RowKit CoM HuffM BitsM Mem Go.Lib
attribute [local go_sem ↓] Go.wp_at_zero Go.wp_at_succ
set_option linter.unusedVariables false

theorem conv_int8 (e : Nat) (he : e ≤ 1000000) (w : World) : (convert 47 3 (.int .u64 (e : Int))).run Tryz.prog w = .ok (.int .i64 (e : Int)) w := by
  go_simp
  rw [IntKind.wrap_i64]
  omega
theorem num3_lt (bs : List Bool) (f n : Nat) (hn : n ≤ 7) : num ((bs.drop f).take n) ≤ 127 := by
  have := num_lt ((bs.drop f).take n)
  have h2 : 2 ^ ((bs.drop f).take n).length ≤ 2 ^ 7 := Nat.pow_le_pow_right (by omega) (by rw [List.length_take]; omega)
  omega

end Go.Proofs.YtgpkiijmembggaaGreatDoor
namespace Go.Proofs.YtgpkiijmembggaaGreatDoor
open Go.RowKit CoM HuffM BitsM Mem Go.Lib
attribute [local go_sem ↓] Go.wp_at_zero Go.wp_at_succ
set_option linter.unusedVariables false

theorem step_none {len : List Nat} {NN : Nat} {l : List Nat} {bs : List Bool} (h : nextS (ints len) (bb bs) = (-1, 0)) : step8 len NN l bs = none := by
  unfold step8
  simp [h]
theorem step_lit {len : List Nat} {NN s k : Nat} {l : List Nat} {bs : List Bool} (h : nextS (ints len) (bb bs) = ((s : Int), (k : Int))) (hs : s < 16) : step8 len NN l bs = some (l ++ [s], bs.drop k) := by
  unfold step8
  simp only [h, Int.toNat_natCast]
  rw [if_neg (by omega), if_pos hs]
theorem step_nil {len : List Nat} {NN k : Nat} {bs : List Bool} (h : nextS (ints len) (bb bs) = (((16 : Nat) : Int), (k : Int))) : step8 len NN [] bs = none := by
  unfold step8
  simp only [h, Int.toNat_natCast]
  rw [if_neg (by omega), if_neg (by omega), if_pos ⟨by simp, by simp⟩]
theorem step_short {len : List Nat} {NN s k : Nat} {l : List Nat} {bs : List Bool} (h : nextS (ints len) (bb bs) = ((s : Int), (k : Int))) (hs : 16 ≤ s) (hr : (bs.drop k).length < sizeOf8 s) : step8 len NN l bs = none := by
  unfold step8
  simp only [h, Int.toNat_natCast]
  rw [if_neg (by omega), if_neg (by omega)]
  split
  · rfl
  · first | rfl | rw [if_pos hr]
theorem step_over {len : List Nat} {NN s k : Nat} {l : List Nat} {bs : List Bool} (h : nextS (ints len) (bb bs) = ((s : Int), (k : Int))) (hs : 16 ≤ s) (ho : NN < l.length + (leastOf8 s + num ((bs.drop k).take (sizeOf8 s)))) : step8 len NN l bs = none := by
  unfold step8
  simp only [h, Int.toNat_natCast]
  rw [if_neg (by omega), if_neg (by omega)]
  split
  · rfl
  · split
    · rfl
    · first | rfl | rw [if_pos ho]
theorem step_go {len : List Nat} {NN s k v : Nat} {l : List Nat} {bs : List Bool} (h : nextS (ints len) (bb bs) = ((s : Int), (k : Int))) (hs : 16 ≤ s) (hl : s = 16 → l ≠ []) (hr : ¬ (bs.drop k).length < sizeOf8 s) (ho : ¬ NN < l.length + (leastOf8 s + num ((bs.drop k).take (sizeOf8 s))))
    (hv : v = if s = 16 then l.getLastD 0 else 0) : step8 len NN l bs = some (l ++ List.replicate (leastOf8 s + num ((bs.drop k).take (sizeOf8 s))) v, (bs.drop k).drop (sizeOf8 s)) := by
  unfold step8
  simp only [h, Int.toNat_natCast]
  rw [if_neg (by omega), if_neg (by omega), if_neg (fun h => hl h.1 h.2), if_neg hr, if_neg ho, hv]
theorem tells_end {len : List Nat} {NN f : Nat} {l : List Nat} {bs : List Bool} (h : NN ≤ l.length) : tells len NN f l bs = some (l, bs) := by
  cases f <;> simp [tells, h]
theorem tells_none {len : List Nat} {NN f : Nat} {l : List Nat} {bs : List Bool} (h : l.length < NN) (hs : step8 len NN l bs = none) : tells len NN (f + 1) l bs = none := by
  rw [tells, if_neg (by omega), hs]
theorem tells_some {len : List Nat} {NN f : Nat} {l l2 : List Nat} {bs b2 : List Bool} (h : l.length < NN) (hs : step8 len NN l bs = some (l2, b2)) : tells len NN (f + 1) l bs = tells len NN f l2 b2 := by
  rw [tells, if_neg (by omega), hs]
theorem ints_cells (l : List Nat) : (ints l).map intc = l.map natc := by
  unfold ints
  rw [List.map_map]
  rfl

def slen : Value → Nat
  | .slice _ n _ => n
  | _ => 0
end Go.Proofs.YtgpkiijmembggaaGreatDoor
namespace Go.Proofs.YtgpkiijmembggaaGreatDoor
open Go.RowKit CoM BitsM HuffM Mem Go.Lib
attribute [local go_sem ↓] Go.wp_at_zero Go.wp_at_succ
set_option linter.unusedVariables false
set_option maxRecDepth 100000

/-- what readCount answers -/
def CountOk (bs : List Bool) (nb least most x : Nat) (ok : Bool) (p p' : Nat) : Prop :=
  (ok = true ∧ nb ≤ bs.length ∧ num (bs.take nb) ≤ most - least ∧ x = least + num (bs.take nb) ∧ p' = p + nb) ∨ (ok = false ∧ (bs.length < nb ∨ most - least < num (bs.take nb)))
set_option maxHeartbeats 1600000 in
theorem readCount_any (r c p : Nat) (A : Option Addr) (B : List UInt8) (nb least most : Nat) (w : World) (h : Re w r A c B p) (hB : B.length ≤ 1000000) (hn : nb ≤ 7) (hlm : least ≤ most) (hm : most ≤ 1000) :
    Calls Tryz.prog 107 #[.pointer (some ⟨r, 0, none⟩), .int .i64 (nb : Int), .int .i64 (least : Int), .int .i64 (most : Int)] w fun e w' => ∃ (x : Nat) (ok : Bool) (p' : Nat), e = .returned (.tuple #[.int .i64 (x : Int), .bool ok]) ∧ Re w' r A c B p' ∧ Fr (fun k => k = r) w w' ∧ CountOk ((bitsOf B).drop p) nb least most x ok p p' := by
  obtain ⟨bs, hbs⟩ : ∃ bs, bs = (bitsOf B).drop p := ⟨_, rfl⟩
  rw [← hbs]
  have hbl : bs.length = 8 * B.length - p := by rw [hbs, List.length_drop, bitsOf_length]
  obtain ⟨z, hz⟩ : ∃ z, z = num (bs.take nb) := ⟨_, rfl⟩
  have hz7 : z < 128 := by
    have h1 := num_lt (bs.take nb)
    have h2 : 2 ^ (bs.take nb).length ≤ 2 ^ 7 := Nat.pow_le_pow_right (by omega) (by rw [List.length_take]; omega)
    omega
  obtain ⟨d, hd⟩ : ∃ d, d = most - least := ⟨_, rfl⟩
  have hdi : (most : Int) - (least : Int) = (d : Int) := by omega
  have hdw : IntKind.i64.wrap ((most : Int) - (least : Int)) = (d : Int) := by rw [IntKind.wrap_i64]; omega
  by_cases hp : p + nb ≤ 8 * B.length
  · have hb := bits_ok r c p A B nb w h (by omega) (by omega) hp
    rw [show cut B p nb = bs.take nb by rw [hbs]; rfl, ← hz] at hb
    have HB := Lib.hid hb
    have qz := conv_int8 z (by omega)
    have HX := Lib.hid (And.intro hz hd)
    have HBL := Lib.hid hbl
    clear h hb hbs hbl hz
    by_cases hzd : z ≤ d
    · have t1 : decide ((z : Int) > (d : Int)) = false := by simp; omega
      have t2 : decide ((d : Int) < (z : Int)) = false := by simp; omega
      have t3 : decide (d < z) = false := by simp; omega
      clear hd
      go_enter Tryz.func107, Tryz.ntmps107
      go_wp2_with (refine HB.out.mono ?_)
      rintro e w2 ⟨rfl, hre, hf⟩
      have HRE := Lib.hid (And.intro hre hf)
      clear hre hf
      go_wp2_with fail
      exact bodyPost_ret (v := .tuple #[.int .i64 ((least + z : Nat) : Int), .bool true]) (by simp [results, Tryz.results107, go_sem]) rfl
        ⟨_, true, p + nb, rfl, HRE.out.1, HRE.out.2, .inl ⟨rfl, by have := HBL.out; omega, by rw [← HX.out.1, ← HX.out.2]; exact hzd, by rw [← HX.out.1], rfl⟩⟩
    · have t1 : decide ((z : Int) > (d : Int)) = true := by simp; omega
      have t2 : decide ((d : Int) < (z : Int)) = true := by simp; omega
      have t3 : decide (d < z) = true := by simp; omega
      clear hd
      go_enter Tryz.func107, Tryz.ntmps107
      go_wp2_with (refine HB.out.mono ?_)
      rintro e w2 ⟨rfl, hre, hf⟩
      have HRE := Lib.hid (And.intro hre hf)
      clear hre hf
      go_wp2_with fail
      exact bodyPost_ret (v := .tuple #[.int .i64 0, .bool false]) (by simp [results, Tryz.results107, go_sem]) rfl
        ⟨0, false, p + nb, rfl, HRE.out.1, HRE.out.2, .inr ⟨rfl, .inr (by rw [← HX.out.1, ← HX.out.2]; omega)⟩⟩
  · have hb := bits_no r c p A B (nb : Int) w h (by omega) (.inr (.inr (by have := h.2.2; omega)))
    have HB := Lib.hid hb
    have HBL := Lib.hid hbl
    have hpl := h.2.2
    clear h hb hbs hbl hz hd
    go_enter Tryz.func107, Tryz.ntmps107
    go_wp2_with (refine HB.out.mono ?_)
    rintro e w2 ⟨rfl, hre, hf⟩
    have HRE := Lib.hid (And.intro hre hf)
    clear hre hf
    go_wp2_with fail
    exact bodyPost_ret (v := .tuple #[.int .i64 0, .bool false]) (by simp [results, Tryz.results107, go_sem]) rfl
      ⟨0, false, p, rfl, HRE.out.1, HRE.out.2.mono (fun _ _ h => h.elim), .inr ⟨rfl, .inl (by have := HBL.out; omega)⟩⟩
end Go.Proofs.YtgpkiijmembggaaGreatDoor
namespace Go.Proofs.YtgpkiijmembggaaGreatDoor
open Go.RowKit CoM BitsM HuffM Mem Go.Lib
attribute [local go_sem ↓] Go.wp_at_zero Go.wp_at_succ
set_option linter.unusedVariables false
set_option maxRecDepth 100000

theorem Re.lt {w : World} {r c p : Nat} {A : Option Addr} {B : List UInt8} (h : Re w r A c B p) : r < w.heap.size ∧ ∀ k, bl A = some k → k < w.heap.size :=
  ⟨lt_of_heap h.1, fun k hk => (h.2.1.lt k (by rw [bl_own]; exact hk)).2⟩
/-- what readCoder answers -/
def CoderOk (w w' : World) (e : Ending) (b1 : List Bool) (m r c q : Nat) (A : Option Addr) (B : List UInt8) : Prop :=
  (∃ pa : Addr, e = .returned (.tuple #[.pointer (some pa), .bool true]) ∧ 3 * m ≤ b1.length ∧ rightB (ints (lens19 b1 m)) = true ∧ CB w' (fun k => w.heap.size ≤ k ∧ k < w'.heap.size) pa (ints (lens19 b1 m)) ∧ Re w' r A c B (q + 3 * m)) ∨
  (∃ p', e = .returned (.tuple #[.pointer none, .bool false]) ∧ (b1.length < 3 * m ∨ rightB (ints (lens19 b1 m)) = false) ∧ Re w' r A c B p')
set_option maxHeartbeats 3200000 in
theorem readCoder_any (r c q : Nat) (A : Option Addr) (B : List UInt8) (m : Nat) (w : World) (hG : Gl8 w) (h : Re w r A c B q) (hr2 : top8 ≤ r) (hB : B.length ≤ 1000000) (hm : m ≤ 19) :
    Calls Tryz.prog 108 #[.pointer (some ⟨r, 0, none⟩), .int .i64 (m : Int)] w fun e w' => CoderOk w w' e ((bitsOf B).drop q) m r c q A B ∧ Fr (fun k => k = r) w w' := by
  obtain ⟨b1, hb1⟩ : ∃ b1, b1 = (bitsOf B).drop q := ⟨_, rfl⟩
  rw [← hb1]
  have hbl : b1.length = 8 * B.length - q := by rw [hb1, List.length_drop, bitsOf_length]
  have hmk := mk_int 19 (by omega) w
  obtain ⟨g, hg⟩ : ∃ g, g = w.heap.size := ⟨_, rfl⟩
  obtain ⟨w1, hw1⟩ : ∃ w1, w1 = w.alloc (.cells (Array.replicate 19 (.int .i64 0)) 3) := ⟨_, rfl⟩
  have hz : NR w1 g (lens19 b1 0) := by rw [hw1, hg]; exact NR.zeros w 19
  have hf1 : Fr (fun _ => False) w w1 := by rw [hw1]; exact (Fr.refl _ w).alloc _
  rw [← hg, ← hw1] at hmk
  replace hmk : (Instr.makeSlice 60 (.int .i64 19) (.int .i64 19)).run Tryz.prog w = .ok (.slice (some ⟨g, 0, none⟩) 19 19) w1 := hmk
  have HZ := Lib.hid hz
  have HF1 := Lib.hid hf1
  have HG := Lib.hid hG
  have HRE1 := Lib.hid (h.fr hf1 (fun h => h) (fun _ _ h => h))
  have HLT : Hid (r < g ∧ ∀ k, bl A = some k → k < g) := Lib.hid (by rw [hg]; exact h.lt)
  have HGG := Lib.hid hg
  have HBL := Lib.hid hbl
  have HB1 := Lib.hid hb1
  have HR2 := Lib.hid hr2
  have HQ := Lib.hid h.2.2
  clear hz hf1 hw1 hg hbl hb1 h hG hr2
  go_enter Tryz.func108, Tryz.ntmps108
  go_wp2_with fail
  go_loopw [12] (fun i wr => ∃ k : Nat, k ≤ m ∧ i = .int .i64 (k : Int) ∧ Hid (NR wr g (lens19 b1 k)) ∧ Hid (Re wr r A c B (q + 3 * k)) ∧ Hid (Fr (fun k => k = r) w wr)) (fun i _ => m - (intOf i).toNat)
  case atStart => exact ⟨0, Nat.zero_le _, rfl, HZ.out, HRE1.out, HF1.out.mono (fun _ _ h => h.elim)⟩
  case round =>
    obtain ⟨k, hk, rfl, HN, HRE, HF⟩ := hrel
    rename World => wr
    by_cases hlt : k < m
    · by_cases hp : q + 3 * k + 3 ≤ 8 * B.length
      · obtain ⟨z, hz⟩ : ∃ z, z = num ((b1.drop (3 * k)).take 3) := ⟨_, rfl⟩
        have hz7 : z ≤ 127 := by rw [hz]; exact num3_lt b1 (3 * k) 3 (by omega)
        have hb := bits_ok r c (q + 3 * k) A B 3 wr HRE.out (by omega) (by omega) hp
        rw [show cut B (q + 3 * k) 3 = (b1.drop (3 * k)).take 3 by rw [HB1.out, List.drop_drop]; rfl, ← hz] at hb
        have HBT : Hid (Calls Tryz.prog 36 #[.pointer (some ⟨r, 0, none⟩), .int .i64 3] wr fun e w' => e = .returned (.tuple #[.int .u64 (z : Int), .bool true]) ∧ Re w' r A c B (q + 3 * k + 3) ∧ Fr (fun k => k = r) wr w') := Lib.hid hb
        have qz := conv_int8 z (by omega)
        obtain ⟨o, ho⟩ : ∃ o, ord[k]? = some o := ⟨_, List.getElem?_eq_getElem (show k < ord.length by show k < 19; omega)⟩
        have ho19 : o < 19 := ord_lt o (List.mem_of_getElem? ho)
        have hset : lens19 b1 (k + 1) = (lens19 b1 k).set o z := by
          rw [lens19, ← hz]
          congr 1
          rw [getElem!_pos ord k (show k < 19 by omega)]
          exact (List.getElem?_eq_some_iff.1 ho).2
        have hoi : (o : Int) < 19 := by omega
        have hki : (k : Int) < 19 := by omega
        have HSET := Lib.hid hset
        have HO := Lib.hid ho
        clear hz hb ho hset
        go_wp2_with fail
        refine HBT.out.mono ?_
        rintro e w2 ⟨rfl, hre2, hf2⟩
        have HF2 := Lib.hid (HF.out.trans hf2 (fun _ _ h => h))
        have hn2 : NR w2 g (lens19 b1 k) := Row.fr HN.out hf2 (fun h => by have := HLT.out.1; omega)
        have co : w2.cell? ⟨2, k, none⟩ = some (.int .i64 (o : Int)) := (HG.out.fr HF2.out (fun k hk => by have := HR2.out; omega)).1 k o HO.out
        have c1 : ∃ u, w2.cell? ⟨g, o, none⟩ = some u := ⟨_, hn2.at_ (i := o) (by rw [lens19_len]; exact ho19)⟩
        obtain ⟨u, c1⟩ := c1
        have f1 : w2.frozen? ⟨g, o, none⟩ = false := Row.free hn2 o
        have HN4 : Hid (NR (w2.setCell ⟨g, o, none⟩ (.int .i64 (z : Int))) g (lens19 b1 (k + 1))) := Lib.hid (by rw [HSET.out]; exact hn2.set o z)
        have HRE4 : Hid (Re (w2.setCell ⟨g, o, none⟩ (.int .i64 (z : Int))) r A c B (q + 3 * (k + 1))) := Lib.hid (by
          rw [show q + 3 * (k + 1) = q + 3 * k + 3 by omega]
          exact hre2.fr (Fr.set1 w2 g o _) (fun h => by have := HLT.out.1; omega) (fun k hk h => by have := HLT.out.2 k hk; omega))
        have HF4 : Hid (Fr (fun k => k = r) w (w2.setCell ⟨g, o, none⟩ (.int .i64 (z : Int)))) := Lib.hid (HF2.out.trans (Fr.set1 w2 g o _) (fun b hb h => by have := HGG.out; omega))
        clear hre2 hf2 hn2 HBT
        go_wp2_with fail
        exact ⟨⟨k + 1, by omega, by go_num, HN4.out, HRE4.out, HF4.out⟩, by simp [intOf]; omega⟩
      · have hb := bits_no r c (q + 3 * k) A B 3 wr HRE.out (by omega) (.inr (.inr (by have := HRE.out.2.2; omega)))
        have HBT := Lib.hid hb
        clear hb
        go_wp2_with fail
        refine HBT.out.mono ?_
        rintro e w2 ⟨rfl, hre2, hf2⟩
        have HRE2 := Lib.hid hre2
        have HF2 := Lib.hid (HF.out.trans hf2 (fun _ _ h => h.elim))
        clear hre2 hf2 HBT
        go_wp2_with fail
        exact bodyPost_ret (v := .tuple #[.pointer none, .bool false]) (by simp [results, Tryz.results108, go_sem]) rfl
          ⟨.inr ⟨_, rfl, .inl (by rw [HBL.out]; omega), HRE2.out⟩, HF2.out⟩
    · have hkm : k = m := by omega
      subst hkm
      have hrd := NR.rd HN.out
      rw [lens19_len] at hrd
      have hrd2 : Rd wr (some ⟨g, 0, none⟩) 19 ((ints (lens19 b1 k)).map intc) := by rw [natc_ints]; exact hrd
      have hlen : 3 * k ≤ b1.length := by rw [HBL.out]; have := HRE.out.2.2; omega
      cases hR : rightB (ints (lens19 b1 k)) with
      | true =>
        have HNW := Lib.hid (pNewG_yes (some ⟨g, 0, none⟩) 19 19 (ints (lens19 b1 k)) wr hrd2 (by omega) (fun ad h => hrd.lt (by omega) ad h) hR)
        have HRR := Lib.hid hR
        have HLL := Lib.hid hlen
        clear hrd hrd2 hlen hR
        go_wp2_with (refine HNW.out.mono ?_)
        rintro e w3 ⟨pa, rfl, hcb, hf3⟩
        have HCB := Lib.hid (hcb.mono (fun _ hk => (⟨Nat.le_trans HF.out.size hk.1, hk.2⟩ : w.heap.size ≤ _ ∧ _ < w3.heap.size)))
        have HRE3 := Lib.hid (HRE.out.fr hf3 (fun h => h) (fun _ _ h => h))
        have HF3 := Lib.hid (HF.out.trans hf3 (fun _ _ h => h.elim))
        clear hcb hf3 HNW
        go_wp2_with fail
        exact bodyPost_ret (v := .tuple #[.pointer (some pa), .bool true]) (by simp [results, Tryz.results108, go_sem]) rfl
          ⟨.inl ⟨pa, rfl, HLL.out, HRR.out, HCB.out, HRE3.out⟩, HF3.out⟩
      | false =>
        have HNW := Lib.hid (pNew_no (some ⟨g, 0, none⟩) 19 19 (ints (lens19 b1 k)) wr hrd2 (by omega) hR)
        have HRR := Lib.hid hR
        clear hrd hrd2 hlen hR
        go_wp2_with (refine HNW.out.mono ?_)
        rintro e w3 ⟨rfl, hf3⟩
        have HRE3 := Lib.hid (HRE.out.fr hf3 (fun h => h) (fun _ _ h => h))
        have HF3 := Lib.hid (HF.out.trans hf3 (fun _ _ h => h.elim))
        clear hf3 HNW
        go_wp2_with fail
        exact bodyPost_ret (v := .tuple #[.pointer none, .bool false]) (by simp [results, Tryz.results108, go_sem]) rfl
          ⟨.inr ⟨_, rfl, .inr HRR.out, HRE3.out⟩, HF3.out⟩
end Go.Proofs.YtgpkiijmembggaaGreatDoor
