/-
  Layer 9's program: one block of tokens, in the codes that are agreed upon, and in codes of their own (written by gen_ways.py).
  Layer 6: the map of the program's press, keyed by three bytes; its past in memory.
-/
import Derived.Test.YtahfmcdhcbfkaaaDoorZm20
import Derived.Test.YtahfmcdhcbfkaaaDoorZm23
import Derived.Test.YtahfmcdhcbfkaaaDoorZm35
import Derived.Test.YtahfmcdhcbfkaaaDoorZm04
import Derived.Test.YtahfmcdhcbfkaaaDoorZm07
import Derived.Test.YtahfmcdhcbfkaaaDoorZm06
import Derived.Maps.OwnSet
import Derived.WideKeyArgs
import Derived.DeepKeys4
namespace Go.Proofs.YtahfmcdhcbfkaaaDoor
open Go.RowKit BitsM Mem Go.Lib
attribute [local go_sem ↓] Go.wp_at_zero Go.wp_at_succ
set_option linter.unusedVariables false
set_option maxRecDepth 100000

/-- a call made a block that holds these bits -/
def MadeB (w : World) (bs : List Bool) (e : Ending) (w' : World) : Prop :=
  ∃ g A c, e = .returned (.agg #[.pointer (some ⟨g, 0, none⟩)]) ∧ Wr w' g A c bs ∧ Newer w g A ∧ Fr (fun _ => False) w w'
/-- where a block is made: its Writer, its own cell, the result's -/
structure EnvA (w w' : World) (g : Nat) (A : Option Addr) (c : Nat) (bs : List Bool) (q r : Nat) (AT : Option Addr) (n : Nat) (T : List LzM.Tok) : Prop where
  wr : Wr w' g A c bs
  nw : Newer w g A
  fr : Fr (fun _ => False) w w'
  rq : Row w' q 36 [Value.pointer (some ⟨g, 0, none⟩)]
  rr : Row w' r 36 [Value.pointer none]
  nq : ¬ Ft g A q
  nr : ¬ Ft g A r
  hr : w.heap.size ≤ r
  toks : Toks w AT n T
theorem EnvA.fr0 {w w' w'' : World} {g c q r n : Nat} {A AT : Option Addr} {bs : List Bool} {T : List LzM.Tok} (h : EnvA w w' g A c bs q r AT n T) (hf : Fr (fun _ => False) w' w'') : EnvA w w'' g A c bs q r AT n T where
  wr := h.wr.frA hf (fun h => h) (fun _ _ h => h)
  nw := h.nw
  fr := h.fr.trans hf (fun _ _ h => h)
  rq := h.rq.fr hf (fun h => h)
  rr := h.rr.fr hf (fun h => h)
  nq := h.nq
  nr := h.nr
  hr := h.hr
  toks := h.toks
theorem EnvA.next {w w' w'' : World} {g c c' q r n : Nat} {A A' AT : Option Addr} {bs bs' : List Bool} {T : List LzM.Tok} (h : EnvA w w' g A c bs q r AT n T) (hw : Wr w'' g A' c' bs') (hf : Fr (Ft g A) w' w'') (hn : Nx w' A A') : EnvA w w'' g A' c' bs' q r AT n T where
  wr := hw
  nw := h.nw.next hn h.fr.size
  fr := h.nw.fr h.fr hf
  rq := h.rq.fr hf h.nq
  rr := h.rr.fr hf h.nr
  nq := hn.old h.rq.lt h.nq
  nr := hn.old h.rr.lt h.nr
  hr := h.hr
  toks := h.toks
theorem EnvA.apart {w w' : World} {g c q r n : Nat} {A AT : Option Addr} {bs : List Bool} {T : List LzM.Tok} (h : EnvA w w' g A c bs q r AT n T) : 0 < n → ∀ ad, AT = some ad → ¬ Ft g A ad.block := by
  intro h0 ad e hk
  obtain ⟨gi, oi, e2, hgi, _⟩ := h.toks.2 0 _ (List.getElem?_eq_getElem (by rw [h.toks.1]; exact h0))
  rw [e] at e2
  injection e2 with e2
  have h1 := h.nw _ hk
  rw [e2] at h1
  have h2 : w.heap.size ≤ gi := h1
  omega
/-- a block begins in a new Writer -/
theorem EnvA.made {w w1 w3 : World} {g r n c3 : Nat} {A3 AT : Option Addr} {T : List LzM.Tok} {bs : List Bool} (hr : Row w1 r 36 [Value.pointer none]) (hrw : w.heap.size ≤ r) (hgr : g ≠ r) (hgw : w.heap.size ≤ g) (hf1 : Fr (fun _ => False) w w1) (hT : Toks w AT n T)
    (hw3 : Wr w3 g A3 c3 bs) (hf3 : Fr (Ft g none) w1 w3) (hn3 : Nx w1 none A3) : EnvA w (w3.alloc (.cells #[Value.pointer (some ⟨g, 0, none⟩)] 36)) g A3 c3 bs w3.heap.size r AT n T := by
  have hn0 : Newer w g none := fun k hk => by
    rcases hk with hk | hk
    · omega
    · simp [bl] at hk
  have hnr : ¬ Ft g none r := by
    rintro (hk | hk)
    · omega
    · simp [bl] at hk
  have hr3 := hr.fr hf3 hnr
  exact {
    wr := hw3.frA ((Fr.refl (fun _ => False) w3).alloc _) (fun h => h) (fun _ _ h => h)
    nw := hn0.next hn3 hf1.size
    fr := (hn0.fr hf1 hf3).alloc _
    rq := Row.new w3 _ _
    rr := hr3.alloc _
    nq := hw3.new (Nat.le_refl _)
    nr := hn3.old hr.lt hnr
    hr := hrw
    toks := hT }
theorem Gl.top {w : World} (h : Gl w) {g : Nat} {A : Option Addr} (hn : Newer w g A) : ∀ k, Ft g A k → top7 ≤ k := fun k hk => Nat.le_trans h.size (hn k hk)
set_option maxHeartbeats 6400000 in
theorem asFixed_any (AT : Option Addr) (n cT : Nat) (T : List LzM.Tok) (w : World) (hG : Gl w) (hT : Toks w AT n T) (hn100 : n ≤ 100000) (hfit : ∀ t ∈ T, Fits t) :
    Calls Tryd.prog 15 #[.slice AT n cT] w (MadeB w ([true, true, false] ++ DeM.toksBits SyM.fixA SyM.fixB T)) := by
  unfold MadeB
  obtain ⟨w1, hw1⟩ : ∃ w1, w1 = w.alloc (.cells #[Value.pointer none] 36) := ⟨_, rfl⟩
  obtain ⟨r, hr⟩ : ∃ r, r = w.heap.size := ⟨_, rfl⟩
  have hr1 : Row w1 r 36 [Value.pointer none] := by rw [hw1, hr]; exact Row.new w _ _
  have hf1 : Fr (fun _ => False) w w1 := by rw [hw1]; exact (Fr.refl _ w).alloc _
  obtain ⟨w2, hw2⟩ : ∃ w2, w2 = w1.alloc (.cells #[.slice none 0 0, .int .i64 0] 42) := ⟨_, rfl⟩
  obtain ⟨g, hg⟩ : ∃ g, g = r + 1 := ⟨_, rfl⟩
  have hz1 : w1.heap.size = g := by rw [hw1, hg, hr]; simp
  have hr2 : Row w2 r 36 [Value.pointer none] := by rw [hw2]; exact hr1.alloc _
  have hf2 : Fr (fun _ => False) w w2 := by rw [hw2]; exact hf1.alloc _
  have hW2 : Wr w2 g none 0 [] := by rw [hw2, ← hz1]; exact wr_made w1
  have HBE : Hid (Calls Tryd.prog 22 #[.pointer (some ⟨g, 0, none⟩), .int .u64 1, .int .u64 1] w2 fun e w' => e = .returned (.agg #[.pointer (some ⟨g, 0, none⟩)]) ∧ ∃ A' c', EnvA w (w'.alloc (.cells #[Value.pointer (some ⟨g, 0, none⟩)] 36)) g A' c' [true, true, false] w'.heap.size r AT n T) := Lib.hid (by
    refine (begin9_any g 0 none [] 1 1 w2 hW2 (by simp) (by omega) (by omega)).mono ?_
    rintro e w3 ⟨rfl, A3, c3, hw3, hf3, hn3⟩
    rw [List.nil_append, DeM.first_fixed] at hw3
    exact ⟨rfl, A3, c3, EnvA.made hr2 (by omega) (by omega) (by omega) hf2 hT hw3 hf3 hn3⟩)
  have HGL := Lib.hid hG
  have HFIT := Lib.hid hfit
  obtain ⟨a, ha⟩ : ∃ a, a = SyM.fixA := ⟨_, rfl⟩
  obtain ⟨b, hb⟩ : ∃ b, b = SyM.fixB := ⟨_, rfl⟩
  have HRB : Hid (HuffM.rightB (CoM.ints a) = true ∧ (HuffM.rightB (CoM.ints b) = true ∨ ∀ t ∈ T, t.l = 0)) := Lib.hid (by rw [ha, hb]; exact ⟨DeM.fix_right.1, .inl DeM.fix_right.2⟩)
  have HFX : Hid (∀ w, Calls Tryd.prog 28 #[] w fun e w' => ∃ ga gb, e = .returned (.tuple #[.slice (some ⟨ga, 0, none⟩) 288 288, .slice (some ⟨gb, 0, none⟩) 32 32]) ∧ Rd w' (some ⟨ga, 0, none⟩) 288 (a.map natc) ∧ Rd w' (some ⟨gb, 0, none⟩) 32 (b.map natc) ∧ Fr (fun _ => False) w w' ∧ w.heap.size ≤ ga ∧ w.heap.size ≤ gb) := Lib.hid (fun w => by
    have h := fixedN_any w
    rw [SyM.fix_len.1, SyM.fix_len.2, ← ha, ← hb] at h
    exact h)
  rw [← ha, ← hb]
  obtain ⟨bs, hbs⟩ : ∃ bs : List Bool, bs = [true, true, false] := ⟨_, rfl⟩
  have HBS : Hid (bs.length ≤ 3) := Lib.hid (by rw [hbs]; simp)
  rw [← hbs] at HBE ⊢
  obtain ⟨fin, hfin⟩ : ∃ fin, fin = bs ++ DeM.toksBits a b T := ⟨_, rfl⟩
  have HFIN := Lib.hid hfin.symm
  rw [← hfin]
  clear hr1 hf1 hz1 hr2 hf2 hW2 hG hT hfit ha hb hbs hfin
  go_enter Tryd.func15, Tryd.ntmps15
  go_wp2_with fail
  rw [← hw1, ← hw2, ← hr, ← hg]
  refine HBE.out.mono ?_
  rintro e w3 ⟨rfl, A5, c5, he⟩
  obtain ⟨w4, hw4⟩ : ∃ w4, w4 = w3.alloc (.cells #[Value.pointer (some ⟨g, 0, none⟩)] 36) := ⟨_, rfl⟩
  obtain ⟨q, hq⟩ : ∃ q, q = w3.heap.size := ⟨_, rfl⟩
  rw [← hw4, ← hq] at he
  have HE4 := Lib.hid he
  clear he hw1 hw2 hr hg HBE
  go_wp2_with fail
  rw [← hw4, ← hq]
  clear hw4 hq
  refine (HFX.out w4).mono ?_
  rintro e w5 ⟨ga, gb, rfl, h1, h2, hf5, h3, h4⟩
  have HE := Lib.hid (HE4.out.fr0 hf5)
  obtain ⟨A1, hA1⟩ : ∃ A1 : Option Addr, A1 = some ⟨ga, 0, none⟩ := ⟨_, rfl⟩
  obtain ⟨A2, hA2⟩ : ∃ A2 : Option Addr, A2 = some ⟨gb, 0, none⟩ := ⟨_, rfl⟩
  have HAB : Hid (Rd w5 A1 288 (a.map natc) ∧ Rd w5 A2 32 (b.map natc) ∧ (∀ ad, A1 = some ad → ¬ Ft g A5 ad.block) ∧ ∀ ad, A2 = some ad → ¬ Ft g A5 ad.block) := Lib.hid (by
    rw [hA1, hA2]
    exact ⟨h1, h2, fun ad e => by injection e with e; rw [← e]; exact HE4.out.wr.new h3, fun ad e => by injection e with e; rw [← e]; exact HE4.out.wr.new h4⟩)
  clear h1 h2 h3 h4 hf5 HE4
  rw [← hA1, ← hA2]
  clear hA1 hA2
  go_upto_region 3 with fail
  refine wp_region_held_drew (S := fun w' => w'.cell? ⟨q, 0, none⟩ = some (.pointer (some ⟨g, 0, none⟩))) (by kernel_rfl) ?_ (fun hHeld => ?_)
  · exact HE.out.rq.cell rfl
  refine wpAnyH_take (i := 0) (v := ?va0) rfl (by kernel_rfl) (by kernel_rfl) (by kernel_rfl) (fun _ _ _ h => h) (Or.inl ⟨by rfl, ?hya0⟩) hHeld ?resta0
  case hya0 => intro w hSw; (try dsimp only at hSw); go_simp; try (with_reducible rfl)
  (try simp only [Act.put, List.setIfInBounds_toArray, List.set_cons_zero, List.set_cons_succ, List.getElem_toArray, List.getElem_cons_zero])
  refine wpAnyH_take (i := 1) (v := ?va1) rfl (by kernel_rfl) (by kernel_rfl) (by kernel_rfl) (fun _ _ _ h => h) (Or.inl ⟨by rfl, ?hya1⟩) hHeld ?resta1
  case hya1 => intro w hSw; (try dsimp only at hSw); go_simp; try (with_reducible rfl)
  (try simp only [Act.put, List.setIfInBounds_toArray, List.set_cons_zero, List.set_cons_succ, List.getElem_toArray, List.getElem_cons_zero, List.getElem_cons_succ])
  refine wpAnyH_take (i := 2) (v := ?va2) rfl (by kernel_rfl) (by kernel_rfl) (by kernel_rfl) (fun _ _ _ h => h) (Or.inl ⟨by rfl, ?hya2⟩) hHeld ?resta2
  case hya2 => intro w hSw; (try dsimp only at hSw); go_simp; try (with_reducible rfl)
  (try simp only [Act.put, List.setIfInBounds_toArray, List.set_cons_zero, List.set_cons_succ, List.getElem_toArray, List.getElem_cons_zero, List.getElem_cons_succ])
  refine wpAnyH_take (i := 4) (v := ?va4) rfl (by kernel_rfl) (by kernel_rfl) (by kernel_rfl) (fun _ _ _ h => h) (Or.inl ⟨by rfl, ?hya4⟩) hHeld ?resta4
  case hya4 => intro w hSw; (try dsimp only at hSw); go_simp; try (with_reducible rfl)
  (try simp only [Act.put, List.setIfInBounds_toArray, List.set_cons_zero, List.set_cons_succ, List.getElem_toArray, List.getElem_cons_zero, List.getElem_cons_succ])
  refine wpAnyH_ready (rs := [3]) (by kernel_rfl) (by simp) ?_
  refine AllReadyH.cons rfl (fun Kx hKx => ?_) AllReadyH.nil
  go_simp
  obtain ⟨xs, hl1, hs1, hc1, hk1⟩ := codingOf_any A1 288 288 (CoM.ints a) w5.drew (by rw [natc_ints]; exact HAB.out.1.fr (Fr.refl (fun _ => False) w5).drew (fun _ _ h => h)) (by omega) (fun ad e => Nat.lt_of_lt_of_le (HAB.out.1.lt (by omega) ad e) (Fr.refl (fun _ => False) w5).drew.size)
  refine hk1.mono ?_
  rintro e wx ⟨AX, cX, rfl, hr1, hf1, hb1⟩
  have HFx := Lib.hid ((Fr.refl (fun _ => False) w5).drew.trans hf1 (fun _ _ h => h))
  have HEx := Lib.hid (HE.out.fr0 HFx.out)
  have HK1 : Hid (Rd wx AX 288 (xs.map numc) ∧ (∀ x ∈ xs, x < 18446744073709551616) ∧ (HuffM.rightB (CoM.ints a) = true → xs = HuffM.codesL (CoM.ints a)) ∧ (∀ ad, AX = some ad → w5.heap.size ≤ ad.block)) := Lib.hid ⟨hr1, hs1, hc1, fun ad e => hb1 ad e⟩
  clear hl1 hs1 hc1 hk1 hr1 hf1 hb1
  refine hKx.out _ _ ?_ (fun hHeld => ?_)
  · exact HEx.out.rq.cell rfl
  clear hKx Kx
  (try simp only [Act.put, List.setIfInBounds_toArray, List.set_cons_zero, List.set_cons_succ, List.getElem_toArray, List.getElem_cons_zero, List.getElem_cons_succ])
  refine wpAnyH_ready (rs := [5]) (by kernel_rfl) (by simp) ?_
  refine AllReadyH.cons rfl (fun Kx hKx => ?_) AllReadyH.nil
  go_simp
  obtain ⟨ys, hl2, hs2, hc2, hk2⟩ := codingOf_any A2 32 32 (CoM.ints b) wx (by rw [natc_ints]; exact HAB.out.2.1.fr HFx.out (fun _ _ h => h)) (by omega) (fun ad e => Nat.lt_of_lt_of_le (HAB.out.2.1.lt (by omega) ad e) HFx.out.size)
  refine hk2.mono ?_
  rintro e wy ⟨AY, cY, rfl, hr2, hf2, hb2⟩
  have HFy := Lib.hid (HFx.out.trans hf2 (fun _ _ h => h))
  have HEy := Lib.hid (HE.out.fr0 HFy.out)
  have HK2 : Hid (Rd wy AY 32 (ys.map numc) ∧ (∀ x ∈ ys, x < 18446744073709551616) ∧ (HuffM.rightB (CoM.ints b) = true → ys = HuffM.codesL (CoM.ints b)) ∧ (∀ ad, AY = some ad → w5.heap.size ≤ ad.block)) := Lib.hid ⟨hr2, hs2, hc2, fun ad e => Nat.le_trans HFx.out.size (hb2 ad e)⟩
  have HJ1 : Hid (Rd wy AX 288 (xs.map numc)) := Lib.hid (HK1.out.1.fr hf2 (fun _ _ h => h))
  clear hl2 hs2 hc2 hk2 hr2 hf2 hb2
  refine hKx.out _ _ ?_ (fun hHeld => ?_)
  · exact HEy.out.rq.cell rfl
  clear hKx Kx
  (try simp only [Act.put, List.setIfInBounds_toArray, List.set_cons_zero, List.set_cons_succ, List.getElem_toArray, List.getElem_cons_zero, List.getElem_cons_succ])
  refine wpAnyH_ready (rs := [6]) (by kernel_rfl) (by simp) ?_
  refine AllReadyH.cons rfl (fun Kx hKx => ?_) AllReadyH.nil
  go_simp
  refine (tell9_any g c5 A5 AT A1 AX A2 AY n cT 288 288 cX 32 32 cY T a xs b ys bs wy (HGL.out.fr0 HEy.out.fr) (HGL.out.top HEy.out.nw) HEy.out.wr (by have := HBS.out; omega) (HEy.out.toks.fr HEy.out.fr (fun _ _ h => h)) HEy.out.apart hn100 HFIT.out (HAB.out.1.fr HFy.out (fun _ _ h => h)) HJ1.out (HAB.out.2.1.fr HFy.out (fun _ _ h => h)) HK2.out.1
    (fun ad e => ⟨HAB.out.2.2.1 ad e, Nat.lt_of_lt_of_le (HAB.out.1.lt (by omega) ad e) HFy.out.size⟩) (fun ad e => ⟨HE.out.wr.new (HK1.out.2.2.2 ad e), Rd.lt HJ1.out (by omega) ad e⟩) (fun ad e => ⟨HAB.out.2.2.2 ad e, Nat.lt_of_lt_of_le (HAB.out.2.1.lt (by omega) ad e) HFy.out.size⟩) (fun ad e => ⟨HE.out.wr.new (HK2.out.2.2.2 ad e), Rd.lt HK2.out.1 (by omega) ad e⟩) (by omega) (by omega) HK1.out.2.1 HK2.out.2.1).mono ?_
  rintro e w6 ⟨rfl, A6, c6, hw6, hf6, hn6⟩
  rw [List.append_assoc, DeM.toks_as HK1.out.2.2.1 HK2.out.2.2.1 HRB.out.1 HRB.out.2] at hw6
  have HE6 := Lib.hid (HEy.out.next hw6 hf6 hn6)
  clear hw6 hf6 hn6
  refine hKx.out _ _ ?_ (fun hHeld => ?_)
  · exact HE6.out.rq.cell rfl
  clear hKx Kx
  (try simp only [Act.put, List.setIfInBounds_toArray, List.set_cons_zero, List.set_cons_succ, List.getElem_toArray, List.getElem_cons_zero, List.getElem_cons_succ])
  refine wpAnyH_done (by kernel_rfl) ?_ _
  have cq := HE6.out.rq.cell (i := 0) rfl
  have cr := HE6.out.rr.cell (i := 0) rfl
  have fr0 := HE6.out.rr.free 0
  go_wp2_with fail
  have hr7 := HE6.out.rr.set 0 (.pointer (some ⟨g, 0, none⟩))
  have hf7 := Fr.set1 w6 r 0 (.pointer (some ⟨g, 0, none⟩))
  obtain ⟨w7, hw7⟩ : ∃ w7, w7 = w6.setCell ⟨r, 0, none⟩ (.pointer (some ⟨g, 0, none⟩)) := ⟨_, rfl⟩
  rw [← hw7] at hr7 hf7 ⊢
  have d0 : w7.cell? ⟨r, 0, none⟩ = some (.pointer (some ⟨g, 0, none⟩)) := hr7.cell rfl
  have HW7 := Lib.hid (HE6.out.wr.frA hf7 (fun h => HE6.out.nr (.inl h.symm)) (fun k hk h => HE6.out.nr (.inr (by rw [hk, h]))))
  have HF7 := Lib.hid (HE6.out.fr.trans hf7 (fun b hb h => by have := HE6.out.hr; omega))
  clear hr7 hf7 hw7 cq cr fr0
  exact bodyPost_ret (v := .agg #[.pointer (some ⟨g, 0, none⟩)]) (by simp [results, Tryd.results15, go_sem, d0]) rfl ⟨g, A6, c6, rfl, by rw [← HFIN.out]; exact HW7.out, HE6.out.nw, HF7.out⟩
set_option maxHeartbeats 6400000 in
theorem asDynamic_any (AT : Option Addr) (n cT : Nat) (T : List LzM.Tok) (w : World) (hG : Gl w) (hG8 : Gl8 w) (hT : Toks w AT n T) (hn100 : n ≤ 100000) (hfit : ∀ t ∈ T, Fits t) :
    Calls Tryd.prog 16 #[.slice AT n cT] w (MadeB w ([true, false, true] ++ CoM.putBits (CoM.trimL (DeM.dynX T) 257) (CoM.trimL (DeM.dynY T) 1) ++ DeM.toksBits (DeM.dynX T) (DeM.dynY T) T)) := by
  unfold MadeB
  obtain ⟨w1, hw1⟩ : ∃ w1, w1 = w.alloc (.cells #[Value.pointer none] 36) := ⟨_, rfl⟩
  obtain ⟨r, hr⟩ : ∃ r, r = w.heap.size := ⟨_, rfl⟩
  have hr1 : Row w1 r 36 [Value.pointer none] := by rw [hw1, hr]; exact Row.new w _ _
  have hf1 : Fr (fun _ => False) w w1 := by rw [hw1]; exact (Fr.refl _ w).alloc _
  obtain ⟨w2, hw2⟩ : ∃ w2, w2 = w1.alloc (.cells #[.slice none 0 0, .int .i64 0] 42) := ⟨_, rfl⟩
  obtain ⟨g, hg⟩ : ∃ g, g = r + 1 := ⟨_, rfl⟩
  have hz1 : w1.heap.size = g := by rw [hw1, hg, hr]; simp
  have hr2 : Row w2 r 36 [Value.pointer none] := by rw [hw2]; exact hr1.alloc _
  have hf2 : Fr (fun _ => False) w w2 := by rw [hw2]; exact hf1.alloc _
  have hW2 : Wr w2 g none 0 [] := by rw [hw2, ← hz1]; exact wr_made w1
  have HBE : Hid (Calls Tryd.prog 22 #[.pointer (some ⟨g, 0, none⟩), .int .u64 1, .int .u64 2] w2 fun e w' => e = .returned (.agg #[.pointer (some ⟨g, 0, none⟩)]) ∧ ∃ A' c', EnvA w (w'.alloc (.cells #[Value.pointer (some ⟨g, 0, none⟩)] 36)) g A' c' [true, false, true] w'.heap.size r AT n T) := Lib.hid (by
    refine (begin9_any g 0 none [] 1 2 w2 hW2 (by simp) (by omega) (by omega)).mono ?_
    rintro e w3 ⟨rfl, A3, c3, hw3, hf3, hn3⟩
    rw [List.nil_append, DeM.first_dyn] at hw3
    exact ⟨rfl, A3, c3, EnvA.made hr2 (by omega) (by omega) (by omega) hf2 hT hw3 hf3 hn3⟩)
  have HGL := Lib.hid hG
  have HFIT := Lib.hid hfit
  have HG8 := Lib.hid hG8
  obtain ⟨dl1, dl2, dl3, dl4, dl5, dl6⟩ := dyn_is T
  obtain ⟨dw1, dw2⟩ := weigh_le T SyM.start 1 start_le.1 start_le.2
  have hwl := SyM.weigh_length T SyM.start
  rw [start_len.1, start_len.2] at hwl
  have hpl := dyn_put T
  have hRB1 := DeM.dynX_right T dl5
  have hRB2 := DeM.dynY_right T dl6
  have hTl : T.length = n := hT.1
  have HWE : Hid (∀ w', Fr (fun _ => False) w w' → Calls Tryd.prog 31 #[.slice AT n cT] w' fun e w'' => ∃ ga gb, e = .returned (.tuple #[.slice (some ⟨ga, 0, none⟩) 286 286, .slice (some ⟨gb, 0, none⟩) 30 30]) ∧ Rd w'' (some ⟨ga, 0, none⟩) 286 ((SyM.weigh T SyM.start).1.map natc) ∧ Rd w'' (some ⟨gb, 0, none⟩) 30 ((SyM.weigh T SyM.start).2.map natc) ∧ Fr (fun _ => False) w' w'') := Lib.hid (fun w' hf => by
    refine (pWeights_any AT n cT T w' (HGL.out.fr0 hf) (hT.fr hf (fun _ _ h => h)) (by omega) hfit).mono ?_
    rintro e w'' ⟨ga, gb, rfl, h1, h2, h3⟩
    have h1 := h1.rd
    have h2 := h2.rd
    rw [hwl.1] at h1
    rw [hwl.2] at h2
    exact ⟨ga, gb, rfl, h1, h2, h3⟩)
  obtain ⟨U, hU⟩ : ∃ U, U = (SyM.weigh T SyM.start).1 := ⟨_, rfl⟩
  obtain ⟨V, hV⟩ : ∃ V, V = (SyM.weigh T SyM.start).2 := ⟨_, rfl⟩
  obtain ⟨a, ha⟩ : ∃ a, a = DeM.dynX T := ⟨_, rfl⟩
  obtain ⟨b, hb⟩ : ∃ b, b = DeM.dynY T := ⟨_, rfl⟩
  have haU : HuffM.lens 15 U = a := by rw [ha, hU]; rfl
  have hbV : HuffM.lens 15 V = b := by rw [hb, hV]; rfl
  rw [← ha, ← hb] at hpl ⊢
  rw [← ha] at dl1 dl3 hRB1
  rw [← hb] at dl2 dl4 hRB2
  rw [← hU] at dl5 dw1 HWE
  rw [← hV] at dl6 dw2 HWE
  have HRB : Hid (HuffM.rightB (CoM.ints a) = true ∧ (HuffM.rightB (CoM.ints b) = true ∨ ∀ t ∈ T, t.l = 0)) := Lib.hid ⟨hRB1, hRB2⟩
  have HLU : Hid (∀ (A : Option Addr) w', Rd w' A 286 (U.map natc) → Calls Tryd.prog 32 #[.int .i64 15, .slice A 286 286] w' fun e w'' => ∃ A' c', e = .returned (.slice A' 286 c') ∧ 286 ≤ c' ∧ Rd w'' A' 286 (a.map natc) ∧ Fr (fun _ => False) w' w'' ∧ (∀ ad, A' = some ad → ad.block < w''.heap.size) ∧ ∀ ad, A' = some ad → w'.heap.size ≤ ad.block) := Lib.hid (fun A w' h => by
    have := pLengthsN_any A 286 286 15 U w' h (by omega) (by omega) (fun ad e => h.lt (by omega) ad e) (fun x hx => by have := dw1 x hx; omega) (by omega) (by omega) dl5
    rw [haU] at this
    exact this)
  have HLV : Hid (∀ (A : Option Addr) w', Rd w' A 30 (V.map natc) → Calls Tryd.prog 32 #[.int .i64 15, .slice A 30 30] w' fun e w'' => ∃ A' c', e = .returned (.slice A' 30 c') ∧ 30 ≤ c' ∧ Rd w'' A' 30 (b.map natc) ∧ Fr (fun _ => False) w' w'' ∧ (∀ ad, A' = some ad → ad.block < w''.heap.size) ∧ ∀ ad, A' = some ad → w'.heap.size ≤ ad.block) := Lib.hid (fun A w' h => by
    have := pLengthsN_any A 30 30 15 V w' h (by omega) (by omega) (fun ad e => h.lt (by omega) ad e) (fun x hx => by have := dw2 x hx; omega) (by omega) (by omega) dl6
    rw [hbV] at this
    exact this)
  have HD : Hid ((∀ x ∈ a, x ≤ 15) ∧ ∀ x ∈ b, x ≤ 15) := Lib.hid ⟨dl3, dl4⟩
  obtain ⟨bs0, hbs0⟩ : ∃ bs : List Bool, bs = [true, false, true] := ⟨_, rfl⟩
  rw [← hbs0] at HBE ⊢
  obtain ⟨bs, hbs⟩ : ∃ bs : List Bool, bs = bs0 ++ CoM.putBits (CoM.trimL a 257) (CoM.trimL b 1) := ⟨_, rfl⟩
  have HBS0 : Hid (bs0.length ≤ 3) := Lib.hid (by rw [hbs0]; simp)
  have HBS : Hid (bs.length ≤ 5003) := Lib.hid (by rw [hbs, List.length_append]; have := HBS0.out; omega)
  have HBQ := Lib.hid hbs.symm
  rw [← hbs]
  obtain ⟨fin, hfin⟩ : ∃ fin, fin = bs ++ DeM.toksBits a b T := ⟨_, rfl⟩
  have HFIN := Lib.hid hfin.symm
  rw [← hfin]
  clear hr1 hf1 hz1 hr2 hf2 hW2 hG hG8 hT hfit ha hb hbs hbs0 hfin hU hV haU hbV dl1 dl2 dl3 dl4 dl5 dl6 dw1 dw2 hwl hpl hRB1 hRB2 hTl
  go_enter Tryd.func16, Tryd.ntmps16
  go_wp2_with fail
  rw [← hw1, ← hw2, ← hr, ← hg]
  refine HBE.out.mono ?_
  rintro e w3 ⟨rfl, A4, c4, he⟩
  obtain ⟨w4, hw4⟩ : ∃ w4, w4 = w3.alloc (.cells #[Value.pointer (some ⟨g, 0, none⟩)] 36) := ⟨_, rfl⟩
  obtain ⟨q, hq⟩ : ∃ q, q = w3.heap.size := ⟨_, rfl⟩
  rw [← hw4, ← hq] at he
  have HE4 := Lib.hid he
  clear he hw1 hw2 hr hg HBE
  go_wp2_with fail
  rw [← hw4, ← hq]
  clear hw4 hq
  refine (HWE.out w4 HE4.out.fr).mono ?_
  rintro e wa ⟨ga, gb, rfl, h1, h2, hfa⟩
  have HEa := Lib.hid (HE4.out.fr0 hfa)
  have HUV : Hid (Rd wa (some ⟨ga, 0, none⟩) 286 (U.map natc) ∧ Rd wa (some ⟨gb, 0, none⟩) 30 (V.map natc)) := Lib.hid ⟨h1, h2⟩
  clear h1 h2 hfa HWE
  go_wp2_with fail
  refine (HLU.out _ wa HUV.out.1).mono ?_
  rintro e wb ⟨A1, c1, rfl, hc1, h1, hfb, h2, h3⟩
  have HEb := Lib.hid (HEa.out.fr0 hfb)
  have HX1 : Hid (Rd wb A1 286 (a.map natc) ∧ ∀ ad, A1 = some ad → ¬ Ft g A4 ad.block) := Lib.hid ⟨h1, fun ad e => HEa.out.wr.new (h3 ad e)⟩
  have HV2 := Lib.hid (HUV.out.2.fr hfb (fun _ _ h => h))
  have HC1 := Lib.hid hc1
  clear h1 h2 h3 hfb hc1
  go_wp2_with fail
  refine (HLV.out _ wb HV2.out).mono ?_
  rintro e wc ⟨A2, c2, rfl, hc2, h1, hfc, h2, h3⟩
  have HEc := Lib.hid (HEb.out.fr0 hfc)
  have HX2 : Hid (Rd wc A2 30 (b.map natc) ∧ ∀ ad, A2 = some ad → ¬ Ft g A4 ad.block) := Lib.hid ⟨h1, fun ad e => HEb.out.wr.new (h3 ad e)⟩
  have HX3 := Lib.hid (HX1.out.1.fr hfc (fun _ _ h => h))
  have HLT1 : Hid (∀ ad, A1 = some ad → ad.block < wc.heap.size) := Lib.hid (fun ad e => HX3.out.lt (by omega) ad e)
  have HLT2 : Hid (∀ ad, A2 = some ad → ad.block < wc.heap.size) := Lib.hid (fun ad e => HX2.out.1.lt (by omega) ad e)
  have cq := HEc.out.rq.cell (i := 0) rfl
  have HPU := Lib.hid (pPut8_any g c4 A4 bs0 A1 A2 286 c1 30 c2 a b wc (HG8.out.fr0 HEc.out.fr) HEc.out.wr (by have := HBS0.out; omega) HX3.out HX2.out.1 HC1.out hc2 (by omega) (by omega) (by omega) (by omega) HD.out.1 HD.out.2 HX1.out.2 HX2.out.2)
  clear h1 h2 h3 hfc hc2
  go_wp2_with fail
  refine HPU.out.mono ?_
  rintro e w5 ⟨A5, c5, rfl, hw5, hf5, hn5⟩
  rw [HBQ.out] at hw5
  have HE := Lib.hid (HEc.out.next hw5 hf5 hn5)
  have HAB : Hid (Rd w5 A1 286 (a.map natc) ∧ Rd w5 A2 30 (b.map natc) ∧ (∀ ad, A1 = some ad → ¬ Ft g A5 ad.block) ∧ ∀ ad, A2 = some ad → ¬ Ft g A5 ad.block) := Lib.hid
    ⟨HX3.out.fr hf5 (fun ad e => HX1.out.2 ad e), HX2.out.1.fr hf5 (fun ad e => HX2.out.2 ad e), fun ad e => hn5.old (HLT1.out ad e) (HX1.out.2 ad e), fun ad e => hn5.old (HLT2.out ad e) (HX2.out.2 ad e)⟩
  clear hw5 hf5 hn5 HPU cq
  go_upto_region 5 with fail
  refine wp_region_held_drew (S := fun w' => w'.cell? ⟨q, 0, none⟩ = some (.pointer (some ⟨g, 0, none⟩))) (by kernel_rfl) ?_ (fun hHeld => ?_)
  · exact HE.out.rq.cell rfl
  refine wpAnyH_take (i := 0) (v := ?vb0) rfl (by kernel_rfl) (by kernel_rfl) (by kernel_rfl) (fun _ _ _ h => h) (Or.inl ⟨by rfl, ?hyb0⟩) hHeld ?restb0
  case hyb0 => intro w hSw; (try dsimp only at hSw); go_simp; try (with_reducible rfl)
  (try simp only [Act.put, List.setIfInBounds_toArray, List.set_cons_zero, List.set_cons_succ, List.getElem_toArray, List.getElem_cons_zero])
  refine wpAnyH_take (i := 1) (v := ?vb1) rfl (by kernel_rfl) (by kernel_rfl) (by kernel_rfl) (fun _ _ _ h => h) (Or.inl ⟨by rfl, ?hyb1⟩) hHeld ?restb1
  case hyb1 => intro w hSw; (try dsimp only at hSw); go_simp; try (with_reducible rfl)
  (try simp only [Act.put, List.setIfInBounds_toArray, List.set_cons_zero, List.set_cons_succ, List.getElem_toArray, List.getElem_cons_zero, List.getElem_cons_succ])
  refine wpAnyH_take (i := 2) (v := ?vb2) rfl (by kernel_rfl) (by kernel_rfl) (by kernel_rfl) (fun _ _ _ h => h) (Or.inl ⟨by rfl, ?hyb2⟩) hHeld ?restb2
  case hyb2 => intro w hSw; (try dsimp only at hSw); go_simp; try (with_reducible rfl)
  (try simp only [Act.put, List.setIfInBounds_toArray, List.set_cons_zero, List.set_cons_succ, List.getElem_toArray, List.getElem_cons_zero, List.getElem_cons_succ])
  refine wpAnyH_take (i := 4) (v := ?vb4) rfl (by kernel_rfl) (by kernel_rfl) (by kernel_rfl) (fun _ _ _ h => h) (Or.inl ⟨by rfl, ?hyb4⟩) hHeld ?restb4
  case hyb4 => intro w hSw; (try dsimp only at hSw); go_simp; try (with_reducible rfl)
  (try simp only [Act.put, List.setIfInBounds_toArray, List.set_cons_zero, List.set_cons_succ, List.getElem_toArray, List.getElem_cons_zero, List.getElem_cons_succ])
  refine wpAnyH_ready (rs := [3]) (by kernel_rfl) (by simp) ?_
  refine AllReadyH.cons rfl (fun Kx hKx => ?_) AllReadyH.nil
  go_simp
  obtain ⟨xs, hl1, hs1, hc1, hk1⟩ := codingOf_any A1 286 c1 (CoM.ints a) w5.drew (by rw [natc_ints]; exact HAB.out.1.fr (Fr.refl (fun _ => False) w5).drew (fun _ _ h => h)) (by omega) (fun ad e => Nat.lt_of_lt_of_le (HAB.out.1.lt (by omega) ad e) (Fr.refl (fun _ => False) w5).drew.size)
  refine hk1.mono ?_
  rintro e wx ⟨AX, cX, rfl, hr1, hf1, hb1⟩
  have HFx := Lib.hid ((Fr.refl (fun _ => False) w5).drew.trans hf1 (fun _ _ h => h))
  have HEx := Lib.hid (HE.out.fr0 HFx.out)
  have HK1 : Hid (Rd wx AX 286 (xs.map numc) ∧ (∀ x ∈ xs, x < 18446744073709551616) ∧ (HuffM.rightB (CoM.ints a) = true → xs = HuffM.codesL (CoM.ints a)) ∧ (∀ ad, AX = some ad → w5.heap.size ≤ ad.block)) := Lib.hid ⟨hr1, hs1, hc1, fun ad e => hb1 ad e⟩
  clear hl1 hs1 hc1 hk1 hr1 hf1 hb1
  refine hKx.out _ _ ?_ (fun hHeld => ?_)
  · exact HEx.out.rq.cell rfl
  clear hKx Kx
  (try simp only [Act.put, List.setIfInBounds_toArray, List.set_cons_zero, List.set_cons_succ, List.getElem_toArray, List.getElem_cons_zero, List.getElem_cons_succ])
  refine wpAnyH_ready (rs := [5]) (by kernel_rfl) (by simp) ?_
  refine AllReadyH.cons rfl (fun Kx hKx => ?_) AllReadyH.nil
  go_simp
  obtain ⟨ys, hl2, hs2, hc2, hk2⟩ := codingOf_any A2 30 c2 (CoM.ints b) wx (by rw [natc_ints]; exact HAB.out.2.1.fr HFx.out (fun _ _ h => h)) (by omega) (fun ad e => Nat.lt_of_lt_of_le (HAB.out.2.1.lt (by omega) ad e) HFx.out.size)
  refine hk2.mono ?_
  rintro e wy ⟨AY, cY, rfl, hr2, hf2, hb2⟩
  have HFy := Lib.hid (HFx.out.trans hf2 (fun _ _ h => h))
  have HEy := Lib.hid (HE.out.fr0 HFy.out)
  have HK2 : Hid (Rd wy AY 30 (ys.map numc) ∧ (∀ x ∈ ys, x < 18446744073709551616) ∧ (HuffM.rightB (CoM.ints b) = true → ys = HuffM.codesL (CoM.ints b)) ∧ (∀ ad, AY = some ad → w5.heap.size ≤ ad.block)) := Lib.hid ⟨hr2, hs2, hc2, fun ad e => Nat.le_trans HFx.out.size (hb2 ad e)⟩
  have HJ1 : Hid (Rd wy AX 286 (xs.map numc)) := Lib.hid (HK1.out.1.fr hf2 (fun _ _ h => h))
  clear hl2 hs2 hc2 hk2 hr2 hf2 hb2
  refine hKx.out _ _ ?_ (fun hHeld => ?_)
  · exact HEy.out.rq.cell rfl
  clear hKx Kx
  (try simp only [Act.put, List.setIfInBounds_toArray, List.set_cons_zero, List.set_cons_succ, List.getElem_toArray, List.getElem_cons_zero, List.getElem_cons_succ])
  refine wpAnyH_ready (rs := [6]) (by kernel_rfl) (by simp) ?_
  refine AllReadyH.cons rfl (fun Kx hKx => ?_) AllReadyH.nil
  go_simp
  refine (tell9_any g c5 A5 AT A1 AX A2 AY n cT 286 c1 cX 30 c2 cY T a xs b ys bs wy (HGL.out.fr0 HEy.out.fr) (HGL.out.top HEy.out.nw) HEy.out.wr (by have := HBS.out; omega) (HEy.out.toks.fr HEy.out.fr (fun _ _ h => h)) HEy.out.apart hn100 HFIT.out (HAB.out.1.fr HFy.out (fun _ _ h => h)) HJ1.out (HAB.out.2.1.fr HFy.out (fun _ _ h => h)) HK2.out.1
    (fun ad e => ⟨HAB.out.2.2.1 ad e, Nat.lt_of_lt_of_le (HAB.out.1.lt (by omega) ad e) HFy.out.size⟩) (fun ad e => ⟨HE.out.wr.new (HK1.out.2.2.2 ad e), Rd.lt HJ1.out (by omega) ad e⟩) (fun ad e => ⟨HAB.out.2.2.2 ad e, Nat.lt_of_lt_of_le (HAB.out.2.1.lt (by omega) ad e) HFy.out.size⟩) (fun ad e => ⟨HE.out.wr.new (HK2.out.2.2.2 ad e), Rd.lt HK2.out.1 (by omega) ad e⟩) (by omega) (by omega) HK1.out.2.1 HK2.out.2.1).mono ?_
  rintro e w6 ⟨rfl, A6, c6, hw6, hf6, hn6⟩
  rw [List.append_assoc, DeM.toks_as HK1.out.2.2.1 HK2.out.2.2.1 HRB.out.1 HRB.out.2] at hw6
  have HE6 := Lib.hid (HEy.out.next hw6 hf6 hn6)
  clear hw6 hf6 hn6
  refine hKx.out _ _ ?_ (fun hHeld => ?_)
  · exact HE6.out.rq.cell rfl
  clear hKx Kx
  (try simp only [Act.put, List.setIfInBounds_toArray, List.set_cons_zero, List.set_cons_succ, List.getElem_toArray, List.getElem_cons_zero, List.getElem_cons_succ])
  refine wpAnyH_done (by kernel_rfl) ?_ _
  have cq := HE6.out.rq.cell (i := 0) rfl
  have cr := HE6.out.rr.cell (i := 0) rfl
  have fr0 := HE6.out.rr.free 0
  go_wp2_with fail
  have hr7 := HE6.out.rr.set 0 (.pointer (some ⟨g, 0, none⟩))
  have hf7 := Fr.set1 w6 r 0 (.pointer (some ⟨g, 0, none⟩))
  obtain ⟨w7, hw7⟩ : ∃ w7, w7 = w6.setCell ⟨r, 0, none⟩ (.pointer (some ⟨g, 0, none⟩)) := ⟨_, rfl⟩
  rw [← hw7] at hr7 hf7 ⊢
  have d0 : w7.cell? ⟨r, 0, none⟩ = some (.pointer (some ⟨g, 0, none⟩)) := hr7.cell rfl
  have HW7 := Lib.hid (HE6.out.wr.frA hf7 (fun h => HE6.out.nr (.inl h.symm)) (fun k hk h => HE6.out.nr (.inr (by rw [hk, h]))))
  have HF7 := Lib.hid (HE6.out.fr.trans hf7 (fun b hb h => by have := HE6.out.hr; omega))
  clear hr7 hf7 hw7 cq cr fr0
  exact bodyPost_ret (v := .agg #[.pointer (some ⟨g, 0, none⟩)]) (by simp [results, Tryd.results16, go_sem, d0]) rfl ⟨g, A6, c6, rfl, by rw [← HFIN.out]; exact HW7.out, HE6.out.nw, HF7.out⟩
end Go.Proofs.YtahfmcdhcbfkaaaDoor
namespace Go.Proofs.YtahfmcdhcbfkaaaDoor
open Go.RowKit LzM LzN Mem Go.Lib Go.Maps Go.WideElems

/-- three bytes as an array, as a key's reading -/
def kc (k : Key) : Array Value := #[bytec k.1, bytec k.2.1, bytec k.2.2]
def kv (k : Key) : Value := .agg (kc k)
def klit (k : Key) : Lit := .string [k.1, k.2.1, k.2.2]
theorem klit_inj {k k' : Key} : klit k = klit k' ↔ k = k' := by
  obtain ⟨a, b, c⟩ := k
  obtain ⟨a', b', c'⟩ := k'
  simp [klit]
theorem cells51 : Tryd.prog.cellsOf 76 = 3 := by kernel_rfl
theorem cells5 : Tryd.prog.cellsOf 5 = 1 := by kernel_rfl
theorem key51 : Tryd.prog.keyType 76 = true := by kernel_rfl
theorem byte_lit (b : UInt8) : (Lit.int .u8 (b.toNat : Int)).wf = true := by
  have h := b.toNat_lt
  simp [Lit.wf, IntKind.min, IntKind.max, IntKind.signed, IntKind.bits]
  omega
theorem byte_key (b : UInt8) : Lit.keyBytes (.int .u8 (b.toNat : Int)) = [b] := by
  have h := b.toNat_lt
  have e : ((b.toNat : Int) % 256).toNat = b.toNat := by omega
  simp [Lit.keyBytes, bytesBE, bytesLE, IntKind.bits, e]
theorem types51 : ∃ d, Tryd.prog.types.size = d + 1 := ⟨Tryd.prog.types.size - 1, by kernel_rfl⟩
theorem lits5 (d : Nat) (b : UInt8) : Tryd.prog.keyLits (d + 1) 5 [bytec b] = some [.int .u8 (b.toNat : Int)] := by
  simp [Program.keyLits, Tryd.underlying5, bytec, byte_lit]
theorem kl_is (k : Key) : keyOf Tryd.prog 76 (kv k) = some (klit k) := by
  obtain ⟨a, b, c⟩ := k
  obtain ⟨d, hd⟩ := types51
  have hf : (kv (a, b, c)).formed Tryd.prog 76 = true := by simp [Value.formed, kv, kc, Tryd.underlying76, cells51]
  have hl : Tryd.prog.keyLits (d + 1 + 1) 76 [bytec a, bytec b, bytec c] = some [.int .u8 (a.toNat : Int), .int .u8 (b.toNat : Int), .int .u8 (c.toNat : Int)] := by
    unfold Program.keyLits
    simp [Tryd.underlying76, cells51, cells5, lits5, List.range, List.range.loop]
  have hc : (kv (a, b, c)).cells.toList = [bytec a, bytec b, bytec c] := rfl
  unfold keyOf
  rw [Tryd.underlying76, key51, hf, hd, hc, hl]
  simp [keyBytes, byte_key, klit]
theorem keyed51 : Keyed Tryd.prog 76 := Keyed.of_law (deep_law_laid laid_out (m := 2) (by omega) (of_decide_eq_true (by kernel_rfl)) (by kernel_rfl) (by rw [Tryd.underlying76]))
theorem zero3 (w : World) : (zeroValue 3).run Tryd.prog w = .ok (.int .i64 0) w := by kernel_rfl

/-- block m is a map of at most n entries: these keys, at these places -/
def Mp (w : World) (m n : Nat) (f : Key → Option Nat) : Prop :=
  ∃ D : DataW Unit, w.ownsMap Tryd.prog 76 (plainElem Tryd.prog 3) m n D ∧ ∀ k, Maps.has D (klit k) = (f k).isSome ∧ ∀ q, f k = some q → D.atKey (klit k) (.lit (.int .i64 0)) = .lit (.int .i64 (q : Int))
def lookI : Option Nat → Int
  | some q => (q : Int)
  | none => 0
set_option maxRecDepth 100000 in
theorem Mp.look {w : World} {m n : Nat} {f : Key → Option Nat} (h : Mp w m n f) (k : Key) :
    (Instr.lookup 72 (.map (some m)) (kv k) true).run Tryd.prog w = .ok (.tuple #[.int .i64 (lookI (f k)), .bool (f k).isSome]) w := by
  obtain ⟨D, ho, hD⟩ := h
  obtain ⟨v, ps, hrun, hv⟩ := ho.look_ok keyed51 Tryd.underlying72 (zero3 w) (plainElem_int Tryd.underlying3 (a := 0) (by decide)) (kl_is k)
  obtain ⟨c, rfl, hc, hwc⟩ := plainElem_int_inv Tryd.underlying3 hv
  simp only [Prod.mk.injEq] at hc
  obtain ⟨h1, h2⟩ := hD k
  rw [hrun, h1]
  cases hk : f k with
  | none =>
    rw [hk] at h1
    have := hc.1
    rw [Maps.atKey_of_not_has h1] at this
    injection this with this
    injection this with _ this
    rw [← this]
    rfl
  | some q =>
    have := hc.1
    rw [h2 q hk] at this
    injection this with this
    injection this with _ this
    rw [← this]
    rfl
set_option maxRecDepth 100000 in
theorem Mp.put {w : World} {m n : Nat} {f : Key → Option Nat} (h : Mp w m n f) (hn : n < maxLen) (k : Key) (a : Nat) (ha : a ≤ maxLen) :
    ∃ w', (Instr.mapUpdate 72 (.map (some m)) (kv k) (.int .i64 (a : Int))).run Tryd.prog w = .ok () w' ∧ Mp w' m (n + 1) (fun k' => if k = k' then some a else f k') ∧ Fr (fun b => b = m) w w' := by
  obtain ⟨D, ho, hD⟩ := h
  have hwf : (Lit.int .i64 (a : Int)).wf = true := WalkArith.wf_i64 (by unfold maxLen at ha; omega)
  obtain ⟨w', hrun, ho', hg⟩ := ho.update keyed51 Tryd.underlying72 hn (kl_is k) (plainElem_int Tryd.underlying3 hwf)
  refine ⟨w', hrun, ⟨_, ho', fun k' => ?_⟩, (Fr.of_grown hg).mono (fun b _ h => by injection h with h; exact h.symm)⟩
  by_cases hk : k = k'
  · subst hk
    simp only
    refine ⟨Maps.has_put_same ho.isMap (keyed51.key (kl_is k)) _, fun q hq => ?_⟩
    injection hq with hq
    subst hq
    exact Maps.atKey_put_same ho.isMap (keyed51.key (kl_is k)) _ _
  · have hne : klit k' ≠ klit k := fun e => hk (klit_inj.1 e).symm
    simp only [if_neg hk]
    refine ⟨(Maps.has_put_other hne _).trans (hD k').1, fun q hq => ?_⟩
    rw [Maps.atKey_put_other hne]
    exact (hD k').2 q hq
theorem Mp.made (w : World) : Mp (w.alloc (.map #[] 0)) w.heap.size 0 (fun _ => none) := ⟨_, World.ownsMap_made _ _ _ _, fun k => ⟨rfl, fun q h => by cases h⟩⟩
theorem Mp.lt {w : World} {m n : Nat} {f : Key → Option Nat} (h : Mp w m n f) : m < w.heap.size := by obtain ⟨D, ho, _⟩ := h; exact ho.lt
theorem Mp.blk {w : World} {m n : Nat} {f : Key → Option Nat} (h : Mp w m n f) : ∃ es cl, w.heap[m]? = some (.map es cl) := by obtain ⟨D, ⟨es, cl, hb, _⟩, _⟩ := h; exact ⟨es, cl, hb⟩
theorem Mp.fr {S : Nat → Prop} {w w' : World} {m n : Nat} {f : Key → Option Nat} (h : Mp w m n f) (hf : Fr S w w') (hS : ¬ S m) : Mp w' m n f := by
  obtain ⟨D, ⟨es, cl, hb, hr⟩, hD⟩ := h
  exact ⟨D, ⟨es, cl, hf.blk hb hS, hr⟩, hD⟩
theorem Mp.mono {w : World} {m n n' : Nat} {f : Key → Option Nat} (h : Mp w m n f) (hn : n ≤ n') : Mp w m n' f := by
  obtain ⟨D, ho, hD⟩ := h
  exact ⟨D, ho.mono hn, hD⟩

def ic (z : Int) : Value := .int .i64 z
/-- the past of the bytes B, passed up to a, in block p; its map in m, its ring in q -/
structure Past (w : World) (p : Nat) (A : Option Addr) (c : Nat) (B : List UInt8) (m q : Nat) (a : Nat) (V : List Int) : Prop where
  blk : Row w p 74 [.slice A B.length c, .map (some m), .slice (some ⟨q, 0, none⟩) V.length V.length]
  mp : Mp w m a (lastF B a)
  row : Row w q 3 (V.map ic)
  ring : Ring B a V
section
variable {w w' : World} {p c m q a : Nat} {A : Option Addr} {B : List UInt8} {V : List Int}
theorem Past.fr {S : Nat → Prop} (h : Past w p A c B m q a V) (hf : Fr S w w') (hS : ∀ b, b = p ∨ b = m ∨ b = q → ¬ S b) : Past w' p A c B m q a V :=
  ⟨h.blk.fr hf (hS _ (.inl rfl)), h.mp.fr hf (hS _ (.inr (.inl rfl))), h.row.fr hf (hS _ (.inr (.inr rfl))), h.ring⟩
theorem Past.ne (h : Past w p A c B m q a V) : p ≠ m ∧ p ≠ q ∧ m ≠ q := by
  have h1 : w.heap[p]? = _ := h.blk
  have h2 : w.heap[q]? = _ := h.row
  obtain ⟨es, cl, h3⟩ := h.mp.blk
  refine ⟨fun e => ?_, fun e => ?_, fun e => ?_⟩
  · rw [e, h3] at h1; cases h1
  · rw [e, h2] at h1; injection h1 with h1; injection h1 with _ h1; exact absurd h1 (by decide)
  · rw [e, h2] at h3; cases h3
theorem Past.c0 (h : Past w p A c B m q a V) : w.cell? ⟨p, 0, none⟩ = some (.slice A B.length c) := h.blk.cell rfl
theorem Past.c1 (h : Past w p A c B m q a V) : w.cell? ⟨p, 1, none⟩ = some (.map (some m)) := h.blk.cell rfl
theorem Past.c2 (h : Past w p A c B m q a V) : w.cell? ⟨p, 2, none⟩ = some (.slice (some ⟨q, 0, none⟩) V.length V.length) := h.blk.cell rfl
end
end Go.Proofs.YtahfmcdhcbfkaaaDoor
