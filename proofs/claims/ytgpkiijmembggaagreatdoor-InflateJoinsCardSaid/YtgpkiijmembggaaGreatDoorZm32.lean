/-
  The main loop of layer 5's reference once: groups are joined as long as there are two (written by gen_once3.py).
  Contract of layer 5's reference once (written by gen_once4.py).
  Layer 8's program: Get; all its contracts.
-/
import Derived.Test.YtgpkiijmembggaaGreatDoorZm31
import Derived.Deep.CutRange
import Derived.Test.YtgpkiijmembggaaGreatDoorZm28
import Derived.Test.YtgpkiijmembggaaGreatDoorZm30
namespace Go.Proofs.YtgpkiijmembggaaGreatDoor
open Go.RowKit HuffM Mem Go.Lib
attribute [local go_sem ↓] Go.wp_at_zero Go.wp_at_succ
set_option linter.unusedVariables false

theorem gs_len (E : List (Grp × Value)) : (gs E).length = E.length := by simp [gs]
theorem Ints.fr {S : Nat → Prop} {w w' : World} {g : Nat} {l : List Nat} (h : Ints w g l) (hf : Fr S w w') (hS : ¬ S g) : Ints w' g l := hf.blk h hS
theorem merge_step {f : Nat} {l : List Grp} {o : List Nat} (h : 2 ≤ l.length) : mergeF (f + 1) l o = mergeF f (joinG l) (incs o (grp l).s) := by rw [mergeF, if_neg (by omega)]
theorem nodup_le : ∀ (n : Nat) {S : List Nat}, S.Nodup → (∀ s ∈ S, s < n) → S.length ≤ n
  | 0, S, _, h => by
    cases S with
    | nil => exact Nat.le_refl _
    | cons a S => have := h a (List.mem_cons_self ..); omega
  | n + 1, S, hn, h => by
    by_cases hm : n ∈ S
    · have h1 := nodup_le n (hn.erase n) (fun s hs => by
        have h2 := h s (List.mem_of_mem_erase hs)
        have h3 : s ≠ n := fun e => hn.not_mem_erase (e ▸ hs)
        omega)
      rw [List.length_erase_of_mem hm] at h1
      omega
    · have h1 := nodup_le n hn (fun s hs => by
        have h2 := h s hs
        have h3 : s ≠ n := fun e => hm (e ▸ hs)
        omega)
      omega

theorem inc_ge (o : List Nat) (s t : Nat) : oat o t ≤ oat (inc o s) t := by
  by_cases hs : s < o.length
  · rw [inc_at o s t hs]; split <;> omega
  · unfold inc
    rw [List.set_eq_of_length_le (by omega)]
    exact Nat.le_refl _
theorem incs_ge (o S : List Nat) (t : Nat) : oat o t ≤ oat (incs o S) t := by
  induction S generalizing o with
  | nil => exact Nat.le_refl _
  | cons s S ih => exact Nat.le_trans (inc_ge o s t) (ih (inc o s))
end Go.Proofs.YtgpkiijmembggaaGreatDoor
namespace Go.Proofs.YtgpkiijmembggaaGreatDoor
open Go.RowKit HuffM Mem Go.Lib
attribute [local go_sem ↓] Go.wp_at_zero Go.wp_at_succ
set_option linter.unusedVariables false

theorem made_int (m : Nat) : madeCells (Value.int .i64 0).cells (m * 1) = Array.replicate m (.int .i64 0) := by
  apply Array.ext_getElem?
  intro i
  by_cases h : i < m
  · simp [madeCells, Value.cells, h, Nat.mod_one]
  · simp [madeCells, Value.cells, h]
theorem sum_le {W : List Nat} (h : ∀ x ∈ W, x ≤ 1073741824) : W.sum ≤ W.length * 1073741824 := by
  induction W with
  | nil => simp
  | cons x W ih =>
    have h1 := ih (fun y hy => h y (List.mem_cons_of_mem _ hy))
    have h2 := h x (List.mem_cons_self ..)
    rw [List.sum_cons, List.length_cons]
    omega
theorem gI_le (W : List Nat) (i : Nat) : (gI W i).length ≤ i := by
  induction i with
  | zero => exact Nat.le_refl _
  | succ i ih =>
    rw [gI_step]
    split
    · rw [List.length_append]; simp; omega
    · omega
theorem good_one {W : List Nat} {l : List Grp} (hl : l = gI W W.length) {s : Nat} (hs : s ∈ sy l) : HuffM.Good l ((once0 W).set s 1) := by
  have h := good0 W
  rw [← hl] at h
  refine ⟨h.nd, fun x hx => by rw [List.length_set]; exact h.lt x hx, fun x hx => ?_⟩
  have hne : s ≠ x := fun e => hx (e ▸ hs)
  have h0 := h.out x hx
  unfold oat at h0 ⊢
  rw [List.getD_eq_getElem?_getD, List.getElem?_set_ne hne, ← List.getD_eq_getElem?_getD]
  exact h0
theorem set_le (W : List Nat) (s t : Nat) : oat ((once0 W).set s 1) t ≤ 1 := by
  unfold oat
  rw [List.getD_eq_getElem?_getD, List.getElem?_set]
  split
  · split
    · exact Nat.le_refl _
    · exact Nat.zero_le _
  · rw [← List.getD_eq_getElem?_getD]
    have := zero_at W.length t
    unfold oat at this
    unfold once0
    omega

theorem onceC_end {w w5 : World} {go n : Nat} {W : List Nat} (hi : Ints w5 go (onceL W)) (hf : Fr (fun _ => False) w w5) (hg : go = w.heap.size) (hW : W.length = n) :
    ∃ A' c', Ending.returned (.slice (some ⟨go, 0, none⟩) n n) = .returned (.slice A' n c') ∧ n ≤ c' ∧ Rd w5 A' n ((onceL W).map natc) ∧ Fr (fun _ => False) w w5 ∧ ∀ ad, A' = some ad → w.heap.size ≤ ad.block ∧ ad.block < w5.heap.size := by
  have hr := hi.rd
  rw [onceL_len, hW] at hr
  refine ⟨_, n, rfl, Nat.le_refl _, hr, hf, fun ad h => ?_⟩
  injection h with h
  subst h
  exact ⟨by show w.heap.size ≤ go; omega, lt_of_heap (show w5.heap[go]? = _ from hi)⟩

end Go.Proofs.YtgpkiijmembggaaGreatDoor
namespace Go.Proofs.YtgpkiijmembggaaGreatDoor
open Go.RowKit CoM BitsM HuffM Mem Go.Lib
attribute [local go_sem ↓] Go.wp_at_zero Go.wp_at_succ
set_option linter.unusedVariables false
set_option maxRecDepth 100000

theorem readerSz : (Tryz.prog.info? 82).map (·.size) = some 2 := by kernel_rfl
theorem rdr_one (A : Option Addr) (n c : Nat) (p : Int) : [Value.slice A n c, .int .i64 p].toArray.all (·.oneCell') = true := by simp [Value.oneCell']
set_option maxHeartbeats 3200000 in
theorem pGet_any (r c p : Nat) (A : Option Addr) (B : List UInt8) (w : World) (hG : Gl8 w) (hr2 : top8 ≤ r) (h : Re w r A c B p) (hB : B.length ≤ 1000000) :
    Calls Tryz.prog 83 #[.pointer (some ⟨r, 0, none⟩)] w fun e w' => ∃ p', Re w' r A c B p' ∧ Fr (fun k => k = r) w w' ∧ GotP w.heap.size (bitsOf B) w' e p' (getB ((bitsOf B).drop p)) := by
  obtain ⟨RES, hRES⟩ : ∃ R, R = getB ((bitsOf B).drop p) := ⟨_, rfl⟩
  rw [← hRES]
  have HRES := Lib.hid hRES
  have hrow : Row w r 82 [.slice A B.length c, .int .i64 (p : Int)] := h.1
  have c0 : w.cell? ⟨r, 0, none⟩ = some (.slice A B.length c) := hrow.cell rfl
  have c1 : w.cell? ⟨r, 1, none⟩ = some (.int .i64 (p : Int)) := hrow.cell rfl
  have HRE := Lib.hid h
  have HG := Lib.hid hG
  have HR2 := Lib.hid hr2
  clear hRES hrow h hG hr2
  go_enter Tryz.func83, Tryz.ntmps83
  go_upto_region 2 with fail
  obtain ⟨w1, hw1⟩ : ∃ w1, w1 = w.alloc (.cells #[Value.slice A B.length c, .int .i64 (p : Int)] 82) := ⟨_, rfl⟩
  have hr1 : Row w1 w.heap.size 82 [Value.slice A B.length c, .int .i64 (p : Int)] := by rw [hw1]; exact Row.new w _ _
  have hf1 : Fr (fun _ => False) w w1 := by rw [hw1]; exact (Fr.refl _ w).alloc _
  obtain ⟨q, hq⟩ : ∃ q, q = w.heap.size := ⟨_, rfl⟩
  rw [← hw1]
  rw [← hq] at hr1 ⊢
  have HR1 := Lib.hid hr1
  have HF1 := Lib.hid hf1
  have HQR : Hid (q ≠ r) := Lib.hid (by have := HRE.out.lt.1; omega)
  have HRD : Hid (Calls Tryz.prog 98 #[.pointer (some ⟨r, 0, none⟩)] w1 fun e w' => ReadP w1.heap.size w' e r c A B RES ∧ Fr (fun k => k = r) w1 w') := Lib.hid (by
    rw [HRES.out]
    exact read_any r c p A B w1 (HG.out.fr0 hf1) (HRE.out.fr hf1 (fun h => h) (fun _ _ h => h)) HR2.out hB)
  clear hw1 hr1 hf1 hq c0 c1
  go_wp2_with fail
  refine HRD.out.mono ?_
  rintro e w2 ⟨hrp, hf2⟩
  have HF2 : Hid (Fr (fun k => k = r) w w2) := Lib.hid ((Fr.none HF1.out).trans hf2 (fun _ _ h => h))
  have hr2 := Row.fr HR1.out hf2 (fun h => HQR.out h)
  have HSZ := Lib.hid HF1.out.size
  cases RES with
  | none =>
    obtain ⟨p', rfl, hre⟩ := hrp
    have d0 : w2.cell? ⟨q, 0, none⟩ = some (.slice A B.length c) := hr2.cell rfl
    have d1 : w2.cell? ⟨q, 1, none⟩ = some (.int .i64 (p : Int)) := hr2.cell rfl
    have HRE2 := Lib.hid hre
    clear hre hr2 hf2 HRD
    go_wp2_with (refine store_st readerSz rfl (.tmp 22) (.tmp 21) rfl r (by rfl) [.slice A B.length c, .int .i64 (p : Int)] (by rfl) _ _ HRE2.out.1 rfl rfl (rdr_one A B.length c (p : Int)) ?_)
    intro w3 hr3 hf3
    have HRE3 : Hid (Re w3 r A c B p) := Lib.hid ⟨hr3, hf3.own HRE2.out.2.1 (fun k hk h => own_ne HRE2.out.2.1 HRE2.out.1 (by decide) (by rw [hk, h])), HRE.out.2.2⟩
    have HF3 := Lib.hid (HF2.out.trans hf3 (fun _ _ h => h))
    clear hr3 hf3 d0 d1
    go_wp2_with fail
    exact bodyPost_ret (v := .tuple #[.slice none 0 0, .slice none 0 0, .bool false]) (by simp [results, Tryz.results83, go_sem]) rfl
      ⟨p, HRE3.out, HF3.out, none, 0, none, 0, rfl⟩
  | some uvr =>
    obtain ⟨u, v, rest⟩ := uvr
    obtain ⟨A1, A2, p', rfl, h1, h2, h3, h4, h5, hre⟩ := hrp
    obtain ⟨nu, hnu⟩ : ∃ n, n = u.length := ⟨_, rfl⟩
    obtain ⟨nv, hnv⟩ : ∃ n, n = v.length := ⟨_, rfl⟩
    have HX : Hid (GotP w.heap.size (bitsOf B) w2 (.returned (.tuple #[.slice A1 nu nu, .slice A2 nv nv, .bool true])) p' (some (u, v, rest))) := Lib.hid ⟨A1, nu, A2, nv, by rw [hnu, hnv], by omega, by omega, h1, h2, fun ad h => Nat.le_trans HSZ.out (h3 ad h), fun ad h => Nat.le_trans HSZ.out (h4 ad h), h5⟩
    have HRE2 := Lib.hid hre
    rw [← hnu, ← hnv]
    clear hre hr2 hf2 HRD h1 h2 h3 h4 h5 hnu hnv
    go_wp2_with fail
    exact bodyPost_ret (v := .tuple #[.slice A1 nu nu, .slice A2 nv nv, .bool true]) (by simp [results, Tryz.results83, go_sem]) rfl
      ⟨p', HRE2.out, HF2.out, HX.out⟩
/-- the program's contracts -/
theorem codesC : CodesC top8 Gl8 where
  fr := fun h hf hS => h.fr hf hS
  size := fun h => h.size
  press := fun w hG => pPress_any w hG.2
  put := fun g c A bs A1 A2 n1 c1 n2 c2 X Y w hG _ _ h3 h4 h5 h6 h7 h8 h9 h10 h11 h12 h13 h14 h15 h16 => pPut8_any g c A bs A1 A2 n1 c1 n2 c2 X Y w hG h3 h4 h5 h6 h7 h8 h9 h10 h11 h12 h13 h14 h15 h16
  get := fun r c p A B w hG h1 h2 h3 => pGet_any r c p A B w hG h1 h2 h3
end Go.Proofs.YtgpkiijmembggaaGreatDoor
