/-
  The program's least, leaves.
-/
import Derived.Test.YtphalcpmeblkgaaHxY
namespace Go.Proofs.Ytphalcpmeblkgaa
open Go.RowKit HuffM Mem Go.Lib
attribute [local go_sem ↓] Go.wp_at_zero Go.wp_at_succ
set_option linter.unusedVariables false

set_option maxRecDepth 100000 in
set_option maxHeartbeats 3200000 in
theorem least_any (b : Nat) (G : Nat → Prop) (l : List Nd) (w : World) (hs : Hs w b G l) (hl : l.length ≤ 1000) (h0 : 0 < l.length) (hp : Hp l l.length 0) :
    Calls Try.prog 32 #[.pointer (some ⟨b, 0, none⟩)] w fun e w' =>
      ∃ l' x, e = .returned (ndv x) ∧ (x :: l').Perm l ∧ (∀ y ∈ l', ¬ ltn y x) ∧ Hp l' l'.length 0 ∧ Hs w' b G l' ∧ Fr (fun k => k = b ∨ G k) w w' := by
  obtain ⟨w0, hw0⟩ : ∃ w0, w0 = w.alloc (.cells #[.int .i64 0, .int .i64 0] 59) := ⟨_, rfl⟩
  obtain ⟨p, hp0⟩ : ∃ p, p = w.heap.size := ⟨_, rfl⟩
  have hf0 : Fr (fun _ => False) w w0 := by rw [hw0]; exact (Fr.refl _ _).alloc _
  have hpb : w0.heap[p]? = some (.cells #[.int .i64 0, .int .i64 0] 59 (0, 0)) := by rw [hw0, hp0]; exact heap_alloc_new w _
  have hs0 : Hs w b (fun k => G k ∧ k < p) l := hs.mono (fun k hk h => ⟨h, by omega⟩) (fun h => hs.1 h.1)
  have HP := Lib.hid (hpop_any b (fun k => G k ∧ k < p) l w0 (hs0.fr hf0 (fun h => h) (fun _ _ h => h)) hl h0 hp)
  have HW := Lib.hid (And.intro hw0 hp0)
  have HF0 := Lib.hid hf0
  have HB := Lib.hid (And.intro hpb (And.intro hs.1 (show b < p by have := hs.lt; omega)))
  have ha := assert_node
  clear hs hp hw0 hp0 hf0 hpb hs0
  go_enter Try.func32, Try.ntmps32
  go_upto_region 1 with fail
  rw [← HW.out.1, ← HW.out.2]
  go_wp2_with fail
  refine HP.out.mono ?_
  rintro e w1 ⟨l', x, rfl, h1, h2, h3, h4, h5⟩
  have hbp : w1.heap[p]? = some (.cells #[.int .i64 0, .int .i64 0] 59 (0, 0)) := h5.blk HB.out.1 (fun h => by
    rcases h with h | h
    · have := HB.out.2.2; omega
    · omega)
  have c1 : w1.cell? ⟨p, 0, none⟩ = some (.int .i64 0) := by rw [cell_of hbp 0]; rfl
  have c2 : w1.cell? ⟨p, 1, none⟩ = some (.int .i64 0) := by rw [cell_of hbp 1]; rfl
  have f1 : w1.frozen? ⟨p, 0, none⟩ = false := free_of hbp 0
  have f2 : w1.frozen? ⟨p, 1, none⟩ = false := free_of hbp 1
  obtain ⟨x1, x2⟩ := x
  have HE := Lib.hid (And.intro h1 (And.intro h2 h3))
  have HS1 := Lib.hid h4
  have HF1 := Lib.hid h5
  have HBP := Lib.hid hbp
  clear h1 h2 h3 h4 h5 hbp HP
  unfold ndv
  go_wp2_with fail
  obtain ⟨w2, hw2⟩ : ∃ w2, w2 = (w1.setCell ⟨p, 0, none⟩ (.int .i64 (x1 : Int))).setCell ⟨p, 1, none⟩ (.int .i64 (x2 : Int)) := ⟨_, rfl⟩
  have hf2 : Fr (fun k => k = p) w1 w2 := by rw [hw2]; exact ((Fr.refl (fun k => k = p) w1).setCell (p := ⟨p, 0, none⟩) (fun _ => rfl) _).setCell (p := ⟨p, 1, none⟩) (fun _ => rfl) _
  have hb2 : w2.heap[p]? = some (.cells #[.int .i64 (x1 : Int), .int .i64 (x2 : Int)] 59 (0, 0)) := by
    rw [hw2, set_k (set_k HBP.out 0 _) 1 _]
    rfl
  have d1 : w2.cell? ⟨p, 0, none⟩ = some (.int .i64 (x1 : Int)) := by rw [cell_of hb2 0]; rfl
  have d2 : w2.cell? ⟨p, 1, none⟩ = some (.int .i64 (x2 : Int)) := by rw [cell_of hb2 1]; rfl
  have hs2 : Hs w2 b (fun k => G k ∧ k < p) l' := HS1.out.fr hf2 (fun h => by have := HB.out.2.2; omega) (fun k h h' => by omega)
  have hs3 : Hs w2 b G l' := hs2.mono (fun k _ h => h.1) HB.out.2.1
  have hf3 : Fr (fun k => k = b ∨ G k) w w2 :=
    ((HF0.out.mono (T := fun k => k = b ∨ G k) (fun _ _ h => h.elim)).trans HF1.out (fun k _ h => h.imp id (·.1))).trans hf2 (fun k hk h => by have := HW.out.2; omega)
  rw [← hw2]
  have HS3 := Lib.hid hs3
  have HF3 := Lib.hid hf3
  clear hw2 hf2 hb2 hs2 hs3 hf3 c1 c2 f1 f2
  exact bodyPost_ret (v := .agg #[.int .i64 (x1 : Int), .int .i64 (x2 : Int)]) (by simp [results, Try.results32, go_sem, d1, d2]) rfl ⟨l', (x1, x2), rfl, HE.out.1, HE.out.2.1, HE.out.2.2, HS3.out, HF3.out⟩

/-- the nodes of the first k symbols that have a weight -/
def lv (W : List Nat) : Nat → List Nd
  | 0 => []
  | k + 1 => if 0 < W.getD k 0 then lv W k ++ [(W.getD k 0, k)] else lv W k
theorem lv_le (W : List Nat) (k : Nat) : (lv W k).length ≤ k := by
  induction k with
  | zero => exact Nat.le_refl _
  | succ k ih =>
    rw [lv]
    split
    · rw [List.length_append]; simp; omega
    · omega
set_option maxRecDepth 100000 in
set_option maxHeartbeats 3200000 in
theorem leaves_any (A : Option Addr) (n c : Nat) (W : List Nat) (w : World) (hr : Rd w A n (W.map natc)) (hn : n ≤ 1000) :
    Calls Try.prog 29 #[.slice A n c] w fun e w' => ∃ A' c', e = .returned (.slice A' (lv W n).length c') ∧ w'.ownsRow w.heap.size 59 2 (.slice A' (lv W n).length c') (lv W n).length (cellsN (lv W n)) ∧ Fr (fun _ => False) w w' := by
  have hln : W.length = n := by simpa using hr.1
  have HR := Lib.hid hr
  have HLN := Lib.hid hln
  clear hr hln
  go_enter Try.func29, Try.ntmps29
  go_wp2_with fail
  go_loopw [3, 8] (fun v i wr => ∃ (k q : Nat) (A' : Option Addr) (c' : Nat), k ≤ n ∧ i = .int .i64 (k : Int) ∧ v = .slice A' q c' ∧ q ≤ k ∧ Hid (q = (lv W k).length) ∧ Hid (wr.ownsRow w.heap.size 59 2 (.slice A' q c') q (cellsN (lv W k))) ∧ Fr (fun _ => False) w wr)
    (fun _ i _ => n - (intOf i).toNat)
  case atStart => exact ⟨0, 0, none, 0, by omega, rfl, rfl, by omega, rfl, World.ownsRow_nil _ _ _ _, Fr.refl _ _⟩
  case round =>
    obtain ⟨k, q, A', c', hk, rfl, rfl, hqk, HQ, HO, hfr⟩ := hrel
    by_cases hlt : k < n
    · obtain ⟨ad, u, rfl, hu, hcell⟩ := (HR.out.fr hfr (fun _ _ h => h)).at_ hlt
      obtain ⟨x, hx⟩ : ∃ x, W[k]? = some x := ⟨_, List.getElem?_eq_getElem (by have := HLN.out; omega)⟩
      obtain rfl : natc x = u := by simpa [hx] using hu
      unfold natc at hcell
      have hgd : W.getD k 0 = x := by rw [List.getD_eq_getElem?_getD, hx]; rfl
      have hlv : lv W (k + 1) = if 0 < x then lv W k ++ [(x, k)] else lv W k := by rw [lv, hgd]
      have hsz := hfr.size
      by_cases hx0 : 0 < x
      · rw [if_pos hx0] at hlv
        have HLV := Lib.hid hlv
        have HO' := Lib.hid (HO.out.alloc (.cells #[.int .i64 (x : Int), .int .i64 (k : Int)] 59))
        have HONE : Hid (∀ u ∈ [Value.int .i64 (x : Int), Value.int .i64 (k : Int)], u.oneCell' = true) := by
          intro u hu
          simp at hu
          rcases hu with rfl | rfl <;> rfl
        clear hu hx hgd hlv
        go_wp2_with (at_builtin; refine wpList_appS nodeT _ rfl _ _ rfl w.heap.size _ _ _ rfl HO'.out _ _ _ rfl rfl (news2 rfl (.int .i64 (x : Int)) (.int .i64 (k : Int)) _) HONE.out (q + 1) rfl (by unfold maxLen; omega) (by omega) (by simp; omega) ?_)
        intro A2 c2 w2 hown2 h1 hf2
        have HO2 : Hid (w2.ownsRow w.heap.size 59 2 (.slice A2 (q + 1) c2) (q + 1) (cellsN (lv W (k + 1)))) := by
          show w2.ownsRow _ _ _ _ _ _
          rw [HLV.out, cellsN_app]
          exact hown2
        have HF2 := Lib.hid ((hfr.alloc _).trans hf2 (fun b hb h => by have := (HO'.out.lt b h).1; omega))
        clear hown2 hf2 hfr HO HO'
        go_wp2
        go_roundw
        case rel => exact ⟨k + 1, q + 1, A2, c2, by omega, by go_num, by first | rfl | (congr 1), by omega, by show _ = _; rw [HLV.out, List.length_append, ← HQ.out]; rfl, HO2, HF2.out⟩
        case measure => simp [intOf] <;> omega
      · rw [if_neg hx0] at hlv
        have HLV := Lib.hid hlv
        have tx : ¬ (0 : Int) < (x : Int) := by omega
        clear hu hx hgd hlv
        go_wp2
        go_roundw
        case rel => exact ⟨k + 1, q, A', c', by omega, by go_num, rfl, by omega, by show _ = _; rw [HLV.out]; exact HQ.out, by show World.ownsRow _ _ _ _ _ _ _; rw [HLV.out]; exact HO.out, hfr⟩
        case measure => simp [intOf] <;> omega
    · obtain rfl : k = n := by omega
      have ho := HO.out
      have hq := HQ.out
      subst hq
      have HOO := Lib.hid ho
      clear ho HO
      go_wp2
      go_ret
      exact ⟨A', c', rfl, HOO.out, hfr⟩
end Go.Proofs.Ytphalcpmeblkgaa
