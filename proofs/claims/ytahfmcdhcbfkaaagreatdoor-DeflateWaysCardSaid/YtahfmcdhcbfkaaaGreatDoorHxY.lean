/-
  The library's heap over the program's nodes: Init, Push, Pop; the least node, taken out; the nodes of symbols that have a weight.
-/
import Derived.Test.YtahfmcdhcbfkaaaGreatDoorHxV
import Derived.Test.YtahfmcdhcbfkaaaGreatDoorZm40
namespace Go.Proofs.YtahfmcdhcbfkaaaGreatDoor
open Go.RowKit HuffM Mem Go.Lib
attribute [local go_sem ↓] Go.wp_at_zero Go.wp_at_succ
set_option linter.unusedVariables false

set_option maxRecDepth 100000 in
set_option maxHeartbeats 3200000 in
theorem init_any (b : Nat) (G : Nat → Prop) (l : List Nd) (w : World) (hs : Hs w b G l) (hl : l.length ≤ 1000) :
    Calls Tryz.prog 81 #[.iface 119 (.pointer (some ⟨b, 0, none⟩))] w fun e w' =>
      ∃ l', e = .returned (.tuple #[]) ∧ l'.Perm l ∧ Hp l' l'.length 0 ∧ Hs w' b G l' ∧ Fr (G) w w' := by
  obtain ⟨hb0, A, c, hblk, hown, hG⟩ := hs
  have hcs : w.cell? ⟨b, 0, none⟩ = some (.slice A l.length c) := by rw [cell_of hblk 0]; rfl
  obtain ⟨n, hn⟩ : ∃ n, n = l.length := ⟨_, rfl⟩
  have HS : Hid (Hs w b G l) := Lib.hid ⟨hb0, A, c, hblk, hown, hG⟩
  rw [← hn] at hcs hl
  have ml := fun fuel => meth_val fuel "Len" _ i_len b _ _ _ w hcs
  have HL := Lib.hid (hlen_any A n c w)
  have HN := Lib.hid hn
  clear hb0 hblk hown hG hcs hn
  go_enter Tryz.func81, Tryz.ntmps81
  go_wp2_with fail
  refine HL.out.mono ?_
  rintro e w1 ⟨rfl, rfl⟩
  obtain ⟨h, hh⟩ : ∃ h, h = n / 2 := ⟨_, rfl⟩
  have eh : (n : Int) / 2 = (h : Int) := by omega
  have hh1 : h ≤ 1000 := by omega
  have HH := Lib.hid hh
  clear ml HL hh
  go_wp2_with fail
  clear eh
  go_loopw [3] (fun v wr => ∃ (k : Nat) (d : List Nd), v = .int .i64 ((k : Int) - 1) ∧ k ≤ h ∧ Hid (d.Perm l ∧ d.length = n) ∧ Hid (Hp d n k) ∧ Hid (Hs wr b G d) ∧ Fr (G) w wr)
    (fun v _ => (intOf v + 1).toNat)
  case atStart => exact ⟨h, l, rfl, Nat.le_refl _, ⟨List.Perm.refl _, HN.out.symm⟩, Hp.all h (by rw [HH.out]; exact Nat.le_refl _), HS, Fr.refl _ _⟩
  case round =>
    clear HS
    obtain ⟨k, d, rfl, hk, HD, HP, HSd, hfr⟩ := hrel
    rcases Nat.eq_zero_or_pos k with e | e
    · subst e
      have t1 : ¬ (0 : Int) ≤ ((0 : Nat) : Int) - 1 := by omega
      have HF := Lib.hid hfr
      clear hfr
      go_wp2
      go_end0
      exact ⟨rfl, d, HD.out.1, by rw [HD.out.2]; exact HP.out, HSd.out, HF.out⟩
    · obtain ⟨i, rfl⟩ : ∃ i, k = i + 1 := ⟨k - 1, by omega⟩
      have hd := down_any b i n G d wr HSd.out (by rw [HD.out.2]; exact Nat.le_refl _) (by rw [HD.out.2]; exact hl) (by omega) HP.out
      have HDn := Lib.hid hd
      have ei : ((i + 1 : Nat) : Int) - 1 = (i : Int) := by omega
      have hii : i ≤ 1000 := by omega
      rw [ei]
      clear hd ei
      go_wp2_with fail
      refine HDn.out.mono ?_
      rintro e w2 ⟨v, d2, rfl, hp2, hh2, _, hs2, hf2⟩
      have HD2 : Hid (d2.Perm l ∧ d2.length = n) := ⟨hp2.trans HD.out.1, by rw [hp2.length_eq]; exact HD.out.2⟩
      have HP2 := Lib.hid hh2
      have HS2 := Lib.hid hs2
      have HF2 := Lib.hid (hfr.trans hf2 (fun _ _ h => h))
      clear hp2 hh2 hs2 hf2 hfr HDn
      go_wp2
      go_roundw
      case rel => exact ⟨i, d2, rfl, by omega, HD2, HP2, HS2, HF2.out⟩
      case measure => simp [intOf] <;> omega

set_option maxRecDepth 100000 in
set_option maxHeartbeats 3200000 in
theorem hpush_any (b : Nat) (G : Nat → Prop) (l : List Nd) (x : Nd) (w : World) (hs : Hs w b G l) (hl : l.length ≤ 999) (hp : Hp l l.length 0) :
    Calls Tryz.prog 83 #[.iface 119 (.pointer (some ⟨b, 0, none⟩)), .iface 117 (ndv x)] w fun e w' =>
      ∃ l', e = .returned (.tuple #[]) ∧ l'.Perm (l ++ [x]) ∧ Hp l' l'.length 0 ∧ Hs w' b (fun k => G k ∨ w.heap.size ≤ k) l' ∧ Fr (fun k => k = b ∨ G k) w w' := by
  have HPU := Lib.hid (push_any b G l x w hs (by omega))
  have mp := fun fuel => meth_ptr fuel "Push" _ i_push b w
  have HUP := Lib.hid (Up.push (x := x) hp)
  obtain ⟨X, hX⟩ : ∃ X, X = Value.iface 117 (ndv x) := ⟨_, rfl⟩
  rw [← hX] at HPU ⊢
  clear hs hp hX
  go_enter Tryz.func83, Tryz.ntmps83
  go_wp2_with fail
  refine HPU.out.mono ?_
  rintro e w1 ⟨rfl, hs1, hf1⟩
  have hs1' := hs1
  obtain ⟨hb0, A, c, hblk, hown, _⟩ := hs1'
  have hcs : w1.cell? ⟨b, 0, none⟩ = some (.slice A (l ++ [x]).length c) := by rw [cell_of hblk 0]; rfl
  obtain ⟨n, hn⟩ : ∃ n, n = l.length := ⟨_, rfl⟩
  obtain ⟨m, hm⟩ : ∃ m, m = n + 1 := ⟨_, rfl⟩
  rw [show (l ++ [x]).length = m from by rw [List.length_append, ← hn, hm, List.length_singleton]] at hcs
  have ml := fun fuel => meth_val fuel "Len" _ i_len b _ _ _ w1 hcs
  have HL := Lib.hid (hlen_any A m c w1)
  have em : (m : Int) - 1 = (n : Int) := by omega
  have hm1 : m ≤ 1000 := by omega
  have hup := up_any b n (fun k => G k ∨ w.heap.size ≤ k) (l ++ [x]) w1 hs1 (by rw [List.length_append, ← hn, List.length_singleton]; omega) (by rw [List.length_append, ← hn]; simp) (by
    have h := HUP.out
    rw [← hn] at h
    rw [List.length_append, ← hn]
    exact h)
  have HU := Lib.hid hup
  have HF1 := Lib.hid hf1
  have HM := Lib.hid (And.intro hn hm)
  clear hs1 hf1 hb0 hblk hown hcs hn hm hup HPU mp HUP
  go_wp2_with fail
  refine HL.out.mono ?_
  rintro e w2 ⟨rfl, rfl⟩
  go_wp2_with fail
  refine HU.out.mono ?_
  rintro e w2 ⟨l', rfl, hp2, hh2, hs2, hf2⟩
  have HE := Lib.hid (And.intro hp2 (And.intro hh2 (And.intro hs2 (HF1.out.trans hf2 (fun k hk h => .inr (h.resolve_right (by omega)))))))
  clear hp2 hh2 hs2 hf2 ml
  go_wp2
  go_end0
  exact ⟨l', rfl, HE.out.1, HE.out.2.1, HE.out.2.2.1, HE.out.2.2.2⟩

set_option maxRecDepth 100000 in
set_option maxHeartbeats 3200000 in
theorem hpop_any (b : Nat) (G : Nat → Prop) (l : List Nd) (w : World) (hs : Hs w b G l) (hl : l.length ≤ 1000) (h0 : 0 < l.length) (hp : Hp l l.length 0) :
    Calls Tryz.prog 89 #[.iface 119 (.pointer (some ⟨b, 0, none⟩))] w fun e w' =>
      ∃ l' x, e = .returned (.iface 117 (ndv x)) ∧ (x :: l').Perm l ∧ (∀ y ∈ l', ¬ ltn y x) ∧ Hp l' l'.length 0 ∧ Hs w' b G l' ∧ Fr (fun k => k = b ∨ G k) w w' := by
  obtain ⟨g, c, hg, hbg, hblk, hnod⟩ := hs.row h0
  have hb0 := hs.1
  have hcs : w.cell? ⟨b, 0, none⟩ = some (.slice (some ⟨g, 0, none⟩) l.length c) := by rw [cell_of hblk 0]; rfl
  obtain ⟨m, hm⟩ : ∃ m, m = l.length := ⟨_, rfl⟩
  obtain ⟨n, hn⟩ : ∃ n, n = m - 1 := ⟨_, rfl⟩
  have hsw := swap_any g l.length c 0 n l w hnod rfl h0 (by omega)
  rw [← hm] at hcs hsw hl h0
  have ml := fun fuel => meth_val fuel "Len" _ i_len b _ _ _ w hcs
  have ms := fun fuel => meth_val fuel "Swap" _ i_swap b _ _ _ w hcs
  have HL := Lib.hid (hlen_any (some ⟨g, 0, none⟩) m c w)
  have em : (m : Int) - 1 = (n : Int) := by omega
  have HSW : Hid (Calls Tryz.prog 116 #[.slice (some ⟨g, 0, none⟩) m c, .int .i64 0, .int .i64 (n : Int)] w fun e w' => e = .returned (.tuple #[]) ∧ Nods w' g c (swn l 0 n) ∧ Fr (fun b => b = g) w w') := hsw
  have HB := Lib.hid (And.intro hblk (And.intro hm (And.intro hn hb0)))
  have HP := Lib.hid hp
  have hn1 : n ≤ 1000 := by omega
  clear hs hblk hnod hb0 hcs hm hn hsw hp
  go_enter Tryz.func89, Tryz.ntmps89
  go_wp2_with fail
  refine HL.out.mono ?_
  rintro e w1 ⟨rfl, rfl⟩
  go_wp2_with fail
  refine HSW.out.mono ?_
  rintro e w1 ⟨rfl, hn1', hf1⟩
  have hs1 : Hs w1 b G (swn l 0 n) := Hs.mk hg HB.out.2.2.2 (swn_len l 0 n).symm (hf1.blk HB.out.1 hbg) hn1'
  have hpp : Hp (swn l 0 n) n 1 := by
    have h := HP.out.pop (by have := HB.out.2.1; omega)
    rwa [← HB.out.2.1, ← HB.out.2.2.1] at h
  have hdn := down_any b 0 n G (swn l 0 n) w1 hs1 (by rw [swn_len]; have := HB.out; omega) (by rw [swn_len]; have := HB.out; omega) (by omega) hpp
  have HDN : Hid (Calls Tryz.prog 88 #[.iface 119 (.pointer (some ⟨b, 0, none⟩)), .int .i64 0, .int .i64 (n : Int)] w1 fun e w' => ∃ v l', e = .returned (.bool v) ∧ l'.Perm (swn l 0 n) ∧ Hp l' n 0 ∧ (∀ k, n ≤ k → gn l' k = gn (swn l 0 n) k) ∧ Hs w' b G l' ∧ Fr (G) w1 w') := hdn
  have HF1 := Lib.hid (hf1.mono (T := G) (fun k _ h => by rw [h]; exact hg))
  clear hn1' hf1 hs1 hpp hdn HSW ml ms
  go_wp2_with fail
  refine HDN.out.mono ?_
  rintro e w2 ⟨v, l2, rfl, hp2, hh2, ht2, hs2, hf2⟩
  have hl2 : l2.length = n + 1 := by rw [hp2.length_eq, swn_len]; have := HB.out; omega
  obtain ⟨l', x, rfl⟩ : ∃ l' x, l2 = l' ++ [x] := ⟨l2.dropLast, l2.getLast (by rintro rfl; simp at hl2), (List.dropLast_concat_getLast _).symm⟩
  have hl' : l'.length = n := by rw [List.length_append] at hl2; simp at hl2; exact hl2
  have hx : x = gn l 0 := by
    have h := ht2 n (Nat.le_refl _)
    rw [swn_at l (by have := HB.out; omega) (by have := HB.out; omega), if_pos rfl] at h
    rw [← h]
    unfold gn
    rw [List.getD_eq_getElem?_getD, List.getElem?_append_right (by omega), hl', Nat.sub_self]
    rfl
  have hperm : (x :: l').Perm l := (List.perm_append_comm (l₁ := [x])).trans (hp2.trans (swn_perm l (by have := HB.out; omega) (by have := HB.out; omega)))
  have hmin : ∀ y ∈ l', ¬ ltn y x := by
    intro y hy
    have hyl : y ∈ l := hperm.mem_iff.1 (List.mem_cons_of_mem _ hy)
    obtain ⟨k, hk, rfl⟩ := List.getElem_of_mem hyl
    have h := HP.out.root k hk
    rw [hx]
    have e : gn l k = l[k] := by unfold gn; rw [List.getD_eq_getElem?_getD, List.getElem?_eq_getElem hk]; rfl
    rwa [e] at h
  have hgf : ∀ k, k < n → gn (l' ++ [x]) k = gn l' k := fun k hk => by unfold gn; rw [List.getD_eq_getElem?_getD, List.getElem?_append_left (by omega), ← List.getD_eq_getElem?_getD]
  have hh' : Hp l' l'.length 0 := by
    rw [hl']
    intro k h1 h2 h3
    have := hh2 k h1 h2 h3
    rwa [hgf k h1, hgf _ (by omega)] at this
  have HPO := Lib.hid (pop_any b G l' x w2 hs2 (by omega))
  have HE := Lib.hid (And.intro hperm (And.intro hmin hh'))
  have HF2 := Lib.hid (HF1.out.trans hf2 (fun _ _ h => h))
  have mp := fun fuel => meth_ptr fuel "Pop" _ i_pop b w2
  obtain ⟨X, hX⟩ : ∃ X, X = Value.iface 117 (ndv x) := ⟨_, rfl⟩
  rw [← hX] at HPO
  have HX := Lib.hid hX
  clear hp2 hh2 ht2 hs2 hf2 hl2 hl' hx hperm hmin hgf hh' HDN HF1 hX
  go_wp2_with fail
  refine HPO.out.mono ?_
  rintro e w3 ⟨rfl, hs3, hf3⟩
  have HS3 := Lib.hid hs3
  have HF3 := Lib.hid ((HF2.out.mono (T := fun k => k = b ∨ G k) (fun k _ h => .inr h)).trans hf3 (fun k _ h => .inl h))
  clear hs3 hf3 HPO mp
  go_wp2
  go_ret
  exact ⟨l', x, by rw [HX.out]; rfl, HE.out.1, HE.out.2.1, HE.out.2.2, HS3.out, HF3.out⟩
end Go.Proofs.YtahfmcdhcbfkaaaGreatDoor
