/-
  The law ShaJoins, out of the program's contracts: the hash of two parts is that of both, joined; empty parts count for nothing.
-/
import Derived.Test.YtjjeahijcibafaaDoorShaK
namespace Go.Proofs.YtjjeahijcibafaaDoor
open Go.RowKit ShaM Mem Go.Lib
attribute [local go_sem ↓] Go.wp_at_zero Go.wp_at_succ

theorem len_rd {w : World} {A : Option Addr} {n : Nat} {B : List UInt8} (h : Rd w A n (B.map bytec)) : B.length = n := by simpa using h.1
theorem Parts.two {w : World} {k : Nat} (hk : k = w.heap.size) (t : TypeId) {A1 A2 : Option Addr} {n1 c1 n2 c2 : Nat} {B1 B2 : List UInt8} (h1 : Rd w A1 n1 (B1.map bytec)) (hc1 : n1 ≤ c1) (h2 : Rd w A2 n2 (B2.map bytec)) (hc2 : n2 ≤ c2) :
    Parts (w.alloc (.cells #[.slice A1 n1 c1, .slice A2 n2 c2] t)) (some ⟨k, 0, none⟩) 2 [B1, B2] := by
  obtain rfl := len_rd h1
  obtain rfl := len_rd h2
  refine Parts.of_cells hk t [.slice A1 B1.length c1, .slice A2 B2.length c2] [B1, B2] rfl ?_
  intro i v B' hv hB
  match i, hv, hB with
  | 0, hv, hB => simp at hv hB; subst hv hB; exact ⟨_, _, rfl, hc1, h1⟩
  | 1, hv, hB => simp at hv hB; subst hv hB; exact ⟨_, _, rfl, hc2, h2⟩
theorem Parts.five {w : World} {k : Nat} (hk : k = w.heap.size) (t : TypeId) {A1 A2 : Option Addr} {n1 c1 n2 c2 : Nat} {B1 B2 : List UInt8} (h1 : Rd w A1 n1 (B1.map bytec)) (hc1 : n1 ≤ c1) (h2 : Rd w A2 n2 (B2.map bytec)) (hc2 : n2 ≤ c2) :
    Parts (w.alloc (.cells #[.slice none 0 0, .slice A1 n1 c1, .slice none 0 0, .slice A2 n2 c2, .slice none 0 0] t)) (some ⟨k, 0, none⟩) 5 [[], B1, [], B2, []] := by
  obtain rfl := len_rd h1
  obtain rfl := len_rd h2
  refine Parts.of_cells hk t [.slice none 0 0, .slice A1 B1.length c1, .slice none 0 0, .slice A2 B2.length c2, .slice none 0 0] [[], B1, [], B2, []] rfl ?_
  intro i v B' hv hB
  match i, hv, hB with
  | 0, hv, hB => simp at hv hB; subst hv hB; exact Parts.nil_part w
  | 1, hv, hB => simp at hv hB; subst hv hB; exact ⟨_, _, rfl, hc1, h1⟩
  | 2, hv, hB => simp at hv hB; subst hv hB; exact Parts.nil_part w
  | 3, hv, hB => simp at hv hB; subst hv hB; exact ⟨_, _, rfl, hc2, h2⟩
  | 4, hv, hB => simp at hv hB; subst hv hB; exact Parts.nil_part w

set_option maxRecDepth 100000 in
set_option maxHeartbeats 1600000 in
theorem joins_law (K : ShaP) (A1 A2 : Option Addr) (n1 c1 n2 c2 : Nat) (B1 B2 : List UInt8) (w : World) (hG : Gl w) (h1 : Rd w A1 n1 (B1.map bytec)) (hc1 : n1 ≤ c1) (h2 : Rd w A2 n2 (B2.map bytec)) (hc2 : n2 ≤ c2) :
    Calls Tryd.prog 7 #[.slice A1 n1 c1, .slice A2 n2 c2] w fun e w' => e = .returned (.bool true) ∧ Fr (fun _ => False) w w' := by
  have HR1 := Lib.hid h1
  have HR2 := Lib.hid h2
  have HGL := Lib.hid hG
  clear h1 h2 hG
  have long : ∀ (_ : decide (1500 < (n1 : Int)) = true ∨ decide (1500 < (n1 : Int)) = false ∧ decide (1500 < (n2 : Int)) = true),
      Calls Tryd.prog 7 #[.slice A1 n1 c1, .slice A2 n2 c2] w fun e w' => e = .returned (.bool true) ∧ Fr (fun _ => False) w w' := by
    rintro (t | ⟨t, t2⟩)
    all_goals
      go_enter Tryd.func7, Tryd.ntmps7
      go_wp2_with fail
      refine (awake_any K _ HGL.out).mono ?_
      rintro e w1 ⟨rfl, hf1⟩
      go_wp2_with fail
      refine (awake_any K _ (HGL.out.fr0 hf1)).mono ?_
      rintro e w2 ⟨rfl, hf2⟩
      go_wp2
      go_ret
      exact ⟨rfl, hf1.trans hf2 (fun _ _ h => h)⟩
  by_cases hl1 : 1500 < n1
  · exact long (.inl (by simp; omega))
  · by_cases hl2 : 1500 < n2
    · exact long (.inr ⟨by simp; omega, by simp; omega⟩)
    · clear long
      have t : decide (1500 < (n1 : Int)) = false := by simp; omega
      have t2 : decide (1500 < (n2 : Int)) = false := by simp; omega
      have hB1 := len_rd HR1.out
      have hB2 := len_rd HR2.out
      obtain ⟨R, hR⟩ : ∃ R, R = hashV (B1 ++ B2) := ⟨_, rfl⟩
      obtain ⟨hq1, hq2⟩ := hash_eq (B1 ++ B2)
      rw [← hR] at hq1 hq2
      obtain ⟨Z, hZ⟩ : ∃ Z, Z = hashV [] := ⟨_, rfl⟩
      obtain ⟨hz1, hz2⟩ := hash_eq []
      rw [← hZ] at hz1 hz2
      have HRR := Lib.hid hR
      have HZ := Lib.hid hZ
      have HB := Lib.hid (And.intro hB1 hB2)
      clear hR hZ hB1 hB2
      go_enter Tryd.func7, Tryd.ntmps7
      go_wp2_with fail
      refine (awake_any K _ HGL.out).mono ?_
      rintro e w1 ⟨rfl, hf1⟩
      have HF1 := Lib.hid hf1
      have hr1 := HR1.out.fr (hf1.alloc (.cells #[] 5)) (fun _ _ h => h)
      have hr2 := HR2.out.fr (hf1.alloc (.cells #[] 5)) (fun _ _ h => h)
      have h0 := World.ownsRow_made (e := 5) (size := 1) w1 #[] 0 (Nat.le_refl _) (Nat.zero_le _) rfl
      clear hf1
      go_wp2_with (at_builtin; refine wpList_app u8T _ rfl _ _ rfl w1.heap.size _ _ _ rfl h0 _ _ _ _ rfl hr1 (bytec_one _) (by unfold maxLen; omega) (by omega) (by simp) ?_)
      intro A3 c3 w3 _ _ hown3 hfr3 _
      have hf3 : Fr (fun _ => False) w1 w3 := ((Fr.refl _ w1).alloc _).trans hfr3 (fun b hb h => by simp [Value.ownBlock] at h; omega)
      try simp only [Nat.zero_add, List.nil_append] at hown3
      have hr2 := HR2.out.fr (HF1.out.trans hf3 (fun _ _ h => h)) (fun _ _ h => h)
      have HF3 := Lib.hid hf3
      clear hfr3 hf3 hr1 h0
      go_wp2_with (at_builtin; refine wpList_app u8T _ rfl _ _ rfl w1.heap.size _ _ _ rfl hown3 _ _ _ _ rfl hr2 (bytec_one _) (by unfold maxLen; omega) (by omega) (by have := HF3.out.size; omega) ?_)
      intro A4 c4 w4 hc4 _ hown4 hfr4 _
      have hf4 : Fr (fun _ => False) w1 w4 := HF3.out.trans hfr4 (fun b hb h => by have := (hown3.lt b h).1; omega)
      rw [← List.map_append] at hown4
      have HA4 := Lib.hid (Rd.of_own hown4)
      have HF4 := Lib.hid (HF1.out.trans hf4 (fun _ _ h => h))
      clear hfr4 hf4 hr2 hown3 hown4 HF3
      obtain ⟨m, hm⟩ : ∃ m, m = n1 + n2 := ⟨_, rfl⟩
      rw [← hm] at HA4 hc4 ⊢
      have hm3 : m ≤ 3000 := by omega
      have HM := Lib.hid hm
      clear hm
      have call2 : Hid (∀ wx : World, Fr (fun _ => False) w wx → Calls Tryd.prog 9 #[.slice (some ⟨wx.heap.size, 0, none⟩) 2 2] (wx.alloc (.cells #[.slice A1 n1 c1, .slice A2 n2 c2] 22)) fun e w' => e = .returned R ∧ Fr (fun _ => False) (wx.alloc (.cells #[.slice A1 n1 c1, .slice A2 n2 c2] 22)) w') := Lib.hid (by
        intro wx hf
        have := K.of_ (some ⟨wx.heap.size, 0, none⟩) 2 2 [B1, B2] _ (HGL.out.fr0 (hf.alloc _)) (Parts.two (w := wx) rfl 22 (HR1.out.fr hf (fun _ _ h => h)) hc1 (HR2.out.fr hf (fun _ _ h => h)) hc2) (by omega) (by omega) (by have := HB.out; simp; omega)
        rwa [show [B1, B2].flatten = B1 ++ B2 by simp, ← HRR.out] at this)
      have call5 : Hid (∀ wx : World, Fr (fun _ => False) w wx → Calls Tryd.prog 9 #[.slice (some ⟨wx.heap.size, 0, none⟩) 5 5] (wx.alloc (.cells #[.slice none 0 0, .slice A1 n1 c1, .slice none 0 0, .slice A2 n2 c2, .slice none 0 0] 22)) fun e w' => e = .returned R ∧ Fr (fun _ => False) (wx.alloc (.cells #[.slice none 0 0, .slice A1 n1 c1, .slice none 0 0, .slice A2 n2 c2, .slice none 0 0] 22)) w') := Lib.hid (by
        intro wx hf
        have := K.of_ (some ⟨wx.heap.size, 0, none⟩) 5 5 [[], B1, [], B2, []] _ (HGL.out.fr0 (hf.alloc _)) (Parts.five (w := wx) rfl 22 (HR1.out.fr hf (fun _ _ h => h)) hc1 (HR2.out.fr hf (fun _ _ h => h)) hc2) (by omega) (by omega) (by have := HB.out; simp; omega)
        rwa [show [[], B1, [], B2, []].flatten = B1 ++ B2 by simp, ← HRR.out] at this)
      have call1 : Hid (∀ wx : World, Fr (fun _ => False) w4 wx → Calls Tryd.prog 9 #[.slice (some ⟨wx.heap.size, 0, none⟩) 1 1] (wx.alloc (.cells #[.slice A4 m c4] 22)) fun e w' => e = .returned R ∧ Fr (fun _ => False) (wx.alloc (.cells #[.slice A4 m c4] 22)) w') := Lib.hid (by
        intro wx hf
        have := K.of_ (some ⟨wx.heap.size, 0, none⟩) 1 1 [B1 ++ B2] _ (HGL.out.fr0 ((HF4.out.trans hf (fun _ _ h => h)).alloc _)) (Parts.one (w := wx) rfl 22 (HA4.out.fr hf (fun _ _ h => h)) hc4) (by omega) (by omega) (by have := HB.out; simp; omega)
        rwa [show [B1 ++ B2].flatten = B1 ++ B2 by simp, ← HRR.out] at this)
      have calln : Hid (∀ wx : World, Fr (fun _ => False) w wx → Calls Tryd.prog 9 #[.slice (some ⟨wx.heap.size, 0, none⟩) 1 1] (wx.alloc (.cells #[.slice none 0 0] 22)) fun e w' => e = .returned Z ∧ Fr (fun _ => False) (wx.alloc (.cells #[.slice none 0 0] 22)) w') := Lib.hid (by
        intro wx hf
        have := K.of_ (some ⟨wx.heap.size, 0, none⟩) 1 1 [[]] _ (HGL.out.fr0 (hf.alloc _)) (Parts.one (w := wx) rfl 22 (A := none) (B := []) (Rd.nil _ _) (Nat.le_refl _)) (by omega) (by omega) (by simp)
        rwa [show [([] : List UInt8)].flatten = [] by simp, ← HZ.out] at this)
      have call0 : Hid (∀ wx : World, Fr (fun _ => False) w wx → Calls Tryd.prog 9 #[.slice none 0 0] wx fun e w' => e = .returned Z ∧ Fr (fun _ => False) wx w') := Lib.hid (by
        intro wx hf
        have := K.of_ none 0 0 [] wx (HGL.out.fr0 hf) (Parts.nil _) (by omega) (by omega) (by simp)
        rwa [show ([] : List (List UInt8)).flatten = [] by simp, ← HZ.out] at this)
      clear HR1 HR2 HA4 HRR HZ HB hm3 hc4 HF1
      go_wp2_with fail
      refine (call2.out _ HF4.out).mono ?_
      rintro e w5 ⟨rfl, hf5⟩
      have HF5 := Lib.hid ((Fr.refl (fun _ => False) w4).alloc (.cells #[.slice A1 n1 c1, .slice A2 n2 c2] 22) |>.trans hf5 (fun _ _ h => h))
      clear hf5
      go_wp2_with fail
      refine (call1.out _ HF5.out).mono ?_
      rintro e w6 ⟨rfl, hf6⟩
      have HF6 := Lib.hid ((HF5.out.alloc _).trans hf6 (fun _ _ h => h))
      clear hf6 HF5
      go_wp2_with fail
      refine (call5.out _ (HF4.out.trans HF6.out (fun _ _ h => h))).mono ?_
      rintro e w7 ⟨rfl, hf7⟩
      have HF7 := Lib.hid ((HF6.out.alloc _).trans hf7 (fun _ _ h => h))
      clear hf7 HF6
      go_wp2_with fail
      refine (call1.out _ HF7.out).mono ?_
      rintro e w8 ⟨rfl, hf8⟩
      have HF8 := Lib.hid ((HF7.out.alloc _).trans hf8 (fun _ _ h => h))
      clear hf8 HF7
      go_wp2_with fail
      refine (calln.out _ (HF4.out.trans HF8.out (fun _ _ h => h))).mono ?_
      rintro e w9 ⟨rfl, hf9⟩
      have HF9 := Lib.hid ((HF8.out.alloc _).trans hf9 (fun _ _ h => h))
      clear hf9 HF8
      go_wp2_with fail
      refine (call0.out _ (HF4.out.trans HF9.out (fun _ _ h => h))).mono ?_
      rintro e wa ⟨rfl, hfa⟩
      have HFa := Lib.hid (HF4.out.trans (HF9.out.trans hfa (fun _ _ h => h)) (fun _ _ h => h))
      clear hfa HF9
      go_wp2
      go_ret
      exact ⟨rfl, HFa.out⟩
end Go.Proofs.YtjjeahijcibafaaDoor
