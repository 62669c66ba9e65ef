/-
  The law ShaStays: asking for the hash changes nothing; what is written into parts later isn't seen.
-/
import Derived.Test.YtjjeahijcibafaaDoorShqL
import Derived.Test.YtjjeahijcibafaaDoorShaJ
import Derived.Test.YtjjeahijcibafaaDoorReg
namespace Go.Proofs.YtjjeahijcibafaaDoor
open Go.RowKit ShaM Mem Go.Lib
attribute [local go_sem ↓] Go.wp_at_zero Go.wp_at_succ

theorem own_set' {w : World} {base : Nat} {e : TypeId} {g n c : Nat} {xs : List Value} (h : w.ownsRow base e 1 (.slice (some ⟨g, 0, none⟩) n c) n xs) (i : Nat) (hi : i < n) (u : Value) :
    (w.setCell ⟨g, i, none⟩ u).ownsRow base e 1 (.slice (some ⟨g, 0, none⟩) n c) n (xs.set i u) := by
  refine ⟨by simpa using h.1, ?_⟩
  rcases h.2 with ⟨hv, rfl⟩ | ⟨g', cap, cur, hv, hb, hg, hnc, hm, hcs, ht⟩
  · omega
  · injection hv with hA h1 h2
    injection hA with hA
    injection hA with hA
    subst hA h2
    refine .inr ⟨g, c, cur.setIfInBounds i u, rfl, hb, by simp [World.setCell, Array.getElem?_modify, hg], hnc, hm, by simpa using hcs, ?_⟩
    simp only [Nat.mul_one] at ht ⊢
    rw [Array.toList_setIfInBounds, List.take_set, ht]

theorem Parts.of_row {w : World} {b : Nat} {t : TypeId} {vs : List Value} {L : List (List UInt8)} (hr : w.heap[b]? = some (.cells vs.toArray t (0, 0))) (hl : vs.length = L.length)
    (h : ∀ (i : Nat) (v : Value) (B : List UInt8), vs[i]? = some v → L[i]? = some B → ∃ Ai ci, v = .slice Ai B.length ci ∧ B.length ≤ ci ∧ Rd w Ai B.length (B.map bytec)) : Parts w (some ⟨b, 0, none⟩) vs.length L := by
  have hx := (show Row w b t vs from hr).rd 0 vs.length (by omega)
  rw [List.drop_zero, List.take_length] at hx
  exact ⟨vs, hx, hl, h⟩

set_option maxRecDepth 100000 in
set_option maxHeartbeats 3200000 in
theorem stays_law (A1 A2 : Option Addr) (n1 c1 n2 c2 : Nat) (B1 B2 : List UInt8) (w : World) (hG : Gl w) (h1 : Rd w A1 n1 (B1.map bytec)) (hc1 : n1 ≤ c1) (h2 : Rd w A2 n2 (B2.map bytec)) (hc2 : n2 ≤ c2) :
    Calls Tryd.prog 6 #[.slice A1 n1 c1, .slice A2 n2 c2] w fun e w' => e = .returned (.bool true) ∧ Fr (fun _ => False) w w' := by
  have HR1 := Lib.hid h1
  have HR2 := Lib.hid h2
  have HGL := Lib.hid hG
  clear h1 h2 hG
  have long : ∀ (_ : decide (1500 < (n1 : Int)) = true ∨ decide (1500 < (n1 : Int)) = false ∧ decide (1500 < (n2 : Int)) = true),
      Calls Tryd.prog 6 #[.slice A1 n1 c1, .slice A2 n2 c2] w fun e w' => e = .returned (.bool true) ∧ Fr (fun _ => False) w w' := by
    rintro (t | ⟨t, t2⟩)
    all_goals
      go_enter Tryd.func6, Tryd.ntmps6
      go_wp2_with fail
      refine (awake_any shaP _ HGL.out).mono ?_
      rintro e w1 ⟨rfl, hf1⟩
      go_wp2_with fail
      refine (awake_any shaP _ (HGL.out.fr0 hf1)).mono ?_
      rintro e w2 ⟨rfl, hf2⟩
      go_wp2
      go_ret
      exact ⟨rfl, hf1.trans hf2 (fun _ _ h => h)⟩
  by_cases hl1 : 1500 < n1
  · exact long (.inl (by simp; omega))
  · by_cases hl2 : 1500 < n2
    · exact long (.inr ⟨by simp; omega, by simp; omega⟩)
    · clear long
      have t : decide (1500 < (n1 : Int)) = false := by simp; omega
      have t2 : decide (1500 < (n2 : Int)) = false := by simp; omega
      have hB1 := len_rd HR1.out
      have hB2 := len_rd HR2.out
      have HB := Lib.hid (And.intro hB1 hB2)
      obtain ⟨Z3, hZ3⟩ : ∃ Z3, Z3 = zst := ⟨_, rfl⟩
      have hz3 := fun w => zero_hasher w
      rw [← hZ3] at hz3
      have HZ3 := Lib.hid hZ3
      clear hZ3 hB1 hB2
      go_enter Tryd.func6, Tryd.ntmps6
      go_wp2_with fail
      refine (awake_any shaP _ HGL.out).mono ?_
      rintro e w1 ⟨rfl, hf1⟩
      have HF1 := Lib.hid hf1
      clear hf1
      go_upto_region 4 with fail
      obtain ⟨w2, hw2⟩ : ∃ w2, w1.alloc (.cells Z3.toArray 41) = w2 := ⟨_, rfl⟩
      rw [hw2]
      obtain ⟨g, hg⟩ : ∃ g, g = w1.heap.size := ⟨_, rfl⟩
      have hrow : Row w2 g 41 zst := by rw [← hw2, hg, ← HZ3.out]; exact Row.new _ _ _
      have hf2 : Fr (fun _ => False) w1 w2 := by rw [← hw2]; exact (Fr.refl _ _).alloc _
      have hfw := HF1.out.trans hf2 (fun _ _ h => h)
      have hgg : w.heap.size ≤ g := by have := HF1.out.size; omega
      have hg2 : 2 ≤ g := by have := HGL.out.size; omega
      have hgs : g < w2.heap.size := hrow.lt
      rw [← hg]
      have hr1 := HR1.out.fr (hfw.alloc (.cells #[] 5)) (fun _ _ h => h)
      have h0 := World.ownsRow_made (e := 5) (size := 1) w2 #[] 0 (Nat.le_refl _) (Nat.zero_le _) rfl
      have HH := Lib.hid (zst_ha hrow)
      have HFW := Lib.hid hfw
      have HGG := Lib.hid hgg
      clear hw2 hg hrow hf2 hfw hgg hz3 HF1
      go_wp2_with (at_builtin; refine wpList_app u8T _ rfl _ _ rfl w2.heap.size _ _ _ rfl h0 _ _ _ _ rfl hr1 (bytec_one _) (by unfold maxLen; omega) (by omega) (by simp) ?_)
      intro A3 c3 w3 hc3 _ hown3 hfr3 _
      have hf3 : Fr (fun _ => False) w2 w3 := ((Fr.refl _ w2).alloc _).trans hfr3 (fun b hb h => by simp [Value.ownBlock] at h; omega)
      try simp only [Nat.zero_add, List.nil_append] at hown3
      have hc3 : n1 ≤ c3 := by omega
      have hA3 : ∀ ad, A3 = some ad → ad.block ≠ g := by
        intro ad h
        subst h
        have := (hown3.lt ad.block rfl).1
        omega
      have hgl3 := HGL.out.fr0 (HFW.out.trans hf3 (fun _ _ h => h))
      have hwrite := write_any g 1 1 41 (some ⟨w3.heap.size, 0, none⟩) [] [B1] (w3.alloc (.cells #[.slice A3 n1 c3] 22)) (HH.out.fr (hf3.alloc _) (fun h => h)) (hgl3.fr0 ((Fr.refl _ w3).alloc _)) hg2 (PartsG.one rfl (by have := hf3.size; omega) _ (Rd.of_own hown3) hc3 (fun _ => hA3)) (by omega) (by have := HB.out; simp; omega)
      rw [List.nil_append, show [B1].flatten = B1 by simp] at hwrite
      have HWRITE := Lib.hid hwrite
      have HO3 := Lib.hid hown3
      have HF3 := Lib.hid hf3
      have HC3 := Lib.hid hc3
      have HA3 := Lib.hid hA3
      clear hfr3 hf3 hown3 hc3 hr1 h0 hA3 hgl3 hwrite
      go_wp2_with fail
      refine HWRITE.out.mono ?_
      rintro e w4 ⟨rfl, hha4, hf4⟩
      have hf34 : Fr (fun b => b = g) w3 w4 := ((Fr.refl (fun b => b = g) w3).alloc _).trans hf4 (fun _ _ h => h)
      have hown4 := hf34.own HO3.out (fun kk h e => by have := (HO3.out.lt kk h).1; omega)
      have HHA4 := Lib.hid hha4
      have HO4 := Lib.hid hown4
      have HF4 := Lib.hid ((HF3.out.mono (fun _ _ h => h.elim)).trans hf34 (T := fun b => b = g) (fun _ _ h => h))
      have hs4 := (HF4.out).size
      have HS4 := Lib.hid hs4
      clear hha4 hf4 hf34 hown4 HWRITE hs4 HO3 HF3
      go_wp2_with fail
      go_loopw [7] (fun i wr => ∃ k : Nat, k ≤ n1 ∧ i = .int .i64 (k : Int) ∧ Hid (∃ xs : List UInt8, xs.length = n1 ∧ wr.ownsRow w2.heap.size 5 1 (.slice A3 n1 c3) n1 (xs.map bytec)) ∧ Hid (Ha wr g 41 (B1.map UInt8.toNat)) ∧ Fr (fun b => b = g) w2 wr)
        (fun i _ => n1 - (intOf i).toNat)
      case atStart => exact ⟨0, by omega, rfl, Lib.hid ⟨B1, HB.out.1, HO4.out⟩, HHA4, HF4.out⟩
      case round =>
        obtain ⟨k, hk, rfl, HO, HW, hfr⟩ := hrel
        by_cases hlt : k < n1
        · obtain ⟨xs, hxl, hown⟩ := HO.out
          obtain ⟨u, hu⟩ : ∃ u, xs[k]? = some u := ⟨_, List.getElem?_eq_getElem (by omega)⟩
          obtain ⟨g5, rfl, hcell, hfree⟩ := own_at hown (i := k) (u := bytec u) (by rw [List.getElem?_map, hu]; rfl)
          unfold bytec at hcell
          have ew : IntKind.u8.wrap ((u.toNat : Int) + 1) = (((u + 1).toNat : Nat) : Int) := by rw [IntKind.wrap_u8, UInt8.toNat_add]; simp
          have hset := own_set' hown k hlt (bytec (u + 1))
          rw [← List.map_set] at hset
          unfold bytec at hset
          have hg5 : w2.heap.size ≤ g5 := (hown.lt g5 rfl).1
          have hbk : (k : Int) < (n1 : Int) := by omega
          obtain ⟨y, hy⟩ : ∃ y, y = (u + 1).toNat := ⟨_, rfl⟩
          rw [← hy] at ew hset
          have hha := HW.out.fr (Fr.set1 wr g5 k (.int .u8 (y : Int))) (by omega)
          have HHA := Lib.hid hha
          have HXL := Lib.hid hxl
          have HSET : Hid (∃ xs : List UInt8, xs.length = n1 ∧ (wr.setCell ⟨g5, k, none⟩ (.int .u8 (y : Int))).ownsRow w2.heap.size 5 1 (.slice (some ⟨g5, 0, none⟩) n1 c3) n1 (xs.map bytec)) := Lib.hid ⟨xs.set k (u + 1), by rw [List.length_set, hxl], by unfold bytec; exact hset⟩
          have HFR := Lib.hid (hfr.trans (Fr.set1 wr g5 k (.int .u8 (y : Int))) (T := fun b => b = g5) (S := fun b => b = g) (fun b hb h => by omega))
          clear hxl hown hu hset hy hha hfr
          go_wp2_with fail
          exact ⟨⟨k + 1, by omega, by go_num, HSET, HHA, HFR.out⟩, by simp [intOf]; omega⟩
        · obtain rfl : k = n1 := by omega
          obtain ⟨X, hX⟩ : ∃ X : List Value, X = (sha keys first (B1.map UInt8.toNat)).map byten := ⟨_, rfl⟩
          have hXl : X.toArray.size = 32 := by rw [hX]; simp [sha, outs]
          have hX1 : X.toArray.all (·.oneCell') = true := by rw [hX, List.all_toArray, List.all_eq_true]; exact byten_one _
          have hXh : hashV B1 = .agg X.toArray := by rw [hX]; rfl
          have hgl := HGL.out.fr0 (HFW.out.trans hfr (fun b hb h => by have := HGG.out; omega))
          have hsum := fun w hf => sum_hash g 41 B1 w (HW.out.fr (w' := w) hf (fun h => h)) (hgl.fr0 hf) (by have := HB.out; omega)
          rw [hXh] at hsum
          have HSUM := Lib.hid hsum
          have HX := Lib.hid hX
          have HXL := Lib.hid hXl
          have HX1 := Lib.hid hX1
          have HXH := Lib.hid hXh
          have HGLR := Lib.hid hgl
          have HFR := Lib.hid hfr
          clear hX hXl hX1 hXh hgl hsum hfr HO HO4
          go_wp2_with fail
          refine (HSUM.out _ (Fr.refl _ _)).mono ?_
          rintro e w5 ⟨rfl, hf5⟩
          have HF5 := Lib.hid hf5
          clear hf5
          go_wp2_with fail
          refine (HSUM.out _ HF5.out).mono ?_
          rintro e w6 ⟨rfl, hf6⟩
          have HF6 := Lib.hid (HF5.out.trans hf6 (fun _ _ h => h))
          clear hf6
          go_wp2_with (refine wpList_store_blk hashT rfl (.tmp 8) (.tmp 41) rfl w6.heap.size rfl X.toArray rfl _ _ (heap_alloc2_old w6 (.cells (List.replicate 32 (Value.int .u8 0)).toArray 25) (.cells (List.replicate 32 (Value.int .u8 0)).toArray 25)) HXL.out (by rfl) HX1.out ?_)
          intro w7 hg7 hf7
          obtain ⟨gx, hgx⟩ : ∃ gx, gx = w6.heap.size := ⟨_, rfl⟩
          obtain ⟨gy, hgy⟩ : ∃ gy, gy = gx + 1 := ⟨_, rfl⟩
          have hy7 := hf7.blk (heap_alloc2_new w6 (.cells (List.replicate 32 (Value.int .u8 0)).toArray 25) (.cells (List.replicate 32 (Value.int .u8 0)).toArray 25)) (by omega)
          have hf67 : Fr (fun _ => False) w6 w7 := (((Fr.refl (fun _ => False) w6).alloc _).alloc _).trans hf7 (fun b hb h => by omega)
          rw [← hgx] at hg7 hy7 ⊢
          rw [← hgy] at hy7 ⊢
          have HG7 := Lib.hid hg7
          have HY7 := Lib.hid hy7
          have HF7 := Lib.hid (HF6.out.trans hf67 (fun _ _ h => h))
          have HGX := Lib.hid (show wr.heap.size ≤ gx by have := HF6.out.size; omega)
          have HGY := Lib.hid hgy
          clear hgx hgy hg7 hf7 hy7 hf67
          go_wp2_with (refine wpList_store_blk hashT rfl (.tmp 9) (.tmp 42) rfl gy rfl X.toArray rfl _ _ HY7.out HXL.out (by rfl) HX1.out ?_)
          intro w8 hg8 hf8
          have HY8 := Lib.hid hg8
          have HX8 := Lib.hid (hf8.blk HG7.out (by have := HGY.out; omega))
          have HF8 := Lib.hid (HF7.out.trans hf8 (fun b hb h => by have := HGX.out; have := HGY.out; omega))
          clear hg8 hf8 HG7 HY7
          have hgx : g ≠ gx := by have := HGX.out; have := HFR.out.size; omega
          have hfw8 : Fr (fun _ => False) w w8 := (HFW.out.trans HFR.out (fun b hb h => by have := HGG.out; omega)).trans HF8.out (fun _ _ h => h.elim)
          have hr2 := HR2.out.fr hfw8 (fun _ _ h => h)
          have hwrite := write_any g 1 1 41 (some ⟨w8.heap.size, 0, none⟩) (B1.map UInt8.toNat) [B2] (w8.alloc (.cells #[.slice A2 n2 c2] 22)) (HW.out.fr (HF8.out.alloc _) (fun h => h)) (HGL.out.fr0 (hfw8.alloc _)) hg2 (PartsG.one rfl (by have := HF8.out.size; have := HFR.out.size; omega) _ hr2 hc2 (fun hn ad e => by have := HR2.out.lt hn ad e; have := HGG.out; omega)) (by omega) (by have := HB.out; simp; omega)
          rw [← List.map_append, show B1 ++ [B2].flatten = B1 ++ B2 by simp] at hwrite
          have HWRITE := Lib.hid hwrite
          have HFW8 := Lib.hid hfw8
          clear hr2 hwrite hfw8
          go_wp2_with fail
          refine HWRITE.out.mono ?_
          rintro e w9 ⟨rfl, hha9, hf9⟩
          have hf89 : Fr (fun b => b = g) w8 w9 := ((Fr.refl (fun b => b = g) w8).alloc _).trans hf9 (fun _ _ h => h)
          have hfw9 : Fr (fun _ => False) w w9 := HFW8.out.trans hf89 (fun b hb h => by have := HGG.out; omega)
          have hwrite2 := write_any g 0 0 41 none ((B1 ++ B2).map UInt8.toNat) [] w9 hha9 (HGL.out.fr0 hfw9) hg2 ⟨[], Rd.nil _ _, rfl, fun h => by omega, fun i v B hv _ => by simp at hv⟩ (by omega) (by have := HB.out; simp; omega)
          rw [← List.map_append, show (B1 ++ B2) ++ ([] : List (List UInt8)).flatten = B1 ++ B2 by simp] at hwrite2
          have HWRITE2 := Lib.hid hwrite2
          have HX9 := Lib.hid (hf89.blk HX8.out (Ne.symm hgx))
          have HY9 := Lib.hid (hf89.blk HY8.out (by have := HGY.out; have := HGX.out; have := HFR.out.size; omega))
          have HFW9 := Lib.hid hfw9
          have HGX2 := Lib.hid (show g ≠ gx ∧ g ≠ gy by have := HGY.out; have := HGX.out; have := HFR.out.size; omega)
          clear hha9 hf9 hf89 hfw9 hwrite2 HWRITE HX8 HY8
          go_wp2_with fail
          refine HWRITE2.out.mono ?_
          rintro e wa ⟨rfl, hhaa, hfa⟩
          have HHA := Lib.hid hhaa
          have HXa := Lib.hid (hfa.blk HX9.out (Ne.symm HGX2.out.1))
          have HYa := Lib.hid (hfa.blk HY9.out (Ne.symm HGX2.out.2))
          have HFWa := Lib.hid (HFW9.out.trans hfa (fun b hb h => by have := HGG.out; omega))
          clear hhaa hfa HX9 HY9 HFW9 HWRITE2 hgx
          obtain ⟨R, hR⟩ : ∃ R, R = X.toArray := ⟨_, rfl⟩
          obtain ⟨R2, hR2⟩ : ∃ R2, R2 = hashV (B1 ++ B2) := ⟨_, rfl⟩
          obtain ⟨hq1, hq2⟩ := hash_eq B1
          obtain ⟨hq3, hq4⟩ := hash_eq (B1 ++ B2)
          rw [HXH.out, ← hR] at hq1 hq2
          rw [← hR2] at hq3 hq4
          rw [← hR] at HXa HYa HXL
          obtain ⟨M, hM⟩ : ∃ M, M = k + n2 := ⟨_, rfl⟩
          have hBl : (B1 ++ B2).length = M := by rw [List.length_append, HB.out.1, HB.out.2, hM]
          have hof1 : ∀ (wx : World) (b : Nat), Fr (fun _ => False) wa wx → wx.heap[b]? = some (.cells #[.slice A1 k c1] 22 (0, 0)) → Calls Tryd.prog 9 #[.slice (some ⟨b, 0, none⟩) 1 1] wx fun e w' => e = .returned (.agg R) ∧ Fr (fun _ => False) wx w' := by
            intro wx b hf hrow
            have hfx := HFWa.out.trans hf (fun _ _ h => h)
            have h := of_any (some ⟨b, 0, none⟩) 1 1 [B1] wx (HGL.out.fr0 hfx) (Parts.of_row (vs := [.slice A1 k c1]) hrow rfl (fun i v B hv hB => by
              match i, hv, hB with
              | 0, hv, hB =>
                simp at hv hB
                subst hv hB
                exact ⟨A1, c1, by rw [HB.out.1], by rw [HB.out.1]; exact hc1, by rw [HB.out.1]; exact HR1.out.fr hfx (fun _ _ h => h)⟩)) (by omega) (by have := HB.out; simp; omega)
            rw [show [B1].flatten = B1 by simp, HXH.out, ← hR] at h
            exact h
          have OF1 := Lib.hid hof1
          have hsm : ∀ wx : World, Fr (fun _ => False) wa wx → Calls Tryd.prog 15 #[.pointer (some ⟨g, 0, none⟩)] wx fun e w' => e = .returned R2 ∧ Fr (fun _ => False) wx w' := by
            intro wx hf
            rw [hR2]
            exact sum_hash g _ _ wx (HHA.out.fr hf (fun h => h)) (HGL.out.fr0 (HFWa.out.trans hf (fun _ _ h => h))) (by rw [hBl]; omega)
          have SUM := Lib.hid hsm
          have hof2 : ∀ (wx : World) (b : Nat), Fr (fun _ => False) wa wx → wx.heap[b]? = some (.cells #[.slice A1 k c1, .slice A2 n2 c2] 22 (0, 0)) → Calls Tryd.prog 9 #[.slice (some ⟨b, 0, none⟩) 2 2] wx fun e w' => e = .returned R2 ∧ Fr (fun _ => False) wx w' := by
            intro wx b hf hrow
            have hfx := HFWa.out.trans hf (fun _ _ h => h)
            have h := of_any (some ⟨b, 0, none⟩) 2 2 [B1, B2] wx (HGL.out.fr0 hfx) (Parts.of_row (vs := [.slice A1 k c1, .slice A2 n2 c2]) hrow rfl (fun i v B hv hB => by
              match i, hv, hB with
              | 0, hv, hB =>
                simp at hv hB
                subst hv hB
                exact ⟨A1, c1, by rw [HB.out.1], by rw [HB.out.1]; exact hc1, by rw [HB.out.1]; exact HR1.out.fr hfx (fun _ _ h => h)⟩
              | 1, hv, hB =>
                simp at hv hB
                subst hv hB
                exact ⟨A2, c2, by rw [HB.out.2], by rw [HB.out.2]; exact hc2, by rw [HB.out.2]; exact HR2.out.fr hfx (fun _ _ h => h)⟩)) (by omega) (by have := HB.out; simp; omega)
            rw [show [B1, B2].flatten = B1 ++ B2 by simp, ← hR2] at h
            exact h
          have OF2 := Lib.hid hof2
          have hln : ∀ wx : World, Fr (fun _ => False) wa wx → Calls Tryd.prog 14 #[.pointer (some ⟨g, 0, none⟩)] wx fun e w' => e = .returned (.int .u64 (M : Int)) ∧ wx = w' := by
            intro wx hf
            have h := len_any g _ _ wx (HHA.out.fr hf (fun h => h))
            rw [List.length_map, hBl] at h
            exact h
          have LEN := Lib.hid hln
          have eM : IntKind.i64.wrap ((k : Int) + (n2 : Int)) = (M : Int) := by rw [IntWalk.i64_in _ (by omega)]; omega
          have eM2 : IntKind.u64.wrap (M : Int) = (M : Int) := by rw [IntKind.wrap_u64]; omega
          have eM4 : IntKind.i64.wrap (M : Int) = (M : Int) := IntWalk.i64_in _ (by omega)
          have eM3 : (k : Int) + (n2 : Int) = (M : Int) := by omega
          have HRL := Lib.hid HXL.out
          clear hR hR2 hM hBl hof1 hsm hof2 hln HSUM HXL HX1 HX HXH
          go_upto_region 13 with fail
          refine wp_region_noPanic ?_
          refine wp_region_held_drew (S := (fun w' => Fr (fun _ => False) wa w')) (by kernel_rfl) ?_ (fun hHeld => ?_)
          · exact (Fr.refl _ _).drew
          refine wpAnyH_take (i := 0) rfl (by kernel_rfl) (by kernel_rfl) (by kernel_rfl) (fun _ _ _ h => h) (yields_blk hashT (by rfl) (.tmp 8) (by rfl) gx (by rfl) R 25 (fun w h => h.blk HXa.out (fun h => h)) HRL.out) hHeld ?_
          (try simp only [Act.put, List.setIfInBounds_toArray, List.set_cons_zero, List.set_cons_succ, List.getElem_toArray, List.getElem_cons_zero])
          refine wpAnyH_take (i := 1) rfl (by kernel_rfl) (by kernel_rfl) (by kernel_rfl) (fun _ _ _ h => h) (yields_blk hashT (by rfl) (.tmp 9) (by rfl) gy (by rfl) R 25 (fun w h => h.blk HYa.out (fun h => h)) HRL.out) hHeld ?_
          (try simp only [Act.put, List.setIfInBounds_toArray, List.set_cons_zero, List.set_cons_succ, List.getElem_toArray, List.getElem_cons_zero, List.getElem_cons_succ])
          refine wpAnyH_take (i := 2) (v := ?va2) rfl (by kernel_rfl) (by kernel_rfl) (by kernel_rfl) (fun _ _ _ h => h) (Or.inl ⟨by rfl, ?hya2⟩) hHeld ?resta2
          case hya2 => intro w hSw; (try dsimp only at hSw); go_simp; try (with_reducible rfl)
          (try simp only [Act.put, List.setIfInBounds_toArray, List.set_cons_zero, List.set_cons_succ, List.getElem_toArray, List.getElem_cons_zero, List.getElem_cons_succ])
          refine wpAnyH_take (i := 3) (v := ?va3) rfl (by kernel_rfl) (by kernel_rfl) (by kernel_rfl) (fun _ _ _ h => h) (Or.inl ⟨by rfl, ?hya3⟩) hHeld ?resta3
          case hya3 => intro w hSw; (try dsimp only at hSw); go_simp; try (with_reducible rfl)
          (try simp only [Act.put, List.setIfInBounds_toArray, List.set_cons_zero, List.set_cons_succ, List.getElem_toArray, List.getElem_cons_zero, List.getElem_cons_succ])
          refine wpAnyH_take (i := 4) rfl (by kernel_rfl) (by kernel_rfl) (by kernel_rfl) (fun _ _ _ h => h) (yields_blk hashT (by rfl) (.tmp 8) (by rfl) gx (by rfl) R 25 (fun w h => h.blk HXa.out (fun h => h)) HRL.out) hHeld ?_
          (try simp only [Act.put, List.setIfInBounds_toArray, List.set_cons_zero, List.set_cons_succ, List.getElem_toArray, List.getElem_cons_zero, List.getElem_cons_succ])
          refine wpAnyH_take (i := 5) (v := ?va5) rfl (by kernel_rfl) (by kernel_rfl) (by kernel_rfl) (fun _ _ _ h => h) (Or.inl ⟨by rfl, ?hya5⟩) hHeld ?resta5
          case hya5 => intro w hSw; (try dsimp only at hSw); go_simp; try (with_reducible rfl)
          (try simp only [Act.put, List.setIfInBounds_toArray, List.set_cons_zero, List.set_cons_succ, List.getElem_toArray, List.getElem_cons_zero, List.getElem_cons_succ])
          refine wpAnyH_ready (rs := [6]) (by kernel_rfl) (by simp) ?_
          refine AllReadyH.cons rfl (fun Kx hKx => ?_) AllReadyH.nil
          go_simp
          refine hKx.out _ _ ?_ (fun hHeld => ?_)
          · exact hHeld.alloc _
          clear hKx Kx
          (try simp only [Act.put, List.setIfInBounds_toArray, List.set_cons_zero, List.set_cons_succ, List.getElem_toArray, List.getElem_cons_zero, List.getElem_cons_succ])
          refine wpAnyH_ready (rs := [7]) (by kernel_rfl) (by simp) ?_
          refine AllReadyH.cons rfl (fun Kx hKx => ?_) AllReadyH.nil
          go_simp
          have hH0 := hHeld
          refine (OF1.out _ _ hHeld (heap_alloc_new wa _)).mono ?_
          rintro e wb ⟨rfl, hfb⟩
          refine hKx.out _ _ ?_ (fun hHeld => ?_)
          · exact hHeld.trans hfb (fun _ _ h => h)
          clear hKx Kx
          (try simp only [Act.put, List.setIfInBounds_toArray, List.set_cons_zero, List.set_cons_succ, List.getElem_toArray, List.getElem_cons_zero, List.getElem_cons_succ])
          refine wpAnyH_take (i := 8) (v := ?va8) rfl (by kernel_rfl) (by kernel_rfl) (by kernel_rfl) (fun _ _ _ h => h) (Or.inl ⟨by rfl, ?hya8⟩) hHeld ?resta8
          case hya8 => intro w hSw; (try dsimp only at hSw); go_simp; try (with_reducible rfl)
          (try simp only [Act.put, List.setIfInBounds_toArray, List.set_cons_zero, List.set_cons_succ, List.getElem_toArray, List.getElem_cons_zero, List.getElem_cons_succ])
          refine wpAnyH_take (i := 9) (v := ?va9) rfl (by kernel_rfl) (by kernel_rfl) (by kernel_rfl) (fun _ _ _ h => h) (Or.inl ⟨by rfl, ?hya9⟩) hHeld ?resta9
          case hya9 => intro w hSw; (try dsimp only at hSw); go_simp; try (with_reducible rfl)
          (try simp only [Act.put, List.setIfInBounds_toArray, List.set_cons_zero, List.set_cons_succ, List.getElem_toArray, List.getElem_cons_zero, List.getElem_cons_succ])
          refine wpAnyH_take (i := 10) (v := ?va10) rfl (by kernel_rfl) (by kernel_rfl) (by kernel_rfl) (fun _ _ _ h => h) (Or.inl ⟨by rfl, ?hya10⟩) hHeld ?resta10
          case hya10 => intro w hSw; (try dsimp only at hSw); go_simp; try (with_reducible rfl)
          (try simp only [Act.put, List.setIfInBounds_toArray, List.set_cons_zero, List.set_cons_succ, List.getElem_toArray, List.getElem_cons_zero, List.getElem_cons_succ])
          refine wpAnyH_take (i := 12) (v := ?va12) rfl (by kernel_rfl) (by kernel_rfl) (by kernel_rfl) (fun _ _ _ h => h) (Or.inl ⟨by rfl, ?hya12⟩) hHeld ?resta12
          case hya12 => intro w hSw; (try dsimp only at hSw); go_simp; try (with_reducible rfl)
          (try simp only [Act.put, List.setIfInBounds_toArray, List.set_cons_zero, List.set_cons_succ, List.getElem_toArray, List.getElem_cons_zero, List.getElem_cons_succ])
          refine wpAnyH_take (i := 13) (v := ?va13) rfl (by kernel_rfl) (by kernel_rfl) (by kernel_rfl) (fun _ _ _ h => h) (Or.inl ⟨by rfl, ?hya13⟩) hHeld ?resta13
          case hya13 => intro w hSw; (try dsimp only at hSw); go_simp; try (with_reducible rfl)
          (try simp only [Act.put, List.setIfInBounds_toArray, List.set_cons_zero, List.set_cons_succ, List.getElem_toArray, List.getElem_cons_zero, List.getElem_cons_succ])
          refine wpAnyH_ready (rs := [11, 14]) (by kernel_rfl) (by simp) ?_
          refine AllReadyH.cons rfl (fun Kx hKx => ?_) ?_
          · go_simp
            refine (SUM.out _ hHeld).mono ?_
            rintro e wc ⟨rfl, hfc⟩
            refine hKx.out _ _ ?_ (fun hHeld => ?_)
            · exact hHeld.trans hfc (fun _ _ h => h)
            clear hKx Kx
            (try simp only [Act.put, List.setIfInBounds_toArray, List.set_cons_zero, List.set_cons_succ, List.getElem_toArray, List.getElem_cons_zero, List.getElem_cons_succ])
            refine wpAnyH_ready (rs := [14]) (by kernel_rfl) (by simp) ?_
            refine AllReadyH.cons rfl (fun Kx hKx => ?_) AllReadyH.nil
            go_simp
            refine hKx.out _ _ ?_ (fun hHeld => ?_)
            · exact hHeld.alloc _
            clear hKx Kx
            (try simp only [Act.put, List.setIfInBounds_toArray, List.set_cons_zero, List.set_cons_succ, List.getElem_toArray, List.getElem_cons_zero, List.getElem_cons_succ])
            refine wpAnyH_ready (rs := [15]) (by kernel_rfl) (by simp) ?_
            refine AllReadyH.cons rfl (fun Kx hKx => ?_) AllReadyH.nil
            go_simp
            refine (OF2.out _ _ hHeld (heap_alloc_new wc _)).mono ?_
            rintro e wd ⟨rfl, hfd⟩
            refine hKx.out _ _ ?_ (fun hHeld => ?_)
            · exact hHeld.trans hfd (fun _ _ h => h)
            clear hKx Kx
            (try simp only [Act.put, List.setIfInBounds_toArray, List.set_cons_zero, List.set_cons_succ, List.getElem_toArray, List.getElem_cons_zero, List.getElem_cons_succ])
            refine wpAnyH_take (i := 16) (v := ?vb16) rfl (by kernel_rfl) (by kernel_rfl) (by kernel_rfl) (fun _ _ _ h => h) (Or.inl ⟨by rfl, ?hyb16⟩) hHeld ?restb16
            case hyb16 => intro w hSw; (try dsimp only at hSw); go_simp; try (with_reducible rfl)
            (try simp only [Act.put, List.setIfInBounds_toArray, List.set_cons_zero, List.set_cons_succ, List.getElem_toArray, List.getElem_cons_zero, List.getElem_cons_succ])
            refine wpAnyH_take (i := 17) (v := ?vb17) rfl (by kernel_rfl) (by kernel_rfl) (by kernel_rfl) (fun _ _ _ h => h) (Or.inl ⟨by rfl, ?hyb17⟩) hHeld ?restb17
            case hyb17 => intro w hSw; (try dsimp only at hSw); go_simp; try (with_reducible rfl)
            (try simp only [Act.put, List.setIfInBounds_toArray, List.set_cons_zero, List.set_cons_succ, List.getElem_toArray, List.getElem_cons_zero, List.getElem_cons_succ])
            refine wpAnyH_take (i := 18) (v := ?vb18) rfl (by kernel_rfl) (by kernel_rfl) (by kernel_rfl) (fun _ _ _ h => h) (Or.inl ⟨by rfl, ?hyb18⟩) hHeld ?restb18
            case hyb18 => intro w hSw; (try dsimp only at hSw); go_simp; try (with_reducible rfl)
            (try simp only [Act.put, List.setIfInBounds_toArray, List.set_cons_zero, List.set_cons_succ, List.getElem_toArray, List.getElem_cons_zero, List.getElem_cons_succ])
            refine wpAnyH_take (i := 19) (v := ?vb19) rfl (by kernel_rfl) (by kernel_rfl) (by kernel_rfl) (fun _ _ _ h => h) (Or.inl ⟨by rfl, ?hyb19⟩) hHeld ?restb19
            case hyb19 => intro w hSw; (try dsimp only at hSw); go_simp; try (with_reducible rfl)
            (try simp only [Act.put, List.setIfInBounds_toArray, List.set_cons_zero, List.set_cons_succ, List.getElem_toArray, List.getElem_cons_zero, List.getElem_cons_succ])
            refine wpAnyH_take (i := 21) (v := ?vb21) rfl (by kernel_rfl) (by kernel_rfl) (by kernel_rfl) (fun _ _ _ h => h) (Or.inl ⟨by rfl, ?hyb21⟩) hHeld ?restb21
            case hyb21 => intro w hSw; (try dsimp only at hSw); go_simp; try (with_reducible rfl)
            (try simp only [Act.put, List.setIfInBounds_toArray, List.set_cons_zero, List.set_cons_succ, List.getElem_toArray, List.getElem_cons_zero, List.getElem_cons_succ])
            refine wpAnyH_take (i := 22) (v := ?vb22) rfl (by kernel_rfl) (by kernel_rfl) (by kernel_rfl) (fun _ _ _ h => h) (Or.inl ⟨by rfl, ?hyb22⟩) hHeld ?restb22
            case hyb22 => intro w hSw; (try dsimp only at hSw); go_simp; try (with_reducible rfl)
            (try simp only [Act.put, List.setIfInBounds_toArray, List.set_cons_zero, List.set_cons_succ, List.getElem_toArray, List.getElem_cons_zero, List.getElem_cons_succ])
            refine wpAnyH_take (i := 23) (v := ?vb23) rfl (by kernel_rfl) (by kernel_rfl) (by kernel_rfl) (fun _ _ _ h => h) (Or.inl ⟨by rfl, ?hyb23⟩) hHeld ?restb23
            case hyb23 => intro w hSw; (try dsimp only at hSw); go_simp; try (with_reducible rfl)
            (try simp only [Act.put, List.setIfInBounds_toArray, List.set_cons_zero, List.set_cons_succ, List.getElem_toArray, List.getElem_cons_zero, List.getElem_cons_succ])
            refine wpAnyH_take (i := 24) (v := ?vb24) rfl (by kernel_rfl) (by kernel_rfl) (by kernel_rfl) (fun _ _ _ h => h) (Or.inl ⟨by rfl, ?hyb24⟩) hHeld ?restb24
            case hyb24 => intro w hSw; (try dsimp only at hSw); go_simp; try (with_reducible rfl)
            (try simp only [Act.put, List.setIfInBounds_toArray, List.set_cons_zero, List.set_cons_succ, List.getElem_toArray, List.getElem_cons_zero, List.getElem_cons_succ])
            refine wpAnyH_take (i := 25) (v := ?vb25) rfl (by kernel_rfl) (by kernel_rfl) (by kernel_rfl) (fun _ _ _ h => h) (Or.inl ⟨by rfl, ?hyb25⟩) hHeld ?restb25
            case hyb25 => intro w hSw; (try dsimp only at hSw); go_simp; try (with_reducible rfl)
            (try simp only [Act.put, List.setIfInBounds_toArray, List.set_cons_zero, List.set_cons_succ, List.getElem_toArray, List.getElem_cons_zero, List.getElem_cons_succ])
            refine wpAnyH_take (i := 26) (v := ?vb26) rfl (by kernel_rfl) (by kernel_rfl) (by kernel_rfl) (fun _ _ _ h => h) (Or.inl ⟨by rfl, ?hyb26⟩) hHeld ?restb26
            case hyb26 => intro w hSw; (try dsimp only at hSw); go_simp; try (with_reducible rfl)
            (try simp only [Act.put, List.setIfInBounds_toArray, List.set_cons_zero, List.set_cons_succ, List.getElem_toArray, List.getElem_cons_zero, List.getElem_cons_succ])
            refine wpAnyH_ready (rs := [20]) (by kernel_rfl) (by simp) ?_
            refine AllReadyH.cons rfl (fun Kx hKx => ?_) AllReadyH.nil
            go_simp
            refine (LEN.out _ hHeld).mono ?_
            rintro e we ⟨rfl, rfl⟩
            refine hKx.out _ _ ?_ (fun hHeld => ?_)
            · exact hHeld
            clear hKx Kx
            (try simp only [Act.put, List.setIfInBounds_toArray, List.set_cons_zero, List.set_cons_succ, List.getElem_toArray, List.getElem_cons_zero, List.getElem_cons_succ])
            refine wpAnyH_take (i := 27) (v := ?vb27) rfl (by kernel_rfl) (by kernel_rfl) (by kernel_rfl) (fun _ _ _ h => h) (Or.inl ⟨by rfl, ?hyb27⟩) hHeld ?restb27
            case hyb27 => intro w hSw; (try dsimp only at hSw); go_simp; try (with_reducible rfl)
            (try simp only [Act.put, List.setIfInBounds_toArray, List.set_cons_zero, List.set_cons_succ, List.getElem_toArray, List.getElem_cons_zero, List.getElem_cons_succ])
            refine wpAnyH_take (i := 28) (v := ?vb28) rfl (by kernel_rfl) (by kernel_rfl) (by kernel_rfl) (fun _ _ _ h => h) (Or.inl ⟨by rfl, ?hyb28⟩) hHeld ?restb28
            case hyb28 => intro w hSw; (try dsimp only at hSw); go_simp; try (with_reducible rfl)
            (try simp only [Act.put, List.setIfInBounds_toArray, List.set_cons_zero, List.set_cons_succ, List.getElem_toArray, List.getElem_cons_zero, List.getElem_cons_succ])
            refine wpAnyH_take (i := 29) (v := ?vb29) rfl (by kernel_rfl) (by kernel_rfl) (by kernel_rfl) (fun _ _ _ h => h) (Or.inl ⟨by rfl, ?hyb29⟩) hHeld ?restb29
            case hyb29 => intro w hSw; (try dsimp only at hSw); go_simp; try (with_reducible rfl)
            (try simp only [Act.put, List.setIfInBounds_toArray, List.set_cons_zero, List.set_cons_succ, List.getElem_toArray, List.getElem_cons_zero, List.getElem_cons_succ])
            refine wpAnyH_done (by kernel_rfl) ?_ _
            refine NoPanic.normal ?_
            all_goals (have HFin := Lib.hid (HFWa.out.trans hHeld (fun _ _ h => h)); clear hHeld; go_wp2; go_ret; exact ⟨rfl, HFin.out⟩)
          refine AllReadyH.cons rfl (fun Kx hKx => ?_) AllReadyH.nil
          go_simp
          refine hKx.out _ _ ?_ (fun hHeld => ?_)
          · exact hHeld.alloc _
          clear hKx Kx
          (try simp only [Act.put, List.setIfInBounds_toArray, List.set_cons_zero, List.set_cons_succ, List.getElem_toArray, List.getElem_cons_zero, List.getElem_cons_succ])
          refine wpAnyH_ready (rs := [11]) (by kernel_rfl) (by simp) ?_
          refine AllReadyH.cons rfl (fun Kx hKx => ?_) AllReadyH.nil
          go_simp
          refine (SUM.out _ hHeld).mono ?_
          rintro e wc ⟨rfl, hfc⟩
          refine hKx.out _ _ ?_ (fun hHeld => ?_)
          · exact hHeld.trans hfc (fun _ _ h => h)
          clear hKx Kx
          (try simp only [Act.put, List.setIfInBounds_toArray, List.set_cons_zero, List.set_cons_succ, List.getElem_toArray, List.getElem_cons_zero, List.getElem_cons_succ])
          refine wpAnyH_ready (rs := [15]) (by kernel_rfl) (by simp) ?_
          refine AllReadyH.cons rfl (fun Kx hKx => ?_) AllReadyH.nil
          go_simp
          refine (OF2.out _ _ hHeld (hfc.blk (heap_alloc_new wb _) (fun h => h))).mono ?_
          rintro e wd ⟨rfl, hfd⟩
          refine hKx.out _ _ ?_ (fun hHeld => ?_)
          · exact hHeld.trans hfd (fun _ _ h => h)
          clear hKx Kx
          (try simp only [Act.put, List.setIfInBounds_toArray, List.set_cons_zero, List.set_cons_succ, List.getElem_toArray, List.getElem_cons_zero, List.getElem_cons_succ])
          refine wpAnyH_take (i := 16) (v := ?vc16) rfl (by kernel_rfl) (by kernel_rfl) (by kernel_rfl) (fun _ _ _ h => h) (Or.inl ⟨by rfl, ?hyc16⟩) hHeld ?restc16
          case hyc16 => intro w hSw; (try dsimp only at hSw); go_simp; try (with_reducible rfl)
          (try simp only [Act.put, List.setIfInBounds_toArray, List.set_cons_zero, List.set_cons_succ, List.getElem_toArray, List.getElem_cons_zero, List.getElem_cons_succ])
          refine wpAnyH_take (i := 17) (v := ?vc17) rfl (by kernel_rfl) (by kernel_rfl) (by kernel_rfl) (fun _ _ _ h => h) (Or.inl ⟨by rfl, ?hyc17⟩) hHeld ?restc17
          case hyc17 => intro w hSw; (try dsimp only at hSw); go_simp; try (with_reducible rfl)
          (try simp only [Act.put, List.setIfInBounds_toArray, List.set_cons_zero, List.set_cons_succ, List.getElem_toArray, List.getElem_cons_zero, List.getElem_cons_succ])
          refine wpAnyH_take (i := 18) (v := ?vc18) rfl (by kernel_rfl) (by kernel_rfl) (by kernel_rfl) (fun _ _ _ h => h) (Or.inl ⟨by rfl, ?hyc18⟩) hHeld ?restc18
          case hyc18 => intro w hSw; (try dsimp only at hSw); go_simp; try (with_reducible rfl)
          (try simp only [Act.put, List.setIfInBounds_toArray, List.set_cons_zero, List.set_cons_succ, List.getElem_toArray, List.getElem_cons_zero, List.getElem_cons_succ])
          refine wpAnyH_take (i := 19) (v := ?vc19) rfl (by kernel_rfl) (by kernel_rfl) (by kernel_rfl) (fun _ _ _ h => h) (Or.inl ⟨by rfl, ?hyc19⟩) hHeld ?restc19
          case hyc19 => intro w hSw; (try dsimp only at hSw); go_simp; try (with_reducible rfl)
          (try simp only [Act.put, List.setIfInBounds_toArray, List.set_cons_zero, List.set_cons_succ, List.getElem_toArray, List.getElem_cons_zero, List.getElem_cons_succ])
          refine wpAnyH_take (i := 21) (v := ?vc21) rfl (by kernel_rfl) (by kernel_rfl) (by kernel_rfl) (fun _ _ _ h => h) (Or.inl ⟨by rfl, ?hyc21⟩) hHeld ?restc21
          case hyc21 => intro w hSw; (try dsimp only at hSw); go_simp; try (with_reducible rfl)
          (try simp only [Act.put, List.setIfInBounds_toArray, List.set_cons_zero, List.set_cons_succ, List.getElem_toArray, List.getElem_cons_zero, List.getElem_cons_succ])
          refine wpAnyH_take (i := 22) (v := ?vc22) rfl (by kernel_rfl) (by kernel_rfl) (by kernel_rfl) (fun _ _ _ h => h) (Or.inl ⟨by rfl, ?hyc22⟩) hHeld ?restc22
          case hyc22 => intro w hSw; (try dsimp only at hSw); go_simp; try (with_reducible rfl)
          (try simp only [Act.put, List.setIfInBounds_toArray, List.set_cons_zero, List.set_cons_succ, List.getElem_toArray, List.getElem_cons_zero, List.getElem_cons_succ])
          refine wpAnyH_take (i := 23) (v := ?vc23) rfl (by kernel_rfl) (by kernel_rfl) (by kernel_rfl) (fun _ _ _ h => h) (Or.inl ⟨by rfl, ?hyc23⟩) hHeld ?restc23
          case hyc23 => intro w hSw; (try dsimp only at hSw); go_simp; try (with_reducible rfl)
          (try simp only [Act.put, List.setIfInBounds_toArray, List.set_cons_zero, List.set_cons_succ, List.getElem_toArray, List.getElem_cons_zero, List.getElem_cons_succ])
          refine wpAnyH_take (i := 24) (v := ?vc24) rfl (by kernel_rfl) (by kernel_rfl) (by kernel_rfl) (fun _ _ _ h => h) (Or.inl ⟨by rfl, ?hyc24⟩) hHeld ?restc24
          case hyc24 => intro w hSw; (try dsimp only at hSw); go_simp; try (with_reducible rfl)
          (try simp only [Act.put, List.setIfInBounds_toArray, List.set_cons_zero, List.set_cons_succ, List.getElem_toArray, List.getElem_cons_zero, List.getElem_cons_succ])
          refine wpAnyH_take (i := 25) (v := ?vc25) rfl (by kernel_rfl) (by kernel_rfl) (by kernel_rfl) (fun _ _ _ h => h) (Or.inl ⟨by rfl, ?hyc25⟩) hHeld ?restc25
          case hyc25 => intro w hSw; (try dsimp only at hSw); go_simp; try (with_reducible rfl)
          (try simp only [Act.put, List.setIfInBounds_toArray, List.set_cons_zero, List.set_cons_succ, List.getElem_toArray, List.getElem_cons_zero, List.getElem_cons_succ])
          refine wpAnyH_take (i := 26) (v := ?vc26) rfl (by kernel_rfl) (by kernel_rfl) (by kernel_rfl) (fun _ _ _ h => h) (Or.inl ⟨by rfl, ?hyc26⟩) hHeld ?restc26
          case hyc26 => intro w hSw; (try dsimp only at hSw); go_simp; try (with_reducible rfl)
          (try simp only [Act.put, List.setIfInBounds_toArray, List.set_cons_zero, List.set_cons_succ, List.getElem_toArray, List.getElem_cons_zero, List.getElem_cons_succ])
          refine wpAnyH_ready (rs := [20]) (by kernel_rfl) (by simp) ?_
          refine AllReadyH.cons rfl (fun Kx hKx => ?_) AllReadyH.nil
          go_simp
          refine (LEN.out _ hHeld).mono ?_
          rintro e we ⟨rfl, rfl⟩
          refine hKx.out _ _ ?_ (fun hHeld => ?_)
          · exact hHeld
          clear hKx Kx
          (try simp only [Act.put, List.setIfInBounds_toArray, List.set_cons_zero, List.set_cons_succ, List.getElem_toArray, List.getElem_cons_zero, List.getElem_cons_succ])
          refine wpAnyH_take (i := 27) (v := ?vc27) rfl (by kernel_rfl) (by kernel_rfl) (by kernel_rfl) (fun _ _ _ h => h) (Or.inl ⟨by rfl, ?hyc27⟩) hHeld ?restc27
          case hyc27 => intro w hSw; (try dsimp only at hSw); go_simp; try (with_reducible rfl)
          (try simp only [Act.put, List.setIfInBounds_toArray, List.set_cons_zero, List.set_cons_succ, List.getElem_toArray, List.getElem_cons_zero, List.getElem_cons_succ])
          refine wpAnyH_take (i := 28) (v := ?vc28) rfl (by kernel_rfl) (by kernel_rfl) (by kernel_rfl) (fun _ _ _ h => h) (Or.inl ⟨by rfl, ?hyc28⟩) hHeld ?restc28
          case hyc28 => intro w hSw; (try dsimp only at hSw); go_simp; try (with_reducible rfl)
          (try simp only [Act.put, List.setIfInBounds_toArray, List.set_cons_zero, List.set_cons_succ, List.getElem_toArray, List.getElem_cons_zero, List.getElem_cons_succ])
          refine wpAnyH_take (i := 29) (v := ?vc29) rfl (by kernel_rfl) (by kernel_rfl) (by kernel_rfl) (fun _ _ _ h => h) (Or.inl ⟨by rfl, ?hyc29⟩) hHeld ?restc29
          case hyc29 => intro w hSw; (try dsimp only at hSw); go_simp; try (with_reducible rfl)
          (try simp only [Act.put, List.setIfInBounds_toArray, List.set_cons_zero, List.set_cons_succ, List.getElem_toArray, List.getElem_cons_zero, List.getElem_cons_succ])
          refine wpAnyH_done (by kernel_rfl) ?_ _
          refine NoPanic.normal ?_
          all_goals (have HFin := Lib.hid (HFWa.out.trans hHeld (fun _ _ h => h)); clear hHeld; go_wp2; go_ret; exact ⟨rfl, HFin.out⟩)
end Go.Proofs.YtjjeahijcibafaaDoor
