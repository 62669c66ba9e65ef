/-
  The law ShaParts: however bytes are cut into parts, the hash, so far and in the end, is that of all of them.
-/
import Derived.Test.YtjjeahijcibafaaDoorShqP
namespace Go.Proofs.YtjjeahijcibafaaDoor
open Go.RowKit ShaM Mem Go.Lib
attribute [local go_sem ↓] Go.wp_at_zero Go.wp_at_succ

theorem PartsG.one {w : World} {k g : Nat} (hk : k = w.heap.size) (hg : k ≠ g) (t : TypeId) {A : Option Addr} {n c : Nat} {B : List UInt8} (hr : Rd w A n (B.map bytec)) (hc : n ≤ c) (ha : 0 < n → ∀ ad, A = some ad → ad.block ≠ g) :
    PartsG (w.alloc (.cells #[.slice A n c] t)) g (some ⟨k, 0, none⟩) 1 [B] := by
  have hn : B.length = n := by simpa using hr.1
  subst hn
  refine ⟨[.slice A B.length c], Rd.one' hk _ t, rfl, fun _ ad e => by injection e with e; rw [← e]; exact hg, fun i v B' hv hB => ?_⟩
  match i, hv, hB with
  | 0, hv, hB =>
    simp at hv hB
    subst hv hB
    exact ⟨A, c, rfl, hc, hr.fr ((Fr.refl (fun _ => False) w).alloc _) (fun _ _ h => h), ha⟩
theorem sum_hash (g : Nat) (t : TypeId) (F : List UInt8) (w : World) (hH : Ha w g t (F.map UInt8.toNat)) (hG : Gl w) (hD : F.length ≤ 281474976710656) :
    Calls Tryd.prog 15 #[.pointer (some ⟨g, 0, none⟩)] w fun e w' => e = .returned (hashV F) ∧ Fr (fun _ => False) w w' := sum_any g t _ w hH hG (by rw [List.length_map]; omega)
theorem ref_hash (A : Option Addr) (n c : Nat) (F : List UInt8) (A1 : Option Addr) (c1 : Nat) (A2 : Option Addr) (c2 : Nat) (w : World) (hr : Rd w A n (F.map bytec)) (h1 : Rd w A1 8 (first.map num32)) (h2 : Rd w A2 64 (keys.map num32)) (hn : n ≤ 1000000) :
    Calls Tryd.prog 16 #[.slice A n c, .slice A1 8 c1, .slice A2 64 c2] w fun e w' => e = .returned (hashV F) ∧ Fr (fun _ => False) w w' := rOf_any A n c F A1 c1 A2 c2 w hr h1 h2 hn

set_option maxRecDepth 100000 in
set_option maxHeartbeats 3200000 in
theorem parts_law (A : Option Addr) (n c : Nat) (L : List (List UInt8)) (w : World) (hG : Gl w) (hp : Parts w A n L) (hc : n ≤ c) (hn : n ≤ maxLen) :
    Calls Tryd.prog 4 #[.slice A n c] w fun e w' => e = .returned (.bool true) ∧ Fr (fun _ => False) w w' := by
  have HP := Lib.hid hp
  have HGL := Lib.hid hG
  have HN := Lib.hid hn
  clear hp hG hn
  by_cases hlong : 1500 < n + L.flatten.length
  · have HQ := Lib.hid (decide_eq_true hlong)
    clear hlong
    go_enter Tryd.func4, Tryd.ntmps4
    go_wp2_with fail
    refine (awake_any shaP _ HGL.out).mono ?_
    rintro e w1 ⟨rfl, hf1⟩
    go_wp2_with fail
    refine (long_any A n c L _ (HP.out.fr hf1) HN.out true HQ.out).mono ?_
    rintro e w2 ⟨rfl, rfl⟩
    go_wp2_with fail
    refine (awake_any shaP _ (HGL.out.fr0 hf1)).mono ?_
    rintro e w2 ⟨rfl, hf2⟩
    go_wp2
    go_ret
    exact ⟨rfl, hf1.trans hf2 (fun _ _ h => h)⟩
  · have HQ := Lib.hid (decide_eq_false hlong)
    have hLn := HP.out.len
    have HLN := Lib.hid hLn
    have hfl : L.flatten.length ≤ 1500 := by omega
    have hn15 : n ≤ 1500 := by omega
    have HFL := Lib.hid hfl
    obtain ⟨Z3, hZ3⟩ : ∃ Z3, Z3 = zst := ⟨_, rfl⟩
    have hz3 := fun w => zero_hasher w
    rw [← hZ3] at hz3
    have HZ3 := Lib.hid hZ3
    clear hZ3 hlong hLn hfl
    go_enter Tryd.func4, Tryd.ntmps4
    go_wp2_with fail
    refine (awake_any shaP _ HGL.out).mono ?_
    rintro e w1 ⟨rfl, hf1⟩
    have HF1 := Lib.hid hf1
    clear hf1
    go_wp2_with fail
    refine (long_any A n c L _ (HP.out.fr HF1.out) HN.out false HQ.out).mono ?_
    rintro e w2 ⟨rfl, rfl⟩
    go_wp2_with fail
    refine (Tables_any _).mono ?_
    rintro e w2 ⟨A1, B1, c1, d1, rfl, h1, h2, _, hf2⟩
    have HF2 := Lib.hid (HF1.out.trans hf2 (fun _ _ h => h))
    have HA := Lib.hid (show Rd w2 A1 8 (first.map num32) from Rd.of_own h1)
    have HB := Lib.hid (show Rd w2 B1 64 (keys.map num32) from Rd.of_own h2)
    clear h1 h2 hf2 HF1
    go_upto_region 5 with fail
    obtain ⟨w3, hw3⟩ : ∃ w3, w2.alloc (.cells Z3.toArray 41) = w3 := ⟨_, rfl⟩
    rw [hw3]
    obtain ⟨g, hg⟩ : ∃ g, g = w2.heap.size := ⟨_, rfl⟩
    have hrow : Row w3 g 41 zst := by rw [← hw3, hg, ← HZ3.out]; exact Row.new _ _ _
    have hf3 : Fr (fun _ => False) w2 w3 := by rw [← hw3]; exact (Fr.refl _ _).alloc _
    have hfw := HF2.out.trans hf3 (fun _ _ h => h)
    have hgg : w.heap.size ≤ g := by have := HF2.out.size; omega
    have hg2 : 2 ≤ g := by have := HGL.out.size; omega
    have hpg := (HP.out.apart hgg).fr hfw (fun _ h => h.elim)
    have HA3 : Hid (Rd w3 A1 8 (first.map num32)) := Lib.hid (HA.out.fr hf3 (fun _ _ h => h))
    have HB3 : Hid (Rd w3 B1 64 (keys.map num32)) := Lib.hid (HB.out.fr hf3 (fun _ _ h => h))
    have hA1 : ∀ ad, A1 = some ad → ad.block ≠ g := fun ad e => by have := HA.out.lt (by omega) ad e; omega
    have hB1 : ∀ ad, B1 = some ad → ad.block ≠ g := fun ad e => by have := HB.out.lt (by omega) ad e; omega
    have HA1 := Lib.hid hA1
    have HB1 := Lib.hid hB1
    have HPG := Lib.hid hpg
    have HH := Lib.hid (zst_ha hrow)
    have HGG := Lib.hid hgg
    have HFW := Lib.hid hfw
    have HGS := Lib.hid hrow.lt
    have HGL3 := Lib.hid (HGL.out.fr0 hfw)
    rw [← hg]
    clear hw3 hg hrow hf3 hfw hgg hpg hA1 hB1 hz3 HA HB HF2 HP HGL
    go_wp2_with fail
    go_loopw [6, 7] (fun v i wr => ∃ (k m : Nat) (A' : Option Addr) (c' : Nat), k ≤ n ∧ i = .int .i64 (k : Int) ∧ v = .slice A' m c' ∧ m ≤ 1500 ∧ Hid (m = (L.take k).flatten.length) ∧ Hid (wr.ownsRow w3.heap.size 5 1 (.slice A' m c') m ((L.take k).flatten.map bytec)) ∧ Hid (Ha wr g 41 ((L.take k).flatten.map UInt8.toNat)) ∧ Fr (fun b => b = g) w3 wr)
      (fun _ i _ => n - (intOf i).toNat)
    case atStart => exact ⟨0, 0, none, 0, by omega, rfl, rfl, by omega, rfl, Lib.hid (World.ownsRow_nil _ _ _ _), HH, Fr.refl _ _⟩
    case round =>
      obtain ⟨k, m, A5, c5, hk, rfl, rfl, hm15, HM, HO, HW, hfr⟩ := hrel
      have HFR := Lib.hid hfr
      obtain ⟨G, hGk⟩ : ∃ G, G = (L.take k).flatten := ⟨_, rfl⟩
      rw [← hGk] at HM HO HW
      by_cases hlt : k < n
      · obtain ⟨vs, q1, q2, q3, q4⟩ := HPG.out.fr hfr (fun _ h => h)
        obtain ⟨ad, v, rfl, hv, hcell⟩ := q1.at_ hlt
        obtain ⟨B, hB⟩ : ∃ B, L[k]? = some B := ⟨_, List.getElem?_eq_getElem (by rw [HLN.out]; exact hlt)⟩
        obtain ⟨Ai, ci, rfl, hl, hr, ha⟩ := q4 k v B hv hB
        have hft := flat_take hB
        have hle := flat_le L (k + 1)
        obtain ⟨b, hb⟩ : ∃ b, b = B.length := ⟨_, rfl⟩
        obtain ⟨F, hF⟩ : ∃ F, F = (L.take (k + 1)).flatten := ⟨_, rfl⟩
        rw [← hF] at hft hle
        rw [← hGk] at hft
        have hFl : F.length = m + b := by rw [hft, List.length_append, ← HM.out, hb]
        rw [← hb] at hl hr ha hcell
        have hsz := hfr.size
        have hgl := HGL3.out.fr hfr (by omega) (by omega)
        have hroom : (G.map UInt8.toNat).length + [B].flatten.length ≤ 562949953421312 := by
          have h1 := HFL.out
          have h2 : [B].flatten.length = B.length := by simp
          rw [List.length_map, ← HM.out, h2]
          omega
        have hwrite := write_any g 1 1 41 (some ⟨wr.heap.size, 0, none⟩) _ [B] (wr.alloc (.cells #[.slice Ai b ci] 22)) (HW.out.fr ((Fr.refl (fun _ => False) wr).alloc _) (fun h => h)) (hgl.fr0 ((Fr.refl _ wr).alloc _)) hg2 (PartsG.one rfl (by have := HGS.out; omega) _ hr hl ha) (by omega) hroom
        rw [← List.map_append, show G ++ [B].flatten = F by rw [hft]; simp] at hwrite
        have hk64 : (k : Int) < (n : Int) := by omega
        have HWRITE := Lib.hid hwrite
        have HFT := Lib.hid hft
        have HF := Lib.hid hF
        have HFLN := Lib.hid hFl
        have HCELL := Lib.hid hcell
        have HR := Lib.hid hr
        have HL := Lib.hid hl
        have HAI := Lib.hid ha
        have HAD := Lib.hid (q3 (by omega))
        have HFLE := Lib.hid hle
        clear q1 q2 q3 q4 hv hB hl hr ha hft hle hb hF hFl hgl hwrite hfr hroom hGk
        go_wp2_with fail
        refine HWRITE.out.mono ?_
        rintro e w4 ⟨rfl, hha4, hf4⟩
        have hfa4 : Fr (fun b => b = g) wr w4 := ((Fr.refl (fun b => b = g) wr).alloc _).trans hf4 (fun _ _ h => h)
        have hog : ∀ kk, (Value.slice A5 m c5).ownBlock = some kk → ¬ kk = g := fun kk h e => by have := (HO.out.lt kk h).1; have := HGS.out; omega
        have hown4 := hfa4.own HO.out hog
        have hcell4 : w4.cell? (ad.add k) = some (.slice Ai b ci) := hfa4.cell HCELL.out (by rw [add_block]; exact HAD.out ad rfl)
        have hr4 := HR.out.frp hfa4 HAI.out
        have hs4 := hfa4.size
        obtain ⟨M, hM⟩ : ∃ M, M = m + b := ⟨_, rfl⟩
        have hM15 : M ≤ 1500 := by have := HFLN.out; have := HFLE.out; have := HFL.out; omega
        have HF4 := Lib.hid (HFR.out.trans hfa4 (fun _ _ h => h))
        have HHA4 := Lib.hid hha4
        have HMM := Lib.hid hM
        clear hha4 hf4 hfa4 hog hcell hM
        go_wp2_with (at_builtin; refine wpList_appN u8T _ rfl _ _ rfl w3.heap.size _ _ _ rfl hown4 _ _ _ _ rfl hr4 (bytec_one _) M HMM.out (by unfold maxLen; omega) (by omega) (by omega) ?_)
        intro A6 c6 w6 hc6 _ hown6 hfr6 _
        have hl6 : G.map bytec ++ B.map bytec = F.map bytec := by rw [← List.map_append, HFT.out]
        have hown6' := own_list hown6 hl6
        have hgown : ¬ (Value.slice A5 m c5).ownBlock = some g := fun h => by have := (hown4.lt g h).1; have := HGS.out; omega
        have hha6 := HHA4.out.fr hfr6 hgown
        have hf6 : Fr (fun b => b = g) w3 w6 := HF4.out.trans hfr6 (fun b hb h => by have := (hown4.lt b h).1; omega)
        have hFM : F.length = M := by rw [HFLN.out, HMM.out]
        have hlen := len_any g _ _ w6 hha6
        rw [List.length_map, hFM] at hlen
        have hgl6 := HGL3.out.fr hf6 (by omega) (by omega)
        have hMF : Hid (M = (L.take (k + 1)).flatten.length) := Lib.hid (by rw [← HF.out, hFM])
        have HO6 : Hid (w6.ownsRow w3.heap.size 5 1 (.slice A6 M c6) M ((L.take (k + 1)).flatten.map bytec)) := Lib.hid (by rw [← HF.out]; exact hown6')
        have HLEN := Lib.hid hlen
        have HHA6 := Lib.hid hha6
        have HF6 := Lib.hid hf6
        have HFM := Lib.hid hFM
        have HGL6 := Lib.hid hgl6
        have ew : IntKind.u64.wrap (M : Int) = (M : Int) := by rw [IntKind.wrap_u64]; omega
        clear hown4 hr4 hown6 hl6 hown6' hgown hha6 hf6 hFM hlen hgl6 hfr6 hcell4 HHA4 HF4
        by_cases h4 : k % 4 = 0
        · have t4 : ((k : Int) % 4 == 0) = true := by simp; omega
          obtain ⟨R, hR⟩ : ∃ R, R = hashV F := ⟨_, rfl⟩
          obtain ⟨hn1, hn2⟩ := hash_ne F
          have hsum := sum_hash g _ F w6 HHA6.out HGL6.out (by rw [HFM.out]; omega)
          have href := fun w hr h1 h2 => ref_hash A6 M c6 F A1 c1 B1 d1 w hr h1 h2 (by omega)
          rw [← hR] at hn1 hn2 hsum href
          have HSUM := Lib.hid hsum
          have HREF := Lib.hid href
          clear hR hsum href
          go_wp2_with fail
          refine HLEN.out.mono ?_
          rintro e w7 ⟨rfl, rfl⟩
          go_wp2_with fail
          refine HSUM.out.mono ?_
          rintro e w7 ⟨rfl, hf7⟩
          have HF7 := Lib.hid (HF6.out.trans hf7 (fun _ _ h => h.elim))
          have HRD := Lib.hid ((show Rd w6 A6 M (F.map bytec) by have h := Rd.of_own HO6.out; rw [← HF.out] at h; exact h).fr hf7 (fun _ _ h => h))
          have HO7 := Lib.hid (hf7.own HO6.out (fun _ _ h => h))
          have HHA7 := Lib.hid (HHA6.out.fr hf7 (fun h => h))
          clear hf7
          go_wp2_with fail
          refine (HREF.out _ HRD.out (HA3.out.fr HF7.out HA1.out) (HB3.out.fr HF7.out HB1.out)).mono ?_
          rintro e w8 ⟨rfl, hf8⟩
          have HF8 := Lib.hid (HF7.out.trans hf8 (fun _ _ h => h.elim))
          have HO8 := Lib.hid (hf8.own HO7.out (fun _ _ h => h))
          have HHA8 : Hid (Ha w8 g 41 ((L.take (k + 1)).flatten.map UInt8.toNat)) := Lib.hid (by rw [← HF.out]; exact HHA7.out.fr hf8 (fun h => h))
          clear hf8
          go_wp2_with fail
          exact ⟨⟨k + 1, M, A6, c6, by omega, by go_num, rfl, hM15, hMF, HO8, HHA8, HF8.out⟩, by simp [intOf]; omega⟩
        · have t4 : ((k : Int) % 4 == 0) = false := by simp; omega
          have HHA8 : Hid (Ha w6 g 41 ((L.take (k + 1)).flatten.map UInt8.toNat)) := Lib.hid (by rw [← HF.out]; exact HHA6.out)
          go_wp2_with fail
          refine HLEN.out.mono ?_
          rintro e w7 ⟨rfl, rfl⟩
          go_wp2_with fail
          exact ⟨⟨k + 1, M, A6, c6, by omega, by go_num, rfl, hM15, hMF, HO6, HHA8, HF6.out⟩, by simp [intOf]; omega⟩
      · obtain rfl : k = n := by omega
        have e : L.take k = L := List.take_of_length_le (by rw [HLN.out]; omega)
        rw [hGk, e] at HM HO HW
        clear hGk
        obtain ⟨R, hR⟩ : ∃ R, R = hashV L.flatten := ⟨_, rfl⟩
        obtain ⟨hq1, hq2⟩ := hash_eq L.flatten
        have hgl := HGL3.out.fr hfr (by omega) (by omega)
        have hpp : Parts wr A k L := by
          obtain ⟨vs, q1, q2, _, q4⟩ := HPG.out.fr hfr (fun _ h => h)
          exact ⟨vs, q1, q2, fun i v B hv hB => by obtain ⟨Ai, ci, e, h1, h2, _⟩ := q4 i v B hv hB; exact ⟨Ai, ci, e, h1, h2⟩⟩
        have hof := of_any A k c L wr hgl hpp (by omega) (by have := HFL.out; omega)
        have href := fun w hr h1 h2 => ref_hash A5 m c5 L.flatten A1 c1 B1 d1 w hr h1 h2 (by omega)
        have hsum := fun w h1 h2 => sum_hash g 41 L.flatten w h1 h2 (by have := HFL.out; omega)
        rw [← hR] at hq1 hq2 hof href hsum
        have HOF := Lib.hid hof
        have HREF := Lib.hid href
        have HSUM := Lib.hid hsum
        have HGLR := Lib.hid hgl
        have hc5 := (own_cap HO.out).2.1
        have hone : Hid (∀ wx : World, Fr (fun _ => False) wr wx → Calls Tryd.prog 9 #[.slice (some ⟨wx.heap.size, 0, none⟩) 1 1] (wx.alloc (.cells #[.slice A5 m c5] 22)) fun e w' => e = .returned R ∧ Fr (fun _ => False) (wx.alloc (.cells #[.slice A5 m c5] 22)) w') := Lib.hid (by
          intro wx hf
          have := of_any (some ⟨wx.heap.size, 0, none⟩) 1 1 [L.flatten] _ (HGLR.out.fr0 (hf.alloc _)) (Parts.one (w := wx) rfl 22 ((Rd.of_own HO.out).fr hf (fun _ _ h => h)) hc5) (by omega) (by have := HFL.out; simp only [List.flatten_cons, List.flatten_nil, List.append_nil]; omega)
          rwa [show [L.flatten].flatten = L.flatten by simp, ← hR] at this)
        have HRR := Lib.hid hR
        clear hgl hpp hof href hsum hfr hR hc5 e
        go_wp2_with fail
        refine HOF.out.mono ?_
        rintro e w5 ⟨rfl, hf5⟩
        have HF5 := Lib.hid hf5
        clear hf5
        go_wp2_with fail
        refine (HREF.out _ ((Rd.of_own HO.out).fr HF5.out (fun _ _ h => h)) ((HA3.out.fr HFR.out HA1.out).fr HF5.out (fun _ _ h => h)) ((HB3.out.fr HFR.out HB1.out).fr HF5.out (fun _ _ h => h))).mono ?_
        rintro e w6 ⟨rfl, hf6⟩
        have HF6 := Lib.hid (HF5.out.trans hf6 (fun _ _ h => h))
        clear hf6
        go_wp2_with fail
        refine (HSUM.out _ (HW.out.fr HF6.out (fun h => h)) (HGLR.out.fr0 HF6.out)).mono ?_
        rintro e w7 ⟨rfl, hf7⟩
        have HF7 := Lib.hid (HF6.out.trans hf7 (fun _ _ h => h))
        clear hf7
        go_wp2_with fail
        refine (hone.out _ HF7.out).mono ?_
        rintro e w8 ⟨rfl, hf8⟩
        have HF8 := Lib.hid ((HF7.out.alloc _).trans hf8 (fun _ _ h => h))
        clear hf8
        go_wp2
        go_ret
        exact ⟨rfl, (HFW.out.trans HFR.out (fun b hb h => by have := HGG.out; omega)).trans HF8.out (fun _ _ h => h.elim)⟩
end Go.Proofs.YtjjeahijcibafaaDoor
