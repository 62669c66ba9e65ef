/-
  Layer 9's program: tokens (written by gen_tell.py).
  Layer 1's Writer for higher layers, further: Align, Raw (picked out of layer 1's texts by tools/pick.py: mkwr.sh).
-/
import Derived.Test.YtgpkiijmembggaaGreatDoorZm41
import Derived.Test.YtgpkiijmembggaaGreatDoorZm06
import Derived.Deep.RegionHeld3
import Derived.Test.YtgpkiijmembggaaGreatDoorZm16
import Derived.Test.YtgpkiijmembggaaGreatDoorZm05
namespace Go.Proofs.YtgpkiijmembggaaGreatDoor
open Go.RowKit BitsM Mem Go.Lib
attribute [local go_sem ↓] Go.wp_at_zero Go.wp_at_succ
set_option linter.unusedVariables false
set_option maxRecDepth 100000

theorem ints_right (l : List Nat) : (CoM.ints l).map intc = l.map natc := natc_ints l
set_option maxHeartbeats 6400000 in
theorem tell9_any (g c : Nat) (A AT A1 AX A2 AY : Option Addr) (n cT n1 c1 cX n2 c2 cY : Nat) (T : List LzM.Tok) (a xs b ys : List Nat) (bs : List Bool) (w : World) (hG : Gl w) (hGT : ∀ k, Ft g A k → top7 ≤ k) (hw : Wr w g A c bs) (hb : bs.length ≤ 100000000)
    (hT : Toks w AT n T) (hTb : 0 < n → ∀ ad, AT = some ad → ¬ Ft g A ad.block) (hn : n ≤ 100000) (hfit : ∀ t ∈ T, Fits t) (ha : Rd w A1 n1 (a.map natc)) (hx : Rd w AX n1 (xs.map numc)) (hbr : Rd w A2 n2 (b.map natc)) (hy : Rd w AY n2 (ys.map numc))
    (hab : ∀ ad, A1 = some ad → ¬ Ft g A ad.block ∧ ad.block < w.heap.size) (hxb : ∀ ad, AX = some ad → ¬ Ft g A ad.block ∧ ad.block < w.heap.size) (hbb : ∀ ad, A2 = some ad → ¬ Ft g A ad.block ∧ ad.block < w.heap.size) (hyb : ∀ ad, AY = some ad → ¬ Ft g A ad.block ∧ ad.block < w.heap.size)
    (hn1 : 286 ≤ n1) (hn2 : 30 ≤ n2) (hxs : ∀ x ∈ xs, x < 18446744073709551616) (hys : ∀ x ∈ ys, x < 18446744073709551616) :
    Calls Tryz.prog 24 #[.agg #[.pointer (some ⟨g, 0, none⟩)], .slice AT n cT, .agg #[.slice A1 n1 c1, .slice AX n1 cX], .agg #[.slice A2 n2 c2, .slice AY n2 cY]] w fun e w' => e = .returned (.tuple #[]) ∧ ∃ A' c', Wr w' g A' c' (bs ++ T.flatMap (DeM.tokBits xs a ys b) ++ DeM.codeBits xs a 256) ∧ Fr (Ft g A) w w' ∧ Nx w A A' := by
  have hln := hT.1
  obtain ⟨w1, hw1⟩ : ∃ w1, w1 = w.alloc (.cells #[Value.pointer (some ⟨g, 0, none⟩)] 38) := ⟨_, rfl⟩
  obtain ⟨p, hp⟩ : ∃ p, p = w.heap.size := ⟨_, rfl⟩
  have hq1 : Row w1 p 38 [Value.pointer (some ⟨g, 0, none⟩)] := by rw [hw1, hp]; exact Row.new w _ _
  have hf1 : Fr (fun _ => False) w w1 := by rw [hw1]; exact (Fr.refl _ w).alloc _
  obtain ⟨w2, hw2⟩ : ∃ w2, w2 = w1.alloc (.cells #[Value.slice A1 n1 c1, .slice AX n1 cX] 66) := ⟨_, rfl⟩
  obtain ⟨r1, hr1⟩ : ∃ r1, r1 = p + 1 := ⟨_, rfl⟩
  have hz1 : w1.heap.size = r1 := by rw [hw1, hr1, hp]; simp
  have hq2 : Row w2 r1 66 [Value.slice A1 n1 c1, .slice AX n1 cX] := by rw [hw2, ← hz1]; exact Row.new w1 _ _
  have hf2 : Fr (fun _ => False) w1 w2 := by rw [hw2]; exact (Fr.refl _ w1).alloc _
  obtain ⟨w0, hw0⟩ : ∃ w0, w0 = w2.alloc (.cells #[Value.slice A2 n2 c2, .slice AY n2 cY] 66) := ⟨_, rfl⟩
  obtain ⟨r2, hr2⟩ : ∃ r2, r2 = r1 + 1 := ⟨_, rfl⟩
  have hz2 : w2.heap.size = r2 := by rw [hw2, hr2, ← hz1]; simp
  have hq3 : Row w0 r2 66 [Value.slice A2 n2 c2, .slice AY n2 cY] := by rw [hw0, ← hz2]; exact Row.new w2 _ _
  have hf3 : Fr (fun _ => False) w2 w0 := by rw [hw0]; exact (Fr.refl _ w2).alloc _
  have hfw : Fr (fun _ => False) w w0 := (hf1.trans hf2 (fun _ _ h => h)).trans hf3 (fun _ _ h => h)
  have HE0 : Hid (EnvD w0 g A p r1 r2 n1 c1 cX n2 c2 cY A1 AX A2 AY a xs b ys) := Lib.hid {
      row := (hq1.fr hf2 (fun h => h)).fr hf3 (fun h => h)
      ro1 := hq2.fr hf3 (fun h => h)
      ro2 := hq3
      pn := hw.new (k := p) (by omega)
      rn1 := hw.new (k := r1) (by omega)
      rn2 := hw.new (k := r2) (by omega)
      ra := ha.fr hfw (fun _ _ h => h)
      rx := hx.fr hfw (fun _ _ h => h)
      rb := hbr.fr hfw (fun _ _ h => h)
      ry := hy.fr hfw (fun _ _ h => h)
      na := fun ad h => ⟨(hab ad h).1, Nat.lt_of_lt_of_le (hab ad h).2 hfw.size⟩
      nx := fun ad h => ⟨(hxb ad h).1, Nat.lt_of_lt_of_le (hxb ad h).2 hfw.size⟩
      nb := fun ad h => ⟨(hbb ad h).1, Nat.lt_of_lt_of_le (hbb ad h).2 hfw.size⟩
      ny := fun ad h => ⟨(hyb ad h).1, Nat.lt_of_lt_of_le (hyb ad h).2 hfw.size⟩
      gl := hG.fr0 hfw
      gt := hGT }
  have HF0 := Lib.hid hfw
  have HW0 := Lib.hid (hw.frA hfw (fun h => h) (fun _ _ h => h))
  have HT0 := Lib.hid (hT.fr hfw (fun _ _ h => h))
  have HB := Lib.hid hb
  have HTB := Lib.hid hTb
  have HFIT := Lib.hid hfit
  have HXR := Lib.hid hxs
  have HYC := Lib.hid hys
  have HLN := Lib.hid hln
  clear hG hGT hw hb hT hTb hfit ha hx hbr hy hab hxb hbb hyb hxs hys hln hq1 hq2 hq3 hf1 hf2 hf3 hfw hz1 hz2
  go_enter Tryz.func24, Tryz.ntmps24
  go_upto_region 1 with fail
  rw [← hw1, ← hw2, ← hw0, ← hp, ← hr1]
  rw [← hr2]
  clear hw1 hw2 hw0 hp hr1 hr2
  go_wp2_with fail
  go_loopw [12] (fun i wr => ∃ (k : Nat) (AA : Option Addr) (cc : Nat), k ≤ n ∧ i = .int .i64 (k : Int) ∧ Hid (Wr wr g AA cc (bs ++ (T.take k).flatMap (DeM.tokBits xs a ys b))) ∧ Hid (EnvD wr g AA p r1 r2 n1 c1 cX n2 c2 cY A1 AX A2 AY a xs b ys) ∧ Hid (Fr (Ft g A) w0 wr) ∧ Hid (Nx w0 A AA)) (fun i _ => n - (intOf i).toNat)
  case atStart => exact ⟨0, A, c, Nat.zero_le _, rfl, by rw [List.take_zero, List.flatMap_nil, List.append_nil]; exact HW0.out, HE0.out, Fr.refl _ _, Nx.refl _ _⟩
  case round =>
    obtain ⟨k, AA, cc, hk, rfl, HWR, HE, HF, HN⟩ := hrel
    rename World => wr
    have hql : ((T.take k).flatMap (DeM.tokBits xs a ys b)).length ≤ 160 * k := by
      have h := CoM.flat_len_le (DeM.tokBits xs a ys b) 160 (T.take k) (fun y _ => tokBits_len xs a ys b y)
      rw [List.length_take] at h
      exact Nat.le_trans h (Nat.mul_le_mul_left 160 (by omega))
    obtain ⟨Q, hQ⟩ : ∃ Q, Q = bs ++ (T.take k).flatMap (DeM.tokBits xs a ys b) := ⟨_, rfl⟩
    have hQl : Q.length ≤ 200000000 := by rw [hQ, List.length_append]; have := HB.out; omega
    have HQQ := Lib.hid hQ
    rw [← hQ] at HWR
    by_cases hlt : k < n
    · obtain ⟨t, ht⟩ : ∃ t, T[k]? = some t := ⟨_, List.getElem?_eq_getElem (by rw [HLN.out]; exact hlt)⟩
      obtain ⟨gi, oi, rfl, hgi, k1, k2, k3⟩ := HT0.out.2 k t ht
      have l1 := HF.out.cell k1 (HTB.out (by omega) ⟨gi, oi, none⟩ rfl)
      have l2 := HF.out.cell k2 (HTB.out (by omega) ⟨gi, oi, none⟩ rfl)
      have l3 := HF.out.cell k3 (HTB.out (by omega) ⟨gi, oi, none⟩ rfl)
      have HTK : Hid (bs ++ (T.take (k + 1)).flatMap (DeM.tokBits xs a ys b) = Q ++ DeM.tokBits xs a ys b t) := Lib.hid (by
        rw [List.take_add_one, ht, hQ]
        simp)
      have hft := HFIT.out t (List.mem_of_getElem? ht)
      clear k1 k2 k3 hgi hQ hql
      rcases fits_cases hft with ⟨bt, rfl⟩ | ⟨L, E, rfl, hL1, hL2, hE1, hE2⟩
      · simp only at l1 l2 l3
        obtain ⟨u, hu⟩ : ∃ u, u = bt.toNat := ⟨_, rfl⟩
        have hu256 : u < 256 := by rw [hu]; exact bt.toNat_lt
        unfold bytec at l1
        rw [← hu] at l1
        have HTB2 : Hid (DeM.tokBits xs a ys b ⟨bt, 0, 0⟩ = DeM.codeBits xs a u ++ low 0 0) := Lib.hid (by
          unfold DeM.tokBits
          rw [if_pos rfl, hu, low_zero, List.append_nil])
        have HLI : Hid (∀ w, EnvD w g AA p r1 r2 n1 c1 cX n2 c2 cY A1 AX A2 AY a xs b ys → Calls Tryz.prog 40 #[.int .u8 (u : Int)] w fun e w' => e = .returned (.agg #[.int .i64 (u : Int), .int .i64 0, .int .u64 0]) ∧ Fr (fun _ => False) w w') := Lib.hid (fun w _ => by
          rw [hu]
          exact literal_any bt w)
        clear hu ht hft
        go_upto_region 4 with fail
        obtain ⟨w2, hw2⟩ : ∃ w2, w2 = wr.alloc (.cells #[Value.int .u8 (u : Int), .int .i64 0, .int .i64 0] 71) := ⟨_, rfl⟩
        have hq2 : Row w2 wr.heap.size 71 [Value.int .u8 (u : Int), .int .i64 0, .int .i64 0] := by rw [hw2]; exact Row.new wr _ _
        have hf2 : Fr (fun _ => False) wr w2 := by rw [hw2]; exact (Fr.refl _ wr).alloc _
        obtain ⟨q, hq⟩ : ∃ q, q = wr.heap.size := ⟨_, rfl⟩
        rw [← hw2]
        rw [← hq] at hq2 ⊢
        have d1 : w2.cell? ⟨q, 1, none⟩ = some (.int .i64 0) := hq2.cell rfl
        have HQ2 := Lib.hid hq2
        have HFA := Lib.hid hf2
        have HEa := Lib.hid (HE.out.fr0 hf2)
        have HQNa : Hid (¬ Ft g AA q) := Lib.hid (HWR.out.new (by omega))
        have HSYa : Hid (∀ w', Fr (fun _ => False) w2 w' → Calls Tryz.prog 39 #[.agg #[.pointer (some ⟨g, 0, none⟩)], .agg #[.slice A1 n1 c1, .slice AX n1 cX], .agg #[.int .i64 (u : Int), .int .i64 0, .int .u64 0]] w' fun e w'' => e = .returned (.tuple #[]) ∧ ∃ A' c', Wr w'' g A' c' (Q ++ DeM.codeBits xs a u ++ low 0 0) ∧ EnvD w'' g A' p r1 r2 n1 c1 cX n2 c2 cY A1 AX A2 AY a xs b ys ∧ Fr (Ft g AA) w' w'' ∧ Nx w' AA A') := Lib.hid (fun w' hf =>
          symA_any (HEa.out.fr0 hf) cc u 0 0 Q ((HWR.out.frA HFA.out (fun h => h) (fun _ _ h => h)).frA hf (fun h => h) (fun _ _ h => h)) (by omega) (by omega) (by omega) (by omega) HXR.out)
        clear hw2 hq2 hf2 hq l1 l2 l3
        go_upto_region 5 with fail
        refine wp_region_held_drew (S := fun w' => (w'.cell? ⟨p, 0, none⟩ = some (.pointer (some ⟨g, 0, none⟩)) ∧ w'.cell? ⟨r1, 0, none⟩ = some (.slice A1 n1 c1) ∧ w'.cell? ⟨r1, 1, none⟩ = some (.slice AX n1 cX) ∧ w'.cell? ⟨q, 0, none⟩ = some (.int .u8 (u : Int)))) (by kernel_rfl) ?_ (fun hHeld => ?_)
        · exact ⟨HEa.out.row.cell rfl, HEa.out.ro1.cell rfl, HEa.out.ro1.cell rfl, HQ2.out.cell rfl⟩
        refine wpAnyH_take (i := 0) (v := ?va0) rfl (by kernel_rfl) (by kernel_rfl) (by kernel_rfl) (fun _ _ _ h => h) (Or.inl ⟨by rfl, ?hya0⟩) hHeld ?resta0
        case hya0 => intro w hSw; (try dsimp only at hSw); go_simp; try (with_reducible rfl)
        (try simp only [Act.put, List.setIfInBounds_toArray, List.set_cons_zero, List.set_cons_succ, List.getElem_toArray, List.getElem_cons_zero])
        refine wpAnyH_take (i := 1) (v := ?va1) rfl (by kernel_rfl) (by kernel_rfl) (by kernel_rfl) (fun _ _ _ h => h) (Or.inl ⟨by rfl, ?hya1⟩) hHeld ?resta1
        case hya1 => intro w hSw; (try dsimp only at hSw); go_simp; try (with_reducible rfl)
        (try simp only [Act.put, List.setIfInBounds_toArray, List.set_cons_zero, List.set_cons_succ, List.getElem_toArray, List.getElem_cons_zero, List.getElem_cons_succ])
        refine wpAnyH_take (i := 2) (v := ?va2) rfl (by kernel_rfl) (by kernel_rfl) (by kernel_rfl) (fun _ _ _ h => h) (Or.inl ⟨by rfl, ?hya2⟩) hHeld ?resta2
        case hya2 => intro w hSw; (try dsimp only at hSw); go_simp; try (with_reducible rfl)
        (try simp only [Act.put, List.setIfInBounds_toArray, List.set_cons_zero, List.set_cons_succ, List.getElem_toArray, List.getElem_cons_zero, List.getElem_cons_succ])
        refine wpAnyH_take (i := 3) (v := ?va3) rfl (by kernel_rfl) (by kernel_rfl) (by kernel_rfl) (fun _ _ _ h => h) (Or.inl ⟨by rfl, ?hya3⟩) hHeld ?resta3
        case hya3 => intro w hSw; (try dsimp only at hSw); go_simp; try (with_reducible rfl)
        (try simp only [Act.put, List.setIfInBounds_toArray, List.set_cons_zero, List.set_cons_succ, List.getElem_toArray, List.getElem_cons_zero, List.getElem_cons_succ])
        refine wpAnyH_ready (rs := [4]) (by kernel_rfl) (by simp) ?_
        refine AllReadyH.cons rfl (fun Kx hKx => ?_) AllReadyH.nil
        go_simp
        refine (HLI.out _ (HEa.out.fr0 (Fr.refl _ _).drew)).mono ?_
        rintro e wla ⟨rfl, hfla⟩
        have HFla := Lib.hid ((Fr.refl (fun _ => False) w2).drew.trans hfla (fun _ _ h => h))
        have HEla := Lib.hid (HEa.out.fr0 HFla.out)
        have HQla := Lib.hid (HQ2.out.fr HFla.out (fun h => h))
        clear hfla
        refine hKx.out _ _ ?_ (fun hHeld => ?_)
        · exact ⟨HEla.out.row.cell rfl, HEla.out.ro1.cell rfl, HEla.out.ro1.cell rfl, HQla.out.cell rfl⟩
        clear hKx Kx
        (try simp only [Act.put, List.setIfInBounds_toArray, List.set_cons_zero, List.set_cons_succ, List.getElem_toArray, List.getElem_cons_zero, List.getElem_cons_succ])
        refine wpAnyH_ready (rs := [5]) (by kernel_rfl) (by simp) ?_
        refine AllReadyH.cons rfl (fun Kx hKx => ?_) AllReadyH.nil
        go_simp
        refine (HSYa.out _ HFla.out).mono ?_
        rintro e wsa ⟨rfl, A3, c3, hwsa, hesa, hfsa, hnsa⟩
        have HW3 := Lib.hid hwsa
        have HE3 := Lib.hid hesa
        have HF3 := Lib.hid (Fr.trans (HFla.out.mono (fun _ _ h => h.elim)) hfsa (fun _ _ h => h))
        have HN3 := Lib.hid (hnsa.back HFla.out.size)
        have HQ3 := Lib.hid (HQla.out.fr hfsa HQNa.out)
        have HQN3 := Lib.hid (hnsa.old HQla.out.lt HQNa.out)
        clear hwsa hesa hfsa hnsa
        refine hKx.out _ _ ?_ (fun hHeld => ?_)
        · exact ⟨HE3.out.row.cell rfl, HE3.out.ro1.cell rfl, HE3.out.ro1.cell rfl, HQ3.out.cell rfl⟩
        clear hKx Kx
        (try simp only [Act.put, List.setIfInBounds_toArray, List.set_cons_zero, List.set_cons_succ, List.getElem_toArray, List.getElem_cons_zero, List.getElem_cons_succ])
        refine wpAnyH_done (by kernel_rfl) ?_ _
        go_wp2_with fail
        refine ⟨⟨k + 1, A3, c3, by omega, by go_num, ?_, HE3.out, Fr.next HF.out HN.out (Fr.trans (HFA.out.mono (fun _ _ h => h.elim)) HF3.out (fun _ _ h => h)), HN.out.trans (HN3.out.back HFA.out.size) HF.out.size⟩, by simp [intOf]; omega⟩
        rw [HTK.out, HTB2.out, ← List.append_assoc]
        exact HW3.out
      · simp only at l1 l2 l3
        obtain ⟨s, hs⟩ : ∃ s, s = 257 + SyM.lenS (L : Int) := ⟨_, rfl⟩
        obtain ⟨sb, hsb⟩ : ∃ sb, sb = SyM.wid SyM.lens (SyM.lenS (L : Int)) := ⟨_, rfl⟩
        obtain ⟨x, hx⟩ : ∃ x, x = SyM.lenX (L : Int) := ⟨_, rfl⟩
        obtain ⟨r, hr⟩ : ∃ r, r = SyM.distS (E : Int) := ⟨_, rfl⟩
        obtain ⟨rb, hrb⟩ : ∃ rb, rb = SyM.wid SyM.dists (SyM.distS (E : Int)) := ⟨_, rfl⟩
        obtain ⟨y, hy⟩ : ∃ y, y = SyM.distX (E : Int) := ⟨_, rfl⟩
        have hs286 : s < 286 := by
          have : SyM.lenS (L : Int) < 29 := SyM.sym_lt _ SyM.lens (by decide)
          omega
        have hr30 : r < 30 := by rw [hr]; exact SyM.sym_lt _ SyM.dists (by decide)
        have hsb2 : sb ≤ 13 := by rw [hsb]; exact SyM.lens_wid _
        have hrb2 : rb ≤ 13 := by rw [hrb]; exact SyM.dists_wid _
        have hx2 : x ≤ 258 := by rw [hx]; exact (SyM.lenX_le _).1
        have hy2 : y ≤ 32768 := by rw [hy]; exact (SyM.distX_le _).1
        have hL0 : ¬ (L : Int) = 0 := by omega
        have HTB2 : Hid (DeM.tokBits xs a ys b ⟨0, (L : Int), (E : Int)⟩ = DeM.codeBits xs a s ++ low x sb ++ (DeM.codeBits ys b r ++ low y rb)) := Lib.hid (by
          unfold DeM.tokBits
          rw [if_neg hL0, hs, hsb, hx, hr, hrb, hy])
        have HLC : Hid (∀ w, EnvD w g AA p r1 r2 n1 c1 cX n2 c2 cY A1 AX A2 AY a xs b ys → Calls Tryz.prog 41 #[.int .i64 (L : Int)] w fun e w' => e = .returned (.agg #[.int .i64 (s : Int), .int .i64 (sb : Int), .int .u64 (x : Int)]) ∧ Fr (fun _ => False) w w') := Lib.hid (fun w h => by
          rw [hs, hsb, hx]
          exact length_any (L : Int) w h.gl ⟨by omega, by omega⟩)
        have HDC : Hid (∀ {AA : Option Addr} w, EnvD w g AA p r1 r2 n1 c1 cX n2 c2 cY A1 AX A2 AY a xs b ys → Calls Tryz.prog 42 #[.int .i64 (E : Int)] w fun e w' => e = .returned (.agg #[.int .i64 (r : Int), .int .i64 (rb : Int), .int .u64 (y : Int)]) ∧ Fr (fun _ => False) w w') := Lib.hid (fun w h => by
          rw [hr, hrb, hy]
          exact distance_any (E : Int) w h.gl ⟨by omega, by omega⟩)
        replace l1 : wr.cell? ⟨gi, oi + k * 3, none⟩ = some (.int .u8 0) := l1
        clear hs hsb hx hr hrb hy ht hft
        go_upto_region 4 with fail
        obtain ⟨w2, hw2⟩ : ∃ w2, w2 = wr.alloc (.cells #[Value.int .u8 0, .int .i64 (L : Int), .int .i64 (E : Int)] 71) := ⟨_, rfl⟩
        have hq2 : Row w2 wr.heap.size 71 [Value.int .u8 0, .int .i64 (L : Int), .int .i64 (E : Int)] := by rw [hw2]; exact Row.new wr _ _
        have hf2 : Fr (fun _ => False) wr w2 := by rw [hw2]; exact (Fr.refl _ wr).alloc _
        obtain ⟨q, hq⟩ : ∃ q, q = wr.heap.size := ⟨_, rfl⟩
        rw [← hw2]
        rw [← hq] at hq2 ⊢
        have d1 : w2.cell? ⟨q, 1, none⟩ = some (.int .i64 (L : Int)) := hq2.cell rfl
        have HQ2 := Lib.hid hq2
        have HFA := Lib.hid hf2
        have HEa := Lib.hid (HE.out.fr0 hf2)
        have HQNa : Hid (¬ Ft g AA q) := Lib.hid (HWR.out.new (by omega))
        have HSYa : Hid (∀ w', Fr (fun _ => False) w2 w' → Calls Tryz.prog 39 #[.agg #[.pointer (some ⟨g, 0, none⟩)], .agg #[.slice A1 n1 c1, .slice AX n1 cX], .agg #[.int .i64 (s : Int), .int .i64 (sb : Int), .int .u64 (x : Int)]] w' fun e w'' => e = .returned (.tuple #[]) ∧ ∃ A' c', Wr w'' g A' c' (Q ++ DeM.codeBits xs a s ++ low x sb) ∧ EnvD w'' g A' p r1 r2 n1 c1 cX n2 c2 cY A1 AX A2 AY a xs b ys ∧ Fr (Ft g AA) w' w'' ∧ Nx w' AA A') := Lib.hid (fun w' hf =>
          symA_any (HEa.out.fr0 hf) cc s sb x Q ((HWR.out.frA HFA.out (fun h => h) (fun _ _ h => h)).frA hf (fun h => h) (fun _ _ h => h)) (by omega) (by omega) (by omega) (by omega) HXR.out)
        clear hw2 hq2 hf2 hq l1 l2 l3
        go_upto_region 6 with fail
        refine wp_region_held_drew (S := fun w' => (w'.cell? ⟨p, 0, none⟩ = some (.pointer (some ⟨g, 0, none⟩)) ∧ w'.cell? ⟨r1, 0, none⟩ = some (.slice A1 n1 c1) ∧ w'.cell? ⟨r1, 1, none⟩ = some (.slice AX n1 cX) ∧ w'.cell? ⟨q, 1, none⟩ = some (.int .i64 (L : Int)))) (by kernel_rfl) ?_ (fun hHeld => ?_)
        · exact ⟨HEa.out.row.cell rfl, HEa.out.ro1.cell rfl, HEa.out.ro1.cell rfl, HQ2.out.cell rfl⟩
        refine wpAnyH_take (i := 0) (v := ?vb0) rfl (by kernel_rfl) (by kernel_rfl) (by kernel_rfl) (fun _ _ _ h => h) (Or.inl ⟨by rfl, ?hyb0⟩) hHeld ?restb0
        case hyb0 => intro w hSw; (try dsimp only at hSw); go_simp; try (with_reducible rfl)
        (try simp only [Act.put, List.setIfInBounds_toArray, List.set_cons_zero, List.set_cons_succ, List.getElem_toArray, List.getElem_cons_zero])
        refine wpAnyH_take (i := 1) (v := ?vb1) rfl (by kernel_rfl) (by kernel_rfl) (by kernel_rfl) (fun _ _ _ h => h) (Or.inl ⟨by rfl, ?hyb1⟩) hHeld ?restb1
        case hyb1 => intro w hSw; (try dsimp only at hSw); go_simp; try (with_reducible rfl)
        (try simp only [Act.put, List.setIfInBounds_toArray, List.set_cons_zero, List.set_cons_succ, List.getElem_toArray, List.getElem_cons_zero, List.getElem_cons_succ])
        refine wpAnyH_take (i := 2) (v := ?vb2) rfl (by kernel_rfl) (by kernel_rfl) (by kernel_rfl) (fun _ _ _ h => h) (Or.inl ⟨by rfl, ?hyb2⟩) hHeld ?restb2
        case hyb2 => intro w hSw; (try dsimp only at hSw); go_simp; try (with_reducible rfl)
        (try simp only [Act.put, List.setIfInBounds_toArray, List.set_cons_zero, List.set_cons_succ, List.getElem_toArray, List.getElem_cons_zero, List.getElem_cons_succ])
        refine wpAnyH_take (i := 3) (v := ?vb3) rfl (by kernel_rfl) (by kernel_rfl) (by kernel_rfl) (fun _ _ _ h => h) (Or.inl ⟨by rfl, ?hyb3⟩) hHeld ?restb3
        case hyb3 => intro w hSw; (try dsimp only at hSw); go_simp; try (with_reducible rfl)
        (try simp only [Act.put, List.setIfInBounds_toArray, List.set_cons_zero, List.set_cons_succ, List.getElem_toArray, List.getElem_cons_zero, List.getElem_cons_succ])
        refine wpAnyH_ready (rs := [4]) (by kernel_rfl) (by simp) ?_
        refine AllReadyH.cons rfl (fun Kx hKx => ?_) AllReadyH.nil
        go_simp
        refine (HLC.out _ (HEa.out.fr0 (Fr.refl _ _).drew)).mono ?_
        rintro e wla ⟨rfl, hfla⟩
        have HFla := Lib.hid ((Fr.refl (fun _ => False) w2).drew.trans hfla (fun _ _ h => h))
        have HEla := Lib.hid (HEa.out.fr0 HFla.out)
        have HQla := Lib.hid (HQ2.out.fr HFla.out (fun h => h))
        clear hfla
        refine hKx.out _ _ ?_ (fun hHeld => ?_)
        · exact ⟨HEla.out.row.cell rfl, HEla.out.ro1.cell rfl, HEla.out.ro1.cell rfl, HQla.out.cell rfl⟩
        clear hKx Kx
        (try simp only [Act.put, List.setIfInBounds_toArray, List.set_cons_zero, List.set_cons_succ, List.getElem_toArray, List.getElem_cons_zero, List.getElem_cons_succ])
        refine wpAnyH_ready (rs := [5]) (by kernel_rfl) (by simp) ?_
        refine AllReadyH.cons rfl (fun Kx hKx => ?_) AllReadyH.nil
        go_simp
        refine (HSYa.out _ HFla.out).mono ?_
        rintro e wsa ⟨rfl, A3, c3, hwsa, hesa, hfsa, hnsa⟩
        have HW3 := Lib.hid hwsa
        have HE3 := Lib.hid hesa
        have HF3 := Lib.hid (Fr.trans (HFla.out.mono (fun _ _ h => h.elim)) hfsa (fun _ _ h => h))
        have HN3 := Lib.hid (hnsa.back HFla.out.size)
        have HQ3 := Lib.hid (HQla.out.fr hfsa HQNa.out)
        have HQN3 := Lib.hid (hnsa.old HQla.out.lt HQNa.out)
        clear hwsa hesa hfsa hnsa
        refine hKx.out _ _ ?_ (fun hHeld => ?_)
        · exact ⟨HE3.out.row.cell rfl, HE3.out.ro1.cell rfl, HE3.out.ro1.cell rfl, HQ3.out.cell rfl⟩
        clear hKx Kx
        (try simp only [Act.put, List.setIfInBounds_toArray, List.set_cons_zero, List.set_cons_succ, List.getElem_toArray, List.getElem_cons_zero, List.getElem_cons_succ])
        refine wpAnyH_done (by kernel_rfl) ?_ _
        obtain ⟨Q3, hQ3⟩ : ∃ Q3, Q3 = Q ++ DeM.codeBits xs a s ++ low x sb := ⟨_, rfl⟩
        have hQ3l : Q3.length ≤ 200000200 := by
          rw [hQ3, List.length_append, List.length_append, low_length]
          unfold DeM.codeBits
          rw [List.length_reverse, low_length]
          omega
        rw [← hQ3] at HW3
        have HQ3E := Lib.hid hQ3
        clear hQ3
        have HSYb : Hid (∀ w', Fr (fun _ => False) wsa w' → Calls Tryz.prog 39 #[.agg #[.pointer (some ⟨g, 0, none⟩)], .agg #[.slice A2 n2 c2, .slice AY n2 cY], .agg #[.int .i64 (r : Int), .int .i64 (rb : Int), .int .u64 (y : Int)]] w' fun e w'' => e = .returned (.tuple #[]) ∧ ∃ A' c', Wr w'' g A' c' (Q3 ++ DeM.codeBits ys b r ++ low y rb) ∧ EnvD w'' g A' p r1 r2 n1 c1 cX n2 c2 cY A1 AX A2 AY a xs b ys ∧ Fr (Ft g A3) w' w'' ∧ Nx w' A3 A') := Lib.hid (fun w' hf =>
          symB_any (HE3.out.fr0 hf) c3 r rb y Q3 (HW3.out.frA hf (fun h => h) (fun _ _ h => h)) (by omega) (by omega) (by omega) (by omega) HYC.out)
        have HQNb := HQN3
        clear d1
        go_upto_region 7 with fail
        refine wp_region_held_drew (S := fun w' => (w'.cell? ⟨p, 0, none⟩ = some (.pointer (some ⟨g, 0, none⟩)) ∧ w'.cell? ⟨r2, 0, none⟩ = some (.slice A2 n2 c2) ∧ w'.cell? ⟨r2, 1, none⟩ = some (.slice AY n2 cY) ∧ w'.cell? ⟨q, 2, none⟩ = some (.int .i64 (E : Int)))) (by kernel_rfl) ?_ (fun hHeld => ?_)
        · exact ⟨HE3.out.row.cell rfl, HE3.out.ro2.cell rfl, HE3.out.ro2.cell rfl, HQ3.out.cell rfl⟩
        refine wpAnyH_take (i := 0) (v := ?vc0) rfl (by kernel_rfl) (by kernel_rfl) (by kernel_rfl) (fun _ _ _ h => h) (Or.inl ⟨by rfl, ?hyc0⟩) hHeld ?restc0
        case hyc0 => intro w hSw; (try dsimp only at hSw); go_simp; try (with_reducible rfl)
        (try simp only [Act.put, List.setIfInBounds_toArray, List.set_cons_zero, List.set_cons_succ, List.getElem_toArray, List.getElem_cons_zero])
        refine wpAnyH_take (i := 1) (v := ?vc1) rfl (by kernel_rfl) (by kernel_rfl) (by kernel_rfl) (fun _ _ _ h => h) (Or.inl ⟨by rfl, ?hyc1⟩) hHeld ?restc1
        case hyc1 => intro w hSw; (try dsimp only at hSw); go_simp; try (with_reducible rfl)
        (try simp only [Act.put, List.setIfInBounds_toArray, List.set_cons_zero, List.set_cons_succ, List.getElem_toArray, List.getElem_cons_zero, List.getElem_cons_succ])
        refine wpAnyH_take (i := 2) (v := ?vc2) rfl (by kernel_rfl) (by kernel_rfl) (by kernel_rfl) (fun _ _ _ h => h) (Or.inl ⟨by rfl, ?hyc2⟩) hHeld ?restc2
        case hyc2 => intro w hSw; (try dsimp only at hSw); go_simp; try (with_reducible rfl)
        (try simp only [Act.put, List.setIfInBounds_toArray, List.set_cons_zero, List.set_cons_succ, List.getElem_toArray, List.getElem_cons_zero, List.getElem_cons_succ])
        refine wpAnyH_take (i := 3) (v := ?vc3) rfl (by kernel_rfl) (by kernel_rfl) (by kernel_rfl) (fun _ _ _ h => h) (Or.inl ⟨by rfl, ?hyc3⟩) hHeld ?restc3
        case hyc3 => intro w hSw; (try dsimp only at hSw); go_simp; try (with_reducible rfl)
        (try simp only [Act.put, List.setIfInBounds_toArray, List.set_cons_zero, List.set_cons_succ, List.getElem_toArray, List.getElem_cons_zero, List.getElem_cons_succ])
        refine wpAnyH_ready (rs := [4]) (by kernel_rfl) (by simp) ?_
        refine AllReadyH.cons rfl (fun Kx hKx => ?_) AllReadyH.nil
        go_simp
        refine (HDC.out _ (HE3.out.fr0 (Fr.refl _ _).drew)).mono ?_
        rintro e wlb ⟨rfl, hflb⟩
        have HFlb := Lib.hid ((Fr.refl (fun _ => False) wsa).drew.trans hflb (fun _ _ h => h))
        have HElb := Lib.hid (HE3.out.fr0 HFlb.out)
        have HQlb := Lib.hid (HQ3.out.fr HFlb.out (fun h => h))
        clear hflb
        refine hKx.out _ _ ?_ (fun hHeld => ?_)
        · exact ⟨HElb.out.row.cell rfl, HElb.out.ro2.cell rfl, HElb.out.ro2.cell rfl, HQlb.out.cell rfl⟩
        clear hKx Kx
        (try simp only [Act.put, List.setIfInBounds_toArray, List.set_cons_zero, List.set_cons_succ, List.getElem_toArray, List.getElem_cons_zero, List.getElem_cons_succ])
        refine wpAnyH_ready (rs := [5]) (by kernel_rfl) (by simp) ?_
        refine AllReadyH.cons rfl (fun Kx hKx => ?_) AllReadyH.nil
        go_simp
        refine (HSYb.out _ HFlb.out).mono ?_
        rintro e wsb ⟨rfl, A4, c4, hwsb, hesb, hfsb, hnsb⟩
        have HW4 := Lib.hid hwsb
        have HE4 := Lib.hid hesb
        have HF4 := Lib.hid (Fr.trans (HFlb.out.mono (fun _ _ h => h.elim)) hfsb (fun _ _ h => h))
        have HN4 := Lib.hid (hnsb.back HFlb.out.size)
        have HQ4 := Lib.hid (HQlb.out.fr hfsb HQNb.out)
        have HQN4 := Lib.hid (hnsb.old HQlb.out.lt HQNb.out)
        clear hwsb hesb hfsb hnsb
        refine hKx.out _ _ ?_ (fun hHeld => ?_)
        · exact ⟨HE4.out.row.cell rfl, HE4.out.ro2.cell rfl, HE4.out.ro2.cell rfl, HQ4.out.cell rfl⟩
        clear hKx Kx
        (try simp only [Act.put, List.setIfInBounds_toArray, List.set_cons_zero, List.set_cons_succ, List.getElem_toArray, List.getElem_cons_zero, List.getElem_cons_succ])
        refine wpAnyH_done (by kernel_rfl) ?_ _
        go_wp2_with fail
        refine ⟨⟨k + 1, A4, c4, by omega, by go_num, ?_, HE4.out, Fr.next HF.out HN.out (Fr.next (Fr.trans (HFA.out.mono (fun _ _ h => h.elim)) HF3.out (fun _ _ h => h)) (HN3.out.back HFA.out.size) HF4.out), HN.out.trans ((HN3.out.back HFA.out.size).trans HN4.out (Nat.le_trans HFA.out.size HF3.out.size)) HF.out.size⟩, by simp [intOf]; omega⟩
        rw [HTK.out, HTB2.out, ← List.append_assoc, ← List.append_assoc, ← List.append_assoc, ← HQ3E.out]
        exact HW4.out
    · have hkn : k = n := by omega
      have hTT : T.take k = T := List.take_of_length_le (by rw [HLN.out]; omega)
      rw [hTT] at HQQ
      have d0 : wr.cell? ⟨p, 0, none⟩ = some (.pointer (some ⟨g, 0, none⟩)) := HE.out.row.cell rfl
      have d1 : wr.cell? ⟨r1, 0, none⟩ = some (.slice A1 n1 c1) := HE.out.ro1.cell rfl
      have d2 : wr.cell? ⟨r1, 1, none⟩ = some (.slice AX n1 cX) := HE.out.ro1.cell rfl
      have HSY : Hid (Calls Tryz.prog 39 #[.agg #[.pointer (some ⟨g, 0, none⟩)], .agg #[.slice A1 n1 c1, .slice AX n1 cX], .agg #[.int .i64 256, .int .i64 0, .int .u64 0]] wr fun e w'' => e = .returned (.tuple #[]) ∧ ∃ A' c', Wr w'' g A' c' (Q ++ DeM.codeBits xs a 256 ++ low 0 0) ∧ EnvD w'' g A' p r1 r2 n1 c1 cX n2 c2 cY A1 AX A2 AY a xs b ys ∧ Fr (Ft g AA) wr w'' ∧ Nx wr AA A') := Lib.hid
        (symA_any HE.out cc 256 0 0 Q HWR.out (by omega) (by omega) (by omega) (by omega) HXR.out)
      clear hTT hQ hql
      go_wp2_with fail
      refine HSY.out.mono ?_
      rintro e w3 ⟨rfl, A3, c3, hw3, he3, hf3, hn3⟩
      have HW3 := Lib.hid hw3
      have HF3 := Lib.hid hf3
      have HN3 := Lib.hid hn3
      clear hw3 he3 hf3 hn3 d0 d1 d2
      go_wp2_with fail
      go_end0
      refine ⟨rfl, A3, c3, ?_, Fr.trans (HF0.out.mono (fun _ _ h => h.elim)) (Fr.next HF.out HN.out HF3.out) (fun _ _ h => h), (HN.out.trans HN3.out HF.out.size).back HF0.out.size⟩
      have h := HW3.out
      rw [low_zero, List.append_nil, HQQ.out] at h
      exact h
end Go.Proofs.YtgpkiijmembggaaGreatDoor
namespace Go.Proofs.YtgpkiijmembggaaGreatDoor
open Go.RowKit BitsM Mem
set_option maxRecDepth 100000

theorem wr_align {w : World} {g c : Nat} {A : Option Addr} {bs : List Bool} (hw : Wr w g A c bs) (n : Nat) (hn : n = bs.length) :
    Wr (w.setCell ⟨g, 1, none⟩ (.int .i64 ((n : Int) + (lack n : Int)))) g A c (full bs) ∧ Fr (Ft g A) w (w.setCell ⟨g, 1, none⟩ (.int .i64 ((n : Int) + (lack n : Int)))) := by
  obtain ⟨hg, hown⟩ := hw
  have hfr : Fr (Ft g A) w (w.setCell ⟨g, 1, none⟩ (.int .i64 ((n : Int) + (lack n : Int)))) := (Fr.refl _ w).setCell (p := ⟨g, 1, none⟩) (fun _ => .inl rfl) _
  have hfr' : Fr (Ft g none) w (w.setCell ⟨g, 1, none⟩ (.int .i64 ((n : Int) + (lack n : Int)))) := (Fr.refl _ w).setCell (p := ⟨g, 1, none⟩) (fun _ => .inl rfl) _
  have e : ((full bs).length + 7) / 8 = (bs.length + 7) / 8 := by rw [full_length]; have := lack_ceil bs.length; have := lack_lt bs.length; omega
  refine ⟨⟨?_, ?_⟩, hfr⟩
  · rw [e, set_of hg, full_length, ← hn]
    simp
  · rw [e, pack_full]
    refine hfr'.own hown (fun k hk => ?_)
    rintro (h | h)
    · exact own_ne hown hg (by decide) (by rw [hk, h])
    · simp [bl] at h
set_option maxHeartbeats 800000 in
theorem walign_any (g c : Nat) (A : Option Addr) (bs : List Bool) (w : World) (hw : Wr w g A c bs) (hb : bs.length ≤ 1099511627776) :
    Calls Tryz.prog 34 #[.pointer (some ⟨g, 0, none⟩)] w fun e w' => e = .returned (.tuple #[]) ∧ Wr w' g A c (full bs) ∧ Fr (Ft g A) w w' := by
  obtain ⟨n, hn⟩ : ∃ n, n = bs.length := ⟨_, rfl⟩
  have hal := wr_align hw n hn
  have hc1 : w.cell? ⟨g, 1, none⟩ = some (.int .i64 (n : Int)) := by rw [hn]; exact cell_of hw.1 1
  have hf1 := free_of hw.1 1
  rw [← hn] at hb
  have hlk := lack_lt n
  have H1 := Lib.hid hal
  have HW := Lib.hid hw
  clear hal hn hw
  go_enter Tryz.func34, Tryz.ntmps34
  go_wp2_with fail
  have hs : IntKind.i64.wrap ((n : Int) + (lack n : Int)) = (n : Int) + (lack n : Int) := IntWalk.i64_in _ (by omega)
  go_still_tail 12, (by kernel_rfl)
  still_call ((lacking_any n _ (by omega)).mono fun _ _ ⟨h, h'⟩ => ⟨h, h'.symm⟩)
  repeat still_step
  refine wpStill_nil ?_
  change wpList _ _ _ _ _ w.drew
  go_wp2_with fail
  go_end0
  exact ⟨rfl, H1.out.1.drew, H1.out.2.drew⟩
theorem wr_raw {w w1 : World} {g c c' m : Nat} {A A' : Option Addr} {bs : List Bool} {B : List UInt8} (hg : w1.heap[g]? = some (.cells #[.slice A ((bs.length + 7) / 8) c, .int .i64 (bs.length : Int)] 45 (0, 0)))
    (hm : bs.length % 8 = 0) (hM : m = (bs.length + 7) / 8 + B.length) (hown : w1.ownsRow 0 5 1 (.slice A' m c') m ((pack bs).map bytec ++ B.map bytec))
    (hfr : Fr (fun k => bl A = some k) w w1) (hnx : bl A' = bl A ∨ bl A' = some w.heap.size) :
    Wr ((w1.setCell ⟨g, 0, none⟩ (.slice A' m c')).setCell ⟨g, 1, none⟩ (.int .i64 ((bs.length : Int) + 8 * (B.length : Int)))) g A' c' (bs ++ bitsOf B) ∧
    Fr (Ft g A) w ((w1.setCell ⟨g, 0, none⟩ (.slice A' m c')).setCell ⟨g, 1, none⟩ (.int .i64 ((bs.length : Int) + 8 * (B.length : Int)))) ∧ Nx w A A' ∧
    (w1.setCell ⟨g, 0, none⟩ (.slice A' m c')).cell? ⟨g, 1, none⟩ = some (.int .i64 (bs.length : Int)) ∧ w1.cell? ⟨g, 0, none⟩ = some (.slice A ((bs.length + 7) / 8) c) ∧ w1.frozen? ⟨g, 0, none⟩ = false ∧ w1.frozen? ⟨g, 1, none⟩ = false := by
  have h1 := set_of hg 0 (.slice A' m c')
  have h2 := set_of h1 1 (.int .i64 ((bs.length : Int) + 8 * (B.length : Int)))
  have hl : (bs ++ bitsOf B).length = bs.length + 8 * B.length := by rw [List.length_append, bitsOf_length]
  have e : ((bs ++ bitsOf B).length + 7) / 8 = m := by rw [hl]; omega
  refine ⟨⟨?_, ?_⟩, ?_, ?_, ?_, cell_of hg 0, free_of hg 0, free_of hg 1⟩
  · rw [e, h2, hl]
    simp
  · rw [e, pack_append hm, pack_bitsOf, List.map_append]
    have hf : Fr (Ft g none) w1 ((w1.setCell ⟨g, 0, none⟩ (.slice A' m c')).setCell ⟨g, 1, none⟩ (.int .i64 ((bs.length : Int) + 8 * (B.length : Int)))) :=
      ((Fr.refl _ w1).setCell (p := ⟨g, 0, none⟩) (fun _ => .inl rfl) _).setCell (p := ⟨g, 1, none⟩) (fun _ => .inl rfl) _
    refine hf.own hown (fun k hk => ?_)
    rintro (h | h)
    · exact own_ne hown hg (by decide) (by rw [hk, h])
    · simp [bl] at h
  · exact ((hfr.mono (fun b _ h => .inr h)).setCell (p := ⟨g, 0, none⟩) (fun _ => .inl rfl) _).setCell (p := ⟨g, 1, none⟩) (fun _ => .inl rfl) _
  · rcases hnx with h | h
    · exact .inl h
    · exact .inr ⟨_, h, Nat.le_refl _⟩
  · exact cell_of h1 1
set_option maxHeartbeats 800000 in
theorem wraw0_any (g c : Nat) (A A2 : Option Addr) (k c2 : Nat) (bs : List Bool) (B : List UInt8) (w : World) (hw : Wr w g A c bs) (hb : bs.length + 8 * k ≤ 1099511627776) (hr : Rd w A2 k (B.map bytec))
    (hA : 0 < k → ∀ ad, A2 = some ad → ¬ Ft g A ad.block) :
    Calls Tryz.prog 35 #[.pointer (some ⟨g, 0, none⟩), .slice A2 k c2] w fun e w' => e = .returned (.tuple #[]) ∧ ∃ A' c', Wr w' g A' c' (full bs ++ bitsOf B) ∧ Fr (Ft g A) w w' ∧ Nx w A A' := by
  have hBk : B.length = k := by simpa using hr.1
  subst hBk
  have hlk := lack_lt bs.length
  go_enter Tryz.func35, Tryz.ntmps35
  go_wp2_with fail
  refine (walign_any g c A bs w hw (by omega)).mono ?_
  rintro e w1 ⟨rfl, hw1, hfr1⟩
  have hr1 := hr.frp hfr1 hA
  have hfl : (full bs).length ≤ bs.length + 8 := by rw [full_length]; omega
  have hfm := full_mod bs
  obtain ⟨hg, hown⟩ := hw1
  obtain ⟨F, hF⟩ : ∃ F, F = full bs := ⟨_, rfl⟩
  rw [← hF] at hfl hfm hg hown
  have HF := Lib.hid hF
  have hsz := hfr1.size
  have hc0 : w1.cell? ⟨g, 0, none⟩ = some (.slice A ((F.length + 7) / 8) c) := cell_of hg 0
  obtain ⟨m, hm⟩ : ∃ m, m = (F.length + 7) / 8 + B.length := ⟨_, rfl⟩
  have hm40 : m ≤ 1099511627777 := by omega
  have HM := Lib.hid hm
  have HG := Lib.hid hg
  have HFM := Lib.hid hfm
  clear hF hw hr hA hm hg hfm
  go_wp2_with (at_builtin; refine wpList_appN u8T _ rfl _ _ rfl 0 _ _ _ rfl hown _ _ _ _ rfl hr1 (bytec_one _) m HM.out (by unfold maxLen; omega) (by omega) (Nat.zero_le _) ?_)
  intro A' c' w2 _ _ hown' hfr' hnx
  rw [bl_own, bl_own] at hnx
  rw [bl_own] at hfr'
  have hne := own_ne hown HG.out (by decide)
  rw [bl_own] at hne
  have hg2 := hfr'.blk HG.out hne
  obtain ⟨F1, F2, F3, F4, F5, F6, F7⟩ := wr_raw hg2 HFM.out HM.out hown' hfr' hnx
  have H1 := Lib.hid F1
  clear F1 hown' hown hc0 hg2
  go_wp2_with fail
  go_end0
  rw [← HF.out]
  exact ⟨rfl, A', c', H1.out, Fr.next hfr1 (Nx.refl _ _) F2, (Nx.refl _ _).trans F3 hsz⟩
theorem wraw_any (g c : Nat) (A A2 : Option Addr) (k c2 : Nat) (bs : List Bool) (B : List UInt8) (w : World) (hw : Wr w g A c bs) (hb : bs.length + 8 * k ≤ 1099511627776) (hr : Rd w A2 k (B.map bytec))
    (hA : ∀ ad, A2 = some ad → ¬ Ft g A ad.block) :
    Calls Tryz.prog 35 #[.pointer (some ⟨g, 0, none⟩), .slice A2 k c2] w fun e w' => e = .returned (.tuple #[]) ∧ ∃ A' c', Wr w' g A' c' (full bs ++ bitsOf B) ∧ Fr (Ft g A) w w' ∧ Nx w A A' := wraw0_any g c A A2 k c2 bs B w hw hb hr (fun _ => hA)
end Go.Proofs.YtgpkiijmembggaaGreatDoor
