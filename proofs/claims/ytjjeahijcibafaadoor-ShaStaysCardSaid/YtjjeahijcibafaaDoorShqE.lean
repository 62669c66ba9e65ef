/-
  Contract of layer 4's program: a block mixed into a state.
-/
import Derived.Test.YtjjeahijcibafaaDoorShqD
namespace Go.Proofs.YtjjeahijcibafaaDoor
open Go.RowKit ShaM Mem Go.Lib
attribute [local go_sem ↓] Go.wp_at_zero Go.wp_at_succ

/-- the cells of a state -/
def sc (ad buf : List Nat) (n : Nat) : List Value := ad.map num32 ++ (buf.map byten ++ [.int .u64 (n : Int)])
theorem sc_ad {ad buf : List Nat} {n j : Nat} {v : Value} (h : (ad.map num32)[j]? = some v) : (sc ad buf n)[0 + j]? = some v := by
  rw [Nat.zero_add]
  unfold sc
  rw [List.getElem?_append_left (List.getElem?_eq_some_iff.1 h).1]
  exact h
theorem sc_buf {ad buf : List Nat} {n j : Nat} {v : Value} (hl : ad.length = 8) (h : (buf.map byten)[j]? = some v) : (sc ad buf n)[8 + j]? = some v := by
  unfold sc
  rw [List.getElem?_append_right (by simp [hl]), List.length_map, hl, Nat.add_sub_cancel_left, List.getElem?_append_left (List.getElem?_eq_some_iff.1 h).1]
  exact h
theorem sc_count {ad buf : List Nat} {n : Nat} (hl : ad.length = 8) (hb : buf.length = 64) : (sc ad buf n)[72]? = some (.int .u64 (n : Int)) := by
  unfold sc
  rw [List.getElem?_append_right (by simp [hl]), List.length_map, hl, List.getElem?_append_right (by simp [hb]), List.length_map, hb]
  rfl
theorem sc_set_ad {ad buf : List Nat} {n k x : Nat} (hl : ad.length = 8) (hk : k < 8) : (sc ad buf n).set k (num32 x) = sc (ad.set k x) buf n := by
  unfold sc
  rw [List.set_append_left _ _ (by simp [hl, hk]), ← List.map_set]
theorem sc_set_count {ad buf : List Nat} {n m : Nat} (hl : ad.length = 8) (hb : buf.length = 64) : (sc ad buf n).set 72 (.int .u64 (m : Int)) = sc ad buf m := by
  unfold sc
  rw [List.set_append_right _ _ (by simp [hl]), List.length_map, hl, List.set_append_right _ _ (by simp [hb]), List.length_map, hb]
  rfl
theorem sc_len {ad buf : List Nat} {n : Nat} (hl : ad.length = 8) (hb : buf.length = 64) : (sc ad buf n).length = 73 := by simp [sc, hl, hb]
theorem sc_splice {ad buf C : List Nat} {n r : Nat} (hl : ad.length = 8) (hr : r + C.length ≤ buf.length) : splice (sc ad buf n) (8 + r) (C.map byten) = sc ad (splice buf r C) n := by
  unfold sc splice
  have e8 : (ad.map num32).length = 8 := by simp [hl]
  rw [List.take_append, List.drop_append, e8, List.take_of_length_le (by rw [e8]; omega), List.drop_of_length_le (by rw [e8]; omega), List.length_map, show 8 + r - 8 = r from by omega, show 8 + r + C.length - 8 = r + C.length from by omega, List.nil_append]
  rw [List.take_append_of_le_length (by simp; omega), List.drop_append_of_le_length (by simp; omega), List.map_append, List.map_append, List.map_take, List.map_drop]
  simp [List.append_assoc]

/-- the first k words are added to -/
def mk (ad V : List Nat) (k : Nat) : List Nat := (List.zipWith a32 ad V).take k ++ ad.drop k
theorem mk_at (ad V : List Nat) (k : Nat) (hl : ad.length = 8) (hV : V.length = 8) (hk : k < 8) : ∃ x f, V[k]? = some f ∧ (mk ad V k)[k]? = some x ∧ (mk ad V k).set k (a32 x f) = mk ad V (k + 1) := by
  have hsl : (List.zipWith a32 ad V).length = 8 := by simp [hl, hV]
  have hs : (List.zipWith a32 ad V)[k]? = some (a32 (ad[k]'(by omega)) (V[k]'(by omega))) := by
    rw [List.getElem?_eq_getElem (by omega)]
    congr 1
    exact List.getElem_zipWith ..
  refine ⟨ad[k], V[k], List.getElem?_eq_getElem _, ?_, ?_⟩
  · unfold mk
    rw [List.getElem?_append_right (by simp; omega), List.getElem?_drop, List.length_take, hsl, Nat.min_eq_left (by omega), Nat.sub_self, Nat.add_zero, List.getElem?_eq_getElem (by omega)]
  · unfold mk
    rw [List.set_append_right _ _ (by simp; omega), List.length_take, hsl, Nat.min_eq_left (by omega), Nat.sub_self, List.drop_eq_getElem_cons (by omega), List.set_cons_zero, List.take_add_one, hs]
    simp
theorem mk_len (ad V : List Nat) (k : Nat) (hl : ad.length = 8) (hV : V.length = 8) (hk : k ≤ 8) : (mk ad V k).length = 8 := by simp [mk, hl, hV]; omega
theorem mk_full (ad V : List Nat) (hl : ad.length = 8) (hV : V.length = 8) : mk ad V 8 = List.zipWith a32 ad V := by
  unfold mk
  rw [List.take_of_length_le (by simp [hl, hV]), List.drop_of_length_le (by omega), List.append_nil]

def FactsP (a b c d e f g h kk ww cv mv x1 x2 y1 y2 y3 t1 z1 z2 t2 ne na : Nat) : Prop :=
  bits .xor .u32 (tr 6 e : Int) (tr 11 e : Int) = (x1 : Int) ∧ bits .xor .u32 (x1 : Int) (tr 25 e : Int) = (x2 : Int) ∧ IntKind.u32.wrap ((h : Int) + (x2 : Int)) = (y1 : Int) ∧
  IntKind.u32.wrap ((y1 : Int) + (cv : Int)) = (y2 : Int) ∧ IntKind.u32.wrap ((y2 : Int) + (kk : Int)) = (y3 : Int) ∧ IntKind.u32.wrap ((y3 : Int) + (ww : Int)) = (t1 : Int) ∧
  bits .xor .u32 (tr 2 a : Int) (tr 13 a : Int) = (z1 : Int) ∧ bits .xor .u32 (z1 : Int) (tr 22 a : Int) = (z2 : Int) ∧ IntKind.u32.wrap ((z2 : Int) + (mv : Int)) = (t2 : Int) ∧
  IntKind.u32.wrap ((d : Int) + (t1 : Int)) = (ne : Int) ∧ IntKind.u32.wrap ((t1 : Int) + (t2 : Int)) = (na : Int) ∧
  ch e f g = cv ∧ mj a b c = mv
theorem round_factsP (a b c d e f g h kk ww : Nat) (ha : a < 4294967296) (he : e < 4294967296) :
    ∃ cv mv x1 x2 y1 y2 y3 t1 z1 z2 t2 ne na : Nat, FactsP a b c d e f g h kk ww cv mv x1 x2 y1 y2 y3 t1 z1 z2 t2 ne na ∧
      ne < 4294967296 ∧ na < 4294967296 ∧ round ⟨a, b, c, d, e, f, g, h⟩ kk ww = ⟨na, a, b, c, ne, e, f, g⟩ := by
  refine ⟨_, _, _, _, _, _, _, _, _, _, _, _, _, ⟨xor_w _ _ (tr_lt _ _ he) (tr_lt _ _ he), xor_w _ _ (xor_lt (tr_lt _ _ he) (tr_lt _ _ he)) (tr_lt _ _ he), add_w _ _, add_w _ _, add_w _ _, add_w _ _,
    xor_w _ _ (tr_lt _ _ ha) (tr_lt _ _ ha), xor_w _ _ (xor_lt (tr_lt _ _ ha) (tr_lt _ _ ha)) (tr_lt _ _ ha), add_w _ _, add_w _ _, add_w _ _, rfl, rfl⟩, a32_lt _ _, a32_lt _ _, ?_⟩
  rfl

set_option maxRecDepth 100000 in
set_option maxHeartbeats 3200000 in
theorem mix_any (g n : Nat) (t : TypeId) (ad buf : List Nat) (w : World) (hl : ad.length = 8) (hbl : buf.length = 64) (hbx : ∀ b ∈ buf, b < 256) (hG : Gl w) (hr : Row w g t (sc ad buf n)) :
    Calls Tryd.prog 26 #[.pointer (some ⟨g, 0, none⟩)] w fun e w' => e = .returned (.tuple #[]) ∧ Row w' g t (sc (mixed ad buf) buf n) ∧ Fr (fun b => b = g) w w' := by
  obtain ⟨ja, jb, jc, jd, je, jf, jg, jh, hS⟩ := eight_cases (sumW_len hl)
  have hE := sumW_eight hl
  have hb : ja < 4294967296 ∧ jb < 4294967296 ∧ jc < 4294967296 ∧ jd < 4294967296 ∧ je < 4294967296 ∧ jf < 4294967296 ∧ jg < 4294967296 ∧ jh < 4294967296 := by
    have h := hE.2
    rw [hS] at h
    exact ⟨h _ (by simp), h _ (by simp), h _ (by simp), h _ (by simp), h _ (by simp), h _ (by simp), h _ (by simp), h _ (by simp)⟩
  obtain ⟨W, hW⟩ : ∃ W, W = sched buf 64 := ⟨_, rfl⟩
  have hWl : W.length = 64 := by rw [hW, sched_len]
  obtain ⟨S8, hS8⟩ : ∃ S8, S8 = (sumW ad).map num32 := ⟨_, rfl⟩
  have hS8' : S8 = [.int .u32 (ja : Int), .int .u32 (jb : Int), .int .u32 (jc : Int), .int .u32 (jd : Int), .int .u32 (je : Int), .int .u32 (jf : Int), .int .u32 (jg : Int), .int .u32 (jh : Int)] := by rw [hS8, hS]; rfl
  obtain ⟨WR, hWR⟩ : ∃ WR, WR = (W.map num32).toArray := ⟨_, rfl⟩
  have hwords := words_any g ad w hl hG (hr.range 0 _ (fun j v h => sc_ad h))
  have hspread := fun w => spread_any buf w hbl hbx
  have hone : S8.toArray.all (·.oneCell') = true := by rw [hS8, List.all_toArray, List.all_eq_true]; exact num32_one _
  rw [← hS8] at hwords
  rw [← hW, ← hWR] at hspread
  have hmx : mixed ad buf = List.zipWith a32 ad (stL (rounds keys W ⟨ja, jb, jc, jd, je, jf, jg, jh⟩ 64)) := by
    unfold mixed
    rw [← hW, hS]
    rfl
  obtain ⟨bv, hbv⟩ : ∃ bv, bv = buf.map byten := ⟨_, rfl⟩
  have hbvl : bv.length = 64 := by rw [hbv, List.length_map, hbl]
  rw [← hbv] at hspread
  have HBV := Lib.hid hbv
  have HBVL := Lib.hid hbvl
  have HWO := Lib.hid hwords
  have HSP := Lib.hid hspread
  have HMX := Lib.hid hmx
  have HWL := Lib.hid hWl
  have HWR := Lib.hid hWR
  have HS8 := Lib.hid hS8'
  have HS8O := Lib.hid hone
  have HL := Lib.hid hl
  have HBL := Lib.hid hbl
  have HGL := Lib.hid hG
  have HR := Lib.hid hr
  clear hwords hspread hmx hWl hWR hS8 hS8' hone hl hbl hG hr hS hE hW hbx hbv hbvl
  go_enter Tryd.func26, Tryd.ntmps26
  go_wp2_with fail
  refine HWO.out.mono ?_
  rintro e w1 ⟨rfl, hf1⟩
  have HF1 := Lib.hid hf1
  have hrow2 := heap_alloc_new w1 (.cells (List.replicate 8 (Value.int .u32 0)).toArray 35)
  have hs8l : S8.toArray.size = 8 := by rw [HS8.out]; rfl
  have HS8L := Lib.hid hs8l
  clear hf1 hs8l
  go_wp2_with (refine wpList_store_blk eightT rfl (.tmp 2) (.tmp 18) rfl w1.heap.size rfl S8.toArray rfl _ _ hrow2 HS8L.out (by rfl) HS8O.out ?_)
  intro w2 hg2 hf2
  obtain ⟨g2, hgg⟩ : ∃ g2, g2 = w1.heap.size := ⟨_, rfl⟩
  rw [← hgg] at hg2 ⊢
  have hr2 : Row w2 g2 35 S8 := hg2
  have hf12 : Fr (fun _ => False) w w2 := (HF1.out.alloc _).trans hf2 (fun b hb h => by have := HF1.out.size; omega)
  rw [HS8.out] at hr2
  have c0 := hr2.cell (i := 0) rfl
  have c1 := hr2.cell (i := 1) rfl
  have c2 := hr2.cell (i := 2) rfl
  have c3 := hr2.cell (i := 3) rfl
  have c4 := hr2.cell (i := 4) rfl
  have c5 := hr2.cell (i := 5) rfl
  have c6 := hr2.cell (i := 6) rfl
  have c7 := hr2.cell (i := 7) rfl
  have HF2 := Lib.hid hf12
  clear hrow2 hg2 hf2 hgg hr2 hf12
  go_wp2_with fail
  go_still (by kernel_rfl)
  change Exit.then _ _ _ _ w2.drew
  generalize hw3 : w2.drew = w3
  have hf3 : Fr (fun _ => False) w w3 := by rw [← hw3]; exact HF2.out.drew
  have HF3 := Lib.hid hf3
  have hbr := (HR.out.fr hf3 (fun h => h)).range 8 bv (fun j v h => sc_buf HL.out (by rw [← HBV.out]; exact h))
  have HBR := Lib.hid hbr
  clear c0 c1 c2 c3 c4 c5 c6 c7 hw3 hf3 hbr HF2
  go_wp2_with (refine load_piece bufT rfl (.tmp 37) rfl g 8 rfl bv HBVL.out HBR.out ?_)
  refine (HSP.out _).mono ?_
  rintro e w4 ⟨rfl, hf4⟩
  have HF4 := Lib.hid (HF3.out.trans hf4 (fun _ _ h => h))
  have HGL4 := Lib.hid (HGL.out.fr0 HF4.out)
  clear hf4 HBR HF3
  rename World => wc
  go_wp2_with fail
  go_loopw [3, 4, 5, 6, 7, 8, 9, 10, 40] (fun qa qb qc qd qe qf qg qh i wr => ∃ (k : Nat) (va vb vc vd ve vf vg vh : Nat), k ≤ 64 ∧ i = .int .i64 (k : Int) ∧ qa = .int .u32 (va : Int) ∧ qb = .int .u32 (vb : Int) ∧ qc = .int .u32 (vc : Int) ∧ qd = .int .u32 (vd : Int) ∧ qe = .int .u32 (ve : Int) ∧ qf = .int .u32 (vf : Int) ∧ qg = .int .u32 (vg : Int) ∧ qh = .int .u32 (vh : Int) ∧ (va < 4294967296 ∧ vb < 4294967296 ∧ vc < 4294967296 ∧ vd < 4294967296 ∧ ve < 4294967296 ∧ vf < 4294967296 ∧ vg < 4294967296 ∧ vh < 4294967296) ∧ Hid ((⟨va, vb, vc, vd, ve, vf, vg, vh⟩ : St) = rounds keys W ⟨ja, jb, jc, jd, je, jf, jg, jh⟩ k) ∧ Fr (fun _ => False) wc wr)
    (fun _ _ _ _ _ _ _ _ i _ => 64 - (intOf i).toNat)
  case atStart => exact ⟨0, ja, jb, jc, jd, je, jf, jg, jh, by omega, rfl, rfl, rfl, rfl, rfl, rfl, rfl, rfl, rfl, hb, rfl, Fr.refl _ _⟩
  case round =>
    obtain ⟨k, va, vb, vc, vd, ve, vf, vg, vh, hk64, rfl, rfl, rfl, rfl, rfl, rfl, rfl, rfl, rfl, hbv, HS, hfr⟩ := hrel
    by_cases hk : k < 64
    · obtain ⟨ha, hb, hc, hd, he, hf, hgx, hh⟩ := hbv
      obtain ⟨kk, hkk1⟩ : ∃ x, keys[k]? = some x := ⟨_, List.getElem?_eq_getElem (by show k < 64; exact hk)⟩
      obtain ⟨ww, hww1⟩ : ∃ x, W[k]? = some x := ⟨_, List.getElem?_eq_getElem (by have := HWL.out; omega)⟩
      have hck := (HGL4.out.fr0 hfr).2 k kk hkk1
      have hwi : WR[k]? = some (.int .u32 (ww : Int)) := by rw [HWR.out]; simp [hww1]; rfl
      have hwx := run_index_agg (P := Tryd.prog) Tryd.underlying62 Tryd.underlying34 rfl (by kernel_rfl) WR .i64 k _ hk hwi
      obtain ⟨cv, mv, x1, x2, y1, y2, y3, t1, z1, z2, t2, ne, na, hF, hne, hna, hround⟩ := round_factsP va vb vc vd ve vf vg vh kk ww ha he
      obtain ⟨e1, e2, e3, e4, e5, e6, e7, e8, e9, e10, e11, e12, e13⟩ := hF
      have hch := fun w => choice_any ve vf vg w he hf hgx
      have hmj := fun w => majority_any va vb vc w ha hb hc
      rw [e12] at hch
      rw [e13] at hmj
      have hnew : (⟨na, va, vb, vc, ne, ve, vf, vg⟩ : St) = rounds keys W ⟨ja, jb, jc, jd, je, jf, jg, jh⟩ (k + 1) := by
        rw [rounds, ← HS.out, getD_some hkk1, getD_some hww1]
        exact hround.symm
      have bk : (k : Int) < 64 := by omega
      have HNEW := Lib.hid hnew
      have HFR := Lib.hid hfr
      have HCH := Lib.hid hch
      have HMJ := Lib.hid hmj
      rename World => wd
      clear hkk1 hww1 hwi hround hnew HS hfr hch hmj e12 e13
      go_wp2_with fail
      refine wp_region_still_lit (by kernel_rfl) (by kernel_rfl) ?_
      repeat still_step
      still_call (sw (ri6 ve _ he))
      repeat still_step
      still_call (sw (ri11 ve _ he))
      repeat still_step
      still_call (sw (ri25 ve _ he))
      repeat still_step
      still_call (sw (HCH.out _))
      repeat still_step
      refine wpStill_nil ?_
      clear hck hwx e1 e2 e3 e4 e5 e6
      go_wp2_with fail
      with_reducible refine (ri2 va _ ha).mono ?_
      rintro e w5 ⟨rfl, rfl⟩
      go_wp2_with fail
      with_reducible refine (ri13 va _ ha).mono ?_
      rintro e w5 ⟨rfl, rfl⟩
      go_wp2_with fail
      with_reducible refine (ri22 va _ ha).mono ?_
      rintro e w5 ⟨rfl, rfl⟩
      go_wp2_with fail
      refine (HMJ.out _).mono ?_
      rintro e w5 ⟨rfl, rfl⟩
      go_wp2_with fail
      exact ⟨⟨k + 1, na, va, vb, vc, ne, ve, vf, vg, by omega, by go_num, rfl, rfl, rfl, rfl, rfl, rfl, rfl, rfl, ⟨hna, ha, hb, hc, hne, he, hf, hgx⟩, HNEW, HFR.out.drew⟩, by simp [intOf]; omega⟩
    · obtain rfl : k = 64 := by omega
      have hmx : mixed ad buf = List.zipWith a32 ad [va, vb, vc, vd, ve, vf, vg, vh] := by
        rw [HMX.out, ← HS.out]
        rfl
      have HMX2 := Lib.hid hmx
      have HF5 := Lib.hid (HF4.out.trans hfr (fun _ _ h => h))
      have HR5 := Lib.hid (HR.out.fr HF5.out (fun h => h))
      rename World => w5
      clear hmx hfr HS hbv HMX HSP HWO
      rw [show (((64 : Nat)) : Int) = (64 : Int) from rfl]
      go_wp2_with fail
      obtain ⟨V, hV⟩ : ∃ V, V = [va, vb, vc, vd, ve, vf, vg, vh] := ⟨_, rfl⟩
      obtain ⟨A8, hA8⟩ : ∃ A8 : Array Value, A8 = #[.int .u32 (va : Int), .int .u32 (vb : Int), .int .u32 (vc : Int), .int .u32 (vd : Int), .int .u32 (ve : Int), .int .u32 (vf : Int), .int .u32 (vg : Int), .int .u32 (vh : Int)] := ⟨_, rfl⟩
      have hVA : A8 = (V.map num32).toArray := by rw [hA8, hV]; rfl
      have hVl : V.length = 8 := by rw [hV]; rfl
      rw [← hA8]
      have HVA := Lib.hid hVA
      have HVL := Lib.hid hVl
      have HMX3 : Hid (mixed ad buf = List.zipWith a32 ad V) := Lib.hid (by rw [hV]; exact HMX2.out)
      clear hVA hVl hV hA8 HMX2
      go_loopw [100] (fun i wr => ∃ k : Nat, k ≤ 8 ∧ i = .int .i64 (k : Int) ∧ Hid (Row wr g t (sc (mk ad V k) buf n)) ∧ Fr (fun b => b = g) w5 wr)
        (fun i _ => 8 - (intOf i).toNat)
      case atStart => exact ⟨0, by omega, rfl, HR5, Fr.refl _ _⟩
      case round =>
        obtain ⟨k, hk, rfl, HW, hfr⟩ := hrel
        by_cases hlt : k < 8
        · obtain ⟨x, f, hf, hcur, hset⟩ := mk_at ad V k HL.out HVL.out hlt
          have hml := mk_len ad V k HL.out HVL.out (by omega)
          have hwi : A8[k]? = some (.int .u32 (f : Int)) := by rw [HVA.out]; simp [hf]; rfl
          have hwx := run_index_agg (P := Tryd.prog) Tryd.underlying35 Tryd.underlying34 rfl (by kernel_rfl) A8 .i64 k _ hlt hwi
          have hc3 := HW.out.cell (sc_ad (n := n) (buf := buf) (show ((mk ad V k).map num32)[k]? = some (num32 x) by rw [List.getElem?_map, hcur]; rfl))
          have hfree := HW.out.free k
          have e1 := add_w x f
          have hs := HW.out.set k (num32 (a32 x f))
          rw [sc_set_ad hml hlt, hset] at hs
          rw [Nat.zero_add] at hc3
          unfold num32 at hs hc3
          obtain ⟨z, hz⟩ : ∃ z, z = a32 x f := ⟨_, rfl⟩
          rw [← hz] at e1 hs
          have b8 : (k : Int) < 8 := by omega
          have HS := Lib.hid hs
          have HFR := Lib.hid hfr
          clear hf hcur hset hs hz hfr HW hwi hml
          go_wp2_with fail
          go_still_tail 11, (by kernel_rfl)
          change wpList _ _ _ _ _ wr.drew
          go_wp2_with fail
          exact ⟨⟨k + 1, by omega, by go_num, HS, HFR.out.drew.trans (Fr.set1 wr.drew g k _) (fun _ _ h => h)⟩, by simp [intOf]; omega⟩
        · obtain rfl : k = 8 := by omega
          rw [mk_full _ _ HL.out HVL.out, ← HMX3.out] at HW
          go_wp2_with fail
          go_end0
          exact ⟨rfl, HW.out, (HF5.out.mono (fun _ _ h => h.elim)).trans hfr (fun _ _ h => h)⟩
end Go.Proofs.YtjjeahijcibafaaDoor
