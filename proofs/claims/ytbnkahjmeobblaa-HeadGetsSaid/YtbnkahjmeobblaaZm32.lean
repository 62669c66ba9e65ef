/-
  Layer 20, the program: the reader: deps.
  Layer 20, the program: the reader: change; Get (written by gen_change.py).
-/
import Derived.Test.YtbnkahjmeobblaaZm22
import Derived.Test.YtbnkahjmeobblaaZm31
import Derived.Test.YtbnkahjmeobblaaZm21
import Derived.Test.YtbnkahjmeobblaaZm11
import Derived.Test.YtbnkahjmeobblaaZm12
import Derived.Test.YtbnkahjmeobblaaZm09
import Derived.Test.YtbnkahjmeobblaaZm14
import Derived.Test.YtbnkahjmeobblaaZm10
namespace Go.Proofs.Ytbnkahjmeobblaa
open Go.RowKit Mem Go.Lib LebM DirM AcM HeM
attribute [local go_sem ↓] Go.wp_at_zero Go.wp_at_succ
set_option linter.unusedVariables false

theorem hashTS : ElemTyS Try.prog 22 60 (.agg (Array.replicate 32 (.int .u8 0))) 32 32 := ⟨Try.underlying22, by kernel_rfl, rfl, by decide⟩
theorem byt_len (n : Nat) (s : St) : (byt n s).1.length = n ∨ (byt n s).1 = [] := by
  unfold byt
  split
  · exact .inr rfl
  · split
    · exact .inr rfl
    · refine .inl ?_
      show (s.l.take n).length = n
      rw [List.length_take]
      omega
theorem depS_len : ∀ (k : Nat) (acc : List Tx) (s : St), (depS k acc s).1.length = acc.length + k
  | 0, acc, s => rfl
  | k + 1, acc, s => by
    unfold depS
    rw [depS_len k, List.length_append, List.length_singleton]
    omega
theorem padH_len {x : List UInt8} (h : x.length ≤ 32) : (padH x).length = 32 := by unfold padH; rw [List.length_append, List.length_replicate]; omega
theorem zero_cells : (List.replicate 32 (Value.int .u8 0)) = (List.replicate 32 (0 : UInt8)).map bytec := by simp [bytec]
theorem pad_splice (x : List UInt8) (h : x.length ≤ 32) : splice (List.replicate 32 (Value.int .u8 0)) 0 (x.map bytec) = (padH x).map bytec := by
  unfold splice padH
  rw [List.take_zero, List.nil_append, List.map_append, List.length_map, Nat.zero_add, zero_cells, ← List.map_drop, List.drop_replicate]
set_option maxRecDepth 100000 in
set_option maxHeartbeats 6400000 in
theorem hDeps_any (g : Nat) (s : St) (w : World) (h : Hdm w g s) :
    Calls Try.prog 56 #[.pointer (some ⟨g, 0, none⟩)] w fun e w' => ∃ A' c', e = .returned (.slice A' (deps s).1.length c') ∧ OwnH w' w.heap.size A' c' (deps s).1 ∧ (∀ h ∈ (deps s).1, h.length = 32) ∧ Hdm w' g (deps s).2 ∧ Fr (fun k => k = g) w w' := by
  have HGW := Lib.hid h.lt
  have hn := hNumber_any g s 16 w h (by omega)
  obtain ⟨N, hN⟩ : ∃ N, (num 16 s).1 = N := ⟨_, rfl⟩
  obtain ⟨s1, hs1⟩ : ∃ s1, (num 16 s).2 = s1 := ⟨_, rfl⟩
  have hN16 : N ≤ 16 := by
    rw [← hN]
    unfold num
    split
    · exact Nat.zero_le _
    · exact (numD_lt 16 s.l).1
  have e : deps s = depS N [] s1 := by unfold deps bnd; rw [hN, hs1]
  obtain ⟨R, hR⟩ : ∃ R, depS N [] s1 = R := ⟨_, rfl⟩
  rw [hN, hs1] at hn
  rw [e, hR]
  have HN := Lib.hid hn
  have HR := Lib.hid hR
  clear h hn hN hs1 e hR
  go_enter Try.func56, Try.ntmps56
  go_wp2_with fail
  refine HN.out.mono ?_
  rintro e w1 ⟨rfl, hd1, hf1⟩
  have HD1 := Lib.hid hd1
  have HF1 := Lib.hid hf1
  clear hd1 hf1
  go_wp2_with fail
  go_loopw [3, 7] (fun v v7 wr => ∃ (k : Nat) (A : Option Addr) (c : Nat) (acc : List Tx) (s : St), k ≤ N ∧ v = .slice A acc.length c ∧ v7 = .int .i64 (k : Int) ∧ Hid (depS (N - k) acc s = R) ∧ Hid (acc.length = k) ∧ Hid (OwnH wr w.heap.size A c acc) ∧ Hid (∀ h ∈ acc, h.length = 32) ∧ Hid (Hdm wr g s) ∧ Hid (Fr (fun k => k = g) w wr)) (fun _ v _ => N - (intOf v).toNat)
  case atStart => exact ⟨0, none, 0, [], s1, Nat.zero_le _, rfl, rfl, HR, Lib.hid rfl, Lib.hid (OwnH.nil _ _), Lib.hid (fun h hh => by cases hh), HD1, HF1⟩
  case round =>
    obtain ⟨k, A, c, acc, s, hk, rfl, rfl, HE, HL, HO, H32, HD, HF⟩ := hrel
    rename World => wr
    by_cases hlt : k < N
    · have t1 : decide ((k : Int) < (N : Int)) = true := decide_eq_true (by omega)
      go_upto_region 5 with fail
      obtain ⟨p, hp⟩ : ∃ p, wr.heap.size = p := ⟨_, rfl⟩
      obtain ⟨w2, hw2⟩ : ∃ w2, wr.alloc (.cells (List.replicate 32 (Value.int .u8 0)).toArray 60) = w2 := ⟨_, rfl⟩
      change Code.wp _ _ _ _ (wr.alloc (.cells (List.replicate 32 (Value.int .u8 0)).toArray 60))
      rw [hw2, hp]
      have hr2 : Row w2 p 60 (List.replicate 32 (Value.int .u8 0)) := by rw [← hw2, ← hp]; exact Row.new _ _ _
      have hf2 : Fr (fun _ => False) wr w2 := by rw [← hw2]; exact (Fr.refl _ _).alloc _
      have hd2 := HD.out.fr hf2 (fun _ _ h => h)
      have hby := hBytes_any g s 32 w2.drew (hd2.fr (Fr.refl (fun _ => False) _).drew (fun _ _ h => h)) (by omega)
      have hbl := byt_len 32 s
      obtain ⟨x, hx⟩ : ∃ x, (byt 32 s).1 = x := ⟨_, rfl⟩
      obtain ⟨s2, hs2⟩ : ∃ s2, (byt 32 s).2 = s2 := ⟨_, rfl⟩
      have hEq : depS (N - k) acc s = depS (N - (k + 1)) (acc ++ [padH x]) ⟨s2.l, rf (!rises (acc ++ [padH x])) 3 s2.e⟩ := by
        rw [show N - k = (N - (k + 1)) + 1 by omega, depS, hx, hs2]
      rw [hx, hs2] at hby
      rw [hx] at hbl
      have hx32 : x.length ≤ 32 := by rcases hbl with h | h <;> simp [h]
      obtain ⟨z, hz⟩ : ∃ z, x.length = z := ⟨_, rfl⟩
      have HXL := Lib.hid hx32
      have HZ := Lib.hid hz
      rw [hz] at hby
      have HBY := Lib.hid hby
      have HEQ := Lib.hid hEq
      have HR2 := Lib.hid hr2
      have HF2 : Hid (Fr (fun k => k = g) w w2) := Lib.hid (HF.out.trans hf2 (fun _ _ h => h.elim))
      have HO2 := Lib.hid (HO.out.fr hf2)
      have HGP : Hid (g < p ∧ w.heap.size ≤ p) := Lib.hid (by have := HD.out.lt; have := HF.out.size; omega)
      have HPL : Hid (∀ k, (Value.slice A acc.length c).ownBlock = some k → k < p) := Lib.hid (fun k hk => by have := (HO.out.lt k hk).2; omega)
      clear hp hw2 hr2 hf2 hd2 hby hbl hx hs2 hEq hx32 hz
      refine wp_region_head 3 (fun _ => True) trivial (fun hH => ?_)
      refine tk 0 hH ?_
      refine tk 1 hH ?_
      refine rd1 2 (fun K hK => ?_)
      go_simp
      refine HBY.out.mono ?_
      rintro e w3 ⟨A3, c3, rfl, hrd3, hl3, hb3, hd3, hf3⟩
      refine hK.out _ _ trivial ?_
      refine hdone ?_
      have HRD3 := Lib.hid hrd3
      have HD3 := Lib.hid hd3
      have HF3 : Hid (Fr (fun k => k = g) w w3) := Lib.hid (HF2.out.drew.trans hf3 (fun _ _ h => h))
      have HR3 : Hid (Row w3 p 60 (List.replicate 32 (Value.int .u8 0))) := Lib.hid (HR2.out.fr ((Fr.refl _ _).drew.trans hf3 (fun _ _ h => h)) (fun h => by have h1 : p = g := h; have := HGP.out; omega))
      have HO3 : Hid (OwnH w3 w.heap.size A c acc) := Lib.hid (HO2.out.frS ((Fr.refl (fun k => k = g) _).drew.trans hf3 (fun _ _ h => h)) (fun k hk h => by have h1 : k = g := h; have := HGW.out; omega))
      clear hK K hrd3 hd3 hf3
      refine wpList_copy_row rfl (.tmp 9) (.tmp 11) 29 29 rfl 5 Try.underlying29 (by kernel_rfl) p 0 32 32 A3 z c3 rfl rfl 60 _ _ HR3.out HRD3.out (x.map bytec) (by rw [List.take_of_length_le (by rw [List.length_map]; exact HXL.out)]) z (by rw [List.length_map]; exact HZ.out.symm) (by rw [List.length_replicate]; have := HXL.out; have := HZ.out; omega) (hb_one x) ?_
      intro w4 hr4 hf4
      rw [pad_splice x HXL.out] at hr4
      have hl32 := padH_len HXL.out
      obtain ⟨y, hy⟩ : ∃ y, padH x = y := ⟨_, rfl⟩
      rw [hy] at hr4 hl32 HEQ
      obtain ⟨C, hC⟩ : ∃ C, (y.map bytec).toArray = C := ⟨_, rfl⟩
      have hb4 : w4.heap[p]? = some (.cells C 60 (0, 0)) := by rw [← hC]; exact hr4
      have hsz : C.size = 32 := by rw [← hC]; simp [hl32]
      have HB4 := Lib.hid hb4
      have HSZ := Lib.hid hsz
      have HC := Lib.hid hC
      have HL32 := Lib.hid hl32
      have HD4 := Lib.hid (HD3.out.fr hf4 (fun k hk h => by have h1 : k = p := h; have := HGP.out; omega))
      have HF4 : Hid (Fr (fun k => k = g) w w4) := Lib.hid (HF3.out.trans hf4 (fun k hk h => by have h1 : k = p := h; have := HGP.out; omega))
      have HO4 : Hid (OwnH w4 w.heap.size A c acc) := Lib.hid (hf4.own HO3.out (fun k hk h => by have h1 : k = p := h; have := HPL.out k hk; omega))
      clear hr4 hf4 hy hC hb4 hsz hl32
      obtain ⟨w5, hw5⟩ : ∃ w5, w4.alloc (.cells C 60) = w5 := ⟨_, rfl⟩
      have hr5 : Row w5 w4.heap.size 60 C.toList := by rw [← hw5]; exact heap_alloc_new _ _
      have hf5 : Fr (fun _ => False) w4 w5 := by rw [← hw5]; exact (Fr.refl _ _).alloc _
      have HCELL : Hid (∀ j u, C.toList[j]? = some u → w5.cell? ((⟨w4.heap.size, 0, none⟩ : Addr).add j) = some u) := Lib.hid (fun j u hu => by
        rw [show (⟨w4.heap.size, 0, none⟩ : Addr).add j = ⟨w4.heap.size, j, none⟩ from by unfold Addr.add; split <;> simp_all]
        exact hr5.cell hu)
      have HO5 : Hid (w5.ownsRow w.heap.size 60 32 (.slice A acc.length c) acc.length (acc.flatMap hls)) := Lib.hid (HO4.out.fr hf5)
      have HONE : Hid (∀ u ∈ C.toList, u.oneCell' = true) := Lib.hid (fun u hu => by rw [← HC.out] at hu; exact hb_one y u (by simpa using hu))
      have HCE : Hid (acc.flatMap hls ++ C.toList = acc.flatMap hls ++ hls y) := Lib.hid (by rw [← HC.out, hls_eq HL32.out])
      have HF5 : Hid (Fr (fun k => k = g) w w5) := Lib.hid (HF4.out.trans hf5 (fun _ _ h => h.elim))
      have HD5 := Lib.hid (HD4.out.fr hf5 (fun _ _ h => h))
      have HSL : Hid (C.toList.length = 1 * 32) := Lib.hid (by rw [Array.length_toList, HSZ.out])
      obtain ⟨N2, hN2⟩ : ∃ N2, N2 = acc.length + 1 := ⟨_, rfl⟩
      have HN2 := Lib.hid hN2
      clear hr5 hf5 hN2
      go_wp2_with (first | (refine wpList_load_blk hashT20 rfl (.tmp 4) rfl p rfl C _ HB4.out HSZ.out ?_) | (refine wpList_build1 rfl (.tmp 14) rfl C rfl HSZ.out ?_; rw [hw5]) | (at_builtin; refine wpList_appM hashTS _ rfl (.tmp 13) (.tmp 15) rfl w.heap.size _ acc.length _ rfl HO5.out ⟨w4.heap.size, 0, none⟩ 1 1 C.toList rfl HSL.out HCELL.out HONE.out N2 HN2.out (by unfold maxLen; have := HL.out; have := HN2.out; omega) (by have := HL.out; have := HN2.out; omega) (by have := HF5.out.size; omega) ?_))
      intro A6 c6 w6 hown6 hc6 hf6 hb6
      have ho6 : OwnH w6 w.heap.size A6 c6 (acc ++ [y]) := by
        rw [HCE.out] at hown6
        have h := OwnH.snoc HN2.out hown6
        exact h
      have hl6 : (acc ++ [y]).length = N2 := by rw [HN2.out, List.length_append]; rfl
      have h32 : ∀ h ∈ acc ++ [y], h.length = 32 := fun h hh => by
        rcases List.mem_append.1 hh with g1 | g1
        · exact H32.out h g1
        · rw [List.mem_singleton.1 g1]; exact HL32.out
      have hhs := ho6.hsh h32
      rw [hl6] at hhs
      have HRI := Lib.hid (rising_any A6 N2 c6 (acc ++ [y]) w6 hhs (by have := HL.out; have := HN2.out; omega))
      have HO6 := Lib.hid ho6
      have HL6 := Lib.hid hl6
      have H326 := Lib.hid h32
      have hown7 : ∀ k, (Value.slice A acc.length c).ownBlock = some k → w.heap.size ≤ k := fun k hk => (HO5.out.lt k hk).1
      have HD6 := Lib.hid (HD5.out.fr hf6 (fun k hk h => by have := hown7 k h; have := HGW.out; omega))
      have HF6 : Hid (Fr (fun k => k = g) w w6) := Lib.hid (HF5.out.trans hf6 (fun k hk h => by have := hown7 k h; omega))
      clear hown6 hf6 hb6 ho6 hl6 h32 hhs hown7
      go_wp2_with fail
      refine HRI.out.mono ?_
      rintro e w7 ⟨rfl, hf7⟩
      have HRF := Lib.hid (refuseM_any g 3 s2 (!rises (acc ++ [y])) 3 w7 (HD6.out.fr hf7 (fun _ _ h => h)) rfl)
      have HO7 := Lib.hid (HO6.out.fr hf7)
      have HF7 : Hid (Fr (fun k => k = g) w w7) := Lib.hid (HF6.out.trans hf7 (fun _ _ h => h.elim))
      obtain ⟨rb, hrb⟩ : ∃ rb, rises (acc ++ [y]) = rb := ⟨_, rfl⟩
      rw [hrb] at HRF HEQ ⊢
      clear hf7 hrb
      go_wp2_with fail
      refine HRF.out.mono ?_
      rintro e w8 ⟨rfl, hd8, hf8⟩
      have HD8 := Lib.hid hd8
      have HO8 := Lib.hid (HO7.out.frS hf8 (fun k hk h => by have h1 : k = g := h; have := HGW.out; omega))
      have HF8 : Hid (Fr (fun k => k = g) w w8) := Lib.hid (HF7.out.trans hf8 (fun _ _ h => h))
      clear hd8 hf8
      go_wp2_with fail
      exact ⟨⟨k + 1, A6, c6, acc ++ [y], ⟨s2.l, rf (!rb) 3 s2.e⟩, by omega, by rw [HL6.out], rfl, Lib.hid (by rw [← HEQ.out]; exact HE.out), Lib.hid (by rw [HL6.out, HN2.out, HL.out]), HO8, H326, HD8, HF8⟩, by show N - ((k : Int) + 1).toNat < N - (k : Int).toNat; omega⟩
    · have t1 : decide ((k : Int) < (N : Int)) = false := decide_eq_false (by omega)
      have hkN : k = N := by omega
      subst hkN
      have hRR : R = (acc, s) := by rw [← HE.out, Nat.sub_self]; rfl
      obtain ⟨z, hz⟩ : ∃ z, acc.length = z := ⟨_, rfl⟩
      have HZ := Lib.hid hz
      have HRR := Lib.hid hRR
      rw [hz]
      clear hRR hz
      go_wp2_with fail
      go_ret
      rw [HRR.out, HZ.out]
      exact ⟨A, c, rfl, HO.out, H32.out, HD.out, HF.out⟩
end Go.Proofs.Ytbnkahjmeobblaa
namespace Go.Proofs.Ytbnkahjmeobblaa
open Go.RowKit Mem Go.Lib LebM UtfM AcM HeM
attribute [local go_sem ↓] Go.wp_at_zero Go.wp_at_succ
set_option linter.unusedVariables false

/-- a change's cells -/
def chls (c : Ch) (A : Option Addr) (k : Nat) (A' : Option Addr) (n' k' : Nat) : List Value := [.string (txt c.a), .int .i64 c.q, .int .i64 c.s, .int .i64 c.t, .string (txt c.m), .slice A c.d.length k, .slice A' n' k']
def chc (c : Ch) (A : Option Addr) (k : Nat) (A' : Option Addr) (n' k' : Nat) : Value := .agg #[.string (txt c.a), .int .i64 c.q, .int .i64 c.s, .int .i64 c.t, .string (txt c.m), .slice A c.d.length k, .slice A' n' k']
theorem ch_one (c : Ch) (A : Option Addr) (k : Nat) (A' : Option Addr) (n' k' : Nat) : ∀ v ∈ chls c A k A' n' k', v.oneCell' = true := by
  intro v hv
  unfold chls at hv
  simp only [List.mem_cons, List.not_mem_nil, or_false] at hv
  rcases hv with rfl | rfl | rfl | rfl | rfl | rfl | rfl <;> rfl
theorem chSz : (Try.prog.info? 25).map (·.size) = some 7 := by kernel_rfl
theorem bnd_eq {α β : Type} {f : St → α × St} {g : α → St → β × St} {s s' : St} {x : α} (h : f s = (x, s')) : bnd f g s = g x s' := by unfold bnd; rw [h]
theorem num_le (m : Nat) (s : St) : (num m s).1 ≤ m := by
  unfold num
  split
  · exact Nat.zero_le _
  · exact (DirM.numD_lt m s.l).1
theorem pos_le (m : Nat) (s : St) : (pos m s).1 ≤ m := num_le m s
theorem valid_one (B : List UInt8) (w : World) {k : Nat} (hk : k = w.heap.size) (hl : B.length ≤ 1000000) : Calls Try.prog 23 #[.slice (some ⟨k, 0, none⟩) 1 1] (w.alloc (.cells #[.string (txt B)] 9)) fun e w' => e = .returned (.bool (decide (wh B = B.length))) ∧ Fr (fun _ => False) w w' :=
  valid1 utfP B w hk hl (decide (wh B = B.length)) (by by_cases h : wh B = B.length <;> simp [h])
/-- a whole change is loaded -/
theorem run_ch {w : World} {g : Nat} {t : TypeId} {L : List Value} (hb : Row w g t L) (hn : L.length = 7) : (loadVar 25 ⟨g, 0, none⟩).run Try.prog w = .ok (.agg L.toArray) w :=
  run_loadVar_row (P := Try.prog) w g t 25 L.toArray (0, 0) _ hb Try.underlying25 rfl (by rw [chSz]; simp [hn])
theorem results_ch {fn : Func} {s : Tmp} {tmps : Array Value} {w : World} (hr : fn.results = #[.cell s 25]) (g : Nat) (hs : tmps.getD s undef = .pointer (some ⟨g, 0, none⟩)) {t : TypeId} {L : List Value} (hb : Row w g t L) (hn : L.length = 7) :
    (results fn tmps).run Try.prog w = .ok (.agg L.toArray) w := by
  have hl := run_ch hb hn
  have hs' : tmps[s]?.getD undef = .pointer (some ⟨g, 0, none⟩) := by rw [← hs]; simp
  unfold results
  rw [hr]
  simp [hs', asAddr, hl]
set_option maxRecDepth 100000 in
set_option maxHeartbeats 12800000 in
theorem hChange_any (g : Nat) (s : St) (w : World) (h : Hdm w g s) :
    Calls Try.prog 39 #[.pointer (some ⟨g, 0, none⟩)] w fun e w' => ∃ A' c', e = .returned (chc (chg s).1 A' c' none 0 0) ∧ OwnH w' w.heap.size A' c' (chg s).1.d ∧ (∀ h ∈ (chg s).1.d, h.length = 32) ∧ (chg s).1.a.length ≤ 16 ∧ (chg s).1.d.length ≤ 16 ∧ Hdm w' g (chg s).2 ∧ Fr (fun k => k = g) w w' := by
  obtain ⟨⟨D, s1⟩, e0⟩ : ∃ p, deps s = p := ⟨_, rfl⟩
  obtain ⟨⟨n1, s2⟩, e1⟩ : ∃ p, pos 16 s1 = p := ⟨_, rfl⟩
  obtain ⟨⟨a, s3⟩, e2⟩ : ∃ p, byt n1 s2 = p := ⟨_, rfl⟩
  obtain ⟨⟨q, s4⟩, e3⟩ : ∃ p, pos 9007199254740991 s3 = p := ⟨_, rfl⟩
  obtain ⟨⟨st, s5⟩, e4⟩ : ∃ p, pos 9007199254740991 s4 = p := ⟨_, rfl⟩
  obtain ⟨⟨t, s6⟩, e5⟩ : ∃ p, sig s5 = p := ⟨_, rfl⟩
  obtain ⟨⟨n2, s7⟩, e6⟩ : ∃ p, num 1000 s6 = p := ⟨_, rfl⟩
  obtain ⟨⟨m, s8⟩, e7⟩ : ∃ p, byt n2 s7 = p := ⟨_, rfl⟩
  have ec : chg s = (⟨a, (q : Int), (st : Int), t, m, D⟩, ⟨s8.l, rf (!decide (wh m = m.length)) 3 s8.e⟩) := by
    unfold chg
    rw [bnd_eq e0, bnd_eq e1, bnd_eq e2, bnd_eq e3, bnd_eq e4, bnd_eq e5, bnd_eq e6, bnd_eq e7]
    rfl
  have hb1 : n1 ≤ 16 := by have := pos_le 16 s1; rw [e1] at this; exact this
  have hb2 : n2 ≤ 1000 := by have := num_le 1000 s6; rw [e6] at this; exact this
  have ha16 : a.length ≤ 16 := by
    have := byt_len n1 s2
    rw [e2] at this
    rcases this with h | h
    · have h : a.length = n1 := h; omega
    · have h : a = [] := h; rw [h]; exact Nat.zero_le _
  have hm1000 : m.length ≤ 1000 := by
    have := byt_len n2 s7
    rw [e7] at this
    rcases this with h | h
    · have h : m.length = n2 := h; omega
    · have h : m = [] := h; rw [h]; exact Nat.zero_le _
  have hd16 : D.length ≤ 16 := by
    have h1 := num_le 16 s
    have h2 : deps s = depS (num 16 s).1 [] (num 16 s).2 := rfl
    have h3 := depS_len (num 16 s).1 [] (num 16 s).2
    rw [← h2, e0] at h3
    have h3 : D.length = 0 + (num 16 s).1 := h3
    omega
  rw [ec]
  obtain ⟨vd, hvd⟩ : ∃ vd, decide (wh m = m.length) = vd := ⟨_, rfl⟩
  have hval := fun (w : World) (k : Nat) (hk : k = w.heap.size) => valid_one m w hk (by omega)
  rw [hvd] at hval ⊢
  obtain ⟨nd, hnd⟩ : ∃ nd, D.length = nd := ⟨_, rfl⟩
  have HND := Lib.hid hnd
  have HD16 := Lib.hid hd16
  have HA16 := Lib.hid ha16
  have HVAL := Lib.hid hval
  have HB1 := Lib.hid hb1
  have HB2 := Lib.hid hb2
  have HE0 := Lib.hid e0
  have HE1 := Lib.hid e1
  have HE2 := Lib.hid e2
  have HE3 := Lib.hid e3
  have HE4 := Lib.hid e4
  have HE5 := Lib.hid e5
  have HE6 := Lib.hid e6
  have HE7 := Lib.hid e7
  have HGW := Lib.hid h.lt
  obtain ⟨r, hr⟩ : ∃ r, w.heap.size = r := ⟨_, rfl⟩
  obtain ⟨p, hp⟩ : ∃ p, w.heap.size + 1 = p := ⟨_, rfl⟩
  obtain ⟨wa, hwa⟩ : ∃ wa, w.alloc (.cells [.string ⟨#[]⟩, .int .i64 0, .int .i64 0, .int .i64 0, .string ⟨#[]⟩, .slice none 0 0, .slice none 0 0].toArray 25) = wa := ⟨_, rfl⟩
  obtain ⟨w0, hw0⟩ : ∃ w0, wa.alloc (.cells [.string ⟨#[]⟩, .int .i64 0, .int .i64 0, .int .i64 0, .string ⟨#[]⟩, .slice none 0 0, .slice none 0 0].toArray 25) = w0 := ⟨_, rfl⟩
  have has : wa.heap.size = p := by rw [← hwa, ← hp]; simp
  have HP0 : Hid (Row w0 p 25 [.string ⟨#[]⟩, .int .i64 0, .int .i64 0, .int .i64 0, .string ⟨#[]⟩, .slice none 0 0, .slice none 0 0]) := Lib.hid (by rw [← hw0, ← has]; exact Row.new _ _ _)
  have HR0 : Hid (Row w0 r 25 [.string ⟨#[]⟩, .int .i64 0, .int .i64 0, .int .i64 0, .string ⟨#[]⟩, .slice none 0 0, .slice none 0 0]) := Lib.hid (by rw [← hw0]; refine Row.alloc ?_ _; rw [← hwa, ← hr]; exact Row.new _ _ _)
  have hf0 : Fr (fun _ => False) w w0 := by rw [← hw0, ← hwa]; exact ((Fr.refl _ _).alloc _).alloc _
  have HGP : Hid (g < r ∧ r < p ∧ g < p ∧ w0.heap.size = p + 1 ∧ w.heap.size = r) := Lib.hid (by have := h.lt; have h5 : w0.heap.size = wa.heap.size + 1 := by rw [← hw0]; simp
                                                                                                 refine ⟨by omega, by omega, by omega, by omega, hr⟩)
  have HF0 : Hid (Fr (fun k => k = g) w w0) := Lib.hid (hf0.mono (fun _ _ h => h.elim))
  have HD0 := Lib.hid (h.fr hf0 (fun _ _ h => h))
  clear h hvd hval hnd e0 e1 e2 e3 e4 e5 e6 e7 ec hb1 hb2 ha16 hm1000 hd16 hf0
  go_enter Try.func39, Try.ntmps39
  go_wp2_with fail
  clear hwa hw0 hp hr has
  refine (hDeps_any g s w0 HD0.out).mono ?_
  rintro e w1 ⟨A1, c1, rfl, ho1, h32, hd1, hf1⟩
  rw [HE0.out] at ho1 h32 hd1 ⊢
  have H32 := Lib.hid h32
  have HO1 := Lib.hid ho1
  have HD1 := Lib.hid hd1
  have HF1 : Hid (Fr (fun k => k = g) w w1) := Lib.hid (HF0.out.trans hf1 (fun _ _ h => h))
  have HP1 := Lib.hid (HP0.out.fr hf1 (fun h => by have h1 : p = g := h; have := HGP.out; omega))
  have HR1 := Lib.hid (HR0.out.fr hf1 (fun h => by have h1 : r = g := h; have := HGP.out; omega))
  have HLD : Hid (D.length = nd) := Lib.hid HND.out
  simp only at ho1 hd1 ⊢
  rw [HND.out]
  clear h32 ho1 hd1 hf1
  have f5 : w1.frozen? ⟨p, 5, none⟩ = false := Row.free HP1.out 5
  have d5 : w1.cell? ⟨p, 5, none⟩ = some (.slice none 0 0) := Row.cell HP1.out rfl
  have HPs1 : Hid (Row (w1.setCell ⟨p, 5, none⟩ (.slice A1 nd c1)) p 25 [.string ⟨#[]⟩, .int .i64 0, .int .i64 0, .int .i64 0, .string ⟨#[]⟩, .slice A1 nd c1, .slice none 0 0]) := Lib.hid (HP1.out.set 5 (.slice A1 nd c1))
  have HRs1 : Hid (Row (w1.setCell ⟨p, 5, none⟩ (.slice A1 nd c1)) r 25 [.string ⟨#[]⟩, .int .i64 0, .int .i64 0, .int .i64 0, .string ⟨#[]⟩, .slice none 0 0, .slice none 0 0]) := Lib.hid (HR1.out.fr (Fr.set1 _ p 5 _) (fun h => by have h1 : r = p := h; have := HGP.out; omega))
  have HDs1 : Hid (Hdm (w1.setCell ⟨p, 5, none⟩ (.slice A1 nd c1)) g s1) := Lib.hid (HD1.out.fr (Fr.set1 _ p 5 _) (fun k hk h => by have h1 : k = p := h; have := HGP.out; omega))
  have HOs1 : Hid (OwnH (w1.setCell ⟨p, 5, none⟩ (.slice A1 nd c1)) w0.heap.size A1 c1 D) := Lib.hid (HO1.out.frS (Fr.set1 _ p 5 _) (fun k hk h => by have h1 : k = p := h; have := HGP.out; omega))
  have HFs1 : Hid (Fr (fun k => k = g) w (w1.setCell ⟨p, 5, none⟩ (.slice A1 nd c1))) := Lib.hid (HF1.out.trans (Fr.set1 _ p 5 _) (fun k hk h => by have h1 : k = p := h; have := HGP.out; omega))
  go_wp2_with fail
  clear f5 d5
  refine (hPositive_any g s1 16 _ HDs1.out (by omega)).mono ?_
  rintro e w2 ⟨rfl, hd2, hf2⟩
  rw [HE1.out] at hd2
  have HD2 := Lib.hid hd2
  have HF2 : Hid (Fr (fun k => k = g) w w2) := Lib.hid (HFs1.out.trans hf2 (fun _ _ h => h))
  have HP2 := Lib.hid (HPs1.out.fr hf2 (fun h => by have h1 : p = g := h; have := HGP.out; omega))
  have HR2 := Lib.hid (HRs1.out.fr hf2 (fun h => by have h1 : r = g := h; have := HGP.out; omega))
  have HO2 := Lib.hid (HOs1.out.frS hf2 (fun k hk h => by have h1 : k = g := h; have := HGP.out; omega))
  simp only [HE1.out]
  clear hd2 hf2
  go_wp2_with fail
  refine (hText_any g s2 n1 _ HD2.out (by have := HB1.out; omega)).mono ?_
  rintro e w3 ⟨rfl, hd3, hf3⟩
  rw [HE2.out] at hd3
  have HD3 := Lib.hid hd3
  have HF3 : Hid (Fr (fun k => k = g) w w3) := Lib.hid (HF2.out.trans hf3 (fun _ _ h => h))
  have HP3 := Lib.hid (HP2.out.fr hf3 (fun h => by have h1 : p = g := h; have := HGP.out; omega))
  have HR3 := Lib.hid (HR2.out.fr hf3 (fun h => by have h1 : r = g := h; have := HGP.out; omega))
  have HO3 := Lib.hid (HO2.out.frS hf3 (fun k hk h => by have h1 : k = g := h; have := HGP.out; omega))
  simp only [HE2.out]
  clear hd3 hf3
  have f0 : w3.frozen? ⟨p, 0, none⟩ = false := Row.free HP3.out 0
  have d0 : w3.cell? ⟨p, 0, none⟩ = some (.string ⟨#[]⟩) := Row.cell HP3.out rfl
  have HPs3 : Hid (Row (w3.setCell ⟨p, 0, none⟩ (.string (txt a))) p 25 [.string (txt a), .int .i64 0, .int .i64 0, .int .i64 0, .string ⟨#[]⟩, .slice A1 nd c1, .slice none 0 0]) := Lib.hid (HP3.out.set 0 (.string (txt a)))
  have HRs3 : Hid (Row (w3.setCell ⟨p, 0, none⟩ (.string (txt a))) r 25 [.string ⟨#[]⟩, .int .i64 0, .int .i64 0, .int .i64 0, .string ⟨#[]⟩, .slice none 0 0, .slice none 0 0]) := Lib.hid (HR3.out.fr (Fr.set1 _ p 0 _) (fun h => by have h1 : r = p := h; have := HGP.out; omega))
  have HDs3 : Hid (Hdm (w3.setCell ⟨p, 0, none⟩ (.string (txt a))) g s3) := Lib.hid (HD3.out.fr (Fr.set1 _ p 0 _) (fun k hk h => by have h1 : k = p := h; have := HGP.out; omega))
  have HOs3 : Hid (OwnH (w3.setCell ⟨p, 0, none⟩ (.string (txt a))) w0.heap.size A1 c1 D) := Lib.hid (HO3.out.frS (Fr.set1 _ p 0 _) (fun k hk h => by have h1 : k = p := h; have := HGP.out; omega))
  have HFs3 : Hid (Fr (fun k => k = g) w (w3.setCell ⟨p, 0, none⟩ (.string (txt a)))) := Lib.hid (HF3.out.trans (Fr.set1 _ p 0 _) (fun k hk h => by have h1 : k = p := h; have := HGP.out; omega))
  go_wp2_with fail
  clear f0 d0
  refine (hPositive_any g s3 9007199254740991 _ HDs3.out (by omega)).mono ?_
  rintro e w4 ⟨rfl, hd4, hf4⟩
  rw [HE3.out] at hd4
  have HD4 := Lib.hid hd4
  have HF4 : Hid (Fr (fun k => k = g) w w4) := Lib.hid (HFs3.out.trans hf4 (fun _ _ h => h))
  have HP4 := Lib.hid (HPs3.out.fr hf4 (fun h => by have h1 : p = g := h; have := HGP.out; omega))
  have HR4 := Lib.hid (HRs3.out.fr hf4 (fun h => by have h1 : r = g := h; have := HGP.out; omega))
  have HO4 := Lib.hid (HOs3.out.frS hf4 (fun k hk h => by have h1 : k = g := h; have := HGP.out; omega))
  simp only [HE3.out]
  clear hd4 hf4
  have f1 : w4.frozen? ⟨p, 1, none⟩ = false := Row.free HP4.out 1
  have d1 : w4.cell? ⟨p, 1, none⟩ = some (.int .i64 0) := Row.cell HP4.out rfl
  have HPs4 : Hid (Row (w4.setCell ⟨p, 1, none⟩ (.int .i64 (q : Int))) p 25 [.string (txt a), .int .i64 (q : Int), .int .i64 0, .int .i64 0, .string ⟨#[]⟩, .slice A1 nd c1, .slice none 0 0]) := Lib.hid (HP4.out.set 1 (.int .i64 (q : Int)))
  have HRs4 : Hid (Row (w4.setCell ⟨p, 1, none⟩ (.int .i64 (q : Int))) r 25 [.string ⟨#[]⟩, .int .i64 0, .int .i64 0, .int .i64 0, .string ⟨#[]⟩, .slice none 0 0, .slice none 0 0]) := Lib.hid (HR4.out.fr (Fr.set1 _ p 1 _) (fun h => by have h1 : r = p := h; have := HGP.out; omega))
  have HDs4 : Hid (Hdm (w4.setCell ⟨p, 1, none⟩ (.int .i64 (q : Int))) g s4) := Lib.hid (HD4.out.fr (Fr.set1 _ p 1 _) (fun k hk h => by have h1 : k = p := h; have := HGP.out; omega))
  have HOs4 : Hid (OwnH (w4.setCell ⟨p, 1, none⟩ (.int .i64 (q : Int))) w0.heap.size A1 c1 D) := Lib.hid (HO4.out.frS (Fr.set1 _ p 1 _) (fun k hk h => by have h1 : k = p := h; have := HGP.out; omega))
  have HFs4 : Hid (Fr (fun k => k = g) w (w4.setCell ⟨p, 1, none⟩ (.int .i64 (q : Int)))) := Lib.hid (HF4.out.trans (Fr.set1 _ p 1 _) (fun k hk h => by have h1 : k = p := h; have := HGP.out; omega))
  go_wp2_with fail
  clear f1 d1
  refine (hPositive_any g s4 9007199254740991 _ HDs4.out (by omega)).mono ?_
  rintro e w5 ⟨rfl, hd5, hf5⟩
  rw [HE4.out] at hd5
  have HD5 := Lib.hid hd5
  have HF5 : Hid (Fr (fun k => k = g) w w5) := Lib.hid (HFs4.out.trans hf5 (fun _ _ h => h))
  have HP5 := Lib.hid (HPs4.out.fr hf5 (fun h => by have h1 : p = g := h; have := HGP.out; omega))
  have HR5 := Lib.hid (HRs4.out.fr hf5 (fun h => by have h1 : r = g := h; have := HGP.out; omega))
  have HO5 := Lib.hid (HOs4.out.frS hf5 (fun k hk h => by have h1 : k = g := h; have := HGP.out; omega))
  simp only [HE4.out]
  clear hd5 hf5
  have f2 : w5.frozen? ⟨p, 2, none⟩ = false := Row.free HP5.out 2
  have d2 : w5.cell? ⟨p, 2, none⟩ = some (.int .i64 0) := Row.cell HP5.out rfl
  have HPs5 : Hid (Row (w5.setCell ⟨p, 2, none⟩ (.int .i64 (st : Int))) p 25 [.string (txt a), .int .i64 (q : Int), .int .i64 (st : Int), .int .i64 0, .string ⟨#[]⟩, .slice A1 nd c1, .slice none 0 0]) := Lib.hid (HP5.out.set 2 (.int .i64 (st : Int)))
  have HRs5 : Hid (Row (w5.setCell ⟨p, 2, none⟩ (.int .i64 (st : Int))) r 25 [.string ⟨#[]⟩, .int .i64 0, .int .i64 0, .int .i64 0, .string ⟨#[]⟩, .slice none 0 0, .slice none 0 0]) := Lib.hid (HR5.out.fr (Fr.set1 _ p 2 _) (fun h => by have h1 : r = p := h; have := HGP.out; omega))
  have HDs5 : Hid (Hdm (w5.setCell ⟨p, 2, none⟩ (.int .i64 (st : Int))) g s5) := Lib.hid (HD5.out.fr (Fr.set1 _ p 2 _) (fun k hk h => by have h1 : k = p := h; have := HGP.out; omega))
  have HOs5 : Hid (OwnH (w5.setCell ⟨p, 2, none⟩ (.int .i64 (st : Int))) w0.heap.size A1 c1 D) := Lib.hid (HO5.out.frS (Fr.set1 _ p 2 _) (fun k hk h => by have h1 : k = p := h; have := HGP.out; omega))
  have HFs5 : Hid (Fr (fun k => k = g) w (w5.setCell ⟨p, 2, none⟩ (.int .i64 (st : Int)))) := Lib.hid (HF5.out.trans (Fr.set1 _ p 2 _) (fun k hk h => by have h1 : k = p := h; have := HGP.out; omega))
  go_wp2_with fail
  clear f2 d2
  refine (hSigned_any g s5 _ HDs5.out).mono ?_
  rintro e w6 ⟨rfl, hd6, hf6⟩
  rw [HE5.out] at hd6
  have HD6 := Lib.hid hd6
  have HF6 : Hid (Fr (fun k => k = g) w w6) := Lib.hid (HFs5.out.trans hf6 (fun _ _ h => h))
  have HP6 := Lib.hid (HPs5.out.fr hf6 (fun h => by have h1 : p = g := h; have := HGP.out; omega))
  have HR6 := Lib.hid (HRs5.out.fr hf6 (fun h => by have h1 : r = g := h; have := HGP.out; omega))
  have HO6 := Lib.hid (HOs5.out.frS hf6 (fun k hk h => by have h1 : k = g := h; have := HGP.out; omega))
  simp only [HE5.out]
  clear hd6 hf6
  have f3 : w6.frozen? ⟨p, 3, none⟩ = false := Row.free HP6.out 3
  have d3 : w6.cell? ⟨p, 3, none⟩ = some (.int .i64 0) := Row.cell HP6.out rfl
  have HPs6 : Hid (Row (w6.setCell ⟨p, 3, none⟩ (.int .i64 t)) p 25 [.string (txt a), .int .i64 (q : Int), .int .i64 (st : Int), .int .i64 t, .string ⟨#[]⟩, .slice A1 nd c1, .slice none 0 0]) := Lib.hid (HP6.out.set 3 (.int .i64 t))
  have HRs6 : Hid (Row (w6.setCell ⟨p, 3, none⟩ (.int .i64 t)) r 25 [.string ⟨#[]⟩, .int .i64 0, .int .i64 0, .int .i64 0, .string ⟨#[]⟩, .slice none 0 0, .slice none 0 0]) := Lib.hid (HR6.out.fr (Fr.set1 _ p 3 _) (fun h => by have h1 : r = p := h; have := HGP.out; omega))
  have HDs6 : Hid (Hdm (w6.setCell ⟨p, 3, none⟩ (.int .i64 t)) g s6) := Lib.hid (HD6.out.fr (Fr.set1 _ p 3 _) (fun k hk h => by have h1 : k = p := h; have := HGP.out; omega))
  have HOs6 : Hid (OwnH (w6.setCell ⟨p, 3, none⟩ (.int .i64 t)) w0.heap.size A1 c1 D) := Lib.hid (HO6.out.frS (Fr.set1 _ p 3 _) (fun k hk h => by have h1 : k = p := h; have := HGP.out; omega))
  have HFs6 : Hid (Fr (fun k => k = g) w (w6.setCell ⟨p, 3, none⟩ (.int .i64 t))) := Lib.hid (HF6.out.trans (Fr.set1 _ p 3 _) (fun k hk h => by have h1 : k = p := h; have := HGP.out; omega))
  go_wp2_with fail
  clear f3 d3
  refine (hNumber_any g s6 1000 _ HDs6.out (by omega)).mono ?_
  rintro e w7 ⟨rfl, hd7, hf7⟩
  rw [HE6.out] at hd7
  have HD7 := Lib.hid hd7
  have HF7 : Hid (Fr (fun k => k = g) w w7) := Lib.hid (HFs6.out.trans hf7 (fun _ _ h => h))
  have HP7 := Lib.hid (HPs6.out.fr hf7 (fun h => by have h1 : p = g := h; have := HGP.out; omega))
  have HR7 := Lib.hid (HRs6.out.fr hf7 (fun h => by have h1 : r = g := h; have := HGP.out; omega))
  have HO7 := Lib.hid (HOs6.out.frS hf7 (fun k hk h => by have h1 : k = g := h; have := HGP.out; omega))
  simp only [HE6.out]
  clear hd7 hf7
  go_wp2_with fail
  refine (hText_any g s7 n2 _ HD7.out (by have := HB2.out; omega)).mono ?_
  rintro e w8 ⟨rfl, hd8, hf8⟩
  rw [HE7.out] at hd8
  have HD8 := Lib.hid hd8
  have HF8 : Hid (Fr (fun k => k = g) w w8) := Lib.hid (HF7.out.trans hf8 (fun _ _ h => h))
  have HP8 := Lib.hid (HP7.out.fr hf8 (fun h => by have h1 : p = g := h; have := HGP.out; omega))
  have HR8 := Lib.hid (HR7.out.fr hf8 (fun h => by have h1 : r = g := h; have := HGP.out; omega))
  have HO8 := Lib.hid (HO7.out.frS hf8 (fun k hk h => by have h1 : k = g := h; have := HGP.out; omega))
  simp only [HE7.out]
  clear hd8 hf8
  have f4 : w8.frozen? ⟨p, 4, none⟩ = false := Row.free HP8.out 4
  have d4 : w8.cell? ⟨p, 4, none⟩ = some (.string ⟨#[]⟩) := Row.cell HP8.out rfl
  have HPs8 : Hid (Row (w8.setCell ⟨p, 4, none⟩ (.string (txt m))) p 25 [.string (txt a), .int .i64 (q : Int), .int .i64 (st : Int), .int .i64 t, .string (txt m), .slice A1 nd c1, .slice none 0 0]) := Lib.hid (HP8.out.set 4 (.string (txt m)))
  have HRs8 : Hid (Row (w8.setCell ⟨p, 4, none⟩ (.string (txt m))) r 25 [.string ⟨#[]⟩, .int .i64 0, .int .i64 0, .int .i64 0, .string ⟨#[]⟩, .slice none 0 0, .slice none 0 0]) := Lib.hid (HR8.out.fr (Fr.set1 _ p 4 _) (fun h => by have h1 : r = p := h; have := HGP.out; omega))
  have HDs8 : Hid (Hdm (w8.setCell ⟨p, 4, none⟩ (.string (txt m))) g s8) := Lib.hid (HD8.out.fr (Fr.set1 _ p 4 _) (fun k hk h => by have h1 : k = p := h; have := HGP.out; omega))
  have HOs8 : Hid (OwnH (w8.setCell ⟨p, 4, none⟩ (.string (txt m))) w0.heap.size A1 c1 D) := Lib.hid (HO8.out.frS (Fr.set1 _ p 4 _) (fun k hk h => by have h1 : k = p := h; have := HGP.out; omega))
  have HFs8 : Hid (Fr (fun k => k = g) w (w8.setCell ⟨p, 4, none⟩ (.string (txt m)))) := Lib.hid (HF8.out.trans (Fr.set1 _ p 4 _) (fun k hk h => by have h1 : k = p := h; have := HGP.out; omega))
  go_wp2_with fail
  clear f4 d4
  refine (HVAL.out _ w8.heap.size (by simp)).mono ?_
  rintro e wv ⟨rfl, hfv⟩
  have hal : Fr (fun _ => False) (w8.setCell ⟨p, 4, none⟩ (.string (txt m))) wv := hfv
  have HPv := Lib.hid (HPs8.out.fr hal (fun h => h))
  have HRv := Lib.hid (HRs8.out.fr hal (fun h => h))
  have HDv := Lib.hid (HDs8.out.fr hal (fun _ _ h => h))
  have HOv := Lib.hid (HOs8.out.fr hal)
  have HFv : Hid (Fr (fun k => k = g) w wv) := Lib.hid (HFs8.out.trans hal (fun _ _ h => h.elim))
  clear hfv hal
  go_wp2_with fail
  refine (refuseM_any g 3 s8 (!vd) 3 wv HDv.out rfl).mono ?_
  rintro e wz ⟨rfl, hdz, hfz⟩
  have HPz := Lib.hid (HPv.out.fr hfz (fun h => by have h1 : p = g := h; have := HGP.out; omega))
  have HRz := Lib.hid (HRv.out.fr hfz (fun h => by have h1 : r = g := h; have := HGP.out; omega))
  have HDz := Lib.hid hdz
  have HOz := Lib.hid (HOv.out.frS hfz (fun k hk h => by have h1 : k = g := h; have := HGP.out; omega))
  have HFz : Hid (Fr (fun k => k = g) w wz) := Lib.hid (HFv.out.trans hfz (fun _ _ h => h))
  have b0 : wz.cell? ⟨p, 0, none⟩ = some (.string (txt a)) := Row.cell HPz.out rfl
  have b1 : wz.cell? ⟨p, 1, none⟩ = some (.int .i64 (q : Int)) := Row.cell HPz.out rfl
  have b2 : wz.cell? ⟨p, 2, none⟩ = some (.int .i64 (st : Int)) := Row.cell HPz.out rfl
  have b3 : wz.cell? ⟨p, 3, none⟩ = some (.int .i64 t) := Row.cell HPz.out rfl
  have b4 : wz.cell? ⟨p, 4, none⟩ = some (.string (txt m)) := Row.cell HPz.out rfl
  have b5 : wz.cell? ⟨p, 5, none⟩ = some (.slice A1 nd c1) := Row.cell HPz.out rfl
  have b6 : wz.cell? ⟨p, 6, none⟩ = some (.slice none 0 0) := Row.cell HPz.out rfl
  clear hfz hdz
  go_wp2_with (refine store_st chSz rfl (.tmp 2) (.tmp 33) rfl r (by rfl) [.string (txt a), .int .i64 (q : Int), .int .i64 (st : Int), .int .i64 t, .string (txt m), .slice A1 nd c1, .slice none 0 0] (by rfl) _ _ HRz.out rfl rfl (by simp [Value.oneCell']) ?_)
  intro wy hry hfy
  have HDy := Lib.hid (HDz.out.fr hfy (fun k hk h => by have h1 : k = r := h; have := HGP.out; omega))
  have HOy := Lib.hid (HOz.out.frS hfy (fun k hk h => by have h1 : k = r := h; have := HGP.out; omega))
  have HFy : Hid (Fr (fun k => k = g) w wy) := Lib.hid (HFz.out.trans hfy (fun k hk h => by have h1 : k = r := h; have := HGP.out; omega))
  have HRy := Lib.hid hry
  clear b0 b1 b2 b3 b4 b5 b6 hry hfy
  go_wp2_with fail
  exact bodyPost_ret (v := chc ⟨a, (q : Int), (st : Int), t, m, D⟩ A1 c1 none 0 0) (by unfold chc; rw [HLD.out]; exact results_ch rfl r rfl HRy.out rfl) rfl ⟨A1, c1, rfl, HOy.out.base (by have := HGP.out; omega), H32.out, HA16.out, HD16.out, HDy.out, HFy.out⟩
end Go.Proofs.Ytbnkahjmeobblaa
