/-
  Layer 20, the program: Get.
  Layer 20: awake; the law HeadTimes.
-/
import Derived.Test.YtbnkahjmeobblaaZm33
import Derived.Test.YtbnkahjmeobblaaZm35
namespace Go.Proofs.Ytbnkahjmeobblaa
open Go.RowKit Mem Go.Lib LebM UtfM AcM HeM
attribute [local go_sem ↓] Go.wp_at_zero Go.wp_at_succ
set_option linter.unusedVariables false

/-- what is left only gets less -/
def Shr {α : Type} (f : St → α × St) : Prop := ∀ s, (f s).2.l.length ≤ s.l.length
theorem Shr.bnd {α β : Type} {f : St → α × St} {g : α → St → β × St} (h1 : Shr f) (h2 : ∀ x, Shr (g x)) : Shr (HeM.bnd f g) := fun s => Nat.le_trans (h2 _ _) (h1 s)
theorem shr_rt {α : Type} (x : α) : Shr (rt x) := fun s => Nat.le_refl _
theorem shr_num (m : Nat) : Shr (num m) := fun s => by
  unfold num
  split
  · exact Nat.le_refl _
  · simp only [List.length_drop]; omega
theorem shr_pos (m : Nat) : Shr (pos m) := fun s => shr_num m s
theorem shr_sig : Shr sig := fun s => by
  unfold sig
  split
  · exact Nat.le_refl _
  · simp only [List.length_drop]; omega
theorem shr_byt (n : Nat) : Shr (byt n) := fun s => by
  unfold byt
  split
  · exact Nat.le_refl _
  · split
    · exact Nat.le_refl _
    · simp only [List.length_drop]; omega
theorem shr_depS : ∀ (k : Nat) (acc : List Tx), Shr (depS k acc)
  | 0, acc => fun s => Nat.le_refl _
  | k + 1, acc => fun s => by
    unfold depS
    exact Nat.le_trans (shr_depS k _ _) (shr_byt 32 s)
theorem shr_tab (a : Tx) : Shr (tabS a) := fun s => by
  unfold tabS
  split
  · exact Nat.le_refl _
  · simp only [List.length_drop]; omega
theorem shr_rd : Shr rdH :=
  Shr.bnd (Shr.bnd (Shr.bnd (shr_num _) (fun k => shr_depS k [])) fun _ => (shr_pos _).bnd fun _ => (shr_byt _).bnd fun _ => (shr_pos _).bnd fun _ => (shr_pos _).bnd fun _ => shr_sig.bnd fun _ => (shr_num _).bnd fun _ => (shr_byt _).bnd fun _ => Shr.bnd (f := chk _) (fun s => Nat.le_refl _) fun _ => shr_rt _)
    fun c => (shr_tab _).bnd fun T => shr_rt _
theorem rdSz : (Try.prog.info? 71).map (·.size) = some 2 := by kernel_rfl
theorem results_get {fn : Func} {s a b c : Tmp} {tmps : Array Value} {w : World} (hr : fn.results = #[.cell s 25, .tmp a, .tmp b, .tmp c]) (g : Nat) (hs : tmps.getD s undef = .pointer (some ⟨g, 0, none⟩)) {t : TypeId} {L : List Value} (hb : Row w g t L) (hn : L.length = 7)
    {x y z : Value} (ha : tmps.getD a undef = x) (hb' : tmps.getD b undef = y) (hc : tmps.getD c undef = z) :
    (results fn tmps).run Try.prog w = .ok (.tuple #[.agg L.toArray, x, y, z]) w := by
  have hl := run_ch hb hn
  have hs' : tmps[s]?.getD undef = .pointer (some ⟨g, 0, none⟩) := by rw [← hs]; simp
  have ha' : tmps[a]?.getD undef = x := by rw [← ha]; simp
  have hb2 : tmps[b]?.getD undef = y := by rw [← hb']; simp
  have hc' : tmps[c]?.getD undef = z := by rw [← hc]; simp
  unfold results
  rw [hr]
  simp [hs', asAddr, hl, ha', hb2, hc']
set_option maxRecDepth 100000 in
set_option maxHeartbeats 12800000 in
theorem hGet_any (A : Option Addr) (n c : Nat) (B : List UInt8) (w : World) (hr : Rd w A n (B.map bytec)) (hc : n ≤ c) (hn : n ≤ 100000000) :
    Calls Try.prog 15 #[.slice A n c] w fun e w' => ∃ A1 c1 A2 c2, e = .returned (.tuple #[chc (getH B).1 A1 c1 none 0 0, .slice A2 (getH B).2.1.length c2, .int .i64 ((getH B).2.2.1 : Int), .int .i64 ((getH B).2.2.2 : Int)]) ∧ OwnH w' w.heap.size A1 c1 (getH B).1.d ∧ (∀ h ∈ (getH B).1.d, h.length = 32) ∧ OwT w' w.heap.size A2 c2 (getH B).2.1 ∧ Fr (fun _ => False) w w' := by
  obtain ⟨⟨ch, s1⟩, e0⟩ : ∃ p, chg ⟨B, 0⟩ = p := ⟨_, rfl⟩
  obtain ⟨⟨T, s2⟩, e1⟩ : ∃ p, tabS ch.a s1 = p := ⟨_, rfl⟩
  have er : rdH ⟨B, 0⟩ = ((ch, T), s2) := by
    unfold rdH
    rw [bnd_eq e0, bnd_eq e1]
    rfl
  have hshr : s2.l.length ≤ B.length := by have := shr_rd ⟨B, 0⟩; rw [er] at this; exact this
  have eg : getH B = if s2.e ≠ 0 then (zeroC, [], 0, s2.e) else (ch, T, B.length - s2.l.length, 0) := by unfold getH; rw [er]
  have hBn : B.length = n := by simpa using hr.1
  obtain ⟨w1, hw1⟩ : ∃ w1, w.alloc (.cells [.string ⟨#[]⟩, .int .i64 0, .int .i64 0, .int .i64 0, .string ⟨#[]⟩, .slice none 0 0, .slice none 0 0].toArray 25) = w1 := ⟨_, rfl⟩
  obtain ⟨w2, hw2⟩ : ∃ w2, w1.alloc (.cells [.slice none 0 0, .int .i64 0].toArray 71) = w2 := ⟨_, rfl⟩
  obtain ⟨r, hrr⟩ : ∃ r, w.heap.size = r := ⟨_, rfl⟩
  obtain ⟨g, hg⟩ : ∃ g, w1.heap.size = g := ⟨_, rfl⟩
  have hgr : g = r + 1 := by rw [← hg, ← hw1, ← hrr]; simp
  have HR2 : Hid (Row w2 r 25 [.string ⟨#[]⟩, .int .i64 0, .int .i64 0, .int .i64 0, .string ⟨#[]⟩, .slice none 0 0, .slice none 0 0]) := Lib.hid (by rw [← hw2]; refine Row.alloc ?_ _; rw [← hw1, ← hrr]; exact Row.new _ _ _)
  have HG2 : Hid (Row w2 g 71 [.slice none 0 0, .int .i64 0]) := Lib.hid (by rw [← hw2, ← hg]; exact Row.new _ _ _)
  have HF2 : Hid (Fr (fun _ => False) w w2) := Lib.hid (by rw [← hw2, ← hw1]; exact ((Fr.refl _ _).alloc _).alloc _)
  have HGR : Hid (g = r + 1 ∧ w.heap.size = r ∧ w2.heap.size = g + 1) := Lib.hid ⟨hgr, hrr, by rw [← hw2, ← hg]; simp⟩
  have HSH : Hid (s2.l.length ≤ n) := Lib.hid (by omega)
  have HRD := Lib.hid hr
  have HLT : Hid (0 < n → ∀ ad, A = some ad → ad.block < r) := Lib.hid (fun h ad e => by have := hr.lt h ad e; omega)
  have HE0 := Lib.hid e0
  have HE1 := Lib.hid e1
  have HEG := Lib.hid eg
  have HBN := Lib.hid hBn
  clear hr e0 e1 er eg hBn hgr hshr
  go_enter Try.func15, Try.ntmps15
  go_wp2_with (refine store_st rdSz rfl (.tmp 6) (.tmp 10) rfl g (by rfl) [.slice A n c, .int .i64 0] (by rfl) _ _ HG2.out rfl rfl (by simp [Value.oneCell']) ?_)
  intro w3 hg3 hf3
  have hd3 : Hdm w3 g ⟨B, 0⟩ := ⟨A, n, c, hg3, (HRD.out.fr HF2.out (fun _ _ h => h)).frp hf3 (fun h ad e hb => by have h1 := HLT.out h ad e; have h2 : ad.block = g := hb; have := HGR.out; omega), hc, hn, fun h ad e => by have h1 := HLT.out h ad e; have := HGR.out; omega⟩
  have HD3 := Lib.hid hd3
  have HR3 := Lib.hid (HR2.out.fr hf3 (fun h => by have h1 : r = g := h; have := HGR.out; omega))
  have HF3 : Hid (Fr (fun _ => False) w w3) := Lib.hid (HF2.out.trans hf3 (fun k hk h => by have h1 : k = g := h; have := HGR.out; omega))
  have HS3 : Hid (g + 1 ≤ w3.heap.size) := Lib.hid (by have := hf3.size; have := HGR.out; omega)
  clear hw1 hw2 hrr hg hg3 hf3 hd3
  go_wp2_with fail
  refine (hChange_any g ⟨B, 0⟩ w3 HD3.out).mono ?_
  rintro e w4 ⟨A4, c4, rfl, ho4, h32, ha16, hd16, hd4, hf4⟩
  rw [HE0.out] at ho4 h32 ha16 hd16 hd4 ⊢
  simp only at ho4 h32 ha16 hd16 hd4 ⊢
  have HO4 := Lib.hid ho4
  have H32 := Lib.hid h32
  have HA16 := Lib.hid ha16
  have HD4 := Lib.hid hd4
  have HR4 := Lib.hid (HR3.out.fr hf4 (fun h => by have h1 : r = g := h; have := HGR.out; omega))
  have HF4 : Hid (Fr (fun _ => False) w w4) := Lib.hid (HF3.out.trans hf4 (fun k hk h => by have h1 : k = g := h; have := HGR.out; omega))
  have HS4 : Hid (g + 1 ≤ w3.heap.size ∧ w3.heap.size ≤ w4.heap.size) := Lib.hid ⟨HS3.out, hf4.size⟩
  obtain ⟨nd, hnd⟩ : ∃ nd, ch.d.length = nd := ⟨_, rfl⟩
  obtain ⟨ca, hca⟩ : ∃ x, ch.a = x := ⟨_, rfl⟩
  obtain ⟨cq, hcq⟩ : ∃ x, ch.q = x := ⟨_, rfl⟩
  obtain ⟨cs, hcs⟩ : ∃ x, ch.s = x := ⟨_, rfl⟩
  obtain ⟨ct, hct⟩ : ∃ x, ch.t = x := ⟨_, rfl⟩
  obtain ⟨cm, hcm⟩ : ∃ x, ch.m = x := ⟨_, rfl⟩
  have HCH : Hid (∀ A k, chc ch A k none 0 0 = .agg #[.string (txt ca), .int .i64 cq, .int .i64 cs, .int .i64 ct, .string (txt cm), .slice A nd k, .slice none 0 0]) := Lib.hid (fun A k => by unfold chc; rw [hnd, hca, hcq, hcs, hct, hcm])
  have HCA := Lib.hid hca
  rw [HCH.out]
  rw [hca] at HE1 HA16
  obtain ⟨q, hq⟩ : ∃ q, w4.heap.size = q := ⟨_, rfl⟩
  obtain ⟨w5, hw5⟩ : ∃ w5, w4.alloc (.cells [.string ⟨#[]⟩, .int .i64 0, .int .i64 0, .int .i64 0, .string ⟨#[]⟩, .slice none 0 0, .slice none 0 0].toArray 25) = w5 := ⟨_, rfl⟩
  have HQ5 : Hid (Row w5 q 25 [.string ⟨#[]⟩, .int .i64 0, .int .i64 0, .int .i64 0, .string ⟨#[]⟩, .slice none 0 0, .slice none 0 0]) := Lib.hid (by rw [← hw5, ← hq]; exact Row.new _ _ _)
  have hf5 : Fr (fun _ => False) w4 w5 := by rw [← hw5]; exact (Fr.refl _ _).alloc _
  have HFF5 := Lib.hid hf5
  have HQG : Hid (g < q ∧ w3.heap.size ≤ q) := Lib.hid (by have := HS4.out; omega)
  have HOQ : Hid (∀ k, (Value.slice A4 ch.d.length c4).ownBlock = some k → w3.heap.size ≤ k ∧ k < q) := Lib.hid (fun k hk => by have := HO4.out.lt k hk; omega)
  clear ho4 h32 ha16 hd16 hd4 hf4 hca hcq hcs hct hcm hnd hf5
  go_wp2_with (refine store_st chSz rfl (.tmp 7) (.tmp 11) rfl q (by rfl) [.string (txt ca), .int .i64 cq, .int .i64 cs, .int .i64 ct, .string (txt cm), .slice A4 nd c4, .slice none 0 0] (by rfl) _ _ HQ5.out rfl rfl (by simp [Value.oneCell']) ?_)
  intro w6 hq6 hf6
  have b0 : w6.cell? ⟨q, 0, none⟩ = some (.string (txt ca)) := Row.cell hq6 rfl
  have hf46 : Fr (fun k => k = q) w4 w6 := (HFF5.out.mono (fun _ _ h => h.elim)).trans hf6 (fun _ _ h => h)
  have HQ6 := Lib.hid hq6
  have HR6 := Lib.hid (HR4.out.fr hf46 (fun h => by have h1 : r = q := h; have := HQG.out; have := HGR.out; omega))
  have HD6 := Lib.hid (HD4.out.fr hf46 (fun k hk h => by have h1 : k = q := h; have := HQG.out; omega))
  have HO6 : Hid (OwnH w6 w3.heap.size A4 c4 ch.d) := Lib.hid (hf46.own HO4.out (fun k hk h => by have h1 : k = q := h; have := HOQ.out k hk; omega))
  have HF6 : Hid (Fr (fun _ => False) w w6) := Lib.hid (HF4.out.trans hf46 (fun k hk h => by have h1 : k = q := h; have := HQG.out; have := HF4.out.size; have := HGR.out; omega))
  clear hw5 hq hq6 hf6 hf46
  go_wp2_with fail
  refine (hTable_any g s1 ca w6 HD6.out (by have := HA16.out; omega)).mono ?_
  rintro e w7 ⟨A7, c7, rfl, ho7, hd7, hf7⟩
  rw [HE1.out] at ho7 hd7 ⊢
  simp only at ho7 hd7 ⊢
  obtain ⟨nt, hnt⟩ : ∃ k, T.length = k := ⟨_, rfl⟩
  rw [hnt]
  have HNT := Lib.hid hnt
  have HO7 := Lib.hid ho7
  have HOH7 := Lib.hid (HO6.out.frS hf7 (fun k hk h => by have h1 : k = g := h; have := HS3.out; omega))
  have HQ7 := Lib.hid (HQ6.out.fr hf7 (fun h => by have h1 : q = g := h; have := HQG.out; omega))
  have HR7 := Lib.hid (HR6.out.fr hf7 (fun h => by have h1 : r = g := h; have := HGR.out; omega))
  have HF7 : Hid (Fr (fun _ => False) w w7) := Lib.hid (HF6.out.trans hf7 (fun k hk h => by have h1 : k = g := h; have := HGR.out; omega))
  have HSZ : Hid (r < w.heap.size + 1 ∧ w6.heap.size ≤ w7.heap.size ∧ r < w6.heap.size ∧ w.heap.size ≤ w6.heap.size) := Lib.hid (by have h1 := HF6.out.size; have h2 := hf7.size; have h3 := HR6.out.lt; have := HGR.out; omega)
  obtain ⟨Al, nl, cl, hrl, hrdl, _⟩ := hd7
  have hnl : s2.l.length = nl := by simpa using hrdl.1
  have d0 : w7.cell? ⟨g, 0, none⟩ = some (.slice Al nl cl) := Row.cell hrl rfl
  have d1 : w7.cell? ⟨g, 1, none⟩ = some (.int .i64 (s2.e : Int)) := Row.cell hrl rfl
  obtain ⟨E, hE⟩ : ∃ E, s2.e = E := ⟨_, rfl⟩
  have HNLE : Hid (nl ≤ n) := Lib.hid (by have := HSH.out; omega)
  rw [hE] at d1 HEG
  rw [hnl] at HEG
  have HRL := Lib.hid hrl
  clear b0 ho7 hf7 hnt hrl hrdl hnl hE
  by_cases he : E ≠ 0
  · have t1 : ((E : Int) != 0) = true := by simp; omega
    have t1' : (E != 0) = true := by simp; omega
    have heg := HEG.out
    rw [if_pos he] at heg
    have HEG2 := Lib.hid heg
    clear heg he
    go_upto_region 5 with fail
    refine wp_region_held_drew (S := fun w' => w'.cell? ⟨g, 1, none⟩ = some (.int .i64 (E : Int))) (by kernel_rfl) d1 (fun hH => ?_)
    refine tk 0 hH ?_
    refine tk 1 hH ?_
    refine tk 2 hH ?_
    refine rdo 3 (fun Kx hKx => ?_)
    refine step_store_whole chSz (by rfl) _ _ (by rfl) r (by rfl) [.string ⟨#[]⟩, .int .i64 0, .int .i64 0, .int .i64 0, .string ⟨#[]⟩, .slice none 0 0, .slice none 0 0].toArray (by rfl) _ _ HR7.out.drew rfl rfl (by simp [Value.oneCell']) ?_
    intro w8 hr8 hf8
    have HR8 : Hid (Row w8 r 25 [.string ⟨#[]⟩, .int .i64 0, .int .i64 0, .int .i64 0, .string ⟨#[]⟩, .slice none 0 0, .slice none 0 0]) := Lib.hid hr8
    have HF8 : Hid (Fr (fun _ => False) w w8) := Lib.hid (HF7.out.drew.trans hf8 (fun k hk h => by have h1 : k = r := h; have := HGR.out; omega))
    have hc8 : w8.cell? ⟨g, 1, none⟩ = some (.int .i64 (E : Int)) := hf8.cell hH (fun h => by have h1 : g = r := h; have := HGR.out; omega)
    clear hr8 hf8 d0 d1
    refine hKx.out _ _ hc8 (fun hH => ?_)
    clear hKx Kx
    refine rdo 4 (fun Kx hKx => ?_)
    go_simp
    refine hKx.out _ _ hc8 (fun hH => ?_)
    clear hKx Kx
    refine rdo 5 (fun Kx hKx => ?_)
    go_simp
    refine hKx.out _ _ hc8 (fun hH => ?_)
    clear hKx Kx
    refine rdo 6 (fun Kx hKx => ?_)
    go_simp
    refine hKx.out _ _ hc8 (fun hH => ?_)
    clear hKx Kx
    refine wpAnyH_done (by kernel_rfl) ?_ _
    go_wp2_with fail
    refine bodyPost_ret (v := .tuple #[.agg [.string ⟨#[]⟩, .int .i64 0, .int .i64 0, .int .i64 0, .string ⟨#[]⟩, .slice none 0 0, .slice none 0 0].toArray, .slice none 0 0, .int .i64 0, .int .i64 (E : Int)]) (by exact results_get rfl r rfl HR8.out rfl rfl rfl rfl) rfl ?_
    rw [HEG2.out]
    exact ⟨none, 0, none, 0, rfl, OwnH.nil _ _, fun h hh => (by cases hh), OwT.nil _ _, HF8.out⟩
  · have he0 : E = 0 := by omega
    subst he0
    have t1 : (((0 : Nat) : Int) != 0) = false := by simp
    have heg := HEG.out
    rw [if_neg he] at heg
    have HEG2 := Lib.hid heg
    clear heg he
    have b0 : w7.cell? ⟨q, 0, none⟩ = some (.string (txt ca)) := Row.cell HQ7.out rfl
    have b1 : w7.cell? ⟨q, 1, none⟩ = some (.int .i64 cq) := Row.cell HQ7.out rfl
    have b2 : w7.cell? ⟨q, 2, none⟩ = some (.int .i64 cs) := Row.cell HQ7.out rfl
    have b3 : w7.cell? ⟨q, 3, none⟩ = some (.int .i64 ct) := Row.cell HQ7.out rfl
    have b4 : w7.cell? ⟨q, 4, none⟩ = some (.string (txt cm)) := Row.cell HQ7.out rfl
    have b5 : w7.cell? ⟨q, 5, none⟩ = some (.slice A4 nd c4) := Row.cell HQ7.out rfl
    have b6 : w7.cell? ⟨q, 6, none⟩ = some (.slice none 0 0) := Row.cell HQ7.out rfl
    have e1 : IntKind.i64.wrap ((n : Int) - (nl : Int)) = ((n - nl : Nat) : Int) := by
      rw [IntKind.wrap_i64]; have := HNLE.out; omega
    go_upto_region 6 with fail
    refine wp_region_held_drew (S := fun w' => w'.cell? ⟨g, 0, none⟩ = some (.slice Al nl cl) ∧ w'.cell? ⟨q, 0, none⟩ = some (.string (txt ca)) ∧ w'.cell? ⟨q, 1, none⟩ = some (.int .i64 cq) ∧ w'.cell? ⟨q, 2, none⟩ = some (.int .i64 cs) ∧ w'.cell? ⟨q, 3, none⟩ = some (.int .i64 ct) ∧ w'.cell? ⟨q, 4, none⟩ = some (.string (txt cm)) ∧ w'.cell? ⟨q, 5, none⟩ = some (.slice A4 nd c4) ∧ w'.cell? ⟨q, 6, none⟩ = some (.slice none 0 0)) (by kernel_rfl) ⟨d0, b0, b1, b2, b3, b4, b5, b6⟩ (fun hH => ?_)
    refine tk 0 hH ?_ (hy := by intro w hSw; obtain ⟨k, k0, k1, k2, k3, k4, k5, k6⟩ := hSw; go_simp; try (with_reducible rfl))
    refine tk 1 hH ?_
    refine tk 2 hH ?_
    refine tk 3 hH ?_
    refine tk 4 hH ?_
    refine tk 5 hH ?_ (hy := by intro w hSw; obtain ⟨k, k0, k1, k2, k3, k4, k5, k6⟩ := hSw; go_simp; try (with_reducible rfl))
    refine tk 6 hH ?_
    refine tk 7 hH ?_
    refine rdo 8 (fun Kx hKx => ?_)
    refine step_store_whole chSz (by rfl) _ _ (by rfl) r (by rfl) [.string (txt ca), .int .i64 cq, .int .i64 cs, .int .i64 ct, .string (txt cm), .slice A4 nd c4, .slice none 0 0].toArray (by rfl) _ _ HR7.out.drew rfl rfl (by simp [Value.oneCell']) ?_
    intro w8 hr8 hf8
    have HR8 := Lib.hid hr8
    have HOH8 := Lib.hid ((HOH7.out.fr (Fr.refl _ _).drew).frS hf8 (fun k hk h => by have h1 : k = r := h; have := HGR.out; have := HS3.out; omega))
    have HO8 := Lib.hid ((HO7.out.fr (Fr.refl _ _).drew).frS hf8 (fun k hk h => by have h1 : k = r := h; have := HSZ.out; omega))
    have HF8 : Hid (Fr (fun _ => False) w w8) := Lib.hid (HF7.out.drew.trans hf8 (fun k hk h => by have h1 : k = r := h; have := HGR.out; omega))
    have HH8 : Hid (w8.cell? ⟨g, 0, none⟩ = some (.slice Al nl cl) ∧ w8.cell? ⟨q, 0, none⟩ = some (.string (txt ca)) ∧ w8.cell? ⟨q, 1, none⟩ = some (.int .i64 cq) ∧ w8.cell? ⟨q, 2, none⟩ = some (.int .i64 cs) ∧ w8.cell? ⟨q, 3, none⟩ = some (.int .i64 ct) ∧ w8.cell? ⟨q, 4, none⟩ = some (.string (txt cm)) ∧ w8.cell? ⟨q, 5, none⟩ = some (.slice A4 nd c4) ∧ w8.cell? ⟨q, 6, none⟩ = some (.slice none 0 0)) := Lib.hid (by
      have hq8 := HQ7.out.drew.fr hf8 (fun h => by have h1 : q = r := h; have := HGR.out; have := HQG.out; omega)
      exact ⟨hf8.cell hH.1 (fun h => by have h1 : g = r := h; have := HGR.out; omega), hq8.cell rfl, hq8.cell rfl, hq8.cell rfl, hq8.cell rfl, hq8.cell rfl, hq8.cell rfl, hq8.cell rfl⟩)
    clear hr8 hf8 b0 b1 b2 b3 b4 b5 b6 d0 d1
    refine hKx.out _ _ HH8.out (fun hH => ?_)
    clear hKx Kx
    refine rdo 9 (fun Kx hKx => ?_)
    go_simp
    refine hKx.out _ _ HH8.out (fun hH => ?_)
    clear hKx Kx
    refine rdo 10 (fun Kx hKx => ?_)
    go_simp
    refine hKx.out _ _ HH8.out (fun hH => ?_)
    clear hKx Kx
    refine rdo 11 (fun Kx hKx => ?_)
    go_simp
    refine hKx.out _ _ HH8.out (fun hH => ?_)
    clear hKx Kx
    refine wpAnyH_done (by kernel_rfl) ?_ _
    go_wp2_with fail
    refine bodyPost_ret (v := .tuple #[.agg [.string (txt ca), .int .i64 cq, .int .i64 cs, .int .i64 ct, .string (txt cm), .slice A4 nd c4, .slice none 0 0].toArray, .slice A7 nt c7, .int .i64 ((n - nl : Nat) : Int), .int .i64 0]) (by exact results_get rfl r rfl HR8.out rfl rfl rfl rfl) rfl ?_
    rw [HEG2.out, HBN.out]
    refine ⟨A4, c4, A7, c7, ?_, HOH8.out.base (by have := HF3.out.size; omega), H32.out, HO8.out.base (by have := HSZ.out; omega), HF8.out⟩
    simp only
    rw [HCH.out, HNT.out]
    rfl
end Go.Proofs.Ytbnkahjmeobblaa
namespace Go.Proofs.Ytbnkahjmeobblaa
open Go.RowKit Mem Go.Lib LebM UtfM AcM OpM HeM
attribute [local go_sem ↓] Go.wp_at_zero Go.wp_at_succ
set_option linter.unusedVariables false

theorem tab_alone (a : Tx) : tabA a (namesM []) = [a] := rfl
theorem put_example : putH ⟨[97], ((1 : Nat) : Int), ((1 : Nat) : Int), 0, [], []⟩ [[97]] = [0, 1, 97, 1, 1, 0, 0, 0] := by
  simp [putH, headT, putA, u_small, s_small]
theorem right_example : rightH ⟨[97], ((1 : Nat) : Int), ((1 : Nat) : Int), 0, [], []⟩ = true :=
  right_of ⟨by simp, by simp, by simp, by simp, wh_nil, by simp, rfl⟩
set_option maxRecDepth 100000 in
set_option maxHeartbeats 3200000 in
theorem awake20_any (w : World) : Calls Try.prog 8 #[] w fun e w' => e = .returned (.bool true) ∧ Fr (fun _ => False) w w' := by
  have hp := hPut_any ⟨[97], ((1 : Nat) : Int), ((1 : Nat) : Int), 0, [], []⟩ none 0 none 0 0 [] w (Hsh.nil _ _) right_example (by simp) (by simp) (Ops.nil _ _) (by omega) (fun x hx => by cases hx) (by rw [tab_alone]; simp) (by rw [tab_alone]; intro x hx; rw [List.mem_singleton.1 hx]; simp) (by rw [tab_alone]; simp [putA, u_small])
  have hp : Calls Try.prog 13 #[.agg #[.string ⟨#[97]⟩, .int .i64 1, .int .i64 1, .int .i64 0, .string ⟨#[]⟩, .slice none 0 0, .slice none 0 0]] w _ := hp
  rw [tab_alone, put_example] at hp
  have HP := Lib.hid hp
  clear hp
  go_enter Try.func8, Try.ntmps8
  go_wp2_with fail
  refine HP.out.mono ?_
  rintro e w3 ⟨A3, c3, rfl, ho3, hf3⟩
  have hst : (convert 29 9 (.slice A3 8 c3)).run Try.prog w3 = .ok (.string ⟨#[0, 1, 97, 1, 1, 0, 0, 0]⟩) w3 := ho3.str
  have HF3 := Lib.hid hf3
  have hlen : ([0, 1, 97, 1, 1, 0, 0, 0] : List UInt8).length = 8 := rfl
  rw [hlen]
  clear ho3 hf3
  go_wp2_with fail
  go_ret
  exact ⟨rfl, HF3.out⟩
set_option maxRecDepth 100000 in
set_option maxHeartbeats 6400000 in
theorem headtimes_law (t : Int) (sq st : Nat) (w : World) (ht0 : -9223372036854775808 ≤ t) (ht1 : t < 9223372036854775808) (hsq : sq < 18446744073709551616) (hst : st < 18446744073709551616) :
    Calls Try.prog 7 #[.int .i64 t, .int .u64 (sq : Int), .int .u64 (st : Int)] w fun e w' => e = .returned (.bool true) ∧ Fr (fun _ => False) w w' := by
  have HAW := Lib.hid (fun w' => awake20_any w')
  obtain ⟨Q, hQ⟩ : ∃ Q : Nat, 1 + (sq : Int) % 9007199254740991 = (Q : Int) := ⟨(1 + (sq : Int) % 9007199254740991).toNat, by omega⟩
  obtain ⟨ST, hST⟩ : ∃ Q : Nat, 1 + (st : Int) % 9007199254740991 = (Q : Int) := ⟨(1 + (st : Int) % 9007199254740991).toNat, by omega⟩
  have hr : rightH ⟨[97], (Q : Int), (ST : Int), t, [], []⟩ = true := right_of ⟨by simp, by simp only; omega, by simp only; omega, by simp, wh_nil, by simp, rfl⟩
  have hp := fun w' => hPut_any ⟨[97], (Q : Int), (ST : Int), t, [], []⟩ none 0 none 0 0 [] w' (Hsh.nil _ _) hr ht0 ht1 (Ops.nil _ _) (by omega) (fun x hx => by cases hx) (by rw [tab_alone]; simp) (by rw [tab_alone]; intro x hx; rw [List.mem_singleton.1 hx]; simp) (by rw [tab_alone]; simp [putA, u_small])
  have hp : ∀ w', Calls Try.prog 13 #[.agg #[.string ⟨#[97]⟩, .int .i64 (Q : Int), .int .i64 (ST : Int), .int .i64 t, .string ⟨#[]⟩, .slice none 0 0, .slice none 0 0]] w' _ := hp
  simp only [tab_alone] at hp
  have hg := get_back20 (c := ⟨[97], (Q : Int), (ST : Int), t, [], []⟩) (O := []) hr (fun h hh => by cases hh) ht0 ht1 List.Pairwise.nil (by simp) (fun x hx => by cases hx) (by simp) []
  have hrt := fun w' => hRight_any ⟨[97], (Q : Int), (ST : Int), t, [], []⟩ none 0 none 0 0 w' (Hsh.nil _ _) (by simp) (by simp) (by simp)
  rw [hr] at hrt
  have hrt : ∀ w', Calls Try.prog 10 #[.agg #[.string ⟨#[97]⟩, .int .i64 (Q : Int), .int .i64 (ST : Int), .int .i64 t, .string ⟨#[]⟩, .slice none 0 0, .slice none 0 0]] w' _ := hrt
  rw [List.append_nil] at hg
  obtain ⟨R, hR⟩ : ∃ R, putH ⟨[97], (Q : Int), (ST : Int), t, [], []⟩ [[97]] = R := ⟨_, rfl⟩
  have hRl : R.length ≤ 1000 := by
    rw [← hR]
    have h1 := u_len10 (show Q < 18446744073709551616 by omega)
    have h2 := u_len10 (show ST < 18446744073709551616 by omega)
    have h3 := s_len10 ht0 ht1
    simp [putH, headT, putA, u_small]
    omega
  simp only [hR] at hp hg
  obtain ⟨n, hn⟩ : ∃ n, R.length = n := ⟨_, rfl⟩
  rw [hn] at hg hRl
  simp only [hn] at hp
  have hgt : ∀ (A : Option Addr) (c : Nat) (w' : World), n ≤ c → Rd w' A n (R.map bytec) → Calls Try.prog 15 #[.slice A n c] w' fun e w'' => ∃ A1 c1 A2 c2, e = .returned (.tuple #[.agg #[.string ⟨#[97]⟩, .int .i64 (Q : Int), .int .i64 (ST : Int), .int .i64 t, .string ⟨#[]⟩, .slice A1 0 c1, .slice none 0 0], .slice A2 1 c2, .int .i64 (n : Int), .int .i64 0]) ∧ Fr (fun _ => False) w' w'' := by
    intro A c w' hc hrd
    have h := hGet_any A n c R w' hrd hc (by omega)
    rw [hg] at h
    refine h.mono ?_
    rintro e w'' ⟨A1, c1, A2, c2, rfl, _, _, _, hf⟩
    exact ⟨A1, c1, A2, c2, rfl, hf⟩
  have HP := Lib.hid hp
  have HRT := Lib.hid hrt
  have HGT := Lib.hid hgt
  have HN := Lib.hid hn
  clear hp hrt hgt hg hr hR hRl hn
  go_enter Try.func7, Try.ntmps7
  go_wp2_with fail
  refine (HAW.out _).mono ?_
  rintro e w1 ⟨rfl, hf1⟩
  obtain ⟨p, hpp⟩ : ∃ p, w1.heap.size = p := ⟨_, rfl⟩
  obtain ⟨wz, hw2⟩ : ∃ w2, w1.alloc (.cells [.string ⟨#[]⟩, .int .i64 0, .int .i64 0, .int .i64 0, .string ⟨#[]⟩, .slice none 0 0, .slice none 0 0].toArray 25) = w2 := ⟨_, rfl⟩
  have HZ2 : Hid (Row wz p 25 [.string ⟨#[]⟩, .int .i64 0, .int .i64 0, .int .i64 0, .string ⟨#[]⟩, .slice none 0 0, .slice none 0 0]) := Lib.hid (by rw [← hw2, ← hpp]; exact Row.new _ _ _)
  have HFZ : Hid (Fr (fun _ => False) w wz) := Lib.hid (by rw [← hw2]; exact hf1.alloc _)
  have HPW : Hid (w.heap.size ≤ p) := Lib.hid (by have := hf1.size; omega)
  clear hf1
  go_wp2_with (refine store_st chSz rfl (.tmp 7) (.tmp 24) rfl p (by rfl) [.string ⟨#[97]⟩, .int .i64 (Q : Int), .int .i64 (ST : Int), .int .i64 t, .string ⟨#[]⟩, .slice none 0 0, .slice none 0 0] (by rfl) _ _ HZ2.out rfl rfl (by simp [Value.oneCell']) ?_)
  intro w2 hr2 hf2
  have HR2 := Lib.hid hr2
  have HF2 : Hid (Fr (fun _ => False) w w2) := Lib.hid (HFZ.out.trans hf2 (fun k hk h => by have h1 : k = p := h; have := HPW.out; omega))
  have b0 : w2.cell? ⟨p, 0, none⟩ = some (.string ⟨#[97]⟩) := Row.cell hr2 rfl
  have b1 : w2.cell? ⟨p, 1, none⟩ = some (.int .i64 (Q : Int)) := Row.cell hr2 rfl
  have b2 : w2.cell? ⟨p, 2, none⟩ = some (.int .i64 (ST : Int)) := Row.cell hr2 rfl
  have b3 : w2.cell? ⟨p, 3, none⟩ = some (.int .i64 t) := Row.cell hr2 rfl
  have b4 : w2.cell? ⟨p, 4, none⟩ = some (.string ⟨#[]⟩) := Row.cell hr2 rfl
  have b5 : w2.cell? ⟨p, 5, none⟩ = some (.slice none 0 0) := Row.cell hr2 rfl
  have b6 : w2.cell? ⟨p, 6, none⟩ = some (.slice none 0 0) := Row.cell hr2 rfl
  clear hr2 hf2
  go_wp2_with fail
  clear b0 b1 b2 b3 b4 b5 b6
  clear hw2 hpp
  refine (HP.out w2).mono ?_
  rintro e w3 ⟨A3, c3, rfl, ho3, hf3⟩
  have HO3 := Lib.hid ho3
  have HR3 := Lib.hid (HR2.out.fr hf3 (fun h => h))
  have HF3 := Lib.hid (HF2.out.trans hf3 (fun _ _ h => h))
  clear ho3 hf3
  go_wp2_with fail
  refine (HGT.out A3 c3 w3 (by have := HO3.out.cap.1; rwa [HN.out] at this) (by have := HO3.out.rd; rwa [HN.out] at this)).mono ?_
  rintro e w4 ⟨A4, c4, A5, c5, rfl, hf4⟩
  have HR4 := Lib.hid (HR3.out.fr hf4 (fun h => h))
  have HF4 := Lib.hid (HF3.out.trans hf4 (fun _ _ h => h))
  obtain ⟨q, hq⟩ : ∃ q, w4.heap.size = q := ⟨_, rfl⟩
  obtain ⟨wy, hw5⟩ : ∃ w5, w4.alloc (.cells [.string ⟨#[]⟩, .int .i64 0, .int .i64 0, .int .i64 0, .string ⟨#[]⟩, .slice none 0 0, .slice none 0 0].toArray 25) = w5 := ⟨_, rfl⟩
  have HY5 : Hid (Row wy q 25 [.string ⟨#[]⟩, .int .i64 0, .int .i64 0, .int .i64 0, .string ⟨#[]⟩, .slice none 0 0, .slice none 0 0]) := Lib.hid (by rw [← hw5, ← hq]; exact Row.new _ _ _)
  have HFY : Hid (Fr (fun _ => False) w4 wy) := Lib.hid (by rw [← hw5]; exact (Fr.refl _ _).alloc _)
  have HQW : Hid (w4.heap.size ≤ q) := Lib.hid (by omega)
  clear hf4
  go_wp2_with (refine store_st chSz rfl (.tmp 9) (.tmp 30) rfl q (by rfl) [.string ⟨#[97]⟩, .int .i64 (Q : Int), .int .i64 (ST : Int), .int .i64 t, .string ⟨#[]⟩, .slice A4 0 c4, .slice none 0 0] (by rfl) _ _ HY5.out rfl rfl (by simp [Value.oneCell']) ?_)
  intro w5 hr5 hf5'
  have hf5 : Fr (fun _ => False) w4 w5 := HFY.out.trans hf5' (fun k hk h => by have h1 : k = q := h; have := HQW.out; omega)
  have HR5 := Lib.hid hr5
  have HP5 := Lib.hid (HR4.out.fr hf5 (fun h => h))
  have HF5 := Lib.hid (HF4.out.trans hf5 (fun _ _ h => h))
  have b0 : w5.cell? ⟨p, 0, none⟩ = some (.string ⟨#[97]⟩) := Row.cell HP5.out rfl
  have b1 : w5.cell? ⟨p, 1, none⟩ = some (.int .i64 (Q : Int)) := Row.cell HP5.out rfl
  have b2 : w5.cell? ⟨p, 2, none⟩ = some (.int .i64 (ST : Int)) := Row.cell HP5.out rfl
  have b3 : w5.cell? ⟨p, 3, none⟩ = some (.int .i64 t) := Row.cell HP5.out rfl
  have b4 : w5.cell? ⟨p, 4, none⟩ = some (.string ⟨#[]⟩) := Row.cell HP5.out rfl
  have b5 : w5.cell? ⟨p, 5, none⟩ = some (.slice none 0 0) := Row.cell HP5.out rfl
  have b6 : w5.cell? ⟨p, 6, none⟩ = some (.slice none 0 0) := Row.cell HP5.out rfl
  clear hr5 hf5' hf5
  go_wp2_with fail
  clear hw5 hq b0 b1 b2 b3 b4 b5 b6
  refine (HRT.out w5).mono ?_
  rintro e w6 ⟨rfl, hf6⟩
  have HF6 := Lib.hid (HF5.out.trans hf6 (fun _ _ h => h))
  have hp6 := HP5.out.fr hf6 (fun h => h)
  have hq6 := HR5.out.fr hf6 (fun h => h)
  have b1 : w6.cell? ⟨p, 1, none⟩ = some (.int .i64 (Q : Int)) := Row.cell hp6 rfl
  have b2 : w6.cell? ⟨p, 2, none⟩ = some (.int .i64 (ST : Int)) := Row.cell hp6 rfl
  have d1 : w6.cell? ⟨q, 1, none⟩ = some (.int .i64 (Q : Int)) := Row.cell hq6 rfl
  have d2 : w6.cell? ⟨q, 2, none⟩ = some (.int .i64 (ST : Int)) := Row.cell hq6 rfl
  have d3 : w6.cell? ⟨q, 3, none⟩ = some (.int .i64 t) := Row.cell hq6 rfl
  clear hf6 hp6 hq6
  go_wp2_with fail
  go_ret
  exact ⟨rfl, HF6.out⟩
end Go.Proofs.Ytbnkahjmeobblaa
