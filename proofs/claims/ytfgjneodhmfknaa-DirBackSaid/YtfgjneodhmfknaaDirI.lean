/-
  Layer 16's laws: awake, cols (columns of any steps and texts).
-/
import Derived.Test.YtfgjneodhmfknaaDirH
import Derived.Test.YtfgjneodhmfknaaDirZ
import Derived.Lib.ConvBytes
namespace Go.Proofs.Ytfgjneodhmfknaa
open Go.RowKit Mem Go.Lib LebM DirM
attribute [local go_sem ↓] Go.wp_at_zero Go.wp_at_succ
set_option linter.unusedVariables false

theorem ex_put : putC [((5, [1, 2]) : Col)] = [1, 5, 2, 1, 2] := by
  have hf : full [((5, [1, 2]) : Col)] = [(5, [1, 2])] := by decide
  unfold putC
  rw [hf]
  show u 1 ++ ((u 5 ++ u 2 ++ []) ++ ([1, 2] ++ [])) = _
  rw [u_small (by omega), u_small (by omega), u_small (by omega)]
  rfl
set_option maxRecDepth 100000 in
set_option maxHeartbeats 1600000 in
theorem awake16_any (w : World) : Calls Try.prog 8 #[] w fun e w' => e = .returned (.bool true) ∧ Fr (fun _ => False) w w' := by
  obtain ⟨w1, hw1⟩ : ∃ w1, w.alloc (.cells #[.int .u8 1, .int .u8 2] 5) = w1 := ⟨_, rfl⟩
  obtain ⟨q, hq⟩ : ∃ q, w.heap.size = q := ⟨_, rfl⟩
  obtain ⟨w2, hw2⟩ : ∃ w2, w1.alloc (.cells #[.int .i64 5, .slice (some ⟨q, 0, none⟩) 2 2] 45) = w2 := ⟨_, rfl⟩
  obtain ⟨p, hp⟩ : ∃ p, w1.heap.size = p := ⟨_, rfl⟩
  have hf1 : Fr (fun _ => False) w w1 := by rw [← hw1]; exact (Fr.refl _ _).alloc _
  have hf12 : Fr (fun _ => False) w1 w2 := by rw [← hw2]; exact (Fr.refl _ _).alloc _
  have hr1 : Rd w1 (some ⟨q, 0, none⟩) 2 (([1, 2] : List UInt8).map bytec) := by rw [← hw1]; exact Rd.cells hq.symm [.int .u8 1, .int .u8 2] _
  have hb1 : w1.heap[q]? = some (.cells #[.int .u8 1, .int .u8 2] 5 (0, 0)) := by rw [← hw1, ← hq]; exact heap_alloc_new w _
  have hr2 : Row w2 p 45 [.int .i64 5, .slice (some ⟨q, 0, none⟩) 2 2] := by rw [← hw2, ← hp]; exact Row.new w1 _ _
  have hco : Cols w2 (some ⟨p, 0, none⟩) 1 [⟨5, some ⟨q, 0, none⟩, 2, [1, 2]⟩] := by
    refine ⟨⟨rfl, fun k t hk => ?_⟩, fun x hx => ?_⟩
    · cases k with
      | zero =>
        simp at hk
        subst hk
        exact ⟨p, 0, rfl, hr2.lt, hr2.cell rfl, hr2.cell rfl⟩
      | succ k => simp at hk
    · simp at hx
      subst hx
      exact ⟨hr1.fr hf12 (fun _ _ h => h), Nat.le_refl _, fun ad e => by injection e with e; subst e; exact ⟨_, _, hf12.blk hb1 (fun h => h)⟩⟩
  have hpu := put_any (some ⟨p, 0, none⟩) 1 1 [⟨5, some ⟨q, 0, none⟩, 2, [1, 2]⟩] w2 hco (by omega) (by intro x hx; simp at hx; subst hx; show (5 : Nat) ≤ 1000000000000; omega) (by intro x hx; simp at hx; subst hx; show (2 : Nat) ≤ 1000000; omega)
  rw [show ([⟨5, some ⟨q, 0, none⟩, 2, [1, 2]⟩] : List Cl).map Cl.v = [((5, [1, 2]) : Col)] from rfl, ex_put] at hpu
  have HP := Lib.hid hpu
  have HF2 := Lib.hid (hf1.trans hf12 (fun _ _ h => h))
  clear hpu hf1 hf12 hr1 hb1 hr2 hco
  go_enter Try.func8, Try.ntmps8
  go_wp2_with fail
  refine HP.out.mono ?_
  intro e w3 h3
  obtain ⟨A1, c1, rfl, ho1, hf3⟩ := h3
  have hst : (convert 22 9 (.slice A1 5 c1)).run Try.prog w3 = .ok (.string ⟨#[1, 5, 2, 1, 2]⟩) w3 := ho1.str
  have HF3 := Lib.hid (HF2.out.trans hf3 (fun _ _ h => h))
  clear ho1 hf3 HP hw1 hw2 hq hp
  go_wp2_with fail
  go_ret
  exact ⟨rfl, HF3.out⟩

def clip (s : List UInt8) : List UInt8 := if 200 < s.length then [63] else s
def colsL : Nat → List UInt8 → List (List UInt8) → List Col
  | id, b :: S, d :: D => (id + 1 + b.toNat, clip d) :: colsL (id + 1 + b.toNat) S D
  | _, _, _ => []
/-- the law's columns -/
def colsW (S : List UInt8) (D : List (List UInt8)) : List Col := colsL 0 (S.take 60) D
theorem colsL_nil1 (id : Nat) (D : List (List UInt8)) : colsL id [] D = [] := by unfold colsL; rfl
theorem colsL_nil2 (id : Nat) (S : List UInt8) : colsL id S [] = [] := by cases S <;> rfl
theorem colsL_ok : ∀ (id : Nat) (S : List UInt8) (D : List (List UInt8)), (colsL id S D).length ≤ S.length ∧ ∀ x ∈ colsL id S D, id < x.1 ∧ x.1 ≤ id + 256 * S.length ∧ x.2.length ≤ 200
  | id, [], D => by rw [colsL_nil1]; exact ⟨Nat.le_refl _, fun x hx => by cases hx⟩
  | id, b :: S, [] => by rw [colsL_nil2]; exact ⟨Nat.zero_le _, fun x hx => by cases hx⟩
  | id, b :: S, d :: D => by
    obtain ⟨h1, h2⟩ := colsL_ok (id + 1 + b.toNat) S D
    have hb := b.toNat_lt
    refine ⟨?_, fun x hx => ?_⟩
    · show (colsL (id + 1 + b.toNat) S D).length + 1 ≤ S.length + 1
      omega
    · show id < x.1 ∧ x.1 ≤ id + 256 * (S.length + 1) ∧ _
      rcases List.mem_cons.1 hx with h | h
      · rw [h]
        refine ⟨by show id < id + 1 + b.toNat; omega, by show id + 1 + b.toNat ≤ _; omega, ?_⟩
        show (clip d).length ≤ 200
        unfold clip
        split
        · simp
        · omega
      · have := h2 x h
        omega
theorem colsL_rise : ∀ (id : Nat) (S : List UInt8) (D : List (List UInt8)), (colsL id S D).Pairwise (fun x y => x.1 < y.1)
  | id, [], D => by rw [colsL_nil1]; exact List.Pairwise.nil
  | id, b :: S, [] => by rw [colsL_nil2]; exact List.Pairwise.nil
  | id, b :: S, d :: D => by
    refine List.Pairwise.cons (fun x hx => ?_) (colsL_rise _ S D)
    exact ((colsL_ok (id + 1 + b.toNat) S D).2 x hx).1
def strc (s : List UInt8) : Value := .string (txt s)
theorem txt_size16 (B : List UInt8) : (txt B).size = B.length := rfl
theorem run_bytesT (B : List UInt8) (w : World) : ∃ A c w', (convert 9 22 (.string (txt B))).run Try.prog w = .ok (.slice A B.length c) w' ∧ Byt w' ⟨0, A, c, B⟩ ∧ Fr (fun _ => False) w w' := by
  have h := Lib.run_convert_string_bytes (P := Try.prog) w 9 22 5 (txt B) Try.underlying9 Try.underlying22 Try.underlying5
  have hs : (txt B).size = B.length := rfl
  rw [hs] at h
  refine ⟨_, _, _, h, ⟨⟨by simp, fun hn => ⟨_, rfl, fun j x hx => ?_⟩⟩, grownCap_ge _ _ _ _, fun ad e => ?_⟩, ⟨rfl, rfl, rfl, ?_, fun b hb _ => bytesWorld_at_old _ _ _ _ hb⟩⟩
  · have hj := (List.getElem?_eq_some_iff.1 hx).1
    rw [List.length_map] at hj
    have hadd : (⟨w.heap.size, 0, none⟩ : Addr).add j = ⟨w.heap.size, j, none⟩ := by unfold Addr.add; split <;> simp_all
    rw [hadd, bytesWorld_cell _ _ _ _ (by rw [hs]; exact hj), ← hx]
    simp [bytec, txt, List.getElem?_eq_getElem hj]
  · injection e with e
    subst e
    exact ⟨_, _, bytesWorld_at_new _ _ _⟩
  · rw [bytesWorld_size]; omega
set_option maxRecDepth 100000 in
set_option maxHeartbeats 6400000 in
theorem lcols_any (A : Option Addr) (n c : Nat) (S : List UInt8) (A' : Option Addr) (n' c' : Nat) (D : List (List UInt8)) (w : World) (hS : Rd w A n (S.map bytec)) (hD : Rd w A' n' (D.map strc)) (hn : n ≤ maxLen) (hn' : n' ≤ maxLen) (hm : ∀ d ∈ D, d.length ≤ maxLen) :
    Calls Try.prog 9 #[.slice A n c, .slice A' n' c'] w fun e w' => ∃ A1 c1 A2 c2 L, e = .returned (.tuple #[.slice A1 (colsW S D).length c1, .slice A2 (colsW S D).length c2]) ∧ L.map Cl.v = colsW S D ∧ Cols w' A1 (colsW S D).length L ∧ Prs ridc rtxt w' A2 (colsW S D).length (colsW S D) ∧ Fr (fun _ => False) w w' := by
  have hn : n ≤ 9223372036854775807 := hn
  have hn' : n' ≤ 9223372036854775807 := hn'
  have hln : S.length = n := by simpa using hS.1
  have hln' : D.length = n' := by simpa using hD.1
  have HS := Lib.hid hS
  have HD := Lib.hid hD
  have HLN := Lib.hid hln
  have HLD := Lib.hid hln'
  have HML := Lib.hid hm
  obtain ⟨base, hbase⟩ : ∃ base, base = w.heap.size := ⟨_, rfl⟩
  have HB := Lib.hid hbase
  clear hS hD hln hln' hm hbase
  go_enter Try.func9, Try.ntmps9
  go_wp2_with fail
  go_loopw [6, 7, 8, 9] (fun a b v i wr => ∃ (k id : Nat) (L : List Cl) (F : List Col) (A1 A2 : Option Addr) (c1 c2 : Nat), k ≤ n ∧ k ≤ n' ∧ k ≤ 60 ∧ id ≤ 256 * k ∧ i = .int .i64 (k : Int) ∧ v = .int .i64 (id : Int) ∧ a = .slice A1 k c1 ∧ b = .slice A2 k c2 ∧
    Hid (F.length = k) ∧ Hid (L.map Cl.v = F) ∧ Hid (colsW S D = F ++ colsL id ((S.take 60).drop k) (D.drop k)) ∧ Hid (wr.ownsRow base 45 2 (.slice A1 k c1) k (L.flatMap (pcells idc dac))) ∧ Hid (∀ x ∈ L, Byt wr x) ∧ Hid (wr.ownsRow base 30 2 (.slice A2 k c2) k (F.flatMap (pcells ridc rtxt))) ∧
    Hid (Fr (fun _ => False) w wr)) (fun _ _ _ i _ => n - (intOf i).toNat)
  case atStart => exact ⟨0, 0, [], [], none, none, 0, 0, Nat.zero_le _, Nat.zero_le _, Nat.zero_le _, Nat.zero_le _, rfl, rfl, rfl, rfl, rfl, rfl, (by rfl : colsW S D = [] ++ colsL 0 ((S.take 60).drop 0) (D.drop 0)), World.ownsRow_nil _ _ _ _, (fun x hx => by cases hx), World.ownsRow_nil _ _ _ _, Fr.refl _ _⟩
  case round =>
    obtain ⟨k, id, L, F, A1, A2, c1, c2, hk, hk', hk6, hid, rfl, rfl, rfl, rfl, HFL, HLF, HI, HO, HBY, HR, HF⟩ := hrel
    rename World => wr
    by_cases hlt : k < n ∧ k < n' ∧ k < 60
    · obtain ⟨hl1, hl2, hl3⟩ := hlt
      have t1 : decide ((k : Int) < (n : Int)) = true := decide_eq_true (by omega)
      have t1' : decide (k < n) = true := decide_eq_true hl1
      have t2 : decide ((k : Int) < (n' : Int)) = true := decide_eq_true (by omega)
      have t2' : decide (k < n') = true := decide_eq_true hl2
      have t3 : decide ((k : Int) < 60) = true := decide_eq_true (by omega)
      have t3' : decide (k < 60) = true := decide_eq_true hl3
      obtain ⟨ad, v, rfl, hv, hcell⟩ := (HS.out.fr HF.out (fun _ _ h => h)).at_ hl1
      obtain ⟨b, hb⟩ : ∃ b, S[k]? = some b := ⟨S[k]'(by have := HLN.out; omega), List.getElem?_eq_getElem _⟩
      obtain rfl : bytec b = v := by simpa [hb] using hv
      obtain ⟨ad', v', rfl, hv', hcell'⟩ := (HD.out.fr HF.out (fun _ _ h => h)).at_ hl2
      obtain ⟨d, hd⟩ : ∃ d, D[k]? = some d := ⟨D[k]'(by have := HLD.out; omega), List.getElem?_eq_getElem _⟩
      obtain rfl : strc d = v' := by simpa [hd] using hv'
      unfold bytec at hcell
      unfold strc at hcell'
      have hb256 := b.toNat_lt
      have hdl : d.length ≤ 9223372036854775807 := HML.out d (List.mem_of_getElem? hd)
      have hst : (S.take 60).drop k = b :: (S.take 60).drop (k + 1) := by
        have h : (S.take 60)[k]? = some b := by rw [List.getElem?_take, if_pos hl3]; exact hb
        obtain ⟨h1, h2⟩ := List.getElem?_eq_some_iff.1 h
        rw [List.drop_eq_getElem_cons h1, h2]
      have hdt : D.drop k = d :: D.drop (k + 1) := by
        obtain ⟨h1, h2⟩ := List.getElem?_eq_some_iff.1 hd
        rw [List.drop_eq_getElem_cons h1, h2]
      obtain ⟨x, hx⟩ : ∃ x, b.toNat = x := ⟨_, rfl⟩
      obtain ⟨id2, hid2⟩ : ∃ id2, id2 = id + 1 + x := ⟨_, rfl⟩
      obtain ⟨T, hT⟩ : ∃ T, T = clip d := ⟨_, rfl⟩
      have hI : colsW S D = F ++ (id2, T) :: colsL id2 ((S.take 60).drop (k + 1)) (D.drop (k + 1)) := by rw [HI.out, hst, hdt, hid2, hT, ← hx]; rfl
      rw [hx] at hcell hb256
      have r1 : IntKind.i64.wrap ((id : Int) + 1) = ((id + 1 : Nat) : Int) := by rw [IntKind.wrap_i64]; omega
      have r2 : IntKind.i64.wrap (x : Int) = (x : Int) := by rw [IntKind.wrap_i64]; omega
      have r3 : IntKind.i64.wrap (((id + 1 : Nat) : Int) + (x : Int)) = (id2 : Int) := by rw [IntKind.wrap_i64]; omega
      have r3' : IntKind.i64.wrap ((id : Int) + 1 + (x : Int)) = (id2 : Int) := by rw [IntKind.wrap_i64]; omega
      have hid2l : id2 ≤ 256 * (k + 1) := by omega
      have HI2 := Lib.hid hI
      have HFk := Lib.hid HFL.out
      obtain ⟨l, hl⟩ : ∃ l, l = d.length := ⟨_, rfl⟩
      have hsz : (txt d).size = l := by rw [hl]; rfl
      obtain ⟨XO, hXO⟩ : ∃ XO, XO = L.flatMap (pcells idc dac) := ⟨_, rfl⟩
      obtain ⟨XR, hXR⟩ : ∃ XR, XR = F.flatMap (pcells ridc rtxt) := ⟨_, rfl⟩
      rw [← hXO] at HO
      rw [← hXR] at HR
      have HXO := Lib.hid hXO
      have HXR := Lib.hid hXR
      obtain ⟨N1, hN1⟩ : ∃ N1, N1 = k + 1 := ⟨_, rfl⟩
      have hN1l : N1 ≤ 61 := by omega
      have HN1 := Lib.hid hN1
      obtain ⟨A3, c3, w3, hcv, hby3, hf3⟩ := run_bytesT T wr
      obtain ⟨z, hz⟩ : ∃ z, T.length = z := ⟨_, rfl⟩
      rw [hz] at hcv
      have HZ := Lib.hid hz
      have HBY3 := Lib.hid hby3
      have HF3 := Lib.hid hf3
      have HO3 := Lib.hid (hf3.own HO.out (fun _ _ h => h))
      have HR3 := Lib.hid (hf3.own HR.out (fun _ _ h => h))
      have HBW : Hid (base ≤ w3.heap.size) := Lib.hid (by have h1 := HB.out; have h2 := HF.out.size; have h3 := hf3.size; omega)
      have rest : ∀ (w6 w7 : World) (A6 A7 : Option Addr) (c6 c7 : Nat), w6.ownsRow base 45 2 (.slice A6 N1 c6) N1 (XO ++ [.int .i64 (id2 : Int), .slice A3 z c3]) →
          Fr (fun k_1 => (Value.slice A1 k c1).ownBlock = some k_1) (w3.alloc (.cells #[.int .i64 (id2 : Int), .slice A3 z c3] 45)) w6 →
          w7.ownsRow base 30 2 (.slice A7 N1 c7) N1 (XR ++ [.int .i64 (id2 : Int), .string (txt T)]) → Fr (fun k_1 => (Value.slice A2 k c2).ownBlock = some k_1) (w6.alloc (.cells #[.int .i64 (id2 : Int), .string (txt T)] 30)) w7 →
          Hid (w7.ownsRow base 45 2 (.slice A6 N1 c6) N1 ((L ++ [(⟨id2, A3, c3, T⟩ : Cl)]).flatMap (pcells idc dac))) ∧ Hid (∀ x ∈ L ++ [(⟨id2, A3, c3, T⟩ : Cl)], Byt w7 x) ∧ Hid (w7.ownsRow base 30 2 (.slice A7 N1 c7) N1 ((F ++ [(id2, T)]).flatMap (pcells ridc rtxt))) ∧ Hid (Fr (fun _ => False) w w7) := by
        intro w6 w7 A6 A7 c6 c7 h1 h2 h3 h4
        have hfa : Fr (fun _ => False) w3 (w3.alloc (.cells #[.int .i64 (id2 : Int), .slice A3 z c3] 45)) := (Fr.refl _ _).alloc _
        have hfb : Fr (fun _ => False) w6 (w6.alloc (.cells #[.int .i64 (id2 : Int), .string (txt T)] 30)) := (Fr.refl _ _).alloc _
        have hoa := hfa.own HO3.out (fun _ _ h => h)
        have hra := hfa.own HR3.out (fun _ _ h => h)
        have hr6 := h2.own hra (fun b hb e => own_two hoa hra (by decide) e hb)
        have hrb := hfb.own hr6 (fun _ _ h => h)
        have hlo : ∀ b, (Value.slice A1 k c1).ownBlock = some b → base ≤ b := fun b hb => (HO3.out.lt b hb).1
        have hlr : ∀ b, (Value.slice A2 k c2).ownBlock = some b → base ≤ b := fun b hb => (HR3.out.lt b hb).1
        refine ⟨Lib.hid ?_, Lib.hid ?_, Lib.hid ?_, Lib.hid ?_⟩
        · have h5 := h4.own (hfb.own h1 (fun _ _ h => h)) (fun b hb e => own_two hrb (hfb.own h1 (fun _ _ h => h)) (by decide) e hb)
          rw [List.flatMap_append, ← HXO.out]
          show w7.ownsRow base _ 2 _ N1 (XO ++ [.int .i64 (id2 : Int), .slice A3 T.length c3])
          rw [HZ.out]
          exact h5
        · intro y hy
          have hy3 : Byt w3 y := by
            rcases List.mem_append.1 hy with h | h
            · exact (HBY.out y h).fr HF3.out (fun _ _ _ _ h => h)
            · simp at h
              subst h
              exact HBY3.out
          exact (((hy3.fr hfa (fun _ _ _ _ h => h)).fr h2 (own_unb hoa (by decide))).fr hfb (fun _ _ _ _ h => h)).fr h4 (own_unb hrb (by decide))
        · rw [List.flatMap_append, ← HXR.out]
          exact h3
        · exact ((((HF.out.trans HF3.out (fun _ _ h => h)).trans hfa (fun _ _ h => h)).trans h2 (fun b hb h => by have h7 := hlo _ h; have := HB.out; omega)).trans hfb (fun _ _ h => h)).trans h4 (fun b hb h => by have h7 := hlr _ h; have := HB.out; omega)
      have HREST := Lib.hid rest
      clear hv hb hv' hd hst hdt hx hid2 hI hdl hXO hXR hN1 hby3 hf3 hz rest HI HFL
      by_cases hc : 200 < l
      · have hT2 : T = [63] := by rw [hT]; unfold clip; rw [if_pos (by omega)]
        have t4 : decide ((200 : Int) < (l : Int)) = true := decide_eq_true (by omega)
        have t4' : decide (200 < l) = true := decide_eq_true hc
        have hcv2 : (convert 9 22 (.string ⟨#[63]⟩)).run Try.prog wr = .ok (.slice A3 z c3) w3 := by rw [hT2] at hcv; exact hcv
        have HT2 : Hid (txt T = ⟨#[63]⟩) := Lib.hid (by rw [hT2]; rfl)
        clear hT hc hl hcv hT2
        go_upto_region 12 with (at_builtin; refine wpList_appS2 colTS _ rfl _ _ rfl base _ _ _ rfl (HO3.out.alloc _) _ _ [.int .i64 (id2 : Int), .slice A3 z c3] rfl rfl (new_at (by simp) [.int .i64 (id2 : Int), .slice A3 z c3] _) (by intro u hu; simp at hu; rcases hu with rfl | rfl <;> rfl) N1 HN1.out (by unfold maxLen; omega) (by omega) (by have h1 := HBW.out; simp; omega) ?_)
        intro A6 c6 w6 hown6 _ hfr6 _
        have HOW6 := Lib.hid hown6
        have HFR6 := Lib.hid hfr6
        have hr6 : w6.ownsRow base 30 2 (.slice A2 k c2) k XR := hfr6.own (HR3.out.alloc _) (fun b hb e => own_two HO3.out HR3.out (by decide) e hb)
        have HR6 := Lib.hid hr6
        have HBW6 : Hid (base ≤ w6.heap.size) := Lib.hid (by have h1 := HBW.out; have h2 := hfr6.size; simp at h2; omega)
        clear hown6 hfr6 hr6 hcell hcell'
        go_wp2_with (at_builtin; refine wpList_appS2 rcTS _ rfl _ _ rfl base _ _ _ rfl (HR6.out.alloc _) _ _ [.int .i64 (id2 : Int), .string ⟨#[63]⟩] rfl rfl (new_at (by simp) [.int .i64 (id2 : Int), .string ⟨#[63]⟩] _) (by intro u hu; simp at hu; rcases hu with rfl | rfl <;> rfl) N1 HN1.out (by unfold maxLen; omega) (by omega) (by have h1 := HBW6.out; simp; omega) ?_)
        intro A7 c7 w7 hown7 _ hfr7 _
        obtain ⟨HO7, HB7, HR7, HF7⟩ := HREST.out w6 w7 A6 A7 c6 c7 HOW6.out HFR6.out (by rw [HT2.out]; exact hown7) (by rw [HT2.out]; exact hfr7)
        clear hown7 hfr7
        have hkk : N1 = k + 1 := HN1.out
        go_wp2_with fail
        go_roundw
        case rel =>
          refine ⟨k + 1, id2, L ++ [⟨id2, A3, c3, T⟩], F ++ [(id2, T)], A6, A7, c6, c7, by omega, by omega, by omega, hid2l, by go_num, by rfl, by rw [hkk], by rw [hkk], ?_, ?_, ?_, by rw [← hkk]; exact HO7, HB7, by rw [← hkk]; exact HR7, HF7⟩
          · exact Lib.hid (by rw [List.length_append, HFk.out]; rfl)
          · exact Lib.hid (by rw [List.map_append, HLF.out]; rfl)
          · exact Lib.hid (by rw [HI2.out]; simp)
        case measure => simp [intOf]; omega
      · have hT2 : T = d := by rw [hT]; unfold clip; rw [if_neg (by omega)]
        have t4 : decide ((200 : Int) < (l : Int)) = false := decide_eq_false (by omega)
        have t4' : decide (200 < l) = false := decide_eq_false hc
        have hcv2 : (convert 9 22 (.string (txt d))).run Try.prog wr = .ok (.slice A3 z c3) w3 := by rw [hT2] at hcv; exact hcv
        have HT2 : Hid (txt T = txt d) := Lib.hid (by rw [hT2])
        clear hT hc hl hcv hT2
        go_upto_region 12 with (at_builtin; refine wpList_appS2 colTS _ rfl _ _ rfl base _ _ _ rfl (HO3.out.alloc _) _ _ [.int .i64 (id2 : Int), .slice A3 z c3] rfl rfl (new_at (by simp) [.int .i64 (id2 : Int), .slice A3 z c3] _) (by intro u hu; simp at hu; rcases hu with rfl | rfl <;> rfl) N1 HN1.out (by unfold maxLen; omega) (by omega) (by have h1 := HBW.out; simp; omega) ?_)
        intro A6 c6 w6 hown6 _ hfr6 _
        have HOW6 := Lib.hid hown6
        have HFR6 := Lib.hid hfr6
        have hr6 : w6.ownsRow base 30 2 (.slice A2 k c2) k XR := hfr6.own (HR3.out.alloc _) (fun b hb e => own_two HO3.out HR3.out (by decide) e hb)
        have HR6 := Lib.hid hr6
        have HBW6 : Hid (base ≤ w6.heap.size) := Lib.hid (by have h1 := HBW.out; have h2 := hfr6.size; simp at h2; omega)
        clear hown6 hfr6 hr6 hcell hcell'
        go_wp2_with (at_builtin; refine wpList_appS2 rcTS _ rfl _ _ rfl base _ _ _ rfl (HR6.out.alloc _) _ _ [.int .i64 (id2 : Int), .string (txt d)] rfl rfl (new_at (by simp) [.int .i64 (id2 : Int), .string (txt d)] _) (by intro u hu; simp at hu; rcases hu with rfl | rfl <;> rfl) N1 HN1.out (by unfold maxLen; omega) (by omega) (by have h1 := HBW6.out; simp; omega) ?_)
        intro A7 c7 w7 hown7 _ hfr7 _
        obtain ⟨HO7, HB7, HR7, HF7⟩ := HREST.out w6 w7 A6 A7 c6 c7 HOW6.out HFR6.out (by rw [HT2.out]; exact hown7) (by rw [HT2.out]; exact hfr7)
        clear hown7 hfr7
        have hkk : N1 = k + 1 := HN1.out
        go_wp2_with fail
        go_roundw
        case rel =>
          refine ⟨k + 1, id2, L ++ [⟨id2, A3, c3, T⟩], F ++ [(id2, T)], A6, A7, c6, c7, by omega, by omega, by omega, hid2l, by go_num, by rfl, by rw [hkk], by rw [hkk], ?_, ?_, ?_, by rw [← hkk]; exact HO7, HB7, by rw [← hkk]; exact HR7, HF7⟩
          · exact Lib.hid (by rw [List.length_append, HFk.out]; rfl)
          · exact Lib.hid (by rw [List.map_append, HLF.out]; rfl)
          · exact Lib.hid (by rw [HI2.out]; simp)
        case measure => simp [intOf]; omega
    · have hE : colsW S D = F := by
        rw [HI.out]
        have h1 := HLN.out
        have h2 := HLD.out
        by_cases hl1 : k < n
        · by_cases hl2 : k < n'
          · rw [List.drop_of_length_le (l := S.take 60) (by rw [List.length_take]; omega), colsL_nil1, List.append_nil]
          · rw [List.drop_of_length_le (l := D) (by omega), colsL_nil2, List.append_nil]
        · rw [List.drop_of_length_le (l := S.take 60) (by rw [List.length_take]; omega), colsL_nil1, List.append_nil]
      have HE := Lib.hid hE
      have hfin : ∃ L, L.map Cl.v = F ∧ Cols wr A1 k L ∧ Prs ridc rtxt wr A2 k F := by
        have hLl : L.length = k := by have h1 := HFL.out; rw [← HLF.out] at h1; simpa using h1
        refine ⟨L, HLF.out, ⟨?_, HBY.out⟩, ?_⟩
        · have h := OwnP.prs (p := idc) (q := dac) (T := 45) (w := wr) (base := base) (c := c1) (A := A1) (L := L) (by unfold OwnP; rw [hLl]; exact HO.out)
          rw [hLl] at h
          exact h
        · have h := OwnP.prs (p := ridc) (q := rtxt) (T := 30) (w := wr) (base := base) (c := c2) (A := A2) (L := F) (by unfold OwnP; rw [HFL.out]; exact HR.out)
          rw [HFL.out] at h
          exact h
      have HFIN := Lib.hid hfin
      have hend : Hid (∀ w', w' = wr → ∃ A1' c1' A2' c2' L, Ending.returned (.tuple #[.slice A1 k c1, .slice A2 k c2]) = .returned (.tuple #[.slice A1' (colsW S D).length c1', .slice A2' (colsW S D).length c2']) ∧ L.map Cl.v = colsW S D ∧ Cols w' A1' (colsW S D).length L ∧ Prs ridc rtxt w' A2' (colsW S D).length (colsW S D) ∧ Fr (fun _ => False) w w') := Lib.hid (by
        rintro w' rfl
        obtain ⟨L, h1, h2, h3⟩ := HFIN.out
        rw [HE.out, HFL.out]
        exact ⟨A1, c1, A2, c2, L, rfl, h1, h2, h3, HF.out⟩)
      clear hE hfin
      by_cases hl1 : k < n
      · have t1 : decide ((k : Int) < (n : Int)) = true := decide_eq_true (by omega)
        have t1' : decide (k < n) = true := decide_eq_true hl1
        by_cases hl2 : k < n'
        · have t2 : decide ((k : Int) < (n' : Int)) = true := decide_eq_true (by omega)
          have t2' : decide (k < n') = true := decide_eq_true hl2
          have t3 : decide ((k : Int) < 60) = false := decide_eq_false (by omega)
          have t3' : decide (k < 60) = false := decide_eq_false (by omega)
          clear hlt
          go_wp2_with fail
          refine bodyPost_ret (v := .tuple #[.slice A1 k c1, .slice A2 k c2]) (by simp [results, Try.results9, go_sem]) rfl ?_
          exact hend.out _ rfl
        · have t2 : decide ((k : Int) < (n' : Int)) = false := decide_eq_false (by omega)
          have t2' : decide (k < n') = false := decide_eq_false hl2
          clear hlt
          go_wp2_with fail
          refine bodyPost_ret (v := .tuple #[.slice A1 k c1, .slice A2 k c2]) (by simp [results, Try.results9, go_sem]) rfl ?_
          exact hend.out _ rfl
      · have t1 : decide ((k : Int) < (n : Int)) = false := decide_eq_false (by omega)
        have t1' : decide (k < n) = false := decide_eq_false hl1
        clear hlt
        go_wp2_with fail
        refine bodyPost_ret (v := .tuple #[.slice A1 k c1, .slice A2 k c2]) (by simp [results, Try.results9, go_sem]) rfl ?_
        exact hend.out _ rfl
end Go.Proofs.Ytfgjneodhmfknaa
