/-
  What layer 3's laws want of the program: the contracts of Next, Where, Valid, as one word; awake out of them.
  The contracts of the program's utf: kind, isRest, isCharacter, Next, Where, Valid.
-/
import Derived.Test.YtbnkahjmeobblaaZm13
import Derived.Test.YtbnkahjmeobblaaZm12
namespace Go.Proofs.Ytbnkahjmeobblaa
open Go.RowKit UtfM Mem Go.Lib

def strc (B : List UInt8) : Value := .string (txt B)
def okAll (l : List (List UInt8)) : Bool := l.all fun B => wh B == B.length
structure UtfP : Prop where
  next : ∀ (B : List UInt8) (w : World), B.length ≤ 1000000 → Calls Try.prog 65 #[.string (txt B)] w fun e w' => e = .returned (.int .i64 (nx B : Int)) ∧ Fr (fun _ => False) w w'
  where_ : ∀ (B : List UInt8) (w : World), B.length ≤ 1000000 → Calls Try.prog 47 #[.string (txt B)] w fun e w' => e = .returned (.int .i64 (wh B : Int)) ∧ Fr (fun _ => False) w w'
  valid : ∀ (A : Option Addr) (n c : Nat) (l : List (List UInt8)) (w : World), Rd w A n (l.map strc) → n ≤ c → n ≤ 1000 → (∀ B ∈ l, B.length ≤ 1000000) →
    Calls Try.prog 23 #[.slice A n c] w fun e w' => e = .returned (.bool (okAll l)) ∧ Fr (fun _ => False) w w'

theorem valid1 (K : UtfP) (B : List UInt8) (w : World) {k : Nat} (hk : k = w.heap.size) (hl : B.length ≤ 1000000) (v : Bool) (hv : (wh B == B.length) = v) :
    Calls Try.prog 23 #[.slice (some ⟨k, 0, none⟩) 1 1] (w.alloc (.cells #[.string (txt B)] 9)) fun e w' => e = .returned (.bool v) ∧ Fr (fun _ => False) w w' := by
  refine (K.valid (some ⟨k, 0, none⟩) 1 1 [B] _ (Rd.one' hk _ _) (Nat.le_refl _) (by omega) (by simpa using hl)).mono ?_
  rintro e w' ⟨rfl, hf⟩
  refine ⟨?_, ((Fr.refl _ _).alloc _).trans hf (fun _ _ h => h)⟩
  simp [okAll, hv]
theorem valid2 (K : UtfP) (B C : List UInt8) (w : World) {k : Nat} (hk : k = w.heap.size) (hl : B.length ≤ 1000000) (hl2 : C.length ≤ 1000000) (v u : Bool) (hv : (wh B == B.length) = v) (hu : (wh C == C.length) = u) :
    Calls Try.prog 23 #[.slice (some ⟨k, 0, none⟩) 2 2] (w.alloc (.cells #[.string (txt B), .string (txt C)] 9)) fun e w' => e = .returned (.bool (v && u)) ∧ Fr (fun _ => False) w w' := by
  refine (K.valid (some ⟨k, 0, none⟩) 2 2 [B, C] _ (Rd.cells hk [.string (txt B), .string (txt C)] _) (Nat.le_refl _) (by omega) (by simp [hl, hl2])).mono ?_
  rintro e w' ⟨rfl, hf⟩
  refine ⟨?_, ((Fr.refl _ _).alloc _).trans hf (fun _ _ h => h)⟩
  simp [okAll, hv, hu]
theorem valid0 (K : UtfP) (w : World) :
    Calls Try.prog 23 #[.slice none 0 0] w fun e w' => e = .returned (.bool true) ∧ Fr (fun _ => False) w w' := by
  refine (K.valid none 0 0 [] w (Rd.nil _ _) (Nat.le_refl _) (by omega) (by simp)).mono ?_
  rintro e w' ⟨rfl, hf⟩
  exact ⟨rfl, hf⟩

theorem wh_a : wh [97, 255] = 1 := by
  rw [wh_pos (by decide)]
  show 1 + wh [255] = 1
  rw [wh_zero (by decide)]
theorem wh_one : wh [97] = 1 := by
  rw [wh_pos (by decide)]
  show 1 + wh [] = 1
  rw [wh_nil]

end Go.Proofs.Ytbnkahjmeobblaa
namespace Go.Proofs.Ytbnkahjmeobblaa
open Go.RowKit UtfM Mem Go.Lib

set_option maxRecDepth 100000 in
theorem kind_any (a : UInt8) (w : World) :
    Calls Try.prog 78 #[.int .u8 (a.toNat : Int)] w fun e w' => e = .returned (.tuple #[.int .i64 (kc a.toNat : Int), .int .u8 (km a.toNat : Int), .int .i64 (kl a.toNat : Int)]) ∧ w = w' := by
  have ha := a.toNat_lt
  have hk := kind_of a.toNat
  rcases hk with ⟨h1, e1, e2, e3⟩ | ⟨h0, h1, e1, e2, e3⟩ | ⟨h0, h1, e1, e2, e3⟩ | ⟨h0, h1, e1, e2, e3⟩ | ⟨h0, h1, e1, e2, e3⟩ | ⟨h0, e1, e2, e3⟩
  all_goals
    rw [e1, e2, e3]
    clear e1 e2 e3
    go_enter Try.func78, Try.ntmps78
    go_wp2
    first
      | exact bodyPost_ret (v := .tuple #[.int .i64 1, .int .u8 0, .int .i64 0]) (by simp [results, Try.results78, go_sem]) rfl ⟨rfl, rfl⟩
      | exact bodyPost_ret (v := .tuple #[.int .i64 0, .int .u8 0, .int .i64 0]) (by simp [results, Try.results78, go_sem]) rfl ⟨rfl, rfl⟩
      | exact bodyPost_ret (v := .tuple #[.int .i64 2, .int .u8 192, .int .i64 128]) (by simp [results, Try.results78, go_sem]) rfl ⟨rfl, rfl⟩
      | exact bodyPost_ret (v := .tuple #[.int .i64 3, .int .u8 224, .int .i64 2048]) (by simp [results, Try.results78, go_sem]) rfl ⟨rfl, rfl⟩
      | exact bodyPost_ret (v := .tuple #[.int .i64 4, .int .u8 240, .int .i64 65536]) (by simp [results, Try.results78, go_sem]) rfl ⟨rfl, rfl⟩

set_option maxRecDepth 100000 in
theorem isRest_any (b : UInt8) (w : World) :
    Calls Try.prog 79 #[.int .u8 (b.toNat : Int)] w fun e w' => e = .returned (.bool (contB b)) ∧ w = w' := by
  have hb := b.toNat_lt
  rcases (show b.toNat < 128 ∨ 128 ≤ b.toNat ∧ b.toNat < 192 ∨ 192 ≤ b.toNat by omega) with h | ⟨h, h'⟩ | h
  · have e : contB b = false := by simp [contB]; omega
    rw [e]
    clear e
    have t1 : decide (128 ≤ (b.toNat : Int)) = false := by simp; omega
    go_enter Try.func79, Try.ntmps79
    go_wp2
    go_ret
    exact ⟨rfl, rfl⟩
  · have e : contB b = true := by simp [contB]; omega
    rw [e]
    clear e
    have t1 : decide (128 ≤ (b.toNat : Int)) = true := by simp; omega
    have t2 : decide ((b.toNat : Int) < 192) = true := by simp; omega
    go_enter Try.func79, Try.ntmps79
    go_wp2
    go_ret
    exact ⟨rfl, rfl⟩
  · have e : contB b = false := by simp [contB]; omega
    rw [e]
    clear e
    have t1 : decide (128 ≤ (b.toNat : Int)) = true := by simp; omega
    have t2 : decide ((b.toNat : Int) < 192) = false := by simp; omega
    go_enter Try.func79, Try.ntmps79
    go_wp2
    go_ret
    exact ⟨rfl, rfl⟩

set_option maxRecDepth 100000 in
theorem isCharacter_any (n : Nat) (w : World) (hn : n ≤ 100000000) :
    Calls Try.prog 80 #[.int .i64 (n : Int)] w fun e w' => e = .returned (.bool (isch n)) ∧ w = w' := by
  rcases (show n < 55296 ∨ (55296 ≤ n ∧ n ≤ 57343) ∨ (57343 < n ∧ n ≤ 1114111) ∨ 1114111 < n by omega) with h | ⟨h, h'⟩ | ⟨h, h'⟩ | h
  · have e : isch n = true := by simp [isch]; omega
    rw [e]
    clear e
    have t1 : decide ((n : Int) ≤ 1114111) = true := by simp; omega
    have t2 : decide ((n : Int) < 55296) = true := by simp; omega
    go_enter Try.func80, Try.ntmps80
    go_wp2
    go_ret
    exact ⟨rfl, rfl⟩
  · have e : isch n = false := by simp [isch]; omega
    rw [e]
    clear e
    have t1 : decide ((n : Int) ≤ 1114111) = true := by simp; omega
    have t2 : decide ((n : Int) < 55296) = false := by simp; omega
    have t3 : decide (57343 < (n : Int)) = false := by simp; omega
    go_enter Try.func80, Try.ntmps80
    go_wp2
    go_ret
    exact ⟨rfl, rfl⟩
  · have e : isch n = true := by simp [isch]; omega
    rw [e]
    clear e
    have t1 : decide ((n : Int) ≤ 1114111) = true := by simp; omega
    have t2 : decide ((n : Int) < 55296) = false := by simp; omega
    have t3 : decide (57343 < (n : Int)) = true := by simp; omega
    go_enter Try.func80, Try.ntmps80
    go_wp2
    go_ret
    exact ⟨rfl, rfl⟩
  · have e : isch n = false := by simp [isch]; omega
    rw [e]
    clear e
    have t1 : decide ((n : Int) ≤ 1114111) = false := by simp; omega
    go_enter Try.func80, Try.ntmps80
    go_wp2
    go_ret
    exact ⟨rfl, rfl⟩

theorem getD_txt {B : List UInt8} {i : Nat} (h : i < (txt B).size) : B.getD i 0 = (txt B)[i] := by
  have hl : i < B.length := by rw [txt_sz] at h; exact h
  rw [txt_get, List.getD_eq_getElem?_getD, List.getElem?_eq_getElem hl]
  rfl

set_option maxRecDepth 100000 in
set_option maxHeartbeats 1600000 in
theorem pNext_any (B : List UInt8) (w : World) (hl : B.length ≤ 1000000) :
    Calls Try.prog 65 #[.string (txt B)] w fun e w' => e = .returned (.int .i64 (nx B : Int)) ∧ w = w' := by
  cases B with
  | nil =>
    have e : nx [] = 0 := rfl
    rw [e]
    clear e
    have t : (txt []).toList.isEmpty = true := by rw [show (txt []).toList = [] from ByteArray.toList_mk _]; rfl
    go_enter Try.func65, Try.ntmps65
    go_wp2
    go_ret
    exact ⟨rfl, rfl⟩
  | cons a r =>
    obtain ⟨n, hn⟩ : ∃ n, n = r.length + 1 := ⟨_, rfl⟩
    have hsz : (txt (a :: r)).size = n := by rw [txt_sz, hn]; rfl
    obtain ⟨B, hB⟩ : ∃ B, B = a :: r := ⟨_, rfl⟩
    have hl : n ≤ 1000000 := by rw [hn]; exact hl
    rw [← hB] at hsz ⊢
    have hn1 : 1 ≤ n := by omega
    have hs0 : 0 < (txt B).size := by omega
    have ha : (txt B)[0]'hs0 = a := by rw [← getD_txt hs0, hB]; rfl
    have hne : (txt B).toList.isEmpty = false := by rw [hB, show (txt (a :: r)).toList = a :: r from ByteArray.toList_mk _]; rfl
    obtain ⟨c, hc⟩ : ∃ c, c = kc a.toNat := ⟨_, rfl⟩
    obtain ⟨m, hm⟩ : ∃ m, m = km a.toNat := ⟨_, rfl⟩
    obtain ⟨l, hlst⟩ : ∃ l, l = kl a.toNat := ⟨_, rfl⟩
    have hkind := fun w => kind_any a w
    rw [← hc, ← hm, ← hlst] at hkind
    have hma : m ≤ a.toNat := by rw [hm]; exact km_le _
    have hc4 : c ≤ 4 := by rw [hc]; exact kc_le _
    have hl6 : l ≤ 65536 := by rw [hlst]; exact kl_le _
    have ha256 := a.toNat_lt
    have h0 : acc B 0 = a.toNat - m := by rw [hB, hm]; rfl
    have HK := Lib.hid hkind
    have HSZ := Lib.hid hsz
    have HN := Lib.hid hn
    have HB := Lib.hid hB
    have HC := Lib.hid hc
    have HM := Lib.hid hm
    have HL := Lib.hid hlst
    have H0 := Lib.hid h0
    clear hkind hsz hn hB hc hm hlst h0
    by_cases hc0 : c = 0 ∨ n < c
    · have hz : nx B = 0 := by
        rw [HB.out]
        rcases hc0 with h | h
        · exact nx_k0 a r (by rw [← HC.out]; exact h)
        · exact nx_short a r (by rw [← HC.out, ← HN.out]; exact h)
      rw [hz]
      clear hz
      have hszI : ((txt B).size : Int) = (n : Int) := by rw [HSZ.out]
      have t : ((c : Int) == 0) = true ∨ ((c : Int) == 0) = false ∧ (n : Int) < (c : Int) := by
        rcases hc0 with h | h
        · left; simp; omega
        · by_cases h0 : c = 0
          · left; simp; omega
          · right; exact ⟨by simp; omega, by omega⟩
      rcases t with t | ⟨t, t'⟩
      · clear hc0 hszI
        go_enter Try.func65, Try.ntmps65
        go_wp2_with fail
        refine (HK.out _).mono ?_
        rintro e w1 ⟨rfl, rfl⟩
        go_wp2
        go_ret
        exact ⟨rfl, rfl⟩
      · have t2 : ((txt B).size : Int) < (c : Int) := by rw [hszI]; exact t'
        clear hc0 hszI t'
        go_enter Try.func65, Try.ntmps65
        go_wp2_with fail
        refine (HK.out _).mono ?_
        rintro e w1 ⟨rfl, rfl⟩
        go_wp2
        go_ret
        exact ⟨rfl, rfl⟩
    · have hc1 : 1 ≤ c := by omega
      have hcn : c ≤ n := by omega
      have t : ((c : Int) == 0) = false := by simp; omega
      have t2 : decide ((txt B).size < c) = false := by rw [HSZ.out]; simp; omega
      clear hc0
      go_enter Try.func65, Try.ntmps65
      go_wp2_with fail
      refine (HK.out _).mono ?_
      rintro e w1 ⟨rfl, rfl⟩
      go_wp2_with fail
      go_loop [6, 7] (fun x i => ∃ k z : Nat, 1 ≤ k ∧ k ≤ c ∧ i = .int .i64 k ∧ x = .int .i64 z ∧ z ≤ 100000000 ∧ Hid (z = acc B (k - 1)) ∧ Hid (∀ j, 1 ≤ j → j < k → contB (B.getD j 0) = true)) (fun _ i => 5 - (intOf i).toNat)
      case atStart => exact ⟨1, a.toNat - m, by omega, hc1, rfl, by congr 1; omega, by omega, H0.out.symm, fun j h1 h2 => by omega⟩
      case round =>
        obtain ⟨k, z, hk1, hkc, rfl, rfl, hz, Hz, Hc⟩ := hrel
        by_cases hlt : k < c
        · have hks : k < (txt B).size := by rw [HSZ.out]; omega
          have hkI : (k : Int) < ((txt B).size : Int) := by omega
          obtain ⟨b, hb⟩ : ∃ b, (txt B)[k]'hks = b := ⟨_, rfl⟩
          have hb256 := b.toNat_lt
          have hgb : B.getD k 0 = b := by rw [getD_txt hks, hb]
          have hacc : acc B k = z * 64 + (b.toNat - 128) := by
            obtain ⟨j, rfl⟩ : ∃ j, k = j + 1 := ⟨k - 1, by omega⟩
            show acc B j * 64 + ((B.getD (j + 1) 0).toNat - 128) = _
            rw [hgb, Hz.out]; rfl
          have hbd := acc_bd B k (by omega)
          have HG := Lib.hid hgb
          have HACC := Lib.hid hacc
          have HBD := Lib.hid hbd
          clear hgb hacc hbd
          cases hcb : contB b with
          | true =>
            have h128 : 128 ≤ b.toNat := by have := (contB_iff b).1 hcb; unfold cont at this; omega
            have h128I : (128 : Int) ≤ (b.toNat : Int) := by omega
            have hrest := fun w => isRest_any b w
            rw [hcb] at hrest
            have HR := Lib.hid hrest
            have HCB := Lib.hid hcb
            clear hrest hcb
            go_wp2_with fail
            refine (HR.out _).mono ?_
            rintro e w1 ⟨rfl, rfl⟩
            go_wp2
            go_round
            case rel =>
              refine ⟨k + 1, z * 64 + (b.toNat - 128), by omega, by omega, by go_num, by congr 1; omega, by rw [← HACC.out]; exact HBD.out, HACC.out.symm, fun j h1 h2 => ?_⟩
              by_cases hj : j = k
              · rw [hj, HG.out]; exact HCB.out
              · exact Hc.out j h1 (by omega)
            case measure => simp [intOf] <;> omega
          | false =>
            have hz0 : nx B = 0 := by
              rw [HB.out]
              refine nx_stop a r k hk1 (by rw [← HC.out]; exact hlt) (by rw [← HC.out, ← HN.out]; exact hcn) ?_
              rw [← HB.out, HG.out]; exact hcb
            have HZ0 := Lib.hid hz0
            have hrest := fun w => isRest_any b w
            rw [hcb] at hrest
            have HR := Lib.hid hrest
            clear hrest hcb hz0
            go_wp2_with fail
            refine (HR.out _).mono ?_
            rintro e w1 ⟨rfl, rfl⟩
            go_wp2
            go_ret
            rw [HZ0.out]
            exact ⟨rfl, rfl⟩
        · obtain rfl : k = c := by omega
          have hend := nx_end a r k HC.out (by omega) (by rw [← HN.out]; exact hcn) (by rw [← HB.out]; exact Hc.out)
          rw [← HB.out, ← HL.out, ← Hz.out] at hend
          have hch := fun w => isCharacter_any z w hz
          by_cases h1 : z < l
          · rw [if_neg (by omega)] at hend
            have HE := Lib.hid hend
            clear hend hch
            go_wp2
            go_ret
            rw [HE.out]
            exact ⟨rfl, rfl⟩
          · cases hi : isch z with
            | true =>
              rw [if_pos ⟨by omega, hi⟩] at hend
              rw [hi] at hch
              have HE := Lib.hid hend
              have HCH := Lib.hid hch
              clear hend hch hi
              go_wp2_with fail
              refine (HCH.out _).mono ?_
              rintro e w1 ⟨rfl, rfl⟩
              go_wp2
              go_ret
              rw [HE.out]
              exact ⟨rfl, rfl⟩
            | false =>
              rw [if_neg (by rw [hi]; simp)] at hend
              rw [hi] at hch
              have HE := Lib.hid hend
              have HCH := Lib.hid hch
              clear hend hch hi
              go_wp2_with fail
              refine (HCH.out _).mono ?_
              rintro e w1 ⟨rfl, rfl⟩
              go_wp2
              go_ret
              rw [HE.out]
              exact ⟨rfl, rfl⟩

set_option maxRecDepth 100000 in
set_option maxHeartbeats 800000 in
theorem pWhere_any (B : List UInt8) (w : World) (hl : B.length ≤ 1000000) :
    Calls Try.prog 47 #[.string (txt B)] w fun e w' => e = .returned (.int .i64 (wh B : Int)) ∧ w = w' := by
  have hsz := txt_sz B
  obtain ⟨n, hn⟩ : ∃ n, n = B.length := ⟨_, rfl⟩
  rw [← hn] at hsz hl
  have HSZ := Lib.hid hsz
  have HN := Lib.hid hn
  clear hn hsz
  go_enter Try.func47, Try.ntmps47
  go_wp2
  go_loop [3] (fun i => ∃ k : Nat, k ≤ n ∧ i = .int .i64 k ∧ Hid (k + wh (B.drop k) = wh B)) (fun i => n - (intOf i).toNat)
  case atStart => exact ⟨0, by omega, rfl, by show _ = _; simp⟩
  case round =>
    obtain ⟨k, hk, rfl, Hk⟩ := hrel
    have hszI : (k : Int) ≤ ((txt B).size : Int) := by rw [HSZ.out]; omega
    have hkI : (0 : Int) ≤ (k : Int) := by omega
    obtain ⟨T, hT⟩ : ∃ T, (txt B).extract k (txt B).size = T := ⟨_, rfl⟩
    have hT2 : T = txt (B.drop k) := by rw [← hT, ext_from]
    obtain ⟨q, hq⟩ : ∃ q, q = nx (B.drop k) := ⟨_, rfl⟩
    have hql := nx_le (B.drop k)
    rw [← hq, List.length_drop, ← HN.out] at hql
    have hnx : ∀ w' : World, Calls Try.prog 65 #[.string T] w' fun e w'' => e = .returned (.int .i64 (q : Int)) ∧ w' = w'' := by
      intro w'
      rw [hT2, hq]
      exact pNext_any (B.drop k) w' (by rw [List.length_drop, ← HN.out]; omega)
    have HNX := Lib.hid hnx
    have HQ := Lib.hid hq
    clear hnx hT2 hq
    by_cases hq0 : 0 < q
    · have t : ((q : Int) == 0) = false := by simp; omega
      have hnext : (k + q) + wh (B.drop (k + q)) = wh B := by
        rw [← Hk.out, wh_pos (B := B.drop k) (by rw [← HQ.out]; exact hq0), ← HQ.out, List.drop_drop]
        omega
      have HNEXT := Lib.hid hnext
      clear hnext
      go_wp2_with fail
      refine (HNX.out _).mono ?_
      rintro e w2 ⟨rfl, rfl⟩
      go_wp2
      go_round
      case rel => exact ⟨k + q, by omega, by go_num, HNEXT.out⟩
      case measure => simp [intOf] <;> omega
    · have t : ((q : Int) == 0) = true := by simp; omega
      have hres : wh B = k := by rw [← Hk.out, wh_zero (B := B.drop k) (by rw [← HQ.out]; omega)]; omega
      have HRES := Lib.hid hres
      clear hres
      go_wp2_with fail
      refine (HNX.out _).mono ?_
      rintro e w2 ⟨rfl, rfl⟩
      go_wp2
      go_ret
      rw [HRES.out]
      exact ⟨rfl, rfl⟩

set_option maxRecDepth 100000 in
set_option maxHeartbeats 800000 in
theorem pValid_any (A : Option Addr) (n c : Nat) (l : List (List UInt8)) (w : World) (hr : Rd w A n (l.map strc)) (_ : n ≤ c) (hn : n ≤ 1000) (hb : ∀ B ∈ l, B.length ≤ 1000000) :
    Calls Try.prog 23 #[.slice A n c] w fun e w' => e = .returned (.bool (okAll l)) ∧ w = w' := by
  have hln : l.length = n := by simpa using hr.1
  have HR := Lib.hid hr
  have HB := Lib.hid hb
  have HLN := Lib.hid hln
  clear hr hb hln
  go_enter Try.func23, Try.ntmps23
  go_wp2
  go_loop [7] (fun i => ∃ k : Nat, k ≤ n ∧ i = .int .i64 k ∧ Hid (okAll (l.take k) = true)) (fun i => n - (intOf i).toNat)
  case atStart => exact ⟨0, by omega, rfl, by show _ = _; simp [okAll]⟩
  case round =>
    obtain ⟨k, hk, rfl, Hk⟩ := hrel
    by_cases hlt : k < n
    · obtain ⟨ad, u, rfl, hu, hcell⟩ := HR.out.at_ hlt
      obtain ⟨B, hB, rfl⟩ : ∃ B, l[k]? = some B ∧ strc B = u := by
        rw [List.getElem?_map] at hu
        cases h : l[k]? with
        | none => rw [h] at hu; cases hu
        | some B => rw [h] at hu; injection hu with hu; exact ⟨B, rfl, hu⟩
      have hBl := HB.out B (List.mem_of_getElem? hB)
      change w.cell? (ad.add k) = some (.string (txt B)) at hcell
      have htk : okAll (l.take (k + 1)) = (wh B == B.length) := by
        have h1 := Hk.out
        unfold okAll at h1 ⊢
        rw [List.take_add_one, hB, List.all_append, h1]
        simp
      obtain ⟨q, hq⟩ : ∃ q, q = wh B := ⟨_, rfl⟩
      have hql := wh_le B
      have hsz := txt_sz B
      have hw : ∀ w' : World, Calls Try.prog 47 #[.string (txt B)] w' fun e w'' => e = .returned (.int .i64 (q : Int)) ∧ w' = w'' := by
        intro w'
        rw [hq]
        exact pWhere_any B w' hBl
      rw [← hq, ← hsz] at htk hql
      have HW := Lib.hid hw
      clear hu hw hsz hBl
      by_cases hlt2 : q < (txt B).size
      · have t : decide (q < (txt B).size) = true := by simpa using hlt2
        have hno : okAll l = false := by
          unfold okAll at htk ⊢
          rw [← List.take_append_drop (k + 1) l, List.all_append, htk]
          have e : (q == (txt B).size) = false := by simp; omega
          rw [e]; rfl
        have HNO := Lib.hid hno
        clear hno htk hB hq hlt2
        go_wp2_with fail
        refine (HW.out _).mono ?_
        rintro e w2 ⟨rfl, rfl⟩
        go_wp2
        go_ret
        rw [HNO.out]
        exact ⟨rfl, rfl⟩
      · have t : decide (q < (txt B).size) = false := by simpa using hlt2
        have hyes : okAll (l.take (k + 1)) = true := by
          rw [htk]; simp; omega
        have HY := Lib.hid hyes
        clear hyes htk hB hq hlt2
        go_wp2_with fail
        refine (HW.out _).mono ?_
        rintro e w2 ⟨rfl, rfl⟩
        go_wp2
        go_round
        case rel => exact ⟨k + 1, by omega, by go_num, HY.out⟩
        case measure => simp [intOf] <;> omega
    · have hall : okAll l = true := by
        have := Hk.out
        rwa [List.take_of_length_le (by have := HLN.out; omega)] at this
      have HA := Lib.hid hall
      clear hall
      go_wp2
      go_ret
      rw [HA.out]
      exact ⟨rfl, rfl⟩

theorem utfP : UtfP where
  next B w hl := (pNext_any B w hl).mono fun _ _ ⟨he, hw⟩ => ⟨he, hw ▸ Fr.refl _ _⟩
  where_ B w hl := (pWhere_any B w hl).mono fun _ _ ⟨he, hw⟩ => ⟨he, hw ▸ Fr.refl _ _⟩
  valid A n c l w hr hc hn hb := (pValid_any A n c l w hr hc hn hb).mono fun _ _ ⟨he, hw⟩ => ⟨he, hw ▸ Fr.refl _ _⟩
end Go.Proofs.Ytbnkahjmeobblaa
