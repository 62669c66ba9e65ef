/-
  Layer 11, the reference: Bytes (written by gen_bytes.py).
-/
import Derived.Test.YtcoohjjjiakdjaaRleZb
namespace Go.Proofs.Ytcoohjjjiakdjaa
open Go.RowKit Mem Go.Lib RleM LebM
attribute [local go_sem ↓] Go.wp_at_zero Go.wp_at_succ
set_option linter.unusedVariables false

set_option maxRecDepth 1000000 in
set_option maxHeartbeats 3200000 in
theorem rBytes_any (A : Option Addr) (n c : Nat) (L : List (Bool × List UInt8)) (w : World) (hL : Cls sv w A n L) (hn : n ≤ 1000000) (hmay : ∀ (j : Nat) (d : Bool × List UInt8), L[j]? = some d → d.1 = false → d = (false, [])) (hlen : (tellG kR (gatherG L)).length ≤ 1000000000) :
    Calls Try.prog 22 #[.slice A n c] w (Gives w (tellW kR (gatherG L))) := by
  have HL := Lib.hid hL
  have HLL := Lib.hid hL.1
  have HMAY := Lib.hid hmay
  have HLEN := Lib.hid hlen
  obtain ⟨R, hR⟩ : ∃ R, R = tellW kR (gatherG L) := ⟨_, rfl⟩
  rw [← hR]
  have HR := Lib.hid hR
  obtain ⟨base, hbase⟩ : ∃ base, base = w.heap.size := ⟨_, rfl⟩
  have HBS := Lib.hid hbase
  have HB : Hid (base ≤ w.heap.size) := Lib.hid (by omega)
  clear hL hmay hlen hR hbase
  go_enter Try.func22, Try.ntmps22
  go_wp2_with fail
  go_loopw [3, 4] (fun b v wr => ∃ k : Nat, k ≤ n ∧ v = .int .i64 (k : Int) ∧ b = .bool ((L.take k).any (·.1)) ∧ Hid (Fr (fun _ => False) w wr)) (fun _ v _ => n - (intOf v).toNat)
  case atStart => exact ⟨0, Nat.zero_le _, rfl, by simp, Fr.refl _ _⟩
  case round =>
    obtain ⟨k, hk, rfl, rfl, HF⟩ := hrel
    rename World => wr
    by_cases hlt : k < n
    · obtain ⟨t, ht⟩ : ∃ t, L[k]? = some t := ⟨_, List.getElem?_eq_getElem (by have := HLL.out; omega)⟩
      obtain ⟨g, o, hA', hg, h1, h2⟩ := (HL.out.fr HF.out (fun _ _ => id)).2 k t ht
      subst hA'
      obtain ⟨i, x⟩ := t
      simp only [sv] at h1 h2
      have hnx : (L.take (k + 1)).any (·.1) = ((L.take k).any (·.1) || i) := by rw [List.take_add_one, ht]; simp
      obtain ⟨q, hq⟩ : ∃ q, q = (L.take k).any (·.1) := ⟨_, rfl⟩
      rw [← hq] at hnx ⊢
      have HNX := Lib.hid hnx
      clear ht h2 hnx hq
      cases q with
      | true =>
        go_wp2_with fail
        exact ⟨⟨k + 1, by omega, by go_num, by rw [HNX.out]; rfl, HF.out⟩, by simp [intOf]; omega⟩
      | false =>
        go_wp2_with fail
        exact ⟨⟨k + 1, by omega, by go_num, by rw [HNX.out]; rfl, HF.out⟩, by simp [intOf]; omega⟩
    · obtain rfl : k = n := by omega
      obtain ⟨q, hq⟩ : ∃ q, q = (L.take k).any (·.1) := ⟨_, rfl⟩
      rw [← hq]
      rw [List.take_of_length_le (by have := HLL.out; omega)] at hq
      cases q with
      | false =>
        have hall : ∀ c ∈ L, c = kR.zero := by
          intro c hc
          obtain ⟨j, hj⟩ := List.getElem?_of_mem hc
          refine HMAY.out j c hj ?_
          have h := List.any_eq_false.1 hq.symm c hc
          simpa using h
        have hx : R = [] := by rw [HR.out]; exact told_none hall
        have HX := Lib.hid hx
        clear hq hall hx
        go_wp2_with fail
        go_ret
        rw [HX.out]
        exact ⟨none, 0, rfl, Own.nil _ _, HF.out⟩
      | true =>
        obtain ⟨c0, hc0, hz0⟩ := List.any_eq_true.1 hq.symm
        have hx : R = tellG kR (gatherG L) := by rw [HR.out]; exact told_some hc0 (fun e => by rw [e] at hz0; exact absurd hz0 (by decide))
        have hA : ∀ ad, A = some ad → ad.block < base := by
          intro ad e
          obtain ⟨j, hj⟩ := List.getElem?_of_mem hc0
          obtain ⟨g, o, hA, hg, _⟩ := HL.out.2 j c0 hj
          rw [hA] at e
          injection e with e
          rw [← e, HBS.out]
          exact hg
        have HX := Lib.hid hx
        have HA := Lib.hid hA
        have HW := Lib.hid (wf_gather L)
        have HS := Lib.hid (spread_gather L).symm
        have HF' : Hid (Fr (fun b => base ≤ b) w wr) := Lib.hid (HF.out.mono (fun _ _ h => h.elim))
        clear hq hc0 hz0 hx hA
        go_wp2_with fail
        refine bl2 _ _ _ _ _ _ _ _ _ _ _ _ _ _ _ _ _ _ _ _ _ _ _ _ _ _ _ _ _ _ _ _ _ _ _ _ _ _ _ _ _ _ _ _ _ _ _ _ _ _ _ _ _ _ _ _ _ _ _ _ _ _ _ _ _ _ _ _ _ _ _ _ _ _ _ _ _ _ _ _ _ _ _ _ _ _ _ _ _ _ _ _ _ _ _ _ _ _ _ _ _ _ _ _ _ _ _ _ _ _ _ _ _ _ _ _ _ _ _ _ _ _ _ _ _ _ _ _ _ _ _ _ _ _ _ _ _ _ _ _ _ _ _ _ _ _ _ _ _ _ _ _ _ _ _ _ _ _ _ base A k c L (gatherG L) w wr HL HA hn HMAY HS HW HF' HB HLEN ?_
        intro A' c' R' w2 r7 r8 r25 r26 r27 r28 r29 r30 r31 r32 r33 r34 r35 r36 r37 r38 r39 r40 r41 r42 r43 r44 r45 r46 r47 r48 r49 r50 r51 r52 r53 r54 r55 r56 r57 r58 r59 r60 r61 r62 r63 r64 r65 r66 r67 r68 r69 r70 r71 r72 r73 r74 r75 r76 r77 r78 r79 r80 r81 r82 r83 r84 r85 r86 r87 r88 r89 r90 r91 r92 r93 r94 r95 r96 r97 r98 r99 r100 r101 r102 r103 r104 r105 r106 r107 r108 r109 r110 r111 r112 r113 r114 r115 r116 r117 r118 r119 r120 r121 r122 r123 r124 r125 r126 r127 r128 r129 r130 r131 r132 r133 r134 r135 r136 r137 r138 r139 r140 r141 r142 r143 r144 r145 r146 r147 r148 r149 r150 r151 r152 r153 r154 r155 r156 r157 r158 r159 HR' HO' HF2
        go_wp2_with fail
        go_ret
        rw [HX.out, ← HR'.out]
        exact ⟨A', c', rfl, by rw [← HBS.out]; exact HO'.out, HF2.out.mono (fun b hb h => by have := HBS.out; omega)⟩
end Go.Proofs.Ytcoohjjjiakdjaa
