/-
  Contract of layer 4's reference: Of, over its loops (ShaE: the schedule, ShaF: the rounds, ShaG: the blocks, ShaH: the words as bytes).
  Passes: the copy, the padding's loops 1 and 2, the copy of first, head of loop 3 (blocks), loop 4 (schedule) for i < 16.
  Open: (1) region 26 (the schedule's 16 and on: 'append(w, w[i-16]+..)'): see NOTES, 'Ahead'; (2) behind loop 4: region 27 (eight loads), loop 6 (rounds), region 34, end of loop 3, loop 7 (stores into the array), the last load.
-/
import Derived.Test.YtjjeahijcibafaaDoorShaG
import Derived.Test.YtjjeahijcibafaaDoorShaH
import Derived.Test.YtjjeahijcibafaaDoorBlk
import Derived.Deep.DrawnRows
import Derived.Deep.CutRange
import Derived.Deep.DeepCutAuto
namespace Go.Proofs.YtjjeahijcibafaaDoor
open Go.RowKit ShaM Mem Go.Lib
attribute [local go_sem ↓] Go.wp_at_zero Go.wp_at_succ
set_option linter.unusedVariables false

theorem hashT : RowTy Tryd.prog 25 32 := ⟨⟨32, 5, Tryd.underlying25⟩, by kernel_rfl⟩

theorem own_ad {w : World} {base : Nat} {e : TypeId} {size n m c : Nat} {xs : List Value} {ad : Addr} (h : w.ownsRow base e size (.slice (some ad) n c) m xs) : ad.block < w.heap.size := by
  rcases h.2 with ⟨hv, _⟩ | ⟨g, cap, cur, hv, _, hg, _⟩
  · cases hv
  · injection hv with hv
    injection hv with hv
    subst hv
    exact lt_of_heap hg

set_option maxRecDepth 100000 in
set_option maxHeartbeats 6400000 in
theorem rOf_any (A : Option Addr) (n c : Nat) (B : List UInt8) (F : Option Addr) (fc : Nat) (Ke : Option Addr) (kc : Nat) (w : World) (hr : Rd w A n (B.map bytec)) (hF : Rd w F 8 (first.map num32)) (hK : Rd w Ke 64 (keys.map num32)) (hn : n ≤ 1000000) :
    Calls Tryd.prog 16 #[.slice A n c, .slice F 8 fc, .slice Ke 64 kc] w fun e w' => e = .returned (.agg ((sha keys first (B.map UInt8.toNat)).map byten).toArray) ∧ Fr (fun _ => False) w w' := by
  have hBn : B.length = n := by simpa using hr.1
  obtain ⟨N, hN⟩ : ∃ N, N = B.map UInt8.toNat := ⟨_, rfl⟩
  have hNl : N.length = n := by rw [hN, List.length_map, hBn]
  have hNb : ∀ b ∈ N, b < 256 := by
    intro b hb
    rw [hN] at hb
    obtain ⟨u, _, rfl⟩ := List.mem_map.1 hb
    exact u.toNat_lt
  have HNB := Lib.hid hNb
  rw [byten_of, ← hN] at hr
  rw [← hN]
  have HNL := Lib.hid hNl
  have HR := Lib.hid hr
  have HF := Lib.hid hF
  have HK := Lib.hid hK
  clear hBn hN hNl hNb hr hF hK
  go_enter Tryd.func16, Tryd.ntmps16
  go_upto_region 1 with fail
  obtain ⟨w0, hw0⟩ : ∃ w0, w.alloc (.cells #[.int .u8 0, .int .u8 0, .int .u8 0, .int .u8 0, .int .u8 0, .int .u8 0, .int .u8 0, .int .u8 0, .int .u8 0, .int .u8 0, .int .u8 0, .int .u8 0, .int .u8 0, .int .u8 0, .int .u8 0, .int .u8 0, .int .u8 0, .int .u8 0, .int .u8 0, .int .u8 0, .int .u8 0, .int .u8 0, .int .u8 0, .int .u8 0, .int .u8 0, .int .u8 0, .int .u8 0, .int .u8 0, .int .u8 0, .int .u8 0, .int .u8 0, .int .u8 0] 25) = w0 := ⟨_, rfl⟩
  rw [hw0]
  have hres0 : w0.heap[w.heap.size]? = some (.cells (Array.replicate 32 (.int .u8 0)) 25 (0, 0)) := by rw [← hw0]; exact heap_alloc_new w _
  have hf0 : Fr (fun _ => False) w w0 := by rw [← hw0]; exact (Fr.refl _ _).alloc _
  have hsz0 : w.heap.size < w0.heap.size := by rw [← hw0]; simp
  obtain ⟨g, hg⟩ : ∃ g, g = w.heap.size := ⟨_, rfl⟩
  rw [← hg] at hres0 hsz0 ⊢
  have HG := Lib.hid hg
  have HRES := Lib.hid hres0
  have HF0 := Lib.hid hf0
  have h0 := World.ownsRow_made (e := 5) (size := 1) w0 #[] 0 (Nat.le_refl _) (Nat.zero_le _) rfl
  have hr0 := HR.out.fr (HF0.out.alloc (.cells #[] 5)) (fun _ _ h => h)
  clear hw0 hg hres0 hf0
  go_wp2_with (at_builtin; refine wpList_app u8T _ rfl _ _ rfl w0.heap.size _ _ _ rfl h0 _ _ _ _ rfl hr0 (byten_one _) (by unfold maxLen; omega) (by omega) (by simp) ?_)
  intro A1 c1 w1 _ _ hown1 hfr1 _
  have hf1 : Fr (fun _ => False) w0 w1 := ((Fr.refl _ w0).alloc _).trans hfr1 (fun b hb h => by simp [Value.ownBlock] at h; omega)
  try simp only [Nat.zero_add, List.nil_append] at hown1
  have ho1 : OwnB w1 w0.heap.size A1 c1 N := by unfold OwnB; rw [HNL.out]; exact hown1
  have HO1 := Lib.hid ho1
  have hsz1 := hf1.size
  clear h0 hr0 hown1 hfr1 ho1
  have hrow1 : w1.ownsRow w0.heap.size 5 1 (.slice A1 n c1) n (N.map byten) := by have h := HO1.out; unfold OwnB at h; rw [HNL.out] at h; exact h
  go_wp2_with (at_builtin; refine wpList_app u8T _ rfl _ _ rfl w0.heap.size _ _ _ rfl (hrow1.alloc _) _ _ _ _ rfl (Rd.one _ _ _) (one_one _ _) (by unfold maxLen; omega) (by omega) (by simp; omega) ?_)
  intro A2 c2 w2 _ _ hown2 hfr2 _
  have ho2 : OwnB w2 w0.heap.size A2 c2 (N ++ [128]) := by
    refine OwnB.snoc (x := 128) ?_ rfl
    rw [HNL.out]
    exact hown2
  rw [← HNL.out] at hfr2
  have hf2 : Fr (fun _ => False) w0 w2 := Fr.appB hf1 HO1.out hfr2
  have HO2 := Lib.hid ho2
  have HF2 := Lib.hid hf2
  clear hown2 hfr2 ho2 hrow1 hf1 HO1 hsz1 hf2
  go_wp2_with fail
  go_loopw [7] (fun v wr => ∃ (m : Nat) (A' : Option Addr) (c' : Nat), m ≤ zeros n ∧ v = .slice A' (n + 1 + m) c' ∧ Hid (OwnB wr w0.heap.size A' c' (N ++ [128] ++ List.replicate m 0)) ∧ Fr (fun _ => False) w0 wr)
    (fun v _ => match v with | .slice _ m _ => n + 200 - m | _ => 0)
  case atStart => exact ⟨0, A2, c2, by omega, by rfl, by simpa [Hid] using HO2.out, HF2.out⟩
  case round =>
    obtain ⟨m, A3, c3, hm, rfl, HO, hfr⟩ := hrel
    have hzz : zeros n < 64 := Nat.mod_lt _ (by omega)
    have hst := zeros_stop n m hm
    obtain ⟨P, hP⟩ : ∃ P, P = N ++ [128] ++ List.replicate m 0 := ⟨_, rfl⟩
    have hPl : P.length = n + 1 + m := by rw [hP, List.length_append, List.length_append, List.length_replicate, HNL.out]; rfl
    rw [← hP] at HO
    have HPL := Lib.hid hPl
    have HP := Lib.hid hP
    have hsz := hfr.size
    clear hPl hP HO2 HF2
    by_cases hend : m = zeros n
    · have t56 : (((n : Int) + 1 + (m : Int)) % 64 != 56) = false := by simp; omega
      have HF3 := Lib.hid hfr
      have hn8 : (n : Int) * 8 ≤ 8000000 := by omega
      obtain ⟨L, hL⟩ : ∃ L, L = n + 1 + m := ⟨_, rfl⟩
      have hL0 : L ≤ 1000100 := by omega
      have HLM := Lib.hid (show L % 64 = 56 by rw [hL]; exact hst.2 hend)
      have t56L : ((L : Int) % 64 != 56) = false := by have := HLM.out; simp; omega
      rw [← hL] at HPL ⊢
      have hPz : P = N ++ [128] ++ List.replicate (zeros n) 0 := by rw [HP.out, hend]
      have HPZ := Lib.hid hPz
      have HLE := Lib.hid hL
      rename World => wa
      clear hfr hst hend t56 hL hPz hm
      go_wp2_with fail
      go_loopw [7, 9] (fun v i wr => ∃ (r : Nat) (Q : List Nat) (A' : Option Addr) (c' : Nat), r ≤ 8 ∧ i = .int .i64 ((r : Int) - 1) ∧ v = .slice A' Q.length c' ∧ Q.length ≤ 1000100 + 8 ∧ Q.length + r = L + 8 ∧ Hid (Q = P ++ (tail8 n).take (8 - r)) ∧ OwnB wr w0.heap.size A' c' Q ∧ Fr (fun _ => False) w0 wr)
        (fun _ i _ => (intOf i + 1).toNat)
      case atStart => exact ⟨8, P, A3, c3, by omega, rfl, by rw [HPL.out], by rw [HPL.out]; omega, by rw [HPL.out], by simp [Hid], HO.out, HF3.out⟩
      case round =>
        obtain ⟨r, Q, A5, c5, hr8, rfl, rfl, hQ8, hQr, HQ, hown, hfr⟩ := hrel
        clear HO HF3
        cases r with
        | zero =>
          have hQp : Q = padded N := by
            rw [HQ.out, List.take_of_length_le (by simp [tail8]), HPZ.out]
            unfold padded
            rw [HNL.out]
          have hT : ∃ T, Q.length = 64 * T ∧ T ≤ 20000 := ⟨Q.length / 64, by have := HLM.out; omega, by omega⟩
          obtain ⟨T, hT, hT2⟩ := hT
          have hQB : ∀ b ∈ Q, b < 256 := by rw [hQp]; exact padded_lt HNB.out
          have HQP := Lib.hid hQp
          have HTT := Lib.hid hT
          have HQB := Lib.hid hQB
          have HOQ := Lib.hid hown
          have HF4 := Lib.hid hfr
          have h0 := World.ownsRow_made (e := 34) (size := 1) wr #[] 0 (Nat.le_refl _) (Nat.zero_le _) rfl
          have hr0 := HF.out.fr ((HF0.out.trans hfr (fun _ _ h => h)).alloc (.cells #[] 34)) (fun _ _ h => h)
          rename World => wb
          rw [hT]
          clear hQp hT hQB hown hfr hQ8 hQr
          go_wp2_with (at_builtin; refine wpList_app u32T _ rfl _ _ rfl wb.heap.size _ _ _ rfl h0 _ _ _ _ rfl hr0 (num32_one _) (by unfold maxLen; omega) (by omega) (by simp) ?_)
          intro A7 c7 w7 _ _ hown7 hfr7 _
          have hf7 : Fr (fun _ => False) wb w7 := ((Fr.refl _ wb).alloc _).trans hfr7 (fun b hb h => by simp [Value.ownBlock] at h; omega)
          try simp only [Nat.zero_add, List.nil_append] at hown7
          have HR7 := Lib.hid (Rd.of_own hown7)
          have HB7 : Hid (∀ ad, A7 = some ad → ad.block < w7.heap.size) := Lib.hid (by intro ad h; subst h; exact own_ad hown7)
          have HF7 := Lib.hid (HF4.out.trans hf7 (fun _ _ h => h))
          have HRQ := Lib.hid (Rd.of_own (HOQ.out.fr hf7))
          clear h0 hr0 hown7 hfr7 hf7 HF4 HOQ
          go_wp2_with fail
          have hlQ := HTT.out
          have HLQ := Lib.hid hlQ
          have HK7 := Lib.hid (HK.out.fr (HF0.out.trans HF7.out (fun _ _ h => h)) (fun _ _ h => h))
          have hbA7 : ∀ ad, A7 = some ad → ad.block < w7.heap.size := HB7.out
          clear hlQ
          have HRQ' : Hid (Rd w7 A5 (64 * T) (Q.map byten)) := Lib.hid (by have h := HRQ.out; rw [HTT.out] at h; exact h)
          refine blocks_loop _ _ _ _ _ _ _ _ _ _ _ _ _ _ _ _ _ _ _ _ _ _ _ _ _ _ _ _ _ _ _ _ _ _ _ _ _ _ _ _ _ _ _ _ _ _ _ _ _ _ _ _ _ _ _ _ _ _ _ _ _ _ _ _ _ _ _ _ _ _ _ _ _ _ _ _ _ _ _ _ _ _ _ _ _ _ _ _ _ _ _ _ _ _ _ _ _ _ _ _ _ _ _ _ _ _ _ _ _ _ _ _ _ _ _ _ _ _ _ _ _ _ _ _ _ _ _ _ _ _ _ _ _ _ _ _ _ _ _ _ _ _ _ _ _ _ _ _ _ _ _ _ _ _ _ _ _ _ _ _ _ _ _ _ _ _ _ _ _ _ _ _ _ _ _ _ _ _ _ _ _ _ _ _ _ _ _ _ _ _ _ _ _ _ _ _ _ _ _ _ _ _ _ _ _ _ _ _ _ _ _ _ _ _ _ _ _ _ _ _ _ _ _ _ _ _ _ _ _ _ _ _ _ _ _ _ _ _ _ _ _ _ _ _ _ _ _ _ _ _ _ _ _ _ _ _ _ _ _ _ _ _ _ _ _ _ _ _ _ _ _ _ _ _ _ _ _ _ _ _ _ _ _ Ke A5 A7 kc c5 c7 T first Q w7 hT2 HLQ HQB HK7 HRQ' HR7 first_eight ?_
          intro A8 c8 S w8 p11 p12 p13 p14 p15 p16 p17 p18 p19 p20 p21 p22 p23 p24 p25 p26 p27 p28 p63 p64 p65 p66 p67 p68 p69 p70 p71 p72 p73 p74 p75 p76 p77 p78 p79 p80 p81 p82 p83 p84 p85 p86 p87 p88 p89 p90 p91 p92 p93 p94 p95 p96 p97 p98 p99 p100 p101 p102 p103 p104 p105 p106 p107 p108 p109 p110 p111 p112 p113 p114 p115 p116 p117 p118 p119 p120 p121 p122 p123 p124 p125 p126 p127 p128 p129 p130 p131 p132 p133 p134 p135 p136 p137 p138 p139 p140 p141 p142 p143 p144 p145 p146 p147 p148 p149 p150 p151 p152 p153 p154 p155 p156 p157 p158 p159 p160 p161 p162 p163 p164 p165 p166 p167 p168 p169 p170 p171 p172 p173 p174 p175 p176 p177 p178 p179 p180 p181 p182 p183 p184 p185 p186 p187 p188 p189 p190 p191 p192 p193 p194 p195 p196 p197 p198 p199 p200 p201 p202 p203 p204 p205 p206 p207 p208 p209 p210 p211 p212 p213 p214 p215 p216 p217 p218 p219 p220 p221 p222 p223 p224 p225 p226 p227 p228 p229 p230 p231 p232 p233 p234 p235 p236 p237 p238 p239 p240 p241 p242 p243 p244 p245 p246 p247 p248 p249 p250 p251 p252 p253 p254 p255 p256 p257 p258 p259 p260 p261 p262 p263 p264 p265 p266 p267 HS HE HRS hf8
          have HF8 := Lib.hid (HF7.out.trans hf8 (fun _ _ h => h))
          clear hf8
          go_wp2_with fail
          have hAne : ∀ ad, A8 = some ad → ad.block ≠ w8.heap.size := by
            intro ad h
            obtain ⟨ad', e, hc⟩ := HRS.out.2 (by omega)
            rw [h] at e
            injection e with e
            subst e
            obtain ⟨x0, x1, x2, x3, x4, x5, x6, x7, hS, _⟩ := eight_of HE.out
            have h1 := World.block_lt_of_cell? w8 _ (hc 0 _ (by rw [hS]; rfl))
            rw [add_block] at h1
            omega
          refine outs_loop _ _ _ _ _ _ _ _ _ _ _ _ _ _ _ _ _ _ _ _ _ _ _ _ _ _ _ _ _ _ _ _ _ _ _ _ _ _ _ _ _ _ _ _ _ _ _ _ _ _ _ _ _ _ _ _ _ _ _ _ _ _ _ _ _ _ _ _ _ _ _ _ _ _ _ _ _ _ _ _ _ _ _ _ _ _ _ _ _ _ _ _ _ _ _ _ _ _ _ _ _ _ _ _ _ _ _ _ _ _ _ _ _ _ _ _ _ _ _ _ _ _ _ _ _ _ _ _ _ _ _ _ _ _ _ _ _ _ _ _ _ _ _ _ _ _ _ _ _ _ _ _ _ _ _ _ _ _ _ _ _ _ _ _ _ _ _ _ _ _ _ _ _ _ _ _ _ _ _ _ _ _ _ _ _ _ _ _ _ _ _ _ _ _ _ _ _ _ _ _ _ _ _ _ _ _ _ _ _ _ _ _ _ _ _ _ _ _ _ _ _ _ _ _ _ _ _ _ _ _ _ _ _ _ _ _ _ _ _ _ _ _ _ _ _ _ _ _ _ _ _ _ _ _ _ _ _ _ _ _ _ _ _ _ _ _ _ _ _ _ _ _ _ _ _ _ _ _ _ _ _ _ _ _ A8 c8 w8.heap.size S 25 _ HE (Lib.hid (HRS.out.fr ((Fr.refl (fun _ => False) _).alloc _) (fun _ _ h => h))) hAne (Lib.hid (by rw [outC_zero]; exact heap_alloc_new w8 _)) ?_
          intro w9 m268 m269 m270 m271 m272 m273 m274 m275 m276 m277 m278 m279 m280 m281 m282 m283 m284 HG9 hf9
          have HRES9 : Hid (w9.heap[g]? = some (.cells (Array.replicate 32 (.int .u8 0)) 25 (0, 0))) := Lib.hid (by
            have h1 := HF8.out.blk HRES.out (fun h => h)
            have hlt := lt_of_heap h1
            exact hf9.blk (((Fr.refl (fun _ => False) w8).alloc _).blk h1 (fun h => h)) (by omega))
          have HFe : Hid (∀ w10, Fr (fun b => b = g) w9 w10 → Fr (fun _ => False) w w10) := Lib.hid (by
            intro w10 h
            have h1 := (HF0.out.trans HF8.out (fun _ _ h => h)).alloc (.cells #[] 0)
            refine (((HF0.out.trans HF8.out (fun _ _ h => h)).alloc _).trans hf9 ?_).trans h ?_
            · intro b hb e
              have := (HF0.out.trans HF8.out (fun _ _ h => h)).size
              have := HG.out
              omega
            · intro b hb e
              have := HG.out
              omega)
          have hres : outC S 32 = ((sha keys first N).map byten).toArray := by
            rw [outC_full, HS.out, HQP.out]
            unfold sha
            have : (padded N).length / 64 = T := by rw [← HQP.out, HTT.out]; omega
            rw [this]
          have HRS2 := Lib.hid hres
          have hsz32 := outC_size S 32 (by omega)
          have HSZ := Lib.hid hsz32
          have hone : (outC S 32).all (·.oneCell') = true := by
            rw [outC_full]
            rw [List.all_toArray, List.all_eq_true]
            exact byten_one _
          have HONE := Lib.hid hone
          obtain ⟨R, hR⟩ : ∃ R, R = outC S 32 := ⟨_, rfl⟩
          rw [← hR] at HG9 HRS2 HSZ HONE
          clear hAne hres hsz32 hone hf9 hR
          go_upto_region 40 with fail
          refine wp_region_lit ?_
          refine wpList_load_blk hashT rfl (.tmp 29) rfl w8.heap.size rfl R _ HG9.out HSZ.out ?_
          refine wpList_store_blk hashT rfl (.tmp 6) (.tmp 285) rfl g rfl R rfl _ _ HRES9.out HSZ.out (by simp) HONE.out ?_
          intro w10 hg10 hf10
          have HG10 := Lib.hid hg10
          have HF10 := Lib.hid (HFe.out _ hf10)
          clear hg10 hf10
          go_wp2_with fail
          exact bodyPost_ret (v := .agg R) (results_blk hashT rfl g rfl R _ HG10.out HSZ.out) rfl ⟨by rw [HRS2.out], HF10.out⟩
        | succ i =>
          have hsz5 := hfr.size
          have hQn : P ++ (tail8 n).take (8 - i) = Q ++ [n * 8 % 18446744073709551616 / 2 ^ (8 * i) % 256] := by rw [tail_step n i (by omega), ← List.append_assoc, ← HQ.out]
          rw [show (((i + 1 : Nat) : Int) - 1) = (i : Int) from by omega]
          have hval : ((n : Int) * 8) / 2 ^ (8 * i) % 256 = ((n * 8 % 18446744073709551616 / 2 ^ (8 * i) % 256 : Nat) : Int) := by
            rw [Nat.mod_eq_of_lt (show n * 8 < 18446744073709551616 by omega)]
            simp
          obtain ⟨d, hd⟩ : ∃ d, d = n * 8 % 18446744073709551616 / 2 ^ (8 * i) % 256 := ⟨_, rfl⟩
          rw [← hd] at hval hQn
          have HQN := Lib.hid hQn.symm
          clear hQn hd
          go_wp2_with (at_builtin; refine wpList_app u8T _ rfl _ _ rfl w0.heap.size _ _ _ rfl (hown.alloc _) _ _ _ _ rfl (Rd.one _ _ _) (one_one _ _) (by unfold maxLen; omega) (by omega) (by simp; omega) ?_)
          intro A6 c6 w6 _ _ hown6 hfr6 _
          have HO6 := Lib.hid (OwnB.snoc (x := (d : Int)) hown6 rfl)
          have HF6 := Lib.hid (Fr.appB hfr hown hfr6)
          clear hown6 hfr6 hval
          go_wp2
          go_roundw
          case rel => exact ⟨i, Q ++ [d], A6, c6, by omega, rfl, lenB _ _ _ _, by rw [List.length_append]; simp; omega, by rw [List.length_append]; simp; omega, HQN, HO6.out, HF6.out⟩
          case measure => simp [intOf] <;> omega
    · have t56 : (((n : Int) + 1 + (m : Int)) % 64 != 56) = true := by simp; omega
      have hrow : wr.ownsRow w0.heap.size 5 1 (.slice A3 (n + 1 + m) c3) (n + 1 + m) (P.map byten) := by have h := HO.out; unfold OwnB at h; rw [HPL.out] at h; exact h
      clear hst
      go_wp2_with (at_builtin; refine wpList_app u8T _ rfl _ _ rfl w0.heap.size _ _ _ rfl (hrow.alloc _) _ _ _ _ rfl (Rd.one _ _ _) (one_one _ _) (by unfold maxLen; omega) (by omega) (by simp; omega) ?_)
      intro A4 c4 w4 _ _ hown4 hfr4 _
      have ho4 : OwnB w4 w0.heap.size A4 c4 (N ++ [128] ++ List.replicate (m + 1) 0) := by
        rw [List.replicate_succ', ← List.append_assoc, ← HP.out]
        refine OwnB.snoc (x := 0) ?_ rfl
        rw [HPL.out]
        exact hown4
      have hf4 : Fr (fun _ => False) w0 w4 := by
        rw [← HPL.out] at hfr4
        exact Fr.appB hfr HO.out hfr4
      have HO4 := Lib.hid ho4
      clear hrow hown4 hfr4 ho4
      go_wp2
      go_roundw
      case rel => exact ⟨m + 1, A4, c4, by omega, rfl, HO4, hf4⟩
      case measure => simp; omega
end Go.Proofs.YtjjeahijcibafaaDoor
