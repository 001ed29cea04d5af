/- ZddItems. -/
import Derived.Test.YtkkdfpmjmommcaaZd08
namespace Go.Proofs.Ytkkdfpmjmommcaa
open Go.RowKit Go.Joins

set_option maxHeartbeats 1000000 in
theorem items8_great (w : World) (v : Value) (zs : List Int) (id : Int) (hz : IntsAt w w.heap.size v zs) (hg : 40 < zs.length) :
    Calls Try.prog 5 #[v, .int .i64 id] w fun e w' => e = .returned (.bool true) ∧ Below w.heap.size w w' := by
  have HG := great8_any w v (.slice none 0 0) zs [] hz (ints_nil _ _)
  rw [decide_eq_true hg, Bool.true_or] at HG
  have HK := fun w => knows8_any w
  go_enter Try.func5, Try.ntmps5
  go_wp2_with fail
  refine HG.mono ?_
  rintro e w1 ⟨rfl, rfl⟩
  clear HG
  go_wp2_with fail
  refine (HK _).mono ?_
  rintro e w2 ⟨rfl, hb2⟩
  clear HK
  go_wp2
  go_ret
  exact ⟨rfl, hb2⟩
set_option maxHeartbeats 1000000 in
set_option maxRecDepth 100000 in
theorem items8_no (w : World) (v : Value) (zs : List Int) (id : Int) (hz : IntsAt w w.heap.size v zs) (hg : ¬ 40 < zs.length) (hp : zs.all memB = false) :
    Calls Try.prog 5 #[v, .int .i64 id] w fun e w' => e = .returned (.bool true) ∧ Below w.heap.size w w' := by
  have HG := great8_any w v (.slice none 0 0) zs [] hz (ints_nil _ _)
  rw [decide_eq_false hg, Bool.false_or, List.length_nil, decide_eq_false (by decide)] at HG
  have HS := start8_any w v (.slice none 0 0) zs [] false true hp rfl hz (ints_nil _ _) (by omega) (by decide)
  have HK := fun w => knows8_any w
  go_enter Try.func5, Try.ntmps5
  go_wp2_with fail
  refine HG.mono ?_
  rintro e w1 ⟨rfl, rfl⟩
  clear HG
  go_wp2_with fail
  refine HS.mono ?_
  rintro e w2 ⟨zb, ab, bm, v2, full2, S2, a, b, rfl, hb2, -⟩
  clear HS
  rw [Bool.false_and]
  go_wp2_with fail
  refine (HK _).mono ?_
  rintro e w3 ⟨rfl, hb3⟩
  clear HK
  go_wp2
  go_ret
  exact ⟨rfl, hb2.trans (hb3.mono hb2.size)⟩
theorem or_pow2 : ∀ {i a : Nat}, a.testBit i = false → a ||| 2 ^ i = a + 2 ^ i
  | 0, a, h => by
    have h0 : a % 2 = 0 := by rw [Nat.testBit_zero] at h; have := of_decide_eq_false h; omega
    have h1 : (a ||| 2 ^ 0) / 2 = a / 2 ||| 2 ^ 0 / 2 := Nat.or_div_two
    have h2 : (a ||| 2 ^ 0) % 2 = 1 := Nat.or_mod_two_eq_one.2 (.inr rfl)
    rw [show (2 : Nat) ^ 0 / 2 = 0 from rfl, Nat.or_zero] at h1
    rw [Nat.pow_zero] at *
    omega
  | i + 1, a, h => by
    rw [Nat.testBit_succ] at h
    have ih := or_pow2 h
    have h1 : (a ||| 2 ^ (i + 1)) / 2 = a / 2 ||| 2 ^ (i + 1) / 2 := Nat.or_div_two
    have e : 2 ^ (i + 1) / 2 = 2 ^ i := by rw [Nat.pow_succ]; omega
    have h2 : (a ||| 2 ^ (i + 1)) % 2 = 1 ↔ a % 2 = 1 ∨ 2 ^ (i + 1) % 2 = 1 := Nat.or_mod_two_eq_one
    rw [e, ih] at h1
    have e2 : 2 ^ (i + 1) = 2 * 2 ^ i := by rw [Nat.pow_succ]; omega
    generalize a ||| 2 ^ (i + 1) = k at *
    generalize 2 ^ (i + 1) = p at *
    generalize 2 ^ i = m at *
    omega
theorem items_back {i : Nat} (hi : i < 24) (F : Nat → Bool) (hF : ∀ n, F n = true → n < 2 ^ 24) : op2F 0 (lackF i F) (joinF 24 (withF i F) (rowF [2 ^ i])) = F := by
  funext n
  show (lackF i F n || joinF 24 (withF i F) (rowF [2 ^ i]) n) = F n
  rw [Bool.eq_iff_iff, Bool.or_eq_true, joinF_iff]
  unfold lackF withF rowF
  constructor
  · rintro (h | ⟨a, b, ha, hb, h1, h2, rfl⟩)
    · rw [Bool.and_eq_true] at h
      exact h.2
    · have e := List.mem_singleton.1 (of_decide_eq_true h2)
      subst e
      rw [Bool.and_eq_true, Bool.not_eq_true'] at h1
      rw [or_pow2 h1.1]
      exact h1.2
  · intro h
    cases hb : n.testBit i
    · exact .inl (by rw [h]; rfl)
    · obtain ⟨s1, s2⟩ := bit_sub hb
      refine .inr ⟨n - 2 ^ i, 2 ^ i, Nat.lt_of_le_of_lt (Nat.sub_le _ _) (hF n h), Nat.pow_lt_pow_right (by decide) hi, by rw [s1, s2, h]; rfl, decide_eq_true List.mem_cons_self, ?_⟩
      rw [or_pow2 s1, s2]
set_option maxHeartbeats 4000000 in
set_option maxRecDepth 100000 in
theorem items8_bad (w : World) (v : Value) (zs : List Int) (id : Int) (hz : IntsAt w w.heap.size v zs) (hg : ¬ 40 < zs.length) (hp : zs.all memB = true) (hb : id < 0 ∨ 24 ≤ id) :
    Calls Try.prog 5 #[v, .int .i64 id] w fun e w' => e = .returned (.bool true) ∧ Below w.heap.size w w' := by
  have HG := great8_any w v (.slice none 0 0) zs [] hz (ints_nil _ _)
  rw [decide_eq_false hg, Bool.false_or, List.length_nil, decide_eq_false (by decide)] at HG
  have HS := start8_any w v (.slice none 0 0) zs [] true true hp rfl hz (ints_nil _ _) (by omega) (by decide)
  have HK := fun w => knows8_any w
  obtain ⟨hzn, hlt⟩ := nats_good hp
  have hl40 : (natsOf zs).length ≤ 40 := by rw [natsOf_len]; omega
  have HR := fun w1 (hb : Below w.heap.size w w1) => rof8_any v (natsOf zs) (by omega) w1 (by rw [← hzn]; exact (hz.below hb).more hb.size)
  clear hz hzn
  go_enter Try.func5, Try.ntmps5
  go_wp2_with fail
  refine HG.mono ?_
  rintro e w1 ⟨rfl, rfl⟩
  clear HG
  go_wp2_with fail
  refine HS.mono ?_
  rintro e w2 ⟨zb, ab, bm, v2, full2, S, f, b, rfl, hb2, hok⟩
  obtain ⟨hd2, hf, -, hcn⟩ := hok rfl rfl
  clear HS hok
  rw [Bool.true_and]
  have HR2 := HR w2 hb2
  clear HR
  go_wp2_with fail
  refine HR2.mono ?_
  rintro e w3 ⟨A, c, r, rfl, -, -, hr3, hsr, hmr, -, -, hb3⟩
  have hB3 := hb2.trans (hb3.mono hb2.size)
  have hd3 := hd2.below hb3
  have HW := zWith_bad hd3 f id hf.1 hb
  have HO := fun w1 (hb1 : Below w3.heap.size w3 w1) => zWithout_bad (hd3.below hb1) f id hf.1 hb
  clear HR2 hd2 hb3 hb2 hr3 hsr hmr hf
  go_wp2_with fail
  refine HW.mono ?_
  rintro e w4 ⟨rfl, hb4⟩
  have hB4 := hB3.trans (hb4.mono hB3.size)
  have HO4 := HO w4 hb4
  clear HW HO hd3 hB3
  go_wp2_with fail
  refine HO4.mono ?_
  rintro e w5 ⟨rfl, hb5⟩
  have hB5 := hB4.trans (hb5.mono hB4.size)
  clear HO4 hB4
  rcases hb with hb | hb
  · go_wp2_with fail
    refine (HK _).mono ?_
    rintro e w6 ⟨rfl, hb6⟩
    go_wp2
    go_ret
    exact ⟨rfl, hB5.trans (hb6.mono hB5.size)⟩
  · have hn : ¬ id < 0 := by omega
    go_wp2_with fail
    refine (HK _).mono ?_
    rintro e w6 ⟨rfl, hb6⟩
    go_wp2
    go_ret
    exact ⟨rfl, hB5.trans (hb6.mono hB5.size)⟩
theorem held_eqi {S : St} {a b : Int} {F : Nat → Bool} (hZ : ZSt S) (ha : Held S a F) (hb : Held S b F) : a = b := (z_eq hZ ha.1 hb.1).1 (ha.2.trans hb.2.symm)
theorem cF_with : ∀ (D i : Nat) (F : Nat → Bool), i < D → cF D (withF i F) ≤ cF D F
  | 0, _, _, h => absurd h (Nat.not_lt_zero _)
  | D + 1, 0, F, _ => by
    rw [cF, cF, withF_00, withF_01, cF_false]
    omega
  | D + 1, i + 1, F, h => by
    rw [cF, cF, withF_s0, withF_s1]
    have := cF_with D i (half0 F) (by omega)
    have := cF_with D i (half1 F) (by omega)
    omega
theorem cF_lack (D i : Nat) (F : Nat → Bool) : cF D (lackF i F) ≤ cF D F := cF_le D fun n h => by
  unfold lackF at h
  rw [Bool.and_eq_true] at h
  exact h.2
set_option maxHeartbeats 4000000 in
set_option maxRecDepth 100000 in
theorem items8_yes (w : World) (v : Value) (zs : List Int) (id : Int) (i : Nat) (hid : Hid (id.toNat = i)) (hz : IntsAt w w.heap.size v zs) (hg : ¬ 40 < zs.length) (hp : zs.all memB = true) (h0 : 0 ≤ id) (h1 : id < 24) (hi24 : i < 24) :
    Calls Try.prog 5 #[v, .int .i64 id] w fun e w' => e = .returned (.bool true) ∧ Below w.heap.size w w' := by
  have HG := great8_any w v (.slice none 0 0) zs [] hz (ints_nil _ _)
  rw [decide_eq_false hg, Bool.false_or, List.length_nil, decide_eq_false (by decide)] at HG
  have HS := start8_any w v (.slice none 0 0) zs [] true true hp rfl hz (ints_nil _ _) (by omega) (by decide)
  have HK := fun w => knows8_any w
  obtain ⟨hzn, hlt⟩ := nats_good hp
  have hl40 : (natsOf zs).length ≤ 40 := by rw [natsOf_len]; omega
  have HR := fun w1 (hb : Below w.heap.size w w1) => rof8_any v (natsOf zs) (by omega) w1 (by rw [← hzn]; exact (hz.below hb).more hb.size)
  have hlz := natsOf_len zs
  clear hz hzn
  go_enter Try.func5, Try.ntmps5
  go_wp2_with fail
  refine HG.mono ?_
  rintro e w1 ⟨rfl, rfl⟩
  clear HG
  go_wp2_with fail
  refine HS.mono ?_
  rintro e w2 ⟨zb, ab, bm, v2, full2, S, f, b, rfl, hb2, hok⟩
  obtain ⟨hd2, hf, -, hcn⟩ := hok rfl rfl
  rw [List.length_nil] at hcn
  clear HS hok
  rw [Bool.true_and]
  have HR2 := HR w2 hb2
  clear HR
  go_wp2_with fail
  refine HR2.mono ?_
  rintro e w3 ⟨A, c, r, rfl, -, -, hr3, hsr, hmr, hrl, hrf, hb3⟩
  have hB3 := hb2.trans (hb3.mono hb2.size)
  have hd3 := hd2.grow hb3
  have hN3 : ∀ k, k < w.heap.size → (k < w.heap.size ∨ (w2.heap.size ≤ k ∧ k < w3.heap.size)) := fun k hk => .inl hk
  have hfx : ∀ g off, A = some (⟨g, off, none⟩ : Addr) → g < w3.heap.size → (g < w.heap.size ∨ (w2.heap.size ≤ g ∧ g < w3.heap.size)) := fun g off hg hlt => .inr ⟨hrf g off hg, hlt⟩
  have hrow := row_fam hlt hsr hmr
  have za : zn S f ≤ 40 := by rw [hf.zn]; have := cF_row_le (D := 24) (natsOf zs); omega
  have HW := zWith_any hd3 f id hf.1 h0 h1 (by omega)
  rw [hf.2, hid.out] at HW
  clear HR2 hd2 hb3 hb2 hsr hmr hrf
  go_wp2_with fail
  refine HW.mono ?_
  intro e w4 hM
  obtain ⟨v4, full4, S4, wi, rfl, hd4, hk4, hx4, hw4, hc4⟩ := made_ok hM (by omega)
  have hB4 := hB3.trans (hk4.belowN hN3 hB3.size)
  have hr4 := hr3.kzF hk4 (Nat.le_refl _) hfx
  have hs4 := hk4.size
  have hf4 := hf.ext hd3.zst.vst hx4
  have za4 : zn S4 f ≤ 40 := by rw [hf4.zn]; have := cF_row_le (D := 24) (natsOf zs); omega
  have hc4' : cnt S4 ≤ 2000 := by omega
  have HO := zWithout_any hd4 f id hf4.1 h0 h1 (by omega)
  rw [hf4.2, hid.out] at HO
  clear HW hM hd3 hk4 hx4 hc4 hf za hr3 hB3 hcn
  go_wp2_with fail
  refine HO.mono ?_
  intro e w5 hM
  obtain ⟨v5, full5, S5, ou, rfl, hd5, hk5, hx5, ho5, hc5⟩ := made_ok hM (by omega)
  have hB5 := hB4.trans (hk5.belowN hN3 hB4.size)
  have hr5 := hr4.kzF hk5 hs4 hfx
  have hs5 := Nat.le_trans hs4 hk5.size
  have hf5 := hf4.ext hd4.zst.vst hx5
  have hw5 := hw4.ext hd4.zst.vst hx5
  have hc5' : cnt S5 ≤ 3000 := by omega
  have hrowH := Lib.hid hrow
  have hlzH := Lib.hid hlz
  have hltH := Lib.hid hlt
  clear HO hM hd4 hk5 hx5 hc5 hf4 za4 hr4 hB4 hw4 hs4 hc4' hrow hlz hlt hl40 hp
  have hcW := Lib.hid (cF_with 24 i (rowF (natsOf zs)) hi24)
  have hcL := Lib.hid (cF_lack 24 i (rowF (natsOf zs)))
  have hcR := Lib.hid (cF_row_le (D := 24) (natsOf zs))
  have hc5H := Lib.hid hc5'
  have hs5H := Lib.hid hs5
  have n0 : decide (id < 0) = false := decide_eq_false (by omega)
  have n1 : decide (23 < id) = false := decide_eq_false (by omega)
  have hp2 : ∀ k, Hid (2 ^ (k + 1) = 2 ^ k * 2) := fun k => Lib.hid (Nat.pow_succ 2 k)
  have hpl : Hid (2 ^ i ≤ 8388608) := Lib.hid (Nat.le_trans (Nat.pow_le_pow_right (by decide) (by omega : i ≤ 23)) (by decide : (2 : Nat) ^ 23 ≤ 8388608))
  have hid' : id = (i : Int) := by have := hid.out; omega
  subst hid'
  clear hc5' hs5
  go_wp2
  clear n0 n1
  go_loopw [15, 16] (fun p t wr => ∃ k : Nat, k ≤ i ∧ t = .int .i64 k ∧ p = .int .i64 ((2 ^ k : Nat) : Int) ∧ w5 = wr) (fun _ t _ => i - (intOf t).toNat)
  case atStart => exact ⟨0, by omega, rfl, rfl, rfl⟩
  case round =>
    obtain ⟨k, hk, rfl, rfl, rfl⟩ := hrel
    by_cases hki : k < i
    · have hp := hp2 k
      have h24 := two24 (show k + 1 ≤ 24 by omega)
      have hkd : decide ((k : Int) < (i : Int)) = true := decide_eq_true (by omega)
      clear hp2 hpl hd5 hr5 hf5 hw5 ho5 hN3 hfx HK
      generalize hq : 2 ^ (k + 1) = q at *
      generalize 2 ^ k = p at *
      have hpq := hp.out
      have hqH := Lib.hid hq
      clear hq
      go_wp2
      go_roundw
      case rel => exact ⟨k + 1, by omega, by go_num, by rw [hqH.out, hp.out]; go_num, trivial⟩
      case measure => simp [intOf]; omega
    · obtain rfl : k = i := by omega
      have hkd : decide ((k : Int) < (k : Int)) = false := decide_eq_false (by omega)
      generalize hP : 2 ^ k = P at *
      have hPl := hpl.out
      have hPH := Lib.hid hP
      clear hP hpl hp2
      have hla := below_alloc1 w5 (.cells #[.int .i64 P] 3 (0, 0))
      have hda := hd5.below hla
      have HA := zOf_any (l := [P]) hda (lit_nats (heap_alloc_new w5 _) rfl rfl (show (1 : Nat) ≤ 8 by decide)) (by intro x hx; have e := List.mem_singleton.1 hx; omega) (show (1 : Nat) ≤ 1000 by decide)
      have hra := hr5.below (hla.mono hs5H.out)
      have hsa := Nat.le_trans hs5H.out hla.size
      have hBa := hB5.trans (hla.mono hB5.size)
      clear hd5 hr5 hla hB5 hs5H
      go_wp2_with fail
      refine HA.mono ?_
      intro e w6 hM
      obtain ⟨v6, full6, S6, o6, rfl, hd6, hk6, hx6, hh6, hc6⟩ := made_ok hM (by have := hc5H.out; show ¬ 20000 ≤ cnt S5 + 24; omega)
      have hc6' : Hid (cnt S6 ≤ 3024) := Lib.hid (by have := hc5H.out; have h : cnt S6 ≤ cnt S5 + 24 := hc6; omega)
      have hB6 := hBa.trans (hk6.belowN hN3 hBa.size)
      have hr6 := hra.kzF hk6 hsa hfx
      have hs6 := Nat.le_trans hsa hk6.size
      have hf6 := hf5.ext hda.zst.vst hx6
      have hw6 := hw5.ext hda.zst.vst hx6
      have ho6 := ho5.ext hda.zst.vst hx6
      have z1 : zn S6 wi ≤ 40 := by rw [hw6.zn]; have := hcW.out; have := hcR.out; have := hlzH.out; omega
      have z2 : zn S6 o6 ≤ 1 := by rw [hh6.zn]; exact cF_row1 P
      have zz := Nat.mul_le_mul z1 z2
      have hcJ := cF_join 24 (withF k (rowF (natsOf zs))) (rowF [P])
      have hcJ2 : cF 24 (joinF 24 (withF k (rowF (natsOf zs))) (rowF [P])) ≤ 40 := by
        rw [hw6.zn, hh6.zn] at zz
        omega
      have HJ := zJoin_any hd6 wi o6 hw6.1 hh6.1 (by omega) (by rw [hw6.2, hh6.2]; omega) (by omega)
      rw [hw6.2, hh6.2] at HJ
      have z1H := Lib.hid z1
      have z2H := Lib.hid z2
      have zzH := Lib.hid zz
      have hcJH := Lib.hid hcJ2
      clear HA hM hda hk6 hra hBa hf5 hw5 ho5 hx6 hc6 hsa hh6 hc5H z1 z2 zz hcJ hcJ2
      go_wp2_with fail
      refine HJ.mono ?_
      intro e w7 hM
      obtain ⟨v7, full7, S7, j7, rfl, hd7, hk7, hx7, hh7, hc7⟩ := made_ok hM (by
        have := z1H.out
        have := z2H.out
        have := zzH.out
        have := hcJH.out
        have := hc6'.out
        unfold EJ; omega)
      have hc7' : Hid (cnt S7 ≤ 4000) := Lib.hid (by have := hcJH.out; have := hc6'.out; omega)
      have hB7 := hB6.trans (hk7.belowN hN3 hB6.size)
      have hr7 := hr6.kzF hk7 hs6 hfx
      have hs7 := Nat.le_trans hs6 hk7.size
      have hf7 := hf6.ext hd6.zst.vst hx7
      have hw7 := hw6.ext hd6.zst.vst hx7
      have ho7 := ho6.ext hd6.zst.vst hx7
      have z3 : Hid (zn S7 ou ≤ 40) := Lib.hid (by rw [ho7.zn]; have := hcL.out; have := hcR.out; have := hlzH.out; omega)
      have HU := zUnion_any hd7 ou j7 ho7.1 hh7.1 (by have := z3.out; omega)
      rw [ho7.2, hh7.2] at HU
      clear HJ hM hd6 hk7 hr6 hB6 hf6 hw6 ho6 hx7 hc7 hs6 z1H z2H zzH hc6'
      go_wp2_with fail
      refine HU.mono ?_
      intro e w8 hM
      obtain ⟨v8, full8, S8, al, rfl, hd8, hk8, hx8, hh8, hc8⟩ := made_ok hM (by
        have := z3.out
        have := hc7'.out
        omega)
      have hB8 := hB7.trans (hk8.belowN hN3 hB7.size)
      have hr8 := (hr7.kzF hk8 hs7 hfx).more (Nat.le_trans hs7 hk8.size)
      have hf8 := hf7.ext hd7.zst.vst hx8
      have hw8 := hw7.ext hd7.zst.vst hx8
      have ho8 := ho7.ext hd7.zst.vst hx8
      obtain rfl : al = f := held_eqi hd8.zst hh8 (by
        rw [← hPH.out, items_back hi24 (rowF (natsOf zs)) (fun n hn => by
          unfold rowF at hn
          exact hltH.out n (of_decide_eq_true hn))]
        exact hf8)
      have HL1 := list8_ok hd8 hw8 (by have := hcW.out; have := hcR.out; have := hlzH.out; omega)
      have hHL2 := fun w9 (hb : Below w8.heap.size w8 w9) => list8_ok (hd8.below hb) ho8 (by have := hcL.out; have := hcR.out; have := hlzH.out; omega)
      have hlr : r.length ≤ 1000 := by have := hlzH.out; omega
      have hmr : ∀ x ∈ r, x < 16777216 := fun x hx => by
        rw [← hrowH.out, famL_mem] at hx
        exact hx.1
      have HP1 := fun w9 (hb : Below w8.heap.size w8 w9) => rpart8_any (.slice A r.length c) r k true hlr hmr hi24 w9 ((hr8.below hb).more hb.size)
      have HP2 := fun w9 (hb : Below w8.heap.size w8 w9) => rpart8_any (.slice A r.length c) r k false hlr hmr hi24 w9 ((hr8.below hb).more hb.size)
      have hp1 : r.flatMap (partF k true) = famL 24 (withF k (rowF (natsOf zs))) := by rw [← hrowH.out]; exact part_row1 hi24
      have hp0 : r.flatMap (partF k false) = famL 24 (lackF k (rowF (natsOf zs))) := by rw [← hrowH.out]; exact part_row0
      rw [hp1] at HP1
      rw [hp0] at HP2
      clear HU hM hd7 hk8 hr7 hB7 hf7 hw7 ho7 hx8 hc8 hs7 hh7 hh8 hf8 hw8 ho8 hd8 hr8 hp1 hp0 hmr hlr hc7' z3 hcJH hcW hcL hcR hN3 hfx hPl hPH hrowH hlzH hltH hrl
      go_wp2_with fail
      refine HL1.mono ?_
      rintro e w9 ⟨u9, rfl, hI9, -, hb9⟩
      have hB9 := hB8.trans (hb9.mono hB8.size)
      have HP := HP1 w9 hb9
      clear HL1 HP1
      go_wp2_with fail
      refine HP.mono ?_
      rintro e w10 ⟨u10, rfl, hI10, hb10⟩
      have h10 := hb9.trans (hb10.mono hb9.size)
      have hB10 := hB9.trans (hb10.mono hB9.size)
      have HE := rsame8_any w10 u9 u10 _ _ ((hI9.below hb10).more hb10.size) hI10
      rw [decide_eq_true rfl] at HE
      obtain ⟨A9, c9, rfl, -, -⟩ := hI9
      obtain ⟨A10, c10, rfl, -, -⟩ := hI10
      clear HP hb9 hb10 hB9
      go_wp2_with fail
      refine HE.mono ?_
      rintro e w11 ⟨rfl, hb11⟩
      have h11 := h10.trans (hb11.mono h10.size)
      have hB11 := hB10.trans (hb11.mono hB10.size)
      have HL2 := hHL2 w11 h11
      clear HE h10 hB10 hb11 hHL2
      go_wp2_with fail
      refine HL2.mono ?_
      rintro e w12 ⟨u12, rfl, hI12, -, hb12⟩
      have h12 := h11.trans (hb12.mono h11.size)
      have hB12 := hB11.trans (hb12.mono hB11.size)
      have HP := HP2 w12 h12
      clear HL2 HP2 h11 hB11 hb12
      go_wp2_with fail
      refine HP.mono ?_
      rintro e w13 ⟨u13, rfl, hI13, hb13⟩
      have hB13 := hB12.trans (hb13.mono hB12.size)
      have HE := rsame8_any w13 u12 u13 _ _ ((hI12.below hb13).more hb13.size) hI13
      rw [decide_eq_true rfl] at HE
      obtain ⟨A12, c12, rfl, -, -⟩ := hI12
      obtain ⟨A13, c13, rfl, -, -⟩ := hI13
      clear HP h12 hB12 hb13
      go_wp2_with fail
      refine HE.mono ?_
      rintro e w14 ⟨rfl, hb14⟩
      have hB14 := hB13.trans (hb14.mono hB13.size)
      clear HE hB13 hb14
      go_wp2_with fail
      refine (HK _).mono ?_
      rintro e w19 ⟨rfl, hb19⟩
      go_wp2
      go_ret
      exact ⟨rfl, hB14.trans (hb19.mono hB14.size)⟩
end Go.Proofs.Ytkkdfpmjmommcaa
