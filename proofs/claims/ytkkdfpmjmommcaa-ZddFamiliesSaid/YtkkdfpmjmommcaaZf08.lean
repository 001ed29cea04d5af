/- ZddFamilies. -/
import Derived.Test.YtkkdfpmjmommcaaZkn08
namespace Go.Proofs.Ytkkdfpmjmommcaa
open Go.RowKit Go.Joins

set_option maxHeartbeats 1000000 in
theorem fam8_great (w : World) (v : Value) (zs : List Int) (id : Int) (hz : IntsAt w w.heap.size v zs) (hg : 40 < zs.length) :
    Calls Try.prog 3 #[v, .int .i64 id] w fun e w' => e = .returned (.bool true) ∧ Below w.heap.size w w' := by
  have HG := great8_any w v (.slice none 0 0) zs [] hz (ints_nil _ _)
  rw [decide_eq_true hg, Bool.true_or] at HG
  have HK := fun w => knows8_any w
  go_enter Try.func3, Try.ntmps3
  go_wp2_with fail
  refine HG.mono ?_
  rintro e w1 ⟨rfl, rfl⟩
  clear HG
  go_wp2_with fail
  refine (HK _).mono ?_
  rintro e w2 ⟨rfl, hb2⟩
  clear HK
  go_wp2
  go_ret
  exact ⟨rfl, hb2⟩
set_option maxHeartbeats 1000000 in
set_option maxRecDepth 100000 in
theorem fam8_no (w : World) (v : Value) (zs : List Int) (id : Int) (hz : IntsAt w w.heap.size v zs) (hg : ¬ 40 < zs.length) (hp : zs.all memB = false) :
    Calls Try.prog 3 #[v, .int .i64 id] w fun e w' => e = .returned (.bool true) ∧ Below w.heap.size w w' := by
  have HG := great8_any w v (.slice none 0 0) zs [] hz (ints_nil _ _)
  rw [decide_eq_false hg, Bool.false_or, List.length_nil, decide_eq_false (by decide)] at HG
  have HS := start8_any w v (.slice none 0 0) zs [] false true hp rfl hz (ints_nil _ _) (by omega) (by decide)
  have HK := fun w => knows8_any w
  go_enter Try.func3, Try.ntmps3
  go_wp2_with fail
  refine HG.mono ?_
  rintro e w1 ⟨rfl, rfl⟩
  clear HG
  go_wp2_with fail
  refine HS.mono ?_
  rintro e w2 ⟨zb, ab, bm, v2, full2, S2, a, b, rfl, hb2, -⟩
  clear HS
  rw [Bool.false_and]
  go_wp2_with fail
  refine (HK _).mono ?_
  rintro e w3 ⟨rfl, hb3⟩
  clear HK
  go_wp2
  go_ret
  exact ⟨rfl, hb2.trans (hb3.mono hb2.size)⟩
/-- List of any id, in one word. -/
theorem zList_id {N : Nat → Prop} {w : World} {zb ab bm : Nat} {v : Value} {room full : Nat} {S : St} (h : ZdAt w N zb ab bm v room full S) (f : Int) :
    Calls Try.prog 14 #[.pointer (some ⟨zb, 0, none⟩), .int .i64 f] w fun e w' => ∃ (A : Option Addr) (n c : Nat) (er : Int), e = .returned (.tuple #[.slice A n c, .int .i64 er]) ∧ (usedB S f = false → n = 0 ∧ er = 1) ∧ Below w.heap.size w w' := by
  cases hu : usedB S f
  · refine (zList_bad h f hu).mono ?_
    rintro e w' ⟨rfl, hb⟩
    exact ⟨none, 0, 0, 1, rfl, fun _ => ⟨rfl, rfl⟩, hb⟩
  · have f0 : 0 ≤ lvl S f := of_decide_eq_true hu
    by_cases hz : zn S f ≤ 100000
    · refine (zList_any h f f0 hz).mono ?_
      rintro e w' ⟨u, rfl, ⟨A, c, rfl, -⟩, -, hb⟩
      exact ⟨A, _, c, 0, rfl, fun h => (by cases h), hb⟩
    · refine (zList_full h f f0 (by omega)).mono ?_
      rintro e w' ⟨er, rfl, hb⟩
      exact ⟨none, 0, 0, er, rfl, fun h => (by cases h), hb⟩
set_option maxHeartbeats 4000000 in
set_option maxRecDepth 100000 in
theorem fam8_yes (w : World) (v : Value) (zs : List Int) (id : Int) (hz : IntsAt w w.heap.size v zs) (hg : ¬ 40 < zs.length) (hp : zs.all memB = true) :
    Calls Try.prog 3 #[v, .int .i64 id] w fun e w' => e = .returned (.bool true) ∧ Below w.heap.size w w' := by
  have HG := great8_any w v (.slice none 0 0) zs [] hz (ints_nil _ _)
  rw [decide_eq_false hg, Bool.false_or, List.length_nil, decide_eq_false (by decide)] at HG
  have HS := start8_any w v (.slice none 0 0) zs [] true true hp rfl hz (ints_nil _ _) (by omega) (by decide)
  have HK := fun w => knows8_any w
  obtain ⟨hzn, hlt⟩ := nats_good hp
  have hl40 : (natsOf zs).length ≤ 40 := by rw [natsOf_len]; omega
  have HR := fun w1 (hb : Below w.heap.size w w1) => rof8_any v (natsOf zs) (by omega) w1 (by rw [← hzn]; exact (hz.below hb).more hb.size)
  clear hz
  go_enter Try.func3, Try.ntmps3
  go_wp2_with fail
  refine HG.mono ?_
  rintro e w1 ⟨rfl, rfl⟩
  clear HG
  go_wp2_with fail
  refine HS.mono ?_
  rintro e w2 ⟨zb, ab, bm, v2, full2, S, f, b, rfl, hb2, hok⟩
  obtain ⟨hd2, hf, -, hcn⟩ := hok rfl rfl
  clear HS hok
  rw [Bool.true_and]
  have HR2 := HR w2 hb2
  clear HR
  go_wp2_with fail
  refine HR2.mono ?_
  rintro e w3 ⟨A, c, r, rfl, -, -, hr3, hsr, hmr, -, -, hb3⟩
  have hB3 := hb2.trans (hb3.mono hb2.size)
  have hd3 := hd2.below hb3
  have hrow := row_fam hlt hsr hmr
  have HL := zList_id hd3 id
  clear HR2 hd2 hb3 hb2
  go_wp2_with fail
  refine HL.mono ?_
  rintro e w4 ⟨A4, n4, c4, er, rfl, hun, hb4⟩
  have hB4 := hB3.trans (hb4.mono hB3.size)
  have hd4 := hd3.below hb4
  have hr4 := (hr3.below hb4).more hb4.size
  have HZ := zSize_any hd4 id
  clear HL hd3 hr3 hb4 hB3
  go_wp2_with fail
  refine HZ.mono ?_
  rintro e w5 ⟨n5, rfl, hn5, hb5⟩
  have hB5 := hB4.trans (hb5.mono hB4.size)
  have hd5 := hd4.below hb5
  have hr5 := (hr4.below hb5).more hb5.size
  clear HZ hd4 hr4 hb5 hB4
  have hcF : cF 24 (rowF (natsOf zs)) = r.length := by rw [← famL_len, hrow]
  have hr40 : r.length ≤ 40 := by have := cF_row_le (D := 24) (natsOf zs); omega
  clear hmr hsr hlt hp hzn hcn
  by_cases hn0 : n5 = 0
  · subst hn0
    have hnd := hn5.1.1 rfl
    clear hn5
    by_cases h0 : id = 0
    · subst h0
      clear hun
      have HL2 := list8_ok hd5 hf (by rw [hcF]; omega)
      rw [hrow] at HL2
      go_wp2_with fail
      refine HL2.mono ?_
      rintro e w7 ⟨u, rfl, hu7, -, hb7⟩
      have hB7 := hB5.trans (hb7.mono hB5.size)
      have hd7 := hd5.below hb7
      have HE := rsame8_any w7 u _ (nI r) (nI r) hu7 ((hr5.below hb7).more hb7.size)
      rw [show decide (nI r = nI r) = true from decide_eq_true rfl] at HE
      obtain ⟨A7, c7, rfl, -, -⟩ := hu7
      clear HL2 hd5 hr5 hb7 hB5
      go_wp2_with fail
      refine HE.mono ?_
      rintro e w8 ⟨rfl, hb8⟩
      have hB8 := hB7.trans (hb8.mono hB7.size)
      have hd8 := hd7.below hb8
      have HC := zCount_any hd8 f hf.1
      rw [hf.zn, hcF] at HC
      clear HE hd7 hb8 hB7
      go_wp2_with fail
      refine HC.mono ?_
      rintro e w9 ⟨rfl, hb9⟩
      have hB9 := hB8.trans (hb9.mono hB8.size)
      have HZ := zSize_any (hd8.below hb9) f
      clear HC hd8 hb9 hB8
      go_wp2_with fail
      refine HZ.mono ?_
      rintro e w10 ⟨m, rfl, hm, hb10⟩
      have hB10 := hB9.trans (hb10.mono hB9.size)
      have hle : m ≤ 24 * r.length := by have := hm.2 hf.1; rw [hf.zn, hcF] at this; exact this
      clear HZ hm hb10 hB9 hcF hrow hf hl40
      go_wp2_with fail
      refine (HK _).mono ?_
      rintro e w11 ⟨rfl, hb11⟩
      go_wp2
      go_ret
      exact ⟨rfl, hB10.trans (hb11.mono hB10.size)⟩
    · by_cases h1 : id = 1
      · subst h1
        clear hun
        have HL2 := list8_ok hd5 hf (by rw [hcF]; omega)
        rw [hrow] at HL2
        go_wp2_with fail
        refine HL2.mono ?_
        rintro e w7 ⟨u, rfl, hu7, -, hb7⟩
        have hB7 := hB5.trans (hb7.mono hB5.size)
        have hd7 := hd5.below hb7
        have HE := rsame8_any w7 u _ (nI r) (nI r) hu7 ((hr5.below hb7).more hb7.size)
        rw [show decide (nI r = nI r) = true from decide_eq_true rfl] at HE
        obtain ⟨A7, c7, rfl, -, -⟩ := hu7
        clear HL2 hd5 hr5 hb7 hB5
        go_wp2_with fail
        refine HE.mono ?_
        rintro e w8 ⟨rfl, hb8⟩
        have hB8 := hB7.trans (hb8.mono hB7.size)
        have hd8 := hd7.below hb8
        have HC := zCount_any hd8 f hf.1
        rw [hf.zn, hcF] at HC
        clear HE hd7 hb8 hB7
        go_wp2_with fail
        refine HC.mono ?_
        rintro e w9 ⟨rfl, hb9⟩
        have hB9 := hB8.trans (hb9.mono hB8.size)
        have HZ := zSize_any (hd8.below hb9) f
        clear HC hd8 hb9 hB8
        go_wp2_with fail
        refine HZ.mono ?_
        rintro e w10 ⟨m, rfl, hm, hb10⟩
        have hB10 := hB9.trans (hb10.mono hB9.size)
        have hle : m ≤ 24 * r.length := by have := hm.2 hf.1; rw [hf.zn, hcF] at this; exact this
        clear HZ hm hb10 hB9 hcF hrow hf hl40
        go_wp2_with fail
        refine (HK _).mono ?_
        rintro e w11 ⟨rfl, hb11⟩
        go_wp2
        go_ret
        exact ⟨rfl, hB10.trans (hb11.mono hB10.size)⟩
      · have hunu : usedB S id = false := decide_eq_false (by rw [lvl_not (by omega) hnd]; omega)
        obtain ⟨rfl, rfl⟩ := hun hunu
        have b0 : (id == 0) = false := by simpa using h0
        have b1 : (id == 1) = false := by simpa using h1
        have HU := zCount_bad hd5 id hunu
        clear hnd
        go_wp2_with fail
        refine HU.mono ?_
        rintro e w6 ⟨rfl, hb6⟩
        have hB6 := hB5.trans (hb6.mono hB5.size)
        have hd6 := hd5.below hb6
        have hr6 := (hr5.below hb6).more hb6.size
        clear HU hd5 hr5 hb6 hB5
        have HL2 := list8_ok hd6 hf (by rw [hcF]; omega)
        rw [hrow] at HL2
        go_wp2_with fail
        refine HL2.mono ?_
        rintro e w7 ⟨u, rfl, hu7, -, hb7⟩
        have hB7 := hB6.trans (hb7.mono hB6.size)
        have hd7 := hd6.below hb7
        have HE := rsame8_any w7 u _ (nI r) (nI r) hu7 ((hr6.below hb7).more hb7.size)
        rw [show decide (nI r = nI r) = true from decide_eq_true rfl] at HE
        obtain ⟨A7, c7, rfl, -, -⟩ := hu7
        clear HL2 hd6 hr6 hb7 hB6
        go_wp2_with fail
        refine HE.mono ?_
        rintro e w8 ⟨rfl, hb8⟩
        have hB8 := hB7.trans (hb8.mono hB7.size)
        have hd8 := hd7.below hb8
        have HC := zCount_any hd8 f hf.1
        rw [hf.zn, hcF] at HC
        clear HE hd7 hb8 hB7
        go_wp2_with fail
        refine HC.mono ?_
        rintro e w9 ⟨rfl, hb9⟩
        have hB9 := hB8.trans (hb9.mono hB8.size)
        have HZ := zSize_any (hd8.below hb9) f
        clear HC hd8 hb9 hB8
        go_wp2_with fail
        refine HZ.mono ?_
        rintro e w10 ⟨m, rfl, hm, hb10⟩
        have hB10 := hB9.trans (hb10.mono hB9.size)
        have hle : m ≤ 24 * r.length := by have := hm.2 hf.1; rw [hf.zn, hcF] at this; exact this
        clear HZ hm hb10 hB9 hcF hrow hf hl40
        go_wp2_with fail
        refine (HK _).mono ?_
        rintro e w11 ⟨rfl, hb11⟩
        go_wp2
        go_ret
        exact ⟨rfl, hB10.trans (hb11.mono hB10.size)⟩
  · have hn0' : ((n5 : Int) == 0) = false := by simp; omega
    clear hun
    have HL2 := list8_ok hd5 hf (by rw [hcF]; omega)
    rw [hrow] at HL2
    go_wp2_with fail
    refine HL2.mono ?_
    rintro e w7 ⟨u, rfl, hu7, -, hb7⟩
    have hB7 := hB5.trans (hb7.mono hB5.size)
    have hd7 := hd5.below hb7
    have HE := rsame8_any w7 u _ (nI r) (nI r) hu7 ((hr5.below hb7).more hb7.size)
    rw [show decide (nI r = nI r) = true from decide_eq_true rfl] at HE
    obtain ⟨A7, c7, rfl, -, -⟩ := hu7
    clear HL2 hd5 hr5 hb7 hB5
    go_wp2_with fail
    refine HE.mono ?_
    rintro e w8 ⟨rfl, hb8⟩
    have hB8 := hB7.trans (hb8.mono hB7.size)
    have hd8 := hd7.below hb8
    have HC := zCount_any hd8 f hf.1
    rw [hf.zn, hcF] at HC
    clear HE hd7 hb8 hB7
    go_wp2_with fail
    refine HC.mono ?_
    rintro e w9 ⟨rfl, hb9⟩
    have hB9 := hB8.trans (hb9.mono hB8.size)
    have HZ := zSize_any (hd8.below hb9) f
    clear HC hd8 hb9 hB8
    go_wp2_with fail
    refine HZ.mono ?_
    rintro e w10 ⟨m, rfl, hm, hb10⟩
    have hB10 := hB9.trans (hb10.mono hB9.size)
    have hle : m ≤ 24 * r.length := by have := hm.2 hf.1; rw [hf.zn, hcF] at this; exact this
    clear HZ hm hb10 hB9 hcF hrow hf hl40
    go_wp2_with fail
    refine (HK _).mono ?_
    rintro e w11 ⟨rfl, hb11⟩
    go_wp2
    go_ret
    exact ⟨rfl, hB10.trans (hb11.mono hB10.size)⟩
end Go.Proofs.Ytkkdfpmjmommcaa
