/- BddDoes: what is done with ids says what is done with sets. -/
import Derived.Test.YtbffcnnfkfjpgaaDop06
import Derived.Test.YtbffcnnfkfjpgaaLaw06
namespace Go.Proofs.Ytbffcnnfkfjpgaa
open Go.RowKit Go.Joins

theorem BdAt.grown6 {w w' : World} {B bb ab bm : Nat} {ov v : Value} {room full : Nat} {S : St} {o : List Nat} (h : BdAt w B bb ab bm ov v room full S o) {sbk : Nat} {C : Array Value} {z : Nat × Nat} (hs : w.heap[sbk]? = some (.cells C 4 z)) (hg : w.grownBy w' (some sbk)) : BdAt w' B bb ab bm ov v room full S o :=
  ⟨(hg.block bb (size_of_block h.head) (by
      intro e
      injection e with e
      subst e
      have := h.head
      rw [hs] at this
      injection this with this
      injection this with _ ht _
      exact absurd ht (by decide))).trans h.head,
    own_keep h.row (fun g hv _ hl => hg.block g hl (by intro e; injection e with e; subst e; exact own_ne h.row hs (by decide) hv)),
    h.ar.grown hs Try.neBoolA Try.neBoolS hg, h.ok, h.rst, h.lst, h.ord, h.eight⟩
set_option maxHeartbeats 4000000 in
set_option maxRecDepth 100000 in
theorem does6_in (v : Value) (o : List Nat) (X Y Z : BitVec 256) (m : Nat) (w : World) (hz : IntsAt w w.heap.size v (ofN o)) (ho : OrdOk o) (h8 : o.length ≤ 8) (hX : X &&& ~~~(allB o.length) = 0) (hY : Y &&& ~~~(allB o.length) = 0) (hZ : Z &&& ~~~(allB o.length) = 0) (hm : m < o.length) :
    Calls Try.prog 4 #[v, sv X, sv Y, sv Z, .int .i64 m] w fun e w' => e = .returned (.bool true) ∧ Below w.heap.size w w' := by
  have HK := fun w => knows6_any w
  have hB := below_alloc3 w (.cells (sa X) 25) (.cells (sa Y) 25) (.cells (sa Z) 25)
  have xbX := heap_alloc3_a w (.cells (sa X) 25) (.cells (sa Y) 25) (.cells (sa Z) 25)
  have xbY := heap_alloc3_b w (.cells (sa X) 25) (.cells (sa Y) 25) (.cells (sa Z) 25)
  have xbZ := heap_alloc3_c w (.cells (sa X) 25) (.cells (sa Y) 25) (.cells (sa Z) 25)
  have hlow := hB.size
  have HS := start6_yes _ v o ((hz.below hB).more hB.size) ho h8
  have lX := fit_low h8 hX
  have lY := fit_low h8 hY
  have lZ := fit_low h8 hZ
  have HAl := fun w => refall_any o.length h8 w
  have hE0 := fun w => eq4_refl (wd ((X &&& Y) ||| (Z &&& ~~~X)) 0).toNat (wd ((X &&& Y) ||| (Z &&& ~~~X)) 1).toNat (wd ((X &&& Y) ||| (Z &&& ~~~X)) 2).toNat (wd ((X &&& Y) ||| (Z &&& ~~~X)) 3).toNat w
  have hE1 := fun w => eq4_refl (wd (allB o.length &&& ~~~X) 0).toNat (wd (allB o.length &&& ~~~X) 1).toNat (wd (allB o.length &&& ~~~X) 2).toNat (wd (allB o.length &&& ~~~X) 3).toNat w
  have hE2 := fun w => eq4_refl (wd (X &&& Y) 0).toNat (wd (X &&& Y) 1).toNat (wd (X &&& Y) 2).toNat (wd (X &&& Y) 3).toNat w
  have hE3 := fun w => eq4_refl (wd (X ||| Y) 0).toNat (wd (X ||| Y) 1).toNat (wd (X ||| Y) 2).toNat (wd (X ||| Y) 3).toNat w
  obtain ⟨L, hLl, hL⟩ := ho.place hm
  have hE9 := fun w => eq4_refl (wd (wantB X m) 0).toNat (wd (wantB X m) 1).toNat (wd (wantB X m) 2).toNat (wd (wantB X m) 3).toNat w
  have HLs := fun w => reflist_any X w
  have lA : ∀ p, 2 ^ o.length ≤ p → (allB o.length).getLsbD p = false := fun p hp => by rw [allB_bit6 _ _ h8]; exact decide_eq_false (by omega)
  obtain ⟨A, c, rfl, -, -⟩ := hz
  rw [ofN_len] at HS ⊢
  unfold sv wv at *
  unfold sa wv at hB HS xbX xbY xbZ
  go_enter Try.func4, Try.ntmps4
  go_wp2_with fail
  refine HS.mono ?_
  rintro e w1 ⟨bb, ab, bm, ov, rfl, hd, hb1⟩
  clear HS
  replace xbX := keep_blk hb1 xbX
  replace xbY := keep_blk hb1 xbY
  replace xbZ := keep_blk hb1 xbZ
  replace hB := hB.trans (hb1.mono hB.size)
  clear hb1
  have hc0 : cnt ([] : St) = 0 := rfl
  have HO := bof_yes hd X hX
  have hV := hd.rst.vst
  unfold sv wv at HO
  obtain ⟨bX0, bX1, bX2, bX3, -⟩ := now4 xbX rfl
  obtain ⟨bY0, bY1, bY2, bY3, -⟩ := now4 xbY rfl
  obtain ⟨bZ0, bZ1, bZ2, bZ3, -⟩ := now4 xbZ rfl
  go_wp2_with fail
  refine HO.mono ?_
  rintro e w2 ⟨v2, full2, S1, f, er, rfl, hd2, hb, hk, hO⟩
  clear bX0 bX1 bX2 bX3 bY0 bY1 bY2 bY3 bZ0 bZ1 bZ2 bZ3
  clear HO
  obtain ⟨rfl, f0, fs⟩ := hO.1.enough (need0 h8 (k := 0) (by omega) (by omega))
  have hc1 := hO.1.less h8
  replace xbX := hk.cells _ _ _ _ xbX (by decide) (by decide)
  replace xbY := hk.cells _ _ _ _ xbY (by decide) (by decide)
  replace xbZ := hk.cells _ _ _ _ xbZ (by decide) (by decide)
  replace hB := hB.trans (hb.mono hlow)
  clear hb
  replace hd := hd2
  clear hO hV
  have HO := bof_yes hd Y hY
  have hV := hd.rst.vst
  unfold sv wv at HO
  obtain ⟨bX0, bX1, bX2, bX3, -⟩ := now4 xbX rfl
  obtain ⟨bY0, bY1, bY2, bY3, -⟩ := now4 xbY rfl
  obtain ⟨bZ0, bZ1, bZ2, bZ3, -⟩ := now4 xbZ rfl
  go_wp2_with fail
  refine HO.mono ?_
  rintro e w3 ⟨v3, full3, S2, g, er, rfl, hd2, hb, hk, hO⟩
  clear bX0 bX1 bX2 bX3 bY0 bY1 bY2 bY3 bZ0 bZ1 bZ2 bZ3
  clear HO
  obtain ⟨rfl, g0, gs⟩ := hO.1.enough (need0 h8 (k := 1) (by omega) (by omega))
  have hc2 := hO.1.less h8
  obtain ⟨f0', fs'⟩ := says_on hV hO.1.ext f0 fs
  clear f0 fs
  have f0 := f0'
  have fs := fs'
  clear f0' fs'
  replace xbX := hk.cells _ _ _ _ xbX (by decide) (by decide)
  replace xbY := hk.cells _ _ _ _ xbY (by decide) (by decide)
  replace xbZ := hk.cells _ _ _ _ xbZ (by decide) (by decide)
  replace hB := hB.trans (hb.mono hlow)
  clear hb
  replace hd := hd2
  clear hO hV
  have HO := bof_yes hd Z hZ
  have hV := hd.rst.vst
  unfold sv wv at HO
  obtain ⟨bX0, bX1, bX2, bX3, -⟩ := now4 xbX rfl
  obtain ⟨bY0, bY1, bY2, bY3, -⟩ := now4 xbY rfl
  obtain ⟨bZ0, bZ1, bZ2, bZ3, -⟩ := now4 xbZ rfl
  go_wp2_with fail
  refine HO.mono ?_
  rintro e w4 ⟨v4, full4, S3, k, er, rfl, hd2, hb, hk, hO⟩
  clear bX0 bX1 bX2 bX3 bY0 bY1 bY2 bY3 bZ0 bZ1 bZ2 bZ3
  clear HO
  obtain ⟨rfl, k0, ks⟩ := hO.1.enough (need0 h8 (k := 2) (by omega) (by omega))
  have hc3 := hO.1.less h8
  obtain ⟨f0', fs'⟩ := says_on hV hO.1.ext f0 fs
  clear f0 fs
  have f0 := f0'
  have fs := fs'
  clear f0' fs'
  obtain ⟨g0', gs'⟩ := says_on hV hO.1.ext g0 gs
  clear g0 gs
  have g0 := g0'
  have gs := gs'
  clear g0' gs'
  replace xbX := hk.cells _ _ _ _ xbX (by decide) (by decide)
  replace xbY := hk.cells _ _ _ _ xbY (by decide) (by decide)
  replace xbZ := hk.cells _ _ _ _ xbZ (by decide) (by decide)
  replace hB := hB.trans (hb.mono hlow)
  clear hb
  replace hd := hd2
  clear hO hV
  have HO := bite_any hd f g k f0 g0 k0
  have hV := hd.rst.vst
  obtain ⟨bX0, bX1, bX2, bX3, -⟩ := now4 xbX rfl
  obtain ⟨bY0, bY1, bY2, bY3, -⟩ := now4 xbY rfl
  obtain ⟨bZ0, bZ1, bZ2, bZ3, -⟩ := now4 xbZ rfl
  go_wp2_with fail
  refine HO.mono ?_
  rintro e w5 ⟨v5, full5, S4, ai, er, rfl, hd2, hb, hk, hO⟩
  clear bX0 bX1 bX2 bX3 bY0 bY1 bY2 bY3 bZ0 bZ1 bZ2 bZ3
  clear HO
  obtain ⟨rfl, ai0, ais⟩ := hO.enough (need0 h8 (k := 3) (by omega) (by omega))
  have hc4 := hO.less h8
  replace ais := fun c => (ais c).trans (ite_ite ho h8 fs gs ks c)
  obtain ⟨f0', fs'⟩ := says_on hV hO.ext f0 fs
  clear f0 fs
  have f0 := f0'
  have fs := fs'
  clear f0' fs'
  obtain ⟨g0', gs'⟩ := says_on hV hO.ext g0 gs
  clear g0 gs
  have g0 := g0'
  have gs := gs'
  clear g0' gs'
  obtain ⟨k0', ks'⟩ := says_on hV hO.ext k0 ks
  clear k0 ks
  have k0 := k0'
  have ks := ks'
  clear k0' ks'
  replace xbX := hk.cells _ _ _ _ xbX (by decide) (by decide)
  replace xbY := hk.cells _ _ _ _ xbY (by decide) (by decide)
  replace xbZ := hk.cells _ _ _ _ xbZ (by decide) (by decide)
  replace hB := hB.trans (hb.mono hlow)
  clear hb
  replace hd := hd2
  clear hO hV
  have HO := bnot_any hd f f0
  have hV := hd.rst.vst
  obtain ⟨bX0, bX1, bX2, bX3, -⟩ := now4 xbX rfl
  obtain ⟨bY0, bY1, bY2, bY3, -⟩ := now4 xbY rfl
  obtain ⟨bZ0, bZ1, bZ2, bZ3, -⟩ := now4 xbZ rfl
  go_wp2_with fail
  refine HO.mono ?_
  rintro e w6 ⟨v6, full6, S5, ni, er, rfl, hd2, hb, hk, hO⟩
  clear bX0 bX1 bX2 bX3 bY0 bY1 bY2 bY3 bZ0 bZ1 bZ2 bZ3
  clear HO
  obtain ⟨rfl, ni0, nis⟩ := hO.enough (need0 h8 (k := 4) (by omega) (by omega))
  have hc5 := hO.less h8
  replace nis := fun c => (nis c).trans (ite_not ho h8 fs c)
  obtain ⟨f0', fs'⟩ := says_on hV hO.ext f0 fs
  clear f0 fs
  have f0 := f0'
  have fs := fs'
  clear f0' fs'
  obtain ⟨g0', gs'⟩ := says_on hV hO.ext g0 gs
  clear g0 gs
  have g0 := g0'
  have gs := gs'
  clear g0' gs'
  obtain ⟨k0', ks'⟩ := says_on hV hO.ext k0 ks
  clear k0 ks
  have k0 := k0'
  have ks := ks'
  clear k0' ks'
  obtain ⟨ai0', ais'⟩ := says_on hV hO.ext ai0 ais
  clear ai0 ais
  have ai0 := ai0'
  have ais := ais'
  clear ai0' ais'
  replace xbX := hk.cells _ _ _ _ xbX (by decide) (by decide)
  replace xbY := hk.cells _ _ _ _ xbY (by decide) (by decide)
  replace xbZ := hk.cells _ _ _ _ xbZ (by decide) (by decide)
  replace hB := hB.trans (hb.mono hlow)
  clear hb
  replace hd := hd2
  clear hO hV
  have HO := band_any hd f g f0 g0
  have hV := hd.rst.vst
  obtain ⟨bX0, bX1, bX2, bX3, -⟩ := now4 xbX rfl
  obtain ⟨bY0, bY1, bY2, bY3, -⟩ := now4 xbY rfl
  obtain ⟨bZ0, bZ1, bZ2, bZ3, -⟩ := now4 xbZ rfl
  go_wp2_with fail
  refine HO.mono ?_
  rintro e w7 ⟨v7, full7, S6, ci, er, rfl, hd2, hb, hk, hO⟩
  clear bX0 bX1 bX2 bX3 bY0 bY1 bY2 bY3 bZ0 bZ1 bZ2 bZ3
  clear HO
  obtain ⟨rfl, ci0, cis⟩ := hO.enough (need0 h8 (k := 5) (by omega) (by omega))
  have hc6 := hO.less h8
  replace cis := fun c => (cis c).trans (ite_and fs gs c)
  obtain ⟨f0', fs'⟩ := says_on hV hO.ext f0 fs
  clear f0 fs
  have f0 := f0'
  have fs := fs'
  clear f0' fs'
  obtain ⟨g0', gs'⟩ := says_on hV hO.ext g0 gs
  clear g0 gs
  have g0 := g0'
  have gs := gs'
  clear g0' gs'
  obtain ⟨k0', ks'⟩ := says_on hV hO.ext k0 ks
  clear k0 ks
  have k0 := k0'
  have ks := ks'
  clear k0' ks'
  obtain ⟨ai0', ais'⟩ := says_on hV hO.ext ai0 ais
  clear ai0 ais
  have ai0 := ai0'
  have ais := ais'
  clear ai0' ais'
  obtain ⟨ni0', nis'⟩ := says_on hV hO.ext ni0 nis
  clear ni0 nis
  have ni0 := ni0'
  have nis := nis'
  clear ni0' nis'
  replace xbX := hk.cells _ _ _ _ xbX (by decide) (by decide)
  replace xbY := hk.cells _ _ _ _ xbY (by decide) (by decide)
  replace xbZ := hk.cells _ _ _ _ xbZ (by decide) (by decide)
  replace hB := hB.trans (hb.mono hlow)
  clear hb
  replace hd := hd2
  clear hO hV
  have HO := bor_any hd f g f0 g0
  have hV := hd.rst.vst
  obtain ⟨bX0, bX1, bX2, bX3, -⟩ := now4 xbX rfl
  obtain ⟨bY0, bY1, bY2, bY3, -⟩ := now4 xbY rfl
  obtain ⟨bZ0, bZ1, bZ2, bZ3, -⟩ := now4 xbZ rfl
  go_wp2_with fail
  refine HO.mono ?_
  rintro e w8 ⟨v8, full8, S7, oi, er, rfl, hd2, hb, hk, hO⟩
  clear bX0 bX1 bX2 bX3 bY0 bY1 bY2 bY3 bZ0 bZ1 bZ2 bZ3
  clear HO
  obtain ⟨rfl, oi0, ois⟩ := hO.enough (need0 h8 (k := 6) (by omega) (by omega))
  have hc7 := hO.less h8
  replace ois := fun c => (ois c).trans (ite_or fs gs c)
  obtain ⟨f0', fs'⟩ := says_on hV hO.ext f0 fs
  clear f0 fs
  have f0 := f0'
  have fs := fs'
  clear f0' fs'
  obtain ⟨g0', gs'⟩ := says_on hV hO.ext g0 gs
  clear g0 gs
  have g0 := g0'
  have gs := gs'
  clear g0' gs'
  obtain ⟨k0', ks'⟩ := says_on hV hO.ext k0 ks
  clear k0 ks
  have k0 := k0'
  have ks := ks'
  clear k0' ks'
  obtain ⟨ai0', ais'⟩ := says_on hV hO.ext ai0 ais
  clear ai0 ais
  have ai0 := ai0'
  have ais := ais'
  clear ai0' ais'
  obtain ⟨ni0', nis'⟩ := says_on hV hO.ext ni0 nis
  clear ni0 nis
  have ni0 := ni0'
  have nis := nis'
  clear ni0' nis'
  obtain ⟨ci0', cis'⟩ := says_on hV hO.ext ci0 cis
  clear ci0 cis
  have ci0 := ci0'
  have cis := cis'
  clear ci0' cis'
  replace xbX := hk.cells _ _ _ _ xbX (by decide) (by decide)
  replace xbY := hk.cells _ _ _ _ xbY (by decide) (by decide)
  replace xbZ := hk.cells _ _ _ _ xbZ (by decide) (by decide)
  replace hB := hB.trans (hb.mono hlow)
  clear hb
  replace hd := hd2
  clear hO hV
  clear g0 gs k0 ks
  have HO := bsome_yes hd f f0 hL
  have hV := hd.rst.vst
  obtain ⟨bX0, bX1, bX2, bX3, -⟩ := now4 xbX rfl
  obtain ⟨bY0, bY1, bY2, bY3, -⟩ := now4 xbY rfl
  obtain ⟨bZ0, bZ1, bZ2, bZ3, -⟩ := now4 xbZ rfl
  go_wp2_with fail
  refine HO.mono ?_
  rintro e w9 ⟨v9, full9, S8, si, er, rfl, hd2, hb, hk, hO⟩
  clear bX0 bX1 bX2 bX3 bY0 bY1 bY2 bY3 bZ0 bZ1 bZ2 bZ3
  clear HO
  obtain ⟨rfl, si0, sis⟩ := hO.enough (need0 h8 (k := 7) (by omega) (by omega))
  replace sis := fun c => (sis c).trans (some_want ho h8 fs hL c)
  obtain ⟨f0', fs'⟩ := says_on hV hO.ext f0 fs
  clear f0 fs
  have f0 := f0'
  have fs := fs'
  clear f0' fs'
  obtain ⟨ai0', ais'⟩ := says_on hV hO.ext ai0 ais
  clear ai0 ais
  have ai0 := ai0'
  have ais := ais'
  clear ai0' ais'
  obtain ⟨ni0', nis'⟩ := says_on hV hO.ext ni0 nis
  clear ni0 nis
  have ni0 := ni0'
  have nis := nis'
  clear ni0' nis'
  obtain ⟨ci0', cis'⟩ := says_on hV hO.ext ci0 cis
  clear ci0 cis
  have ci0 := ci0'
  have cis := cis'
  clear ci0' cis'
  obtain ⟨oi0', ois'⟩ := says_on hV hO.ext oi0 ois
  clear oi0 ois
  have oi0 := oi0'
  have ois := ois'
  clear oi0' ois'
  replace xbX := hk.cells _ _ _ _ xbX (by decide) (by decide)
  replace xbY := hk.cells _ _ _ _ xbY (by decide) (by decide)
  replace xbZ := hk.cells _ _ _ _ xbZ (by decide) (by decide)
  replace hB := hB.trans (hb.mono hlow)
  clear hb
  replace hd := hd2
  clear hO hV
  clear f0 fs hc0 hc1 hc2 hc3 hc4 hc5 hc6 hc7
  obtain ⟨bX0, bX1, bX2, bX3, -⟩ := now4 xbX rfl
  obtain ⟨bY0, bY1, bY2, bY3, -⟩ := now4 xbY rfl
  obtain ⟨bZ0, bZ1, bZ2, bZ3, -⟩ := now4 xbZ rfl
  go_wp2_with fail
  refine (HAl _).mono ?_
  rintro e w10 ⟨wb, rfl, hwlo, hwlt, hwc, hb⟩
  clear bX0 bX1 bX2 bX3 bY0 bY1 bY2 bY3 bZ0 bZ1 bZ2 bZ3
  clear HAl hwlo
  replace xbX := keep_blk hb xbX
  replace xbY := keep_blk hb xbY
  replace xbZ := keep_blk hb xbZ
  replace hB := hB.trans (hb.mono hB.size)
  replace hd := hd.below hb
  clear hb
  have HSt := refset_any (fun p => decide (p < 2 ^ o.length)) wb 256 w10 hwlt hwc
  rw [show (bvOf fun p => decide (p < 2 ^ o.length)) = allB o.length from rfl] at HSt
  unfold sv wv at HSt
  obtain ⟨bX0, bX1, bX2, bX3, -⟩ := now4 xbX rfl
  obtain ⟨bY0, bY1, bY2, bY3, -⟩ := now4 xbY rfl
  obtain ⟨bZ0, bZ1, bZ2, bZ3, -⟩ := now4 xbZ rfl
  go_wp2_with fail
  refine HSt.mono ?_
  rintro e w11 ⟨rfl, hb⟩
  clear bX0 bX1 bX2 bX3 bY0 bY1 bY2 bY3 bZ0 bZ1 bZ2 bZ3
  clear HSt hwlt hwc
  replace xbX := keep_blk hb xbX
  replace xbY := keep_blk hb xbY
  replace xbZ := keep_blk hb xbZ
  replace hB := hB.trans (hb.mono hB.size)
  replace hd := hd.below hb
  clear hb
  replace xbX := keep_alloc (x := .cells #[.int .u64 (wd (allB o.length) 0).toNat, .int .u64 (wd (allB o.length) 1).toNat, .int .u64 (wd (allB o.length) 2).toNat, .int .u64 (wd (allB o.length) 3).toNat] 25) xbX
  replace xbY := keep_alloc (x := .cells #[.int .u64 (wd (allB o.length) 0).toNat, .int .u64 (wd (allB o.length) 1).toNat, .int .u64 (wd (allB o.length) 2).toNat, .int .u64 (wd (allB o.length) 3).toNat] 25) xbY
  replace xbZ := keep_alloc (x := .cells #[.int .u64 (wd (allB o.length) 0).toNat, .int .u64 (wd (allB o.length) 1).toNat, .int .u64 (wd (allB o.length) 2).toNat, .int .u64 (wd (allB o.length) 3).toNat] 25) xbZ
  have xl := heap_alloc_new w11 (.cells #[.int .u64 (wd (allB o.length) 0).toNat, .int .u64 (wd (allB o.length) 1).toNat, .int .u64 (wd (allB o.length) 2).toNat, .int .u64 (wd (allB o.length) 3).toNat] 25)
  replace hd := hd.below (below_alloc1 w11 (.cells #[.int .u64 (wd (allB o.length) 0).toNat, .int .u64 (wd (allB o.length) 1).toNat, .int .u64 (wd (allB o.length) 2).toNat, .int .u64 (wd (allB o.length) 3).toNat] 25))
  replace hB := hB.alloc hB.size (.cells #[.int .u64 (wd (allB o.length) 0).toNat, .int .u64 (wd (allB o.length) 1).toNat, .int .u64 (wd (allB o.length) 2).toNat, .int .u64 (wd (allB o.length) 3).toNat] 25)
  have HT := bset_any hd ai ai0
  rw [setOf_eq ho (low_or (low_and Y lX) (low_and (~~~X) lZ)) ais] at HT
  unfold sv wv at HT
  clear ai0 ais
  obtain ⟨bX0, bX1, bX2, bX3, -⟩ := now4 xbX rfl
  obtain ⟨bY0, bY1, bY2, bY3, -⟩ := now4 xbY rfl
  obtain ⟨bZ0, bZ1, bZ2, bZ3, -⟩ := now4 xbZ rfl
  obtain ⟨l0, l1, l2, l3, -⟩ := now4 xl rfl
  go_wp2_with fail
  refine HT.mono ?_
  rintro e w12 ⟨rfl, hb⟩
  clear bX0 bX1 bX2 bX3 bY0 bY1 bY2 bY3 bZ0 bZ1 bZ2 bZ3 l0 l1 l2 l3
  clear HT
  replace xbX := keep_blk hb xbX
  replace xbY := keep_blk hb xbY
  replace xbZ := keep_blk hb xbZ
  replace xl := keep_blk hb xl
  replace hB := hB.trans (hb.mono hB.size)
  replace hd := hd.below hb
  clear hb
  replace xbX := keep_alloc (x := .cells #[.int .u64 (wd ((X &&& Y) ||| (Z &&& ~~~X)) 0).toNat, .int .u64 (wd ((X &&& Y) ||| (Z &&& ~~~X)) 1).toNat, .int .u64 (wd ((X &&& Y) ||| (Z &&& ~~~X)) 2).toNat, .int .u64 (wd ((X &&& Y) ||| (Z &&& ~~~X)) 3).toNat] 25) xbX
  replace xbY := keep_alloc (x := .cells #[.int .u64 (wd ((X &&& Y) ||| (Z &&& ~~~X)) 0).toNat, .int .u64 (wd ((X &&& Y) ||| (Z &&& ~~~X)) 1).toNat, .int .u64 (wd ((X &&& Y) ||| (Z &&& ~~~X)) 2).toNat, .int .u64 (wd ((X &&& Y) ||| (Z &&& ~~~X)) 3).toNat] 25) xbY
  replace xbZ := keep_alloc (x := .cells #[.int .u64 (wd ((X &&& Y) ||| (Z &&& ~~~X)) 0).toNat, .int .u64 (wd ((X &&& Y) ||| (Z &&& ~~~X)) 1).toNat, .int .u64 (wd ((X &&& Y) ||| (Z &&& ~~~X)) 2).toNat, .int .u64 (wd ((X &&& Y) ||| (Z &&& ~~~X)) 3).toNat] 25) xbZ
  replace xl := keep_alloc (x := .cells #[.int .u64 (wd ((X &&& Y) ||| (Z &&& ~~~X)) 0).toNat, .int .u64 (wd ((X &&& Y) ||| (Z &&& ~~~X)) 1).toNat, .int .u64 (wd ((X &&& Y) ||| (Z &&& ~~~X)) 2).toNat, .int .u64 (wd ((X &&& Y) ||| (Z &&& ~~~X)) 3).toNat] 25) xl
  have xta := heap_alloc_new w12 (.cells #[.int .u64 (wd ((X &&& Y) ||| (Z &&& ~~~X)) 0).toNat, .int .u64 (wd ((X &&& Y) ||| (Z &&& ~~~X)) 1).toNat, .int .u64 (wd ((X &&& Y) ||| (Z &&& ~~~X)) 2).toNat, .int .u64 (wd ((X &&& Y) ||| (Z &&& ~~~X)) 3).toNat] 25)
  replace hd := hd.below (below_alloc1 w12 (.cells #[.int .u64 (wd ((X &&& Y) ||| (Z &&& ~~~X)) 0).toNat, .int .u64 (wd ((X &&& Y) ||| (Z &&& ~~~X)) 1).toNat, .int .u64 (wd ((X &&& Y) ||| (Z &&& ~~~X)) 2).toNat, .int .u64 (wd ((X &&& Y) ||| (Z &&& ~~~X)) 3).toNat] 25))
  replace hB := hB.alloc hB.size (.cells #[.int .u64 (wd ((X &&& Y) ||| (Z &&& ~~~X)) 0).toNat, .int .u64 (wd ((X &&& Y) ||| (Z &&& ~~~X)) 1).toNat, .int .u64 (wd ((X &&& Y) ||| (Z &&& ~~~X)) 2).toNat, .int .u64 (wd ((X &&& Y) ||| (Z &&& ~~~X)) 3).toNat] 25)
  have HT := bset_any hd ni ni0
  rw [setOf_eq ho (low_and (~~~X) lA) nis] at HT
  unfold sv wv at HT
  clear ni0 nis
  obtain ⟨bX0, bX1, bX2, bX3, -⟩ := now4 xbX rfl
  obtain ⟨bY0, bY1, bY2, bY3, -⟩ := now4 xbY rfl
  obtain ⟨bZ0, bZ1, bZ2, bZ3, -⟩ := now4 xbZ rfl
  obtain ⟨l0, l1, l2, l3, -⟩ := now4 xl rfl
  obtain ⟨ta0, ta1, ta2, ta3, -⟩ := now4 xta rfl
  go_wp2_with fail
  refine HT.mono ?_
  rintro e w13 ⟨rfl, hb⟩
  clear bX0 bX1 bX2 bX3 bY0 bY1 bY2 bY3 bZ0 bZ1 bZ2 bZ3 l0 l1 l2 l3 ta0 ta1 ta2 ta3
  clear HT
  replace xbX := keep_blk hb xbX
  replace xbY := keep_blk hb xbY
  replace xbZ := keep_blk hb xbZ
  replace xl := keep_blk hb xl
  replace xta := keep_blk hb xta
  replace hB := hB.trans (hb.mono hB.size)
  replace hd := hd.below hb
  clear hb
  replace xbX := keep_alloc (x := .cells #[.int .u64 (wd (allB o.length &&& ~~~X) 0).toNat, .int .u64 (wd (allB o.length &&& ~~~X) 1).toNat, .int .u64 (wd (allB o.length &&& ~~~X) 2).toNat, .int .u64 (wd (allB o.length &&& ~~~X) 3).toNat] 25) xbX
  replace xbY := keep_alloc (x := .cells #[.int .u64 (wd (allB o.length &&& ~~~X) 0).toNat, .int .u64 (wd (allB o.length &&& ~~~X) 1).toNat, .int .u64 (wd (allB o.length &&& ~~~X) 2).toNat, .int .u64 (wd (allB o.length &&& ~~~X) 3).toNat] 25) xbY
  replace xbZ := keep_alloc (x := .cells #[.int .u64 (wd (allB o.length &&& ~~~X) 0).toNat, .int .u64 (wd (allB o.length &&& ~~~X) 1).toNat, .int .u64 (wd (allB o.length &&& ~~~X) 2).toNat, .int .u64 (wd (allB o.length &&& ~~~X) 3).toNat] 25) xbZ
  replace xl := keep_alloc (x := .cells #[.int .u64 (wd (allB o.length &&& ~~~X) 0).toNat, .int .u64 (wd (allB o.length &&& ~~~X) 1).toNat, .int .u64 (wd (allB o.length &&& ~~~X) 2).toNat, .int .u64 (wd (allB o.length &&& ~~~X) 3).toNat] 25) xl
  replace xta := keep_alloc (x := .cells #[.int .u64 (wd (allB o.length &&& ~~~X) 0).toNat, .int .u64 (wd (allB o.length &&& ~~~X) 1).toNat, .int .u64 (wd (allB o.length &&& ~~~X) 2).toNat, .int .u64 (wd (allB o.length &&& ~~~X) 3).toNat] 25) xta
  have xtn := heap_alloc_new w13 (.cells #[.int .u64 (wd (allB o.length &&& ~~~X) 0).toNat, .int .u64 (wd (allB o.length &&& ~~~X) 1).toNat, .int .u64 (wd (allB o.length &&& ~~~X) 2).toNat, .int .u64 (wd (allB o.length &&& ~~~X) 3).toNat] 25)
  replace hd := hd.below (below_alloc1 w13 (.cells #[.int .u64 (wd (allB o.length &&& ~~~X) 0).toNat, .int .u64 (wd (allB o.length &&& ~~~X) 1).toNat, .int .u64 (wd (allB o.length &&& ~~~X) 2).toNat, .int .u64 (wd (allB o.length &&& ~~~X) 3).toNat] 25))
  replace hB := hB.alloc hB.size (.cells #[.int .u64 (wd (allB o.length &&& ~~~X) 0).toNat, .int .u64 (wd (allB o.length &&& ~~~X) 1).toNat, .int .u64 (wd (allB o.length &&& ~~~X) 2).toNat, .int .u64 (wd (allB o.length &&& ~~~X) 3).toNat] 25)
  have HT := bset_any hd ci ci0
  rw [setOf_eq ho (low_and Y lX) cis] at HT
  unfold sv wv at HT
  clear ci0 cis
  obtain ⟨bX0, bX1, bX2, bX3, -⟩ := now4 xbX rfl
  obtain ⟨bY0, bY1, bY2, bY3, -⟩ := now4 xbY rfl
  obtain ⟨bZ0, bZ1, bZ2, bZ3, -⟩ := now4 xbZ rfl
  obtain ⟨l0, l1, l2, l3, -⟩ := now4 xl rfl
  obtain ⟨ta0, ta1, ta2, ta3, -⟩ := now4 xta rfl
  obtain ⟨tn0, tn1, tn2, tn3, -⟩ := now4 xtn rfl
  go_wp2_with fail
  refine HT.mono ?_
  rintro e w14 ⟨rfl, hb⟩
  clear bX0 bX1 bX2 bX3 bY0 bY1 bY2 bY3 bZ0 bZ1 bZ2 bZ3 l0 l1 l2 l3 ta0 ta1 ta2 ta3 tn0 tn1 tn2 tn3
  clear HT
  replace xbX := keep_blk hb xbX
  replace xbY := keep_blk hb xbY
  replace xbZ := keep_blk hb xbZ
  replace xl := keep_blk hb xl
  replace xta := keep_blk hb xta
  replace xtn := keep_blk hb xtn
  replace hB := hB.trans (hb.mono hB.size)
  replace hd := hd.below hb
  clear hb
  replace xbX := keep_alloc (x := .cells #[.int .u64 (wd (X &&& Y) 0).toNat, .int .u64 (wd (X &&& Y) 1).toNat, .int .u64 (wd (X &&& Y) 2).toNat, .int .u64 (wd (X &&& Y) 3).toNat] 25) xbX
  replace xbY := keep_alloc (x := .cells #[.int .u64 (wd (X &&& Y) 0).toNat, .int .u64 (wd (X &&& Y) 1).toNat, .int .u64 (wd (X &&& Y) 2).toNat, .int .u64 (wd (X &&& Y) 3).toNat] 25) xbY
  replace xbZ := keep_alloc (x := .cells #[.int .u64 (wd (X &&& Y) 0).toNat, .int .u64 (wd (X &&& Y) 1).toNat, .int .u64 (wd (X &&& Y) 2).toNat, .int .u64 (wd (X &&& Y) 3).toNat] 25) xbZ
  replace xl := keep_alloc (x := .cells #[.int .u64 (wd (X &&& Y) 0).toNat, .int .u64 (wd (X &&& Y) 1).toNat, .int .u64 (wd (X &&& Y) 2).toNat, .int .u64 (wd (X &&& Y) 3).toNat] 25) xl
  replace xta := keep_alloc (x := .cells #[.int .u64 (wd (X &&& Y) 0).toNat, .int .u64 (wd (X &&& Y) 1).toNat, .int .u64 (wd (X &&& Y) 2).toNat, .int .u64 (wd (X &&& Y) 3).toNat] 25) xta
  replace xtn := keep_alloc (x := .cells #[.int .u64 (wd (X &&& Y) 0).toNat, .int .u64 (wd (X &&& Y) 1).toNat, .int .u64 (wd (X &&& Y) 2).toNat, .int .u64 (wd (X &&& Y) 3).toNat] 25) xtn
  have xtc := heap_alloc_new w14 (.cells #[.int .u64 (wd (X &&& Y) 0).toNat, .int .u64 (wd (X &&& Y) 1).toNat, .int .u64 (wd (X &&& Y) 2).toNat, .int .u64 (wd (X &&& Y) 3).toNat] 25)
  replace hd := hd.below (below_alloc1 w14 (.cells #[.int .u64 (wd (X &&& Y) 0).toNat, .int .u64 (wd (X &&& Y) 1).toNat, .int .u64 (wd (X &&& Y) 2).toNat, .int .u64 (wd (X &&& Y) 3).toNat] 25))
  replace hB := hB.alloc hB.size (.cells #[.int .u64 (wd (X &&& Y) 0).toNat, .int .u64 (wd (X &&& Y) 1).toNat, .int .u64 (wd (X &&& Y) 2).toNat, .int .u64 (wd (X &&& Y) 3).toNat] 25)
  have HT := bset_any hd oi oi0
  rw [setOf_eq ho (low_or lX lY) ois] at HT
  unfold sv wv at HT
  clear oi0 ois
  obtain ⟨bX0, bX1, bX2, bX3, -⟩ := now4 xbX rfl
  obtain ⟨bY0, bY1, bY2, bY3, -⟩ := now4 xbY rfl
  obtain ⟨bZ0, bZ1, bZ2, bZ3, -⟩ := now4 xbZ rfl
  obtain ⟨l0, l1, l2, l3, -⟩ := now4 xl rfl
  obtain ⟨ta0, ta1, ta2, ta3, -⟩ := now4 xta rfl
  obtain ⟨tn0, tn1, tn2, tn3, -⟩ := now4 xtn rfl
  obtain ⟨tc0, tc1, tc2, tc3, -⟩ := now4 xtc rfl
  go_wp2_with fail
  refine HT.mono ?_
  rintro e w15 ⟨rfl, hb⟩
  clear bX0 bX1 bX2 bX3 bY0 bY1 bY2 bY3 bZ0 bZ1 bZ2 bZ3 l0 l1 l2 l3 ta0 ta1 ta2 ta3 tn0 tn1 tn2 tn3 tc0 tc1 tc2 tc3
  clear HT
  replace xbX := keep_blk hb xbX
  replace xbY := keep_blk hb xbY
  replace xbZ := keep_blk hb xbZ
  replace xl := keep_blk hb xl
  replace xta := keep_blk hb xta
  replace xtn := keep_blk hb xtn
  replace xtc := keep_blk hb xtc
  replace hB := hB.trans (hb.mono hB.size)
  replace hd := hd.below hb
  clear hb
  go_upto_region 21 with (fail)
  replace xbX := keep_alloc (x := .cells #[.int .u64 (wd (X ||| Y) 0).toNat, .int .u64 (wd (X ||| Y) 1).toNat, .int .u64 (wd (X ||| Y) 2).toNat, .int .u64 (wd (X ||| Y) 3).toNat] 25) xbX
  replace xbY := keep_alloc (x := .cells #[.int .u64 (wd (X ||| Y) 0).toNat, .int .u64 (wd (X ||| Y) 1).toNat, .int .u64 (wd (X ||| Y) 2).toNat, .int .u64 (wd (X ||| Y) 3).toNat] 25) xbY
  replace xbZ := keep_alloc (x := .cells #[.int .u64 (wd (X ||| Y) 0).toNat, .int .u64 (wd (X ||| Y) 1).toNat, .int .u64 (wd (X ||| Y) 2).toNat, .int .u64 (wd (X ||| Y) 3).toNat] 25) xbZ
  replace xl := keep_alloc (x := .cells #[.int .u64 (wd (X ||| Y) 0).toNat, .int .u64 (wd (X ||| Y) 1).toNat, .int .u64 (wd (X ||| Y) 2).toNat, .int .u64 (wd (X ||| Y) 3).toNat] 25) xl
  replace xta := keep_alloc (x := .cells #[.int .u64 (wd (X ||| Y) 0).toNat, .int .u64 (wd (X ||| Y) 1).toNat, .int .u64 (wd (X ||| Y) 2).toNat, .int .u64 (wd (X ||| Y) 3).toNat] 25) xta
  replace xtn := keep_alloc (x := .cells #[.int .u64 (wd (X ||| Y) 0).toNat, .int .u64 (wd (X ||| Y) 1).toNat, .int .u64 (wd (X ||| Y) 2).toNat, .int .u64 (wd (X ||| Y) 3).toNat] 25) xtn
  replace xtc := keep_alloc (x := .cells #[.int .u64 (wd (X ||| Y) 0).toNat, .int .u64 (wd (X ||| Y) 1).toNat, .int .u64 (wd (X ||| Y) 2).toNat, .int .u64 (wd (X ||| Y) 3).toNat] 25) xtc
  have xto := heap_alloc_new w15 (.cells #[.int .u64 (wd (X ||| Y) 0).toNat, .int .u64 (wd (X ||| Y) 1).toNat, .int .u64 (wd (X ||| Y) 2).toNat, .int .u64 (wd (X ||| Y) 3).toNat] 25)
  replace hd := hd.below (below_alloc1 w15 (.cells #[.int .u64 (wd (X ||| Y) 0).toNat, .int .u64 (wd (X ||| Y) 1).toNat, .int .u64 (wd (X ||| Y) 2).toNat, .int .u64 (wd (X ||| Y) 3).toNat] 25))
  replace hB := hB.alloc hB.size (.cells #[.int .u64 (wd (X ||| Y) 0).toNat, .int .u64 (wd (X ||| Y) 1).toNat, .int .u64 (wd (X ||| Y) 2).toNat, .int .u64 (wd (X ||| Y) 3).toNat] 25)
  generalize w15.alloc (.cells #[.int .u64 (wd (X ||| Y) 0).toNat, .int .u64 (wd (X ||| Y) 1).toNat, .int .u64 (wd (X ||| Y) 2).toNat, .int .u64 (wd (X ||| Y) 3).toNat] 25) = W at *
  have HA := fun y : After W => and_any X Y y.1
  have HL1 := fun y : After W => less_any Z X y.1
  have HL2 := fun y : After W => less_any (allB o.length) X y.1
  have HO1 := fun y : After W => or_any (X &&& Y) (Z &&& ~~~X) y.1
  have HO2 := fun y : After W => or_any X Y y.1
  unfold sv wv at HA HL1 HL2 HO1 HO2
  obtain ⟨bX0, bX1, bX2, bX3, -⟩ := box4 xbX rfl
  obtain ⟨bY0, bY1, bY2, bY3, -⟩ := box4 xbY rfl
  obtain ⟨bZ0, bZ1, bZ2, bZ3, -⟩ := box4 xbZ rfl
  obtain ⟨l0, l1, l2, l3, -⟩ := box4 xl rfl
  obtain ⟨ta0, ta1, ta2, ta3, -⟩ := box4 xta rfl
  obtain ⟨tn0, tn1, tn2, tn3, -⟩ := box4 xtn rfl
  obtain ⟨tc0, tc1, tc2, tc3, -⟩ := box4 xtc rfl
  obtain ⟨to0, to1, to2, to3, -⟩ := box4 xto rfl
  refine wp_region_after (by kernel_rfl) (by kernel_rfl) ?_
  repeat (first | go_big_quiet_step (first | (go_at_call 22; exact Calls.after_of (HA _)) | (go_at_call_of 23 (Value.agg #[Value.int IntKind.u64 (wd Z 0).toNat, Value.int IntKind.u64 (wd Z 1).toNat, Value.int IntKind.u64 (wd Z 2).toNat, Value.int IntKind.u64 (wd Z 3).toNat]); exact Calls.after_of (HL1 _)) | (go_at_call_of 23 (Value.agg #[Value.int IntKind.u64 (wd (allB o.length) 0).toNat, Value.int IntKind.u64 (wd (allB o.length) 1).toNat, Value.int IntKind.u64 (wd (allB o.length) 2).toNat, Value.int IntKind.u64 (wd (allB o.length) 3).toNat]); exact Calls.after_of (HL2 _)) | (go_at_call_of 21 (Value.agg #[Value.int IntKind.u64 (wd (X &&& Y) 0).toNat, Value.int IntKind.u64 (wd (X &&& Y) 1).toNat, Value.int IntKind.u64 (wd (X &&& Y) 2).toNat, Value.int IntKind.u64 (wd (X &&& Y) 3).toNat]); exact Calls.after_of (HO1 _)) | (go_at_call_of 21 (Value.agg #[Value.int IntKind.u64 (wd Y 0).toNat, Value.int IntKind.u64 (wd Y 1).toNat, Value.int IntKind.u64 (wd Y 2).toNat, Value.int IntKind.u64 (wd Y 3).toNat]); exact Calls.after_of (HO2 _))))
  refine wpQuiet_nil ?_
  intro y
  clear HA HL1 HL2 HO1 HO2 bX0 bX1 bX2 bX3 bY0 bY1 bY2 bY3 bZ0 bZ1 bZ2 bZ3 l0 l1 l2 l3 ta0 ta1 ta2 ta3 tn0 tn1 tn2 tn3 tc0 tc1 tc2 tc3 to0 to1 to2 to3
  obtain ⟨W1, hy⟩ := y
  dsimp only at *
  clear xbY
  clear xbZ
  clear xl
  clear xta
  clear xtn
  clear xtc
  clear xto
  replace xbX := keep_blk hy xbX
  replace hB := hB.trans (hy.mono hB.size)
  replace hd := hd.below hy
  clear hy
  have hm0 : ¬ (m : Int) < 0 := by omega
  have hm1 : ¬ (o.length : Int) ≤ (m : Int) := by omega
  have hm8 : m < 8 := by omega
  have hmk := fun w => make256 w
  have hwb := heap_alloc_new W1 (.cells (flagsA fun _ => false) 4)
  replace xbX := keep_alloc (x := .cells (flagsA fun _ => false) 4) xbX
  replace hd := hd.below (below_alloc1 W1 (.cells (flagsA fun _ => false) 4))
  have hlow6 := hB.size
  replace hB := hB.alloc hB.size (.cells (flagsA fun _ => false) 4)
  obtain ⟨bX0, bX1, bX2, bX3, -⟩ := now4 xbX rfl
  go_wp2_with fail
  refine (HLs _).mono ?_
  rintro e wl ⟨lv, rfl, hlown, hb⟩
  clear bX0 bX1 bX2 bX3
  clear HLs
  replace hwb := keep_blk hb hwb
  replace xbX := keep_blk hb xbX
  replace hB := hB.trans (hb.mono hB.size)
  replace hd := hd.below hb
  clear hb
  obtain ⟨Al, cl, rfl⟩ := own_form hlown
  have hzl := size_of_block hwb
  have hptl : (pts X).length ≤ 256 := Nat.le_trans (List.length_filter_le _ _) (by simp)
  have hpt := Lib.hid (fun q (hq : q ∈ pts X) => pts_lt X q hq)
  have hX2 : Hid (∀ q, q ∈ pts X → q < 2 ^ o.length) := Lib.hid (fun q hq => by
    rcases Nat.lt_or_ge q (2 ^ o.length) with hlt | hge
    · exact hlt
    · have := (pts_lt X q hq).2; rw [lX q hge] at this; cases this)
  have h256 := two_eight h8
  generalize hbw : W1.heap.size = bw at *
  generalize hwlw : wl = wl0 at *
  clear hbw hwlw
  have hwb0 := hwb
  go_wp2
  go_loopw [40, 41, 42] (fun t _ _ wr => ∃ k : Nat, k ≤ (pts X).length ∧ t = .int .i64 k ∧ wr.heap[bw]? = some (.cells (flagsA (wantK X m k)) 4 (0, 0)) ∧ wl0.grownBy wr (some bw)) (fun t _ _ _ => (pts X).length - (intOf t).toNat)
  case atStart => exact ⟨0, by omega, rfl, by rw [wantK_zero]; exact hwb, grown_any (Below.refl _ _) _⟩
  case round =>
    clear hwb
    obtain ⟨k, hk, rfl, hfl, hg⟩ := hrel
    by_cases hlt : k < (pts X).length
    · obtain ⟨q, hq⟩ : ∃ q, (pts X)[k]? = some q := ⟨_, List.getElem?_eq_getElem hlt⟩
      have hqm := List.mem_of_getElem? hq
      have hq8 := (hpt.out q hqm).1
      have hq2 := hX2.out q hqm
      have hl2 := own_keep hlown (fun g hv _ hl => hg.block g hl (by intro e; injection e with e; subst e; exact own_ne hlown hwb0 (by decide) hv))
      obtain ⟨g, cg, hA⟩ := own_some hl2 (by omega)
      obtain rfl : Al = some ⟨g, 0, none⟩ := by injection hA
      have qk := (hl2.cellAt k (by simpa using hlt)).trans (show (intsV (pts X))[k]? = some (.int .i64 (q : Int)) from intsV_at hq)
      have hgne : g ≠ bw := fun e => by subst e; exact own_ne hl2 hfl (by decide) rfl
      have hw := Lib.hid (wantK_succ (i := m) hq)
      have HB := fun w => bit_any q m hq8 hm8 w
      have hdk : decide ((k : Int) < ((pts X).length : Int)) = true := by simp; omega
      clear hA hl2 hqm hq
      go_wp2
      obtain ⟨wo, rfl⟩ : ∃ wo : World, wo = wr := ⟨_, rfl⟩
      go_loopw [41, 42] (fun a t wr => ∃ j q2 : Nat, j ≤ m ∧ q2 = 2 ^ j ∧ q2 ≤ 256 ∧ t = .int .i64 j ∧ a = .int .i64 q2 ∧ wr = wo) (fun _ t _ => m - (intOf t).toNat)
      case atStart => exact ⟨0, 1, by omega, rfl, by decide, rfl, rfl, rfl⟩
      case round =>
        obtain ⟨j, q2, hj, hq2e, hq28, rfl, rfl, rfl⟩ := hrel
        by_cases hji : j < m
        · have hq' := two_eight (n := j + 1) (by omega)
          have hq3 : Hid (q2 * 2 = 2 ^ (j + 1)) := Lib.hid (by rw [hq2e, Nat.pow_succ])
          have hq4 : q2 * 2 ≤ 256 := by rw [hq3.out]; exact hq'
          clear hq2e hq'
          go_wp2
          go_roundw
          case rel => exact ⟨j + 1, q2 * 2, by omega, hq3.out, hq4, by go_num, by go_num, by first | rfl | trivial⟩
          case measure => simp [intOf]; omega
        · have hq2m : Hid (q2 = 2 ^ m) := Lib.hid (by rw [hq2e, show j = m by omega])
          have hflip := xor_lt hq2 hm
          have hc1 := unfrozen_of_block hfl q
          have hcq : wr.cell? ⟨bw, q, none⟩ = some (.bool (wantK X m k q)) := by rw [cell_of_block hfl]; exact flagsA_get _ q hq8
          have hf1 : (wr.setCell ⟨bw, q, none⟩ (.bool true)).heap[bw]? = some (.cells (flagsA fun p => wantK X m k p || p == q) 4 (0, 0)) := by
            rw [block_setCell hfl, flagsA_set (wantK X m k) (fun p => wantK X m k p || p == q) q true (by simp) (fun p hp => by simp [hp])]
          have hg1 : wl0.grownBy (wr.setCell ⟨bw, q, none⟩ (.bool true)) (some bw) := grown_set hg
          have qk1 : (wr.setCell ⟨bw, q, none⟩ (.bool true)).cell? ⟨g, k, none⟩ = some (.int .i64 (q : Int)) := by
            rw [World.cell?_of_block (w := wr) (a := ⟨g, k, none⟩) (Below.heap_setCell _ _ _ _ hgne)]; exact qk
          have hf2 : Hid (∀ r, r = q ^^^ 2 ^ m → ((wr.setCell ⟨bw, q, none⟩ (.bool true)).setCell ⟨bw, r, none⟩ (.bool true)).heap[bw]? = some (.cells (flagsA (wantK X m (k + 1))) 4 (0, 0))) := Lib.hid (fun r hr => by
            rw [block_setCell hf1, flagsA_set (fun p => wantK X m k p || p == q) (wantK X m (k + 1)) r true (by rw [hw.out, hr]; simp) (fun p hp => by
              have hpr : (p == q ^^^ 2 ^ m) = false := by rw [← hr]; simpa using hp
              rw [hw.out, hpr]; simp)])
          clear hq2e
          cases hbt : q.testBit m
          · have hb0 : q / 2 ^ m % 2 = 0 := by rw [Nat.testBit_eq_decide_div_mod_eq] at hbt; have := of_decide_eq_false hbt; omega
            rw [hb0] at HB
            have hup := xor_up hbt
            rw [← hq2m.out] at hup
            have hr8 : q + q2 < 256 := by rw [hup, hq2m.out]; omega
            have hc2 : (wr.setCell ⟨bw, q, none⟩ (.bool true)).cell? ⟨bw, q + q2, none⟩ = some (.bool (wantK X m k (q + q2) || (q + q2) == q)) := by rw [cell_of_block hf1]; exact flagsA_get _ _ hr8
            have hc3 := unfrozen_of_block hf1 (q + q2)
            have hf3 := Lib.hid (hf2.out (q + q2) (by rw [hup, hq2m.out]))
            clear hb0 hup hf2 hbt hflip
            go_wp2_with (go_at_call 25; refine (HB _).mono ?_; rintro e w' ⟨rfl, rfl⟩)
            go_roundw
            case rel => exact ⟨k + 1, by omega, by go_num, hf3.out, grown_set hg1⟩
            case measure => simp [intOf]; omega
          · have hb0 : q / 2 ^ m % 2 = 1 := by rw [Nat.testBit_eq_decide_div_mod_eq] at hbt; exact of_decide_eq_true hbt
            rw [hb0] at HB
            obtain ⟨hle, hdn⟩ := xor_down hbt
            rw [← hq2m.out] at hle hdn
            have hsubI : (q : Int) - (q2 : Int) = ((q - q2 : Nat) : Int) := by omega
            have hr8 : q - q2 < 256 := by omega
            have hc2 : (wr.setCell ⟨bw, q, none⟩ (.bool true)).cell? ⟨bw, q - q2, none⟩ = some (.bool (wantK X m k (q - q2) || (q - q2) == q)) := by rw [cell_of_block hf1]; exact flagsA_get _ _ hr8
            have hc3 := unfrozen_of_block hf1 (q - q2)
            have hf3 := Lib.hid (hf2.out (q - q2) (by rw [hdn, hq2m.out]))
            clear hb0 hdn hf2 hbt hflip
            go_wp2_with (go_at_call 25; refine (HB _).mono ?_; rintro e w' ⟨rfl, rfl⟩)
            go_roundw
            case rel => exact ⟨k + 1, by omega, by go_num, hf3.out, grown_set hg1⟩
            case measure => simp [intOf]; omega
    · have hkl : k = (pts X).length := by omega
      subst hkl
      have hdw := hd.grown6 hwb0 hg
      have hBw : Below w.heap.size w wr := below_of_grown hg hB (Nat.le_trans hlow6 (Nat.le_refl _)) hB.size
      have HT := bset_any hdw si si0
      rw [setOf_eq ho (want_low h8 hm lX) sis] at HT
      unfold sv wv at HT
      clear hd hg hlown
      go_wp2_with fail
      refine HT.mono ?_
      rintro e w9 ⟨rfl, hb9⟩
      have hB9 := hBw.trans (hb9.mono hBw.size)
      have hf9 := keep_blk hb9 hfl
      clear HT hBw hb9 hdw
      go_upto_region 40 with (fail)
      have hB10 := hB9.alloc hB9.size (.cells #[.int .u64 (wd (wantB X m) 0).toNat, .int .u64 (wd (wantB X m) 1).toNat, .int .u64 (wd (wantB X m) 2).toNat, .int .u64 (wd (wantB X m) 3).toNat] 25)
      have hf10 := keep_alloc (x := .cells #[.int .u64 (wd (wantB X m) 0).toNat, .int .u64 (wd (wantB X m) 1).toNat, .int .u64 (wd (wantB X m) 2).toNat, .int .u64 (wd (wantB X m) 3).toNat] 25) hf9
      have hx10 := heap_alloc_new w9 (.cells #[.int .u64 (wd (wantB X m) 0).toNat, .int .u64 (wd (wantB X m) 1).toNat, .int .u64 (wd (wantB X m) 2).toNat, .int .u64 (wd (wantB X m) 3).toNat] 25)
      generalize w9.alloc (.cells #[.int .u64 (wd (wantB X m) 0).toNat, .int .u64 (wd (wantB X m) 1).toNat, .int .u64 (wd (wantB X m) 2).toNat, .int .u64 (wd (wantB X m) 3).toNat] 25) = V at *
      have HSt := fun y : After V => refset_any (wantK X m (pts X).length) bw 256 y.1 (Nat.lt_of_lt_of_le (size_of_block hf10) y.2.size) (fun p hp => by rw [cell_of_block (keep_blk y.2 hf10)]; exact flagsA_get _ p hp)
      rw [show bvOf (wantK X m (pts X).length) = wantB X m from rfl] at HSt
      unfold sv wv at HSt
      obtain ⟨s0, s1, s2, s3, -⟩ := box4 hx10 rfl
      refine wp_region_after (by kernel_rfl) (by kernel_rfl) ?_
      repeat (first | go_big_quiet_step (first | (go_at_call 19; exact Calls.after_of (HSt _)) | (go_at_call 7; exact Calls.after_of (HK _))))
      refine wpQuiet_nil ?_
      intro z
      have hBz := hB10.trans (z.2.mono hB10.size)
      clear HSt s0 s1 s2 s3
      go_wp2
      go_ret
      exact ⟨rfl, hBz⟩
end Go.Proofs.Ytbffcnnfkfjpgaa
