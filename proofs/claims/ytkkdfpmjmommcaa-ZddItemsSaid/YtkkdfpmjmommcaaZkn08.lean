/- The law's own: great, list; what lasts. The law's own start. The document's examples of layer 8. -/
import Derived.Test.YtkkdfpmjmommcaaZcl08
import Derived.Test.YtkkdfpmjmommcaaZas08
namespace Go.Proofs.Ytkkdfpmjmommcaa
open Go.RowKit Go.Joins

/-- A family by its id. -/
def Held (S : St) (a : Int) (F : Nat → Bool) : Prop := 0 ≤ lvl S a ∧ zf S 24 a = F
theorem Held.ext {S T : St} {a : Int} {F : Nat → Bool} (h : Held S a F) (hV : VSt S) (hx : Ext S T) : Held T a F :=
  ⟨by rw [hx.lvl h.1]; exact h.1, by rw [hx.zf hV 24 a (Nat.le_refl _) h.1 (by have := h.1; omega)]; exact h.2⟩
theorem Held.zn {S : St} {a : Int} {F : Nat → Bool} (h : Held S a F) : Go.Proofs.Ytkkdfpmjmommcaa.zn S a = cF 24 F := by
  rw [← zn_cF (S := S) (id := a) (Nat.le_refl _) (by have := h.1; omega), h.2]
theorem Held.row {S : St} {a : Int} {F : Nat → Bool} (h : Held S a F) : famR S a = famL 24 F := by unfold famR; rw [h.2]
theorem ZdAt.grow {w w' : World} {N : Nat → Prop} {zb ab bm : Nat} {v : Value} {room full : Nat} {S : St} (h : ZdAt w N zb ab bm v room full S) (hb : Below w.heap.size w w') :
    ZdAt w' (fun k => N k ∨ (w.heap.size ≤ k ∧ k < w'.heap.size)) zb ab bm v room full S :=
  ⟨keep_blk hb h.head, h.ar.below hb, h.ok, h.zst, h.gap, fun k hk => by
    rcases hk with hk | ⟨h1, h2⟩
    · exact ⟨Nat.lt_of_lt_of_le (h.off k hk).1 hb.size, (h.off k hk).2⟩
    · exact ⟨h2, fun hf => by have := h.ar.fp_lt k hf; omega⟩⟩
theorem IntsAt.kz {C M N : Nat → Prop} {B : Nat} {w w' : World} (h : Kz C M N w w') {v : Value} {zs : List Int} (hz : IntsAt w B v zs) (hB : B ≤ w.heap.size) (hN : ∀ g, v.ownBlock = some g → g < B → N g) : IntsAt w' B v zs := by
  obtain ⟨A, c, rfl, hl, hr⟩ := hz
  refine ⟨A, c, rfl, hl, fun h0 => ?_⟩
  obtain ⟨b, off, rfl, hb, hcell⟩ := hr h0
  have hk := h.prot b (hN b rfl hb) (Nat.lt_of_lt_of_le hb hB)
  refine ⟨b, off, rfl, hb, fun j x hx => ?_⟩
  rw [World.cell?_of_block (w := w) (a := ⟨b, off + j, none⟩) hk]
  exact hcell j x hx
theorem Kz.belowN {C M N : Nat → Prop} {B : Nat} {w w' : World} (h : Kz C M N w w') (hN : ∀ k, k < B → N k) (hB : B ≤ w.heap.size) : Below B w w' :=
  (h.mono (fun _ c => c) (fun _ m => m) hN).below hB
/-- What was made, where there was room. -/
theorem made_ok {E : Prop} {F : Nat → Bool} {K : Nat} {N : Nat → Prop} {w w' : World} {zb ab bm room : Nat} {S : St} {e : Ending} (h : MadeZ no8 (· = bm) N w zb ab bm room (DoneZ E S (GoodT S F K)) e w') (hE : ¬ E) :
    ∃ (v : Value) (full : Nat) (T : St) (id : Int), e = .returned (.tuple #[.int .i64 id, .int .i64 0]) ∧ ZdAt w' N zb ab bm v room full T ∧ Kz no8 (· = bm) N w w' ∧ Ext S T ∧ Held T id F ∧ cnt T ≤ cnt S + K := by
  obtain ⟨v, full, T, id, er, rfl, h2, h3, h4, h5⟩ := h
  rcases h5 with ⟨rfl, g0, g1, g2⟩ | ⟨-, -, -, hE'⟩
  · exact ⟨v, full, T, id, rfl, h2, h3, h4, ⟨g0, g1⟩, g2⟩
  · exact absurd hE' hE
theorem great8_any (w : World) (v u : Value) (zs ys : List Int) (hz : IntsAt w w.heap.size v zs) (hy : IntsAt w w.heap.size u ys) :
    Calls Try.prog 10 #[v, u] w fun e w' => e = .returned (.bool (decide (40 < zs.length) || decide (40 < ys.length))) ∧ w = w' := by
  obtain ⟨A, c, rfl, hl, -⟩ := hz
  obtain ⟨A2, c2, rfl, hl2, -⟩ := hy
  by_cases h : 40 < zs.length
  · have hd : (decide ((40 : Int) < (zs.length : Int))) = true := decide_eq_true (by omega)
    rw [decide_eq_true h, Bool.true_or]
    go_enter Try.func10, Try.ntmps10
    go_wp2
    go_ret
    exact ⟨rfl, rfl⟩
  · have hd : (decide ((40 : Int) < (zs.length : Int))) = false := decide_eq_false (by omega)
    rw [decide_eq_false h, Bool.false_or]
    have h2 : decide (40 < ys.length) = decide ((40 : Int) < (ys.length : Int)) := by rw [Bool.eq_iff_iff, decide_eq_true_iff, decide_eq_true_iff]; omega
    rw [h2]
    go_enter Try.func10, Try.ntmps10
    go_wp2
    go_ret
    exact ⟨rfl, rfl⟩
theorem list8_ok {N : Nat → Prop} {w : World} {zb ab bm : Nat} {v : Value} {room full : Nat} {S : St} (h : ZdAt w N zb ab bm v room full S) {f : Int} {F : Nat → Bool} (hf : Held S f F) (hz : cF 24 F ≤ 100000) :
    Calls Try.prog 18 #[.pointer (some ⟨zb, 0, none⟩), .int .i64 f, .int .i64 0] w fun e w' => ∃ u, e = .returned u ∧ IntsAt w' w'.heap.size u (nI (famL 24 F)) ∧ FreshV w.heap.size u ∧ Below w.heap.size w w' := by
  have HL := zList_any h f hf.1 (by rw [hf.zn]; exact hz)
  rw [hf.row] at HL
  clear h hf
  go_enter Try.func18, Try.ntmps18
  go_wp2_with fail
  refine HL.mono ?_
  rintro e w1 ⟨u, rfl, hI, hF, hb⟩
  clear HL
  obtain ⟨A, c, rfl, r⟩ := hI
  go_wp2
  go_ret
  exact ⟨_, rfl, ⟨A, c, rfl, r⟩, hF, hb⟩

theorem results_tmp5 {fn : Func} {t u x y z : Tmp} (h : fn.results = #[.tmp t, .tmp u, .tmp x, .tmp y, .tmp z]) (tmps : Array Value) (P : Program) (w : World) :
    (results fn tmps).run P w = .ok (.tuple #[tmps.getD t undef, tmps.getD u undef, tmps.getD x undef, tmps.getD y undef, tmps.getD z undef]) w := by simp [results, h]
def natsOf (zs : List Int) : List Nat := zs.map Int.toNat
theorem nats_good {zs : List Int} (h : zs.all memB = true) : zs = nI (natsOf zs) ∧ ∀ x ∈ natsOf zs, x < 16777216 := by
  rw [List.all_eq_true] at h
  have h' : ∀ x ∈ zs, 0 ≤ x ∧ x < 16777216 := fun x hx => by have := h x hx; unfold memB at this; simpa using this
  unfold nI natsOf
  refine ⟨?_, fun x hx => ?_⟩
  · rw [List.map_map]
    conv => lhs; rw [← List.map_id zs]
    exact List.map_congr_left fun x hx => by have := h' x hx; show x = ((x.toNat : Nat) : Int); omega
  · obtain ⟨y, hy, rfl⟩ := List.mem_map.1 hx
    have := h' y hy
    omega
theorem any_all {zs : List Int} : zs.any (fun x => !memB x) = !zs.all memB := by
  induction zs with
  | nil => rfl
  | cons x r ih => rw [List.any_cons, List.all_cons, ih, Bool.not_and]
theorem natsOf_len (zs : List Int) : (natsOf zs).length = zs.length := by unfold natsOf; simp
/-- Of, in one word. -/
theorem zOf8_any {B : Nat} {w : World} {zb ab bm : Nat} {v va : Value} {full : Nat} {S : St} {zs : List Int} (h : ZdAt w (· < B) zb ab bm va 20000 full S) (hB : B ≤ w.heap.size) (hz : IntsAt w w.heap.size v zs) (hl : zs.length ≤ 100) (hc : cnt S ≤ 10000) :
    Calls Try.prog 25 #[.pointer (some ⟨zb, 0, none⟩), v] w fun e w' => ∃ (v' : Value) (full' : Nat) (T : St) (id er : Int), e = .returned (.tuple #[.int .i64 id, .int .i64 er]) ∧ ZdAt w' (· < B) zb ab bm v' 20000 full' T ∧ Below B w w' ∧ Ext S T ∧ cnt T ≤ cnt S + 24 * zs.length ∧ (zs.all memB = true → er = 0 ∧ Held T id (rowF (natsOf zs))) ∧ (zs.all memB = false → id = 0 ∧ er = 1) := by
  cases hm : zs.all memB
  · refine (zOf_bad h hz (by rw [any_all, hm]; rfl)).mono ?_
    rintro e w' ⟨rfl, hb⟩
    exact ⟨va, full, S, 0, 1, rfl, h.below hb, hb.mono hB, Ext.refl _, by omega, fun h => (by cases h), fun _ => ⟨rfl, rfl⟩⟩
  · obtain ⟨e1, h2⟩ := nats_good hm
    have hlen := natsOf_len zs
    rw [e1] at hz
    refine (zOf_any h hz h2 (by omega)).mono ?_
    intro e w' hM
    obtain ⟨v', full', T, id, rfl, hd, hk, hx, hh, hcn⟩ := made_ok hM (by omega)
    exact ⟨v', full', T, id, 0, rfl, hd, hk.below hB, hx, by omega, fun _ => ⟨rfl, hh⟩, fun h => (by cases h)⟩
theorem all_take {zs : List Int} {k : Nat} {x : Int} (hx : zs[k]? = some x) : (zs.take (k + 1)).all memB = ((zs.take k).all memB && memB x) := by
  rw [List.take_add_one, hx, List.all_append]
  simp
theorem cnt_empty : cnt [] = 0 := rfl
/-- What start tells. -/
def Start8 (w : World) (zs ys : List Int) (p q : Bool) (e : Ending) (w' : World) : Prop :=
  ∃ (zb ab bm : Nat) (v : Value) (full : Nat) (S : St) (a b : Int), e = .returned (.tuple #[.pointer (some ⟨zb, 0, none⟩), .int .i64 a, .int .i64 b, .bool (p && q), .bool true]) ∧ Below w.heap.size w w' ∧
    (p = true → q = true → ZdAt w' (· < w.heap.size) zb ab bm v 20000 full S ∧ Held S a (rowF (natsOf zs)) ∧ Held S b (rowF (natsOf ys)) ∧ cnt S ≤ 24 * (zs.length + ys.length))
set_option maxHeartbeats 4000000 in
set_option maxRecDepth 100000 in
theorem start8_any (w : World) (v u : Value) (zs ys : List Int) (p q : Bool) (hp : zs.all memB = p) (hq : ys.all memB = q) (hz : IntsAt w w.heap.size v zs) (hy : IntsAt w w.heap.size u ys) (h1 : zs.length ≤ 40) (h2 : ys.length ≤ 40) :
    Calls Try.prog 12 #[v, u] w (Start8 w zs ys p q) := by
  have HN := znew_yes w 20000 (Nat.le_refl _) (· < w.heap.size) (fun k hk => hk)
  have HOF := fun w1 (zb ab bm : Nat) (va : Value) (full : Nat) (S : St) (h : ZdAt w1 (· < w.heap.size) zb ab bm va 20000 full S) (hb : Below w.heap.size w w1) hc => zOf8_any h hb.size ((hz.below hb).more hb.size) (by omega) hc
  have HOG := fun w1 (zb ab bm : Nat) (va : Value) (full : Nat) (S : St) (h : ZdAt w1 (· < w.heap.size) zb ab bm va 20000 full S) (hb : Below w.heap.size w w1) hc => zOf8_any h hb.size ((hy.below hb).more hb.size) (by omega) hc
  have hTf : Hid (∀ k, k = zs.length → (zs.take k).all memB = p) := Lib.hid (fun k e => by rw [e, List.take_length]; exact hp)
  have hTg : Hid (∀ k, k = ys.length → (p && (ys.take k).all memB) = (p && q)) := Lib.hid (fun k e => by rw [e, List.take_length, hq])
  have HM := fun x w => rmay8_any x w
  obtain ⟨A, c, rfl, hl, hcl⟩ := hz
  obtain ⟨A2, c2, rfl, hl2, hcl2⟩ := hy
  go_enter Try.func12, Try.ntmps12
  go_wp2_with fail
  refine HN.mono ?_
  rintro e w1 ⟨zb, ab, bm, rfl, hd1, hb1⟩
  clear HN
  go_wp2
  go_loopw [11, 12] (fun s t wr => ∃ (k : Nat) (b : Bool), k ≤ zs.length ∧ t = .int .i64 k ∧ s = .bool b ∧ Hid ((zs.take k).all memB = b) ∧ w1 = wr) (fun _ t _ => zs.length - (intOf t).toNat)
  case atStart => exact ⟨0, true, by omega, rfl, rfl, Lib.hid rfl, by trivial⟩
  case round =>
    obtain ⟨k, b, hk, rfl, rfl, hm, rfl⟩ := hrel
    by_cases hlt : k < zs.length
    · obtain ⟨bl, off, rfl, hB, hcell⟩ := hcl (by omega)
      obtain ⟨x, hx⟩ : ∃ x, zs[k]? = some x := ⟨_, List.getElem?_eq_getElem hlt⟩
      have q := (hb1.cell (p := ⟨bl, off + k, none⟩) hB).trans (hcell k _ hx)
      have hst := Lib.hid (all_take hx)
      clear hcell hcl hcl2 hx HOF HOG hd1 hb1
      cases b
      · go_wp2
        go_roundw
        case rel => exact ⟨k + 1, false, by omega, by go_num, rfl, Lib.hid (by rw [hst.out, hm.out]; rfl), by trivial⟩
        case measure => simp [intOf]; omega
      · have HX := HM x w1
        clear HM
        go_wp2_with fail
        refine HX.mono ?_
        rintro e w2 ⟨rfl, rfl⟩
        clear HX
        go_wp2
        go_roundw
        case rel => exact ⟨k + 1, memB x, by omega, by go_num, rfl, Lib.hid (by rw [hst.out, hm.out]; rfl), by trivial⟩
        case measure => simp [intOf]; omega
    · have hbp : p = b := by rw [← hm.out, hTf.out k (by omega)]
      subst hbp
      clear hm hTf hcl
      go_wp2
      go_loopw [13, 14] (fun s t wr => ∃ (k : Nat) (b : Bool), k ≤ ys.length ∧ t = .int .i64 k ∧ s = .bool b ∧ Hid ((p && (ys.take k).all memB) = b) ∧ w1 = wr) (fun _ t _ => ys.length - (intOf t).toNat)
      case atStart => exact ⟨0, p, by omega, rfl, rfl, Lib.hid (by simp), by trivial⟩
      case round =>
        obtain ⟨k, b, hk, rfl, rfl, hm, rfl⟩ := hrel
        by_cases hlt : k < ys.length
        · obtain ⟨bl, off, rfl, hB, hcell⟩ := hcl2 (by omega)
          obtain ⟨x, hx⟩ : ∃ x, ys[k]? = some x := ⟨_, List.getElem?_eq_getElem hlt⟩
          have q := (hb1.cell (p := ⟨bl, off + k, none⟩) hB).trans (hcell k _ hx)
          have hst := Lib.hid (all_take hx)
          clear hcell hcl2 hx HOF HOG hd1 hb1
          cases b
          · go_wp2
            go_roundw
            case rel => exact ⟨k + 1, false, by omega, by go_num, rfl, Lib.hid (by rw [hst.out, ← Bool.and_assoc, hm.out]; rfl), by trivial⟩
            case measure => simp [intOf]; omega
          · have HX := HM x w1
            clear HM
            go_wp2_with fail
            refine HX.mono ?_
            rintro e w2 ⟨rfl, rfl⟩
            clear HX
            go_wp2
            go_roundw
            case rel => exact ⟨k + 1, memB x, by omega, by go_num, rfl, Lib.hid (by rw [hst.out, ← Bool.and_assoc, hm.out]; rfl), by trivial⟩
            case measure => simp [intOf]; omega
        · have hbq : b = (p && q) := by rw [← hm.out, hTg.out k (by omega)]
          subst hbq
          have HF := HOF w1 zb ab bm _ _ _ hd1 hb1 (Nat.zero_le _)
          rw [hp] at HF
          clear hm hTg hcl2 HOF HM hd1
          go_wp2_with fail
          refine HF.mono ?_
          rintro e w2 ⟨v2, full2, S2, a, ea, rfl, hd2, hb2, hx2, hc2, ha1, ha2⟩
          have hB2 := hb1.trans hb2
          have HG := HOG w2 zb ab bm _ _ _ hd2 hB2 (by rw [cnt_empty] at hc2; omega)
          rw [hq] at HG
          have hV2 := Lib.hid hd2.zst.vst
          clear HF HOG hd2 hb1 hb2
          go_wp2_with fail
          refine HG.mono ?_
          rintro e w3 ⟨v3, full3, S3, b, eb, rfl, hd3, hb3, hx3, hc3, hb1, hb2⟩
          have hB3 := hB2.trans hb3
          have hcn : cnt S3 ≤ 24 * (zs.length + ys.length) := by rw [cnt_empty] at hc2; omega
          clear HG hc2 hc3 hx2
          cases p
          · obtain ⟨rfl, rfl⟩ := ha2 rfl
            clear hb1 hb2 ha1
            cases q
            · go_wp2
              (try simp only [Exit.inBlock, Exit.then])
              refine bodyPost_ret (results_tmp5 rfl _ _ _) rfl ?_
              exact ⟨zb, ab, bm, v3, full3, S3, 0, 0, rfl, hB3, fun h => (by cases h)⟩
            · go_wp2
              (try simp only [Exit.inBlock, Exit.then])
              refine bodyPost_ret (results_tmp5 rfl _ _ _) rfl ?_
              exact ⟨zb, ab, bm, v3, full3, S3, 0, 0, rfl, hB3, fun h => (by cases h)⟩
          · obtain ⟨rfl, hA⟩ := ha1 rfl
            cases q
            · obtain ⟨rfl, rfl⟩ := hb2 rfl
              clear hb1
              go_wp2
              (try simp only [Exit.inBlock, Exit.then])
              refine bodyPost_ret (results_tmp5 rfl _ _ _) rfl ?_
              exact ⟨zb, ab, bm, v3, full3, S3, 0, 0, rfl, hB3, fun _ h => (by cases h)⟩
            · obtain ⟨rfl, hBb⟩ := hb1 rfl
              go_wp2
              (try simp only [Exit.inBlock, Exit.then])
              refine bodyPost_ret (results_tmp5 rfl _ _ _) rfl ?_
              exact ⟨zb, ab, bm, v3, full3, S3, a, b, rfl, hB3, fun _ _ => ⟨hd3, hA.ext hV2.out hx3, hBb, hcn⟩⟩

theorem lit_nats {w : World} {b n : Nat} {C : Array Value} {l : List Nat} (h : w.heap[b]? = some (.cells C 3 (0, 0))) (hC : C = (l.map fun i : Nat => Value.int .i64 i).toArray) (hn : l.length = n) (h8 : n ≤ 8) : IntsAt w w.heap.size (.slice (some ⟨b, 0, none⟩) n n) (nI l) := by
  refine ⟨some ⟨b, 0, none⟩, n, by rw [nI_len, hn], by rw [nI_len, hn]; omega, fun _ => ⟨b, 0, rfl, size_of_block h, fun j y hj => ?_⟩⟩
  obtain ⟨i, rfl, hi⟩ := nI_of hj
  rw [cell_of_block h, hC]
  simp [hi]
theorem rowF_row {l : List Nat} (hs : srtN l) (h : ∀ x ∈ l, x < 16777216) : famL 24 (rowF l) = l :=
  famL_eq hs fun x => by unfold rowF; rw [decide_eq_true_iff]; exact ⟨fun hx => ⟨h x hx, hx⟩, fun hx => hx.2⟩
theorem rowF_same {l r : List Nat} (h : ∀ x, x ∈ l ↔ x ∈ r) : rowF l = rowF r := by
  funext x; unfold rowF; rw [Bool.eq_iff_iff, decide_eq_true_iff, decide_eq_true_iff]; exact h x
theorem row514 : famL 24 (rowF [5, 1, 4]) = [1, 4, 5] := by
  rw [rowF_same (r := [1, 4, 5]) (fun x => by simp; omega)]
  exact rowF_row (by unfold srtN; decide) (by decide)
theorem least514 : famL 24 (leastF 24 (rowF [5, 1, 4])) = [1, 4] := by
  rw [← least_row, row514]; decide
theorem join14 : joinF 24 (rowF [1]) (rowF [4]) = rowF [5] := by
  funext n
  unfold rowF
  rw [Bool.eq_iff_iff, joinF_iff, decide_eq_true_iff]
  constructor
  · rintro ⟨a, b, -, -, h1, h2, h3⟩
    have e1 := List.mem_singleton.1 (of_decide_eq_true h1)
    have e2 := List.mem_singleton.1 (of_decide_eq_true h2)
    subst e1
    subst e2
    exact List.mem_singleton.2 (by rw [← h3]; rfl)
  · intro h
    have e := List.mem_singleton.1 h
    subst e
    exact ⟨1, 4, by decide, by decide, rfl, rfl, rfl⟩
theorem row5 : famL 24 (rowF [5]) = [5] := rowF_row (by unfold srtN; decide) (by decide)
theorem cF_least (D : Nat) (F : Nat → Bool) : cF D (leastF D F) ≤ cF D F := cF_le D fun _ h => (leastF_iff.1 h).1
theorem cF_row3 : cF 24 (rowF [5, 1, 4]) ≤ 3 := cF_row_le [5, 1, 4]
theorem cF_row1 (x : Nat) : cF 24 (rowF [x]) ≤ 1 := cF_row_le [x]
set_option maxHeartbeats 4000000 in
set_option maxRecDepth 100000 in
theorem knows8_any (w : World) : Calls Try.prog 11 #[] w fun e w' => e = .returned (.bool true) ∧ Below w.heap.size w w' := by
  have HN := znew_yes w 20000 (Nat.le_refl _) (· < w.heap.size) (fun k hk => hk)
  go_enter Try.func11, Try.ntmps11
  go_wp2_with fail
  refine HN.mono ?_
  rintro e w1 ⟨zb, ab, bm, rfl, hd1, hb1⟩
  clear HN
  have hl1 := below_alloc1 w1 (.cells #[.int .i64 5, .int .i64 1, .int .i64 4] 3 (0, 0))
  have H1 := zOf_any (l := [5, 1, 4]) (hd1.below hl1) (lit_nats (heap_alloc_new w1 _) rfl rfl (by decide)) (by decide) (by decide)
  go_wp2_with fail
  refine H1.mono ?_
  intro e w2 hM
  obtain ⟨v2, full2, S2, f, rfl, hd2, hk2, hx2, hh2, hc2⟩ := made_ok hM (by rw [cnt_empty]; decide)
  have hB1 := hb1.trans (hl1.mono hb1.size)
  have hB2 := hB1.trans (hk2.below hB1.size)
  have hc2' : cnt S2 ≤ 72 := hc2
  have z2 : zn S2 f ≤ 3 := by rw [hh2.zn]; exact cF_row3
  have z0 := zn_zero S2
  have hcl : cF 24 (leastF 24 (rowF [5, 1, 4])) ≤ 3 := Nat.le_trans (cF_least _ _) cF_row3
  have hbl : bL 24 (zn S2 f) ≤ 1000 := by unfold bL; have := Nat.mul_le_mul z2 z2; omega
  have H2 := zLeast_any hd2 f hh2.1 (by omega) (by rw [hh2.2]; omega) (by omega)
  rw [hh2.2] at H2
  clear H1 hM hd1 hk2 hc2 hl1 hb1 hB1
  go_wp2_with fail
  refine H2.mono ?_
  intro e w3 hM
  obtain ⟨v3, full3, S3, l, rfl, hd3, hk3, hx3, hh3, hc3⟩ := made_ok hM (by unfold EJ; omega)
  have hB3 := hB2.trans (hk3.below hB2.size)
  have hf3 := hh2.ext hd2.zst.vst hx3
  have H3 := zList_any hd3 l hh3.1 (by rw [hh3.zn]; omega)
  rw [hh3.row, least514] at H3
  clear H2 hM hd2 hk3 hx3 hh2 hx2 hB2 z0 z2 hbl
  go_wp2_with fail
  refine H3.mono ?_
  rintro e w4 ⟨m, rfl, hm4, hfr, hb4⟩
  have hB4 := hB3.trans (hb4.mono hB3.size)
  have hd4 := hd3.grow hb4
  have hf4 := hf3
  have hN4 : ∀ k, k < w.heap.size → (k < w.heap.size ∨ (w3.heap.size ≤ k ∧ k < w4.heap.size)) := fun k hk => .inl hk
  have hs4 : w4.heap.size ≤ w4.heap.size := Nat.le_refl _
  have hc3' : cnt S3 ≤ 144 := by omega
  clear H3 hd3 hf3 hb4 hc2' hc3 hB3 hh3 hcl
  have hla := below_alloc1 w4 (.cells #[.int .i64 1] 3 (0, 0))
  have hda := hd4.below hla
  have HA := zOf_any (l := [1]) hda (lit_nats (heap_alloc_new w4 _) rfl rfl (by decide)) (by decide) (by decide)
  have hma := hm4.below hla
  have hsa := hla.size
  have hBa := hB4.trans (hla.mono hB4.size)
  clear hd4 hm4 hla hB4
  go_wp2_with fail
  refine HA.mono ?_
  intro e w5 hM
  obtain ⟨v5, full5, S5, a, rfl, hd5, hk5, hx5, hh5, hc5⟩ := made_ok hM (by show ¬ 20000 ≤ cnt S3 + 24; omega)
  have hc5' : cnt S5 ≤ cnt S3 + 24 := hc5
  have hm5 := hma.kz hk5 hsa (fun g hg hlt => .inr ⟨hfr g hg, hlt⟩)
  have hs5 := Nat.le_trans hsa hk5.size
  have hB5 := hBa.trans (hk5.belowN hN4 hBa.size)
  have hf5 := hf4.ext hda.zst.vst hx5
  clear HA hM hda hk5 hma hBa hf4 hc5
  have hlb := below_alloc1 w5 (.cells #[.int .i64 4] 3 (0, 0))
  have hdb := hd5.below hlb
  have HB := zOf_any (l := [4]) hdb (lit_nats (heap_alloc_new w5 _) rfl rfl (by decide)) (by decide) (by decide)
  have hmb := hm5.below (hlb.mono hs5)
  have hsb := Nat.le_trans hs5 hlb.size
  have hBb := hB5.trans (hlb.mono hB5.size)
  clear hd5 hm5 hlb hB5
  go_wp2_with fail
  refine HB.mono ?_
  intro e w6 hM
  obtain ⟨v6, full6, S6, b, rfl, hd6, hk6, hx6, hh6, hc6⟩ := made_ok hM (by show ¬ 20000 ≤ cnt S5 + 24; omega)
  have hc6' : cnt S6 ≤ cnt S5 + 24 := hc6
  have hm6 := hmb.kz hk6 hsb (fun g hg hlt => .inr ⟨hfr g hg, hlt⟩)
  have hs6 := Nat.le_trans hsb hk6.size
  have hB6 := hBb.trans (hk6.belowN hN4 hBb.size)
  have hf6 := hf5.ext hdb.zst.vst hx6
  have ha6 := hh5.ext hdb.zst.vst hx6
  have za : zn S6 a ≤ 1 := by rw [ha6.zn]; exact cF_row1 1
  have zb' : zn S6 b ≤ 1 := by rw [hh6.zn]; exact cF_row1 4
  have zab : zn S6 a * zn S6 b ≤ 1 := Nat.mul_le_mul za zb'
  have HJ := zJoin_any hd6 a b ha6.1 hh6.1 (by omega) (by rw [ha6.2, hh6.2, join14]; have := cF_row1 5; omega) (by omega)
  rw [ha6.2, hh6.2, join14] at HJ
  have c5 := cF_row1 5
  clear HB hM hdb hk6 hmb hBb hf5 hc6 hh5
  go_wp2_with fail
  refine HJ.mono ?_
  intro e w7 hM
  obtain ⟨v7, full7, S7, c, rfl, hd7, hk7, hx7, hh7, hc7⟩ := made_ok hM (by unfold EJ; omega)
  have hm7 := (hm6.kz hk7 hs6 (fun g hg hlt => .inr ⟨hfr g hg, hlt⟩)).more (Nat.le_trans hs6 hk7.size)
  have hB7 := hB6.trans (hk7.belowN hN4 hB6.size)
  have hf7 := hf6.ext hd6.zst.vst hx7
  have HL := zList_any hd7 c hh7.1 (by rw [hh7.zn]; omega)
  rw [hh7.row, row5] at HL
  clear HJ hM hd6 hk7 hm6 hB6 hf6 hc7 ha6 hh6 za zb' zab hx5 hx6
  go_wp2_with fail
  refine HL.mono ?_
  rintro e w8 ⟨n, rfl, hn8, -, hb8⟩
  have hB8 := hB7.trans (hb8.mono hB7.size)
  have hm8 := (hm7.below hb8).more hb8.size
  have hd8 := hd7.below hb8
  clear HL hm7 hd7 hb8 hB7 hh7 hx7
  have hlc := below_alloc1 w8 (.cells #[.int .i64 1, .int .i64 4] 3 (0, 0))
  have HS := rsame8_any _ m _ _ _ ((hm8.below hlc).more hlc.size) (lit_nats (l := [1, 4]) (heap_alloc_new w8 (.cells #[.int .i64 1, .int .i64 4] 3 (0, 0))) rfl rfl (by decide))
  rw [show decide (nI [1, 4] = nI [1, 4]) = true from rfl] at HS
  have hn9 := (hn8.below hlc).more hlc.size
  have hd9 := hd8.below hlc
  have hB9 := hB8.trans (hlc.mono hB8.size)
  obtain ⟨Am, cm, rfl, -, -⟩ := hm8
  obtain ⟨An, cn, rfl, -, -⟩ := hn8
  clear hlc hd8 hB8
  go_wp2_with fail
  refine HS.mono ?_
  rintro e w10 ⟨rfl, hb10⟩
  have hn10 := (hn9.below hb10).more hb10.size
  have hd10 := hd9.below hb10
  have hB10 := hB9.trans (hb10.mono hB9.size)
  have hld := below_alloc1 w10 (.cells #[.int .i64 5] 3 (0, 0))
  have HS2 := rsame8_any _ _ _ _ _ ((hn10.below hld).more hld.size) (lit_nats (l := [5]) (heap_alloc_new w10 (.cells #[.int .i64 5] 3 (0, 0))) rfl rfl (by decide))
  rw [show decide (nI [5] = nI [5]) = true from rfl] at HS2
  have hd11 := hd10.below hld
  have hB11 := hB10.trans (hld.mono hB10.size)
  clear HS hn9 hd9 hb10 hn10 hd10 hld hB10 hB9
  go_wp2_with fail
  refine HS2.mono ?_
  rintro e w12 ⟨rfl, hb12⟩
  have HC := zCount_any (hd11.below hb12) f hf7.1
  have hcf : zn S7 f = 3 := by rw [hf7.zn, ← famL_len, row514]; rfl
  rw [hcf] at HC
  have hB12 := hB11.trans (hb12.mono hB11.size)
  clear HS2 hd11 hb12 hB11
  go_wp2_with fail
  refine HC.mono ?_
  rintro e w13 ⟨rfl, hb13⟩
  clear HC
  go_wp2
  go_ret
  exact ⟨rfl, hB12.trans (hb13.mono hB12.size)⟩
theorem ints_nil (w : World) (B : Nat) : IntsAt w B (.slice none 0 0) [] := ⟨none, 0, rfl, by decide, fun h => absurd h (by decide)⟩
/-- The row of the document is the family's. -/
theorem row_fam {l r : List Nat} (hl : ∀ x ∈ l, x < 16777216) (hs : srtN r) (hm : ∀ x, x ∈ r ↔ x ∈ l) : famL 24 (rowF l) = r :=
  famL_eq hs fun x => by unfold rowF; rw [decide_eq_true_iff, ← hm]; exact ⟨fun hx => ⟨hl x ((hm x).1 hx), hx⟩, fun hx => hx.2⟩
end Go.Proofs.Ytkkdfpmjmommcaa
