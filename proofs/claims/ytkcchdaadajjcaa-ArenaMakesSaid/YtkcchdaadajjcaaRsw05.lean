/- The document's own Sweep, for every row of nodes and all ids. -/
import Derived.Test.YtkcchdaadajjcaaRrc05
import Derived.Maps.AppendAt
namespace Go.Proofs.Ytkcchdaadajjcaa
open Go.RowKit Go.Joins

theorem Try.infoRnode2 : (Try.prog.info? 45).map (fun i => (i.zero, i.size, i.bytes)) = some (some (.agg #[.int .i64 0, .int .i64 0, .int .i64 0, .bool false]), 4, 32) := by kernel_rfl
/-- The nodes behind a sweep: those that have no flag are gone. -/
def gonL (g : Nat → Bool) (L : List Rn) : List Rn := L.mapIdx fun i x => (x.1, x.2 || !g (i + 2))
theorem gonL_len (g : Nat → Bool) (L : List Rn) : (gonL g L).length = L.length := by unfold gonL; simp
theorem gonL_at {g : Nat → Bool} {L : List Rn} {k : Nat} {x : Rn} (h : L[k]? = some x) : (gonL g L)[k]? = some (x.1, x.2 || !g (k + 2)) := by unfold gonL; rw [List.getElem?_mapIdx, h]; rfl
theorem gonL_st (g : Nat → Bool) (L : List Rn) : stOf (gonL g L) = swp (stOf L) fun i => g (i + 2) := by
  apply List.ext_getElem?
  intro i
  unfold swp
  rw [List.getElem?_mapIdx]
  cases hx : L[i]? with
  | none =>
    have h1 : (stOf L)[i]? = none := by unfold stOf; rw [List.getElem?_map, hx]; rfl
    have h2 : (gonL g L)[i]? = none := by unfold gonL; rw [List.getElem?_mapIdx, hx]; rfl
    rw [h1]
    unfold stOf
    rw [List.getElem?_map, h2]; rfl
  | some x =>
    rw [stOf_at hx, stOf_at (gonL_at hx)]
    obtain ⟨y, gone⟩ := x
    cases gone <;> cases hg : g (i + 2) <;> simp [hg]
theorem gonV_snoc {g : Nat → Bool} {L : List Rn} {k : Nat} {x : Rn} (h : L[k]? = some x) : nodesV ((gonL g L).take (k + 1)) = nodesV ((gonL g L).take k) ++ [.int .i64 x.1.1, .int .i64 x.1.2.1, .int .i64 x.1.2.2, .bool (x.2 || !g (k + 2))] := by
  rw [List.take_add_one, gonL_at h]
  unfold nodesV
  simp [nodeL]
/-- What the document's Sweep hands back. -/
def RSweepDone (w : World) (B room : Nat) (L : List Rn) (K : List Int) (e : Ending) (w' : World) : Prop :=
  ∃ (v' : Value) (L' : List Rn) (f : Nat → Bool), e = .returned (raV room v') ∧ RefAt w' B v' L' ∧ L'.length = L.length ∧ (∀ i, i < L.length → (f i = true ↔ Rch (stOf L) K i)) ∧ stOf L' = swp (stOf L) f ∧ Below w.heap.size w w'
set_option maxHeartbeats 4000000 in
set_option maxRecDepth 100000 in
theorem rsweep_any {w : World} {B : Nat} {v : Value} {L : List Rn} (room : Nat) (h : RefAt w B v L) (hBw : B ≤ w.heap.size) (hV : VSt (stOf L)) (hl : L.length ≤ 20000) (kv : Value) (K : List Int) (hK : IntsAt w w.heap.size kv K) :
    Calls Try.prog 9 #[raV room v, kv] w (RSweepDone w B room L K) := by
  have hB := below_alloc2 w (raB room v) (raB 0 (.slice none 0 0))
  have hb := heap_alloc2_old w (raB room v) (raB 0 (.slice none 0 0))
  have hz := heap_alloc2_new w (raB room v) (raB 0 (.slice none 0 0))
  have HR := rreach_any room (owns_below h hB) hV hl kv K ((hK.below hB).more hB.size)
  obtain ⟨A, c, rfl⟩ := own_form h
  obtain ⟨KA, kc, rfl, -, -⟩ := hK
  obtain ⟨i0, hi0, hz0, hz1, hz2⟩ := info_parts Try.infoRnode2
  unfold raV raB at *
  go_enter Try.func9, Try.ntmps9
  go_wp2_with fail
  refine HR.mono ?_
  rintro e w1 ⟨sb, g, rfl, hsb, hs1, hg, -, -, hb1⟩
  have hbx := keep_blk hb1 hb
  have hzx := keep_blk hb1 hz
  have hB1 := hB.trans (hb1.mono hB.size)
  have hgH := Lib.hid hg
  obtain ⟨b0, b1, bf⟩ := now2 hbx rfl
  have hbo := heap_alloc_new w1 (.cells #[.int .i64 room, .slice none 0 0] 30 (0, 0))
  have hb2 := keep_alloc (x := .cells #[.int .i64 room, .slice none 0 0] 30 (0, 0)) hbx
  have hz2' := keep_alloc (x := .cells #[.int .i64 room, .slice none 0 0] 30 (0, 0)) hzx
  have hs2 := keep_alloc (x := .cells #[.int .i64 room, .slice none 0 0] 30 (0, 0)) hs1
  have hB2 := hB1.alloc hB1.size (.cells #[.int .i64 room, .slice none 0 0] 30 (0, 0))
  have hw1 : w.heap.size + 1 < w1.heap.size := size_of_block hzx
  have hsb1 : sb < w1.heap.size := size_of_block hs1
  have hsbne : w.heap.size + 1 < sb := by have : w.heap.size + 2 ≤ sb := by simpa using hsb
                                          omega
  clear HR hb hz hB hb1 hsb hg hbx hzx hs1 hB1
  go_wp2
  go_loopw [7, 8] (fun t _ wr => ∃ (k : Nat) (V : Value), k ≤ L.length ∧ t = .int .i64 k ∧ wr.heap[w1.heap.size]? = some (.cells #[.int .i64 room, V] 30 (0, 0)) ∧ wr.ownsRow w.heap.size 45 4 V k (nodesV ((gonL g L).take k)) ∧ wr.heap[w.heap.size]? = some (.cells #[.int .i64 room, .slice A L.length c] 30 (0, 0)) ∧ wr.heap[w.heap.size + 1]? = some (.cells #[.int .i64 0, .slice none 0 0] 30 (0, 0)) ∧ wr.heap[sb]? = some (seenO (L.length + 2) g) ∧ Below w.heap.size w wr) (fun t _ _ => L.length - (intOf t).toNat)
  case atStart => exact ⟨0, _, by omega, rfl, hbo, World.ownsRow_nil _ _ _ _, hb2, hz2', hs2, hB2⟩
  case round =>
    clear hbo hb2 hz2' hs2 hB2 b0 b1 bf
    obtain ⟨k, V, hk, rfl, hbo, hoV, hb, hz, hs, hbw⟩ := hrel
    obtain ⟨A1, c1, rfl⟩ := own_form hoV
    obtain ⟨b0, b1, bf⟩ := now2 hb rfl
    by_cases hlt : k < L.length
    · obtain ⟨x, hx⟩ : ∃ x, L[k]? = some x := ⟨_, List.getElem?_eq_getElem hlt⟩
      obtain ⟨g0, cg, hA⟩ := own_some h (by omega)
      obtain rfl : A = some ⟨g0, 0, none⟩ := by injection hA
      have hown := owns_below h hbw
      obtain ⟨d0, d1, d2, d3⟩ := nodes_at hown hx
      have hsn := gonV_snoc (g := g) hx
      obtain ⟨⟨x0, y0, z0⟩, gone⟩ := x
      dsimp only at *
      obtain ⟨a0, a1⟩ := later2 hbo
      have q := fun o => (seen_cell (keep_alloc (x := o) hs) (p := k + 2) (by omega)).1
      have hk2 : (k : Int) + 2 < (L.length : Int) + 2 := by omega
      have hnbo := own_ne hoV hbo (by decide)
      have hnb := own_ne hoV hb (by decide)
      have hnz := own_ne hoV hz (by decide)
      have hns := own_ne hoV hs (by decide)
      have hbwz := hbw.size
      cases gone
      · cases hgk : g (k + 2)
        · have hsn' := hsn.trans (by rw [hgk]; rfl : _ = nodesV ((gonL g L).take k) ++ [.int .i64 x0, .int .i64 y0, .int .i64 z0, .bool true])
          rw [hgk] at q
          clear hx hA hown hsn hgk
          go_wp2_with (at_builtin; go_loud (refine wpList_append_own_at _ rfl _ _ 28 rfl w.heap.size 45 i0 (.agg #[.int .i64 0, .int .i64 0, .int .i64 0, .bool false]) 4 32 Try.underlying28 hi0 hz0 hz1 hz2 rfl (by decide) _ _ _ rfl ((hoV.alloc _).alloc _) ⟨wr.heap.size + 1, 0, none⟩ 1 1 [.int .i64 x0, .int .i64 y0, .int .i64 z0, .bool true] rfl rfl (World.news_of_block (cs := #[.int .i64 x0, .int .i64 y0, .int .i64 z0, .bool true]) (t := 45) (fr := (0, 0)) (heap_alloc2_new wr _ _)) (by simp [Value.oneCell']) (by unfold maxLen; omega) (by omega) (by simp; omega) ?_))
          intro v7 w7 ho7 hg7 _ hloc
          have hbo7 := (hg7.block w1.heap.size (by have := size_of_block hbo; simp; omega) (fun e => hnbo e.symm)).trans (keep_alloc (keep_alloc hbo))
          have hb7 := (hg7.block w.heap.size (by have := size_of_block hb; simp; omega) (fun e => hnb e.symm)).trans (keep_alloc (keep_alloc hb))
          have hz7 := (hg7.block (w.heap.size + 1) (by have := size_of_block hz; simp; omega) (fun e => hnz e.symm)).trans (keep_alloc (keep_alloc hz))
          have hs7 := (hg7.block sb (by have := size_of_block hs; simp; omega) (fun e => hns e.symm)).trans (keep_alloc (keep_alloc hs))
          have hB7 : Below w.heap.size w w7 := ((hbw.alloc hbw.size _).alloc (by simp; omega) _).grown hg7 (by simp; omega) (fun j hj => (hoV.lt j hj).1)
          have ho7' : w7.ownsRow w.heap.size 45 4 v7 (k + 1) (nodesV ((gonL g L).take (k + 1))) := by rw [hsn']; exact ho7
          clear ho7 hg7 hloc hbo hb hz hs hoV hbw a0 a1 b0 b1 bf q hnbo hnb hnz hns
          obtain ⟨A7, c7, rfl⟩ := own_form ho7'
          obtain ⟨c0, c1', cf⟩ := now2 hbo7 rfl
          have hne := own_ne ho7' hbo7 (by decide)
          have hsn2 := Lib.hid hsn'
          clear hsn'
          go_wp2
          go_roundw
          case rel => exact ⟨k + 1, .slice A7 (k + 1) c7, by omega, by go_num, by rw [block_setCell hbo7]; rfl, own_set ho7' hne _ _, keep_set (by show w.heap.size ≠ w1.heap.size; omega) hb7, keep_set (by show w.heap.size + 1 ≠ w1.heap.size; omega) hz7, keep_set (by show sb ≠ w1.heap.size; omega) hs7, hB7.setCell (by show w.heap.size ≤ w1.heap.size; omega) _⟩
          case measure => simp [intOf]; omega
        · have hsn' := hsn.trans (by rw [hgk]; rfl : _ = nodesV ((gonL g L).take k) ++ [.int .i64 x0, .int .i64 y0, .int .i64 z0, .bool false])
          rw [hgk] at q
          clear hx hA hown hsn hgk
          go_wp2_with (at_builtin; go_loud (refine wpList_append_own_at _ rfl _ _ 28 rfl w.heap.size 45 i0 (.agg #[.int .i64 0, .int .i64 0, .int .i64 0, .bool false]) 4 32 Try.underlying28 hi0 hz0 hz1 hz2 rfl (by decide) _ _ _ rfl ((hoV.alloc _).alloc _) ⟨wr.heap.size + 1, 0, none⟩ 1 1 [.int .i64 x0, .int .i64 y0, .int .i64 z0, .bool false] rfl rfl (World.news_of_block (cs := #[.int .i64 x0, .int .i64 y0, .int .i64 z0, .bool false]) (t := 45) (fr := (0, 0)) (heap_alloc2_new wr _ _)) (by simp [Value.oneCell']) (by unfold maxLen; omega) (by omega) (by simp; omega) ?_))
          intro v7 w7 ho7 hg7 _ hloc
          have hbo7 := (hg7.block w1.heap.size (by have := size_of_block hbo; simp; omega) (fun e => hnbo e.symm)).trans (keep_alloc (keep_alloc hbo))
          have hb7 := (hg7.block w.heap.size (by have := size_of_block hb; simp; omega) (fun e => hnb e.symm)).trans (keep_alloc (keep_alloc hb))
          have hz7 := (hg7.block (w.heap.size + 1) (by have := size_of_block hz; simp; omega) (fun e => hnz e.symm)).trans (keep_alloc (keep_alloc hz))
          have hs7 := (hg7.block sb (by have := size_of_block hs; simp; omega) (fun e => hns e.symm)).trans (keep_alloc (keep_alloc hs))
          have hB7 : Below w.heap.size w w7 := ((hbw.alloc hbw.size _).alloc (by simp; omega) _).grown hg7 (by simp; omega) (fun j hj => (hoV.lt j hj).1)
          have ho7' : w7.ownsRow w.heap.size 45 4 v7 (k + 1) (nodesV ((gonL g L).take (k + 1))) := by rw [hsn']; exact ho7
          clear ho7 hg7 hloc hbo hb hz hs hoV hbw a0 a1 b0 b1 bf q hnbo hnb hnz hns
          obtain ⟨A7, c7, rfl⟩ := own_form ho7'
          obtain ⟨c0, c1', cf⟩ := now2 hbo7 rfl
          have hne := own_ne ho7' hbo7 (by decide)
          have hsn2 := Lib.hid hsn'
          clear hsn'
          go_wp2
          go_roundw
          case rel => exact ⟨k + 1, .slice A7 (k + 1) c7, by omega, by go_num, by rw [block_setCell hbo7]; rfl, own_set ho7' hne _ _, keep_set (by show w.heap.size ≠ w1.heap.size; omega) hb7, keep_set (by show w.heap.size + 1 ≠ w1.heap.size; omega) hz7, keep_set (by show sb ≠ w1.heap.size; omega) hs7, hB7.setCell (by show w.heap.size ≤ w1.heap.size; omega) _⟩
          case measure => simp [intOf]; omega
      · have hsn' := hsn.trans (by rw [Bool.true_or] : _ = nodesV ((gonL g L).take k) ++ [.int .i64 x0, .int .i64 y0, .int .i64 z0, .bool true])
        clear hx hA hown hsn
        go_wp2_with (at_builtin; go_loud (refine wpList_append_own_at _ rfl _ _ 28 rfl w.heap.size 45 i0 (.agg #[.int .i64 0, .int .i64 0, .int .i64 0, .bool false]) 4 32 Try.underlying28 hi0 hz0 hz1 hz2 rfl (by decide) _ _ _ rfl ((hoV.alloc _).alloc _) ⟨wr.heap.size + 1, 0, none⟩ 1 1 [.int .i64 x0, .int .i64 y0, .int .i64 z0, .bool true] rfl rfl (World.news_of_block (cs := #[.int .i64 x0, .int .i64 y0, .int .i64 z0, .bool true]) (t := 45) (fr := (0, 0)) (heap_alloc2_new wr _ _)) (by simp [Value.oneCell']) (by unfold maxLen; omega) (by omega) (by simp; omega) ?_))
        intro v7 w7 ho7 hg7 _ hloc
        have hbo7 := (hg7.block w1.heap.size (by have := size_of_block hbo; simp; omega) (fun e => hnbo e.symm)).trans (keep_alloc (keep_alloc hbo))
        have hb7 := (hg7.block w.heap.size (by have := size_of_block hb; simp; omega) (fun e => hnb e.symm)).trans (keep_alloc (keep_alloc hb))
        have hz7 := (hg7.block (w.heap.size + 1) (by have := size_of_block hz; simp; omega) (fun e => hnz e.symm)).trans (keep_alloc (keep_alloc hz))
        have hs7 := (hg7.block sb (by have := size_of_block hs; simp; omega) (fun e => hns e.symm)).trans (keep_alloc (keep_alloc hs))
        have hB7 : Below w.heap.size w w7 := ((hbw.alloc hbw.size _).alloc (by simp; omega) _).grown hg7 (by simp; omega) (fun j hj => (hoV.lt j hj).1)
        have ho7' : w7.ownsRow w.heap.size 45 4 v7 (k + 1) (nodesV ((gonL g L).take (k + 1))) := by rw [hsn']; exact ho7
        clear ho7 hg7 hloc hbo hb hz hs hoV hbw a0 a1 b0 b1 bf q hnbo hnb hnz hns
        obtain ⟨A7, c7, rfl⟩ := own_form ho7'
        obtain ⟨c0, c1', cf⟩ := now2 hbo7 rfl
        have hne := own_ne ho7' hbo7 (by decide)
        have hsn2 := Lib.hid hsn'
        clear hsn'
        go_wp2
        go_roundw
        case rel => exact ⟨k + 1, .slice A7 (k + 1) c7, by omega, by go_num, by rw [block_setCell hbo7]; rfl, own_set ho7' hne _ _, keep_set (by show w.heap.size ≠ w1.heap.size; omega) hb7, keep_set (by show w.heap.size + 1 ≠ w1.heap.size; omega) hz7, keep_set (by show sb ≠ w1.heap.size; omega) hs7, hB7.setCell (by show w.heap.size ≤ w1.heap.size; omega) _⟩
        case measure => simp [intOf]; omega
    · have hkL : k = L.length := by omega
      have hoV' : wr.ownsRow w.heap.size 45 4 (.slice A1 k c1) k (nodesV (gonL g L)) := by
        have e : (gonL g L).take k = gonL g L := by rw [hkL, ← gonL_len g L, List.take_length]
        rw [e] at hoV
        exact hoV
      have hkH := Lib.hid hkL
      obtain ⟨a0, a1, af⟩ := now2 hbo rfl
      obtain ⟨z0', z1', zf⟩ := now2 hz rfl
      obtain ⟨p0, p1, -⟩ := now2 (put2 (x0 := .int .i64 room) (x1 := .slice A1 k c1) hz) rfl
      have hne2 := own_ne hoV' hz (by decide)
      clear hkL hoV
      go_wp2
      exact bodyPost_ret (v := .agg #[.int .i64 room, .slice A1 k c1]) (by simp [results, Try.results9, go_sem, p0, p1]) rfl
        ⟨.slice A1 k c1, gonL g L, fun i => g (i + 2), rfl, by unfold RefAt; rw [gonL_len, ← hkH.out]; exact own_set (own_set (own_more hoV' (by omega)) hne2 _ _) hne2 _ _, gonL_len g L, hgH.out, gonL_st g L, (hbw.setCell (by simp) _).setCell (by simp) _⟩
end Go.Proofs.Ytkcchdaadajjcaa
