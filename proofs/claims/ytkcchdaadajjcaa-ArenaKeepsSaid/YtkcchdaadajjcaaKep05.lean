/- ArenaKeeps: what is kept is as it was. -/
import Derived.Test.YtkcchdaadajjcaaKnw05
import Derived.Test.YtkcchdaadajjcaaAsk05
import Derived.Test.YtkcchdaadajjcaaRar05
import Derived.Deep.CutRange
import Derived.Maps.AppendAt
namespace Go.Proofs.Ytkcchdaadajjcaa
open Go.RowKit Go.Joins

set_option maxRecDepth 100000 in
theorem keeps_bad (room : Int) (v kv : Value) (K : List Int) (w : World) (h : room < 0 ∨ 20000 < room) (hK : IntsAt w w.heap.size kv K) :
    Calls Try.prog 4 #[.int .i64 room, v, kv] w fun e w' => e = .returned (.bool true) ∧ Below w.heap.size w w' := by
  have HN := new_no room w h
  have HK := knows5_any w
  obtain ⟨KA, kc, rfl, -, -⟩ := hK
  clear h
  go_enter Try.func4, Try.ntmps4
  go_wp2_with fail
  refine HN.mono ?_
  rintro e w1 ⟨rfl, rfl⟩
  clear HN
  go_wp2_with fail
  refine HK.mono ?_
  rintro e w1 ⟨rfl, hb1⟩
  clear HK
  go_wp2
  go_ret
  exact ⟨rfl, hb1⟩
set_option maxRecDepth 100000 in
theorem keeps_many (room : Nat) (v kv : Value) (K : List Int) (w : World) (h : room ≤ 20000) (hK : IntsAt w w.heap.size kv K) (h20 : 20 < K.length) :
    Calls Try.prog 4 #[.int .i64 room, v, kv] w fun e w' => e = .returned (.bool true) ∧ Below w.heap.size w w' := by
  have HN := new_yes room w h
  have HK := fun w => knows5_any w
  obtain ⟨KA, kc, rfl, -, -⟩ := hK
  go_enter Try.func4, Try.ntmps4
  go_wp2_with fail
  refine HN.mono ?_
  rintro e w1 ⟨ab, bm, rfl, -, hb1⟩
  clear HN
  go_wp2_with fail
  refine (HK _).mono ?_
  rintro e w2 ⟨rfl, hb2⟩
  clear HK
  go_wp2
  go_ret
  exact ⟨rfl, hb1.trans (hb2.mono hb1.size)⟩
theorem Try.infoRnode3 : (Try.prog.info? 45).map (fun i => (i.zero, i.size, i.bytes)) = some (some (.agg #[.int .i64 0, .int .i64 0, .int .i64 0, .bool false]), 4, 32) := by kernel_rfl
theorem Try.neInA : (3 : TypeId) ≠ 55 := by decide
theorem Try.neInS : (3 : TypeId) ≠ 60 := by decide
theorem Try.neNoA : (45 : TypeId) ≠ 55 := by decide
theorem Try.neNoS : (45 : TypeId) ≠ 60 := by decide
theorem own_apart {w : World} {b1 b2 s1 s2 n1 n2 : Nat} {e1 e2 : TypeId} {v1 v2 : Value} {x1 x2 : List Value} (h1 : w.ownsRow b1 e1 s1 v1 n1 x1) (h2 : w.ownsRow b2 e2 s2 v2 n2 x2) (hne : e1 ≠ e2) : v1.ownBlock = none ∨ v1.ownBlock ≠ v2.ownBlock := by
  rcases h2.2 with ⟨rfl, _⟩ | ⟨g, cap, cur, rfl, _, hg, _⟩
  · cases hv : v1.ownBlock
    · exact .inl rfl
    · exact .inr (by simp [Value.ownBlock])
  · exact .inr (own_ne h1 hg hne)
/-- What was kept: places, and their nodes. -/
abbrev Kp := Nat × Nd
def kpI (P : List Kp) : List Value := P.map fun x => Value.int .i64 ((x.1 : Int) + 2)
def kpN (P : List Kp) : List Rn := P.map fun x => (x.2, false)
theorem kpN_len (P : List Kp) : (kpN P).length = P.length := by unfold kpN; simp
theorem kpI_snoc (P : List Kp) (x : Kp) : kpI (P ++ [x]) = kpI P ++ [.int .i64 ((x.1 : Int) + 2)] := by unfold kpI; simp
theorem kpN_snoc (P : List Kp) (x : Kp) : nodesV (kpN (P ++ [x])) = nodesV (kpN P) ++ [.int .i64 x.2.1, .int .i64 x.2.2.1, .int .i64 x.2.2.2, .bool false] := by unfold kpN nodesV; simp [nodeL]
def KpOk (S : St) (K : List Int) (P : List Kp) : Prop := ∀ x ∈ P, S[x.1]? = some (some x.2) ∧ Rch S K x.1
theorem KpOk.nil (S : St) (K : List Int) : KpOk S K [] := fun x hx => by simp at hx
theorem KpOk.snoc {S : St} {K : List Int} {P : List Kp} (h : KpOk S K P) {i : Nat} {n : Nd} (h1 : S[i]? = some (some n)) (h2 : Rch S K i) : KpOk S K (P ++ [(i, n)]) := by
  intro x hx
  rcases List.mem_append.1 hx with hx | hx
  · exact h x hx
  · rw [List.mem_singleton.1 hx]; exact ⟨h1, h2⟩
/-- Behind a sweep a node that is kept is made again: its own id. -/
theorem mk_again {S : St} {room i : Nat} {n : Nd} (hV : VSt S) (h : S[i]? = some (some n)) : mkS room S n = (S, (i : Int) + 2, 0) := by
  unfold mkS
  rw [if_neg (by rw [hV.ok i n h]; decide), whereN_eq hV h]
set_option maxHeartbeats 8000000 in
set_option maxRecDepth 100000 in
theorem keeps_good (room : Nat) (hroom : room ≤ 20000) (v kv : Value) (qs : List Ak) (K : List Int) (w : World) (hq : AsksAt w w.heap.size v qs) (hK : IntsAt w w.heap.size kv K) (h20 : ¬ 20 < K.length) :
    Calls Try.prog 4 #[.int .i64 room, v, kv] w fun e w' => e = .returned (.bool true) ∧ Below w.heap.size w w' := by
  have HN := new_yes room w hroom
  obtain ⟨QA, qc, rfl, hql, hqc⟩ := hq
  have hKK := Lib.hid hK
  obtain ⟨KA, kc, rfl, hkl, hkc⟩ := hK
  go_enter Try.func4, Try.ntmps4
  go_wp2_with fail
  refine HN.mono ?_
  rintro e w1 ⟨ab, bm, rfl, hA, hb1⟩
  clear HN
  go_wp2
  go_loopw [9] (fun t wr => ∃ (k : Nat) (v : Value) (full : Nat) (S : St), k ≤ qs.length ∧ k ≤ 60 ∧ t = .int .i64 k ∧ ArAt wr w.heap.size ab bm v room full S ∧ ArOk room full S ∧ Below w.heap.size w wr) (fun t _ => 60 - (intOf t).toNat)
  case atStart => exact ⟨0, _, 0, [], by omega, by omega, rfl, hA, ArOk.nil room hroom, hb1⟩
  case round =>
    clear hA hb1
    obtain ⟨k, v, full, S, hk, hk60, rfl, hA, hO, hB⟩ := hrel
    by_cases hlt : k < qs.length ∧ k < 60
    · obtain ⟨hlq, hl60⟩ := hlt
      obtain ⟨qb, qo, rfl, hqB, hqx⟩ := hqc (by omega)
      obtain ⟨x, hx⟩ : ∃ x, qs[k]? = some x := ⟨_, List.getElem?_eq_getElem hlq⟩
      obtain ⟨kv, -, a1, a2, a3, -, -⟩ := hqx k x hx
      have u1 := fun y : After wr => After.cell y ((hB.cell (p := ⟨qb, qo + k * 5 + 1, none⟩) hqB).trans a1)
      have u2 := fun y : After wr => After.cell y ((hB.cell (p := ⟨qb, qo + k * 5 + 2, none⟩) hqB).trans a2)
      have u3 := fun y : After wr => After.cell y ((hB.cell (p := ⟨qb, qo + k * 5 + 3, none⟩) hqB).trans a3)
      obtain ⟨xk, xl, xlo, xhi, ks⟩ := x
      dsimp only at *
      have HM := fun y : After wr => make_any (hA.below y.2) hO xl xlo xhi
      clear a1 a2 a3 hqx hx
      go_wp2
      refine wp_region_after_tail 16 (by kernel_rfl) (by kernel_rfl) ?_
      simp only [List.take_succ_cons, List.take_zero, List.drop_succ_cons, List.drop_zero]
      repeat (first | go_big_quiet_step (fail))
      refine wpQuiet_nil ?_
      intro y
      have hAy := hA.below y.2
      have hBy := hB.trans (y.2.mono hB.size)
      have HM := HM y
      clear u1 u2 u3
      go_wp2_with (go_at_call 10; refine HM.mono ?_; rintro e w2 ⟨rfl, v2, full2, hA2, hO2, hoff⟩)
      go_roundw
      case rel => exact ⟨k + 1, v2, full2, _, by omega, by omega, by go_num, hA2, hO2, hBy.trans (hAy.off_below hoff)⟩
      case measure => simp [intOf]; omega
    · -- EXIT
      have hSl : S.length ≤ 20000 := by have := hO.len; have := hO.max; omega
      clear hqc hql
      by_cases hlq : k < qs.length
      · have hl60 : ¬ k < 60 := fun h => hlt ⟨hlq, h⟩
        clear hlt
        go_wp2
        generalize hwo : wr = wo at *
        clear hwo
        have hwoz := hB.size
        go_loopw [10, 11, 12, 13, 14, 15, 16, 17, 18] (fun a b t _ _ _ _ _ _ wx => ∃ (q : Nat) (P : List Kp), q ≤ K.length ∧ t = .int .i64 q ∧ P.length ≤ q * 20000 ∧ Hid (KpOk S K P) ∧ wx.ownsRow wo.heap.size 45 4 a P.length (nodesV (kpN P)) ∧ wx.ownsRow wo.heap.size 3 1 b P.length (kpI P) ∧ Below wo.heap.size wo wx) (fun _ _ t _ _ _ _ _ _ _ => K.length - (intOf t).toNat)
        case atStart => exact ⟨0, [], by omega, rfl, by simp, Lib.hid (KpOk.nil S K), World.ownsRow_nil _ _ _ _, World.ownsRow_nil _ _ _ _, Below.refl _ _⟩
        case round =>
          obtain ⟨q, P, hq, rfl, hPl, hP, hoW, hoI, hbx⟩ := hrel
          obtain ⟨AW, cW, rfl⟩ := own_form hoW
          obtain ⟨AI, cI, rfl⟩ := own_form hoI
          by_cases hlt2 : q < K.length
          · obtain ⟨kb, ko, rfl, hkB, hkx⟩ := hkc (by omega)
            obtain ⟨y, hy⟩ : ∃ y, K[q]? = some y := ⟨_, List.getElem?_eq_getElem hlt2⟩
            have u := ((hbx.mono hwoz).cell (p := ⟨kb, ko + q, none⟩) hkB).trans ((hB.cell (p := ⟨kb, ko + q, none⟩) hkB).trans (hkx q y hy))
            have HR := reach_any (hA.below hbx) hO y
            have hyK := Lib.hid (List.mem_of_getElem? hy)
            clear hkx hy
            go_wp2_with fail
            refine HR.mono ?_
            rintro e w5 ⟨v5, f, rfl, hf, ho5, hb5⟩
            have hNl := idsK_len f S.length
            have hoW5 := owns_below hoW hb5
            have hoI5 := owns_below hoI hb5
            have hB5 := hbx.trans (hb5.mono hbx.size)
            obtain ⟨A5, c5, rfl⟩ := own_form ho5
            have hsep0 : ∀ g, (Value.slice AI P.length cI).ownBlock = some g → (Value.slice A5 (idsK f S.length).length c5).ownBlock ≠ some g := fun g h1 h2 => by
              have a1 := (hoI.lt g h1).2
              have a2 := (ho5.lt g h2).1
              omega
            have hfH := Lib.hid hf
            have hbz5 := hb5.size
            have hbxz := hbx.size
            clear HR u hoW hoI hb5 hf
            go_wp2
            generalize hNN : (idsK f S.length).length = N at *
            generalize hwrx : wr = wq at *
            clear hwrx
            go_loopw [10, 11, 14, 15, 16, 17, 18] (fun a b t _ _ _ _ wy => ∃ (j : Nat) (P2 : List Kp), j ≤ N ∧ t = .int .i64 j ∧ P2.length ≤ q * 20000 + j ∧ Hid (KpOk S K P2) ∧ wy.ownsRow wo.heap.size 45 4 a P2.length (nodesV (kpN P2)) ∧ wy.ownsRow wo.heap.size 3 1 b P2.length (kpI P2) ∧ wy.ownsRow wq.heap.size 3 1 (.slice A5 N c5) N (idsV (idsK f S.length)) ∧ (∀ g, b.ownBlock = some g → (Value.slice A5 N c5).ownBlock ≠ some g) ∧ Below wo.heap.size wo wy) (fun _ _ t _ _ _ _ _ => N - (intOf t).toNat)
            case atStart => exact ⟨0, P, by omega, rfl, by omega, hP, hoW5, hoI5, ho5, hsep0, hB5⟩
            case round =>
              clear hoW5 hoI5 ho5 hsep0 hB5 hP hPl
              obtain ⟨j, P2, hj, rfl, hP2l, hP2, hoW2, hoI2, hoR2, hsep, hB2⟩ := hrel
              by_cases hlt3 : j < N
              · obtain ⟨AW2, cW2, rfl⟩ := own_form hoW2
                obtain ⟨AI2, cI2, rfl⟩ := own_form hoI2
                obtain ⟨ix, hix⟩ : ∃ ix, (idsK f S.length)[j]? = some ix := ⟨_, List.getElem?_eq_getElem (by rw [hNN]; exact hlt3)⟩
                have hmem := List.mem_of_getElem? hix
                obtain ⟨hixr, hfix⟩ := List.mem_filter.1 (show ix ∈ (List.range S.length).filter f from hmem)
                have hixl : ix < S.length := by simpa using hixr
                have hrch := (hfH.out ix hixl).1 hfix
                obtain ⟨n, hn⟩ := hrch.node
                have hrchH := Lib.hid (hrch.more (K' := K) (fun x hx => by rw [List.mem_singleton.1 hx]; exact hyK.out))
                obtain ⟨g5, c6, hG⟩ := own_some hoR2 (by omega)
                obtain ⟨rfl, rfl⟩ : A5 = some ⟨g5, 0, none⟩ ∧ c5 = c6 := by injection hG with e1 e2 e3; exact ⟨e1, e3⟩
                have hr := hoR2.cellAt j (by omega)
                have hv : (idsV (idsK f S.length))[j]? = some (.int .i64 ((ix : Int) + 2)) := by unfold idsV; rw [List.getElem?_map, hix]; rfl
                rw [hv] at hr
                have HN := node_any (hA.below hB2) hSl ((ix : Int) + 2)
                rw [ndAt_id hn] at HN
                unfold ndT at HN
                obtain ⟨n0, n1, n2⟩ := n
                dsimp only at HN
                have hnH := Lib.hid hn
                have hok2 := Lib.hid (KpOk.snoc hP2.out hn hrchH.out)
                clear hix hmem hixr hfix hrch hn hG hv
                go_wp2_with fail
                refine HN.mono ?_
                rintro e w6 ⟨rfl, hb6⟩
                have hoW6 := owns_below hoW2 hb6
                have hoI6 := owns_below hoI2 hb6
                have hoR6 := owns_below hoR2 hb6
                have hB6 := hB2.trans (hb6.mono hB2.size)
                have r6 := (hb6.cell (p := ⟨g5, j, none⟩) ((hoR2.lt g5 rfl).2)).trans hr
                have hz6 := hB6.size
                have hwoz2 := (hoI2.lt)
                obtain ⟨i0, hi0, hz0, hz1, hz2⟩ := info_parts Try.infoRnode3
                obtain ⟨k0, kk0, kz0, kz1, kz2⟩ := info_parts Try.infoInt
                have hg5l := (hoR6.lt g5 rfl).2
                have hgW : (Value.slice AW2 P2.length cW2).ownBlock ≠ some g5 := fun e => by
                  rcases hoR6.2 with ⟨hv, h0⟩ | ⟨g, cap, cur, hv, _, hh, _⟩
                  · cases hv
                  · injection hv with e1 _ _
                    injection e1 with e1
                    injection e1 with e1 _ _
                    subst e1
                    exact own_ne hoW6 hh (by decide) e
                clear HN hoW2 hoI2 hoR2 hb6 hr hB2
                go_wp2_with (at_builtin; go_loud (refine wpList_append_own_at _ rfl _ _ 28 rfl wo.heap.size 45 i0 (.agg #[.int .i64 0, .int .i64 0, .int .i64 0, .bool false]) 4 32 Try.underlying28 hi0 hz0 hz1 hz2 rfl (by decide) _ _ _ rfl (hoW6.alloc _) ⟨w6.heap.size, 0, none⟩ 1 1 [.int .i64 n0, .int .i64 n1, .int .i64 n2, .bool false] rfl rfl (World.news_of_block (cs := #[.int .i64 n0, .int .i64 n1, .int .i64 n2, .bool false]) (t := 45) (fr := (0, 0)) (heap_alloc_new w6 _)) (by simp [Value.oneCell']) (by unfold maxLen; omega) (by omega) (by simp; omega) ?_))
                intro v7 w7 ho7 hg7 _ hloc7
                have hoI7 := (hoI6.alloc _).kept hg7 (own_apart hoI6 hoW6 (by decide))
                have hoR7 := (hoR6.alloc _).kept hg7 (own_apart hoR6 hoW6 (by decide))
                have hB7 := grown_below (hoW6.alloc (.cells #[.int .i64 n0, .int .i64 n1, .int .i64 n2, .bool false] 45)) hg7 (hB6.alloc hB6.size _) (Nat.le_refl _) (by simp; omega)
                have r7 : w7.cell? ⟨g5, j, none⟩ = some (.int .i64 ((ix : Int) + 2)) := (hoR7.cellAt j (by omega)).trans ((hoR6.cellAt j (by omega)).symm.trans r6)
                have ho7' : w7.ownsRow wo.heap.size 45 4 v7 (P2 ++ [(ix, n0, n1, n2)]).length (nodesV (kpN (P2 ++ [(ix, n0, n1, n2)]))) := by rw [kpN_snoc, List.length_append]; exact ho7
                have hz7 := hB7.size
                clear hoW6 hoI6 hoR6 hg7 hloc7 ho7 hB6 r6 hgW hg5l
                go_wp2_with (at_builtin; go_loud (refine wpList_append_own_at _ rfl _ _ 31 rfl wo.heap.size 3 k0 (.int .i64 0) 1 8 Try.underlying31 kk0 kz0 kz1 kz2 rfl (by decide) _ _ _ rfl (hoI7.alloc _) ⟨w7.heap.size, 0, none⟩ 1 1 [.int .i64 ((ix : Int) + 2)] rfl rfl (cell_one_new _ _ _) (by simp [Value.oneCell']) (by unfold maxLen; omega) (by omega) (by simp; omega) ?_))
                intro v8 w8 ho8 hg8 _ hloc8
                have hRne : (Value.slice (some ⟨g5, 0, none⟩) N c5).ownBlock ≠ (Value.slice AI2 P2.length cI2).ownBlock := fun e => hsep g5 e.symm rfl
                have hoR8 := (hoR7.alloc _).kept hg8 (.inr hRne)
                have hoW8 := (ho7'.alloc _).kept hg8 (own_apart ho7' hoI7 (by decide))
                have hB8 := grown_below (hoI7.alloc (.cells #[.int .i64 ((ix : Int) + 2)] 3)) hg8 (hB7.alloc hB7.size _) (Nat.le_refl _) (by simp; omega)
                have hsep8 : ∀ g, v8.ownBlock = some g → (Value.slice (some ⟨g5, 0, none⟩) N c5).ownBlock ≠ some g := fun g h1 h2 => by
                  rcases hloc8 with e | e
                  · exact hsep g (e.symm.trans h1) h2
                  · have a1 := (hoR7.lt g h2).2
                    have a2 := Option.some.inj (e.symm.trans h1)
                    have a3 := size_of_block (heap_alloc_new w7 (.cells #[.int .i64 ((ix : Int) + 2)] 3 (0, 0)))
                    omega
                have ho8' : w8.ownsRow wo.heap.size 3 1 v8 (P2 ++ [(ix, n0, n1, n2)]).length (kpI (P2 ++ [(ix, n0, n1, n2)])) := by rw [kpI_snoc, List.length_append]; exact ho8
                clear hoR7 ho7' hoI7 hg8 hloc8 ho8 hB7 r7 hRne hsep
                go_wp2
                go_roundw
                case rel => exact ⟨j + 1, P2 ++ [(ix, n0, n1, n2)], by omega, by go_num, by rw [List.length_append, List.length_singleton]; omega, hok2, hoW8, ho8', hoR8, hsep8, hB8⟩
                case measure => simp [intOf]; omega
              · have hjN : j = N := by omega
                have hNS : N ≤ 20000 := by omega
                clear hoR2 hsep
                go_wp2
                go_roundw
                case rel => exact ⟨q + 1, P2, by omega, by go_num, by omega, hP2, hoW2, hoI2, hB2⟩
                case measure => simp [intOf]; omega
          · have hqK := Lib.hid (show q = K.length by omega)
            have hBw := hB.trans (hbx.mono hwoz)
            have hKw := (hKK.out.below hBw).more hBw.size
            have hAx := hA.below hbx
            have HS := sweep_any hAx hO (.slice KA K.length kc) K hKw
            have hoWm := own_more hoW (Nat.zero_le wo.heap.size)
            have hoIm := own_more hoI (Nat.zero_le wo.heap.size)
            have hPl2 : P.length ≤ 400000 := by have := hqK.out; have : q * 20000 ≤ 20 * 20000 := Nat.mul_le_mul_right _ (by omega); omega
            clear hKw
            go_wp2_with fail
            refine HS.mono ?_
            rintro e w5 ⟨rfl, f, hf, hA5, hO5, hoff⟩
            have hoW5 := hAx.keepRow hoff hoWm Try.neNoA Try.neNoS
            have hoI5 := hAx.keepRow hoff hoIm Try.neInA Try.neInS
            have hB5 := hBw.trans (hAx.off_below hoff)
            have hPn : Hid (∀ x ∈ P, (swp S f)[x.1]? = some (some x.2)) := Lib.hid (fun x hx => by
              obtain ⟨h1, h2⟩ := hP.out x hx
              exact swp_some.2 ⟨h1, (hf x.1 h2.lt).2 h2⟩)
            have hSl5 : (swp S f).length ≤ 20000 := by rw [swp_length]; exact hSl
            clear HS hf hAx hA hoW hoI hoWm hoIm hoff hBw hP
            generalize swp S f = S5 at *
            have HL := len_any hA5
            go_wp2_with fail
            refine HL.mono ?_
            rintro e w6 ⟨rfl, rfl⟩
            clear HL
            go_wp2
            go_loopw [20, 21, 22, 23, 24, 25, 26, 27] (fun t _ _ _ _ _ _ _ wz => ∃ (j : Nat) (v5 : Value) (full5 : Nat), j ≤ P.length ∧ t = .int .i64 j ∧ ArAt wz w.heap.size ab bm v5 room full5 S5 ∧ ArOk room full5 S5 ∧ wz.ownsRow 0 45 4 (.slice AW P.length cW) P.length (nodesV (kpN P)) ∧ wz.ownsRow 0 3 1 (.slice AI P.length cI) P.length (kpI P) ∧ Below w.heap.size w wz) (fun t _ _ _ _ _ _ _ _ => P.length - (intOf t).toNat)
            case atStart => exact ⟨0, _, _, by omega, rfl, hA5, hO5, hoW5, hoI5, hB5⟩
            case round =>
              clear hA5 hoW5 hoI5 hB5
              obtain ⟨j, v5, full5, hj, rfl, hA5, hO6, hoW5, hoI5, hB5⟩ := hrel
              by_cases hlt3 : j < P.length
              · obtain ⟨x, hx⟩ : ∃ x, P[j]? = some x := ⟨_, List.getElem?_eq_getElem hlt3⟩
                have hn := hPn.out x (List.mem_of_getElem? hx)
                obtain ⟨gW, cW2, hG⟩ := own_some hoW5 (by omega)
                obtain ⟨rfl, rfl⟩ : AW = some ⟨gW, 0, none⟩ ∧ cW = cW2 := by injection hG with e1 e2 e3; exact ⟨e1, e3⟩
                obtain ⟨gI, cI2, hG2⟩ := own_some hoI5 (by omega)
                obtain ⟨rfl, rfl⟩ : AI = some ⟨gI, 0, none⟩ ∧ cI = cI2 := by injection hG2 with e1 e2 e3; exact ⟨e1, e3⟩
                obtain ⟨ix, n0, n1, n2⟩ := x
                dsimp only at hn
                have hoW5' : RefAt wr 0 (.slice (some ⟨gW, 0, none⟩) (kpN P).length cW) (kpN P) := by unfold RefAt; rw [kpN_len]; exact hoW5
                obtain ⟨d0, d1, d2, d3⟩ := nodes_at (i := j) (x := ((n0, n1, n2), false)) hoW5' (by unfold kpN; rw [List.getElem?_map, hx]; rfl)
                dsimp only at d0 d1 d2 d3
                have hv : (kpI P)[j]? = some (.int .i64 ((ix : Int) + 2)) := by unfold kpI; rw [List.getElem?_map, hx]; rfl
                have hvH := Lib.hid hv
                have hr := (hoI5.cellAt j (by omega)).trans hv
                have hbxx := below_alloc1 wr (.cells #[.int .i64 n0, .int .i64 n1, .int .i64 n2, .bool false] 45 (0, 0))
                have hxb := heap_alloc_new wr (.cells #[.int .i64 n0, .int .i64 n1, .int .i64 n2, .bool false] 45 (0, 0))
                have hA6 := hA5.below hbxx
                have HN := node_any hA6 hSl5 ((ix : Int) + 2)
                rw [ndAt_id hn] at HN
                unfold ndT at HN
                dsimp only at HN
                have hag := Lib.hid (mk_again (room := room) hO6.vst hn)
                have hr6 := (hbxx.cell (p := ⟨gI, j, none⟩) ((hoI5.lt gI rfl).2)).trans hr
                have hoW6 := hoW5.alloc (.cells #[.int .i64 n0, .int .i64 n1, .int .i64 n2, .bool false] 45 (0, 0))
                have hoI6 := hoI5.alloc (.cells #[.int .i64 n0, .int .i64 n1, .int .i64 n2, .bool false] 45 (0, 0))
                have hB6 := hB5.alloc hB5.size (.cells #[.int .i64 n0, .int .i64 n1, .int .i64 n2, .bool false] 45 (0, 0))
                clear hx hG hG2 hoW5' hv hn
                go_wp2_with fail
                refine HN.mono ?_
                rintro e w7 ⟨rfl, hb7⟩
                have hA7 := hA6.below hb7
                have hxb7 := keep_blk hb7 hxb
                have hoW7 := owns_below hoW6 hb7
                have hoI7 := owns_below hoI6 hb7
                have hB7 := hB6.trans (hb7.mono hB6.size)
                have HM := make_any hA7 hO6 n0 n1 n2
                unfold MakeDone at HM
                rw [hag.out] at HM
                obtain ⟨x0, x1, x2, x3, xf⟩ := now4 hxb7 rfl
                clear HN hA6 hr6 hxb hoW6 hoI6 hB6 hb7 d0 d1 d2 d3 hr hbxx hA5
                go_wp2_with fail
                refine HM.mono ?_
                rintro e w8 ⟨rfl, v8, full8, hA8, hO8, hoff8⟩
                have hxb8 := hA7.keep hoff8 hxb7 Try.neNoA Try.neNoS
                have hoW8 := hA7.keepRow hoff8 hoW7 Try.neNoA Try.neNoS
                have hoI8 := hA7.keepRow hoff8 hoI7 Try.neInA Try.neInS
                have hB8 := hB7.trans (hA7.off_below hoff8)
                obtain ⟨x0, x1, x2, x3, xf⟩ := now4 hxb8 rfl
                have hv := hvH.out
                have hr8 := (hoI8.cellAt j (by omega)).trans hv
                have ne0 : (n0 != n0) = false := by simp
                have ne1 : (n1 != n1) = false := by simp
                have ne2 : (n2 != n2) = false := by simp
                have ne3 : (((ix : Int) + 2) != ((ix : Int) + 2)) = false := by simp
                clear HM hA7 hxb7 hoW7 hoI7 hB7 hoff8 hv hoW5 hoI5 hB5
                go_wp2
                go_roundw
                case rel => exact ⟨j + 1, v8, full8, by omega, by go_num, hA8, hO8, hoW8, hoI8, hB8⟩
                case measure => simp [intOf]; omega
              · have HL := len_any hA5
                have HK := knows5_any wr
                have hcc : (((cnt S5 : Nat) : Int) == ((cnt S5 : Nat) : Int)) = true := by simp
                go_wp2_with fail
                refine HL.mono ?_
                rintro e w7 ⟨rfl, rfl⟩
                clear HL
                go_wp2_with fail
                refine HK.mono ?_
                rintro e w8 ⟨rfl, hb8⟩
                clear HK
                go_wp2
                go_ret
                exact ⟨rfl, hB5.trans (hb8.mono hB5.size)⟩
      · clear hlt
        go_wp2
        generalize hwo : wr = wo at *
        clear hwo
        have hwoz := hB.size
        go_loopw [10, 11, 12, 13, 14, 15, 16, 17, 18] (fun a b t _ _ _ _ _ _ wx => ∃ (q : Nat) (P : List Kp), q ≤ K.length ∧ t = .int .i64 q ∧ P.length ≤ q * 20000 ∧ Hid (KpOk S K P) ∧ wx.ownsRow wo.heap.size 45 4 a P.length (nodesV (kpN P)) ∧ wx.ownsRow wo.heap.size 3 1 b P.length (kpI P) ∧ Below wo.heap.size wo wx) (fun _ _ t _ _ _ _ _ _ _ => K.length - (intOf t).toNat)
        case atStart => exact ⟨0, [], by omega, rfl, by simp, Lib.hid (KpOk.nil S K), World.ownsRow_nil _ _ _ _, World.ownsRow_nil _ _ _ _, Below.refl _ _⟩
        case round =>
          obtain ⟨q, P, hq, rfl, hPl, hP, hoW, hoI, hbx⟩ := hrel
          obtain ⟨AW, cW, rfl⟩ := own_form hoW
          obtain ⟨AI, cI, rfl⟩ := own_form hoI
          by_cases hlt2 : q < K.length
          · obtain ⟨kb, ko, rfl, hkB, hkx⟩ := hkc (by omega)
            obtain ⟨y, hy⟩ : ∃ y, K[q]? = some y := ⟨_, List.getElem?_eq_getElem hlt2⟩
            have u := ((hbx.mono hwoz).cell (p := ⟨kb, ko + q, none⟩) hkB).trans ((hB.cell (p := ⟨kb, ko + q, none⟩) hkB).trans (hkx q y hy))
            have HR := reach_any (hA.below hbx) hO y
            have hyK := Lib.hid (List.mem_of_getElem? hy)
            clear hkx hy
            go_wp2_with fail
            refine HR.mono ?_
            rintro e w5 ⟨v5, f, rfl, hf, ho5, hb5⟩
            have hNl := idsK_len f S.length
            have hoW5 := owns_below hoW hb5
            have hoI5 := owns_below hoI hb5
            have hB5 := hbx.trans (hb5.mono hbx.size)
            obtain ⟨A5, c5, rfl⟩ := own_form ho5
            have hsep0 : ∀ g, (Value.slice AI P.length cI).ownBlock = some g → (Value.slice A5 (idsK f S.length).length c5).ownBlock ≠ some g := fun g h1 h2 => by
              have a1 := (hoI.lt g h1).2
              have a2 := (ho5.lt g h2).1
              omega
            have hfH := Lib.hid hf
            have hbz5 := hb5.size
            have hbxz := hbx.size
            clear HR u hoW hoI hb5 hf
            go_wp2
            generalize hNN : (idsK f S.length).length = N at *
            generalize hwrx : wr = wq at *
            clear hwrx
            go_loopw [10, 11, 14, 15, 16, 17, 18] (fun a b t _ _ _ _ wy => ∃ (j : Nat) (P2 : List Kp), j ≤ N ∧ t = .int .i64 j ∧ P2.length ≤ q * 20000 + j ∧ Hid (KpOk S K P2) ∧ wy.ownsRow wo.heap.size 45 4 a P2.length (nodesV (kpN P2)) ∧ wy.ownsRow wo.heap.size 3 1 b P2.length (kpI P2) ∧ wy.ownsRow wq.heap.size 3 1 (.slice A5 N c5) N (idsV (idsK f S.length)) ∧ (∀ g, b.ownBlock = some g → (Value.slice A5 N c5).ownBlock ≠ some g) ∧ Below wo.heap.size wo wy) (fun _ _ t _ _ _ _ _ => N - (intOf t).toNat)
            case atStart => exact ⟨0, P, by omega, rfl, by omega, hP, hoW5, hoI5, ho5, hsep0, hB5⟩
            case round =>
              clear hoW5 hoI5 ho5 hsep0 hB5 hP hPl
              obtain ⟨j, P2, hj, rfl, hP2l, hP2, hoW2, hoI2, hoR2, hsep, hB2⟩ := hrel
              by_cases hlt3 : j < N
              · obtain ⟨AW2, cW2, rfl⟩ := own_form hoW2
                obtain ⟨AI2, cI2, rfl⟩ := own_form hoI2
                obtain ⟨ix, hix⟩ : ∃ ix, (idsK f S.length)[j]? = some ix := ⟨_, List.getElem?_eq_getElem (by rw [hNN]; exact hlt3)⟩
                have hmem := List.mem_of_getElem? hix
                obtain ⟨hixr, hfix⟩ := List.mem_filter.1 (show ix ∈ (List.range S.length).filter f from hmem)
                have hixl : ix < S.length := by simpa using hixr
                have hrch := (hfH.out ix hixl).1 hfix
                obtain ⟨n, hn⟩ := hrch.node
                have hrchH := Lib.hid (hrch.more (K' := K) (fun x hx => by rw [List.mem_singleton.1 hx]; exact hyK.out))
                obtain ⟨g5, c6, hG⟩ := own_some hoR2 (by omega)
                obtain ⟨rfl, rfl⟩ : A5 = some ⟨g5, 0, none⟩ ∧ c5 = c6 := by injection hG with e1 e2 e3; exact ⟨e1, e3⟩
                have hr := hoR2.cellAt j (by omega)
                have hv : (idsV (idsK f S.length))[j]? = some (.int .i64 ((ix : Int) + 2)) := by unfold idsV; rw [List.getElem?_map, hix]; rfl
                rw [hv] at hr
                have HN := node_any (hA.below hB2) hSl ((ix : Int) + 2)
                rw [ndAt_id hn] at HN
                unfold ndT at HN
                obtain ⟨n0, n1, n2⟩ := n
                dsimp only at HN
                have hnH := Lib.hid hn
                have hok2 := Lib.hid (KpOk.snoc hP2.out hn hrchH.out)
                clear hix hmem hixr hfix hrch hn hG hv
                go_wp2_with fail
                refine HN.mono ?_
                rintro e w6 ⟨rfl, hb6⟩
                have hoW6 := owns_below hoW2 hb6
                have hoI6 := owns_below hoI2 hb6
                have hoR6 := owns_below hoR2 hb6
                have hB6 := hB2.trans (hb6.mono hB2.size)
                have r6 := (hb6.cell (p := ⟨g5, j, none⟩) ((hoR2.lt g5 rfl).2)).trans hr
                have hz6 := hB6.size
                have hwoz2 := (hoI2.lt)
                obtain ⟨i0, hi0, hz0, hz1, hz2⟩ := info_parts Try.infoRnode3
                obtain ⟨k0, kk0, kz0, kz1, kz2⟩ := info_parts Try.infoInt
                have hg5l := (hoR6.lt g5 rfl).2
                have hgW : (Value.slice AW2 P2.length cW2).ownBlock ≠ some g5 := fun e => by
                  rcases hoR6.2 with ⟨hv, h0⟩ | ⟨g, cap, cur, hv, _, hh, _⟩
                  · cases hv
                  · injection hv with e1 _ _
                    injection e1 with e1
                    injection e1 with e1 _ _
                    subst e1
                    exact own_ne hoW6 hh (by decide) e
                clear HN hoW2 hoI2 hoR2 hb6 hr hB2
                go_wp2_with (at_builtin; go_loud (refine wpList_append_own_at _ rfl _ _ 28 rfl wo.heap.size 45 i0 (.agg #[.int .i64 0, .int .i64 0, .int .i64 0, .bool false]) 4 32 Try.underlying28 hi0 hz0 hz1 hz2 rfl (by decide) _ _ _ rfl (hoW6.alloc _) ⟨w6.heap.size, 0, none⟩ 1 1 [.int .i64 n0, .int .i64 n1, .int .i64 n2, .bool false] rfl rfl (World.news_of_block (cs := #[.int .i64 n0, .int .i64 n1, .int .i64 n2, .bool false]) (t := 45) (fr := (0, 0)) (heap_alloc_new w6 _)) (by simp [Value.oneCell']) (by unfold maxLen; omega) (by omega) (by simp; omega) ?_))
                intro v7 w7 ho7 hg7 _ hloc7
                have hoI7 := (hoI6.alloc _).kept hg7 (own_apart hoI6 hoW6 (by decide))
                have hoR7 := (hoR6.alloc _).kept hg7 (own_apart hoR6 hoW6 (by decide))
                have hB7 := grown_below (hoW6.alloc (.cells #[.int .i64 n0, .int .i64 n1, .int .i64 n2, .bool false] 45)) hg7 (hB6.alloc hB6.size _) (Nat.le_refl _) (by simp; omega)
                have r7 : w7.cell? ⟨g5, j, none⟩ = some (.int .i64 ((ix : Int) + 2)) := (hoR7.cellAt j (by omega)).trans ((hoR6.cellAt j (by omega)).symm.trans r6)
                have ho7' : w7.ownsRow wo.heap.size 45 4 v7 (P2 ++ [(ix, n0, n1, n2)]).length (nodesV (kpN (P2 ++ [(ix, n0, n1, n2)]))) := by rw [kpN_snoc, List.length_append]; exact ho7
                have hz7 := hB7.size
                clear hoW6 hoI6 hoR6 hg7 hloc7 ho7 hB6 r6 hgW hg5l
                go_wp2_with (at_builtin; go_loud (refine wpList_append_own_at _ rfl _ _ 31 rfl wo.heap.size 3 k0 (.int .i64 0) 1 8 Try.underlying31 kk0 kz0 kz1 kz2 rfl (by decide) _ _ _ rfl (hoI7.alloc _) ⟨w7.heap.size, 0, none⟩ 1 1 [.int .i64 ((ix : Int) + 2)] rfl rfl (cell_one_new _ _ _) (by simp [Value.oneCell']) (by unfold maxLen; omega) (by omega) (by simp; omega) ?_))
                intro v8 w8 ho8 hg8 _ hloc8
                have hRne : (Value.slice (some ⟨g5, 0, none⟩) N c5).ownBlock ≠ (Value.slice AI2 P2.length cI2).ownBlock := fun e => hsep g5 e.symm rfl
                have hoR8 := (hoR7.alloc _).kept hg8 (.inr hRne)
                have hoW8 := (ho7'.alloc _).kept hg8 (own_apart ho7' hoI7 (by decide))
                have hB8 := grown_below (hoI7.alloc (.cells #[.int .i64 ((ix : Int) + 2)] 3)) hg8 (hB7.alloc hB7.size _) (Nat.le_refl _) (by simp; omega)
                have hsep8 : ∀ g, v8.ownBlock = some g → (Value.slice (some ⟨g5, 0, none⟩) N c5).ownBlock ≠ some g := fun g h1 h2 => by
                  rcases hloc8 with e | e
                  · exact hsep g (e.symm.trans h1) h2
                  · have a1 := (hoR7.lt g h2).2
                    have a2 := Option.some.inj (e.symm.trans h1)
                    have a3 := size_of_block (heap_alloc_new w7 (.cells #[.int .i64 ((ix : Int) + 2)] 3 (0, 0)))
                    omega
                have ho8' : w8.ownsRow wo.heap.size 3 1 v8 (P2 ++ [(ix, n0, n1, n2)]).length (kpI (P2 ++ [(ix, n0, n1, n2)])) := by rw [kpI_snoc, List.length_append]; exact ho8
                clear hoR7 ho7' hoI7 hg8 hloc8 ho8 hB7 r7 hRne hsep
                go_wp2
                go_roundw
                case rel => exact ⟨j + 1, P2 ++ [(ix, n0, n1, n2)], by omega, by go_num, by rw [List.length_append, List.length_singleton]; omega, hok2, hoW8, ho8', hoR8, hsep8, hB8⟩
                case measure => simp [intOf]; omega
              · have hjN : j = N := by omega
                have hNS : N ≤ 20000 := by omega
                clear hoR2 hsep
                go_wp2
                go_roundw
                case rel => exact ⟨q + 1, P2, by omega, by go_num, by omega, hP2, hoW2, hoI2, hB2⟩
                case measure => simp [intOf]; omega
          · have hqK := Lib.hid (show q = K.length by omega)
            have hBw := hB.trans (hbx.mono hwoz)
            have hKw := (hKK.out.below hBw).more hBw.size
            have hAx := hA.below hbx
            have HS := sweep_any hAx hO (.slice KA K.length kc) K hKw
            have hoWm := own_more hoW (Nat.zero_le wo.heap.size)
            have hoIm := own_more hoI (Nat.zero_le wo.heap.size)
            have hPl2 : P.length ≤ 400000 := by have := hqK.out; have : q * 20000 ≤ 20 * 20000 := Nat.mul_le_mul_right _ (by omega); omega
            clear hKw
            go_wp2_with fail
            refine HS.mono ?_
            rintro e w5 ⟨rfl, f, hf, hA5, hO5, hoff⟩
            have hoW5 := hAx.keepRow hoff hoWm Try.neNoA Try.neNoS
            have hoI5 := hAx.keepRow hoff hoIm Try.neInA Try.neInS
            have hB5 := hBw.trans (hAx.off_below hoff)
            have hPn : Hid (∀ x ∈ P, (swp S f)[x.1]? = some (some x.2)) := Lib.hid (fun x hx => by
              obtain ⟨h1, h2⟩ := hP.out x hx
              exact swp_some.2 ⟨h1, (hf x.1 h2.lt).2 h2⟩)
            have hSl5 : (swp S f).length ≤ 20000 := by rw [swp_length]; exact hSl
            clear HS hf hAx hA hoW hoI hoWm hoIm hoff hBw hP
            generalize swp S f = S5 at *
            have HL := len_any hA5
            go_wp2_with fail
            refine HL.mono ?_
            rintro e w6 ⟨rfl, rfl⟩
            clear HL
            go_wp2
            go_loopw [20, 21, 22, 23, 24, 25, 26, 27] (fun t _ _ _ _ _ _ _ wz => ∃ (j : Nat) (v5 : Value) (full5 : Nat), j ≤ P.length ∧ t = .int .i64 j ∧ ArAt wz w.heap.size ab bm v5 room full5 S5 ∧ ArOk room full5 S5 ∧ wz.ownsRow 0 45 4 (.slice AW P.length cW) P.length (nodesV (kpN P)) ∧ wz.ownsRow 0 3 1 (.slice AI P.length cI) P.length (kpI P) ∧ Below w.heap.size w wz) (fun t _ _ _ _ _ _ _ _ => P.length - (intOf t).toNat)
            case atStart => exact ⟨0, _, _, by omega, rfl, hA5, hO5, hoW5, hoI5, hB5⟩
            case round =>
              clear hA5 hoW5 hoI5 hB5
              obtain ⟨j, v5, full5, hj, rfl, hA5, hO6, hoW5, hoI5, hB5⟩ := hrel
              by_cases hlt3 : j < P.length
              · obtain ⟨x, hx⟩ : ∃ x, P[j]? = some x := ⟨_, List.getElem?_eq_getElem hlt3⟩
                have hn := hPn.out x (List.mem_of_getElem? hx)
                obtain ⟨gW, cW2, hG⟩ := own_some hoW5 (by omega)
                obtain ⟨rfl, rfl⟩ : AW = some ⟨gW, 0, none⟩ ∧ cW = cW2 := by injection hG with e1 e2 e3; exact ⟨e1, e3⟩
                obtain ⟨gI, cI2, hG2⟩ := own_some hoI5 (by omega)
                obtain ⟨rfl, rfl⟩ : AI = some ⟨gI, 0, none⟩ ∧ cI = cI2 := by injection hG2 with e1 e2 e3; exact ⟨e1, e3⟩
                obtain ⟨ix, n0, n1, n2⟩ := x
                dsimp only at hn
                have hoW5' : RefAt wr 0 (.slice (some ⟨gW, 0, none⟩) (kpN P).length cW) (kpN P) := by unfold RefAt; rw [kpN_len]; exact hoW5
                obtain ⟨d0, d1, d2, d3⟩ := nodes_at (i := j) (x := ((n0, n1, n2), false)) hoW5' (by unfold kpN; rw [List.getElem?_map, hx]; rfl)
                dsimp only at d0 d1 d2 d3
                have hv : (kpI P)[j]? = some (.int .i64 ((ix : Int) + 2)) := by unfold kpI; rw [List.getElem?_map, hx]; rfl
                have hvH := Lib.hid hv
                have hr := (hoI5.cellAt j (by omega)).trans hv
                have hbxx := below_alloc1 wr (.cells #[.int .i64 n0, .int .i64 n1, .int .i64 n2, .bool false] 45 (0, 0))
                have hxb := heap_alloc_new wr (.cells #[.int .i64 n0, .int .i64 n1, .int .i64 n2, .bool false] 45 (0, 0))
                have hA6 := hA5.below hbxx
                have HN := node_any hA6 hSl5 ((ix : Int) + 2)
                rw [ndAt_id hn] at HN
                unfold ndT at HN
                dsimp only at HN
                have hag := Lib.hid (mk_again (room := room) hO6.vst hn)
                have hr6 := (hbxx.cell (p := ⟨gI, j, none⟩) ((hoI5.lt gI rfl).2)).trans hr
                have hoW6 := hoW5.alloc (.cells #[.int .i64 n0, .int .i64 n1, .int .i64 n2, .bool false] 45 (0, 0))
                have hoI6 := hoI5.alloc (.cells #[.int .i64 n0, .int .i64 n1, .int .i64 n2, .bool false] 45 (0, 0))
                have hB6 := hB5.alloc hB5.size (.cells #[.int .i64 n0, .int .i64 n1, .int .i64 n2, .bool false] 45 (0, 0))
                clear hx hG hG2 hoW5' hv hn
                go_wp2_with fail
                refine HN.mono ?_
                rintro e w7 ⟨rfl, hb7⟩
                have hA7 := hA6.below hb7
                have hxb7 := keep_blk hb7 hxb
                have hoW7 := owns_below hoW6 hb7
                have hoI7 := owns_below hoI6 hb7
                have hB7 := hB6.trans (hb7.mono hB6.size)
                have HM := make_any hA7 hO6 n0 n1 n2
                unfold MakeDone at HM
                rw [hag.out] at HM
                obtain ⟨x0, x1, x2, x3, xf⟩ := now4 hxb7 rfl
                clear HN hA6 hr6 hxb hoW6 hoI6 hB6 hb7 d0 d1 d2 d3 hr hbxx hA5
                go_wp2_with fail
                refine HM.mono ?_
                rintro e w8 ⟨rfl, v8, full8, hA8, hO8, hoff8⟩
                have hxb8 := hA7.keep hoff8 hxb7 Try.neNoA Try.neNoS
                have hoW8 := hA7.keepRow hoff8 hoW7 Try.neNoA Try.neNoS
                have hoI8 := hA7.keepRow hoff8 hoI7 Try.neInA Try.neInS
                have hB8 := hB7.trans (hA7.off_below hoff8)
                obtain ⟨x0, x1, x2, x3, xf⟩ := now4 hxb8 rfl
                have hv := hvH.out
                have hr8 := (hoI8.cellAt j (by omega)).trans hv
                have ne0 : (n0 != n0) = false := by simp
                have ne1 : (n1 != n1) = false := by simp
                have ne2 : (n2 != n2) = false := by simp
                have ne3 : (((ix : Int) + 2) != ((ix : Int) + 2)) = false := by simp
                clear HM hA7 hxb7 hoW7 hoI7 hB7 hoff8 hv hoW5 hoI5 hB5
                go_wp2
                go_roundw
                case rel => exact ⟨j + 1, v8, full8, by omega, by go_num, hA8, hO8, hoW8, hoI8, hB8⟩
                case measure => simp [intOf]; omega
              · have HL := len_any hA5
                have HK := knows5_any wr
                have hcc : (((cnt S5 : Nat) : Int) == ((cnt S5 : Nat) : Int)) = true := by simp
                go_wp2_with fail
                refine HL.mono ?_
                rintro e w7 ⟨rfl, rfl⟩
                clear HL
                go_wp2_with fail
                refine HK.mono ?_
                rintro e w8 ⟨rfl, hb8⟩
                clear HK
                go_wp2
                go_ret
                exact ⟨rfl, hB5.trans (hb8.mono hB5.size)⟩
end Go.Proofs.Ytkcchdaadajjcaa
