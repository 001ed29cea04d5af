/- Package search: Fewest. What package search answers, each by its name. The document's own Right of layer 4, for every spec. The document's own May of layer 13. What the statements of layer 13 say of cover.Make, as contracts; CoverMakes over them. CoverMakes, where a covering may be made; CoverMakes. The document's examples of layer 13, over what package cover answers. CoverMore, over what the package answers. The document's examples of layer 14, over what package reduce answers. The document's examples of layer 15, over what package search answers. -/
import Derived.Test.YtcbhcclickjpnaaGKxPqSea15
import Derived.Test.YtcbhcclickjpnaaGK21
import Derived.Test.YtcbhcclickjpnaaGK03
import Derived.Test.YtcbhcclickjpnaaGK22
import Derived.Test.YtcbhcclickjpnaaGK02
import Derived.Test.YtcbhcclickjpnaaGK04
import Derived.Deep.RegionHeld3
namespace Go.Proofs.Ytcbhcclickjpnaa
open Go.RowKit Go.Joins

theorem crd_same {U V : Int → Bool} : ∀ {n : Nat}, (∀ k : Nat, k < n → U k = V k) → crdT n U = crdT n V := fun h =>
  Nat.le_antisymm (crd_le fun c hc hu => by rw [← h c hc]; exact hu) (crd_le fun c hc hu => by rw [h c hc]; exact hu)
theorem crd_cons (a : Int) (b : List Int) : ∀ n : Nat, crdT n (fun x => decide (x ∈ a :: b)) = crdT n (fun x => decide (x ∈ b)) + if 0 ≤ a ∧ a < n ∧ a ∉ b then 1 else 0
  | 0 => by
    rw [if_neg (by omega)]
    rfl
  | n + 1 => by
    have ih := crd_cons a b n
    rw [crd_succ, crd_succ, ih]
    by_cases e : (n : Int) = a
    · subst e
      by_cases hb : (n : Int) ∈ b
      · simp [hb]
      · simp [hb]; omega
    · have e1 : decide ((n : Int) ∈ a :: b) = decide ((n : Int) ∈ b) := by simp [e]
      have e2 : (0 ≤ a ∧ a < ((n + 1 : Nat) : Int) ∧ a ∉ b) ↔ (0 ≤ a ∧ a < (n : Int) ∧ a ∉ b) := by
        constructor
        · rintro ⟨h1, h2, h3⟩; exact ⟨h1, by omega, h3⟩
        · rintro ⟨h1, h2, h3⟩; exact ⟨h1, by omega, h3⟩
      simp only [e1, e2]
      omega
theorem crd_mem_le (n : Nat) : ∀ b : List Int, crdT n (fun x => decide (x ∈ b)) ≤ b.length
  | [] => by
    have : crdT n (fun x => decide (x ∈ ([] : List Int))) = crdT n fun _ => false := crd_same fun k _ => by simp
    rw [this, crd_zero]
    exact Nat.zero_le _
  | a :: b => by
    have ih := crd_mem_le n b
    rw [crd_cons, List.length_cons]
    split <;> omega
theorem nodup_of_few {n : Nat} : ∀ b : List Int, b.length ≤ crdT n (fun x => decide (x ∈ b)) → b.Nodup ∧ ∀ x, x ∈ b → 0 ≤ x ∧ x < n
  | [], _ => ⟨List.nodup_nil, fun x h => absurd h List.not_mem_nil⟩
  | a :: b, h => by
    have h1 := crd_mem_le n b
    rw [crd_cons, List.length_cons] at h
    split at h
    · rename_i hc
      obtain ⟨h2, h3⟩ := nodup_of_few (n := n) b (by omega)
      exact ⟨List.nodup_cons.2 ⟨hc.2.2, h2⟩, fun x hx => by
        rcases List.mem_cons.1 hx with rfl | hx
        · exact ⟨hc.1, hc.2.1⟩
        · exact h3 x hx⟩
    · omega
theorem atL_id {n : Nat} {ls : List (List Int)} (hl : LowM n ls) : ls.map (atL (upTo n)) = ls := by
  refine (List.map_congr_left fun r hr => ?_).trans (List.map_id ls)
  show r.map _ = r
  refine (List.map_congr_left fun x hx => ?_).trans (List.map_id r)
  obtain ⟨x0, x1⟩ := hl r hr x hx
  obtain ⟨k, rfl⟩ := Int.eq_ofNat_of_zero_le x0
  show (upTo n).getD ((k : Int)).toNat 0 = (k : Int)
  unfold upTo
  rw [Int.toNat_natCast, List.getD_eq_getElem?_getD, List.getElem?_map, List.getElem?_range (by omega)]
  rfl
/-- What is as short as may be is, in its order, the fewest. -/
theorem few_of15 {n : Nat} {ls : List (List Int)} {b : List Int} (hl : LowM n ls) (hs : SolN ls b) (hm : ∀ k, Hop ⟨[], upTo n, ls⟩ k → b.length ≤ k) : FewL n ls (b.mergeSort fun x y => decide (x ≤ y)) := by
  have hT : SolT ls fun x => decide (x ∈ b) := fun r hr => by
    obtain ⟨x, hx, hxb⟩ := hs r hr
    exact ⟨x, hx, decide_eq_true hxb⟩
  have hle := hm (crdT n fun x => decide (x ∈ b)) ⟨_, hT, by show 0 + crdT (upTo n).length _ ≤ _; rw [upTo_len]; omega⟩
  obtain ⟨h1, h2⟩ := nodup_of_few b hle
  rw [sort_flg15 (n := n) (t := fun x => decide (x ∈ b)) h1 h2 (fun x => by simp)]
  refine ⟨⟨fun x hx => flg_range15 x hx, ?_⟩, flg_sol hl hT, fun T hT2 => ?_⟩
  · unfold flgL
    rw [List.pairwise_map]
    exact ((List.pairwise_lt_range).filter _).imp fun h => by omega
  · rw [flg_len]
    have h3 := hm (crdT n T) ⟨T, hT2, by show 0 + crdT (upTo n).length T ≤ _; rw [upTo_len]; omega⟩
    have h4 := crd_mem_le n b
    omega
set_option maxRecDepth 100000 in
theorem fewest15_no (n : Int) (V : Value) (ls : List (List Int)) (st : Nat) (w : World) (hV : MatAt w w.heap.size V ls) (e0 : Int) (hr : refI n ls = e0) (h0 : e0 ≠ 0) :
    Calls Try.prog 16 #[mtv n V, .int .i64 st] w fun e w' => ∃ A c, e = .returned (.tuple #[.slice A 0 c, .int .i64 0, .int .i64 e0]) ∧ Below w.heap.size w w' := by
  have hB0 := below_alloc1 w (mtb n V)
  have hbu : (w.alloc (mtb n V)).heap[w.heap.size]? = some (mtb n V) := heap_alloc_new _ _
  have HR := refused15_any n V ls (w.alloc (mtb n V)) ((hV.below hB0).more hB0.size)
  rw [hr] at HR
  have hd : (e0 != 0) = true := by simp [h0]
  obtain ⟨A, c, rfl, -, -⟩ := hV
  clear hr h0
  unfold mtv at *
  unfold mtb at *
  obtain ⟨m0, m1, -⟩ := now2 hbu rfl
  go_enter Try.func16, Try.ntmps16
  go_wp2_with fail
  refine HR.mono ?_
  rintro e w1 ⟨rfl, hb1⟩
  go_wp2
  go_ret3
  exact ⟨_, _, rfl, hB0.trans (hb1.mono hB0.size)⟩
theorem cfewestbare15 : FewestBare := fun n L ls st w hL _ _ hr hb => fewest15_no n L ls st w hL 7 (by unfold refI; rw [hr, hb]; rfl) (by decide)
theorem cfewestbad15 : FewestBad := fun n L ls st w hL _ _ hr => fewest15_no n L ls st w hL 1 (by unfold refI; rw [hr]; rfl) (by decide)
set_option maxHeartbeats 8000000 in
set_option maxRecDepth 100000 in
theorem cfewestgood15 : FewestGood := by
  intro n V ls st w hV hcap hg hr hb hn12 hst hst2
  obtain ⟨-, hl30, -⟩ := gr14_no hg
  have hB0 := below_alloc1 w (mtb n V)
  have hbu : (w.alloc (mtb n V)).heap[w.heap.size]? = some (mtb n V) := heap_alloc_new _ _
  have hs0 : (w.alloc (mtb n V)).heap.size = w.heap.size + 1 := World.size_alloc _ _
  have HR := refused15_any n V ls (w.alloc (mtb n V)) ((hV.below hB0).more hB0.size)
  rw [show refI n ls = 0 by unfold refI; rw [hr, hb]; rfl] at HR
  have hVN : MatN w (fun b => b < w.heap.size) V ls := hV.toN (fun b h => h)
  have hVH := Lib.hid (And.intro hVN hcap)
  obtain ⟨A, c, rfl, -, -⟩ := hV
  have hp1 : 2 ^ (n + 1) = 2 * 2 ^ n := by rw [Nat.pow_succ]; omega
  clear hVN hcap
  unfold mtv at *
  unfold mtb at *
  obtain ⟨m0, m1, -⟩ := now2 hbu rfl
  go_enter Try.func16, Try.ntmps16
  go_wp2_with fail
  refine HR.mono ?_
  rintro e w1 ⟨rfl, hb1⟩
  have hB1 := hB0.trans (hb1.mono hB0.size)
  have hb1u := keep_blk hb1 hbu
  have hs1 := hb1.size
  clear HR m0 m1 hb1 hbu hB0
  have hBa := below_alloc1 w1 (.cells #[.int .i64 st] 3 (0, 0))
  have hla := heap_alloc_new w1 (.cells #[.int .i64 st] 3 (0, 0))
  have hsa : (w1.alloc (.cells #[.int .i64 st] 3 (0, 0))).heap.size = w1.heap.size + 1 := World.size_alloc _ _
  have hbua := keep_blk hBa hb1u
  have hB2 := hB1.trans (hBa.mono hB1.size)
  clear hBa hb1u hB1
  try go_simp
  go_wp2
  generalize w1.alloc _ = w2 at *
  generalize w1.heap.size = bl at *
  have hkl : w.heap.size < bl := by omega
  have hd2 : Below w2.heap.size w2 w2.drew := (Below.refl _ w2).drew
  have HN := counted15_any n (by omega) w2.drew
  have n0 := fun W_ (h : w2.grownBy W_ (some bl)) => (now2 ((h.block w.heap.size (size_of_block hbua) (fun e => by have := Option.some.inj e; omega)).trans hbua) rfl).1
  have n1 := fun W_ (h : w2.grownBy W_ (some bl)) => (now2 ((h.block w.heap.size (size_of_block hbua) (fun e => by have := Option.some.inj e; omega)).trans hbua) rfl).2.1
  have hcrd : crdT n (usdT ls) ≤ n := crd_all _ _
  have hpw : 2 ^ crdT n (usdT ls) ≤ 2 ^ n := Nat.pow_le_pow_right (by decide) hcrd
  have HS := fun (X : World) (bt : Nat) (hX : Below w2.heap.size w2 X) (hbt : w2.heap.size ≤ bt) (hc : X.heap[bt]? = some (celO 3 n fun p => .int .i64 p)) => by
    have hbX := hX.size
    have hN : IntsN X (fun x => x < X.heap.size ∧ x ≠ bl) (.slice (some ⟨bt, 0, none⟩) n n) (upTo n) := upTo_ints15 hc (by omega) ⟨size_of_block hc, by omega⟩
    have hM : MatN X (fun x => x < X.heap.size ∧ x ≠ bl) (.slice A ls.length c) ls := hVH.out.1.keep15 (fun x hx => (hX.block x (by omega)).trans (hB2.block x hx)) (fun x hx => ⟨by omega, by omega⟩)
    have hC : CapM X (.slice A ls.length c) := hVH.out.2.below (hB2.trans (hX.mono hB2.size))
    have h := search15_any (crdT n (usdT ls)) ⟨[], upTo n, ls⟩ (.slice none 0 0) (.slice (some ⟨bt, 0, none⟩) n n) (.slice A ls.length c) bl st X ⟨⟨none, 0, rfl, by simp, fun h => absurd h (by simp)⟩, hN, hM, hC⟩ (by show rightM (upTo n).length ls = true; rw [upTo_len]; exact hr) hb rfl (by show crdT (upTo n).length _ ≤ _; rw [upTo_len]; exact Nat.le_refl _) (by show ls.length + (upTo n).length ≤ 60; rw [upTo_len]; omega) (keep_blk hX hla) (by show 2 ^ crdT (upTo n).length (usdT ls) ≤ _; rw [upTo_len]; omega) (by omega)
    exact h
  simp only [upTo_len] at HS
  unfold chv at HS
  have hlow := low_of hr
  clear hs0 hs1 hst hg
  refine wp_region_held_tail 6 (fun W_ => w2.grownBy W_ (some bl)) (by kernel_rfl) (by kernel_rfl) (below_grown15 (Below.refl _ w2).drew rfl) (fun hF hHeld => ?_)
  refine takeL15 (i := 0) (v := ?_) hF rfl (by kernel_rfl) (by kernel_rfl) (by kernel_rfl) (fun _ _ _ h => h) (Or.inl ⟨by rfl, ?_⟩) (by assumption) ?_
  rotate_left 1
  · intro w_ hSw
    go_simp
    try with_reducible rfl
  try simp only [Act.put, List.setIfInBounds_toArray, List.set_cons_zero, List.set_cons_succ]
  refine takeL15 (i := 1) (v := ?_) hF rfl (by kernel_rfl) (by kernel_rfl) (by kernel_rfl) (fun _ _ _ h => h) (Or.inl ⟨by rfl, ?_⟩) (by assumption) ?_
  rotate_left 1
  · intro w_ hSw
    have q_n0 := n0 w_ hSw
    go_simp
    try with_reducible rfl
  try simp only [Act.put, List.setIfInBounds_toArray, List.set_cons_zero, List.set_cons_succ]
  refine takeL15 (i := 3) (v := ?_) hF rfl (by kernel_rfl) (by kernel_rfl) (by kernel_rfl) (fun _ _ _ h => h) (Or.inl ⟨by rfl, ?_⟩) (by assumption) ?_
  rotate_left 1
  · intro w_ hSw
    have q_n0 := n0 w_ hSw
    have q_n1 := n1 w_ hSw
    go_simp
    try with_reducible rfl
  try simp only [Act.put, List.setIfInBounds_toArray, List.set_cons_zero, List.set_cons_succ]
  refine oneL15 (i := 2) (by kernel_rfl) (by kernel_rfl) rfl (fun _ hK => ?_)
  go_simp
  refine HN.mono ?_
  rintro e X3 ⟨bt, rfl, hbt, hct, hb3⟩
  have hb3 := hd2.trans (hb3.mono (Nat.le_refl _))
  try go_simp
  refine hK.out _ _ (below_grown15 hb3 rfl) (fun hHeld => ?_)
  clear hK
  try simp only [Act.put, List.setIfInBounds_toArray, List.set_cons_zero, List.set_cons_succ]
  refine takeL15 (i := 4) (v := ?_) hF rfl (by kernel_rfl) (by kernel_rfl) (by kernel_rfl) (fun _ _ _ h => h) (Or.inl ⟨by rfl, ?_⟩) (by assumption) ?_
  rotate_left 1
  · intro w_ hSw
    go_simp
    try with_reducible rfl
  try simp only [Act.put, List.setIfInBounds_toArray, List.set_cons_zero, List.set_cons_succ]
  refine oneL15 (i := 5) (by kernel_rfl) (by kernel_rfl) rfl (fun _ hK => ?_)
  go_simp
  refine (HS X3 bt hb3 hbt hct).mono ?_
  rintro e X5 ⟨v5, b5, l5, rfl, ho5, hs5, hm5, hl5, hle5, hle6, hg5⟩
  obtain ⟨A5, c5, rfl⟩ := own_form ho5
  have hg6 : w2.grownBy X5 (some bl) := ⟨hg5.os.trans hb3.os, hg5.tape.trans hb3.tape, hg5.output.trans hb3.output, Nat.le_trans hb3.size hg5.size, fun x hx hne => (hg5.block x (Nat.lt_of_lt_of_le hx hb3.size) hne).trans (hb3.block x hx)⟩
  try go_simp
  refine hK.out _ _ (hg6) (fun hHeld => ?_)
  clear hK
  try simp only [Act.put, List.setIfInBounds_toArray, List.set_cons_zero, List.set_cons_succ]
  refine ⟨by kernel_rfl, ?_⟩
  simp only [List.drop_succ_cons, List.drop_zero]
  have hs5' : SolN ls b5 := by have h := hs5; rwa [show Cho.N ⟨[], upTo n, ls⟩ = ls from atL_id hlow] at h
  have hfew := few_of15 hlow hs5' hm5
  have hkk : st - l5 ≤ 2 ^ (n + 1) := by
    have h : st + 1 ≤ l5 + 2 ^ crdT n (usdT ls) := hle5
    omega
  have hb5 : b5.length ≤ 12 := by
    have h := hm5 (crdT n fun _ => true) ⟨fun _ => true, fun q hq => by
      have hb2 := hb
      unfold bareB at hb2
      rw [List.any_eq_false] at hb2
      have hq0 : q ≠ [] := fun e => hb2 q hq (by rw [e]; rfl)
      obtain ⟨x, hx⟩ := List.exists_mem_of_ne_nil q hq0
      exact ⟨x, hx, rfl⟩, by show 0 + crdT (upTo n).length (fun _ => true) ≤ _; rw [upTo_len]; omega⟩
    have h2 := crd_all (fun _ => true) n
    omega
  have HSo := sort14_any ho5 (by omega)
  have hm0 : (Value.slice A5 b5.length c5).ownBlock ≠ some bl := fun e => by
    have h1 := (ho5.lt bl e).1
    have h2 := hb3.size
    omega
  have hB5 : Below w.heap.size w X5 := below_of_grown hg6 hB2 (by omega) hB2.size
  have hwX3 : w.heap.size ≤ X3.heap.size := by have := hb3.size; have := hB2.size; omega
  obtain ⟨l0, -⟩ := now1_15 hl5
  have hd : ¬ ((l5 : Nat) : Int) < 0 := by omega
  have hfin := Lib.hid (And.intro hfew (And.intro hkk (And.intro hm0 (And.intro hB5 (And.intro hl5 ho5)))))
  clear HN HS n0 n1 hs5 hs5' hm5 hfew hkk hm0 hB5 hl5 ho5 hle5 hg5 hg6 hHeld hb3 hct hbua hla hB2 hd2
  go_wp2_with fail
  refine HSo.mono ?_
  rintro e X6 ⟨rfl, ho6, hg6⟩
  have hl6 := (hg6.block bl (size_of_block hfin.out.2.2.2.2.1) (Ne.symm hfin.out.2.2.1)).trans hfin.out.2.2.2.2.1
  have hB6 : Below w.heap.size w X6 := grown_below hfin.out.2.2.2.2.2 hg6 hfin.out.2.2.2.1 hwX3 (hfin.out.2.2.2.1.size)
  obtain ⟨l0, -⟩ := now1_15 hl6
  have ew : IntKind.i64.wrap (((st : Nat) : Int) - (l5 : Nat)) = ((st : Nat) : Int) - (l5 : Nat) := IntWalk.i64_in _ (by omega)
  have hall := Lib.hid (And.intro ho6 hB6)
  clear HSo hl6 hB6 ho6 hg6
  try go_simp
  have ek : ((st : Nat) : Int) - (l5 : Nat) = ((st - l5 : Nat) : Int) := by have h : l5 ≤ st := hle6; omega
  go_wp2
  go_quiet (fail)
  go_wp2
  go_ret3
  have hdn : ∀ q, Below X6.heap.size X6 (X6.drewN q) := fun q => ⟨rfl, rfl, rfl, Nat.le_refl _, fun _ _ => rfl⟩
  refine ⟨_, _, st - l5, ?_, hfin.out.2.1, (own_intsN14 hall.out.1).here.below (hdn _), hfin.out.1, hall.out.2.trans ((hdn _).mono hall.out.2.size)⟩
  rw [← ek]
  rfl
end Go.Proofs.Ytcbhcclickjpnaa
namespace Go.Proofs.Ytcbhcclickjpnaa
end Go.Proofs.Ytcbhcclickjpnaa
namespace Go.Proofs.Ytcbhcclickjpnaa
open Go.RowKit Go.Joins

end Go.Proofs.Ytcbhcclickjpnaa
namespace Go.Proofs.Ytcbhcclickjpnaa
open Go.RowKit Go.Joins

end Go.Proofs.Ytcbhcclickjpnaa
namespace Go.Proofs.Ytcbhcclickjpnaa
open Go.RowKit Go.Joins

end Go.Proofs.Ytcbhcclickjpnaa
namespace Go.Proofs.Ytcbhcclickjpnaa
open Go.RowKit Go.Joins

end Go.Proofs.Ytcbhcclickjpnaa
namespace Go.Proofs.Ytcbhcclickjpnaa
open Go.RowKit Go.Joins

theorem lit_int2 {w : World} {b : Nat} {x z : Int} {T : TypeId} (h : w.heap[b]? = some (.cells #[.int .i64 x, .int .i64 z] T (0, 0))) : IntsAt w w.heap.size (.slice (some ⟨b, 0, none⟩) 2 2) [x, z] := by
  refine ⟨_, 2, rfl, (show (2 : Nat) ≤ 9223372036854775807 by decide), fun _ => ⟨b, 0, rfl, size_of_block h, fun j y hy => ?_⟩⟩
  match j, hy with
  | 0, hy =>
    injection hy with hy
    subst hy
    rw [cell_of_block h]; rfl
  | 1, hy =>
    injection hy with hy
    subst hy
    rw [cell_of_block h]; rfl
end Go.Proofs.Ytcbhcclickjpnaa
namespace Go.Proofs.Ytcbhcclickjpnaa
open Go.RowKit Go.Joins

theorem step_run13 {ops : Array Oper} {o : Oper} {a : Act} {w : World} {K : Act → World → Prop} {Q : Exit → Act → World → Prop} {E : Prop} (hgd : o.guard = none) (s x : Operand)
    (ho : o.op = .call { callee := .builtin .append, args := #[s, x], argTypes := #[30, 30] }) (V v v' : Value) (w' : World) (hs : a.eval s = V) (hx : a.eval x = v)
    (hrun : (Builtin.append_ #[30, 30] o.type #[V, v]).run Try.prog w = .ok v' w') (h : K (a.put o.dst v') w') :
    if Region.wanted o (yielded ops a.tmps) = true then Oper.wp Try.prog o a w K Q else E := by
  have hw : Region.wanted o (yielded ops a.tmps) = true := by simp [Region.wanted, hgd]
  rw [if_pos hw]
  unfold Oper.wp execOp
  simp [ho, resolve, invoke, builtin, hs, hx, hrun, Result.andThen]
  exact h
theorem alloc_size13 (w : World) (o : Obj) : (w.alloc o).heap.size = w.heap.size + 1 := by simp
set_option maxRecDepth 100000 in
/-- 'append(o, v...)' for a row of the call's own; what else there is stays. -/
theorem append13g {w : World} {B : Nat} {V v : Value} {xs l : List Int} (ty : TypeId) (hown : w.ownsRow B 3 1 V xs.length (intI xs)) (hB : B ≤ w.heap.size) (hz : IntsAt w w.heap.size v l) (h1 : xs.length ≤ 1000) (h2 : l.length ≤ 1000) :
    ∃ v' w', (Builtin.append_ #[30, 30] ty #[V, v]).run Try.prog w = .ok v' w' ∧ w'.ownsRow B 3 1 v' (xs ++ l).length (intI (xs ++ l)) ∧ Below B w w' ∧ w.grownBy w' V.ownBlock := by
  obtain ⟨i0, hi0, hz0, hz1, hz2⟩ := info_parts Try.infoInt
  obtain ⟨A, c, rfl, hl, hc⟩ := hz
  cases A with
  | none =>
    have h0 : l = [] := by
      cases l with
      | nil => rfl
      | cons x r => obtain ⟨b, off, e, _⟩ := hc (by simp); cases e
    subst h0
    refine ⟨V, w, ?_, by rw [List.append_nil]; exact hown, Below.refl _ _, ⟨rfl, rfl, rfl, Nat.le_refl _, fun _ _ _ => rfl⟩⟩
    rcases hown.2 with ⟨rfl, h⟩ | ⟨g, cap, cur, rfl, _, _, hnc, _⟩
    · simp [Builtin.append_, run_underlying Try.underlying30, sizeOf, typeInfo, hi0, Builtin.lenOf, Builtin.firstCells]
    · simp [Builtin.append_, run_underlying Try.underlying30, sizeOf, typeInfo, hi0, Builtin.lenOf, Builtin.firstCells, hnc, storeCells]
  | some a =>
    obtain ⟨v', w', hrun, ho, hg, -⟩ := run_append_own (P := Try.prog) w B 30 ty 3 i0 (.int .i64 0) 1 8 Try.underlying30 hi0 hz0 hz1 hz2 rfl (by decide) V xs.length (intI xs) hown a l.length c (intI l) (by rw [intI_len, Nat.mul_one])
      (fun j u hj => by
        unfold intI at hj
        rw [List.getElem?_map] at hj
        cases hx : l[j]? with
        | none => rw [hx] at hj; cases hj
        | some x =>
          rw [hx, Option.map_some] at hj
          have hjl := (List.getElem?_eq_some_iff.1 hx).1
          obtain ⟨b, off, e, hb, hcell⟩ := hc (by omega)
          injection e with e
          subst e
          rw [Addr.add_lit, hcell j x hx]
          exact hj)
      (fun u hu => by unfold intI at hu; obtain ⟨x, _, rfl⟩ := List.mem_map.1 hu; rfl) (by unfold maxLen; omega) (by omega) hB
    refine ⟨v', w', hrun, ?_, (Below.refl B w).grown hg hB (fun k hk => (hown.lt k hk).1), hg⟩
    rw [List.length_append]
    have e : intI (xs ++ l) = intI xs ++ intI l := by unfold intI; rw [List.map_append]
    rw [e]
    exact ho
end Go.Proofs.Ytcbhcclickjpnaa
namespace Go.Proofs.Ytcbhcclickjpnaa
open Go.RowKit Go.Joins

theorem lit_mat3 {w : World} {b : Nat} {u v x : Value} {l m k : List Int} {T : TypeId} (h : w.heap[b]? = some (.cells #[u, v, x] T (0, 0))) (hu : IntsAt w w.heap.size u l) (hv : IntsAt w w.heap.size v m) (hx : IntsAt w w.heap.size x k) : MatAt w w.heap.size (.slice (some ⟨b, 0, none⟩) 3 3) [l, m, k] := by
  refine ⟨_, 3, rfl, (show (3 : Nat) ≤ 9223372036854775807 by decide), fun _ => ⟨b, 0, rfl, size_of_block h, fun j y hy => ?_⟩⟩
  match j, hy with
  | 0, hy =>
    injection hy with hy
    subst hy
    exact ⟨u, by rw [cell_of_block h]; rfl, hu⟩
  | 1, hy =>
    injection hy with hy
    subst hy
    exact ⟨v, by rw [cell_of_block h]; rfl, hv⟩
  | 2, hy =>
    injection hy with hy
    subst hy
    exact ⟨x, by rw [cell_of_block h]; rfl, hx⟩
theorem cap_lit14 {w : World} {b n : Nat} {cs : Array Value} (h : w.heap[b]? = some (.cells cs 30 (0, 0))) (hc : ∀ j, j < n → ∃ A m, cs[j]? = some (.slice A m m)) : CapM w (.slice (some ⟨b, 0, none⟩) n n) := fun A m c e => by
  injection e with e1 e2 e3
  subst e1
  subst e2
  subst e3
  refine ⟨Nat.le_refl _, fun _ => ⟨b, 0, rfl, size_of_block h, fun j hj => ?_⟩⟩
  obtain ⟨A', m', h1⟩ := hc j hj
  exact ⟨A', m', m', by rw [Nat.zero_add, cell_of_block h]; exact h1, Nat.le_refl _⟩
end Go.Proofs.Ytcbhcclickjpnaa
namespace Go.Proofs.Ytcbhcclickjpnaa
open Go.RowKit Go.Joins

theorem x15_great : gr14 3 [[0, 1], [1, 2], [0, 2]] = false := by decide +kernel
theorem x15_right : rightM 3 [[0, 1], [1, 2], [0, 2]] = true := by decide +kernel
theorem x15_bare : bareB [[0, 1], [1, 2], [0, 2]] = false := by decide +kernel
theorem x15_best : bestM 3 [[0, 1], [1, 2], [0, 2]] = 2 := by decide +kernel
theorem x15_bound : boundL [[0, 1], [1, 2], [0, 2]] = 1 := by decide +kernel
theorem x15_grd : flgL (grdT 3 [[0, 1], [1, 2], [0, 2]]) 3 = [0, 1] := by decide +kernel
theorem x15_len {l : List Int} (h : FewL 3 [[0, 1], [1, 2], [0, 2]] l) : l.length = 2 := by
  have h1 := few_best (right_low15 x15_right) h
  rw [x15_best] at h1
  omega
theorem mat15_new (w : World) : MatAt ((((w.alloc (.cells #[.int .i64 0, .int .i64 1] 3)).alloc (.cells #[.int .i64 1, .int .i64 2] 3)).alloc (.cells #[.int .i64 0, .int .i64 2] 3)).alloc (.cells #[.slice (some ⟨w.heap.size, 0, none⟩) 2 2, .slice (some ⟨w.heap.size + 1, 0, none⟩) 2 2, .slice (some ⟨w.heap.size + 1 + 1, 0, none⟩) 2 2] 30)) ((((w.alloc (.cells #[.int .i64 0, .int .i64 1] 3)).alloc (.cells #[.int .i64 1, .int .i64 2] 3)).alloc (.cells #[.int .i64 0, .int .i64 2] 3)).alloc (.cells #[.slice (some ⟨w.heap.size, 0, none⟩) 2 2, .slice (some ⟨w.heap.size + 1, 0, none⟩) 2 2, .slice (some ⟨w.heap.size + 1 + 1, 0, none⟩) 2 2] 30)).heap.size (.slice (some ⟨w.heap.size + 1 + 1 + 1, 0, none⟩) 3 3) [[0, 1], [1, 2], [0, 2]] ∧ Below w.heap.size w ((((w.alloc (.cells #[.int .i64 0, .int .i64 1] 3)).alloc (.cells #[.int .i64 1, .int .i64 2] 3)).alloc (.cells #[.int .i64 0, .int .i64 2] 3)).alloc (.cells #[.slice (some ⟨w.heap.size, 0, none⟩) 2 2, .slice (some ⟨w.heap.size + 1, 0, none⟩) 2 2, .slice (some ⟨w.heap.size + 1 + 1, 0, none⟩) 2 2] 30)) ∧ CapM ((((w.alloc (.cells #[.int .i64 0, .int .i64 1] 3)).alloc (.cells #[.int .i64 1, .int .i64 2] 3)).alloc (.cells #[.int .i64 0, .int .i64 2] 3)).alloc (.cells #[.slice (some ⟨w.heap.size, 0, none⟩) 2 2, .slice (some ⟨w.heap.size + 1, 0, none⟩) 2 2, .slice (some ⟨w.heap.size + 1 + 1, 0, none⟩) 2 2] 30)) (.slice (some ⟨w.heap.size + 1 + 1 + 1, 0, none⟩) 3 3) := by
  have t0 := heap_alloc_new w (.cells #[.int .i64 0, .int .i64 1] 3)
  have b := below_alloc1 w (.cells #[.int .i64 0, .int .i64 1] 3)
  have t1 := heap_alloc_new (w.alloc (.cells #[.int .i64 0, .int .i64 1] 3)) (.cells #[.int .i64 1, .int .i64 2] 3)
  rw [alloc_size13] at t1
  replace t0 := keep_alloc (x := (.cells #[.int .i64 1, .int .i64 2] 3)) t0
  replace b := b.trans ((below_alloc1 (w.alloc (.cells #[.int .i64 0, .int .i64 1] 3)) (.cells #[.int .i64 1, .int .i64 2] 3)).mono b.size)
  have t2 := heap_alloc_new ((w.alloc (.cells #[.int .i64 0, .int .i64 1] 3)).alloc (.cells #[.int .i64 1, .int .i64 2] 3)) (.cells #[.int .i64 0, .int .i64 2] 3)
  rw [alloc_size13, alloc_size13] at t2
  replace t0 := keep_alloc (x := (.cells #[.int .i64 0, .int .i64 2] 3)) t0
  replace t1 := keep_alloc (x := (.cells #[.int .i64 0, .int .i64 2] 3)) t1
  replace b := b.trans ((below_alloc1 ((w.alloc (.cells #[.int .i64 0, .int .i64 1] 3)).alloc (.cells #[.int .i64 1, .int .i64 2] 3)) (.cells #[.int .i64 0, .int .i64 2] 3)).mono b.size)
  have t3 := heap_alloc_new (((w.alloc (.cells #[.int .i64 0, .int .i64 1] 3)).alloc (.cells #[.int .i64 1, .int .i64 2] 3)).alloc (.cells #[.int .i64 0, .int .i64 2] 3)) (.cells #[.slice (some ⟨w.heap.size, 0, none⟩) 2 2, .slice (some ⟨w.heap.size + 1, 0, none⟩) 2 2, .slice (some ⟨w.heap.size + 1 + 1, 0, none⟩) 2 2] 30)
  rw [alloc_size13, alloc_size13, alloc_size13] at t3
  replace t0 := keep_alloc (x := (.cells #[.slice (some ⟨w.heap.size, 0, none⟩) 2 2, .slice (some ⟨w.heap.size + 1, 0, none⟩) 2 2, .slice (some ⟨w.heap.size + 1 + 1, 0, none⟩) 2 2] 30)) t0
  replace t1 := keep_alloc (x := (.cells #[.slice (some ⟨w.heap.size, 0, none⟩) 2 2, .slice (some ⟨w.heap.size + 1, 0, none⟩) 2 2, .slice (some ⟨w.heap.size + 1 + 1, 0, none⟩) 2 2] 30)) t1
  replace t2 := keep_alloc (x := (.cells #[.slice (some ⟨w.heap.size, 0, none⟩) 2 2, .slice (some ⟨w.heap.size + 1, 0, none⟩) 2 2, .slice (some ⟨w.heap.size + 1 + 1, 0, none⟩) 2 2] 30)) t2
  replace b := b.trans ((below_alloc1 (((w.alloc (.cells #[.int .i64 0, .int .i64 1] 3)).alloc (.cells #[.int .i64 1, .int .i64 2] 3)).alloc (.cells #[.int .i64 0, .int .i64 2] 3)) (.cells #[.slice (some ⟨w.heap.size, 0, none⟩) 2 2, .slice (some ⟨w.heap.size + 1, 0, none⟩) 2 2, .slice (some ⟨w.heap.size + 1 + 1, 0, none⟩) 2 2] 30)).mono b.size)
  exact ⟨lit_mat3 t3 (lit_int2 t0) (lit_int2 t1) (lit_int2 t2), b, cap_lit14 t3 (fun j hj => match j, hj with | 0, _ => ⟨_, _, rfl⟩ | 1, _ => ⟨_, _, rfl⟩ | 2, _ => ⟨_, _, rfl⟩)⟩
set_option maxHeartbeats 4000000 in
set_option maxRecDepth 100000 in
theorem knows15_any (HF : FewestGood) (HBo : BoundGood) (HGr : GreedyGood) (HS : SolvesV) : Knows15 := by
  intro w
  obtain ⟨hM0, hB, hC0⟩ := mat15_new w
  have hsz : Hid (((((w.alloc (.cells #[.int .i64 0, .int .i64 1] 3)).alloc (.cells #[.int .i64 1, .int .i64 2] 3)).alloc (.cells #[.int .i64 0, .int .i64 2] 3)).alloc (.cells #[.slice (some ⟨w.heap.size, 0, none⟩) 2 2, .slice (some ⟨w.heap.size + 1, 0, none⟩) 2 2, .slice (some ⟨w.heap.size + 1 + 1, 0, none⟩) 2 2] 30)).heap.size = w.heap.size + 1 + 1 + 1 + 1) := Lib.hid (by simp only [alloc_size13])
  go_enter Try.func7, Try.ntmps7
  go_upto_region 2 with (fail)
  generalize ((((w.alloc _).alloc _).alloc _).alloc _) = w1 at *
  have hA := below_alloc1 w1 (.cells #[.int .i64 3, .slice (some ⟨w.heap.size + 1 + 1 + 1, 0, none⟩) 3 3] 24 (0, 0))
  have hbu := heap_alloc_new w1 (.cells #[.int .i64 3, .slice (some ⟨w.heap.size + 1 + 1 + 1, 0, none⟩) 3 3] 24 (0, 0))
  replace hB := hB.trans (hA.mono hB.size)
  have hM := (hM0.below hA).more hA.size
  have hC := hC0.below hA
  rw [hsz.out] at hbu
  clear hA hM0 hC0 hsz
  generalize w1.alloc _ = w2 at *
  obtain ⟨m0, m1, -⟩ := now2 hbu rfl
  have D := HF 3 _ _ 100 w2 hM hC x15_great x15_right x15_bare (by decide) (by decide) (by decide)
  unfold mtv at D
  simp only [show ((3 : Nat) : Int) = 3 from rfl, show ((100 : Nat) : Int) = 100 from rfl] at D
  go_wp2_with fail
  refine D.mono ?_
  rintro e w3 ⟨u, l, k, rfl, -, hu, hfew, hb⟩
  have hlen := x15_len hfew
  have hsol := hfew.2.1
  replace hB := hB.trans (hb.mono hB.size)
  replace hM := (hM.below hb).more hb.size
  replace hC := hC.below hb
  replace hbu := keep_blk hb hbu
  clear D hb m0 m1 hfew
  obtain ⟨m0, m1, -⟩ := now2 hbu rfl
  have D := HBo 3 _ _ w3 hM hC x15_great x15_right
  rw [x15_bound] at D
  unfold mtv at D
  simp only [show ((1 : Nat) : Int) = 1 from rfl] at D
  obtain ⟨Au, cu, rfl, -, -⟩ := id hu
  go_wp2_with fail
  refine D.mono ?_
  rintro e w4 ⟨rfl, hb⟩
  replace hB := hB.trans (hb.mono hB.size)
  replace hM := (hM.below hb).more hb.size
  replace hC := hC.below hb
  replace hu := (hu.below hb).more hb.size
  replace hbu := keep_blk hb hbu
  clear D hb m0 m1
  obtain ⟨m0, m1, -⟩ := now2 hbu rfl
  have D := HGr 3 _ _ w4 hM hC x15_great x15_right x15_bare
  rw [x15_grd] at D
  unfold mtv at D
  simp only [show ((3 : Nat) : Int) = 3 from rfl] at D
  go_wp2_with fail
  refine D.mono ?_
  rintro e w5 ⟨g, rfl, hg, hb⟩
  replace hB := hB.trans (hb.mono hB.size)
  replace hM := (hM.below hb).more hb.size
  replace hC := hC.below hb
  replace hu := (hu.below hb).more hb.size
  replace hbu := keep_blk hb hbu
  clear D hb m0 m1
  obtain ⟨m0, m1, -⟩ := now2 hbu rfl
  obtain ⟨Ag, cg, rfl, -, -⟩ := id hg
  have D := HS 3 _ _ _ _ w5 hM hu
  rw [x15_right, hsol] at D
  unfold mtv at D
  rw [hlen] at D
  try rw [hlen]
  clear hlen hsol hM hu hC
  go_wp2_with fail
  refine D.mono ?_
  rintro e w6 ⟨rfl, hb⟩
  replace hB := hB.trans (hb.mono hB.size)
  replace hg := (hg.below hb).more hb.size
  clear D hb m0 m1 hbu
  have hA := below_alloc1 w6 (.cells #[.int .i64 0, .int .i64 1] 3)
  have t := heap_alloc_new w6 (.cells #[.int .i64 0, .int .i64 1] 3)
  replace hB := hB.trans (hA.mono hB.size)
  replace hg := (hg.below hA).more hA.size
  clear hA
  go_wp2_with fail
  generalize w6.alloc _ = w7 at *
  have D := rsame13_any w7 _ _ _ _ hg (lit_int2 t)
  rw [decide_eq_true rfl] at D
  clear t hg
  refine D.mono ?_
  rintro e w8 ⟨rfl, hb⟩
  replace hB := hB.trans (hb.mono hB.size)
  clear D hb
  go_wp2
  go_ret
  exact ⟨rfl, hB⟩
end Go.Proofs.Ytcbhcclickjpnaa
