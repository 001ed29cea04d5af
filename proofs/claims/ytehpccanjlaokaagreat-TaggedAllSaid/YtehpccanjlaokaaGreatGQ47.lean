/- Package multi: All. A cube that comes in reads as two numbers of 8 bits. A slice of numbers that comes in. A table that comes in: its numbers, and its lines. A slice of sets that comes in. Rows and specs that come in. A row that comes in. -/
import Derived.Test.YtehpccanjlaokaaGreatGQ41
import Derived.Test.YtehpccanjlaokaaGreatGQ46
import Derived.Test.YtehpccanjlaokaaGreatGQ09
import Derived.Test.YtehpccanjlaokaaGreatGQ05
import Derived.Test.YtehpccanjlaokaaGreatGQ06
import Derived.Test.YtehpccanjlaokaaGreatGQ07
import Derived.Deep.Slices
import Derived.ChangeSlices
import Derived.Deep.Strs
namespace Go.Proofs.YtehpccanjlaokaaGreat
open Go.RowKit Go.Joins

/-- 'append' of what the call owns, as one step of a region that draws. -/
theorem step_append_own10 {ops : Array Oper} {o : Oper} {a : Act} {w : World} {K : Act → World → Prop} {Q : Exit → Act → World → Prop} {E : Prop} (hgd : o.guard = none) (s x : Operand) (t : TypeId)
    (ho : o.op = .call { callee := .builtin .append, args := #[s, x], argTypes := #[t, t] })
    (base : Nat) (e : TypeId) (i : TypeInfo) (z : Value) (size bytes : Nat) (ht : Tryz.prog.underlying t = some (.slice e)) (hi : Tryz.prog.info? e = some i) (hz : i.zero = some z)
    (hsize : i.size = size) (hby : i.bytes = bytes) (hzs : z.cells.size = size) (hsz : 0 < size)
    (v : Value) (n : Nat) (xs : List Value) (hs : a.eval s = v) (hown : w.ownsRow base e size v n xs)
    (ad : Addr) (m c : Nat) (news : List Value) (hx : a.eval x = .slice (some ad) m c) (hl : news.length = m * size) (hnews : ∀ j u, news[j]? = some u → w.cell? (ad.add j) = some u) (h1 : ∀ u ∈ news, u.oneCell' = true)
    (h63 : n + m ≤ maxLen) (hbytes : (n + m) * bytes ≤ 140737488355328) (hbase : base ≤ w.heap.size)
    (h : ∀ v' w', w'.ownsRow base e size v' (n + m) (xs ++ news) → w.grownBy w' v.ownBlock → K (a.put o.dst v') w') :
    if Region.wanted o (yielded ops a.tmps) = true then Oper.wp Tryz.prog o a w K Q else E := by
  have hw : Region.wanted o (yielded ops a.tmps) = true := by simp [Region.wanted, hgd]
  rw [if_pos hw]
  exact wp_append_own w s x t ho base e i z size bytes ht hi hz hsize hby hzs hsz v n xs hs hown ad m c news hx hl hnews h1 h63 hbytes hbase fun v' w' h2 h3 _ => h v' w' h2 h3
theorem row_block {w : World} {B size n : Nat} {e : TypeId} {v : Value} {xs : List Value} (h : w.ownsRow B e size v n xs) {g : Nat} (hg : v.ownBlock = some g) : ∃ cu, w.heap[g]? = some (.cells cu e (0, 0)) := by
  rcases h.2 with ⟨rfl, -⟩ | ⟨g', cap, cur, rfl, -, hb, -⟩
  · cases hg
  · injection hg with hg
    subst hg
    exact ⟨cur, hb⟩
def rowC (s : Sp) (c : Cb) : Rw := ⟨c.m, c.v, outS s c.m c.v⟩
/-- The rows of the first k choices of outputs. -/
def allL (s : Sp) (n : Nat) : Nat → List Rw
  | 0 => []
  | k + 1 => allL s n k ++ (prims (comS s (BitVec.ofNat 8 (k + 1))) n).map (rowC s)
theorem prims_len (S : BitVec 256) (n : Int) : (prims S n).length ≤ 65536 := by
  unfold prims prmL
  rw [List.length_map]
  exact prmU_len S n 65536
theorem prims_mem (S : BitVec 256) (n : Int) (m v : BitVec 8) : (⟨m, v⟩ : Cb) ∈ prims S n ↔ primB S n m v = true := by
  rw [← prmL_mem, prims, List.mem_map]
  constructor
  · rintro ⟨k, hk, e⟩
    have : k = keyC m v := by
      unfold cbK at e
      injection e with e1 e2
      have hk2 : k < 65536 := by unfold prmL at hk; exact ((prmU_mem S n 65536 k).1 hk).1
      unfold kM at e1
      unfold kV at e2
      have h1 := congrArg BitVec.toNat e1
      have h2 := congrArg BitVec.toNat e2
      rw [BitVec.toNat_ofNat] at h1 h2
      unfold keyC
      omega
    rw [← this]; exact hk
  · intro h
    exact ⟨_, h, by unfold cbK; rw [kM_key, kV_key]⟩
theorem allL_len (s : Sp) (n : Nat) : ∀ k, (allL s n k).length ≤ 65536 * k
  | 0 => Nat.le_refl _
  | k + 1 => by
    have ih := allL_len s n k
    have := prims_len (comS s (BitVec.ofNat 8 (k + 1))) n
    show (allL s n k ++ _).length ≤ _
    rw [List.length_append, List.length_map]
    omega
theorem allL_mem (s : Sp) (n : Nat) (x : Rw) : ∀ k, x ∈ allL s n k ↔ x.o = outS s x.m x.v ∧ ∃ j, j < k ∧ primB (comS s (BitVec.ofNat 8 (j + 1))) n x.m x.v = true
  | 0 => by
    constructor
    · intro h; exact absurd h List.not_mem_nil
    · rintro ⟨-, j, hj, -⟩; exact absurd hj (Nat.not_lt_zero _)
  | k + 1 => by
    show x ∈ allL s n k ++ _ ↔ _
    rw [List.mem_append, allL_mem s n x k, List.mem_map]
    constructor
    · rintro (⟨h1, j, h2, h3⟩ | ⟨c, hc, rfl⟩)
      · exact ⟨h1, j, by omega, h3⟩
      · exact ⟨rfl, k, by omega, (prims_mem _ _ c.m c.v).1 hc⟩
    · rintro ⟨h1, j, h2, h3⟩
      by_cases e : j = k
      · subst e
        refine .inr ⟨⟨x.m, x.v⟩, (prims_mem _ _ _ _).2 h3, ?_⟩
        obtain ⟨m, v, o⟩ := x
        unfold rowC
        simp only at h1 ⊢
        rw [h1]
      · exact .inl ⟨h1, j, by omega, h3⟩
/-- A rising row that has what All has made has all prime rows. -/
theorem all_is {s : Sp} {n : Nat} (hn : s.i = n) (h8 : n ≤ 8) (h4 : s.on.length ≤ 8) (hl : s.on.length = s.may.length) {R : List Rw} (hr : R.Pairwise fun a b => keyR a < keyR b) (hm : ∀ x, x ∈ R ↔ x ∈ allL s n (2 ^ s.may.length - 1)) : R = rwL (primR s) := by
  refine rwL_ext ((List.pairwise_map).2 hr) fun x => ?_
  rw [hm, allL_mem, prim_com hn h8 h4 hl]
  constructor
  · rintro ⟨h1, j, h2, h3⟩; exact ⟨h1, j, by omega, h3⟩
  · rintro ⟨h1, j, h2, h3⟩; exact ⟨h1, j, by omega, h3⟩
theorem com_ofB {s : Sp} {n : Nat} (hn : s.i = n) (o : BitVec 8) : decide (comS s o &&& ~~~(allB n) = 0) = true := by
  refine decide_eq_true ((and_not_zero _ _).2 fun p hp => ?_)
  have := ((comN_bit s o p _).1 hp).1
  rw [hn, Int.toNat_natCast] at this
  exact this
theorem rws_nil (w : World) (B : Nat) : RwsAt w B (.slice none 0 0) [] := ⟨none, 0, rfl, by decide, fun h => absurd h (by simp)⟩
theorem sortRow_nil (w : World) : Calls Tryz.prog 32 #[.slice none 0 0] w fun e w' => e = .returned (.slice none 0 0) ∧ w' = w := by
  go_enter Tryz.func32, Tryz.ntmps32
  go_wp2
  go_ret
  exact ⟨rfl, rfl⟩
theorem compact_own {w : World} {B : Nat} {V : Value} {L : List Rw} (h : w.ownsRow B 59 3 V L.length (rzV L)) (hB : B ≤ w.heap.size) (hs : L.Pairwise (fun a b => keyR a ≤ keyR b)) (hl : L.length ≤ 1000000) :
    Calls Tryz.prog 32 #[V] w fun e w' => ∃ v, e = .returned v ∧ (∃ R : List Rw, R.Pairwise (fun a b => keyR a < keyR b) ∧ (∀ x, x ∈ R ↔ x ∈ L) ∧ RwsAt w' w'.heap.size v R) ∧ Below B w w' := by
  rcases ownsRow_forms h with ⟨rfl, h0⟩ | ⟨g, cap, rfl⟩
  · obtain rfl : L = [] := List.length_eq_zero_iff.1 h0
    refine (sortRow_nil w).mono ?_
    rintro e w' ⟨rfl, rfl⟩
    exact ⟨_, rfl, ⟨[], List.Pairwise.nil, fun _ => Iff.rfl, own_rz h⟩, Below.refl _ _⟩
  · exact compact_any h hB hs hl
set_option maxHeartbeats 8000000 in
set_option maxRecDepth 100000 in
theorem mall_no (i : Int) (A C : Value) (on may : List (BitVec 256)) (hs : spB ⟨i, on, may⟩ = false) (w : World) (hA : SetsAt w w.heap.size A on) (hC : SetsAt w w.heap.size C may) :
    Calls Tryz.prog 10 #[spv i A C] w fun e w' => e = .returned (.tuple #[.slice none 0 0, .int .i64 1]) ∧ Below w.heap.size w w' := by
  have hB := below_alloc1 w (spb i A C)
  have hsp := heap_alloc_new w (spb i A C)
  have HR := sright_any i A C on may _ ((hA.below hB).more hB.size) ((hC.below hB).more hB.size)
  rw [hs] at HR
  obtain ⟨A, ac, rfl, -, -⟩ := hA
  obtain ⟨C, cc, rfl, -, -⟩ := hC
  clear hs
  unfold spv spb at *
  go_enter Tryz.func10, Tryz.ntmps10
  go_upto_region 1 with (fail)
  generalize w.alloc _ = W at *
  obtain ⟨s0, s1, s2, -⟩ := now3 hsp rfl
  go_wp2_with fail
  refine HR.mono ?_
  rintro e w1 ⟨rfl, hb1⟩
  have hB1 := hB.trans (hb1.mono hB.size)
  clear HR s0 s1 s2 hsp hB hb1
  go_wp2
  go_ret2
  exact ⟨rfl, hB1⟩
set_option maxHeartbeats 8000000 in
set_option maxRecDepth 100000 in
theorem mall_yes (n : Nat) (hn : n ≤ 8) (A C : Value) (on may : List (BitVec 256)) (hs : spB ⟨n, on, may⟩ = true) (w : World) (hA : SetsAt w w.heap.size A on) (hC : SetsAt w w.heap.size C may) (h4 : may.length ≤ 4) :
    Calls Tryz.prog 10 #[spv n A C] w fun e w' => ∃ v, e = .returned (.tuple #[v, .int .i64 0]) ∧ (∃ R : List Rw, R.Pairwise (fun a b => keyR a < keyR b) ∧ (∀ x, x ∈ R ↔ x ∈ allL ⟨n, on, may⟩ n (2 ^ may.length - 1)) ∧ RwsAt w' w'.heap.size v R) ∧ Below w.heap.size w w' := by
  obtain ⟨i0, hi0, hz0, hz1, hz2⟩ := info_parts Tryz.infoRow10
  have hB := below_alloc1 w (spb n A C)
  have hsp := heap_alloc_new w (spb n A C)
  have HR := sright_any n A C on may _ ((hA.below hB).more hB.size) ((hC.below hB).more hB.size)
  rw [hs] at HR
  have HCm := fun (o : BitVec 8) w1 (hb : Below w.heap.size w w1) => mcommon_any n hn A C on may o w1 ((hC.below hb).more hb.size)
  have HO := fun m v w1 (hb : Below w.heap.size w w1) => moutputs_any n A C on may m v (by omega) w1 ((hC.below hb).more hb.size)
  have HP := fun (o : BitVec 8) w => pall_on (comS ⟨n, on, may⟩ o) n hn (com_ofB rfl o) w
  obtain ⟨A, ac, rfl, -, -⟩ := hA
  obtain ⟨C, cc, rfl, -, -⟩ := hC
  clear hs
  unfold spv spb at *
  go_enter Tryz.func10, Tryz.ntmps10
  go_upto_region 1 with (fail)
  generalize w.alloc _ = W at *
  obtain ⟨s0, s1, s2, -⟩ := now3 hsp rfl
  go_wp2_with fail
  refine HR.mono ?_
  rintro e w1 ⟨rfl, hb1⟩
  have hB1 := hB.trans (hb1.mono hB.size)
  have hsp1 := keep_blk hb1 hsp
  clear HR s0 s1 s2 hsp hB hb1
  obtain ⟨s0, s1, s2, -⟩ := now3 hsp1 rfl
  go_upto_region 5 with (fail)
  obtain ⟨K, hK⟩ : ∃ K, K = 2 ^ may.length - 1 := ⟨_, rfl⟩
  have hw : wrap64 (wrap64 (2 ^ may.length) - 1) = (K : Int) := by
    rw [hK]
    rcases (by omega : may.length = 0 ∨ may.length = 1 ∨ may.length = 2 ∨ may.length = 3 ∨ may.length = 4) with e | e | e | e | e <;> rw [e] <;> (unfold wrap64; omega)
  have hK15 : K ≤ 15 := by
    rw [hK]
    rcases (by omega : may.length = 0 ∨ may.length = 1 ∨ may.length = 2 ∨ may.length = 3 ∨ may.length = 4) with e | e | e | e | e <;> rw [e] <;> decide
  simp only [hw]
  replace hK := Lib.hid hK
  clear hw h4 s0 s1 s2
  have hlen := Lib.hid (allL_len ⟨n, on, may⟩ n)
  have hsuc : Hid (∀ k, allL ⟨n, on, may⟩ n (k + 1) = allL ⟨n, on, may⟩ n k ++ (prims (comS ⟨n, on, may⟩ (BitVec.ofNat 8 (k + 1))) n).map (rowC ⟨n, on, may⟩)) := Lib.hid fun _ => rfl
  have hz : Hid (allL ⟨n, on, may⟩ n 0 = []) := Lib.hid rfl
  generalize hFe : allL ⟨n, on, may⟩ n = F at *
  replace hFe := Lib.hid hFe
  go_loopw [4, 18] (fun v t wr => ∃ k : Nat, k ≤ K ∧ t = .int .i64 k ∧ wr.ownsRow w1.heap.size 59 3 v (F k).length (rzV (F k)) ∧ Below w1.heap.size w1 wr) (fun _ t _ => K - (intOf t).toNat)
  case atStart => exact ⟨0, by omega, rfl, by rw [hz.out]; exact World.ownsRow_nil _ _ _ _, Below.refl _ _⟩
  case round =>
    obtain ⟨k, hk, rfl, hown, hb⟩ := hrel
    have hBw := hB1.trans (hb.mono hB1.size)
    have hsp2 := keep_blk hb hsp1
    by_cases hlt : k < K
    · have hd : decide ((k : Int) < (K : Int)) = true := decide_eq_true (by omega)
      have hok : (BitVec.ofNat 8 (k + 1)).toNat = k + 1 := by rw [BitVec.toNat_ofNat]; omega
      have HC1 := HCm (BitVec.ofNat 8 (k + 1))
      have HP1 := HP (BitVec.ofNat 8 (k + 1))
      unfold bvv at HC1
      rw [hok] at HC1
      have hs1 := Lib.hid (hsuc.out k)
      generalize comS ⟨n, on, may⟩ (BitVec.ofNat 8 (k + 1)) = Z at *
      have hpl := Lib.hid (prims_len Z n)
      generalize prims Z n = cs at *
      clear hok HCm HP hsuc hz
      unfold sv wv at HC1 HP1
      have HCx := fun X : After wr => HC1 X.1 (hBw.trans (X.2.mono hBw.size))
      clear HC1
      obtain ⟨S0, S1, S2, -⟩ := box3 hsp2 rfl
      go_upto_region 7 with (fail)
      refine wp_region_mid_after 7 _ rfl rfl (by kernel_rfl) (by kernel_rfl) ?_
      simp only [List.take_succ_cons, List.take_zero, List.drop_succ_cons, List.drop_zero]
      repeat (first | go_big_quiet_step ((go_at_call 26; exact Calls.after_of (HCx _))))
      refine wpQuiet_nil ?_
      intro y K2 hK2
      go_simp
      refine (HP1 _).mono ?_
      rintro e w2 ⟨cv2, rfl, hcs, hb2⟩
      refine hK2.out _ _ ?_
      clear hK2 HCx HP1
      repeat (first | go_big_quiet_step (fail))
      refine wpQuiet_nil ?_
      have hbx : Below wr.heap.size wr w2 := y.2.trans (hb2.mono y.2.size)
      have hb' := hb.trans (hbx.mono hb.size)
      have hro := owns_below hown hbx
      obtain ⟨A2, c2, rfl⟩ := own_form hcs
      clear hb2 hbx hown hb hsp2 hBw S0 S1 S2
      generalize y.1.heap.size = yB at *
      clear y
      go_wp2
      obtain ⟨G, hG⟩ : ∃ G : Nat → List Rw, Hid (∀ q, G q = F k ++ (cs.take q).map (rowC ⟨n, on, may⟩)) := ⟨_, Lib.hid fun _ => rfl⟩
      go_loopw [4, 9, 37] (fun v _ t wj => ∃ (q : Nat) (L : List Rw), q ≤ cs.length ∧ t = .int .i64 q ∧ Hid (L = G q) ∧ wj.ownsRow w1.heap.size 59 3 v L.length (rzV L) ∧ wj.ownsRow yB 57 2 (.slice A2 cs.length c2) cs.length (cbsV cs) ∧ Below w1.heap.size w1 wj) (fun _ _ t _ => cs.length - (intOf t).toNat)
      case atStart => exact ⟨0, F k, by omega, rfl, Lib.hid (by rw [hG.out]; simp), hro, hcs, hb'⟩
      case round =>
        clear hro hcs hb'
        obtain ⟨q, L, hq, rfl, hL, hro, hcs, hb⟩ := hrel
        have hBw := hB1.trans (hb.mono hB1.size)
        have hsp2 := keep_blk hb hsp1
        by_cases hql : q < cs.length
        · have hd : decide ((q : Int) < (cs.length : Int)) = true := decide_eq_true (by omega)
          have hq6 : q ≤ 65536 := by have := hpl.out; omega
          obtain ⟨c, hc⟩ : ∃ c, cs[q]? = some c := ⟨_, List.getElem?_eq_getElem hql⟩
          have hLl : L.length ≤ 1000000 := by
            rw [hL.out, hG.out, List.length_append, List.length_map, List.length_take]
            have := hlen.out k
            have := hpl.out
            omega
          have hL2 : Hid (L ++ [(⟨c.m, c.v, outS ⟨n, on, may⟩ c.m c.v⟩ : Rw)] = G (q + 1)) := Lib.hid (by
            rw [hL.out, hG.out, hG.out, List.take_succ_eq_append_getElem hql, List.map_append, List.append_assoc, (List.getElem?_eq_some_iff.1 hc).2]; rfl)
          have HOc := HO c.m c.v
          unfold cv bvv at HOc
          generalize outS ⟨n, on, may⟩ c.m c.v = oo at *
          obtain ⟨g2, c2', e2, -, -, -, hcc⟩ := own_cellq hcs (by omega)
          injection e2 with e2 _ e3
          subst e2
          subst e3
          obtain ⟨c0, c1⟩ := cbsV_at cs q c hc
          have c0 := hcc _ _ c0
          have c1 := hcc _ _ c1
          unfold bvv at c0 c1
          have hcb := heap_alloc_new wr (.cells #[.int .u8 c.m.toNat, .int .u8 c.v.toNat] 57)
          have hba := below_alloc1 wr (.cells #[.int .u8 c.m.toNat, .int .u8 c.v.toNat] 57)
          have hsp3 := keep_blk hba hsp2
          have hroa := owns_below hro hba
          have hcsa := owns_below hcs hba
          have hb3 := hb.trans (hba.mono hb.size)
          have hBa := hB1.trans (hb3.mono hB1.size)
          clear hc hcc hcs hro hb hBw hsp2 HO hL
          go_upto_region 13 with (fail)
          clear c0 c1 hba
          generalize wr.alloc _ = wa at *
          generalize wr.heap.size = xb at *
          refine wp_region_held_drew (S := fun W_ => Below w1.heap.size w1 W_ ∧ W_.heap[xb]? = some (.cells #[.int .u8 c.m.toNat, .int .u8 c.v.toNat] 57 (0, 0))) rfl ⟨hb3.drew, hcb⟩ (fun hHeld => ?_)
          have hro0 := hroa.drew
          have hcs0 := hcsa.drew
          obtain ⟨X0, hX0⟩ : ∃ X0, X0 = wa.drew := ⟨_, rfl⟩
          rw [← hX0] at hHeld hro0 hcs0 ⊢
          clear hX0 hroa hcsa hsp3 hcb hb3 hBa
          refine wpAnyH_take (i := 0) (oi := _) (v := ?_) rfl (by kernel_rfl) (by kernel_rfl) (by kernel_rfl) (fun _ _ _ h => h) (Or.inl ⟨by rfl, ?_⟩) (by assumption) ?_
          rotate_left 1
          · intro w_ hSw
            go_simp
            try with_reducible rfl
          try simp only [Act.put, List.setIfInBounds_toArray]
          refine wpAnyH_take (i := 1) (oi := _) (v := ?_) rfl (by kernel_rfl) (by kernel_rfl) (by kernel_rfl) (fun _ _ _ h => h) (Or.inl ⟨by rfl, ?_⟩) (by assumption) ?_
          rotate_left 1
          · intro w_ hSw
            obtain ⟨q0, q1, -⟩ := now2 hSw.2 rfl
            go_simp
            try with_reducible rfl
          try simp only [Act.put]
          refine wpAnyH_take (i := 2) (oi := _) (v := ?_) rfl (by kernel_rfl) (by kernel_rfl) (by kernel_rfl) (fun _ _ _ h => h) (Or.inl ⟨by rfl, ?_⟩) (by assumption) ?_
          rotate_left 1
          · intro w_ hSw
            obtain ⟨q0, q1, q2, -⟩ := now3 (keep_blk hSw.1 hsp1) rfl
            go_simp
            try with_reducible rfl
          try simp only [Act.put]
          refine wpAnyH_take (i := 3) (oi := _) (v := ?_) rfl (by kernel_rfl) (by kernel_rfl) (by kernel_rfl) (fun _ _ _ h => h) (Or.inl ⟨by rfl, ?_⟩) (by assumption) ?_
          rotate_left 1
          · intro w_ hSw
            obtain ⟨q0, q1, -⟩ := now2 hSw.2 rfl
            go_simp
            try with_reducible rfl
          try simp only [Act.put]
          refine wpAnyH_ready (rs := [4]) (by kernel_rfl) (by simp) ?_
          refine AllReadyH.cons (o := _) rfl (fun _ hK => ?_) AllReadyH.nil
          go_simp
          refine (HOc X0 (hB1.trans (hHeld.1.mono hB1.size))).mono ?_
          rintro e X1 ⟨rfl, hbr⟩
          have hro1 := owns_below hro0 hbr
          have hcs1 := owns_below hcs0 hbr
          try go_simp
          refine hK.out _ _ ⟨hHeld.1.trans (hbr.mono hHeld.1.size), keep_blk hbr hHeld.2⟩ (fun hHeld => ?_)
          clear hbr hro0 hcs0
          clear hK
          try simp only [Act.put, List.setIfInBounds_toArray, List.set_cons_zero, List.set_cons_succ]
          refine wpAnyH_take (i := 5) (oi := _) (v := ?_) rfl (by kernel_rfl) (by kernel_rfl) (by kernel_rfl) (fun _ _ _ h => h) (Or.inl ⟨by rfl, ?_⟩) (by assumption) ?_
          rotate_left 1
          · intro w_ hSw
            go_simp
            try with_reducible rfl
          try simp only [Act.put, List.setIfInBounds_toArray]
          refine wpAnyH_ready (rs := [6]) (by kernel_rfl) (by simp) ?_
          refine AllReadyH.cons (o := _) rfl (fun _ hK => ?_) AllReadyH.nil
          go_simp
          have hnew := heap_alloc_new X1 (.cells #[.int .u8 c.m.toNat, .int .u8 c.v.toNat, .int .u8 oo.toNat] 59 (0, 0))
          have hro2 := hro1.alloc (.cells #[.int .u8 c.m.toNat, .int .u8 c.v.toNat, .int .u8 oo.toNat] 59 (0, 0))
          have hcs2 := hcs1.alloc (.cells #[.int .u8 c.m.toNat, .int .u8 c.v.toNat, .int .u8 oo.toNat] 59 (0, 0))
          have hH2 : Below w1.heap.size w1 (X1.alloc (.cells #[.int .u8 c.m.toNat, .int .u8 c.v.toNat, .int .u8 oo.toNat] 59 (0, 0))) ∧ (X1.alloc (.cells #[.int .u8 c.m.toNat, .int .u8 c.v.toNat, .int .u8 oo.toNat] 59 (0, 0))).heap[xb]? = some (.cells #[.int .u8 c.m.toNat, .int .u8 c.v.toNat] 57 (0, 0)) := ⟨hHeld.1.alloc hHeld.1.size _, keep_alloc hHeld.2⟩
          generalize X1.alloc _ = X2 at *
          generalize X1.heap.size = nb at *
          refine hK.out _ _ hH2 (fun hHeld => ?_)
          clear hH2 hro1 hcs1
          clear hK
          try simp only [Act.put, List.setIfInBounds_toArray, List.set_cons_zero, List.set_cons_succ]
          refine wpAnyH_ready (rs := [7]) (by kernel_rfl) (by simp) ?_
          refine AllReadyH.cons (o := _) rfl (fun _ hK => ?_) AllReadyH.nil
          refine step_append_own10 rfl _ _ 33 rfl w1.heap.size 59 i0 (.agg #[.int .u8 0, .int .u8 0, .int .u8 0]) 3 3 Tryz.underlying33 hi0 hz0 hz1 hz2 rfl (by decide) _ _ _ rfl hro2 ⟨nb, 0, none⟩ 1 1 [.int .u8 c.m.toNat, .int .u8 c.v.toNat, .int .u8 oo.toNat] rfl rfl (World.news_of_block (cs := #[.int .u8 c.m.toNat, .int .u8 c.v.toNat, .int .u8 oo.toNat]) (t := 59) (fr := (0, 0)) hnew) ?_ ?_ ?_ hHeld.1.size ?_
          · intro u hu; simp at hu; rcases hu with rfl | rfl | rfl <;> rfl
          · unfold maxLen; omega
          · omega
          intro v' w8 ho8 hg8
          have hB8 := grown_below hro2 hg8 hHeld.1 (Nat.le_refl _) hHeld.1.size
          have hx8 := (hg8.block _ (size_of_block hHeld.2) (fun e => by obtain ⟨cu, hcu⟩ := row_block hro2 e.symm; rw [hHeld.2] at hcu; injection hcu with hcu; injection hcu with _ hcu; exact absurd hcu (by decide))).trans hHeld.2
          have hcs9 := hcs2.kept hg8 (.inr (fun e => by obtain ⟨cu, hcu⟩ := row_block hro2 e.symm; exact own_ne hcs2 hcu (by decide) rfl))
          refine hK.out _ _ ⟨hB8, hx8⟩ (fun hHeld => ?_)
          clear hK
          try simp only [Act.put, List.setIfInBounds_toArray]
          refine wpAnyH_ready (rs := [8]) (by kernel_rfl) (by simp) ?_
          refine AllReadyH.cons (o := _) rfl (fun _ hK => ?_) AllReadyH.nil
          go_simp
          refine hK.out _ _ hHeld (fun hHeld => ?_)
          clear hK
          try simp only [Act.put, List.setIfInBounds_toArray, List.set_cons_zero, List.set_cons_succ]
          refine wpAnyH_done (by kernel_rfl) ?_ _
          have ho9 : w8.ownsRow w1.heap.size 59 3 v' (L ++ [(⟨c.m, c.v, oo⟩ : Rw)]).length (rzV (L ++ [(⟨c.m, c.v, oo⟩ : Rw)])) := by
            rw [rzV_snoc, List.length_append]
            exact ho8
          clear hg8 ho8 hro2 hcs2 hx8 hHeld HOc hnew
          go_wp2
          go_roundw
          case rel => first | exact ⟨q + 1, L ++ [(⟨c.m, c.v, oo⟩ : Rw)], by omega, by go_num, hL2, ho9, hcs9, hB8⟩ | exact ⟨_, _, _, ⟨q + 1, by omega, rfl, L ++ [(⟨c.m, c.v, oo⟩ : Rw)], hL2, ho9, hcs9⟩, rfl, rfl, by go_num⟩
          case measure => simp [intOf]; omega
        · have hd : decide ((q : Int) < (cs.length : Int)) = false := decide_eq_false (by omega)
          have hL2 : L = F (k + 1) := by rw [hs1.out, hL.out, hG.out, List.take_of_length_le (by omega)]
          rw [hL2] at hro
          clear hL hL2 hcs hBw hsp2 hs1
          go_wp2
          go_roundw
          case rel => exact ⟨k + 1, by omega, by go_num, hro, hb⟩
          case measure => simp [intOf]; omega
    · obtain rfl : k = K := by omega
      have hd : decide ((k : Int) < (k : Int)) = false := decide_eq_false (by omega)
      obtain ⟨A3, c3, rfl⟩ := own_form hown
      have hl := hlen.out k
      have hfb := heap_alloc_new wr (.cells #[.func (.func 29) #[] #[], .func (.func 30) #[] #[], .func (.func 31) #[] #[]] 71)
      have hba := below_alloc1 wr (.cells #[.func (.func 29) #[] #[], .func (.func 30) #[] #[], .func (.func 31) #[] #[]] 71)
      have HS := sortBy_any (fc := 3) (owns_below hown hba) (Nat.le_trans hb.size hba.size) (by omega) (by rw [cell_of_block hfb]; rfl) (by rw [cell_of_block hfb]; rfl) (by rw [cell_of_block hfb]; rfl) (fun e => by have := (hown.lt _ e).2; omega)
      have hBa := hBw.trans (hba.mono hBw.size)
      have hbsz := hb.size
      clear HCm HP HO hsuc hz hlen hfb hown hsp2 hb hBw
      go_upto_region 16 with (fail)
      go_wp2_with fail
      have hbs := hba.size
      generalize wr.alloc _ = wa at *
      refine HS.mono ?_
      rintro e w5 ⟨rfl, ⟨M, hM, hmem, hMl, hownM⟩, hb5, -⟩
      have HCp := compact_own hownM (Nat.le_trans (Nat.le_trans hbsz hbs) hb5.size) hM (by omega)
      have hB5 := hBa.trans (hb5.mono hB1.size)
      have hmem := Lib.hid hmem
      clear HS hM hownM hMl hba hBa hb5
      go_wp2_with fail
      refine HCp.mono ?_
      rintro e w6 ⟨v, rfl, ⟨R, hr, hm, hR⟩, hb6⟩
      have hB6 := hB5.trans (hb6.mono hB1.size)
      clear HCp
      go_wp2
      go_ret2
      exact ⟨v, rfl, ⟨R, hr, fun x => by rw [hm x, hmem.out x, ← hK.out, hFe.out], hR⟩, hB6⟩
theorem mall_any : AllM := by
  intro i A C on may w hA hC
  cases hs : spB ⟨i, on, may⟩
  · exact (mall_no i A C on may hs w hA hC).mono fun e w' ⟨h1, h2⟩ => ⟨_, h1, rws_nil _ _, h2⟩
  · obtain ⟨n, rfl, hn, h1, h4, hl⟩ := sp_known hs
    refine (mall_yes n hn A C on may hs w hA hC (by omega)).mono ?_
    rintro e w' ⟨v, rfl, ⟨R, hr, hm, hR⟩, hb⟩
    have e := all_is (s := ⟨n, on, may⟩) rfl hn (show on.length ≤ 8 by omega) hl hr hm
    rw [if_pos rfl, if_pos rfl, ← e]
    exact ⟨v, rfl, hR, hb⟩
end Go.Proofs.YtehpccanjlaokaaGreat
namespace Go.Proofs.YtehpccanjlaokaaGreat
open Go.ChangeShapes Go.WideShapes Go.ChangeAt Go.RowKit Go.Joins

end Go.Proofs.YtehpccanjlaokaaGreat
namespace Go.Proofs.YtehpccanjlaokaaGreat
open Go.ChangeShapes Go.WideShapes Go.ChangeAt Go.RowKit Go.Joins

theorem Tryz.cellsInt : Tryz.prog.cellsOf 3 = 1 := by kernel_rfl
set_option maxRecDepth 100000 in
theorem num_of {H : Type} {enc : TypeId × Value → H} {w : World} {base m : Nat} {sp : Nat → Bool} {held : Bool} {c : Value} {y : DataW H × List MemPlace}
    (h : DataW.trod enc Tryz.prog w base sp held m 3 [c] = some y) : ∃ x : Int, c = .int .i64 x := by
  obtain ⟨a, e0, _, wa⟩ := DataW.trod_int Tryz.underlying3 h
  simp at e0
  exact ⟨a, e0⟩
theorem plain_addr {w : World} {a : Addr} {v : Value} (h : w.cell? (a.add 0) = some v) : a = ⟨a.block, a.off, none⟩ ∧ a.block < w.heap.size := by
  have h0 : w.cell? a = some v := by simpa [Addr.add] using h
  have hs := World.cell?_spot h0
  refine ⟨?_, World.block_lt_of_cell? w a h0⟩
  cases a with
  | mk b o s => simp at hs; subst hs; rfl
theorem add_plain (b off i : Nat) : (⟨b, off, none⟩ : Addr).add i = ⟨b, off + i, none⟩ := by
  unfold Addr.add
  split
  · rename_i h; subst h; rfl
  · rfl
end Go.Proofs.YtehpccanjlaokaaGreat
namespace Go.Proofs.YtehpccanjlaokaaGreat
open Go.ChangeShapes Go.WideShapes Go.ChangeAt Go.RowKit Go.Joins

instance : Inhabited Ln := ⟨⟨0, 0, []⟩⟩
end Go.Proofs.YtehpccanjlaokaaGreat
namespace Go.Proofs.YtehpccanjlaokaaGreat
open Go.ChangeShapes Go.WideShapes Go.ChangeAt Go.RowKit Go.Joins

theorem Tryz.cellsSet4 : Tryz.prog.cellsOf 51 = 4 := by kernel_rfl
set_option maxRecDepth 100000 in
theorem set_of {H : Type} {enc : TypeId × Value → H} {w : World} {base n : Nat} {sp : Nat → Bool} {held : Bool} {c0 c1 c2 c3 : Value} {y : DataW H × List MemPlace}
    (h : DataW.trod enc Tryz.prog w base sp held n 51 [c0, c1, c2, c3] = some y) : ∃ S : BitVec 256, c0 = wv (wd S 0) ∧ c1 = wv (wd S 1) ∧ c2 = wv (wd S 2) ∧ c3 = wv (wd S 3) := by
  obtain ⟨xs, m, _, _, _, hx, he⟩ := DataW.trod_array Tryz.underlying51 h
  rw [Tryz.cellsWord] at he
  obtain ⟨y0, y1, y2, y3, rfl⟩ : ∃ y0 y1 y2 y3, xs = [y0, y1, y2, y3] := by
    match xs, hx with
    | [a, b, c, d], _ => exact ⟨a, b, c, d, rfl⟩
  obtain ⟨x0, e0⟩ := word_of (he 0 (by decide))
  obtain ⟨x1, e1⟩ := word_of (he 1 (by decide))
  obtain ⟨x2, e2⟩ := word_of (he 2 (by decide))
  obtain ⟨x3, e3⟩ := word_of (he 3 (by decide))
  obtain ⟨S, f0, f1, f2, f3⟩ := of_words x0 x1 x2 x3
  exact ⟨S, by rw [f0]; exact e0, by rw [f1]; exact e1, by rw [f2]; exact e2, by rw [f3]; exact e3⟩
set_option maxRecDepth 100000 in
theorem sets_of {H : Type} {enc : TypeId × Value → H} {w : World} {base m : Nat} {sp : Nat → Bool} {held : Bool} {c : Value} {y : DataW H × List MemPlace}
    (h : DataW.trod enc Tryz.prog w base sp held m 22 [c] = some y) : ∃ Ss, SetsAt w w.heap.size c Ss := by
  rcases Go.Deep.open_slice Tryz.underlying22 h with ⟨e, _⟩ | ⟨a, len, cap, m, n, D, Pl, e, hb, hl, hm, hmm, hx, hel⟩
  · simp at e
    subst e
    exact ⟨[], none, 0, rfl, by decide, fun h => absurd h (by simp)⟩
  · simp at e
    subst e
    have hle : len ≤ m := by rw [hmm]; split <;> omega
    have hmx : maxLen = 9223372036854775807 := rfl
    have each : ∀ i, i < len → ∃ S : BitVec 256, w.cell? (a.add (i * 4)) = some (wv (wd S 0)) ∧ w.cell? ((a.add (i * 4)).add 1) = some (wv (wd S 1)) ∧ w.cell? ((a.add (i * 4)).add 2) = some (wv (wd S 2)) ∧ w.cell? ((a.add (i * 4)).add 3) = some (wv (wd S 3)) := by
      intro i hi
      obtain ⟨cs, hcs, ht⟩ := hel i (by omega)
      rw [Tryz.cellsSet4] at hcs
      obtain ⟨_, hn, hat⟩ := World.cells?_some hcs
      match cs, hn with
      | [c0, c1, c2, c3], _ =>
        have a0 := hat 0 (by decide)
        have a1 := hat 1 (by decide)
        have a2 := hat 2 (by decide)
        have a3 := hat 3 (by decide)
        obtain ⟨S, rfl, rfl, rfl, rfl⟩ := set_of ht
        exact ⟨S, by simpa [Addr.add] using a0, by simpa using a1, by simpa using a2, by simpa using a3⟩
    obtain ⟨F, hF⟩ := Go.Deep.choose_lt each
    refine ⟨(List.range len).map F, some a, cap, by simp, by simp; omega, fun h0 => ?_⟩
    have hl0 : 0 < len := by simpa using h0
    obtain ⟨z0, -⟩ := hF 0 hl0
    obtain ⟨ea, hblk⟩ := plain_addr (by simpa using z0)
    refine ⟨a.block, a.off, congrArg some ea, hblk, fun j l hj => ?_⟩
    rw [List.getElem?_map] at hj
    obtain ⟨j', hj', rfl⟩ := Option.map_eq_some_iff.1 hj
    obtain ⟨hlt, e⟩ := List.getElem?_eq_some_iff.1 hj'
    have e' : j' = j := by simpa using e.symm
    subst e'
    obtain ⟨q0, q1, q2, q3⟩ := hF j' (by simpa using hlt)
    rw [ea] at q0 q1 q2 q3
    simp only [add_plain] at q0 q1 q2 q3
    exact ⟨q0, q1, q2, q3⟩
end Go.Proofs.YtehpccanjlaokaaGreat
namespace Go.Proofs.YtehpccanjlaokaaGreat
open Go.ChangeShapes Go.WideShapes Go.ChangeAt Go.RowKit Go.Joins

instance : Inhabited Rw := ⟨⟨0, 0, 0⟩⟩
theorem array3 {cs : Array Value} (h : cs.size = 3) : ∃ a b c, cs = #[a, b, c] := by
  match cs, h with
  | ⟨[a, b, c]⟩, _ => exact ⟨a, b, c, rfl⟩
set_option maxRecDepth 100000 in
theorem open_spec {H : Type} {enc : TypeId × Value → H} {w W : World} {r : Reach} {b0 base : Nat} {sp : Nat → Bool} {held : Bool} {v : Value} {d : DataW H} {p : List MemPlace}
    (hv : Value.okWide Tryz.prog W r b0 24 v) (h : DataW.Trod enc Tryz.prog w base sp held 24 v d p) : ∃ (s : Sp) (A C : Value), v = spv s.i A C ∧ SetsAt w w.heap.size A s.on ∧ SetsAt w w.heap.size C s.may := by
  have hv' : ∃ cs, v = .agg cs ∧ cs.size = Tryz.prog.cellsOf 24 := by
    unfold Value.okWide at hv
    rw [Tryz.underlying24] at hv
    obtain ⟨cs, h1, h2, _⟩ := hv
    exact ⟨cs, h1, h2⟩
  obtain ⟨cs, rfl, hsz⟩ := hv'
  obtain ⟨c0, c1, c2, rfl⟩ := array3 (hsz.trans (show Tryz.prog.cellsOf 24 = 3 by kernel_rfl))
  obtain ⟨fuel, hf⟩ := h
  obtain ⟨y0, y1, y2, n, _, _, h0, h1, h2⟩ := Go.Deep.trod_struct3 Tryz.underlying24 hf
  simp only [Value.cells, List.drop_zero, Tryz.cellsInt, show Tryz.prog.cellsOf 22 = 1 by kernel_rfl] at h0 h1 h2
  obtain ⟨k, rfl⟩ := num_of h0
  obtain ⟨on, hon⟩ := sets_of h1
  obtain ⟨may, hmay⟩ := sets_of h2
  exact ⟨⟨k, on, may⟩, c1, c2, rfl, hon, hmay⟩
end Go.Proofs.YtehpccanjlaokaaGreat
namespace Go.Proofs.YtehpccanjlaokaaGreat
open Go.ChangeShapes Go.WideShapes Go.ChangeAt Go.RowKit Go.Joins

end Go.Proofs.YtehpccanjlaokaaGreat
