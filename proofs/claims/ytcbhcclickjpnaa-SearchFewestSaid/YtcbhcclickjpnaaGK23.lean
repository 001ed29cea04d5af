/- A choice that lies in memory; reduced of the package search. -/
import Derived.Test.YtcbhcclickjpnaaGK22
import Derived.Test.YtcbhcclickjpnaaGK10
namespace Go.Proofs.Ytcbhcclickjpnaa
open Go.RowKit Go.Joins

theorem MatN.keep15 {w w' : World} {N N' : Nat → Prop} {v : Value} {ls : List (List Int)} (h : MatN w N v ls) (hk : ∀ b, N b → w'.heap[b]? = w.heap[b]?) (hN : ∀ b, N b → N' b) : MatN w' N' v ls := by
  obtain ⟨A, c, e, hl, h⟩ := h
  refine ⟨A, c, e, hl, fun h0 => ?_⟩
  obtain ⟨b, off, eA, hb, hc⟩ := h h0
  refine ⟨b, off, eA, hN b hb, fun j l hj => ?_⟩
  obtain ⟨ov, c0, hi⟩ := hc j l hj
  exact ⟨ov, by rw [World.cell?_of_block (w := w) (a := ⟨b, off + j, none⟩) (hk b hb)]; exact c0, hi.keep hk hN⟩
theorem CapM.keep15 {w w' : World} {N : Nat → Prop} {u : Value} {ls : List (List Int)} (h : CapM w u) (hm : MatN w N u ls) (hk : ∀ b, N b → w'.heap[b]? = w.heap[b]?) (hs : w.heap.size ≤ w'.heap.size) : CapM w' u := by
  obtain ⟨A, c, rfl, -, hc⟩ := hm
  intro A' n' c' e
  injection e with e1 e2 e3
  subst e1
  subst e2
  subst e3
  obtain ⟨h1, h2⟩ := h A _ c rfl
  refine ⟨h1, fun h0 => ?_⟩
  obtain ⟨b, off, eA, hb, hcc⟩ := h2 h0
  obtain ⟨b', off', eA', hN, -⟩ := hc h0
  rw [eA] at eA'
  injection eA' with e
  injection e with e1 e2
  subst e1
  refine ⟨b, off, eA, by omega, fun j hj => ?_⟩
  obtain ⟨A', n', c', h3, h4⟩ := hcc j hj
  exact ⟨A', n', c', by rw [World.cell?_of_block (w := w) (a := ⟨b, off + j, none⟩) (hk b hN)]; exact h3, h4⟩
/-- A choice in memory: its lists lie in blocks of N. -/
structure ChoN (w : World) (N : Nat → Prop) (tv nv rv : Value) (c : Cho) : Prop where
  t : IntsN w N tv c.t
  nm : IntsN w N nv c.nm
  ls : MatN w N rv c.ls
  cap : CapM w rv
theorem ChoN.keep {w w' : World} {N N' : Nat → Prop} {tv nv rv : Value} {c : Cho} (h : ChoN w N tv nv rv c) (hk : ∀ b, N b → w'.heap[b]? = w.heap[b]?) (hs : w.heap.size ≤ w'.heap.size) (hN : ∀ b, N b → N' b) : ChoN w' N' tv nv rv c :=
  ⟨h.t.keep hk hN, h.nm.keep hk hN, h.ls.keep15 hk hN, h.cap.keep15 h.ls hk hs⟩
theorem IntsN.low15 {w : World} {N : Nat → Prop} {v : Value} {l : List Int} (h : IntsN w N v l) : IntsN w (fun b => N b ∧ b < w.heap.size) v l := by
  obtain ⟨A, c, e, hl, h⟩ := h
  refine ⟨A, c, e, hl, fun h0 => ?_⟩
  obtain ⟨b, off, eA, hb, hc⟩ := h h0
  exact ⟨b, off, eA, ⟨hb, block_lt_of_cell (hc 0 _ (List.getElem?_eq_getElem h0))⟩, hc⟩
theorem MatN.low15 {w : World} {N : Nat → Prop} {v : Value} {ls : List (List Int)} (h : MatN w N v ls) : MatN w (fun b => N b ∧ b < w.heap.size) v ls := by
  obtain ⟨A, c, e, hl, h⟩ := h
  refine ⟨A, c, e, hl, fun h0 => ?_⟩
  obtain ⟨b, off, eA, hb, hc⟩ := h h0
  obtain ⟨ov, z, -⟩ := hc 0 _ (List.getElem?_eq_getElem h0)
  refine ⟨b, off, eA, ⟨hb, block_lt_of_cell z⟩, fun j l hj => ?_⟩
  obtain ⟨ov, c0, hi⟩ := hc j l hj
  exact ⟨ov, c0, hi.low15⟩
theorem ChoN.below {w w' : World} {N : Nat → Prop} {tv nv rv : Value} {c : Cho} (h : ChoN w N tv nv rv c) (hb : Below w.heap.size w w') : ChoN w' N tv nv rv c :=
  have h2 : ChoN w (fun b => N b ∧ b < w.heap.size) tv nv rv c := ⟨h.t.low15, h.nm.low15, h.ls.low15, h.cap⟩
  h2.keep (fun b hb2 => hb.block b hb2.2) hb.size (fun _b hb2 => hb2.1)
theorem tak_range {n : Nat} {ls : List (List Int)} : ∀ x, x ∈ takL n ls → 0 ≤ x ∧ x < n := fun x hx => by
  unfold takL at hx
  obtain ⟨k, hk, rfl⟩ := List.mem_map.1 hx
  have := List.mem_range.1 (List.mem_filter.1 hk).1
  rw [Int.toNat_natCast] at this
  omega
theorem tak_few {n : Nat} {ls : List (List Int)} (hr : rightM n ls = true) : (takL n ls).length + (redL n ls).2.length ≤ ls.length := by
  have h1 := red_few (n := n) (masR ls + 1) (fun _ => false) ls (low_of hr)
  rw [crd_zero] at h1
  rw [tak_len]
  have e4 : redL n ls = redP n (masR ls + 1) (fun _ => false) ls := rfl
  rw [← e4] at h1
  simp at h1 ⊢
  omega
/-- The new numbers of the columns below k. -/
def plcA (ls : List (List Int)) (k p : Nat) : Int := if p < k ∧ usdT ls (p : Int) = true then (crdT p (usdT ls) : Nat) else 0
theorem cnt_usd {ls : List (List Int)} {k : Nat} : 0 < cntC ls k ↔ usdT ls (k : Int) = true := by
  unfold cntC
  rw [List.countP_pos_iff, usd_iff]
  exact ⟨fun ⟨r, h1, h2⟩ => ⟨r, h1, of_decide_eq_true h2⟩, fun ⟨r, h1, h2⟩ => ⟨r, h1, decide_eq_true h2⟩⟩
theorem atL_append (l a b : List Int) : atL l (a ++ b) = atL l a ++ atL l b := List.map_append
/-- 'append' of what the call owns, as one step of a region that draws. -/
theorem step_append_own15 {ops : Array Oper} {o : Oper} {a : Act} {w : World} {K : Act → World → Prop} {Q : Exit → Act → World → Prop} {E : Prop} (hgd : o.guard = none) (s x : Operand) (t : TypeId)
    (ho : o.op = .call { callee := .builtin .append, args := #[s, x], argTypes := #[t, t] })
    (base : Nat) (e : TypeId) (i : TypeInfo) (z : Value) (size bytes : Nat) (ht : Try.prog.underlying t = some (.slice e)) (hi : Try.prog.info? e = some i) (hz : i.zero = some z)
    (hsize : i.size = size) (hby : i.bytes = bytes) (hzs : z.cells.size = size) (hsz : 0 < size)
    (v : Value) (n : Nat) (xs : List Value) (hs : a.eval s = v) (hown : w.ownsRow base e size v n xs)
    (ad : Addr) (m c : Nat) (news : List Value) (hx : a.eval x = .slice (some ad) m c) (hl : news.length = m * size) (hnews : ∀ j u, news[j]? = some u → w.cell? (ad.add j) = some u) (h1 : ∀ u ∈ news, u.oneCell' = true)
    (h63 : n + m ≤ maxLen) (hbytes : (n + m) * bytes ≤ 140737488355328) (hbase : base ≤ w.heap.size)
    (h : ∀ v' w', w'.ownsRow base e size v' (n + m) (xs ++ news) → w.grownBy w' v.ownBlock → (v'.ownBlock = v.ownBlock ∨ v'.ownBlock = some w.heap.size) → K (a.put o.dst v') w') :
    if Region.wanted o (yielded ops a.tmps) = true then Oper.wp Try.prog o a w K Q else E := by
  have hw : Region.wanted o (yielded ops a.tmps) = true := by simp [Region.wanted, hgd]
  rw [if_pos hw]
  obtain ⟨v', w', hr, h2, h3, h4, h5⟩ := run_append_own_at (P := Try.prog) w base t o.type e i z size bytes ht hi hz hsize hby hzs hsz v n xs hown ad m c news hl hnews h1 h63 hbytes hbase
  unfold Oper.wp execOp
  simp only [ho, resolve, invoke, builtin, Sem.run_bind, Sem.run_pure, Result.andThen_ok, List.map_toArray, List.map_cons, List.map_nil, hs, hx, hr]
  exact h v' w' h2 h3 h5
/-- The memory of reduced while it tells the rows anew. -/
structure RdB (w5 : World) (B nb k : Nat) (TT V U : Value) (n' : Nat) (RE : List (List Int)) (K : List (List Int)) (vs : List Value) (W : World) : Prop where
  own : W.ownsRow B 30 1 U K.length vs
  len : vs.length = K.length
  rows : RowsX (fun b => b < B) W U K vs
  cap : AllCap vs
  nx : W.heap[nb]? = some (.cells #[TT, V, .int .i64 n', U] 55 (0, 0))
  size : w5.heap.size ≤ W.heap.size
  same : ∀ b, b < B → b ≠ nb → W.heap[b]? = w5.heap[b]?
  bel : Below nb w5 W
  rs : K = (RE.take k).map fun r => r.map (plcI RE)
def plcL (ls : List (List Int)) (n : Nat) : List Int := (List.range n).map fun p => plcA ls n p
theorem plcL_len (ls : List (List Int)) (n : Nat) : (plcL ls n).length = n := by unfold plcL; simp
theorem plcL_get {ls : List (List Int)} {n p : Nat} (h : p < n) : (plcL ls n)[p]? = some (plcA ls n p) := by
  unfold plcL
  rw [List.getElem?_map, List.getElem?_range h]; rfl
theorem plcL_ints {w : World} {pb n : Nat} {ls : List (List Int)} (h : w.heap[pb]? = some (celO 3 n fun p => .int .i64 (plcA ls n p))) (hn : n ≤ 4000) : IntsAt w w.heap.size (.slice (some ⟨pb, 0, none⟩) n n) (plcL ls n) :=
  (cel_intsN15 (N := fun b => b < w.heap.size) (l := plcL ls n) h (plcL_len ls n) (by omega) (fun j x hx => by
    have hj := (List.getElem?_eq_some_iff.1 hx).1
    rw [plcL_len] at hj
    rw [plcL_get hj] at hx
    injection hx with hx
    rw [hx]) (size_of_block h)).ints (fun _ h => h)
theorem at_plc {ls : List (List Int)} {n : Nat} {r : List Int} (hr : r ∈ ls) (hl : ∀ x, x ∈ r → 0 ≤ x ∧ x < n) : atL (plcL ls n) r = r.map (plcI ls) := by
  unfold atL
  refine List.map_congr_left fun x hx => ?_
  obtain ⟨h0, h1⟩ := hl x hx
  obtain ⟨k, rfl⟩ := Int.eq_ofNat_of_zero_le h0
  rw [Int.toNat_natCast, List.getD_eq_getElem?_getD, plcL_get (by omega)]
  show plcA ls n k = plcI ls k
  unfold plcA plcI
  rw [if_pos ⟨by omega, usd_iff.2 ⟨r, hr, hx⟩⟩, Int.toNat_natCast]
/-- What is told anew, as a matrix. -/
theorem RowsX.matN15 {w : World} {B : Nat} {V : Value} {K : List (List Int)} {vs : List Value} (h : RowsX (fun b => b < B) w V K vs) (ho : w.ownsRow B 30 1 V K.length vs) : MatN w (fun b => B ≤ b ∧ b < w.heap.size) V K := by
  rcases ho.2 with ⟨rfl, h0⟩ | ⟨g, cap, cur, rfl, hg, hgg, h1, h2, h3, h4⟩
  · have : K = [] := List.eq_nil_of_length_eq_zero h0
    subst this
    exact ⟨none, 0, rfl, by decide, fun h => absurd h (by simp)⟩
  · have hm : maxLen = 9223372036854775807 := rfl
    refine ⟨_, cap, rfl, by omega, fun _ => ⟨g, 0, rfl, ⟨hg, size_of_block hgg⟩, fun j l hj => ?_⟩⟩
    obtain ⟨v, hv, hi⟩ := h j l hj
    refine ⟨v, ?_, hi.keep (fun _ _ => rfl) (fun b hb => ⟨by have := hb.1; omega, hb.2.1⟩)⟩
    rw [cell_of_block hgg]
    rw [← h4, List.getElem?_take] at hv
    split at hv
    · simpa using hv
    · cases hv
theorem takeL15 {P : Program} {l : List Oper} {n : Nat} {S : World → Prop} {Q : Exit → Act → World → Prop} {i k : Nat} {o : Oper} {v : Value} {done : Array Bool} {a : Act} {w : World} (hF : tailOk l n = true) (ho : l[i]? = some o) (hi : decide (i < n) = true)
    (hf : Region.free .any l.toArray done i = true) (hr : (Region.ready .any l.toArray done).contains i = true)
    (hQ : ∀ c a w, Q (.panic c) (a.put o.dst v) w → Q (.panic c) a w) (hy : YieldsIf P l.toArray S o v a) (hS : S w)
    (h : HeadH P .any l.toArray Q S n (TailL P l Q n) k (done.setIfInBounds i true) (a.put o.dst v) w) : HeadH P .any l.toArray Q S n (TailL P l Q n) (k + 1) done a w :=
  HeadH.take hF (by simpa using ho) hi hf hr hQ hy hS h
theorem oneL15 {P : Program} {l : List Oper} {n : Nat} {S : World → Prop} {Q : Exit → Act → World → Prop} {i k : Nat} {o : Oper} {done : Array Bool} {a : Act} {w : World} (hr : Region.ready .any l.toArray done = [i]) (hi : decide (i < n) = true) (ho : l[i]? = some o)
    (h : ∀ K' : Act → World → Prop, Shut (∀ a w, S w → (S w → HeadH P .any l.toArray Q S n (TailL P l Q n) k (done.setIfInBounds i true) a w) → K' a w) → if Region.wanted o (yielded l.toArray a.tmps) = true then Oper.wp P o a w K' Q else K' (a.put o.dst undef) w) :
    HeadH P .any l.toArray Q S n (TailL P l Q n) (k + 1) done a w :=
  HeadH.one hr hi (by simpa using ho) h
/-- The memory of reduced while it names the columns. -/
structure RdA (w4 : World) (B nb pb n k : Nat) (TT V : Value) (RE : List (List Int)) (nm K : List Int) (W : World) : Prop where
  own : W.ownsRow B 3 1 V K.length (intI K)
  nx : W.heap[nb]? = some (.cells #[TT, V, .int .i64 0, .slice none 0 0] 55 (0, 0))
  pl : W.heap[pb]? = some (celO 3 n fun p => .int .i64 (plcA RE k p))
  size : w4.heap.size ≤ W.heap.size
  same : ∀ b, b < B → b ≠ nb → b ≠ pb → W.heap[b]? = w4.heap[b]?
  bel : Below nb w4 W
  nms : K = atL nm (flgL (usdT RE) k)
theorem plcA_0 {ls : List (List Int)} (p : Nat) : plcA ls 0 p = 0 := by unfold plcA; rw [if_neg (by omega)]
theorem plcA_skip {ls : List (List Int)} {k : Nat} (h : usdT ls (k : Int) = false) (p : Nat) : plcA ls (k + 1) p = plcA ls k p := by
  unfold plcA
  by_cases e : p = k
  · subst e
    rw [if_neg (by rw [h]; simp), if_neg (by omega)]
  · by_cases e2 : p < k
    · by_cases e3 : usdT ls (p : Int) = true
      · rw [if_pos ⟨by omega, e3⟩, if_pos ⟨e2, e3⟩]
      · rw [if_neg (fun h => e3 h.2), if_neg (fun h => e3 h.2)]
    · rw [if_neg (by omega), if_neg (by omega)]
theorem plcA_put {ls : List (List Int)} {k : Nat} (h : usdT ls (k : Int) = true) (p : Nat) : plcA ls (k + 1) p = if p = k then ((crdT k (usdT ls) : Nat) : Int) else plcA ls k p := by
  unfold plcA
  by_cases e : p = k
  · subst e
    rw [if_pos ⟨by omega, h⟩, if_pos rfl]
  · rw [if_neg e]
    by_cases e2 : p < k
    · by_cases e3 : usdT ls (p : Int) = true
      · rw [if_pos ⟨by omega, e3⟩, if_pos ⟨e2, e3⟩]
      · rw [if_neg (fun h => e3 h.2), if_neg (fun h => e3 h.2)]
    · rw [if_neg (by omega), if_neg (by omega)]
theorem nms_skip {ls : List (List Int)} {nm : List Int} {k : Nat} (h : usdT ls (k : Int) = false) : atL nm (flgL (usdT ls) (k + 1)) = atL nm (flgL (usdT ls) k) := by
  rw [flg_succF, if_neg (by rw [h]; simp), List.append_nil]
theorem nms_put {ls : List (List Int)} {nm : List Int} {k : Nat} {x : Int} (h : usdT ls (k : Int) = true) (hx : nm[k]? = some x) : atL nm (flgL (usdT ls) (k + 1)) = atL nm (flgL (usdT ls) k) ++ [x] := by
  rw [flg_succF, if_pos h, atL_append]
  congr 1
  show [nm.getD (k : Int).toNat 0] = [x]
  rw [Int.toNat_natCast, List.getD_eq_getElem?_getD, hx]; rfl
set_option maxHeartbeats 8000000 in
set_option maxRecDepth 100000 in
theorem reduced15_any (c : Cho) (tv nv rv : Value) (w : World) (hc : ChoN w (fun b => b < w.heap.size) tv nv rv c) (hr : rightM c.nm.length c.ls = true) (hl : c.t.length + c.ls.length ≤ 4000) :
    Calls Try.prog 54 #[chv tv nv c.nm.length rv] w fun e w' => ∃ tv' nv' rv', e = .returned (chv tv' nv' (redC c).nm.length rv') ∧ ChoN w' (fun b => w.heap.size ≤ b ∧ b < w'.heap.size) tv' nv' rv' (redC c) ∧ Below w.heap.size w w' := by
  have hB0 := two_below14 w (chb tv nv c.nm.length rv) (.cells #[.slice none 0 0, .slice none 0 0, .int .i64 0, .slice none 0 0] 55 (0, 0))
  have ht := two_made14 w (chb tv nv c.nm.length rv) (.cells #[.slice none 0 0, .slice none 0 0, .int .i64 0, .slice none 0 0] 55 (0, 0))
  have hsz : ((w.alloc (chb tv nv c.nm.length rv)).alloc (.cells #[.slice none 0 0, .slice none 0 0, .int .i64 0, .slice none 0 0] 55 (0, 0))).heap.size = w.heap.size + 2 := by simp
  have hc2 := hc.keep (w' := (w.alloc (chb tv nv c.nm.length rv)).alloc (.cells #[.slice none 0 0, .slice none 0 0, .int .i64 0, .slice none 0 0] 55 (0, 0))) (fun b hb => hB0.block b hb) hB0.size (N' := fun b => b < w.heap.size) (fun b hb => hb)
  obtain ⟨hn0, hn4, hri⟩ := right_iff.1 hr
  have HR := reduce_good14 c.nm.length rv c.ls _ hc2.ls.here hc2.cap (by omega) hr
  have hriR : Hid (∀ r, r ∈ (redL c.nm.length c.ls).2 → risL c.nm.length r) := Lib.hid ((right_iff.1 (rdR_right hr)).2.2)
  have htf := Lib.hid (tak_few hr)
  obtain ⟨At, ct, rfl, -, -⟩ := hc.t
  obtain ⟨An, cn, rfl, -, -⟩ := hc.nm
  obtain ⟨Ar, cr, rfl, -, -⟩ := hc.ls
  generalize hRE : (redL c.nm.length c.ls).2 = RE at *
  generalize hTK : takL c.nm.length c.ls = TK at *
  generalize hn : c.nm.length = n at *
  unfold chv
  unfold mtv at HR
  unfold chb at *
  obtain ⟨a0, a1, a2, a3, -⟩ := now4 ht.1 rfl
  go_enter Try.func54, Try.ntmps54
  go_wp2_with fail
  refine HR.mono ?_
  rintro e wR ⟨u, r, rfl, hu, hrM, hcapR, hbR⟩
  generalize hw0 : (w.alloc _).alloc _ = w0 at *
  clear hw0
  have hBR := hB0.trans (hbR.mono hB0.size)
  have hsR : w.heap.size + 2 ≤ wR.heap.size := by have := hbR.size; omega
  have bx := keep_blk hbR ht.1
  have br := keep_blk hbR ht.2
  have hcR := hc2.keep (w' := wR) (fun b hb => hbR.block b (by omega)) hbR.size (N' := fun b => b < w.heap.size) (fun b hb => hb)
  obtain ⟨Au, cu, rfl, -, -⟩ := id hu
  obtain ⟨Ap, cp, rfl, -, -⟩ := id hrM
  clear HR a0 a1 a2 a3 hbR hB0 ht hc2 hsz
  -- the rest's box
  have e1 := heap_alloc_new wR (.cells #[.int .i64 n, .slice Ap RE.length cp] 24 (0, 0))
  have hb1 := below_alloc1 wR (.cells #[.int .i64 n, .slice Ap RE.length cp] 24 (0, 0))
  have bx1 := keep_blk hb1 bx
  have br1 := keep_blk hb1 br
  have hz1 : (wR.alloc (.cells #[.int .i64 n, .slice Ap RE.length cp] 24 (0, 0))).heap.size = wR.heap.size + 1 := World.size_alloc _ _
  have HC := called15_any (.slice At c.t.length ct) (.slice An n cn) (.slice Ar c.ls.length cr) (.slice Au TK.length cu) n c.t c.nm TK _ (hcR.below hb1).t.here (hcR.below hb1).nm.here ((hu.below hb1).more hb1.size) (by rw [← hTK, hn]; exact tak_range) (by omega) (by have := htf.out; omega) ⟨_, _, _, rfl⟩
  obtain ⟨a0, a1, a2, a3, -⟩ := now4 bx1 rfl
  unfold chv at HC
  generalize hTT : c.t ++ atL c.nm TK = TT at *
  have hTTH := Lib.hid hTT
  clear hTT
  go_wp2_with fail
  generalize hw1 : wR.alloc _ = w1 at *
  refine HC.mono ?_
  rintro e w2 ⟨tk, rfl, hot, hb2⟩
  clear hw1
  obtain ⟨A2, c2, rfl⟩ := own_form hot
  have hB2 := hb1.trans (hb2.mono (by omega))
  have bx2 := keep_blk hb2 bx1
  have br2 := keep_blk hb2 br1
  have e2 := keep_blk hb2 e1
  have hs2 := hb2.size
  clear HC a0 a1 a2 a3 bx1 br1 e1 hb1 hb2
  -- next and places
  have hmk := fun w => make_ints14 n (by omega) w
  have f0 := heap_alloc_new w2 (.cells #[.slice A2 TT.length c2, .slice none 0 0, .int .i64 0, .slice none 0 0] 55 (0, 0))
  have hb3 := below_alloc1 w2 (.cells #[.slice A2 TT.length c2, .slice none 0 0, .int .i64 0, .slice none 0 0] 55 (0, 0))
  have bx3 := keep_blk hb3 bx2
  have br3 := keep_blk hb3 br2
  have e3 := keep_blk hb3 e2
  have hs3 : (w2.alloc (.cells #[.slice A2 TT.length c2, .slice none 0 0, .int .i64 0, .slice none 0 0] 55 (0, 0))).heap.size = w2.heap.size + 1 := World.size_alloc _ _
  obtain ⟨a0, a1, -⟩ := now2 e3 rfl
  have g0 := heap_alloc_new (w2.alloc (.cells #[.slice A2 TT.length c2, .slice none 0 0, .int .i64 0, .slice none 0 0] 55 (0, 0))) (celO 3 n fun _ => .int .i64 0)
  rw [hs3] at g0
  have hb4 := below_alloc1 (w2.alloc (.cells #[.slice A2 TT.length c2, .slice none 0 0, .int .i64 0, .slice none 0 0] 55 (0, 0))) (celO 3 n fun _ => .int .i64 0)
  have e4 := keep_blk hb4 e3
  obtain ⟨c0, c1, -⟩ := now2 e4 rfl
  have HK := fun (X : World) (h : Below w2.heap.size w2 X) => counts15_any n (.slice Ap RE.length cp) RE X ((hrM.below (hB2.trans (h.mono (by omega)))).more (hB2.trans (h.mono (by omega))).size) (by omega) (by have := htf.out; omega) hriR.out
  unfold mtv at HK
  go_wp2_with fail
  refine (HK _ (hb3.trans (hb4.mono hb3.size))).mono ?_
  rintro e w4 ⟨qb, rfl, hq, hct, hb5⟩
  generalize hw3 : (w2.alloc _).alloc _ = w3 at *
  have hs4 : w3.heap.size = w2.heap.size + 2 := by rw [← hw3]; simp
  clear hw3
  have f1 := keep_blk hb5 (keep_blk hb4 f0)
  have g1 := keep_blk hb5 g0
  have bx4 := keep_blk hb5 (keep_blk hb4 bx3)
  have br4 := keep_blk hb5 (keep_blk hb4 br3)
  have e5 := keep_blk hb5 e4
  have hot4 := owns_below (owns_below (owns_below hot hb3) hb4) hb5
  have hotl := Lib.hid (fun k hk => (hot.lt k hk).2)
  have hB4 := hB2.trans ((hb3.trans ((hb4.mono hb3.size).trans (hb5.mono (by omega)))).mono (by omega : wR.heap.size ≤ w2.heap.size))
  have hs5 := hb5.size
  clear HK a0 a1 c0 c1 hb3 hb4 hb5 f0 g0 bx2 bx3 br2 br3 e2 e3 e4 hs3 hot
  have hpl0 : w4.heap[w2.heap.size + 1]? = some (celO 3 n fun p => .int .i64 (plcA RE 0 p)) := by
    rw [g1]
    exact congrArg some (celO_ext fun p _ => by rw [plcA_0])
  have hA0 : RdA w4 w4.heap.size w2.heap.size (w2.heap.size + 1) n 0 (.slice A2 TT.length c2) (.slice none 0 0) RE c.nm [] w4 := ⟨World.ownsRow_nil _ _ _ _, f1, hpl0, Nat.le_refl _, fun _ _ _ _ => rfl, Below.refl _ _, rfl⟩
  obtain ⟨i0, hi0, hz0, hzz1, hz2⟩ := info_parts Try.infoInt15
  have hqlt := size_of_block hct
  have hnmN := Lib.hid (hcR.nm)
  have hcR := Lib.hid hcR
  have hkeepS := Lib.hid (And.intro bx4 (And.intro br4 (And.intro e5 hot4)))
  have hfin4 := Lib.hid hB4
  go_wp2
  generalize hNB : w2.heap.size = nb at *
  clear hNB
  go_loopw [8, 9, 29] (fun _ _ t wr => ∃ (k : Nat) (V : Value) (K : List Int), k ≤ n ∧ t = .int .i64 k ∧ RdA w4 w4.heap.size nb (nb + 1) n k (.slice A2 TT.length c2) V RE c.nm K wr) (fun _ _ t _ => n - (intOf t).toNat)
  case atStart => exact ⟨0, _, [], by omega, rfl, hA0⟩
  case round =>
    clear hA0 hpl0 f1 g1
    obtain ⟨k, V, K, hk, rfl, hA⟩ := hrel
    obtain ⟨AV, cV, rfl⟩ := own_form hA.own
    have hct2 := (hA.same qb hqlt (by omega) (by omega)).trans hct
    by_cases hlt : k < n
    · obtain ⟨y0, -⟩ := cel_cell hct2 hlt
      have k0 : (0 : Int) ≤ (k : Int) := by omega
      have k1 : (k : Int) < (n : Int) := by omega
      cases hu2 : usdT RE (k : Int) with
      | false =>
        have hcz : cntC RE k = 0 := by
          refine Nat.eq_zero_of_not_pos fun h => ?_
          rw [cnt_usd.1 h] at hu2
          cases hu2
        have hd : ¬ (0 : Int) < ((cntC RE k : Nat) : Int) := by omega
        have hA2 : RdA w4 w4.heap.size nb (nb + 1) n (k + 1) (.slice A2 TT.length c2) (.slice AV K.length cV) RE c.nm K wr := ⟨hA.own, hA.nx, by
          rw [hA.pl]
          exact congrArg some (celO_ext fun p _ => by rw [plcA_skip hu2]), hA.size, hA.same, hA.bel, by rw [nms_skip hu2]; exact hA.nms⟩
        clear hA hct2 hcz
        generalize cntC RE k = cn9 at *
        go_wp2
        go_roundw
        case rel => exact ⟨k + 1, _, K, by omega, by go_num, hA2⟩
        case measure => simp [intOf]; omega
      | true =>
        have hd : (0 : Int) < ((cntC RE k : Nat) : Int) := by have := cnt_usd.2 hu2; omega
        have hKl : K.length = crdT k (usdT RE) := by rw [hA.nms, atL_len, flg_len]
        have hK4 : K.length ≤ 4000 := by have := crd_all (usdT RE) k; omega
        obtain ⟨x, hx⟩ : ∃ x, c.nm[k]? = some x := ⟨_, List.getElem?_eq_getElem (by omega)⟩
        obtain ⟨A5, c5, e6, -, hcc⟩ := hnmN.out
        injection e6 with e6 e7 e8
        subst e6
        clear e7 e8
        obtain ⟨bn, on, rfl, hbn, hcc2⟩ := hcc (by omega)
        have z0 := hcc2 k x hx
        have hbw : bn < w4.heap.size := by omega
        have z1 : wr.cell? ⟨bn, on + k, none⟩ = some (.int .i64 x) := by
          rw [World.cell?_of_block (w := w4) (a := ⟨bn, on + k, none⟩) (hA.same bn hbw (by omega) (by omega)), World.cell?_of_block (w := wR) (a := ⟨bn, on + k, none⟩) (hfin4.out.block bn (by omega))]
          exact z0
        have hbx : wr.heap[w.heap.size]? = some (.cells #[.slice At c.t.length ct, .slice (some ⟨bn, on, none⟩) n cn, .int .i64 n, .slice Ar c.ls.length cr] 55 (0, 0)) := (hA.same _ (by omega) (by omega) (by omega)).trans hkeepS.out.1
        have hpl2 : (wr.setCell ⟨nb + 1, k, none⟩ (.int .i64 K.length)).heap[nb + 1]? = some (celO 3 n fun p => .int .i64 (plcA RE (k + 1) p)) := by
          refine (cel_set hA.pl _).trans (congrArg some (celO_ext fun p _ => ?_))
          rw [plcA_put hu2, hKl]
          split <;> rfl
        have hVn : (Value.slice AV K.length cV).ownBlock ≠ some (nb + 1) := fun e => by have := (hA.own.lt _ e).1; omega
        have hown2 := own_set hA.own hVn k (.int .i64 K.length)
        have hnx2 := keep_set (a := ⟨nb + 1, k, none⟩) (u := .int .i64 K.length) (by show nb ≠ nb + 1; omega) hA.nx
        have hbx2 := keep_set (a := ⟨nb + 1, k, none⟩) (u := .int .i64 K.length) (by show w.heap.size ≠ nb + 1; omega) hbx
        have z2 : (wr.setCell ⟨nb + 1, k, none⟩ (.int .i64 K.length)).cell? ⟨bn, on + k, none⟩ = some (.int .i64 x) := by
          rw [World.cell?_of_block (w := wr) (a := ⟨bn, on + k, none⟩) (Below.heap_setCell _ _ _ _ (by show bn ≠ nb + 1; omega))]
          exact z1
        have hsame2 := Lib.hid (fun b (h1 : b < w4.heap.size) (h2 : b ≠ nb) (h3 : b ≠ nb + 1) => (Below.heap_setCell wr ⟨nb + 1, k, none⟩ (.int .i64 K.length) b h3).trans (hA.same b h1 h2 h3))
        have hbel2 := hA.bel.setCell (p := ⟨nb + 1, k, none⟩) (by show nb ≤ nb + 1; omega) (.int .i64 K.length)
        have hsz2 : w4.heap.size ≤ (wr.setCell ⟨nb + 1, k, none⟩ (.int .i64 K.length)).heap.size := by have := hA.size; simpa [World.setCell] using this
        have hnms := Lib.hid (nms_put (nm := c.nm) hu2 hx)
        have hKn := Lib.hid hA.nms
        obtain ⟨p0, pf⟩ := cel_cell hA.pl hlt
        obtain ⟨n0, n1, n2, n3, nf⟩ := now4 hA.nx rfl
        clear hA hct2 hcc hcc2 z0 z1 hbx hx hnmN hu2 hKl
        go_wp2
        clear p0 pf n0 n1 n2 n3 nf y0 hd
        generalize hW1 : wr.setCell ⟨nb + 1, k, none⟩ (.int .i64 K.length) = W1 at *
        clear hW1
        have a1 := fun W_ (h : Below w4.heap.size W1 W_) => (now4 ((h.block _ (by omega)).trans hbx2) rfl).2.1
        have n1 := fun W_ (h : Below w4.heap.size W1 W_) => (now4 ((h.block _ (by omega)).trans hnx2) rfl).2.1
        have z3 := fun W_ (h : Below w4.heap.size W1 W_) => (h.cell (p := ⟨bn, on + k, none⟩) hbw).trans z2
        have hoX := (owns_below hown2 (Below.refl _ W1).drew).alloc (.cells #[.int .i64 x] 3 (0, 0))
        have hnxX : (W1.drew.alloc (.cells #[.int .i64 x] 3 (0, 0))).heap[nb]? = _ := keep_alloc (w := W1.drew) hnx2
        have hplX : (W1.drew.alloc (.cells #[.int .i64 x] 3 (0, 0))).heap[nb + 1]? = _ := keep_alloc (w := W1.drew) hpl2
        have hd1 : W1.drew.heap.size = W1.heap.size := rfl
        have hnb1 := size_of_block hnx2
        have hnb2 := size_of_block hpl2
        have hwn : w.heap.size < w4.heap.size := by omega
        have hnb4 : nb + 1 < w4.heap.size := by omega
        refine wp_region_held_tail 9 (fun W_ => Below w4.heap.size W1 W_) (by kernel_rfl) (by kernel_rfl) (Below.refl _ W1).drew (fun hF hHeld => ?_)
        refine takeL15 (i := 0) (v := ?_) hF rfl (by kernel_rfl) (by kernel_rfl) (by kernel_rfl) (fun _ _ _ h => h) (Or.inl ⟨by rfl, ?_⟩) (by assumption) ?_
        rotate_left 1
        · intro w_ hSw
          go_simp
          try with_reducible rfl
        try simp only [Act.put, List.setIfInBounds_toArray, List.set_cons_zero, List.set_cons_succ]
        refine takeL15 (i := 1) (v := ?_) hF rfl (by kernel_rfl) (by kernel_rfl) (by kernel_rfl) (fun _ _ _ h => h) (Or.inl ⟨by rfl, ?_⟩) (by assumption) ?_
        rotate_left 1
        · intro w_ hSw
          have q_n1 := n1 w_ hSw
          go_simp
          try with_reducible rfl
        try simp only [Act.put, List.setIfInBounds_toArray, List.set_cons_zero, List.set_cons_succ]
        refine takeL15 (i := 2) (v := ?_) hF rfl (by kernel_rfl) (by kernel_rfl) (by kernel_rfl) (fun _ _ _ h => h) (Or.inl ⟨by rfl, ?_⟩) (by assumption) ?_
        rotate_left 1
        · intro w_ hSw
          go_simp
          try with_reducible rfl
        try simp only [Act.put, List.setIfInBounds_toArray, List.set_cons_zero, List.set_cons_succ]
        refine takeL15 (i := 3) (v := ?_) hF rfl (by kernel_rfl) (by kernel_rfl) (by kernel_rfl) (fun _ _ _ h => h) (Or.inl ⟨by rfl, ?_⟩) (by assumption) ?_
        rotate_left 1
        · intro w_ hSw
          have q_a1 := a1 w_ hSw
          go_simp
          try with_reducible rfl
        try simp only [Act.put, List.setIfInBounds_toArray, List.set_cons_zero, List.set_cons_succ]
        refine takeL15 (i := 4) (v := ?_) hF rfl (by kernel_rfl) (by kernel_rfl) (by kernel_rfl) (fun _ _ _ h => h) (Or.inl ⟨by rfl, ?_⟩) (by assumption) ?_
        rotate_left 1
        · intro w_ hSw
          go_simp
          try with_reducible rfl
        try simp only [Act.put, List.setIfInBounds_toArray, List.set_cons_zero, List.set_cons_succ]
        refine takeL15 (i := 5) (v := ?_) hF rfl (by kernel_rfl) (by kernel_rfl) (by kernel_rfl) (fun _ _ _ h => h) (Or.inl ⟨by rfl, ?_⟩) (by assumption) ?_
        rotate_left 1
        · intro w_ hSw
          go_simp
          try with_reducible rfl
        try simp only [Act.put, List.setIfInBounds_toArray, List.set_cons_zero, List.set_cons_succ]
        refine takeL15 (i := 6) (v := ?_) hF rfl (by kernel_rfl) (by kernel_rfl) (by kernel_rfl) (fun _ _ _ h => h) (Or.inl ⟨by rfl, ?_⟩) (by assumption) ?_
        rotate_left 1
        · intro w_ hSw
          have q_z3 := z3 w_ hSw
          go_simp
          try with_reducible rfl
        try simp only [Act.put, List.setIfInBounds_toArray, List.set_cons_zero, List.set_cons_succ]
        refine oneL15 (i := 7) (by kernel_rfl) (by kernel_rfl) rfl (fun _ hK => ?_)
        go_simp
        refine hK.out _ _ (hHeld.alloc (by simpa using hsz2) _) (fun hHeld => ?_)
        clear hK
        try simp only [Act.put, List.setIfInBounds_toArray, List.set_cons_zero, List.set_cons_succ]
        refine oneL15 (i := 8) (by kernel_rfl) (by kernel_rfl) rfl (fun _ hK => ?_)
        refine step_append_own15 rfl _ _ 30 rfl w4.heap.size 3 i0 (.int .i64 0) 1 8 Try.underlying30 hi0 hz0 hzz1 hz2 rfl (by decide) _ _ _ rfl hoX ⟨W1.heap.size, 0, none⟩ 1 1 [.int .i64 x] rfl rfl one_new13 (fun u hu => by rw [List.mem_singleton.1 hu]; rfl) ?_ ?_ ?_ ?_
        · unfold maxLen; omega
        · omega
        · simp; omega
        intro v8 w8 ho8 hg8 hloc
        have hHX := hHeld
        have hnx8 := (hg8.block _ (by simp; omega) (fun e => by have := (hoX.lt _ e.symm).1; omega)).trans (hnxX)
        refine hK.out _ _ (grown_below hoX hg8 hHeld (Nat.le_refl _) (by simp; omega)) (fun hHeld => ?_)
        clear hK
        try simp only [Act.put, List.setIfInBounds_toArray, List.set_cons_zero, List.set_cons_succ]
        refine ⟨by kernel_rfl, ?_⟩
        simp only [List.drop_succ_cons, List.drop_zero]
        obtain ⟨A8, c8, rfl⟩ := own_form ho8
        have hpl8 := (hg8.block (nb + 1) (by simp; omega) (fun e => by have := (hoX.lt _ e.symm).1; omega)).trans hplX
        have ho9 : w8.ownsRow w4.heap.size 3 1 (.slice A8 (K.length + 1) c8) (K ++ [x]).length (intI (K ++ [x])) := by
          rw [List.length_append, show intI (K ++ [x]) = intI K ++ [.int .i64 x] from List.map_append]
          exact ho8
        have hVn9 : (Value.slice A8 (K.length + 1) c8).ownBlock ≠ some nb := own_ne ho9 hnx8 (by decide)
        have hA9 : RdA w4 w4.heap.size nb (nb + 1) n (k + 1) (.slice A2 TT.length c2) (.slice A8 (K.length + 1) c8) RE c.nm (K ++ [x]) (w8.setCell ⟨nb, 1, none⟩ (.slice A8 (K.length + 1) c8)) :=
          ⟨own_set ho9 hVn9 1 _, by rw [block_setCell hnx8 _]; rfl, keep_set (by show nb + 1 ≠ nb; omega) hpl8, by have := hHeld.size; simp [World.setCell]; omega,
            fun b h1 h2 h3 => (Below.heap_setCell _ _ _ _ h2).trans ((hHeld.block b h1).trans (hsame2.out b h1 h2 h3)),
            (hbel2.trans (hHeld.mono (by omega))).setCell (p := ⟨nb, 1, none⟩) (Nat.le_refl _) _, by rw [hnms.out, ← hKn.out]⟩
        have hA9 := Lib.hid hA9
        obtain ⟨y0, y1, y2, y3, yf⟩ := now4 hnx8 rfl
        clear hoX hplX hnxX hHX hHeld hg8 hloc ho8 ho9 hpl8 hnx8 hpl2 hown2 hnx2 hbx2 z2 hsame2 hbel2 hnms hKn hsz2 a1 n1 z3 hVn9
        generalize K ++ [x] = K9 at *
        go_wp2
        go_roundw
        case rel => exact ⟨k + 1, _, K9, by omega, by go_num, hA9.out⟩
        case measure => simp [intOf]; omega
    · have e : k = n := by omega
      subst e
      have hkd : ¬ (k : Int) < (k : Int) := by omega
      have hnmsH := Lib.hid hA.nms
      have hKl : K.length = crdT k (usdT RE) := by rw [hA.nms, atL_len, flg_len]
      have hK4 : K.length ≤ 4000 := by have := crd_all (usdT RE) k; omega
      replace hKl := Lib.hid hKl
      obtain ⟨bx4, br4, e5, hot4⟩ := hkeepS.out
      have hnw := size_of_block hA.nx
      have bx5 := (hA.same _ (by omega) (by omega) (by omega)).trans bx4
      have br5 := (hA.same _ (by omega) (by omega) (by omega)).trans br4
      have e6 := (hA.same _ (by omega) (by omega) (by omega)).trans e5
      have hotk := own_same15 hot4 (fun g hg => by
        have h1 := (hot4.lt g hg).2
        have h2 := hotl.out g hg
        exact hA.same g h1 (by omega) (by omega))
      have hB5 : Below wR.heap.size wR wr := hfin4.out.trans (hA.bel.mono (by omega))
      -- the number of columns
      have hVn : (Value.slice AV K.length cV).ownBlock ≠ some nb := own_ne hA.own hA.nx (by decide)
      have hon : (Value.slice A2 TT.length c2).ownBlock ≠ some nb := own_ne hotk hA.nx (by decide)
      have k1 := own_set hA.own hVn 2 (.int .i64 K.length)
      have k2 := own_set hotk hon 2 (.int .i64 K.length)
      have k3 : (wr.setCell ⟨nb, 2, none⟩ (.int .i64 K.length)).heap[nb]? = some (.cells #[.slice A2 TT.length c2, .slice AV K.length cV, .int .i64 K.length, .slice none 0 0] 55 (0, 0)) := by
        rw [block_setCell hA.nx _]; rfl
      have k4 := keep_set (a := ⟨nb, 2, none⟩) (u := .int .i64 K.length) (by show nb + 1 ≠ nb; omega) hA.pl
      have k5 := keep_set (a := ⟨nb, 2, none⟩) (u := .int .i64 K.length) (by show wR.heap.size ≠ nb; omega) e6
      have k6 := keep_set (a := ⟨nb, 2, none⟩) (u := .int .i64 K.length) (by show w.heap.size + 1 ≠ nb; omega) br5
      have k7 := hB5.setCell (p := ⟨nb, 2, none⟩) (by show wR.heap.size ≤ nb; omega) (.int .i64 K.length)
      have k8 : w4.heap.size ≤ (wr.setCell ⟨nb, 2, none⟩ (.int .i64 K.length)).heap.size := by have := hA.size; simpa [World.setCell] using this
      obtain ⟨n0, n1, n2, n3, nf⟩ := now4 hA.nx rfl
      obtain ⟨r0, r1, -⟩ := now2 k5 rfl
      have hkk := Lib.hid (And.intro k1 (And.intro k2 (And.intro k3 (And.intro k4 (And.intro k6 k7)))))
      clear hA hct2 hkeepS hotk hB5 bx5 br5 e6 bx4 br4 e5 hot4 k1 k2 k3 k4 k5 k6 k7 hVn hon hcR hnmN
      go_wp2
      generalize wr.setCell ⟨nb, 2, none⟩ (.int .i64 K.length) = w5 at *
      obtain ⟨k1, k2, k3, k4, k6, k7⟩ := hkk.out
      clear n0 n1 n2 n3 nf r0 r1
      have hnw5 := size_of_block k3
      have hnb5 : nb + 1 < w5.heap.size := size_of_block k4
      have hC0 : RdB w5 w5.heap.size nb 0 (.slice A2 TT.length c2) (.slice AV K.length cV) (.slice none 0 0) K.length RE [] [] w5 := ⟨World.ownsRow_nil _ _ _ _, rfl, RowsX.nil _ _ _, AllCap.nil, k3, Nat.le_refl _, fun _ _ _ => rfl, Below.refl _ _, rfl⟩
      have hrM2 := Lib.hid hrM
      have hriH := hriR
      obtain ⟨j0, hj0, jz0, jz1, jz2⟩ := info_parts Try.infoInts
      have hRE4 : RE.length ≤ 4000 := by have := htf.out; omega
      clear k1 k2 k3 k4 k6 k7 hrM
      go_loopw [11, 61] (fun _ t wr => ∃ (j : Nat) (U : Value) (L : List (List Int)) (vs : List Value), j ≤ RE.length ∧ t = .int .i64 j ∧ RdB w5 w5.heap.size nb j (.slice A2 TT.length c2) (.slice AV K.length cV) U K.length RE L vs wr) (fun _ t _ => RE.length - (intOf t).toNat)
      case atStart => exact ⟨0, _, [], [], by omega, rfl, hC0⟩
      case round =>
        clear hC0
        obtain ⟨j, U, L, vs, hj, rfl, hC⟩ := hrel
        obtain ⟨AU, cU, rfl⟩ := own_form hC.own
        obtain ⟨k1, k2, k3, k4, k6, k7⟩ := hkk.out
        have hBw : Below wR.heap.size wR wr := k7.trans (hC.bel.mono (by omega))
        have hws := hC.size
        by_cases hlt : j < RE.length
        · obtain ⟨A6, c6, e6, -, hccM⟩ := hrM2.out
          injection e6 with e6 e7 e8
          subst e6
          clear e7 e8
          obtain ⟨bp, op, rfl, hBp, hcc⟩ := hccM (by omega)
          obtain ⟨r, hrj⟩ : ∃ r, RE[j]? = some r := ⟨_, List.getElem?_eq_getElem hlt⟩
          obtain ⟨ov, z0, hov⟩ := hcc j r hrj
          have z1 := (hBw.cell (p := ⟨bp, op + j, none⟩) hBp).trans z0
          have hrmem := List.mem_of_getElem? hrj
          have hris := hriH.out r hrmem
          have hpl := (hC.same (nb + 1) hnb5 (by omega)).trans k4
          have hLl : L.length = j := by rw [hC.rs, List.length_map, List.length_take]; omega
          have hL4 : L.length ≤ 4000 := by omega
          have hrl : r.length ≤ 4000 := by
            rcases ris_len hris with h | h
            · omega
            · rw [h]; decide
          have hd0 : Below wr.heap.size wr wr.drew := (Below.refl _ wr).drew
          have hdz : wr.drew.heap.size = wr.heap.size := rfl
          have HA := at15_any (.slice (some ⟨nb + 1, 0, none⟩) k k) ov (plcL RE k) r wr.drew ((plcL_ints hpl (by omega)).below hd0) (((hov.below hBw).more (by have := hBw.size; omega)).below hd0) (by rw [plcL_len]; exact hris.1) hrl
          rw [at_plc hrmem hris.1] at HA
          have hrs2 : Hid (L ++ [r.map (plcI RE)] = (RE.take (j + 1)).map fun r => r.map (plcI RE)) := Lib.hid (by
            rw [List.take_add_one, hrj, List.map_append, ← hC.rs]; rfl)
          obtain ⟨A3, c3, rfl, -, -⟩ := hov
          have hCH := Lib.hid hC
          have hown := hC.own
          have hUn : (Value.slice AU L.length cU).ownBlock ≠ some nb := fun e => by have := (hown.lt _ e).1; omega
          have hnx := hC.nx
          have hnbw := size_of_block hC.nx
          have n3 := fun W_ (h : Below w5.heap.size wr W_) => (now4 ((h.block _ hnw5).trans hnx) rfl).2.2.2.1
          have q0 : (0 : Int) ≤ (j : Int) := by omega
          have q1 : (j : Int) < (RE.length : Int) := by omega
          clear hC hkk hriH hrM2 hccM hcc z0 hrj hrmem hris hpl k1 k2 k3 k4 k6 k7 hLl hnx
          generalize hR9 : r.map (plcI RE) = r9 at *
          clear hR9
          go_wp2
          refine wp_region_held_tail 8 (fun W_ => Below w5.heap.size wr W_) (by kernel_rfl) (by kernel_rfl) (Below.refl _ wr).drew (fun hF hHeld => ?_)
          refine takeL15 (i := 0) (v := ?_) hF rfl (by kernel_rfl) (by kernel_rfl) (by kernel_rfl) (fun _ _ _ h => h) (Or.inl ⟨by rfl, ?_⟩) (by assumption) ?_
          rotate_left 1
          · intro w_ hSw
            go_simp
            try with_reducible rfl
          try simp only [Act.put, List.setIfInBounds_toArray, List.set_cons_zero, List.set_cons_succ]
          refine takeL15 (i := 1) (v := ?_) hF rfl (by kernel_rfl) (by kernel_rfl) (by kernel_rfl) (fun _ _ _ h => h) (Or.inl ⟨by rfl, ?_⟩) (by assumption) ?_
          rotate_left 1
          · intro w_ hSw
            go_simp
            try with_reducible rfl
          try simp only [Act.put, List.setIfInBounds_toArray, List.set_cons_zero, List.set_cons_succ]
          refine takeL15 (i := 2) (v := ?_) hF rfl (by kernel_rfl) (by kernel_rfl) (by kernel_rfl) (fun _ _ _ h => h) (Or.inl ⟨by rfl, ?_⟩) (by assumption) ?_
          rotate_left 1
          · intro w_ hSw
            have q_n3 := n3 w_ hSw
            go_simp
            try with_reducible rfl
          try simp only [Act.put, List.setIfInBounds_toArray, List.set_cons_zero, List.set_cons_succ]
          refine takeL15 (i := 3) (v := ?_) hF rfl (by kernel_rfl) (by kernel_rfl) (by kernel_rfl) (fun _ _ _ h => h) (Or.inl ⟨by rfl, ?_⟩) (by assumption) ?_
          rotate_left 1
          · intro w_ hSw
            go_simp
            try with_reducible rfl
          try simp only [Act.put, List.setIfInBounds_toArray, List.set_cons_zero, List.set_cons_succ]
          refine takeL15 (i := 4) (v := ?_) hF rfl (by kernel_rfl) (by kernel_rfl) (by kernel_rfl) (fun _ _ _ h => h) (Or.inl ⟨by rfl, ?_⟩) (by assumption) ?_
          rotate_left 1
          · intro w_ hSw
            go_simp
            try with_reducible rfl
          try simp only [Act.put, List.setIfInBounds_toArray, List.set_cons_zero, List.set_cons_succ]
          refine oneL15 (i := 5) (by kernel_rfl) (by kernel_rfl) rfl (fun _ hK => ?_)
          go_simp
          refine HA.mono ?_
          rintro e X5 ⟨v5, rfl, hv5, hb5⟩
          obtain ⟨A9, c9, rfl⟩ := own_form hv5
          have hs5 := hb5.size
          try go_simp
          refine hK.out _ _ (hHeld.trans (hb5.mono (by omega))) (fun hHeld => ?_)
          clear hK
          try simp only [Act.put, List.setIfInBounds_toArray, List.set_cons_zero, List.set_cons_succ]
          refine oneL15 (i := 6) (by kernel_rfl) (by kernel_rfl) rfl (fun _ hK => ?_)
          have hoX := (owns_below (owns_below hown hd0) hb5).alloc (.cells #[.slice A9 r9.length c9] 30 (0, 0))
          go_simp
          refine hK.out _ _ (hHeld.alloc (by omega) _) (fun hHeld => ?_)
          clear hK
          try simp only [Act.put, List.setIfInBounds_toArray, List.set_cons_zero, List.set_cons_succ]
          refine oneL15 (i := 7) (by kernel_rfl) (by kernel_rfl) rfl (fun _ hK => ?_)
          refine step_append_own15 rfl _ _ 22 rfl w5.heap.size 30 j0 (.slice none 0 0) 1 24 Try.underlying22 hj0 jz0 jz1 jz2 rfl (by decide) _ _ _ rfl hoX ⟨X5.heap.size, 0, none⟩ 1 1 [.slice A9 r9.length c9] rfl rfl one_new13 (fun u hu => by rw [List.mem_singleton.1 hu]; rfl) ?_ ?_ ?_ ?_
          · unfold maxLen; omega
          · omega
          · simp; omega
          intro v8 w8 ho8 hg8 hloc
          refine hK.out _ _ (grown_below hoX hg8 hHeld (Nat.le_refl _) (by simp; omega)) (fun hHeld => ?_)
          clear hK
          try simp only [Act.put, List.setIfInBounds_toArray, List.set_cons_zero, List.set_cons_succ]
          refine ⟨by kernel_rfl, ?_⟩
          simp only [List.drop_succ_cons, List.drop_zero]
          obtain ⟨A8, c8, rfl⟩ := own_form ho8
          have hC := hCH.out
          have hnx8 := (hg8.block nb (by simp; have := hb5.size; omega) (fun e => hUn e.symm)).trans (keep_alloc (x := .cells #[.slice A9 r9.length c9] 30 (0, 0)) (keep_blk hb5 (keep_blk hd0 hC.nx)))
          have ho9 : w8.ownsRow w5.heap.size 30 1 (.slice A8 (L.length + 1) c8) (L ++ [r9]).length (vs ++ [.slice A9 r9.length c9]) := by
            rw [List.length_append]; exact ho8
          have hin5 : IntsN X5 (fun b => ¬ b < w5.heap.size ∧ b < X5.heap.size ∧ (Value.slice AU L.length cU).ownBlock ≠ some b) (.slice A9 r9.length c9) r9 := (own_intsN14 hv5).keep (fun _ _ => rfl) (fun b hb => ⟨by omega, hb.2, fun e => by have := (hown.lt b e).2; omega⟩)
          have hrows8 := ((hC.rows.below hd0).below hb5).push hC.len hin5 (below_alloc1 X5 (.cells #[.slice A9 r9.length c9] 30 (0, 0))) hg8 hloc
          have hVn9 : (Value.slice A8 (L.length + 1) c8).ownBlock ≠ some nb := fun e => by
            have := (ho9.lt _ e).1
            omega
          have hC9 : RdB w5 w5.heap.size nb (j + 1) (.slice A2 TT.length c2) (.slice AV K.length cV) (.slice A8 (L.length + 1) c8) K.length RE (L ++ [r9]) (vs ++ [.slice A9 r9.length c9]) (w8.setCell ⟨nb, 3, none⟩ (.slice A8 (L.length + 1) c8)) :=
            ⟨own_set ho9 hVn9 3 _, by rw [List.length_append, List.length_append, hC.len]; rfl, hrows8.set (b := nb) (j := 3) hnw5, hC.cap.push (own_one14 hv5), by rw [block_setCell hnx8 _]; rfl, by have := hHeld.size; simp [World.setCell]; omega,
              fun b h1 h2 => (Below.heap_setCell _ _ _ _ h2).trans ((hHeld.block b h1).trans (hC.same b h1 h2)),
              (hC.bel.trans (hHeld.mono (by omega))).setCell (p := ⟨nb, 3, none⟩) (Nat.le_refl _) _, hrs2.out⟩
          have hC9 := Lib.hid hC9
          obtain ⟨y0, y1, y2, y3, yf⟩ := now4 hnx8 rfl
          clear hC hoX hHeld hg8 hloc ho8 ho9 hnx8 hin5 hrows8 hVn9 hb5 hv5 n3 hCH hown hd0 HA
          generalize L ++ [r9] = L9 at *
          go_wp2
          go_roundw
          case rel => exact ⟨j + 1, _, L9, _, by omega, by go_num, hC9.out⟩
          case measure => simp [intOf]; omega
        · have e : j = RE.length := by omega
          subst e
          have hjd : ¬ (RE.length : Int) < (RE.length : Int) := by omega
          have hrd : rdR c = RE := by unfold rdR; rw [hn]; exact hRE
          have hrs := hC.rs
          rw [List.take_length] at hrs
          have k2' := own_same15 k2 (fun g hg => hC.same g (k2.lt g hg).2 (fun e => own_ne k2 k3 (by decide) (by rw [hg, e])))
          have k1' := own_same15 k1 (fun g hg => hC.same g (k1.lt g hg).2 (fun e => own_ne k1 k3 (by decide) (by rw [hg, e])))
          have hrb : wr.heap[w.heap.size + 1]? = _ := (hC.same _ (by omega) (by omega)).trans k6
          have hred : Hid (redC c = ⟨TT, K, L⟩) := Lib.hid (by
            unfold redC
            rw [hrd, hn, hTK, hTTH.out, ← hnmsH.out, ← hrs])
          have hN : ChoN wr (fun b => w.heap.size + 2 ≤ b ∧ b < wr.heap.size) (.slice A2 TT.length c2) (.slice AV K.length cV) (.slice AU L.length cU) ⟨TT, K, L⟩ :=
            ⟨(own_intsN14 k2').keep (fun _ _ => rfl) (fun b hb => ⟨by omega, hb.2⟩), (own_intsN14 k1').keep (fun _ _ => rfl) (fun b hb => ⟨by omega, hb.2⟩), (hC.rows.matN15 hC.own).keep15 (fun _ _ => rfl) (fun b hb => ⟨by omega, hb.2⟩), own_capM14 hC.own hC.len hC.cap⟩
          have hBw2 := hBR.trans (hBw.mono (by omega : w.heap.size ≤ wR.heap.size))
          have hfin : Hid (ChoN ((((wr.setCell ⟨w.heap.size + 1, 0, none⟩ (.slice A2 TT.length c2)).setCell ⟨w.heap.size + 1, 1, none⟩ (.slice AV K.length cV)).setCell ⟨w.heap.size + 1, 2, none⟩ (.int .i64 K.length)).setCell ⟨w.heap.size + 1, 3, none⟩ (.slice AU L.length cU))
              (fun b => w.heap.size ≤ b ∧ b < ((((wr.setCell ⟨w.heap.size + 1, 0, none⟩ (.slice A2 TT.length c2)).setCell ⟨w.heap.size + 1, 1, none⟩ (.slice AV K.length cV)).setCell ⟨w.heap.size + 1, 2, none⟩ (.int .i64 K.length)).setCell ⟨w.heap.size + 1, 3, none⟩ (.slice AU L.length cU)).heap.size) (.slice A2 TT.length c2) (.slice AV K.length cV) (.slice AU L.length cU) ⟨TT, K, L⟩ ∧
            Below w.heap.size w ((((wr.setCell ⟨w.heap.size + 1, 0, none⟩ (.slice A2 TT.length c2)).setCell ⟨w.heap.size + 1, 1, none⟩ (.slice AV K.length cV)).setCell ⟨w.heap.size + 1, 2, none⟩ (.int .i64 K.length)).setCell ⟨w.heap.size + 1, 3, none⟩ (.slice AU L.length cU))) := Lib.hid
            ⟨hN.keep (fun b hb => by
              have h : ∀ (W : World) (i : Nat) (u : Value), (W.setCell ⟨w.heap.size + 1, i, none⟩ u).heap[b]? = W.heap[b]? := fun W i u => Below.heap_setCell _ _ _ _ (by show b ≠ w.heap.size + 1; omega)
              rw [h, h, h, h]) (by simp [World.setCell]) (fun b hb => ⟨by omega, by have := hb.2; simpa [World.setCell] using this⟩), below4 (by omega) hBw2⟩
          have hr4 := put4 (x0 := .slice A2 TT.length c2) (x1 := .slice AV K.length cV) (x2 := .int .i64 K.length) (x3 := .slice AU L.length cU) hrb
          obtain ⟨n0, n1, n2, n3, -⟩ := now4 hC.nx rfl
          obtain ⟨r0, r1, r2, r3, rf⟩ := now4 hrb rfl
          obtain ⟨p0, p1, p2, p3, -⟩ := now4 hr4 rfl
          clear hC hN hr4 hrb k1 k2 k3 k4 k6 k7 k1' k2' hkk hBw hBw2 hrs hrM2 hRE hTK
          go_wp2
          generalize (((wr.setCell ⟨w.heap.size + 1, 0, none⟩ _).setCell _ _).setCell _ _).setCell _ _ = wz at *
          refine bodyPost_ret (v := .agg #[.slice A2 TT.length c2, .slice AV K.length cV, .int .i64 K.length, .slice AU L.length cU]) (by simp [results, Try.results54, go_sem, p0, p1, p2, p3]) rfl ?_
          refine ⟨_, _, _, ?_, by rw [hred.out]; exact hfin.out.1, hfin.out.2⟩
          rw [hred.out]
end Go.Proofs.Ytcbhcclickjpnaa
