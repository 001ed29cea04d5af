/- The document's With and Of of layer 8: a row of members, rising, each once. -/
import Derived.Test.YtehpccanjlaokaaGreatGQ08
namespace Go.Proofs.YtehpccanjlaokaaGreat
open Go.RowKit Go.Joins

/-- Rising, each once. -/
def srtN (l : List Nat) : Prop := l.Pairwise (· < ·)
/-- Two such rows with the same members are one. -/
theorem srt_ext : ∀ {a b : List Nat}, srtN a → srtN b → (∀ x, x ∈ a ↔ x ∈ b) → a = b
  | [], [], _, _, _ => rfl
  | [], y :: b, _, _, h => absurd ((h y).2 List.mem_cons_self) (by simp)
  | x :: a, [], _, _, h => absurd ((h x).1 List.mem_cons_self) (by simp)
  | x :: a, y :: b, ha, hb, h => by
    obtain ⟨ha1, ha2⟩ := List.pairwise_cons.1 ha
    obtain ⟨hb1, hb2⟩ := List.pairwise_cons.1 hb
    have e : x = y := by
      rcases List.mem_cons.1 ((h x).1 List.mem_cons_self) with e | e
      · exact e
      · rcases List.mem_cons.1 ((h y).2 List.mem_cons_self) with e2 | e2
        · exact e2.symm
        · have := ha1 y e2; have := hb1 x e; omega
    subst e
    congr 1
    refine srt_ext ha2 hb2 fun z => ⟨fun hz => ?_, fun hz => ?_⟩
    · rcases List.mem_cons.1 ((h z).1 (List.mem_cons_of_mem _ hz)) with e | e
      · have := ha1 z hz; omega
      · exact e
    · rcases List.mem_cons.1 ((h z).2 (List.mem_cons_of_mem _ hz)) with e | e
      · have := hb1 z hz; omega
      · exact e
theorem srt_drop {l : List Nat} (h : srtN l) {k y m : Nat} (hk : l[k]? = some y) (hm : m < y) : ∀ x ∈ l.drop k, m < x := by
  intro x hx
  obtain ⟨j, hj⟩ := List.mem_iff_getElem?.1 hx
  rw [List.getElem?_drop] at hj
  obtain ⟨h1, e1⟩ := List.getElem?_eq_some_iff.1 hj
  obtain ⟨h2, e2⟩ := List.getElem?_eq_some_iff.1 hk
  by_cases e : j = 0
  · subst e
    have : l[k + 0] = l[k] := by simp
    omega
  · have := (List.pairwise_iff_getElem.1 h) k (k + j) h2 h1 (by omega)
    omega
theorem srt_ins {l : List Nat} (h : srtN l) {k m : Nat} (h1 : ∀ x ∈ l.take k, x < m) (h2 : ∀ x ∈ l.drop k, m < x) : srtN (l.take k ++ m :: l.drop k) := by
  have h0 : srtN (l.take k ++ l.drop k) := by rw [List.take_append_drop]; exact h
  obtain ⟨p1, p2, p3⟩ := List.pairwise_append.1 h0
  refine List.pairwise_append.2 ⟨p1, List.pairwise_cons.2 ⟨h2, p2⟩, fun a ha b hb => ?_⟩
  rcases List.mem_cons.1 hb with e | hb
  · rw [e]; exact h1 a ha
  · exact p3 a ha b hb
theorem mem_ins {l : List Nat} {k m x : Nat} : x ∈ l.take k ++ m :: l.drop k ↔ x ∈ l ∨ x = m := by
  conv => rhs; rw [← List.take_append_drop k l]
  simp only [List.mem_append, List.mem_cons]
  constructor
  · rintro (h | h | h)
    · exact .inl (.inl h)
    · exact .inr h
    · exact .inl (.inr h)
  · rintro ((h | h) | h)
    · exact .inl h
    · exact .inr (.inr h)
    · exact .inr (.inl h)
theorem own_form8 {w : World} {base size n : Nat} {e : TypeId} {v : Value} {xs : List Value} (h : w.ownsRow base e size v n xs) : ∃ A c, v = .slice A n c := by
  rcases h.2 with ⟨hv, h0⟩ | ⟨g, cap, cur, hv, _⟩
  · exact ⟨none, 0, by rw [hv, h0]⟩
  · exact ⟨_, _, hv⟩
/-- 'append' of what the call owns, as one step of a region that draws. -/
theorem step_append_own8 {ops : Array Oper} {o : Oper} {a : Act} {w : World} {K : Act → World → Prop} {Q : Exit → Act → World → Prop} {E : Prop} (hgd : o.guard = none) (s x : Operand) (t : TypeId)
    (ho : o.op = .call { callee := .builtin .append, args := #[s, x], argTypes := #[t, t] })
    (base : Nat) (e : TypeId) (i : TypeInfo) (z : Value) (size bytes : Nat) (ht : Tryz.prog.underlying t = some (.slice e)) (hi : Tryz.prog.info? e = some i) (hz : i.zero = some z)
    (hsize : i.size = size) (hby : i.bytes = bytes) (hzs : z.cells.size = size) (hsz : 0 < size)
    (v : Value) (n : Nat) (xs : List Value) (hs : a.eval s = v) (hown : w.ownsRow base e size v n xs)
    (ad : Addr) (m c : Nat) (news : List Value) (hx : a.eval x = .slice (some ad) m c) (hl : news.length = m * size) (hnews : ∀ j u, news[j]? = some u → w.cell? (ad.add j) = some u) (h1 : ∀ u ∈ news, u.oneCell' = true)
    (h63 : n + m ≤ maxLen) (hbytes : (n + m) * bytes ≤ 140737488355328) (hbase : base ≤ w.heap.size)
    (h : ∀ v' w', w'.ownsRow base e size v' (n + m) (xs ++ news) → w.grownBy w' v.ownBlock → K (a.put o.dst v') w') :
    if Region.wanted o (yielded ops a.tmps) = true then Oper.wp Tryz.prog o a w K Q else E := by
  have hw : Region.wanted o (yielded ops a.tmps) = true := by simp [Region.wanted, hgd]
  rw [if_pos hw]
  exact wp_append_own w s x t ho base e i z size bytes ht hi hz hsize hby hzs hsz v n xs hs hown ad m c news hx hl hnews h1 h63 hbytes hbase fun v' w' h2 h3 _ => h v' w' h2 h3
theorem own_cap8 {w : World} {base size n : Nat} {e : TypeId} {v : Value} {xs : List Value} (h : w.ownsRow base e size v n xs) : ∃ A c, v = .slice A n c ∧ n ≤ c := by
  rcases h.2 with ⟨hv, h0⟩ | ⟨g, cap, cur, hv, _, _, hn, _⟩
  · exact ⟨none, 0, by rw [hv, h0], by omega⟩
  · exact ⟨_, _, hv, hn⟩
theorem step_append_none8 {ops : Array Oper} {o : Oper} {a : Act} {w : World} {K : Act → World → Prop} {Q : Exit → Act → World → Prop} {E : Prop} (hgd : o.guard = none) (s x : Operand) (t : TypeId)
    (ho : o.op = .call { callee := .builtin .append, args := #[s, x], argTypes := #[t, t] })
    (base : Nat) (e : TypeId) (i : TypeInfo) (size : Nat) (ht : Tryz.prog.underlying t = some (.slice e)) (hi : Tryz.prog.info? e = some i)
    (v : Value) (n : Nat) (xs : List Value) (hs : a.eval s = v) (hown : w.ownsRow base e size v n xs) (hx : a.eval x = .slice none 0 0) (h : K (a.put o.dst v) w) :
    if Region.wanted o (yielded ops a.tmps) = true then Oper.wp Tryz.prog o a w K Q else E := by
  have hw : Region.wanted o (yielded ops a.tmps) = true := by simp [Region.wanted, hgd]
  rw [if_pos hw]
  have hrun := run_append_owned_none (P := Tryz.prog) (w := w) base t o.type e i size ht hi v n xs hown
  unfold Oper.wp
  simp [execOp, ho, resolve, invoke, builtin, hs, hx, hrun, Result.andThen]
  exact h
theorem run_append_none8 (a : Addr) (c : Nat) (ty : TypeId) (w : World) : (Builtin.append_ #[36, 36] ty #[.slice (some a) 0 0, .slice none 0 c]).run Tryz.prog w = .ok (.slice (some a) 0 0) w := by
  obtain ⟨i0, hi0, hz0, hz1, hz2⟩ := info_parts Tryz.infoInt
  simp [Builtin.append_, run_underlying Tryz.underlying36, sizeOf, typeInfo, hi0, Builtin.lenOf, Builtin.firstCells, storeCells]
/-- A row with a member put in its place. -/
def FromB (B : Nat) (A : Option Addr) : Prop := ∀ g off, A = some (⟨g, off, none⟩ : Addr) → B ≤ g
def WithDone (B : Nat) (w : World) (l : List Nat) (m : Nat) (e : Ending) (w' : World) : Prop :=
  ∃ A c r, e = .returned (.slice A r.length c) ∧ r.length ≤ c ∧ IntsAt w' w'.heap.size (.slice A r.length c) (nI r) ∧ srtN r ∧ (∀ x, x ∈ r ↔ x ∈ l ∨ x = m) ∧ r.length ≤ l.length + 1 ∧ FromB B A ∧ Below w.heap.size w w'
theorem intsV_get {l : List Nat} {j : Nat} {u : Value} (h : (intsV l)[j]? = some u) : ∃ y : Nat, u = .int .i64 y ∧ l[j]? = some y := by
  unfold intsV at h
  rw [List.getElem?_map] at h
  obtain ⟨y, hy, rfl⟩ := Option.map_eq_some_iff.1 h
  exact ⟨y, rfl, hy⟩
theorem intsV_one {l : List Nat} : ∀ u ∈ intsV l, u.oneCell' = true := fun u hu => by
  unfold intsV at hu
  obtain ⟨y, _, rfl⟩ := List.mem_map.1 hu
  rfl
set_option maxHeartbeats 4000000 in
set_option maxRecDepth 100000 in
theorem rwith8_some (a : Addr) (c : Nat) (l : List Nat) (m : Nat) (hfl : l.length ≤ 1000) (hs : srtN l) (hlc : l.length ≤ c) (h0 : 0 < l.length) (w : World) {B : Nat} (hBw : B ≤ w.heap.size) (hBo : FromB B (some a)) (hz : IntsAt w w.heap.size (.slice (some a) l.length c) (nI l)) :
    Calls Tryz.prog 37 #[.slice (some a) l.length c, .int .i64 m] w (WithDone B w l m) := by
  obtain ⟨i0, hi0, hz0, hz1, hz2⟩ := info_parts Tryz.infoInt
  have hzz := hz
  obtain ⟨A0, c0, e0, hl, hc⟩ := hz
  simp only [Value.slice.injEq] at e0
  obtain ⟨rfl, -, rfl⟩ := e0
  simp only [nI_len] at *
  go_enter Tryz.func37, Tryz.ntmps37
  go_wp2
  go_loopw [5] (fun t wr => ∃ k : Nat, k ≤ l.length ∧ t = .int .i64 k ∧ Hid (∀ x ∈ l.take k, x < m) ∧ w = wr) (fun t _ => l.length - (intOf t).toNat)
  case atStart => exact ⟨0, by omega, rfl, Lib.hid (by simp), rfl⟩
  case round =>
    obtain ⟨k, hk, rfl, hH, rfl⟩ := hrel
    by_cases hlt : k < l.length
    · obtain ⟨b, off, e1, hB, hcell⟩ := hc (by omega)
      injection e1 with e1
      subst e1
      obtain ⟨x, hx⟩ : ∃ x, l[k]? = some x := ⟨_, List.getElem?_eq_getElem hlt⟩
      have q := hcell k _ (nI_get hx)
      have hxH := Lib.hid hx
      by_cases hxm : x < m
      · have hst : Hid (∀ y ∈ l.take (k + 1), y < m) := Lib.hid (by
          rw [List.take_add_one, hxH.out]
          intro y hy
          rcases List.mem_append.1 hy with hy | hy
          · exact hH.out y hy
          · have : y = x := by simpa using hy
            rw [this]; exact hxm)
        have hxi : ((x : Nat) : Int) < ((m : Nat) : Int) := by omega
        clear hcell hc hx hxm hzz
        go_wp2
        go_roundw
        case rel => exact ⟨k + 1, by omega, by go_num, hst, trivial⟩
        case measure => simp [intOf]; omega
      · have hxi : ¬ ((x : Nat) : Int) < ((m : Nat) : Int) := by omega
        by_cases hxe : x = m
        · have hb : (((x : Nat) : Int) == ((m : Nat) : Int)) = true := by rw [hxe]; simp
          have hR : Hid (∀ y, y ∈ l ↔ y ∈ l ∨ y = m) := Lib.hid (fun y => ⟨.inl, fun h => h.elim id fun e => by rw [e, ← hxe]; exact List.mem_of_getElem? hxH.out⟩)
          have hI := hzz
          clear hcell hc hx hxm hxe
          go_wp2
          go_ret
          exact ⟨_, _, l, rfl, hlc, hI, hs, hR.out, by omega, hBo, Below.refl _ _⟩
        · have hb : (((x : Nat) : Int) == ((m : Nat) : Int)) = false := by rw [beq_eq_false_iff_ne]; intro e; exact hxe (by omega)
          have hd := Lib.hid (srt_drop hs hxH.out (m := m) (by omega))
          clear hx hxm hxe
          have hle : ∀ (j : Nat) u, (intsV (l.take k))[j]? = some u → w.cell? ⟨b, off + j, none⟩ = some u := fun j u hj => by
            obtain ⟨y, rfl, hy⟩ := intsV_get hj
            rw [List.getElem?_take] at hy
            split at hy
            · exact hcell j _ (nI_get hy)
            · cases hy
          have hle2 : ∀ (j : Nat) u, (intsV (l.drop k))[j]? = some u → w.cell? ⟨b, off + k + j, none⟩ = some u := fun j u hj => by
            obtain ⟨y, rfl, hy⟩ := intsV_get hj
            rw [List.getElem?_drop] at hy
            rw [show off + k + j = off + (k + j) by omega]
            exact hcell (k + j) _ (nI_get hy)
          have HL := Lib.hid hle
          have HL2 := Lib.hid hle2
          clear hle hle2 hcell hc hzz
          go_wp2_with (at_builtin; refine wpList_append_own _ rfl _ _ 36 rfl w.heap.size 3 i0 (.int .i64 0) 1 8 Tryz.underlying36 hi0 hz0 hz1 hz2 rfl (by decide) _ _ _ rfl (World.ownsRow_made w #[] 0 (Nat.le_refl _) (Nat.zero_le _) rfl) ⟨b, off, none⟩ k c (intsV (l.take k)) rfl ?qc1 ?qc2 ?qc3 ?qc4 ?qc5 ?qc6 ?_)
          case qc1 => unfold intsV; rw [List.length_map, List.length_take]; omega
          case qc2 => exact fun j u hj => by first | exact HL.out j u hj | (rw [Addr.add_lit]; exact Lib.cell?_alloc_some _ (HL.out j u hj))
          case qc3 => exact intsV_one
          case qc4 => unfold maxLen; omega
          case qc5 => omega
          intro v6 w6 hown hgrow hnil
          have hB6 : Below w.heap.size w w6 := ((Below.refl _ w).alloc (Nat.le_refl _) _).grown hgrow (by simp) (by intro k hk; simp [Value.ownBlock] at hk; omega)
          have hown6 : w6.ownsRow w.heap.size 3 1 v6 k (intsV (l.take k)) := by simpa using hown
          have HL6 : Hid (∀ (j : Nat) u, (intsV (l.drop k))[j]? = some u → w6.cell? ⟨b, off + k + j, none⟩ = some u) := Lib.hid (fun j u hj => (hB6.cell (p := ⟨b, off + k + j, none⟩) hB).trans (HL2.out j u hj))
          have hz6 := hB6.size
          obtain ⟨A6, c6, rfl⟩ := own_form8 hown6
          clear hown hgrow hnil HL HL2 q
          go_wp2_with fail
          refine wp_region_held_drew (S := fun _ => True) (by kernel_rfl) trivial (fun hHeld => ?_)
          have hck : ¬ c = k := by omega
          refine wpAnyH_take (i := 0) (oi := _) (v := ?_) rfl (by kernel_rfl) (by kernel_rfl) (by kernel_rfl) (fun _ _ _ h => h) (Or.inl ⟨by rfl, ?_⟩) (by assumption) ?_
          rotate_left 1
          · intro w_ hSw
            go_simp
            try with_reducible rfl
          try simp only [Act.put, List.setIfInBounds_toArray]
          refine wpAnyH_take (i := 1) (oi := _) (v := ?_) rfl (by kernel_rfl) (by kernel_rfl) (by kernel_rfl) (fun _ _ _ h => h) (Or.inl ⟨by rfl, ?_⟩) (by assumption) ?_
          rotate_left 1
          · intro w_ hSw
            go_simp
            try with_reducible rfl
          try simp only [Act.put]
          refine wpAnyH_take (i := 4) (oi := _) (v := ?_) rfl (by kernel_rfl) (by kernel_rfl) (by kernel_rfl) (fun _ _ _ h => h) (Or.inl ⟨by rfl, ?_⟩) (by assumption) ?_
          rotate_left 1
          · intro w_ hSw
            go_simp
            try with_reducible rfl
          try simp only [Act.put]
          refine wpAnyH_take (i := 5) (oi := _) (v := ?_) rfl (by kernel_rfl) (by kernel_rfl) (by kernel_rfl) (fun _ _ _ h => h) (Or.inl ⟨by rfl, ?_⟩) (by assumption) ?_
          rotate_left 1
          · intro w_ hSw
            go_simp
            try with_reducible rfl
          try simp only [Act.put]
          refine wpAnyH_take (i := 6) (oi := _) (v := ?_) rfl (by kernel_rfl) (by kernel_rfl) (by kernel_rfl) (fun _ _ _ h => h) (Or.inl ⟨by rfl, ?_⟩) (by assumption) ?_
          rotate_left 1
          · intro w_ hSw
            go_simp
            try with_reducible rfl
          try simp only [Act.put]
          refine wpAnyH_ready (rs := [2]) (by kernel_rfl) (by simp) ?_
          refine AllReadyH.cons (o := _) rfl (fun _ hK => ?_) AllReadyH.nil
          go_simp
          refine hK.out _ _ trivial (fun hHeld => ?_)
          clear hK
          try simp only [Act.put, List.setIfInBounds_toArray, List.set_cons_zero, List.set_cons_succ]
          refine wpAnyH_ready (rs := [3]) (by kernel_rfl) (by simp) ?_
          refine AllReadyH.cons (o := _) rfl (fun _ hK => ?_) AllReadyH.nil
          refine step_append_own8 rfl _ _ 36 rfl w.heap.size 3 i0 (.int .i64 0) 1 8 Tryz.underlying36 hi0 hz0 hz1 hz2 rfl (by decide) (.slice A6 k c6) k (intsV (l.take k)) rfl (hown6.alloc _) ⟨w6.heap.size, 0, none⟩ 1 1 [.int .i64 (m : Int)] rfl rfl one_news one_cell ?_ ?_ ?_ ?_
          · unfold maxLen; omega
          · omega
          · simp; omega
          intro v7 w7 hown7 hg7
          have hz7 := hg7.size
          have hB7 := grown_below (hown6.alloc (.cells #[.int .i64 (m : Int)] 3)) hg7 (hB6.alloc hB6.size _).drew (Nat.le_refl _) (by simp; omega)
          have HL7 : ∀ (j : Nat) u, (intsV (l.drop k))[j]? = some u → w7.cell? ((⟨b, off + k, none⟩ : Addr).add j) = some u := fun j u hj => by
            have h0 := (hB7.cell (p := ⟨b, off + k + j, none⟩) hB).trans ((hB6.cell (p := ⟨b, off + k + j, none⟩) hB).symm.trans (HL6.out j u hj))
            rw [Addr.add_lit]
            exact h0
          obtain ⟨A7, c7, rfl⟩ := own_form8 hown7
          refine hK.out _ _ trivial (fun hHeld => ?_)
          clear hK
          try simp only [Act.put, List.setIfInBounds_toArray]
          refine wpAnyH_ready (rs := [7]) (by kernel_rfl) (by simp) ?_
          refine AllReadyH.cons (o := _) rfl (fun _ hK => ?_) AllReadyH.nil
          refine step_append_own8 rfl _ _ 36 rfl w.heap.size 3 i0 (.int .i64 0) 1 8 Tryz.underlying36 hi0 hz0 hz1 hz2 rfl (by decide) (.slice A7 (k + 1) c7) (k + 1) (intsV (l.take k) ++ [.int .i64 (m : Int)]) rfl hown7 ⟨b, off + k, none⟩ (l.length - k) (c - k) (intsV (l.drop k)) rfl ?_ HL7 intsV_one ?_ ?_ ?_ ?_
          · unfold intsV; simp
          · unfold maxLen; omega
          · omega
          · have := hB7.size; omega
          intro v8 w8 hown8 hg8
          have hB8 := grown_below hown7 hg8 hB7 (Nat.le_refl _) (by have := hB7.size; omega)
          have hown9 : w8.ownsRow w.heap.size 3 1 v8 (l.length + 1) (intsV (l.take k ++ m :: l.drop k)) := by
            have e : intsV (l.take k ++ m :: l.drop k) = intsV (l.take k) ++ [.int .i64 (m : Int)] ++ intsV (l.drop k) := by unfold intsV; simp
            rw [e, show l.length + 1 = k + 1 + (l.length - k) by omega]
            exact hown8
          clear hown8 hg8 hown7 hg7 HL7
          refine hK.out _ _ trivial (fun hHeld => ?_)
          clear hK
          try simp only [Act.put]
          refine wpAnyH_ready (rs := [8]) (by kernel_rfl) (by simp) ?_
          refine AllReadyH.cons (o := _) rfl (fun _ hK => ?_) AllReadyH.nil
          go_simp
          refine hK.out _ _ trivial (fun hHeld => ?_)
          clear hK
          try simp only [Act.put, List.setIfInBounds_toArray, List.set_cons_zero, List.set_cons_succ]
          refine wpAnyH_done (by kernel_rfl) ?_ _
          obtain ⟨A8, c8, rfl, hc8⟩ := own_cap8 hown9
          have hI8 := own_nI hown9
          have hfr : FromB B A8 := fun g off e => by subst e; exact Nat.le_trans hBw (hown9.lt g rfl).1
          have hsr := Lib.hid (srt_ins hs hH.out hd.out)
          have hlen9 : Hid ((l.take k ++ m :: l.drop k).length = l.length + 1) := Lib.hid (by rw [List.length_append, List.length_cons, List.length_take, List.length_drop]; omega)
          clear hown9
          go_wp2
          go_ret
          exact ⟨A8, c8, l.take k ++ m :: l.drop k, by rw [hlen9.out]; rfl, by rw [hlen9.out]; exact hc8, by rw [hlen9.out]; exact hI8, hsr.out, fun x => mem_ins, by rw [hlen9.out]; omega, hfr, hB8⟩
    · obtain rfl : k = l.length := by omega
      have hd : Hid (∀ x ∈ l.drop l.length, m < x) := Lib.hid (by rw [List.drop_length]; simp)
      obtain ⟨b, off, e1, hB, hcell⟩ := hc h0
      injection e1 with e1
      subst e1
      by_cases hcl : c = l.length
      · have hclH := Lib.hid hcl
        clear hcl
        have hle : ∀ (j : Nat) u, (intsV (l.take l.length))[j]? = some u → w.cell? ⟨b, off + j, none⟩ = some u := fun j u hj => by
          obtain ⟨y, rfl, hy⟩ := intsV_get hj
          rw [List.getElem?_take] at hy
          split at hy
          · exact hcell j _ (nI_get hy)
          · cases hy
        have hle2 : ∀ (j : Nat) u, (intsV (l.drop l.length))[j]? = some u → w.cell? ⟨b, off + l.length + j, none⟩ = some u := fun j u hj => by
          obtain ⟨y, rfl, hy⟩ := intsV_get hj
          rw [List.getElem?_drop] at hy
          rw [show off + l.length + j = off + (l.length + j) by omega]
          exact hcell (l.length + j) _ (nI_get hy)
        have HL := Lib.hid hle
        have HL2 := Lib.hid hle2
        clear hle hle2 hcell hc hzz
        go_wp2_with (at_builtin; refine wpList_append_own _ rfl _ _ 36 rfl w.heap.size 3 i0 (.int .i64 0) 1 8 Tryz.underlying36 hi0 hz0 hz1 hz2 rfl (by decide) _ _ _ rfl (World.ownsRow_made w #[] 0 (Nat.le_refl _) (Nat.zero_le _) rfl) ⟨b, off, none⟩ l.length c (intsV (l.take l.length)) rfl ?qc1 ?qc2 ?qc3 ?qc4 ?qc5 ?qc6 ?_)
        case qc1 => unfold intsV; rw [List.length_map, List.length_take]; omega
        case qc2 => exact fun j u hj => by first | exact HL.out j u hj | (rw [Addr.add_lit]; exact Lib.cell?_alloc_some _ (HL.out j u hj))
        case qc3 => exact intsV_one
        case qc4 => unfold maxLen; omega
        case qc5 => omega
        intro v6 w6 hown hgrow hnil
        have hB6 : Below w.heap.size w w6 := ((Below.refl _ w).alloc (Nat.le_refl _) _).grown hgrow (by simp) (by intro l.length hk; simp [Value.ownBlock] at hk; omega)
        have hown6 : w6.ownsRow w.heap.size 3 1 v6 l.length (intsV (l.take l.length)) := by simpa using hown
        have HL6 : Hid (∀ (j : Nat) u, (intsV (l.drop l.length))[j]? = some u → w6.cell? ⟨b, off + l.length + j, none⟩ = some u) := Lib.hid (fun j u hj => (hB6.cell (p := ⟨b, off + l.length + j, none⟩) hB).trans (HL2.out j u hj))
        have hz6 := hB6.size
        obtain ⟨A6, c6, rfl⟩ := own_form8 hown6
        clear hown hgrow hnil HL HL2
        go_wp2_with fail
        refine wp_region_held_drew (S := fun _ => True) (by kernel_rfl) trivial (fun hHeld => ?_)
        have hck : c = l.length := hclH.out
        refine wpAnyH_take (i := 0) (oi := _) (v := ?_) rfl (by kernel_rfl) (by kernel_rfl) (by kernel_rfl) (fun _ _ _ h => h) (Or.inl ⟨by rfl, ?_⟩) (by assumption) ?_
        rotate_left 1
        · intro w_ hSw
          go_simp
          try with_reducible rfl
        try simp only [Act.put, List.setIfInBounds_toArray]
        refine wpAnyH_take (i := 1) (oi := _) (v := ?_) rfl (by kernel_rfl) (by kernel_rfl) (by kernel_rfl) (fun _ _ _ h => h) (Or.inl ⟨by rfl, ?_⟩) (by assumption) ?_
        rotate_left 1
        · intro w_ hSw
          go_simp
          try with_reducible rfl
        try simp only [Act.put]
        refine wpAnyH_take (i := 4) (oi := _) (v := ?_) rfl (by kernel_rfl) (by kernel_rfl) (by kernel_rfl) (fun _ _ _ h => h) (Or.inl ⟨by rfl, ?_⟩) (by assumption) ?_
        rotate_left 1
        · intro w_ hSw
          go_simp
          try with_reducible rfl
        try simp only [Act.put]
        refine wpAnyH_take (i := 5) (oi := _) (v := ?_) rfl (by kernel_rfl) (by kernel_rfl) (by kernel_rfl) (fun _ _ _ h => h) (Or.inl ⟨by rfl, ?_⟩) (by assumption) ?_
        rotate_left 1
        · intro w_ hSw
          go_simp
          try with_reducible rfl
        try simp only [Act.put]
        refine wpAnyH_take (i := 6) (oi := _) (v := ?_) rfl (by kernel_rfl) (by kernel_rfl) (by kernel_rfl) (fun _ _ _ h => h) (Or.inl ⟨by rfl, ?_⟩) (by assumption) ?_
        rotate_left 1
        · intro w_ hSw
          go_simp
          try with_reducible rfl
        try simp only [Act.put]
        refine wpAnyH_ready (rs := [2]) (by kernel_rfl) (by simp) ?_
        refine AllReadyH.cons (o := _) rfl (fun _ hK => ?_) AllReadyH.nil
        go_simp
        refine hK.out _ _ trivial (fun hHeld => ?_)
        clear hK
        try simp only [Act.put, List.setIfInBounds_toArray, List.set_cons_zero, List.set_cons_succ]
        refine wpAnyH_ready (rs := [3]) (by kernel_rfl) (by simp) ?_
        refine AllReadyH.cons (o := _) rfl (fun _ hK => ?_) AllReadyH.nil
        refine step_append_own8 rfl _ _ 36 rfl w.heap.size 3 i0 (.int .i64 0) 1 8 Tryz.underlying36 hi0 hz0 hz1 hz2 rfl (by decide) (.slice A6 l.length c6) l.length (intsV (l.take l.length)) rfl (hown6.alloc _) ⟨w6.heap.size, 0, none⟩ 1 1 [.int .i64 (m : Int)] rfl rfl one_news one_cell ?_ ?_ ?_ ?_
        · unfold maxLen; omega
        · omega
        · simp; omega
        intro v7 w7 hown7 hg7
        have hz7 := hg7.size
        have hB7 := grown_below (hown6.alloc (.cells #[.int .i64 (m : Int)] 3)) hg7 (hB6.alloc hB6.size _).drew (Nat.le_refl _) (by simp; omega)
        have HL7 : ∀ (j : Nat) u, (intsV (l.drop l.length))[j]? = some u → w7.cell? ((⟨b, off, none⟩ : Addr).add j) = some u := fun j u hj => by rw [List.drop_length] at hj; cases hj
        obtain ⟨A7, c7, rfl⟩ := own_form8 hown7
        refine hK.out _ _ trivial (fun hHeld => ?_)
        clear hK
        try simp only [Act.put, List.setIfInBounds_toArray]
        refine wpAnyH_ready (rs := [7]) (by kernel_rfl) (by simp) ?_
        refine AllReadyH.cons (o := _) rfl (fun _ hK => ?_) AllReadyH.nil
        refine step_append_own8 rfl _ _ 36 rfl w.heap.size 3 i0 (.int .i64 0) 1 8 Tryz.underlying36 hi0 hz0 hz1 hz2 rfl (by decide) (.slice A7 (l.length + 1) c7) (l.length + 1) (intsV (l.take l.length) ++ [.int .i64 (m : Int)]) rfl hown7 ⟨b, off, none⟩ _ _ (intsV (l.drop l.length)) rfl ?_ HL7 intsV_one ?_ ?_ ?_ ?_
        · unfold intsV; simp
        · unfold maxLen; omega
        · omega
        · have := hB7.size; omega
        intro v8 w8 hown8 hg8
        have hB8 := grown_below hown7 hg8 hB7 (Nat.le_refl _) (by have := hB7.size; omega)
        have hown9 : w8.ownsRow w.heap.size 3 1 v8 (l.length + 1) (intsV (l.take l.length ++ m :: l.drop l.length)) := by
          have e : intsV (l.take l.length ++ m :: l.drop l.length) = intsV (l.take l.length) ++ [.int .i64 (m : Int)] ++ intsV (l.drop l.length) := by unfold intsV; simp
          rw [e]
          exact hown8
        clear hown8 hg8 hown7 hg7 HL7
        refine hK.out _ _ trivial (fun hHeld => ?_)
        clear hK
        try simp only [Act.put]
        refine wpAnyH_ready (rs := [8]) (by kernel_rfl) (by simp) ?_
        refine AllReadyH.cons (o := _) rfl (fun _ hK => ?_) AllReadyH.nil
        go_simp
        refine hK.out _ _ trivial (fun hHeld => ?_)
        clear hK
        try simp only [Act.put, List.setIfInBounds_toArray, List.set_cons_zero, List.set_cons_succ]
        refine wpAnyH_done (by kernel_rfl) ?_ _
        obtain ⟨A8, c8, rfl, hc8⟩ := own_cap8 hown9
        have hI8 := own_nI hown9
        have hfr : FromB B A8 := fun g off e => by subst e; exact Nat.le_trans hBw (hown9.lt g rfl).1
        have hsr := Lib.hid (srt_ins hs hH.out hd.out)
        have hlen9 : Hid ((l.take l.length ++ m :: l.drop l.length).length = l.length + 1) := Lib.hid (by rw [List.length_append, List.length_cons, List.length_take, List.length_drop]; omega)
        clear hown9
        go_wp2
        go_ret
        exact ⟨A8, c8, l.take l.length ++ m :: l.drop l.length, by rw [hlen9.out]; rfl, by rw [hlen9.out]; exact hc8, by rw [hlen9.out]; exact hI8, hsr.out, fun x => mem_ins, by rw [hlen9.out]; omega, hfr, hB8⟩
      · have hclH := Lib.hid hcl
        clear hcl
        have hle : ∀ (j : Nat) u, (intsV (l.take l.length))[j]? = some u → w.cell? ⟨b, off + j, none⟩ = some u := fun j u hj => by
          obtain ⟨y, rfl, hy⟩ := intsV_get hj
          rw [List.getElem?_take] at hy
          split at hy
          · exact hcell j _ (nI_get hy)
          · cases hy
        have hle2 : ∀ (j : Nat) u, (intsV (l.drop l.length))[j]? = some u → w.cell? ⟨b, off + l.length + j, none⟩ = some u := fun j u hj => by
          obtain ⟨y, rfl, hy⟩ := intsV_get hj
          rw [List.getElem?_drop] at hy
          rw [show off + l.length + j = off + (l.length + j) by omega]
          exact hcell (l.length + j) _ (nI_get hy)
        have HL := Lib.hid hle
        have HL2 := Lib.hid hle2
        clear hle hle2 hcell hc hzz
        go_wp2_with (at_builtin; refine wpList_append_own _ rfl _ _ 36 rfl w.heap.size 3 i0 (.int .i64 0) 1 8 Tryz.underlying36 hi0 hz0 hz1 hz2 rfl (by decide) _ _ _ rfl (World.ownsRow_made w #[] 0 (Nat.le_refl _) (Nat.zero_le _) rfl) ⟨b, off, none⟩ l.length c (intsV (l.take l.length)) rfl ?qc1 ?qc2 ?qc3 ?qc4 ?qc5 ?qc6 ?_)
        case qc1 => unfold intsV; rw [List.length_map, List.length_take]; omega
        case qc2 => exact fun j u hj => by first | exact HL.out j u hj | (rw [Addr.add_lit]; exact Lib.cell?_alloc_some _ (HL.out j u hj))
        case qc3 => exact intsV_one
        case qc4 => unfold maxLen; omega
        case qc5 => omega
        intro v6 w6 hown hgrow hnil
        have hB6 : Below w.heap.size w w6 := ((Below.refl _ w).alloc (Nat.le_refl _) _).grown hgrow (by simp) (by intro l.length hk; simp [Value.ownBlock] at hk; omega)
        have hown6 : w6.ownsRow w.heap.size 3 1 v6 l.length (intsV (l.take l.length)) := by simpa using hown
        have HL6 : Hid (∀ (j : Nat) u, (intsV (l.drop l.length))[j]? = some u → w6.cell? ⟨b, off + l.length + j, none⟩ = some u) := Lib.hid (fun j u hj => (hB6.cell (p := ⟨b, off + l.length + j, none⟩) hB).trans (HL2.out j u hj))
        have hz6 := hB6.size
        obtain ⟨A6, c6, rfl⟩ := own_form8 hown6
        clear hown hgrow hnil HL HL2
        go_wp2_with fail
        refine wp_region_held_drew (S := fun _ => True) (by kernel_rfl) trivial (fun hHeld => ?_)
        have hck : ¬ c = l.length := hclH.out
        refine wpAnyH_take (i := 0) (oi := _) (v := ?_) rfl (by kernel_rfl) (by kernel_rfl) (by kernel_rfl) (fun _ _ _ h => h) (Or.inl ⟨by rfl, ?_⟩) (by assumption) ?_
        rotate_left 1
        · intro w_ hSw
          go_simp
          try with_reducible rfl
        try simp only [Act.put, List.setIfInBounds_toArray]
        refine wpAnyH_take (i := 1) (oi := _) (v := ?_) rfl (by kernel_rfl) (by kernel_rfl) (by kernel_rfl) (fun _ _ _ h => h) (Or.inl ⟨by rfl, ?_⟩) (by assumption) ?_
        rotate_left 1
        · intro w_ hSw
          go_simp
          try with_reducible rfl
        try simp only [Act.put]
        refine wpAnyH_take (i := 4) (oi := _) (v := ?_) rfl (by kernel_rfl) (by kernel_rfl) (by kernel_rfl) (fun _ _ _ h => h) (Or.inl ⟨by rfl, ?_⟩) (by assumption) ?_
        rotate_left 1
        · intro w_ hSw
          go_simp
          try with_reducible rfl
        try simp only [Act.put]
        refine wpAnyH_take (i := 5) (oi := _) (v := ?_) rfl (by kernel_rfl) (by kernel_rfl) (by kernel_rfl) (fun _ _ _ h => h) (Or.inl ⟨by rfl, ?_⟩) (by assumption) ?_
        rotate_left 1
        · intro w_ hSw
          go_simp
          try with_reducible rfl
        try simp only [Act.put]
        refine wpAnyH_take (i := 6) (oi := _) (v := ?_) rfl (by kernel_rfl) (by kernel_rfl) (by kernel_rfl) (fun _ _ _ h => h) (Or.inl ⟨by rfl, ?_⟩) (by assumption) ?_
        rotate_left 1
        · intro w_ hSw
          go_simp
          try with_reducible rfl
        try simp only [Act.put]
        refine wpAnyH_ready (rs := [2]) (by kernel_rfl) (by simp) ?_
        refine AllReadyH.cons (o := _) rfl (fun _ hK => ?_) AllReadyH.nil
        go_simp
        refine hK.out _ _ trivial (fun hHeld => ?_)
        clear hK
        try simp only [Act.put, List.setIfInBounds_toArray, List.set_cons_zero, List.set_cons_succ]
        refine wpAnyH_ready (rs := [3]) (by kernel_rfl) (by simp) ?_
        refine AllReadyH.cons (o := _) rfl (fun _ hK => ?_) AllReadyH.nil
        refine step_append_own8 rfl _ _ 36 rfl w.heap.size 3 i0 (.int .i64 0) 1 8 Tryz.underlying36 hi0 hz0 hz1 hz2 rfl (by decide) (.slice A6 l.length c6) l.length (intsV (l.take l.length)) rfl (hown6.alloc _) ⟨w6.heap.size, 0, none⟩ 1 1 [.int .i64 (m : Int)] rfl rfl one_news one_cell ?_ ?_ ?_ ?_
        · unfold maxLen; omega
        · omega
        · simp; omega
        intro v7 w7 hown7 hg7
        have hz7 := hg7.size
        have hB7 := grown_below (hown6.alloc (.cells #[.int .i64 (m : Int)] 3)) hg7 (hB6.alloc hB6.size _).drew (Nat.le_refl _) (by simp; omega)
        have HL7 : ∀ (j : Nat) u, (intsV (l.drop l.length))[j]? = some u → w7.cell? ((⟨b, off + l.length, none⟩ : Addr).add j) = some u := fun j u hj => by
          have h0 := (hB7.cell (p := ⟨b, off + l.length + j, none⟩) hB).trans ((hB6.cell (p := ⟨b, off + l.length + j, none⟩) hB).symm.trans (HL6.out j u hj))
          rw [Addr.add_lit]
          exact h0
        obtain ⟨A7, c7, rfl⟩ := own_form8 hown7
        refine hK.out _ _ trivial (fun hHeld => ?_)
        clear hK
        try simp only [Act.put, List.setIfInBounds_toArray]
        refine wpAnyH_ready (rs := [7]) (by kernel_rfl) (by simp) ?_
        refine AllReadyH.cons (o := _) rfl (fun _ hK => ?_) AllReadyH.nil
        refine step_append_own8 rfl _ _ 36 rfl w.heap.size 3 i0 (.int .i64 0) 1 8 Tryz.underlying36 hi0 hz0 hz1 hz2 rfl (by decide) (.slice A7 (l.length + 1) c7) (l.length + 1) (intsV (l.take l.length) ++ [.int .i64 (m : Int)]) rfl hown7 ⟨b, off + l.length, none⟩ _ _ (intsV (l.drop l.length)) rfl ?_ HL7 intsV_one ?_ ?_ ?_ ?_
        · unfold intsV; simp
        · unfold maxLen; omega
        · omega
        · have := hB7.size; omega
        intro v8 w8 hown8 hg8
        have hB8 := grown_below hown7 hg8 hB7 (Nat.le_refl _) (by have := hB7.size; omega)
        have hown9 : w8.ownsRow w.heap.size 3 1 v8 (l.length + 1) (intsV (l.take l.length ++ m :: l.drop l.length)) := by
          have e : intsV (l.take l.length ++ m :: l.drop l.length) = intsV (l.take l.length) ++ [.int .i64 (m : Int)] ++ intsV (l.drop l.length) := by unfold intsV; simp
          rw [e]
          exact hown8
        clear hown8 hg8 hown7 hg7 HL7
        refine hK.out _ _ trivial (fun hHeld => ?_)
        clear hK
        try simp only [Act.put]
        refine wpAnyH_ready (rs := [8]) (by kernel_rfl) (by simp) ?_
        refine AllReadyH.cons (o := _) rfl (fun _ hK => ?_) AllReadyH.nil
        go_simp
        refine hK.out _ _ trivial (fun hHeld => ?_)
        clear hK
        try simp only [Act.put, List.setIfInBounds_toArray, List.set_cons_zero, List.set_cons_succ]
        refine wpAnyH_done (by kernel_rfl) ?_ _
        obtain ⟨A8, c8, rfl, hc8⟩ := own_cap8 hown9
        have hI8 := own_nI hown9
        have hfr : FromB B A8 := fun g off e => by subst e; exact Nat.le_trans hBw (hown9.lt g rfl).1
        have hsr := Lib.hid (srt_ins hs hH.out hd.out)
        have hlen9 : Hid ((l.take l.length ++ m :: l.drop l.length).length = l.length + 1) := Lib.hid (by rw [List.length_append, List.length_cons, List.length_take, List.length_drop]; omega)
        clear hown9
        go_wp2
        go_ret
        exact ⟨A8, c8, l.take l.length ++ m :: l.drop l.length, by rw [hlen9.out]; rfl, by rw [hlen9.out]; exact hc8, by rw [hlen9.out]; exact hI8, hsr.out, fun x => mem_ins, by rw [hlen9.out]; omega, hfr, hB8⟩
set_option maxHeartbeats 2000000 in
set_option maxRecDepth 100000 in
theorem rwith8_nil (m : Nat) (w : World) {B : Nat} (hBw : B ≤ w.heap.size) :
    Calls Tryz.prog 37 #[.slice none 0 0, .int .i64 m] w (WithDone B w [] m) := by
  obtain ⟨i0, hi0, hz0, hz1, hz2⟩ := info_parts Tryz.infoInt
  have hrun := fun a ty w => run_append_none8 a 0 ty w
  have hB0 := below_alloc1 w (.cells #[] 3 (0, 0))
  have hown0 := World.ownsRow_made (base := w.heap.size) (e := 3) (size := 1) w #[] 0 (Nat.le_refl _) (Nat.zero_le _) rfl
  go_enter Tryz.func37, Tryz.ntmps37
  go_wp2
  go_loopw [5] (fun t wr => t = .int .i64 0 ∧ w = wr) (fun _ _ => 0)
  case atStart => exact ⟨rfl, rfl⟩
  case round =>
    obtain ⟨rfl, rfl⟩ := hrel
    go_wp2_with fail
    clear hrun
    generalize w.alloc (.cells #[] 3 (0, 0)) = w6 at *
    refine wp_region_held_drew (S := fun _ => True) (by kernel_rfl) trivial (fun hHeld => ?_)
    refine wpAnyH_take (i := 0) (oi := _) (v := ?_) rfl (by kernel_rfl) (by kernel_rfl) (by kernel_rfl) (fun _ _ _ h => h) (Or.inl ⟨by rfl, ?_⟩) (by assumption) ?_
    rotate_left 1
    · intro w_ hSw
      go_simp
      try with_reducible rfl
    try simp only [Act.put, List.setIfInBounds_toArray]
    refine wpAnyH_take (i := 1) (oi := _) (v := ?_) rfl (by kernel_rfl) (by kernel_rfl) (by kernel_rfl) (fun _ _ _ h => h) (Or.inl ⟨by rfl, ?_⟩) (by assumption) ?_
    rotate_left 1
    · intro w_ hSw
      go_simp
      try with_reducible rfl
    try simp only [Act.put]
    refine wpAnyH_take (i := 4) (oi := _) (v := ?_) rfl (by kernel_rfl) (by kernel_rfl) (by kernel_rfl) (fun _ _ _ h => h) (Or.inl ⟨by rfl, ?_⟩) (by assumption) ?_
    rotate_left 1
    · intro w_ hSw
      go_simp
      try with_reducible rfl
    try simp only [Act.put]
    refine wpAnyH_take (i := 5) (oi := _) (v := ?_) rfl (by kernel_rfl) (by kernel_rfl) (by kernel_rfl) (fun _ _ _ h => h) (Or.inl ⟨by rfl, ?_⟩) (by assumption) ?_
    rotate_left 1
    · intro w_ hSw
      go_simp
      try with_reducible rfl
    try simp only [Act.put]
    refine wpAnyH_take (i := 6) (oi := _) (v := ?_) rfl (by kernel_rfl) (by kernel_rfl) (by kernel_rfl) (fun _ _ _ h => h) (Or.inl ⟨by rfl, ?_⟩) (by assumption) ?_
    rotate_left 1
    · intro w_ hSw
      go_simp
      try with_reducible rfl
    try simp only [Act.put]
    refine wpAnyH_ready (rs := [2]) (by kernel_rfl) (by simp) ?_
    refine AllReadyH.cons (o := _) rfl (fun _ hK => ?_) AllReadyH.nil
    go_simp
    refine hK.out _ _ trivial (fun hHeld => ?_)
    clear hK
    try simp only [Act.put, List.setIfInBounds_toArray, List.set_cons_zero, List.set_cons_succ]
    refine wpAnyH_ready (rs := [3]) (by kernel_rfl) (by simp) ?_
    refine AllReadyH.cons (o := _) rfl (fun _ hK => ?_) AllReadyH.nil
    refine step_append_own8 rfl _ _ 36 rfl w.heap.size 3 i0 (.int .i64 0) 1 8 Tryz.underlying36 hi0 hz0 hz1 hz2 rfl (by decide) (.slice (some ⟨w.heap.size, 0, none⟩) 0 0) 0 [] rfl (hown0.alloc _) ⟨w6.heap.size, 0, none⟩ 1 1 [.int .i64 (m : Int)] rfl rfl one_news one_cell ?_ ?_ ?_ ?_
    · unfold maxLen; omega
    · omega
    · have := hB0.size; simp; omega
    intro v7 w7 hown7 hg7
    have hB7 := grown_below (hown0.alloc (.cells #[.int .i64 (m : Int)] 3)) hg7 ((hB0.alloc hB0.size _).drew) (Nat.le_refl _) (by have := hB0.size; simp; omega)
    refine hK.out _ _ trivial (fun hHeld => ?_)
    clear hK
    try simp only [Act.put, List.setIfInBounds_toArray]
    refine wpAnyH_ready (rs := [7]) (by kernel_rfl) (by simp) ?_
    refine AllReadyH.cons (o := _) rfl (fun _ hK => ?_) AllReadyH.nil
    refine step_append_none8 rfl _ _ 36 rfl w.heap.size 3 i0 1 Tryz.underlying36 hi0 v7 (0 + 1) ([] ++ [.int .i64 (m : Int)]) rfl hown7 rfl ?_
    refine hK.out _ _ trivial (fun hHeld => ?_)
    clear hK
    try simp only [Act.put]
    refine wpAnyH_ready (rs := [8]) (by kernel_rfl) (by simp) ?_
    refine AllReadyH.cons (o := _) rfl (fun _ hK => ?_) AllReadyH.nil
    go_simp
    refine hK.out _ _ trivial (fun hHeld => ?_)
    clear hK
    try simp only [Act.put, List.setIfInBounds_toArray, List.set_cons_zero, List.set_cons_succ]
    refine wpAnyH_done (by kernel_rfl) ?_ _
    have hown9 : w7.ownsRow w.heap.size 3 1 v7 1 (intsV [m]) := hown7
    obtain ⟨A8, c8, rfl, hc8⟩ := own_cap8 hown9
    have hI8 := own_nI hown9
    have hfr : FromB B A8 := fun g off e => by subst e; exact Nat.le_trans hBw (hown9.lt g rfl).1
    clear hown9 hown7 hg7
    go_wp2
    go_ret
    exact ⟨A8, c8, [m], rfl, hc8, hI8, List.pairwise_singleton _ _, fun x => by simp, by simp, hfr, hB7⟩
theorem rwith8_any (A : Option Addr) (c : Nat) (l : List Nat) (m : Nat) (hfl : l.length ≤ 1000) (hs : srtN l) (hlc : l.length ≤ c) (hn : l = [] → A = none ∧ c = 0) (w : World) {B : Nat} (hBw : B ≤ w.heap.size) (hBo : FromB B A) (hz : IntsAt w w.heap.size (.slice A l.length c) (nI l)) :
    Calls Tryz.prog 37 #[.slice A l.length c, .int .i64 m] w (WithDone B w l m) := by
  by_cases h0 : l = []
  · subst h0
    obtain ⟨rfl, rfl⟩ := hn rfl
    exact rwith8_nil m w hBw
  · have h1 : 0 < l.length := List.length_pos_iff.2 h0
    cases A with
    | none =>
      obtain ⟨A0, c0, e0, -, hc⟩ := hz
      simp only [Value.slice.injEq] at e0
      obtain ⟨rfl, -, -⟩ := e0
      obtain ⟨b, off, e, -⟩ := hc (by rw [nI_len]; exact h1)
      cases e
    | some a => exact rwith8_some a c l m hfl hs hlc h1 w hBw hBo hz
end Go.Proofs.YtehpccanjlaokaaGreat
