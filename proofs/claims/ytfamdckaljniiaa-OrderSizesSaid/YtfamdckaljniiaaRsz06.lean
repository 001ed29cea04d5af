/- The document's Size. -/
import Derived.Test.YtfamdckaljniiaaRow06
import Derived.Maps.AppendAt
namespace Go.Proofs.Ytfamdckaljniiaa
open Go.RowKit Go.Joins

theorem b6loop (s : ByteArray) : ∀ (n i : Nat) (r : List UInt8), n = s.size - i → ByteArray.toList.loop s i r = r.reverse ++ s.data.toList.drop i := by
  intro n
  induction n with
  | zero =>
    intro i r h
    unfold ByteArray.toList.loop
    rw [if_neg (by omega), List.drop_of_length_le (by rw [← Lib.size_eq]; omega)]
    simp
  | succ n ih =>
    intro i r h
    unfold ByteArray.toList.loop
    have hi : i < s.data.toList.length := by rw [← Lib.size_eq]; omega
    rw [if_pos (by omega), ih (i + 1) _ (by omega), List.drop_eq_getElem_cons hi, List.reverse_cons, List.append_assoc]
    congr 1
    show [s.get! i] ++ _ = _ :: _
    have : s.get! i = s.data.toList[i] := by
      have hi' : i < s.data.size := by simpa using hi
      obtain ⟨d⟩ := s
      show d[i]! = _
      rw [getElem!_pos d i hi']
      simp
    rw [this]; rfl
theorem rs_toList (r : List Bool) : (rs r).toList = r.map rb := by
  unfold ByteArray.toList
  rw [b6loop (rs r) (rs r).size 0 [] (by omega)]
  simp [rs]
theorem rs_beq (a b : List Bool) : ((rs a).toList == (rs b).toList) = (a == b) := by
  rw [rs_toList, rs_toList, Bool.eq_iff_iff]
  simp only [beq_iff_eq]
  exact ⟨fun h => (List.map_inj_right (fun x y h => rb_inj h)).1 h, fun h => by rw [h]⟩
def strsV (l : List (List Bool)) : List Value := l.map fun r => Value.string (rs r)
theorem Try.infoString6 : (Try.prog.info? 9).map (fun i => (i.zero, i.size, i.bytes)) = some (some (.string ⟨#[]⟩), 1, 16) := by kernel_rfl
/-- Of the rows met, the first k are unlike r. -/
def freshK (M : List (List Bool)) (r : List Bool) (k : Nat) : Bool := turnsB r && (M.take k).all (fun y => y != r)
theorem freshK_zero (M : List (List Bool)) (r : List Bool) : freshK M r 0 = turnsB r := by unfold freshK; simp
theorem freshK_succ {M : List (List Bool)} {r y : List Bool} {k : Nat} (h : M[k]? = some y) : freshK M r (k + 1) = (freshK M r k && (y != r)) := by
  unfold freshK
  rw [List.take_add_one, h, List.all_append]
  simp [Bool.and_assoc]
theorem metB_len {F : (Nat → Bool) → Bool} {n k : Nat} : ∀ A, (metB F n k A).length ≤ A
  | 0 => Nat.le_refl _
  | A + 1 => by
    have ih := metB_len (F := F) (n := n) (k := k) A
    unfold metB
    split
    · simp; omega
    · omega
theorem row_len (F : (Nat → Bool) → Bool) (n k a : Nat) : (rowB F n k a).length = 2 ^ (n - k) := by unfold rowB; simp
set_option maxHeartbeats 4000000 in
set_option maxRecDepth 100000 in
theorem rsize6_any (X : BitVec 256) {o : List Nat} (ho : OrdOk o) (h8 : o.length ≤ 8) (ov : Value) (w : World) (hz : IntsAt w w.heap.size ov (ofN o)) :
    Calls Try.prog 23 #[sv X, ov] w fun e w' => e = .returned (.int .i64 (sizeB (setF o X) o.length o.length)) ∧ Below w.heap.size w w' := by
  obtain ⟨i0, hi0, hz0, hz1, hz2⟩ := info_parts Try.infoString6
  have HF := fun w => flags_any2 X w
  have hB := below_alloc1 w (.cells (sa X) 42)
  have hzz := Lib.hid hz
  obtain ⟨A, c, rfl, hzl, -⟩ := hz
  have hbx := heap_alloc_new w (.cells (sa X) 42)
  obtain ⟨s0, s1, s2, s3, -⟩ := now4 hbx rfl
  rw [ofN_len] at hzz hzl ⊢
  unfold sv wv at *
  unfold sa wv at hB s0 s1 s2 s3
  go_enter Try.func23, Try.ntmps23
  go_wp2_with fail
  refine (HF _).mono ?_
  rintro e w1 ⟨b, cap, rfl, hb0, hb1, hbc, hbb⟩
  have hB1 := hB.trans (hbb.mono hB.size)
  clear HF hB hbx s0 s1 s2 s3 hbb
  go_wp2
  obtain ⟨wq, rfl⟩ : ∃ wq : World, wq = w1 := ⟨_, rfl⟩
  go_loopw [6, 7, 8, 9, 10, 11, 12, 13] (fun a t p _ _ _ _ _ wr => ∃ pl q z : Nat, pl ≤ o.length ∧ q = 2 ^ pl ∧ q ≤ 256 ∧ z = sizeB (setF o X) o.length pl ∧ z ≤ pl * 256 ∧ p = .int .i64 pl ∧ t = .int .i64 q ∧ a = .int .i64 z ∧ Below wq.heap.size wq wr) (fun _ _ p _ _ _ _ _ _ => o.length - (intOf p).toNat)
  case atStart => exact ⟨0, 1, 0, by omega, rfl, by decide, rfl, by decide, rfl, rfl, rfl, Below.refl _ _⟩
  case round =>
    obtain ⟨pl, q, z, hpl, hq, hq8, hzs, hz8, rfl, rfl, rfl, hb⟩ := hrel
    by_cases hlt : pl < o.length
    · have hdl : decide ((pl : Int) < (o.length : Int)) = true := by simp; omega
      have hqH := Lib.hid hq
      have hzH := Lib.hid hzs
      clear hq hzs
      go_wp2
      obtain ⟨wo, rfl⟩ : ∃ wo : World, wo = wr := ⟨_, rfl⟩
      go_loopw [9, 10, 11, 12, 13] (fun m t _ _ _ wr => ∃ ah : Nat, ah ≤ q ∧ t = .int .i64 ah ∧ wr.ownsRow wq.heap.size 9 1 m (metB (setF o X) o.length pl ah).length (strsV (metB (setF o X) o.length pl ah)) ∧ Below wq.heap.size wq wr) (fun _ t _ _ _ _ => q - (intOf t).toNat)
      case atStart => exact ⟨0, by omega, rfl, World.ownsRow_nil _ _ _ _, hb⟩
      case round =>
        clear hb
        obtain ⟨ah, hah, rfl, hown, hb⟩ := hrel
        have hml := metB_len (F := setF o X) (n := o.length) (k := pl) ah
        have hrl := row_len (setF o X) o.length pl ah
        have hr256 := two_eight (n := o.length - pl) (by omega)
        have hmB : Hid (metB (setF o X) o.length pl (ah + 1) = if turnsB (rowB (setF o X) o.length pl ah) && (metB (setF o X) o.length pl ah).all (fun y => y != rowB (setF o X) o.length pl ah) then metB (setF o X) o.length pl ah ++ [rowB (setF o X) o.length pl ah] else metB (setF o X) o.length pl ah) := Lib.hid rfl
        obtain ⟨Am, cm, rfl⟩ := own_form hown
        by_cases haq : ah < q
        · have hBw := hB1.trans (hb.mono hB1.size)
          have HR := row6_any X ho h8 b cap (.slice A o.length c) pl ah hpl (by rw [← hqH.out]; exact haq) wr (Nat.lt_of_lt_of_le hb1 hb.size) (fun p hp => (hb.cell (p := ⟨b, p, none⟩) hb1).trans (hbc p hp)) ((hzz.out.below hBw).more hBw.size)
          have HT := fun w => turns_any (rowB (setF o X) o.length pl ah) (by omega) w
          generalize rowB (setF o X) o.length pl ah = r at *
          generalize hM : metB (setF o X) o.length pl ah = M at *
          clear hM
          have hda : decide ((ah : Int) < (q : Int)) = true := by simp; omega
          clear hBw
          go_wp2_with fail
          refine HR.mono ?_
          rintro e w2 ⟨rfl, hb2⟩
          have hown2 := owns_below hown hb2
          have hb2' := hb.trans (hb2.mono hb.size)
          clear HR hown hb hb2
          go_wp2_with fail
          refine (HT _).mono ?_
          rintro e w3 ⟨rfl, hb3⟩
          have hown3 := owns_below hown2 hb3
          have hb3' := hb2'.trans (hb3.mono hb2'.size)
          clear HT hown2 hb2' hb3
          go_wp2
          obtain ⟨wv3, rfl⟩ : ∃ wv3 : World, wv3 = w3 := ⟨_, rfl⟩
          go_loopw [12, 13] (fun f t wr => ∃ k : Nat, k ≤ M.length ∧ t = .int .i64 k ∧ f = .bool (freshK M r k) ∧ wr = wv3) (fun _ t _ => M.length - (intOf t).toNat)
          case atStart => exact ⟨0, by omega, rfl, by rw [freshK_zero], rfl⟩
          case round =>
            obtain ⟨k, hk, rfl, rfl, rfl⟩ := hrel
            by_cases hkm : k < M.length
            · obtain ⟨y, hy⟩ : ∃ y, M[k]? = some y := ⟨_, List.getElem?_eq_getElem hkm⟩
              obtain ⟨g, cg, hA⟩ := own_some hown3 (by omega)
              obtain rfl : Am = some ⟨g, 0, none⟩ := by injection hA
              have qk := (hown3.cellAt k (by simpa using hkm)).trans (show (strsV M)[k]? = some (.string (rs y)) by unfold strsV; simp [hy])
              have hst := Lib.hid (freshK_succ (r := r) hy)
              have hcmp := rs_beq y r
              have hdm : decide ((k : Int) < (M.length : Int)) = true := by simp; omega
              clear hA hy
              cases hfk : freshK M r k
              · have hst' : Hid (freshK M r (k + 1) = false) := Lib.hid (hst.out.trans (by simp [hfk]))
                clear hst hfk
                go_wp2
                go_roundw
                case rel => exact ⟨k + 1, by omega, by go_num, by rw [hst'.out], by first | rfl | trivial⟩
                case measure => simp [intOf]; omega
              · have hst' : Hid (freshK M r (k + 1) = !(y == r)) := Lib.hid (hst.out.trans (by simp [hfk]; rfl))
                clear hst hfk
                generalize hR : rs r = R at *
                generalize hY : rs y = Y at *
                clear hR hY
                go_wp2
                go_roundw
                case rel => exact ⟨k + 1, by omega, by go_num, by rw [hst'.out], by first | rfl | trivial⟩
                case measure => simp [intOf]; omega
            · have hfin : Hid ((turnsB r && M.all (fun y => y != r)) = freshK M r k) := Lib.hid (by unfold freshK; rw [List.take_of_length_le (by omega)])
              have hmB' : Hid (metB (setF o X) o.length pl (ah + 1) = if freshK M r k then M ++ [r] else M) := Lib.hid (by rw [hmB.out, hfin.out])
              clear hmB hfin
              cases hfk : freshK M r k
              · have hmC : Hid (metB (setF o X) o.length pl (ah + 1) = M) := Lib.hid (by rw [hmB'.out, hfk]; rfl)
                clear hmB' hfk
                go_wp2
                go_roundw
                case rel => exact ⟨ah + 1, by omega, by go_num, by rw [hmC.out]; exact hown3, hb3'⟩
                case measure => simp [intOf]; omega
              · have hmC : Hid (metB (setF o X) o.length pl (ah + 1) = M ++ [r]) := Lib.hid (by rw [hmB'.out, hfk]; rfl)
                clear hmB' hfk
                have hwz := hb3'.size
                go_wp2_with (at_builtin; go_loud (refine wpList_append_own_at _ rfl _ _ 64 rfl wq.heap.size 9 i0 (.string ⟨#[]⟩) 1 16 Try.underlying64 hi0 hz0 hz1 hz2 rfl (by decide) _ _ _ rfl (hown3.alloc _) ⟨wr.heap.size, 0, none⟩ 1 1 [.string (rs r)] rfl rfl ?c1 ?c2 ?c3 ?c4 ?c5 ?_))
                case c1 =>
                  intro j u hj
                  match j, hj with
                  | 0, hj =>
                    simp at hj
                    subst hj
                    rw [Addr.add_lit, cell_of_block (heap_alloc_new _ _)]; rfl
                case c2 => intro u hu; simp at hu; subst hu; rfl
                case c3 => unfold maxLen; omega
                case c4 => omega
                case c5 => simp; omega
                intro v' w8 ho8 hg8 _ hloc
                have hB8 := grown_below (hown3.alloc (.cells #[.string (rs r)] 9)) hg8 (hb3'.alloc hb3'.size _) (Nat.le_refl _) (by simp; omega)
                have ho8' : w8.ownsRow wq.heap.size 9 1 v' (metB (setF o X) o.length pl (ah + 1)).length (strsV (metB (setF o X) o.length pl (ah + 1))) := by
                  rw [hmC.out, List.length_append]
                  have e2 : strsV (M ++ [r]) = strsV M ++ [.string (rs r)] := by unfold strsV; simp
                  rw [e2]
                  exact ho8
                clear hg8 hown3 ho8 hloc
                go_wp2
                go_roundw
                case rel => exact ⟨ah + 1, by omega, by go_num, ho8', hB8⟩
                case measure => simp [intOf]; omega
        · have hpq : ah = 2 ^ pl := by rw [← hqH.out]; omega
          have hnext : Hid (z + (metB (setF o X) o.length pl ah).length = sizeB (setF o X) o.length (pl + 1)) := Lib.hid (by rw [hpq]; unfold sizeB; rw [← hzH.out])
          have hq2 := two_eight (n := pl + 1) (by omega)
          have hq3 : Hid (q * 2 = 2 ^ (pl + 1)) := Lib.hid (by rw [hqH.out, Nat.pow_succ])
          have hq4 : q * 2 ≤ 256 := by rw [hq3.out]; exact hq2
          clear hpq hq2 hmB hown
          generalize (metB (setF o X) o.length pl ah).length = ml at *
          go_wp2
          go_roundw
          case rel => exact ⟨pl + 1, q * 2, z + ml, by omega, hq3.out, hq4, hnext.out, by omega, by go_num, by go_num, by go_num, hb⟩
          case measure => simp [intOf]; omega
    · have hfin : Hid (z = sizeB (setF o X) o.length o.length) := Lib.hid (by rw [hzs, show pl = o.length by omega])
      clear hzs hq
      go_wp2
      go_ret
      exact ⟨by rw [← hfin.out]; rfl, hB1.trans (hb.mono hB1.size)⟩
end Go.Proofs.Ytfamdckaljniiaa
