/- Line by line: the closure of Parse, eachLine. -/
import Derived.Test.YtpjjnafegngdkaaDoorRead03b
namespace Go.Proofs.YtpjjnafegngdkaaDoor
open Go.RowKit Go.Joins

theorem split10 : ∀ l : List UInt8, (∃ a r, l = a ++ 10 :: r ∧ ∀ c ∈ a, c ≠ 10) ∨ (∀ c ∈ l, c ≠ 10)
  | [] => Or.inr (by simp)
  | c :: l => by
    by_cases h : c = 10
    · subst h
      exact Or.inl ⟨[], l, rfl, by simp⟩
    · rcases split10 l with ⟨a, r, e, ha⟩ | ha
      · refine Or.inl ⟨c :: a, r, by rw [e]; rfl, ?_⟩
        intro x hx
        rcases List.mem_cons.1 hx with rfl | hx
        · exact h
        · exact ha x hx
      · refine Or.inr ?_
        intro x hx
        rcases List.mem_cons.1 hx with rfl | hx
        · exact h
        · exact ha x hx
theorem step_last {d d' : Dr} {line : List UInt8} (h : stepD d line = .inr d') : d'.last ≤ 6 := by
  unfold stepD at h
  split at h
  · split at h
    · cases h; show (1 : Int) ≤ 6; decide
    · cases h
  · split at h
    · split at h
      · cases h; show (2 : Int) ≤ 6; decide
      · cases h
    · split at h
      · cases h
      · split at h
        · split at h
          · cases h; show (3 : Int) ≤ 6; decide
          · cases h
        · split at h
          · split at h
            · cases h; show (4 : Int) ≤ 6; decide
            · cases h
          · split at h
            · split at h
              · cases h; show (6 : Int) ≤ 6; decide
              · cases h
            · split at h
              · split at h
                · cases h
                · cases h; show (5 : Int) ≤ 6; decide
              · cases h
theorem take_last {d d' : Dr} {line : List UInt8} (h6 : d.last ≤ 6) (h : takeD d line = .inr d') : d'.last ≤ 6 := by
  unfold takeD at h
  split at h
  · cases h; exact h6
  · exact step_last h
set_option maxHeartbeats 1000000 in
set_option maxRecDepth 100000 in
theorem take_any (l : List UInt8) (hl : l.length ≤ 1000000) (bd : Nat) (d : Dr) (hg : GoodD d) (h6 : d.last ≤ 6) (L : Value) (w : World) (hbox : w.heap[bd]? = some (db d.k d.i d.n L d.last d.said)) (hrows : RowsAt w bd L d.ls) (hkw : KW w) (hkb : 0 < bd) :
    Calls Tryd.prog 32 #[.string (str l), .pointer (some ⟨bd, 0, none⟩)] w (StepLeaves w bd (takeD d l)) := by
  have HS := fun w => skipped_any l w
  have HR := read_any l hl bd d hg h6 L w hbox hrows hkw hkb
  cases hs : skipL l
  · have ht : takeD d l = stepD d l := by unfold takeD; rw [hs]; rfl
    rw [ht]
    rw [hs] at HS
    generalize stepD d l = R at *
    generalize str l = s at *
    clear hs ht hbox hrows hkw hg
    go_enter Tryd.func32, Tryd.ntmps32
    go_wp2_with (go_at_call 33; refine (HS _).mono ?_; rintro e w2 ⟨rfl, rfl⟩)
    refine HR.mono ?_
    intro e w1 hL
    clear HR HS
    rcases hL with ⟨x, hx, hx0, rfl, hB⟩ | ⟨d', L', hd, rfl, hk, hr, hB⟩
    · have hx' := Lib.hid hx
      clear hx
      go_wp2
      go_ret
      exact Or.inl ⟨x, hx'.out, hx0, rfl, hB⟩
    · have hd' := Lib.hid hd
      clear hd
      go_wp2
      go_ret
      exact Or.inr ⟨d', L', hd'.out, rfl, hk, hr, hB⟩
  · have ht : Hid (takeD d l = .inr d) := Lib.hid (by unfold takeD; rw [hs]; rfl)
    rw [hs] at HS
    generalize takeD d l = R at *
    generalize str l = s at *
    have hb' := Lib.hid hbox
    clear hs HR hkw hg hbox
    go_enter Tryd.func32, Tryd.ntmps32
    go_wp2_with (go_at_call 33; refine (HS _).mono ?_; rintro e w2 ⟨rfl, rfl⟩)
    go_ret
    exact Or.inr ⟨d, L, ht.out, rfl, hb'.out, hrows, Below.refl _ _⟩
/-- What eachLine leaves. -/
def EachLeaves (w : World) (bd : Nat) (R : (Nat × Int) ⊕ (Nat × Dr)) (e : Ending) (w' : World) : Prop :=
  (∃ (m : Nat) (x : Int), R = .inl (m, x) ∧ x ≠ 0 ∧ e = .returned (.tuple #[.int .i64 m, .int .i64 x]) ∧ Below bd w w') ∨
  (∃ (m : Nat) (d : Dr) (L : Value), R = .inr (m, d) ∧ Leaves w bd d.ls (.tuple #[.int .i64 m, .int .i64 0]) d.k d.i d.n L d.last d.said e w')
def strLen : Value → Nat
  | .string s => s.size
  | _ => 0
set_option maxHeartbeats 4000000 in
set_option maxRecDepth 100000 in
theorem each_any (S : List UInt8) (hS : S.length ≤ 8000) (bd : Nat) (d0 : Dr) (hg0 : GoodD d0) (h60 : d0.last ≤ 6) (L0 : Value) (w : World) (hbox0 : w.heap[bd]? = some (db d0.k d0.i d0.n L0 d0.last d0.said)) (hrows0 : RowsAt w bd L0 d0.ls) (hkw : KW w) (hkb : 0 < bd) :
    Calls Tryd.prog 31 #[.string (str S), .func (.func 32) #[] #[.pointer (some ⟨bd, 0, none⟩)]] w (EachLeaves w bd (pGo S [] d0 0)) := by
  have hcf : ∀ (args : Array Value) (w1 : World), (Sem.run Tryd.prog (callFunc 32 args) w1) = .ok (.enter 32 args) w1 := fun _ _ => by kernel_rfl
  go_enter Tryd.func31, Tryd.ntmps31
  go_wp2
  go_loopw [0, 6, 7, 8, 9, 10] (fun s0 s6 _ _ _ _ wr => ∃ (r : List UInt8) (m : Nat) (d : Dr) (L : Value), s0 = .string (str r) ∧ s6 = .int .i64 m ∧ m + r.length ≤ 8000 ∧ Hid (pGo S [] d0 0 = pGo r [] d m) ∧ Hid (GoodD d ∧ d.last ≤ 6) ∧ Hid (wr.heap[bd]? = some (db d.k d.i d.n L d.last d.said)) ∧ RowsAt wr bd L d.ls ∧ Below bd w wr) (fun s0 _ _ _ _ _ _ => strLen s0)
  case atStart => exact ⟨S, 0, d0, L0, rfl, rfl, by omega, Lib.hid rfl, Lib.hid ⟨hg0, h60⟩, Lib.hid hbox0, hrows0, Below.refl _ _⟩
  case round =>
    clear hbox0 hrows0 hg0 h60
    obtain ⟨r, m, d, L, rfl, rfl, hmr, hG, hgd, hbox, hrows, hB⟩ := hrel
    have ht := toList_str r
    have hsz := Lib.hid (size_str r)
    by_cases hr : r = []
    · have hGe : Hid (pGo S [] d0 0 = .inr (m, d)) := Lib.hid (by rw [hG.out, hr]; rfl)
      replace ht := ht.trans hr
      generalize str r = s at *
      clear hr hkw
      go_wp2
      go_ret2
      exact Or.inr ⟨m, d, L, hGe.out, rfl, hbox.out, hrows, hB⟩
    · rcases split10 r with ⟨a, q, e, ha⟩ | ha
      · have hbne : (str r).toList.isEmpty = false := by rw [toList_str]; simpa using hr
        have hne : ¬ (str r).toList = [] := by rw [toList_str]; exact hr
        have hla : a.length + q.length ≤ 8000 := by rw [e] at hmr; simp at hmr; omega
        have hmq : m + 1 + q.length ≤ 8000 := by rw [e] at hmr; simp at hmr; omega
        have hmeas : Hid ((str q).size < (str r).size) := Lib.hid (by rw [size_str, size_str, e]; simp; omega)
        have HC := fun w => cut_at a q ha (by omega) w
        rw [← e] at HC
        have hline := Lib.hid (pGo_line a q ha d m)
        rw [← e] at hline
        have HT := fun w1 hb hr hk => take_any a (by omega) bd d hgd.out.1 hgd.out.2 L w1 hb hr hk hkb
        have hgt := Lib.hid (fun (d' : Dr) (h : takeD d a = .inr d') => (⟨take_good hgd.out.1 h, take_last hgd.out.2 h⟩ : GoodD d' ∧ d'.last ≤ 6))
        have hz := size_of_block hbox.out
        clear hr e ha ht
        generalize hR : takeD d a = R at *
        clear hR
        generalize hsr : str r = s at *
        clear hsr
        generalize str a = sa at *
        go_wp2_with fail
        refine (HC _).mono ?_
        rintro e w1 ⟨rfl, hb1⟩
        have hbox1 := Lib.hid (keep_blk hb1 hbox.out)
        have hrows1 := hrows.below hb1
        have hB1 := hB.trans (hb1.mono (by omega))
        have HT1 := HT w1 hbox1.out hrows1 (hkw.low hB1 hkb)
        clear HC hb1 hbox hrows hB HT
        go_wp2_with fail
        refine HT1.mono ?_
        intro e w2 hL
        clear HT1
        rcases hL with ⟨x, hx, hx0, rfl, hB2⟩ | ⟨d', L', hd, rfl, hk, hr, hB2⟩
        · have hGx : Hid (pGo S [] d0 0 = .inl (m, x)) := Lib.hid (by rw [hG.out, hline.out, hx])
          have hxb : ((x : Int) != 0) = true := by rw [bne_iff_ne]; exact hx0
          clear hx hx0
          go_wp2
          go_ret2
          exact Or.inl ⟨m, x, hGx.out, by simpa using hxb, rfl, hB1.trans hB2⟩
        · have hGd : Hid (pGo S [] d0 0 = pGo q [] d' (m + 1)) := Lib.hid (by rw [hG.out, hline.out, hd])
          have hgd' := Lib.hid (hgt.out d' hd)
          have hk' := Lib.hid hk
          clear hd hk hgt hline
          go_wp2
          go_roundw
          case rel => exact ⟨q, m + 1, d', L', rfl, by go_num, by omega, hGd, hgd', hk', hr, hB1.trans hB2⟩
          case measure => simp only [strLen]; exact hmeas.out
      · have hbne : (str r).toList.isEmpty = false := by rw [toList_str]; simpa using hr
        have hne : ¬ (str r).toList = [] := by rw [toList_str]; exact hr
        have HC := fun w => cut_no r ha w
        have hGl : Hid (pGo S [] d0 0 = .inl (m, 2)) := Lib.hid (by rw [hG.out, pGo_last r ha hr])
        have hz := size_of_block hbox.out
        clear hr ha ht
        generalize hsr : str r = s at *
        clear hsr
        go_wp2_with fail
        refine (HC _).mono ?_
        rintro e w1 ⟨rfl, hb1⟩
        have hB1 := hB.trans (hb1.mono (by omega))
        clear HC hb1
        go_wp2
        go_ret2
        exact Or.inl ⟨m, 2, hGl.out, by decide, rfl, hB1⟩
end Go.Proofs.YtpjjnafegngdkaaDoor
