/- The statement QueuePlays returns true: its walk. -/
import Derived.Test.YtomffkdfgfenpaaQTin
import Derived.Test.YtomffkdfgfenpaaQInt
namespace Go.Proofs.Ytomffkdfgfenpaa
open Go.RowKit

structure QP (base : Nat) (w : World) (Q : Nat) (q g : Value) (l : List Int) : Prop where
  qm : QM 26 3 1 base w Q q l.length (ints l)
  row : TR w base 3 1 g l.length (ints l)
  ap : ∀ k, Foot Q q k → g.ownBlock ≠ some k
theorem QP.below {base : Nat} {w w' : World} {Q : Nat} {q g : Value} {l : List Int} (h : QP base w Q q g l) (hb : Below w.heap.size w w') : QP base w' Q q g l := ⟨h.qm.below hb, h.row.below hb, h.ap⟩

set_option maxRecDepth 100000 in
set_option maxHeartbeats 2000000 in
theorem qplays_walk (A : Option Addr) (cp : Nat) (l : List Int) (w : World) (hl : Nums .i16 w A l) (hbd : ∀ x ∈ l, -32768 ≤ x ∧ x ≤ 32767) :
    Calls Try.prog 3 #[.slice A l.length cp] w fun e w' => e = .returned (.bool true) ∧ Below w.heap.size w w' := by
  obtain ⟨i0, hi0, hz0, hz1, hz2⟩ := info_parts qInfoI
  obtain ⟨n, hn⟩ : ∃ n, l.length = n := ⟨_, rfl⟩
  rw [hn]
  have HN := Lib.hid hn
  have HL := Lib.hid hl
  clear hn hl
  go_enter Try.func3, Try.ntmps3
  go_wp2_with fail
  refine (qawake_any _).mono ?_
  rintro e w1 ⟨rfl, hb1⟩
  by_cases hbig : 300 < n
  · have hbig' : (300 : Int) < (n : Int) := by omega
    go_wp2_with fail
    refine (qawake_any _).mono ?_
    rintro e w2 ⟨rfl, hb2⟩
    go_wp2_with fail
    go_ret
    exact ⟨rfl, hb1.trans (hb2.mono hb1.size)⟩
  · have hbig' : ¬ (300 : Int) < (n : Int) := by omega
    have hs1 := hb1.size
    have hQ := QM.new w1 26 3 1 w.heap.size hs1
    have hB2 := hb1.alloc hs1 (.cells #[.slice none 0 0] 26)
    obtain ⟨Q, hQQ⟩ : ∃ Q, w1.heap.size = Q := ⟨_, rfl⟩
    obtain ⟨w2, hw2⟩ : ∃ w2, w1.alloc (.cells #[.slice none 0 0] 26) = w2 := ⟨_, rfl⟩
    have hP : QP w.heap.size w2 Q (.slice none 0 0) (.slice none 0 0) [] := by
      rw [hw2, hQQ] at hQ
      exact ⟨hQ, TR.nil _ _ _ _, fun k _ hk => by simp [Value.ownBlock] at hk⟩
    rw [hw2] at hB2
    go_wp2_with fail
    clear hQ hQQ hw2 hb1 hs1
    go_loopw [4, 21] (fun g i wr => ∃ (k : Nat) (q : Value) (m : List Int), k ≤ n ∧ m.length ≤ k ∧ i = .int .i64 k ∧ QP w.heap.size wr Q q g m ∧ Below w.heap.size w wr) (fun _ i _ => n - (intOf i).toNat)
    case atStart => exact ⟨0, _, [], Nat.zero_le _, Nat.le_refl _, rfl, hP, hB2⟩
    case round =>
      clear hP hB2
      obtain ⟨k, q, m, hk, hm, rfl, hP, hB⟩ := hrel
      obtain ⟨A1, c1, rfl⟩ := hP.row.form
      have hbs := hB.size
      by_cases hlt : k < n
      · have hx : ∃ x, l[k]? = some x := ⟨l[k]'(by rw [HN.out]; exact hlt), by simp [HN.out, hlt]⟩
        obtain ⟨x, hx⟩ := hx
        have hxb := hbd x (List.mem_of_getElem? hx)
        obtain ⟨b, o, rfl, hc0⟩ := HL.out k x hx
        have hc := (hB.cell (World.block_lt_of_cell? w _ hc0)).trans hc0
        have HX := Lib.hid hx
        have HP := Lib.hid hP
        clear hx hP
        have hRest : True := trivial
        have hRest : True := trivial
        have hRest : True := trivial
        have hRest : True := trivial
        have hRest : True := trivial
        by_cases hpar : x.tmod 2 = 0
        case' pos =>
          have h1 := HP.out.qm
          go_wp2_with fail
          refine (qpushI w.heap.size Q q m.length (ints m) x wr h1 hbs (by omega)).mono ?_
          rintro e w3 ⟨rfl, q3, hq3, hst3⟩
          have hr3 := HP.out.row.turns hst3.1 (fun k hk hf => HP.out.ap k hf hk)
          have ha3 : ∀ k, Foot Q q3 k → (Value.slice A1 m.length c1).ownBlock ≠ some k := fun k hk hg => HP.out.ap k (hst3.2 k (HP.out.row.lt k hg).2 hk) hg
          have hB3 : Below w.heap.size w w3 := hB.trans (hst3.1.below hbs fun k hk => (h1.lt k hk).1)
          have hc3 : w3.cell? ⟨b, o + k, none⟩ = some (.int .i16 x) := (hB3.cell (World.block_lt_of_cell? w _ hc0)).trans hc0
          have hb4 := (Below.refl _ w3).alloc (Nat.le_refl _) (.cells #[.int .i64 x] 3)
          have hq4 := hq3.below hb4
          have hr4 := hr3.below hb4
          have hs4 := one_source w3 3 [.int .i64 x]
          have hB4 := hB3.trans (hb4.mono hB3.size)
          have hbs4 := hB4.size
          obtain ⟨w4, hw4⟩ : ∃ w4, w3.alloc (.cells #[.int .i64 x] 3) = w4 := ⟨_, rfl⟩
          rw [show [(Value.int .i64 x)].toArray = #[.int .i64 x] from rfl] at hs4
          rw [hw4] at hq4 hr4 hs4 hB4 hbs4
          have HQ4 := Lib.hid hq4
          have HA3 := Lib.hid ha3
          have hone : ∀ u ∈ [(Value.int .i64 x)], u.oneCell' = true := by intro u hu; simp at hu; subst hu; rfl
          clear h1 hq3 hr3 hst3 hq4 ha3 hc hb4 hB3
          go_wp2_with (at_builtin; refine wpList_append_tail rfl _ _ 24 rfl w.heap.size 3 i0 (.int .i64 0) 1 8 Try.underlying24 hi0 hz0 hz1 hz2 rfl (by decide) _ m.length (ints m) rfl hr4 _ 1 [.int .i64 x] rfl rfl hs4 hone ?c4 ?c5 hbs4 ?_)
          case c4 => unfold maxLen; omega
          case c5 => omega
          intro g5 w5 o5 gr5 f5
          obtain ⟨A5, c5, rfl⟩ := o5.form
          have hP5 : QP w.heap.size w5 Q q3 (.slice A5 (m.length + 1) c5) (m ++ [x]) := by
            refine ⟨?_, ?_, ?_⟩
            · rw [List.length_append, ints_append]
              exact HQ4.out.turns (.of_grown gr5 (S := fun k => (Value.slice A1 m.length c1).ownBlock = some k) fun k hk => hk) (fun k hk hg => HA3.out k hk hg)
            · rw [List.length_append, ints_append]
              exact o5
            · intro k hk hg
              rcases f5 with e | e
              · exact HA3.out k hk (e ▸ hg)
              · have := e k hg
                have := (HQ4.out.lt k hk).2
                omega
          have hB5 : Below w.heap.size w w5 := hB4.grown gr5 hbs4 (fun j hj => (hr4.lt j hj).1)
          obtain ⟨q5, hq5⟩ : ∃ q5, q5 = q3 := ⟨_, rfl⟩
          rw [← hq5] at hP5
          obtain ⟨m5, hm5⟩ : ∃ m5, m5 = m ++ [x] := ⟨_, rfl⟩
          have hml : m5.length = m.length + 1 := by rw [hm5]; simp
          rw [← hm5] at hP5
          have hmk : m5.length ≤ k + 1 := by omega
          rw [← hml] at hP5 ⊢
          clear hml hm5 hq5 HQ4 HA3 hr4 hs4 hB4 hbs4 hw4 o5 gr5 f5 hone hc3 hRest HP hB hm
          obtain ⟨Aq, cq, rfl⟩ := hP5.qm.row.form
          have HP5 := Lib.hid hP5
          clear hP5
          go_wp2_with fail
          refine (qlenI w.heap.size Q _ m5.length _ w5 HP5.out.qm).mono ?_
          rintro e w6 ⟨rfl, hb6⟩
          have HP6 := Lib.hid (HP5.out.below hb6)
          have hB6 := hB5.trans (hb6.mono hB5.size)
          have kq := HP6.out.qm.cell.1
          clear HP5 hb6 hB5
          go_wp2_with fail
          go_loopw [102] (fun i wr2 => ∃ j : Nat, j ≤ m5.length ∧ i = .int .i64 j ∧ Below w6.heap.size w6 wr2) (fun i _ => m5.length - (intOf i).toNat)
          case atStart => exact ⟨0, Nat.zero_le _, rfl, Below.refl _ _⟩
          case round =>
            obtain ⟨j, hj, rfl, hb7⟩ := hrel
            by_cases hlj : j < m5.length
            · obtain ⟨y, hy⟩ : ∃ y, m5[j]? = some y := ⟨m5[j], by simp [hlj]⟩
              have h7 := HP6.out.below hb7
              have k7 := h7.qm.cell.1
              obtain ⟨g1, o1, rfl, _, _, d1, _⟩ := h7.qm.row.cells (by omega)
              obtain ⟨g2, o2, rfl, _, _, d2, _⟩ := h7.row.cells (by omega)
              have e1 := d1 j _ (by omega) (ints_get hy)
              have e2 := d2 j _ (by omega) (ints_get hy)
              have hj1 : (0 : Int) ≤ (j : Int) := by omega
              have hj2 : (j : Int) < (m5.length : Int) := by omega
              clear h7 d1 d2 kq hy
              go_wp2_with fail
              go_quiet (fail)
              go_wp2_with fail
              go_roundw
              case rel => exact ⟨j + 1, by omega, by go_num, hb7.trans ⟨rfl, rfl, rfl, Nat.le_refl _, fun _ _ => rfl⟩⟩
              case measure => simp [intOf]; omega
            · have HP7 := Lib.hid (HP6.out.below hb7)
              have hB7 := hB6.trans (hb7.mono hB6.size)
              clear HP6 hB6 hb7 kq
              go_wp2_with fail
              go_roundw
              case rel => exact ⟨k + 1, _, m5, by omega, hmk, by go_num, HP7.out, hB7⟩
              case measure => simp [intOf]; omega
        case' neg =>
          cases m with
          | nil =>
            have h1 := HP.out.qm
            go_wp2_with fail
            refine (qpeek0I w.heap.size Q q (ints []) wr h1).mono ?_
            rintro e w3 ⟨rfl, hb3⟩
            have h3 := h1.below hb3
            go_wp2_with fail
            refine (qpop0I w.heap.size Q q (ints []) w3 h3).mono ?_
            rintro e w5 ⟨rfl, hb4⟩
            have hP5 := (HP.out.below hb3).below hb4
            have hB5 := (hB.trans (hb3.mono hbs)).trans (hb4.mono (hB.trans (hb3.mono hbs)).size)
            obtain ⟨Aq, cq, rfl⟩ := hP5.qm.row.form
            have HP5 := Lib.hid hP5
            clear h1 h3 hb3 hb4 hc hc0 HP hB hP5
            go_wp2_with fail
            refine (qlenI w.heap.size Q _ 0 _ w5 HP5.out.qm).mono ?_
            rintro e w6 ⟨rfl, hb6⟩
            have HP6 := Lib.hid (HP5.out.below hb6)
            have hB6 := hB5.trans (hb6.mono hB5.size)
            have kq : w6.cell? ⟨Q, 0, none⟩ = some (.slice Aq 0 cq) := HP6.out.qm.cell.1
            clear HP5 hb6 hB5
            go_wp2_with fail
            go_loopw [102] (fun i wr2 => i = .int .i64 0 ∧ Below w6.heap.size w6 wr2) (fun _ _ => 0)
            case atStart => exact ⟨rfl, Below.refl _ _⟩
            case round =>
              obtain ⟨rfl, hb7⟩ := hrel
              have HP7 := Lib.hid (HP6.out.below hb7)
              have hB7 := hB6.trans (hb7.mono hB6.size)
              clear HP6 hB6 hb7 kq
              go_wp2_with fail
              go_roundw
              case rel => exact ⟨k + 1, _, [], by omega, by simp, by go_num, HP7.out, hB7⟩
              case measure => simp [intOf]; omega
          | cons y r =>
            have h1 := HP.out.qm
            go_wp2_with fail
            refine (qpeekI w.heap.size Q q r.length y (ints r) wr h1 (by simp at hm; omega)).mono ?_
            rintro e w3 ⟨rfl, hb3⟩
            have hP3 := HP.out.below hb3
            have hB3 := hB.trans (hb3.mono hbs)
            go_wp2_with fail
            refine (qpopI w.heap.size Q q r.length y (ints r) w3 hP3.qm (by simp at hm; omega)).mono ?_
            rintro e w5 ⟨rfl, hq5, hst5⟩
            have hr5 := hP3.row.turns hst5.1 (fun k hk hf => hP3.ap k hf hk)
            have hB5 := hB3.trans (hst5.1.below hB3.size fun k hk => (hP3.qm.lt k hk).1)
            have ha5 : ∀ k, Foot Q (tailV q 1 1) k → (tailV (.slice A1 (r.length + 1) c1) 1 1).ownBlock ≠ some k := fun k hk hg => by
              rw [tailV_own] at hg
              refine HP.out.ap k (hst5.2 k ?_ hk) hg
              exact (hP3.row.lt k hg).2
            have hP5 : QP w.heap.size w5 Q (tailV q 1 1) (tailV (.slice A1 (r.length + 1) c1) 1 1) r := ⟨hq5, tail_ints hr5, ha5⟩
            obtain ⟨g, off, rfl, _, hnc, d5, _⟩ := hr5.cells (Nat.succ_pos _)
            have e5 := d5 0 _ (by simp) (ints_get (x := y) (l := y :: r) rfl)
            rw [Nat.add_zero] at e5
            have hmk : r.length ≤ k + 1 := by simp at hm; omega
            clear h1 hP3 hB3 hb3 hc hc0 HP hB hq5 hst5 hr5 ha5 d5
            obtain ⟨Aq, cq, hqe⟩ := hP5.qm.row.form
            rw [hqe] at hP5
            clear hqe
            go_wp2_with fail
            case' inl =>
              subst h
              have e1 : tailV (.slice (some ⟨g, off, none⟩) (r.length + 1) 1) 1 1 = .slice (some ⟨g, off, none⟩) r.length 0 := by simp [tailV]
              rw [e1] at hP5
              clear e1
            case' inr =>
              have e1 : tailV (.slice (some ⟨g, off, none⟩) (r.length + 1) c1) 1 1 = .slice (some ⟨g, off + 1, none⟩) r.length (c1 - 1) := by simp [tailV, h, Addr.add]
              rw [e1] at hP5
              clear e1
            all_goals
              have HP5 := Lib.hid hP5
              clear hP5
              refine (qlenI w.heap.size Q _ r.length _ w5 HP5.out.qm).mono ?_
              rintro e w6 ⟨rfl, hb6⟩
              have HP6 := Lib.hid (HP5.out.below hb6)
              have hB6 := hB5.trans (hb6.mono hB5.size)
              have kq := HP6.out.qm.cell.1
              clear HP5 hb6 hB5
              go_wp2_with fail
              go_loopw [102] (fun i wr2 => ∃ j : Nat, j ≤ r.length ∧ i = .int .i64 j ∧ Below w6.heap.size w6 wr2) (fun i _ => r.length - (intOf i).toNat)
              case atStart => exact ⟨0, Nat.zero_le _, rfl, Below.refl _ _⟩
              case round =>
                obtain ⟨j, hj, rfl, hb7⟩ := hrel
                by_cases hlj : j < r.length
                · obtain ⟨y, hy⟩ : ∃ y, r[j]? = some y := ⟨r[j], by simp [hlj]⟩
                  have h7 := HP6.out.below hb7
                  have k7 := h7.qm.cell.1
                  obtain ⟨g1, o1, rfl, _, _, d1, _⟩ := h7.qm.row.cells (by omega)
                  have e1 := d1 j _ (by omega) (ints_get hy)
                  have e2 := h7.row.cellAt j _ (by omega) (ints_get hy)
                  have hj1 : (0 : Int) ≤ (j : Int) := by omega
                  have hj2 : (j : Int) < (r.length : Int) := by omega
                  clear h7 d1 kq hy
                  go_wp2_with fail
                  go_quiet (fail)
                  go_wp2_with fail
                  go_roundw
                  case rel => exact ⟨j + 1, by omega, by go_num, hb7.trans ⟨rfl, rfl, rfl, Nat.le_refl _, fun _ _ => rfl⟩⟩
                  case measure => simp [intOf]; omega
                · have HP7 := Lib.hid (HP6.out.below hb7)
                  have hB7 := hB6.trans (hb7.mono hB6.size)
                  clear HP6 hB6 hb7 kq
                  go_wp2_with fail
                  go_roundw
                  case rel => exact ⟨k + 1, _, r, by omega, hmk, by go_num, HP7.out, hB7⟩
                  case measure => simp [intOf]; omega
      · go_wp2_with fail
        go_ret
        exact ⟨rfl, hB⟩
end Go.Proofs.Ytomffkdfgfenpaa
