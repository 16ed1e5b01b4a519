/- The statement ArenaKinds returns true: its walk. -/
import Derived.Test.YtbjlhkgbnfkedaaARegI
import Derived.Test.YtbjlhkgbnfkedaaASlSt
import Derived.Test.YtbjlhkgbnfkedaaAStrO
import Derived.BigQuiet
import Derived.Deep.RegionHeld3
import Derived.Deep.DeepCutAuto
namespace Go.Proofs.Ytbjlhkgbnfkedaa
open Go Go.RowKit

theorem anew_exact (b s : Int) (w : World) :
    Calls Try.prog 12 #[saltV b s] w fun e w' => e = .returned (.agg #[.int .i64 b, .int .i64 s, .slice none 0 0, .slice none 0 0, .int .i64 0]) ∧ w' = (w.alloc (.cells #[.int .i64 b, .int .i64 s] 23)).alloc (.cells #[.int .i64 b, .int .i64 s, .slice none 0 0, .slice none 0 0, .int .i64 0] 29) := by
  go_enter Try.func12, Try.ntmps12
  go_wp2_with fail
  refine bodyPost_ret (v := .agg #[.int .i64 b, .int .i64 s, .slice none 0 0, .slice none 0 0, .int .i64 0]) ?_ rfl ⟨rfl, rfl⟩
  simp [results, Try.f12, go_sem]
theorem anew_exactS (b s : Int) (w : World) :
    Calls Try.prog 34 #[saltV b s] w fun e w' => e = .returned (.agg #[.int .i64 b, .int .i64 s, .slice none 0 0, .slice none 0 0, .int .i64 0]) ∧ w' = (w.alloc (.cells #[.int .i64 b, .int .i64 s] 23)).alloc (.cells #[.int .i64 b, .int .i64 s, .slice none 0 0, .slice none 0 0, .int .i64 0] 76) := by
  go_enter Try.func34, Try.ntmps34
  go_wp2_with fail
  refine bodyPost_ret (v := .agg #[.int .i64 b, .int .i64 s, .slice none 0 0, .slice none 0 0, .int .i64 0]) ?_ rfl ⟨rfl, rfl⟩
  simp [results, Try.f34, go_sem]
theorem anew_exactP (b s : Int) (w : World) :
    Calls Try.prog 35 #[saltV b s] w fun e w' => e = .returned (.agg #[.int .i64 b, .int .i64 s, .slice none 0 0, .slice none 0 0, .int .i64 0]) ∧ w' = (w.alloc (.cells #[.int .i64 b, .int .i64 s] 23)).alloc (.cells #[.int .i64 b, .int .i64 s, .slice none 0 0, .slice none 0 0, .int .i64 0] 80) := by
  go_enter Try.func35, Try.ntmps35
  go_wp2_with fail
  refine bodyPost_ret (v := .agg #[.int .i64 b, .int .i64 s, .slice none 0 0, .slice none 0 0, .int .i64 0]) ?_ rfl ⟨rfl, rfl⟩
  simp [results, Try.f35, go_sem]

theorem K_al {W : World} {B : Nat} {b s : Int} (o : Obj) (h : W.cell? ⟨B, 0, none⟩ = some (.int .i64 b) ∧ W.cell? ⟨B, 1, none⟩ = some (.int .i64 s) ∧ B + 1 ≤ W.heap.size) :
    (W.alloc o).cell? ⟨B, 0, none⟩ = some (.int .i64 b) ∧ (W.alloc o).cell? ⟨B, 1, none⟩ = some (.int .i64 s) ∧ B + 1 ≤ (W.alloc o).heap.size := by
  obtain ⟨h0, h1, h4⟩ := h
  exact ⟨(World.cell?_alloc_lt W o _ (by show B < _; omega)).trans h0, (World.cell?_alloc_lt W o _ (by show B < _; omega)).trans h1, by rw [World.size_alloc]; omega⟩
theorem kbelow_al {W0 W : World} (o : Obj) (h : Below W0.heap.size W0 W) : Below W0.heap.size W0 (W.alloc o) := h.alloc h.size o
theorem kbelow_drew {W0 W : World} (h : Below W0.heap.size W0 W) : Below W0.heap.size W0 W.drew := h.trans ⟨rfl, rfl, rfl, Nat.le_refl _, fun _ _ => rfl⟩
theorem kwhole_at (w : World) (c : Array Value) (t : TypeId) (k : Nat) (h : w.heap.size = k) : Whole (w.alloc (.cells c t)) k c t := by subst h; exact Whole.new w c t

def kOps : Array Oper := #[{ dst := some 37, op := Op.load 23 (Operand.tmp 3), type := 23, pos := "law.go:273", after := #[], guard := none }, { dst := some 38, op := Op.call { callee := Callee.value (Operand.func 12), args := #[Operand.tmp 37], argTypes := #[23] }, type := 29, pos := "law.go:273", after := #[{ on := 0, ground := Ground.data }], guard := none }, { dst := some 39, op := Op.load 23 (Operand.tmp 3), type := 23, pos := "law.go:273", after := #[], guard := none }, { dst := some 40, op := Op.call { callee := Callee.value (Operand.func 34), args := #[Operand.tmp 39], argTypes := #[23] }, type := 76, pos := "law.go:273", after := #[{ on := 2, ground := Ground.data }, { on := 1, ground := Ground.chain }], guard := none }, { dst := some 41, op := Op.load 23 (Operand.tmp 3), type := 23, pos := "law.go:273", after := #[], guard := none }, { dst := some 42, op := Op.call { callee := Callee.value (Operand.func 35), args := #[Operand.tmp 41], argTypes := #[23] }, type := 80, pos := "law.go:273", after := #[{ on := 4, ground := Ground.data }, { on := 3, ground := Ground.chain }], guard := none }, { dst := some 7, op := Op.alloc 29, type := 0, pos := "law.go:273", after := #[], guard := none }, { dst := some 8, op := Op.alloc 76, type := 0, pos := "law.go:273", after := #[], guard := none }, { dst := some 9, op := Op.alloc 80, type := 0, pos := "law.go:273", after := #[], guard := none }, { dst := none, op := Op.store 29 (Operand.tmp 7) (Operand.tmp 38), type := 0, pos := "law.go:273", after := #[{ on := 6, ground := Ground.data }, { on := 1, ground := Ground.data }, { on := 5, ground := Ground.chain }, { on := 0, ground := Ground.phase }, { on := 1, ground := Ground.phase }, { on := 2, ground := Ground.textOnly Departure.lateStores }, { on := 3, ground := Ground.phase }, { on := 4, ground := Ground.textOnly Departure.lateStores }, { on := 5, ground := Ground.phase }, { on := 6, ground := Ground.phase }, { on := 7, ground := Ground.phase }, { on := 8, ground := Ground.phase }], guard := none }, { dst := none, op := Op.store 76 (Operand.tmp 8) (Operand.tmp 40), type := 0, pos := "law.go:273", after := #[{ on := 7, ground := Ground.data }, { on := 3, ground := Ground.data }, { on := 9, ground := Ground.chain }, { on := 0, ground := Ground.phase }, { on := 1, ground := Ground.phase }, { on := 2, ground := Ground.phase }, { on := 3, ground := Ground.phase }, { on := 4, ground := Ground.textOnly Departure.lateStores }, { on := 5, ground := Ground.phase }, { on := 6, ground := Ground.phase }, { on := 7, ground := Ground.phase }, { on := 8, ground := Ground.phase }, { on := 9, ground := Ground.phase }], guard := none }, { dst := none, op := Op.store 80 (Operand.tmp 9) (Operand.tmp 42), type := 0, pos := "law.go:273", after := #[{ on := 8, ground := Ground.data }, { on := 5, ground := Ground.data }, { on := 10, ground := Ground.chain }, { on := 0, ground := Ground.phase }, { on := 1, ground := Ground.phase }, { on := 2, ground := Ground.phase }, { on := 3, ground := Ground.phase }, { on := 4, ground := Ground.phase }, { on := 5, ground := Ground.phase }, { on := 6, ground := Ground.phase }, { on := 7, ground := Ground.phase }, { on := 8, ground := Ground.phase }, { on := 9, ground := Ground.phase }, { on := 10, ground := Ground.phase }], guard := none }]
theorem edge_lt : ∀ (j : Nat) (h : j < kOps.size), ∀ e ∈ kOps[j].after, e.on < j := by decide
theorem getD_flip {L : Array Bool} {i : Nat} (h : L.getD i true = false) : L.getD i false = false := by
  rcases Nat.lt_or_ge i L.size with h' | h'
  · simpa [Array.getD, h'] using h
  · simp [Array.getD, Nat.not_lt.2 h'] at h
theorem getD_flop {L : Array Bool} {i : Nat} (hi : i < L.size) (h : ¬ L.getD i false = true) : L.getD i true = false := by
  simpa [Array.getD, hi] using h
set_option maxRecDepth 100000 in
set_option maxHeartbeats 40000000 in
theorem kinds_walk (b s : Int) (A D : Option Addr) (cp dp : Nat) (ls : List ByteArray) (ds : List Int) (w : World) (_hb : I64 b) (_hs : I64 s) (hl : StrsIn w A ls) (hd : Nums .u8 w D ds) (hd2 : ∀ x ∈ ds, 0 ≤ x ∧ x ≤ 255) :
    Calls Try.prog 10 #[saltV b s, .slice A ls.length cp, .slice D ds.length dp] w fun e w' => e = .returned (.bool true) ∧ Below w.heap.size w w' := by
  obtain ⟨i0, hi0, hz0, hz1, hz2⟩ := info_parts intInfo
  obtain ⟨n, hn⟩ : ∃ n, ls.length = n := ⟨_, rfl⟩
  obtain ⟨q, hq⟩ : ∃ q, ds.length = q := ⟨_, rfl⟩
  rw [hn, hq]
  have HN := Lib.hid hn
  have HQ := Lib.hid hq
  clear hn hq
  go_enter Try.func10, Try.ntmps10
  go_wp2_with fail
  refine (aawake_any _).mono ?_
  rintro e w1 ⟨rfl, hb1⟩
  have hS1 : Whole w1 w.heap.size #[.int .i64 b, .int .i64 s] 23 := Whole.below (Whole.new w _ _) hb1 (by simp)
  have hB1 : Below w.heap.size w w1 := ((Below.refl _ w).alloc (Nat.le_refl _) _).trans (hb1.mono (by simp))
  have hS0 : w1.cell? ⟨w.heap.size, 0, none⟩ = some (.int .i64 b) ∧ w1.cell? ⟨w.heap.size, 1, none⟩ = some (.int .i64 s) ∧ w.heap.size + 1 ≤ w1.heap.size := ⟨hS1.cell 0, hS1.cell 1, hS1.lt⟩
  clear hb1
  by_cases hbig : 100 < n ∨ 100 < q
  · rcases hbig with h | h
    · have hbig' : (100 : Int) < (n : Int) := by omega
      go_wp2_with fail
      refine (aawake_any _).mono ?_
      rintro e w2 ⟨rfl, hb2⟩
      go_wp2_with fail
      go_ret
      exact ⟨rfl, hB1.trans (hb2.mono hB1.size)⟩
    · by_cases hbig1 : (100 : Int) < (n : Int)
      · go_wp2_with fail
        refine (aawake_any _).mono ?_
        rintro e w2 ⟨rfl, hb2⟩
        go_wp2_with fail
        go_ret
        exact ⟨rfl, hB1.trans (hb2.mono hB1.size)⟩
      · have hbig' : (100 : Int) < (q : Int) := by omega
        go_wp2_with fail
        refine (aawake_any _).mono ?_
        rintro e w2 ⟨rfl, hb2⟩
        go_wp2_with fail
        go_ret
        exact ⟨rfl, hB1.trans (hb2.mono hB1.size)⟩
  · have hbig1 : ¬ (100 : Int) < (n : Int) := by omega
    have hbig2 : ¬ (100 : Int) < (q : Int) := by omega
    have hn1 : n ≤ 100 := by omega
    have hq1 : q ≤ 100 := by omega
    have HS0 := Lib.hid hS1
    clear hS0 hS1
    go_upto_region 3 with fail
    go_cut [7, 8, 9] (fun s5 s6 s7 wx => ∃ B1 B2 B3 : Nat, s5 = .pointer (some ⟨B1, 0, none⟩) ∧ s6 = .pointer (some ⟨B2, 0, none⟩) ∧ s7 = .pointer (some ⟨B3, 0, none⟩) ∧ (B1 ≠ B2 ∧ B1 ≠ B3 ∧ B2 ≠ B3 ∧ w1.heap.size ≤ B1 ∧ w1.heap.size ≤ B2 ∧ w1.heap.size ≤ B3) ∧ Whole wx B1 #[.int .i64 b, .int .i64 s, .slice none 0 0, .slice none 0 0, .int .i64 0] 29 ∧ Whole wx B2 #[.int .i64 b, .int .i64 s, .slice none 0 0, .slice none 0 0, .int .i64 0] 76 ∧ Whole wx B3 #[.int .i64 b, .int .i64 s, .slice none 0 0, .slice none 0 0, .int .i64 0] 80 ∧ Below w1.heap.size w1 wx)
    case first =>
      refine wp_region_noPanic ?_
      refine wp_region_held_drew (S := fun _ => True) (by kernel_rfl) trivial (fun _ => ?_)
      refine wpAnyH_inv (I := fun L a W => ∃ y7 y8 y9 y37 y38 y39 y40 y41 y42 : Value, a = { tmps := #[saltV b s, Value.slice A n cp, Value.slice D q dp, Value.pointer (some ⟨w.heap.size, 0, none⟩), undef, undef, Value.bool false, y7, y8, y9, undef, undef, undef, undef, undef, undef, undef, undef, undef, undef, undef, undef, undef, undef, Value.bool true, Value.bool false, Value.bool false, Value.slice A n cp, Value.int IntKind.i64 (n : Int), Value.bool (decide (100 < (n : Int))), Value.bool (decide (100 < (n : Int))), Value.bool (decide (100 < (n : Int))), Value.slice D q dp, Value.int IntKind.i64 (q : Int), Value.bool (decide (100 < (q : Int))), Value.bool (decide (100 < (n : Int)) || decide (100 < (q : Int))), undef, y37, y38, y39, y40, y41, y42, undef, undef, undef, undef, undef, undef, undef, undef, undef, undef, undef, undef, undef, undef, undef, undef, undef, undef, undef, undef, undef, undef, undef, undef, undef, undef, undef, undef, undef, undef, undef, undef, undef, undef, undef, undef, undef, undef, undef, undef, undef, undef, undef, undef, undef, undef, undef, undef, undef, undef, undef, undef, undef, undef, undef, undef, undef, undef, undef, undef, undef, undef, undef, undef, undef, undef, undef, undef, undef, undef, undef, undef, undef, undef, undef, undef, undef, undef, undef, undef, undef, undef, undef, undef, undef, undef, undef, undef, undef, undef, undef, undef, undef, undef, undef, undef, undef, undef, undef, undef, undef, undef, undef, undef, undef, undef, undef, undef, undef, undef, undef, undef, undef, undef, undef, undef, undef, undef, undef, undef, undef, undef, undef, undef, undef, undef, undef, undef, undef, undef, undef, undef, undef, undef, undef, undef, undef, undef, undef, undef, undef, undef, undef, undef], defers := [] } ∧ L.size = 12 ∧ Whole W w.heap.size #[.int .i64 b, .int .i64 s] 23 ∧ Below w1.heap.size w1 W ∧ (L.getD 0 false = true → y37 = .agg #[.int .i64 b, .int .i64 s]) ∧ (L.getD 2 false = true → y39 = .agg #[.int .i64 b, .int .i64 s]) ∧ (L.getD 4 false = true → y41 = .agg #[.int .i64 b, .int .i64 s]) ∧ (L.getD 1 false = true → y38 = .agg #[.int .i64 b, .int .i64 s, .slice none 0 0, .slice none 0 0, .int .i64 0]) ∧ (L.getD 3 false = true → y40 = .agg #[.int .i64 b, .int .i64 s, .slice none 0 0, .slice none 0 0, .int .i64 0]) ∧ (L.getD 5 false = true → y42 = .agg #[.int .i64 b, .int .i64 s, .slice none 0 0, .slice none 0 0, .int .i64 0]) ∧ (L.getD 6 false = true → ∃ B, y7 = .pointer (some ⟨B, 0, none⟩) ∧ w1.heap.size ≤ B ∧ Whole W B (if L.getD 9 false = true then #[.int .i64 b, .int .i64 s, .slice none 0 0, .slice none 0 0, .int .i64 0] else #[.int .i64 0, .int .i64 0, .slice none 0 0, .slice none 0 0, .int .i64 0]) 29) ∧ (L.getD 7 false = true → ∃ B, y8 = .pointer (some ⟨B, 0, none⟩) ∧ w1.heap.size ≤ B ∧ Whole W B (if L.getD 10 false = true then #[.int .i64 b, .int .i64 s, .slice none 0 0, .slice none 0 0, .int .i64 0] else #[.int .i64 0, .int .i64 0, .slice none 0 0, .slice none 0 0, .int .i64 0]) 76) ∧ (L.getD 8 false = true → ∃ B, y9 = .pointer (some ⟨B, 0, none⟩) ∧ w1.heap.size ≤ B ∧ Whole W B (if L.getD 11 false = true then #[.int .i64 b, .int .i64 s, .slice none 0 0, .slice none 0 0, .int .i64 0] else #[.int .i64 0, .int .i64 0, .slice none 0 0, .slice none 0 0, .int .i64 0]) 80) ∧ (L.getD 9 false = true → L.getD 6 false = true) ∧ (L.getD 10 false = true → L.getD 7 false = true) ∧ (L.getD 11 false = true → L.getD 8 false = true)) ?hs ?hd _ _ _ _ ?hc ?hI
      case hc => decide
      case hI =>
        refine ⟨undef, undef, undef, undef, undef, undef, undef, undef, undef, rfl, by simp, HS0.out, ⟨rfl, rfl, rfl, Nat.le_refl _, fun _ _ => rfl⟩, ?_, ?_, ?_, ?_, ?_, ?_, ?_, ?_, ?_, ?_, ?_, ?_⟩ <;> (intro h; exact absurd h (by decide))
      case hd =>
        rintro L a W ⟨y7, y8, y9, y37, y38, y39, y40, y41, y42, rfl, hsz, hS, hB, h0, h2, h4, h1, h3, h5, h6, h7, h8, h9, h10, h11⟩ hr
        have hall : ∀ j, j < 12 → L.getD j false = true := by
          intro j
          induction j using Nat.strongRecOn with
          | ind j ih =>
            intro hj
            by_cases hl : L.getD j false = true
            · exact hl
            · have hlb : j < (kOps).size := hj
              have hm : j ∈ Region.ready Region.Mode.any kOps L := mem_ready.2 ⟨getD_flop (by rw [hsz]; exact hj) hl, _, Array.getElem?_eq_getElem hlb, fun e he _ => ih e.on (edge_lt j hlb e he) (by have := edge_lt j hlb e he; omega)⟩
              rw [show Region.ready Region.Mode.any kOps L = [] from hr] at hm
              cases hm
        obtain ⟨B1, e7, l1, W1⟩ := h6 (hall 6 (by decide))
        obtain ⟨B2, e8, l2, W2⟩ := h7 (hall 7 (by decide))
        obtain ⟨B3, e9, l3, W3⟩ := h8 (hall 8 (by decide))
        rw [if_pos (hall 9 (by decide))] at W1
        rw [if_pos (hall 10 (by decide))] at W2
        rw [if_pos (hall 11 (by decide))] at W3
        have k0 := h0 (hall 0 (by decide))
        have k1 := h1 (hall 1 (by decide))
        have k2 := h2 (hall 2 (by decide))
        have k3 := h3 (hall 3 (by decide))
        have k4 := h4 (hall 4 (by decide))
        have k5 := h5 (hall 5 (by decide))
        subst e7 e8 e9 k0 k1 k2 k3 k4 k5
        have HF := Lib.hid (And.intro (Whole.unlike W1 W2 (by decide)) (And.intro (Whole.unlike W1 W3 (by decide)) (And.intro (Whole.unlike W2 W3 (by decide)) (And.intro l1 (And.intro l2 l3)))))
        have HW := Lib.hid (And.intro W1 (And.intro W2 (And.intro W3 hB)))
        clear h0 h1 h2 h3 h4 h5 h6 h7 h8 h9 h10 h11 hall hr hS hB hsz W1 W2 W3 l1 l2 l3
        refine NoPanic.normal ?_
        go_wp2_with fail
        go_meet
        exact ⟨_, _, _, rfl, rfl, rfl, HF.out, HW.out.1, HW.out.2.1, HW.out.2.2.1, HW.out.2.2.2⟩
      case hs =>
        rintro L a W i ⟨y7, y8, y9, y37, y38, y39, y40, y41, y42, rfl, hsz, hS, hB, h0, h2, h4, h1, h3, h5, h6, h7, h8, h9, h10, h11⟩ hi
        obtain ⟨hun, o, ho, hpr⟩ := mem_ready.1 hi
        have hlt : i < 12 := by
          rcases Nat.lt_or_ge i L.size with h' | h'
          · omega
          · simp [Array.getD, Nat.not_lt.2 h'] at hun
        have hii : i = 0 ∨ i = 1 ∨ i = 2 ∨ i = 3 ∨ i = 4 ∨ i = 5 ∨ i = 6 ∨ i = 7 ∨ i = 8 ∨ i = 9 ∨ i = 10 ∨ i = 11 := by omega
        clear hlt hi
        rcases hii with rfl | rfl | rfl | rfl | rfl | rfl | rfl | rfl | rfl | rfl | rfl | rfl
        · have g : ∀ j, 0 ≠ j → (L.setIfInBounds 0 true).getD j false = L.getD j false := fun j h => getD_other h
          have c0 := hS.cell 0
          have c1 := hS.cell 1
          refine inv_step (o := { dst := some 37, op := Op.load 23 (Operand.tmp 3), type := 23, pos := "law.go:273", after := #[], guard := none }) rfl (fun K' hK => ?_)
          go_simp
          refine hK.out _ _ ?_
          refine ⟨_, _, _, _, _, _, _, _, _, rfl, by simp [hsz], hS, hB, ?_, ?_, ?_, ?_, ?_, ?_, ?_, ?_, ?_, ?_, ?_, ?_⟩
          · exact fun _ => rfl
          · exact fun h => h2 (by rw [g 2 (by decide)] at h; exact h)
          · exact fun h => h4 (by rw [g 4 (by decide)] at h; exact h)
          · exact fun h => h1 (by rw [g 1 (by decide)] at h; exact h)
          · exact fun h => h3 (by rw [g 3 (by decide)] at h; exact h)
          · exact fun h => h5 (by rw [g 5 (by decide)] at h; exact h)
          · exact fun h => by
                    obtain ⟨B, e, hl, hW⟩ := h6 (by rw [g 6 (by decide)] at h; exact h)
                    exact ⟨B, e, hl, by rw [g 9 (by decide)]; exact hW⟩
          · exact fun h => by
                    obtain ⟨B, e, hl, hW⟩ := h7 (by rw [g 7 (by decide)] at h; exact h)
                    exact ⟨B, e, hl, by rw [g 10 (by decide)]; exact hW⟩
          · exact fun h => by
                    obtain ⟨B, e, hl, hW⟩ := h8 (by rw [g 8 (by decide)] at h; exact h)
                    exact ⟨B, e, hl, by rw [g 11 (by decide)]; exact hW⟩
          · exact fun h => by rw [g 6 (by decide)]; exact h9 (by rw [g 9 (by decide)] at h; exact h)
          · exact fun h => by rw [g 7 (by decide)]; exact h10 (by rw [g 10 (by decide)] at h; exact h)
          · exact fun h => by rw [g 8 (by decide)]; exact h11 (by rw [g 11 (by decide)] at h; exact h)
        · have g : ∀ j, 1 ≠ j → (L.setIfInBounds 1 true).getD j false = L.getD j false := fun j h => getD_other h
          obtain rfl : { dst := some 38, op := Op.call { callee := Callee.value (Operand.func 12), args := #[Operand.tmp 37], argTypes := #[23] }, type := 29, pos := "law.go:273", after := #[{ on := 0, ground := Ground.data }], guard := none } = o := by injection ho
          have hp0 : L.getD 0 false = true := hpr { on := 0, ground := Ground.data } (by simp) rfl
          have e0 := h0 hp0
          subst e0
          refine inv_step (o := { dst := some 38, op := Op.call { callee := Callee.value (Operand.func 12), args := #[Operand.tmp 37], argTypes := #[23] }, type := 29, pos := "law.go:273", after := #[{ on := 0, ground := Ground.data }], guard := none }) rfl (fun K' hK => ?_)
          (first | go_at_call 12 | (go_simp; go_at_call 12))
          refine (anew_exact b s _).mono ?_
          rintro e w2 ⟨rfl, rfl⟩
          try go_simp
          refine hK.out _ _ ?_
          refine ⟨_, _, _, _, _, _, _, _, _, rfl, by simp [hsz], (hS.alloc _).alloc _, kbelow_al _ (kbelow_al _ hB), ?_, ?_, ?_, ?_, ?_, ?_, ?_, ?_, ?_, ?_, ?_, ?_⟩
          · exact fun h => h0 (by rw [g 0 (by decide)] at h; exact h)
          · exact fun h => h2 (by rw [g 2 (by decide)] at h; exact h)
          · exact fun h => h4 (by rw [g 4 (by decide)] at h; exact h)
          · exact fun _ => rfl
          · exact fun h => h3 (by rw [g 3 (by decide)] at h; exact h)
          · exact fun h => h5 (by rw [g 5 (by decide)] at h; exact h)
          · exact fun h => by
                    obtain ⟨B, e, hl, hW⟩ := h6 (by rw [g 6 (by decide)] at h; exact h)
                    exact ⟨B, e, hl, by rw [g 9 (by decide)]; exact (hW.alloc _).alloc _⟩
          · exact fun h => by
                    obtain ⟨B, e, hl, hW⟩ := h7 (by rw [g 7 (by decide)] at h; exact h)
                    exact ⟨B, e, hl, by rw [g 10 (by decide)]; exact (hW.alloc _).alloc _⟩
          · exact fun h => by
                    obtain ⟨B, e, hl, hW⟩ := h8 (by rw [g 8 (by decide)] at h; exact h)
                    exact ⟨B, e, hl, by rw [g 11 (by decide)]; exact (hW.alloc _).alloc _⟩
          · exact fun h => by rw [g 6 (by decide)]; exact h9 (by rw [g 9 (by decide)] at h; exact h)
          · exact fun h => by rw [g 7 (by decide)]; exact h10 (by rw [g 10 (by decide)] at h; exact h)
          · exact fun h => by rw [g 8 (by decide)]; exact h11 (by rw [g 11 (by decide)] at h; exact h)
        · have g : ∀ j, 2 ≠ j → (L.setIfInBounds 2 true).getD j false = L.getD j false := fun j h => getD_other h
          have c0 := hS.cell 0
          have c1 := hS.cell 1
          refine inv_step (o := { dst := some 39, op := Op.load 23 (Operand.tmp 3), type := 23, pos := "law.go:273", after := #[], guard := none }) rfl (fun K' hK => ?_)
          go_simp
          refine hK.out _ _ ?_
          refine ⟨_, _, _, _, _, _, _, _, _, rfl, by simp [hsz], hS, hB, ?_, ?_, ?_, ?_, ?_, ?_, ?_, ?_, ?_, ?_, ?_, ?_⟩
          · exact fun h => h0 (by rw [g 0 (by decide)] at h; exact h)
          · exact fun _ => rfl
          · exact fun h => h4 (by rw [g 4 (by decide)] at h; exact h)
          · exact fun h => h1 (by rw [g 1 (by decide)] at h; exact h)
          · exact fun h => h3 (by rw [g 3 (by decide)] at h; exact h)
          · exact fun h => h5 (by rw [g 5 (by decide)] at h; exact h)
          · exact fun h => by
                    obtain ⟨B, e, hl, hW⟩ := h6 (by rw [g 6 (by decide)] at h; exact h)
                    exact ⟨B, e, hl, by rw [g 9 (by decide)]; exact hW⟩
          · exact fun h => by
                    obtain ⟨B, e, hl, hW⟩ := h7 (by rw [g 7 (by decide)] at h; exact h)
                    exact ⟨B, e, hl, by rw [g 10 (by decide)]; exact hW⟩
          · exact fun h => by
                    obtain ⟨B, e, hl, hW⟩ := h8 (by rw [g 8 (by decide)] at h; exact h)
                    exact ⟨B, e, hl, by rw [g 11 (by decide)]; exact hW⟩
          · exact fun h => by rw [g 6 (by decide)]; exact h9 (by rw [g 9 (by decide)] at h; exact h)
          · exact fun h => by rw [g 7 (by decide)]; exact h10 (by rw [g 10 (by decide)] at h; exact h)
          · exact fun h => by rw [g 8 (by decide)]; exact h11 (by rw [g 11 (by decide)] at h; exact h)
        · have g : ∀ j, 3 ≠ j → (L.setIfInBounds 3 true).getD j false = L.getD j false := fun j h => getD_other h
          obtain rfl : { dst := some 40, op := Op.call { callee := Callee.value (Operand.func 34), args := #[Operand.tmp 39], argTypes := #[23] }, type := 76, pos := "law.go:273", after := #[{ on := 2, ground := Ground.data }, { on := 1, ground := Ground.chain }], guard := none } = o := by injection ho
          have hp0 : L.getD 2 false = true := hpr { on := 2, ground := Ground.data } (by simp) rfl
          have e0 := h2 hp0
          subst e0
          refine inv_step (o := { dst := some 40, op := Op.call { callee := Callee.value (Operand.func 34), args := #[Operand.tmp 39], argTypes := #[23] }, type := 76, pos := "law.go:273", after := #[{ on := 2, ground := Ground.data }, { on := 1, ground := Ground.chain }], guard := none }) rfl (fun K' hK => ?_)
          (first | go_at_call 34 | (go_simp; go_at_call 34))
          refine (anew_exactS b s _).mono ?_
          rintro e w2 ⟨rfl, rfl⟩
          try go_simp
          refine hK.out _ _ ?_
          refine ⟨_, _, _, _, _, _, _, _, _, rfl, by simp [hsz], (hS.alloc _).alloc _, kbelow_al _ (kbelow_al _ hB), ?_, ?_, ?_, ?_, ?_, ?_, ?_, ?_, ?_, ?_, ?_, ?_⟩
          · exact fun h => h0 (by rw [g 0 (by decide)] at h; exact h)
          · exact fun h => h2 (by rw [g 2 (by decide)] at h; exact h)
          · exact fun h => h4 (by rw [g 4 (by decide)] at h; exact h)
          · exact fun h => h1 (by rw [g 1 (by decide)] at h; exact h)
          · exact fun _ => rfl
          · exact fun h => h5 (by rw [g 5 (by decide)] at h; exact h)
          · exact fun h => by
                    obtain ⟨B, e, hl, hW⟩ := h6 (by rw [g 6 (by decide)] at h; exact h)
                    exact ⟨B, e, hl, by rw [g 9 (by decide)]; exact (hW.alloc _).alloc _⟩
          · exact fun h => by
                    obtain ⟨B, e, hl, hW⟩ := h7 (by rw [g 7 (by decide)] at h; exact h)
                    exact ⟨B, e, hl, by rw [g 10 (by decide)]; exact (hW.alloc _).alloc _⟩
          · exact fun h => by
                    obtain ⟨B, e, hl, hW⟩ := h8 (by rw [g 8 (by decide)] at h; exact h)
                    exact ⟨B, e, hl, by rw [g 11 (by decide)]; exact (hW.alloc _).alloc _⟩
          · exact fun h => by rw [g 6 (by decide)]; exact h9 (by rw [g 9 (by decide)] at h; exact h)
          · exact fun h => by rw [g 7 (by decide)]; exact h10 (by rw [g 10 (by decide)] at h; exact h)
          · exact fun h => by rw [g 8 (by decide)]; exact h11 (by rw [g 11 (by decide)] at h; exact h)
        · have g : ∀ j, 4 ≠ j → (L.setIfInBounds 4 true).getD j false = L.getD j false := fun j h => getD_other h
          have c0 := hS.cell 0
          have c1 := hS.cell 1
          refine inv_step (o := { dst := some 41, op := Op.load 23 (Operand.tmp 3), type := 23, pos := "law.go:273", after := #[], guard := none }) rfl (fun K' hK => ?_)
          go_simp
          refine hK.out _ _ ?_
          refine ⟨_, _, _, _, _, _, _, _, _, rfl, by simp [hsz], hS, hB, ?_, ?_, ?_, ?_, ?_, ?_, ?_, ?_, ?_, ?_, ?_, ?_⟩
          · exact fun h => h0 (by rw [g 0 (by decide)] at h; exact h)
          · exact fun h => h2 (by rw [g 2 (by decide)] at h; exact h)
          · exact fun _ => rfl
          · exact fun h => h1 (by rw [g 1 (by decide)] at h; exact h)
          · exact fun h => h3 (by rw [g 3 (by decide)] at h; exact h)
          · exact fun h => h5 (by rw [g 5 (by decide)] at h; exact h)
          · exact fun h => by
                    obtain ⟨B, e, hl, hW⟩ := h6 (by rw [g 6 (by decide)] at h; exact h)
                    exact ⟨B, e, hl, by rw [g 9 (by decide)]; exact hW⟩
          · exact fun h => by
                    obtain ⟨B, e, hl, hW⟩ := h7 (by rw [g 7 (by decide)] at h; exact h)
                    exact ⟨B, e, hl, by rw [g 10 (by decide)]; exact hW⟩
          · exact fun h => by
                    obtain ⟨B, e, hl, hW⟩ := h8 (by rw [g 8 (by decide)] at h; exact h)
                    exact ⟨B, e, hl, by rw [g 11 (by decide)]; exact hW⟩
          · exact fun h => by rw [g 6 (by decide)]; exact h9 (by rw [g 9 (by decide)] at h; exact h)
          · exact fun h => by rw [g 7 (by decide)]; exact h10 (by rw [g 10 (by decide)] at h; exact h)
          · exact fun h => by rw [g 8 (by decide)]; exact h11 (by rw [g 11 (by decide)] at h; exact h)
        · have g : ∀ j, 5 ≠ j → (L.setIfInBounds 5 true).getD j false = L.getD j false := fun j h => getD_other h
          obtain rfl : { dst := some 42, op := Op.call { callee := Callee.value (Operand.func 35), args := #[Operand.tmp 41], argTypes := #[23] }, type := 80, pos := "law.go:273", after := #[{ on := 4, ground := Ground.data }, { on := 3, ground := Ground.chain }], guard := none } = o := by injection ho
          have hp0 : L.getD 4 false = true := hpr { on := 4, ground := Ground.data } (by simp) rfl
          have e0 := h4 hp0
          subst e0
          refine inv_step (o := { dst := some 42, op := Op.call { callee := Callee.value (Operand.func 35), args := #[Operand.tmp 41], argTypes := #[23] }, type := 80, pos := "law.go:273", after := #[{ on := 4, ground := Ground.data }, { on := 3, ground := Ground.chain }], guard := none }) rfl (fun K' hK => ?_)
          (first | go_at_call 35 | (go_simp; go_at_call 35))
          refine (anew_exactP b s _).mono ?_
          rintro e w2 ⟨rfl, rfl⟩
          try go_simp
          refine hK.out _ _ ?_
          refine ⟨_, _, _, _, _, _, _, _, _, rfl, by simp [hsz], (hS.alloc _).alloc _, kbelow_al _ (kbelow_al _ hB), ?_, ?_, ?_, ?_, ?_, ?_, ?_, ?_, ?_, ?_, ?_, ?_⟩
          · exact fun h => h0 (by rw [g 0 (by decide)] at h; exact h)
          · exact fun h => h2 (by rw [g 2 (by decide)] at h; exact h)
          · exact fun h => h4 (by rw [g 4 (by decide)] at h; exact h)
          · exact fun h => h1 (by rw [g 1 (by decide)] at h; exact h)
          · exact fun h => h3 (by rw [g 3 (by decide)] at h; exact h)
          · exact fun _ => rfl
          · exact fun h => by
                    obtain ⟨B, e, hl, hW⟩ := h6 (by rw [g 6 (by decide)] at h; exact h)
                    exact ⟨B, e, hl, by rw [g 9 (by decide)]; exact (hW.alloc _).alloc _⟩
          · exact fun h => by
                    obtain ⟨B, e, hl, hW⟩ := h7 (by rw [g 7 (by decide)] at h; exact h)
                    exact ⟨B, e, hl, by rw [g 10 (by decide)]; exact (hW.alloc _).alloc _⟩
          · exact fun h => by
                    obtain ⟨B, e, hl, hW⟩ := h8 (by rw [g 8 (by decide)] at h; exact h)
                    exact ⟨B, e, hl, by rw [g 11 (by decide)]; exact (hW.alloc _).alloc _⟩
          · exact fun h => by rw [g 6 (by decide)]; exact h9 (by rw [g 9 (by decide)] at h; exact h)
          · exact fun h => by rw [g 7 (by decide)]; exact h10 (by rw [g 10 (by decide)] at h; exact h)
          · exact fun h => by rw [g 8 (by decide)]; exact h11 (by rw [g 11 (by decide)] at h; exact h)
        · have g : ∀ j, 6 ≠ j → (L.setIfInBounds 6 true).getD j false = L.getD j false := fun j h => getD_other h
          have hunf : L.getD 6 false = false := getD_flip hun
          refine inv_step (o := { dst := some 7, op := Op.alloc 29, type := 0, pos := "law.go:273", after := #[], guard := none }) rfl (fun K' hK => ?_)
          go_simp
          refine hK.out _ _ ?_
          refine ⟨_, _, _, _, _, _, _, _, _, rfl, by simp [hsz], hS.alloc _, kbelow_al _ hB, ?_, ?_, ?_, ?_, ?_, ?_, ?_, ?_, ?_, ?_, ?_, ?_⟩
          · exact fun h => h0 (by rw [g 0 (by decide)] at h; exact h)
          · exact fun h => h2 (by rw [g 2 (by decide)] at h; exact h)
          · exact fun h => h4 (by rw [g 4 (by decide)] at h; exact h)
          · exact fun h => h1 (by rw [g 1 (by decide)] at h; exact h)
          · exact fun h => h3 (by rw [g 3 (by decide)] at h; exact h)
          · exact fun h => h5 (by rw [g 5 (by decide)] at h; exact h)
          · exact fun _ => ⟨W.heap.size, rfl, hB.size, by
                    rw [g 9 (by decide), if_neg (fun h => by have := h9 h; rw [hunf] at this; cases this)]
                    exact Whole.new W _ _⟩
          · exact fun h => by
                    obtain ⟨B, e, hl, hW⟩ := h7 (by rw [g 7 (by decide)] at h; exact h)
                    exact ⟨B, e, hl, by rw [g 10 (by decide)]; exact hW.alloc _⟩
          · exact fun h => by
                    obtain ⟨B, e, hl, hW⟩ := h8 (by rw [g 8 (by decide)] at h; exact h)
                    exact ⟨B, e, hl, by rw [g 11 (by decide)]; exact hW.alloc _⟩
          · exact fun _ => getD_same (by rw [hsz]; decide)
          · exact fun h => by rw [g 7 (by decide)]; exact h10 (by rw [g 10 (by decide)] at h; exact h)
          · exact fun h => by rw [g 8 (by decide)]; exact h11 (by rw [g 11 (by decide)] at h; exact h)
        · have g : ∀ j, 7 ≠ j → (L.setIfInBounds 7 true).getD j false = L.getD j false := fun j h => getD_other h
          have hunf : L.getD 7 false = false := getD_flip hun
          refine inv_step (o := { dst := some 8, op := Op.alloc 76, type := 0, pos := "law.go:273", after := #[], guard := none }) rfl (fun K' hK => ?_)
          go_simp
          refine hK.out _ _ ?_
          refine ⟨_, _, _, _, _, _, _, _, _, rfl, by simp [hsz], hS.alloc _, kbelow_al _ hB, ?_, ?_, ?_, ?_, ?_, ?_, ?_, ?_, ?_, ?_, ?_, ?_⟩
          · exact fun h => h0 (by rw [g 0 (by decide)] at h; exact h)
          · exact fun h => h2 (by rw [g 2 (by decide)] at h; exact h)
          · exact fun h => h4 (by rw [g 4 (by decide)] at h; exact h)
          · exact fun h => h1 (by rw [g 1 (by decide)] at h; exact h)
          · exact fun h => h3 (by rw [g 3 (by decide)] at h; exact h)
          · exact fun h => h5 (by rw [g 5 (by decide)] at h; exact h)
          · exact fun h => by
                    obtain ⟨B, e, hl, hW⟩ := h6 (by rw [g 6 (by decide)] at h; exact h)
                    exact ⟨B, e, hl, by rw [g 9 (by decide)]; exact hW.alloc _⟩
          · exact fun _ => ⟨W.heap.size, rfl, hB.size, by
                    rw [g 10 (by decide), if_neg (fun h => by have := h10 h; rw [hunf] at this; cases this)]
                    exact Whole.new W _ _⟩
          · exact fun h => by
                    obtain ⟨B, e, hl, hW⟩ := h8 (by rw [g 8 (by decide)] at h; exact h)
                    exact ⟨B, e, hl, by rw [g 11 (by decide)]; exact hW.alloc _⟩
          · exact fun h => by rw [g 6 (by decide)]; exact h9 (by rw [g 9 (by decide)] at h; exact h)
          · exact fun _ => getD_same (by rw [hsz]; decide)
          · exact fun h => by rw [g 8 (by decide)]; exact h11 (by rw [g 11 (by decide)] at h; exact h)
        · have g : ∀ j, 8 ≠ j → (L.setIfInBounds 8 true).getD j false = L.getD j false := fun j h => getD_other h
          have hunf : L.getD 8 false = false := getD_flip hun
          refine inv_step (o := { dst := some 9, op := Op.alloc 80, type := 0, pos := "law.go:273", after := #[], guard := none }) rfl (fun K' hK => ?_)
          go_simp
          refine hK.out _ _ ?_
          refine ⟨_, _, _, _, _, _, _, _, _, rfl, by simp [hsz], hS.alloc _, kbelow_al _ hB, ?_, ?_, ?_, ?_, ?_, ?_, ?_, ?_, ?_, ?_, ?_, ?_⟩
          · exact fun h => h0 (by rw [g 0 (by decide)] at h; exact h)
          · exact fun h => h2 (by rw [g 2 (by decide)] at h; exact h)
          · exact fun h => h4 (by rw [g 4 (by decide)] at h; exact h)
          · exact fun h => h1 (by rw [g 1 (by decide)] at h; exact h)
          · exact fun h => h3 (by rw [g 3 (by decide)] at h; exact h)
          · exact fun h => h5 (by rw [g 5 (by decide)] at h; exact h)
          · exact fun h => by
                    obtain ⟨B, e, hl, hW⟩ := h6 (by rw [g 6 (by decide)] at h; exact h)
                    exact ⟨B, e, hl, by rw [g 9 (by decide)]; exact hW.alloc _⟩
          · exact fun h => by
                    obtain ⟨B, e, hl, hW⟩ := h7 (by rw [g 7 (by decide)] at h; exact h)
                    exact ⟨B, e, hl, by rw [g 10 (by decide)]; exact hW.alloc _⟩
          · exact fun _ => ⟨W.heap.size, rfl, hB.size, by
                    rw [g 11 (by decide), if_neg (fun h => by have := h11 h; rw [hunf] at this; cases this)]
                    exact Whole.new W _ _⟩
          · exact fun h => by rw [g 6 (by decide)]; exact h9 (by rw [g 9 (by decide)] at h; exact h)
          · exact fun h => by rw [g 7 (by decide)]; exact h10 (by rw [g 10 (by decide)] at h; exact h)
          · exact fun _ => getD_same (by rw [hsz]; decide)
        · have g : ∀ j, 9 ≠ j → (L.setIfInBounds 9 true).getD j false = L.getD j false := fun j h => getD_other h
          obtain rfl : { dst := none, op := Op.store 29 (Operand.tmp 7) (Operand.tmp 38), type := 0, pos := "law.go:273", after := #[{ on := 6, ground := Ground.data }, { on := 1, ground := Ground.data }, { on := 5, ground := Ground.chain }, { on := 0, ground := Ground.phase }, { on := 1, ground := Ground.phase }, { on := 2, ground := Ground.textOnly Departure.lateStores }, { on := 3, ground := Ground.phase }, { on := 4, ground := Ground.textOnly Departure.lateStores }, { on := 5, ground := Ground.phase }, { on := 6, ground := Ground.phase }, { on := 7, ground := Ground.phase }, { on := 8, ground := Ground.phase }], guard := none } = o := by injection ho
          have hp6 : L.getD 6 false = true := hpr { on := 6, ground := Ground.data } (by simp) rfl
          have hp1 : L.getD 1 false = true := hpr { on := 1, ground := Ground.data } (by simp) rfl
          have hunf : L.getD 9 false = false := getD_flip hun
          obtain ⟨Bx, ex, hlx, hWx⟩ := h6 hp6
          rw [if_neg (by rw [hunf]; decide)] at hWx
          have ev := h1 hp1
          subst ex ev
          obtain ⟨X, hX, hBX, gX⟩ := box5 hWx (.int .i64 b) (.int .i64 s) (.slice none 0 0) (.slice none 0 0) (.int .i64 0)
          have r0 := hWx.cell 0
          have f0 := hWx.free 0
          have r1 := hWx.cell 1
          have f1 := hWx.free 1
          have r2 := hWx.cell 2
          have f2 := hWx.free 2
          have r3 := hWx.cell 3
          have f3 := hWx.free 3
          have r4 := hWx.cell 4
          have f4 := hWx.free 4
          have un : ∀ {B : Nat} {cs : Array Value} {T : TypeId}, Whole W B cs T → T ≠ 29 → Whole X B cs T := fun hW hT => hW.grown gX (fun e => Whole.unlike hW hWx hT (by simpa using e))
          refine inv_step (o := { dst := none, op := Op.store 29 (Operand.tmp 7) (Operand.tmp 38), type := 0, pos := "law.go:273", after := #[{ on := 6, ground := Ground.data }, { on := 1, ground := Ground.data }, { on := 5, ground := Ground.chain }, { on := 0, ground := Ground.phase }, { on := 1, ground := Ground.phase }, { on := 2, ground := Ground.textOnly Departure.lateStores }, { on := 3, ground := Ground.phase }, { on := 4, ground := Ground.textOnly Departure.lateStores }, { on := 5, ground := Ground.phase }, { on := 6, ground := Ground.phase }, { on := 7, ground := Ground.phase }, { on := 8, ground := Ground.phase }], guard := none }) rfl (fun K' hK => ?_)
          go_simp
          try rw [hX]
          refine hK.out _ _ ?_
          refine ⟨_, _, _, _, _, _, _, _, _, rfl, by simp [hsz], un hS (by decide), hB.grown gX hB.size (fun j hj => by simp at hj; omega), ?_, ?_, ?_, ?_, ?_, ?_, ?_, ?_, ?_, ?_, ?_, ?_⟩
          · exact fun h => h0 (by rw [g 0 (by decide)] at h; exact h)
          · exact fun h => h2 (by rw [g 2 (by decide)] at h; exact h)
          · exact fun h => h4 (by rw [g 4 (by decide)] at h; exact h)
          · exact fun h => h1 (by rw [g 1 (by decide)] at h; exact h)
          · exact fun h => h3 (by rw [g 3 (by decide)] at h; exact h)
          · exact fun h => h5 (by rw [g 5 (by decide)] at h; exact h)
          · exact fun _ => ⟨Bx, rfl, hlx, by rw [getD_same (by rw [hsz]; decide)]; exact hBX⟩
          · exact fun h => by
                    obtain ⟨B, e, hl, hW⟩ := h7 (by rw [g 7 (by decide)] at h; exact h)
                    exact ⟨B, e, hl, by rw [g 10 (by decide)]; exact un hW (by decide)⟩
          · exact fun h => by
                    obtain ⟨B, e, hl, hW⟩ := h8 (by rw [g 8 (by decide)] at h; exact h)
                    exact ⟨B, e, hl, by rw [g 11 (by decide)]; exact un hW (by decide)⟩
          · exact fun _ => by rw [g 6 (by decide)]; exact hp6
          · exact fun h => by rw [g 7 (by decide)]; exact h10 (by rw [g 10 (by decide)] at h; exact h)
          · exact fun h => by rw [g 8 (by decide)]; exact h11 (by rw [g 11 (by decide)] at h; exact h)
        · have g : ∀ j, 10 ≠ j → (L.setIfInBounds 10 true).getD j false = L.getD j false := fun j h => getD_other h
          obtain rfl : { dst := none, op := Op.store 76 (Operand.tmp 8) (Operand.tmp 40), type := 0, pos := "law.go:273", after := #[{ on := 7, ground := Ground.data }, { on := 3, ground := Ground.data }, { on := 9, ground := Ground.chain }, { on := 0, ground := Ground.phase }, { on := 1, ground := Ground.phase }, { on := 2, ground := Ground.phase }, { on := 3, ground := Ground.phase }, { on := 4, ground := Ground.textOnly Departure.lateStores }, { on := 5, ground := Ground.phase }, { on := 6, ground := Ground.phase }, { on := 7, ground := Ground.phase }, { on := 8, ground := Ground.phase }, { on := 9, ground := Ground.phase }], guard := none } = o := by injection ho
          have hp6 : L.getD 7 false = true := hpr { on := 7, ground := Ground.data } (by simp) rfl
          have hp1 : L.getD 3 false = true := hpr { on := 3, ground := Ground.data } (by simp) rfl
          have hunf : L.getD 10 false = false := getD_flip hun
          obtain ⟨Bx, ex, hlx, hWx⟩ := h7 hp6
          rw [if_neg (by rw [hunf]; decide)] at hWx
          have ev := h3 hp1
          subst ex ev
          obtain ⟨X, hX, hBX, gX⟩ := box5 hWx (.int .i64 b) (.int .i64 s) (.slice none 0 0) (.slice none 0 0) (.int .i64 0)
          have r0 := hWx.cell 0
          have f0 := hWx.free 0
          have r1 := hWx.cell 1
          have f1 := hWx.free 1
          have r2 := hWx.cell 2
          have f2 := hWx.free 2
          have r3 := hWx.cell 3
          have f3 := hWx.free 3
          have r4 := hWx.cell 4
          have f4 := hWx.free 4
          have un : ∀ {B : Nat} {cs : Array Value} {T : TypeId}, Whole W B cs T → T ≠ 76 → Whole X B cs T := fun hW hT => hW.grown gX (fun e => Whole.unlike hW hWx hT (by simpa using e))
          refine inv_step (o := { dst := none, op := Op.store 76 (Operand.tmp 8) (Operand.tmp 40), type := 0, pos := "law.go:273", after := #[{ on := 7, ground := Ground.data }, { on := 3, ground := Ground.data }, { on := 9, ground := Ground.chain }, { on := 0, ground := Ground.phase }, { on := 1, ground := Ground.phase }, { on := 2, ground := Ground.phase }, { on := 3, ground := Ground.phase }, { on := 4, ground := Ground.textOnly Departure.lateStores }, { on := 5, ground := Ground.phase }, { on := 6, ground := Ground.phase }, { on := 7, ground := Ground.phase }, { on := 8, ground := Ground.phase }, { on := 9, ground := Ground.phase }], guard := none }) rfl (fun K' hK => ?_)
          go_simp
          try rw [hX]
          refine hK.out _ _ ?_
          refine ⟨_, _, _, _, _, _, _, _, _, rfl, by simp [hsz], un hS (by decide), hB.grown gX hB.size (fun j hj => by simp at hj; omega), ?_, ?_, ?_, ?_, ?_, ?_, ?_, ?_, ?_, ?_, ?_, ?_⟩
          · exact fun h => h0 (by rw [g 0 (by decide)] at h; exact h)
          · exact fun h => h2 (by rw [g 2 (by decide)] at h; exact h)
          · exact fun h => h4 (by rw [g 4 (by decide)] at h; exact h)
          · exact fun h => h1 (by rw [g 1 (by decide)] at h; exact h)
          · exact fun h => h3 (by rw [g 3 (by decide)] at h; exact h)
          · exact fun h => h5 (by rw [g 5 (by decide)] at h; exact h)
          · exact fun h => by
                    obtain ⟨B, e, hl, hW⟩ := h6 (by rw [g 6 (by decide)] at h; exact h)
                    exact ⟨B, e, hl, by rw [g 9 (by decide)]; exact un hW (by decide)⟩
          · exact fun _ => ⟨Bx, rfl, hlx, by rw [getD_same (by rw [hsz]; decide)]; exact hBX⟩
          · exact fun h => by
                    obtain ⟨B, e, hl, hW⟩ := h8 (by rw [g 8 (by decide)] at h; exact h)
                    exact ⟨B, e, hl, by rw [g 11 (by decide)]; exact un hW (by decide)⟩
          · exact fun h => by rw [g 6 (by decide)]; exact h9 (by rw [g 9 (by decide)] at h; exact h)
          · exact fun _ => by rw [g 7 (by decide)]; exact hp6
          · exact fun h => by rw [g 8 (by decide)]; exact h11 (by rw [g 11 (by decide)] at h; exact h)
        · have g : ∀ j, 11 ≠ j → (L.setIfInBounds 11 true).getD j false = L.getD j false := fun j h => getD_other h
          obtain rfl : { dst := none, op := Op.store 80 (Operand.tmp 9) (Operand.tmp 42), type := 0, pos := "law.go:273", after := #[{ on := 8, ground := Ground.data }, { on := 5, ground := Ground.data }, { on := 10, ground := Ground.chain }, { on := 0, ground := Ground.phase }, { on := 1, ground := Ground.phase }, { on := 2, ground := Ground.phase }, { on := 3, ground := Ground.phase }, { on := 4, ground := Ground.phase }, { on := 5, ground := Ground.phase }, { on := 6, ground := Ground.phase }, { on := 7, ground := Ground.phase }, { on := 8, ground := Ground.phase }, { on := 9, ground := Ground.phase }, { on := 10, ground := Ground.phase }], guard := none } = o := by injection ho
          have hp6 : L.getD 8 false = true := hpr { on := 8, ground := Ground.data } (by simp) rfl
          have hp1 : L.getD 5 false = true := hpr { on := 5, ground := Ground.data } (by simp) rfl
          have hunf : L.getD 11 false = false := getD_flip hun
          obtain ⟨Bx, ex, hlx, hWx⟩ := h8 hp6
          rw [if_neg (by rw [hunf]; decide)] at hWx
          have ev := h5 hp1
          subst ex ev
          obtain ⟨X, hX, hBX, gX⟩ := box5 hWx (.int .i64 b) (.int .i64 s) (.slice none 0 0) (.slice none 0 0) (.int .i64 0)
          have r0 := hWx.cell 0
          have f0 := hWx.free 0
          have r1 := hWx.cell 1
          have f1 := hWx.free 1
          have r2 := hWx.cell 2
          have f2 := hWx.free 2
          have r3 := hWx.cell 3
          have f3 := hWx.free 3
          have r4 := hWx.cell 4
          have f4 := hWx.free 4
          have un : ∀ {B : Nat} {cs : Array Value} {T : TypeId}, Whole W B cs T → T ≠ 80 → Whole X B cs T := fun hW hT => hW.grown gX (fun e => Whole.unlike hW hWx hT (by simpa using e))
          refine inv_step (o := { dst := none, op := Op.store 80 (Operand.tmp 9) (Operand.tmp 42), type := 0, pos := "law.go:273", after := #[{ on := 8, ground := Ground.data }, { on := 5, ground := Ground.data }, { on := 10, ground := Ground.chain }, { on := 0, ground := Ground.phase }, { on := 1, ground := Ground.phase }, { on := 2, ground := Ground.phase }, { on := 3, ground := Ground.phase }, { on := 4, ground := Ground.phase }, { on := 5, ground := Ground.phase }, { on := 6, ground := Ground.phase }, { on := 7, ground := Ground.phase }, { on := 8, ground := Ground.phase }, { on := 9, ground := Ground.phase }, { on := 10, ground := Ground.phase }], guard := none }) rfl (fun K' hK => ?_)
          go_simp
          try rw [hX]
          refine hK.out _ _ ?_
          refine ⟨_, _, _, _, _, _, _, _, _, rfl, by simp [hsz], un hS (by decide), hB.grown gX hB.size (fun j hj => by simp at hj; omega), ?_, ?_, ?_, ?_, ?_, ?_, ?_, ?_, ?_, ?_, ?_, ?_⟩
          · exact fun h => h0 (by rw [g 0 (by decide)] at h; exact h)
          · exact fun h => h2 (by rw [g 2 (by decide)] at h; exact h)
          · exact fun h => h4 (by rw [g 4 (by decide)] at h; exact h)
          · exact fun h => h1 (by rw [g 1 (by decide)] at h; exact h)
          · exact fun h => h3 (by rw [g 3 (by decide)] at h; exact h)
          · exact fun h => h5 (by rw [g 5 (by decide)] at h; exact h)
          · exact fun h => by
                    obtain ⟨B, e, hl, hW⟩ := h6 (by rw [g 6 (by decide)] at h; exact h)
                    exact ⟨B, e, hl, by rw [g 9 (by decide)]; exact un hW (by decide)⟩
          · exact fun h => by
                    obtain ⟨B, e, hl, hW⟩ := h7 (by rw [g 7 (by decide)] at h; exact h)
                    exact ⟨B, e, hl, by rw [g 10 (by decide)]; exact un hW (by decide)⟩
          · exact fun _ => ⟨Bx, rfl, hlx, by rw [getD_same (by rw [hsz]; decide)]; exact hBX⟩
          · exact fun h => by rw [g 6 (by decide)]; exact h9 (by rw [g 9 (by decide)] at h; exact h)
          · exact fun h => by rw [g 7 (by decide)]; exact h10 (by rw [g 10 (by decide)] at h; exact h)
          · exact fun _ => by rw [g 8 (by decide)]; exact hp6
    case rest =>
      obtain ⟨B1, B2, B3, rfl, rfl, rfl, ⟨h12, h13, h23, hb1, hb2, hb3⟩, hA, hM, hP, hB2⟩ := hcut
      obtain ⟨f, hf⟩ : ∃ f : Int → ByteArray, ∀ (k : Nat) (x : ByteArray), ls[k]? = some x → f (k : Int) = x := ⟨fun v => ls.getD v.toNat ⟨#[]⟩, fun k x hx => by simp [List.getD, hx]⟩
      have hK : KS f w1.heap.size wc B1 B2 B3 b s (((ix n).take 0).map some) (((ix n).take 0).map some) (((ix n).take 0).map some) [] [] [] (Foot B1 (.slice none 0 0) (.slice none 0 0)) (Foot B2 (.slice none 0 0) (.slice none 0 0)) (Foot B3 (.slice none 0 0) (.slice none 0 0)) (.slice none 0 0) (Ar.tab 0 fun j => Ar.hdl b s j) :=
        ⟨⟨_, _, hA, hb1, World.ownsRow_nil _ _ _ _, World.ownsRow_nil _ _ _ _, rfl⟩, ⟨_, _, hM, hb2, World.ownsRow_nil _ _ _ _, World.ownsRow_nil _ _ _ _, rfl⟩, ⟨_, _, hP, hb3, World.ownsRow_nil _ _ _ _, World.ownsRow_nil _ _ _ _, rfl⟩,
          fun k h1 h2 => by simp [Foot, Value.ownBlock] at h1 h2; exact h12 (h1.symm.trans h2), fun k h1 h2 => by simp [Foot, Value.ownBlock] at h1 h2; exact h13 (h1.symm.trans h2), fun k h1 h2 => by simp [Foot, Value.ownBlock] at h1 h2; exact h23 (h1.symm.trans h2),
          World.ownsRow_nil _ _ _ _, fun k hk => by simp [Value.ownBlock] at hk, fun k hk => by simp [Value.ownBlock] at hk, fun k hk => by simp [Value.ownBlock] at hk⟩
      have HK := Lib.hid hK
      have HL := Lib.hid (hl.below hB1)
      have HD := Lib.hid (hd.below hB1)
      have HB1 := Lib.hid hB1
      have HB2 := Lib.hid hB2
      have HFF := Lib.hid hf
      have hok0 : Ar.Ok ((ix n).map some) [] := ⟨List.nodup_nil, fun _ h => by simp at h⟩
      have HOK0 := Lib.hid hok0
      clear hK hl hd hB1 hB2 hA hM hP HS0 hf hok0 h12 h13 h23 hb1 hb2 hb3
      go_wp2_with fail
      go_loopw [10, 45] (fun g i wr => ∃ (k : Nat) (F1 F2 F3 : Nat → Prop), k ≤ n ∧ i = .int .i64 k ∧ KS f w1.heap.size wr B1 B2 B3 b s (((ix n).take k).map some) (((ix n).take k).map some) (((ix n).take k).map some) [] [] [] F1 F2 F3 g (Ar.tab k fun j => Ar.hdl b s j) ∧ Below w1.heap.size w1 wr) (fun _ i _ => n - (intOf i).toNat)
      case atStart => exact ⟨0, _, _, _, Nat.zero_le _, rfl, HK.out, HB2.out⟩
      case round =>
        clear HK HB2
        obtain ⟨k, F1, F2, F3, hk, rfl, hK, hB⟩ := hrel
        obtain ⟨Ag, cg, hg⟩ := own_slice (own_zero hK.r)
        rw [Ar.tab_len] at hg
        subst hg
        have hbs := hB.size
        by_cases hlt : k < n
        · obtain ⟨x, hx⟩ : ∃ x, ls[k]? = some x := ⟨_, List.getElem?_eq_getElem (by rw [HN.out]; exact hlt)⟩
          obtain ⟨bl, ol, hbl, hc0⟩ := HL.out.below hB k x hx
          subst hbl
          have hfk := HFF.out k x hx
          have HE := Lib.hid (Ar.add_take (ix_get hlt))
          have hlen : (((ix n).take k).map some).length ≤ 1000 := by rw [List.length_map, List.length_take]; omega
          have hok : Ar.Ok (((ix n).take k).map some) [] := ⟨List.nodup_nil, fun _ h => by simp at h⟩
          have HK := Lib.hid hK
          have HX := Lib.hid hx
          have HFK := Lib.hid hfk
          have HLN := Lib.hid (And.intro hlen hok)
          have q1 : (k : Int) < (n : Int) := by omega
          have q0 : (0 : Int) ≤ (k : Int) := by omega
          clear hK hx hfk hlen hok
          go_wp2_with fail
          refine (aadd_any w1.heap.size B1 b s k (((ix n).take k).map some) [] F1 _ HK.out.a1 hbs HLN.out.2 HLN.out.1).mono ?_
          rintro e w4 ⟨F4, rfl, hA4, hst4⟩
          rw [HE.out] at hA4 ⊢
          have hK4 := HK.out.stepA hA4 hst4
          have hB4 : Below w1.heap.size w1 w4 := hB.trans (hst4.1.below hbs fun j hj => (HK.out.a1.lt j hj).1)
          have hc4 : w4.cell? ⟨bl, ol + k, none⟩ = some (.string x) := by
            obtain ⟨bl', ol', e, h⟩ := HL.out.below hB4 k x HX.out
            injection e with e
            injection e with e1 e2
            subst e1 e2
            exact h
          have hs4 := hB4.size
          have HK4 := Lib.hid hK4
          have HAS := Lib.hid (aadd_anyS f w1.heap.size B2 b s k (((ix n).take k).map some) [] F2 w4 hK4.a2 hs4 HLN.out.2 HLN.out.1)
          rw [HFK.out, HE.out] at HAS
          clear hA4 hst4 HK hK4 hc0
          obtain ⟨Hk, hHk⟩ : ∃ Hk, Ar.hdl b s k = Hk := ⟨_, rfl⟩
          have b1 : (Hk != Hk) = false := by simp
          rw [hHk] at HAS ⊢
          go_wp2_with fail
          refine HAS.out.mono ?_
          rintro e w5 ⟨F5, rfl, hA5, hst5⟩
          have hK5 := HK4.out.stepB hA5 hst5
          have hB5 : Below w1.heap.size w1 w5 := hB4.trans (hst5.1.below hs4 fun j hj => (HK4.out.a2.lt j hj).1)
          have hc5 : w5.cell? ⟨bl, ol + k, none⟩ = some (.string x) := by
            obtain ⟨bl', ol', e, h⟩ := HL.out.below hB5 k x HX.out
            injection e with e
            injection e with e1 e2
            subst e1 e2
            exact h
          have hs5 := hB5.size
          have HK5 := Lib.hid hK5
          have HAP := Lib.hid (aadd_anyP f w1.heap.size B3 b s k (((ix n).take k).map some) [] F3 w5 hK5.a3 hs5 HLN.out.2 HLN.out.1)
          rw [HFK.out, HE.out, hHk] at HAP
          clear hA5 hst5 HK4 hK5 hc4 HAS
          go_wp2_with fail
          refine HAP.out.mono ?_
          rintro e w6 ⟨F6, rfl, hA6, hst6⟩
          have hK6 := HK5.out.stepC hA6 hst6
          have hB6 : Below w1.heap.size w1 w6 := hB5.trans (hst6.1.below hs5 fun j hj => (HK5.out.a3.lt j hj).1)
          have hK7 := hK6.below ((Below.refl _ w6).alloc (Nat.le_refl _) (.cells #[.int .i64 Hk] 3))
          have s7 := row_one w6 3 Hk
          have hB7 := hB6.alloc hB6.size (.cells #[.int .i64 Hk] 3)
          obtain ⟨w7, hw7⟩ : ∃ w7, w6.alloc (.cells #[.int .i64 Hk] 3) = w7 := ⟨_, rfl⟩
          rw [hw7] at hK7 s7 hB7
          have hs7 := hB7.size
          have hr7 := hK7.r
          have HK7 := Lib.hid hK7
          clear hA6 hst6 HK5 hK6 hc5 HAP hK7
          go_wp2_with (at_builtin; refine wpList_append_src rfl _ _ 27 rfl w1.heap.size 0 3 i0 (.int .i64 0) 1 8 Try.underlying27 hi0 hz0 hz1 hz2 rfl (by decide) _ _ _ rfl hr7 _ 1 (ints [Hk]) rfl s7 (ints_one _) ?c3 ?c4 ?c5 ?_)
          case c3 => rw [Ar.tab_len]; unfold maxLen; omega
          case c4 => rw [Ar.tab_len]; omega
          case c5 => exact hs7
          intro v8 w8 o8 g8 fr8
          obtain ⟨hK8, ht8⟩ := HK7.out.push o8 g8 fr8
          have hB8 : Below w1.heap.size w1 w8 := hB7.trans (ht8.below hs7 fun j hj => (hr7.lt j hj).1)
          rw [← hHk] at hK8
          have HK8 := Lib.hid hK8
          clear hK8 o8 g8 fr8 ht8 HK7 hr7 s7 hw7
          go_wp2_with fail
          go_roundw
          case rel => exact ⟨k + 1, F4, F5, F6, by omega, by go_num, by rw [Ar.tab_succ]; exact HK8.out, hB8⟩
          case measure => simp [intOf]; omega
        · have ek : k = n := by omega
          subst ek
          rw [List.take_of_length_le (by rw [ix_len]; exact Nat.le_refl _)] at hK
          have HK := Lib.hid hK
          clear hK hlt
          go_wp2_with fail
          have HB := Lib.hid hB
          clear hB hbs
          go_loopw [75] (fun i wr => ∃ (j : Nat) (F1 F2 F3 : Nat → Prop), j ≤ q ∧ i = .int .i64 j ∧ KS f w1.heap.size wr B1 B2 B3 b s (Ar.filAt k (ds.take j) ((ix k).map some, [])).1 (Ar.filAt k (ds.take j) ((ix k).map some, [])).1 (Ar.filAt k (ds.take j) ((ix k).map some, [])).1 (Ar.filAt k (ds.take j) ((ix k).map some, [])).2 (Ar.filAt k (ds.take j) ((ix k).map some, [])).2 (Ar.filAt k (ds.take j) ((ix k).map some, [])).2 F1 F2 F3 (.slice Ag k cg) (Ar.tab k fun j => Ar.hdl b s j) ∧ Below w1.heap.size w1 wr) (fun i _ => q - (intOf i).toNat)
          case atStart => exact ⟨0, _, _, _, Nat.zero_le _, rfl, HK.out, HB.out⟩
          case round =>
            clear HK HB
            obtain ⟨j, F1, F2, F3, hj, rfl, hK, hB⟩ := hrel
            have hbs := hB.size
            have hoj := Ar.filAt_ok k (ds.take j) ((ix k).map some, []) HOK0.out
            rw [List.length_map, ix_len] at hoj
            by_cases hlj : j < q
            · obtain ⟨x, hx⟩ : ∃ x, ds[j]? = some x := ⟨_, List.getElem?_eq_getElem (by rw [HQ.out]; exact hlj)⟩
              have hxb := hd2 x (List.mem_of_getElem? hx)
              obtain ⟨bd, od, rfl, hcd⟩ := HD.out.below hB j x hx
              have hE := Ar.filAt_take (n := k) (p := ((ix k).map some, [])) hx
              by_cases hk0 : k = 0
              · rw [Ar.filStep, if_pos hk0] at hE
                have HE := Lib.hid hE
                have HK := Lib.hid hK
                clear hK hE hx hcd hoj
                have hk0' : ¬ (0 : Int) < (k : Int) := by omega
                go_wp2_with fail
                go_roundw
                case rel => exact ⟨j + 1, F1, F2, F3, by omega, by go_num, by rw [HE.out]; exact HK.out, hB⟩
                case measure => simp [intOf]; omega
              · rw [Ar.filStep, if_neg hk0] at hE
                have hxk : x.toNat % k < k := Nat.mod_lt _ (by omega)
                obtain ⟨z, hz⟩ : ∃ z : Nat, x.toNat % k = z := ⟨_, rfl⟩
                rw [hz] at hE hxk
                have htm : Int.tmod x (k : Int) = (z : Int) := by
                  rw [Int.tmod_eq_emod_of_nonneg hxb.1, ← hz, Int.natCast_emod, Int.toNat_of_nonneg hxb.1]
                obtain ⟨g, hAg, hc⟩ := Row.cell (F := F1) ⟨by have h := hK.r; rw [Ar.tab_len] at h ⊢; exact h, hK.r1⟩ (i := z) (Ar.tab_get (f := fun j => Ar.hdl b s j) hxk)
                subst hAg
                have hdr := Ar.drop_hdl b s (cs := (Ar.filAt k (ds.take j) ((ix k).map some, [])).1) (fr := (Ar.filAt k (ds.take j) ((ix k).map some, [])).2) (j := z) (by rw [hoj.2]; exact hxk) (by rw [hoj.2]; omega)
                obtain ⟨p, hp⟩ : ∃ p, Ar.filAt k (ds.take j) ((ix k).map some, []) = p := ⟨_, rfl⟩
                rw [hp] at hK hE hdr hoj
                have hi64 := hdl_i64 b s z (by omega)
                obtain ⟨Hz, hHz⟩ : ∃ Hz, Ar.hdl b s z = Hz := ⟨_, rfl⟩
                rw [hHz] at hdr hi64 hc
                obtain ⟨e, he⟩ : ∃ e, (Ar.has b s p.1 Hz).isSome = e := ⟨_, rfl⟩
                have HE := Lib.hid hE
                have HK := Lib.hid hK
                have HO := Lib.hid hoj
                have HDR := Lib.hid hdr
                have HHE := Lib.hid he
                have b1 : (e != e) = false := by simp
                clear hK hE hx hoj hz hdr hp hHz he
                go_wp2_with fail
                refine (adrop_any w1.heap.size B1 b s Hz _ _ F1 _ HK.out.a1 hbs HO.out.1 hi64 (by rw [HO.out.2]; omega)).mono ?_
                rintro e' w4 ⟨F4, rfl, hA4, hst4⟩
                rw [HDR.out] at hA4
                rw [HHE.out]
                have hK4 := HK.out.stepA hA4 hst4
                have hB4 : Below w1.heap.size w1 w4 := hB.trans (hst4.1.below hbs fun j hj => (HK.out.a1.lt j hj).1)
                have hs4 := hB4.size
                have HDS := Lib.hid (adrop_anyS f w1.heap.size B2 b s Hz _ _ F2 w4 hK4.a2 hs4 HO.out.1 hi64 (by rw [HO.out.2]; omega))
                rw [HDR.out, HHE.out] at HDS
                have HK4 := Lib.hid hK4
                clear hA4 hst4 HK hK4 hc hcd
                go_wp2_with fail
                refine HDS.out.mono ?_
                rintro e' w5 ⟨F5, rfl, hA5, hst5⟩
                have hK5 := HK4.out.stepB hA5 hst5
                have hB5 : Below w1.heap.size w1 w5 := hB4.trans (hst5.1.below hs4 fun j hj => (HK4.out.a2.lt j hj).1)
                have hs5 := hB5.size
                have HDP := Lib.hid (adrop_anyP f w1.heap.size B3 b s Hz _ _ F3 w5 hK5.a3 hs5 HO.out.1 hi64 (by rw [HO.out.2]; omega))
                rw [HDR.out, HHE.out] at HDP
                have HK5 := Lib.hid hK5
                clear hA5 hst5 HK4 hK5 HDS
                go_wp2_with fail
                refine HDP.out.mono ?_
                rintro e' w6 ⟨F6, rfl, hA6, hst6⟩
                have hB6 : Below w1.heap.size w1 w6 := hB5.trans (hst6.1.below hs5 fun j hj => (HK5.out.a3.lt j hj).1)
                have HK6 := Lib.hid (HK5.out.stepC hA6 hst6)
                clear hA6 hst6 HK5 HDP
                go_wp2_with fail
                go_roundw
                case rel => exact ⟨j + 1, F4, F5, F6, by omega, by go_num, by rw [HE.out]; exact HK6.out, hB6⟩
                case measure => simp [intOf]; omega
            · have ej : j = q := by omega
              subst ej
              rw [List.take_of_length_le (by rw [HQ.out]; exact Nat.le_refl _)] at hK hoj
              have hrec : ∀ h v, Ar.get b s (Ar.filAt k ds ((ix k).map some, [])).1 h = some v → ∃ i : Nat, i < k ∧ v = (i : Int) := fun h v e => ix_rec e
              obtain ⟨p, hp⟩ : ∃ p, Ar.filAt k ds ((ix k).map some, []) = p := ⟨_, rfl⟩
              rw [hp] at hK hoj hrec
              have HK := Lib.hid hK
              have HO := Lib.hid hoj
              have HR := Lib.hid hrec
              have HB := Lib.hid hB
              clear hK hoj hp hB hbs hrec
              go_wp2_with fail
              go_loopw [107] (fun i wr => ∃ (j : Nat), j ≤ k ∧ i = .int .i64 j ∧ KS f w1.heap.size wr B1 B2 B3 b s p.1 p.1 p.1 p.2 p.2 p.2 F1 F2 F3 (.slice Ag k cg) (Ar.tab k fun j => Ar.hdl b s j) ∧ Below w1.heap.size w1 wr) (fun i _ => k - (intOf i).toNat)
              case atStart => exact ⟨0, Nat.zero_le _, rfl, HK.out, HB.out⟩
              case round =>
                clear HK HB
                obtain ⟨m, hm, rfl, hK, hB⟩ := hrel
                have hbs := hB.size
                by_cases hlm : m < k
                · obtain ⟨g, hAg, hc⟩ := Row.cell (F := F1) ⟨by have h := hK.r; rw [Ar.tab_len] at h ⊢; exact h, hK.r1⟩ (i := m) (Ar.tab_get (f := fun j => Ar.hdl b s j) hlm)
                  subst hAg
                  have hi64 := hdl_i64 b s m (by omega)
                  obtain ⟨Hz, hHz⟩ : ∃ Hz, Ar.hdl b s m = Hz := ⟨_, rfl⟩
                  rw [hHz] at hi64 hc
                  obtain ⟨G, hG⟩ : ∃ G, Ar.get b s p.1 Hz = G := ⟨_, rfl⟩
                  have hrow : ∀ w', Below wr.heap.size wr w' → w'.cell? ⟨g, m, none⟩ = some (.int .i64 Hz) := fun w' hb => (hb.cell (World.block_lt_of_cell? wr _ hc)).trans hc
                  have HROW := Lib.hid hrow
                  have hgv : ∀ v, G = some v → ∃ i : Nat, i < k ∧ v = (i : Int) := fun v e => HR.out Hz v (hG.trans e)
                  have HGV := Lib.hid hgv
                  have HK := Lib.hid hK
                  have HGI := Lib.hid (aget_any w1.heap.size B1 b s Hz p.1 p.2 F1 wr hK.a1 hi64 (by rw [HO.out.2]; omega))
                  rw [hG] at HGI
                  obtain ⟨ok, hok⟩ : ∃ ok, G.isSome = ok := ⟨_, rfl⟩
                  obtain ⟨vx, hvx⟩ : ∃ vx, G.getD 0 = vx := ⟨_, rfl⟩
                  obtain ⟨sx, hsx⟩ : ∃ sx, strOf f G = sx := ⟨_, rfl⟩
                  rw [hok, hvx] at HGI
                  have HOK := Lib.hid hok
                  have HVX := Lib.hid hvx
                  have HSX := Lib.hid hsx
                  clear hok hvx hsx
                  have hpl : p.1.length ≤ 1000 := by rw [HO.out.2]; omega
                  have HG := Lib.hid hG
                  have q1 : (m : Int) < (k : Int) := by omega
                  have q0 : (0 : Int) ≤ (m : Int) := by omega
                  clear hK hrow hgv hG hHz
                  go_wp2_with fail
                  refine HGI.out.mono ?_
                  rintro e w4 ⟨rfl, hb4⟩
                  have hK4 := HK.out.below hb4
                  have hc4 := HROW.out w4 hb4
                  have hB4 := hB.trans (hb4.mono hbs)
                  have HGS := Lib.hid (aget_anyS f w1.heap.size B2 b s Hz _ p.1 p.2 F2 w4 hK4.a2 hi64 hpl)
                  rw [HG.out, HOK.out, HSX.out] at HGS
                  have HK4 := Lib.hid hK4
                  have HB4 := Lib.hid hb4
                  clear hK4 hb4 hc HGI
                  go_wp2_with fail
                  refine HGS.out.mono ?_
                  rintro e w5 ⟨rfl, hb5⟩
                  have hK5 := HK4.out.below hb5
                  have hb45 := HB4.out.trans (hb5.mono HB4.out.size)
                  have hc5 := HROW.out w5 hb45
                  have hB5 := hB4.trans (hb5.mono hB4.size)
                  have HGP := Lib.hid (aget_anyP f w1.heap.size B3 b s Hz _ p.1 p.2 F3 w5 hK5.a3 hi64 hpl)
                  rw [HG.out, HOK.out, HSX.out, HVX.out] at HGP
                  have HK5 := Lib.hid hK5
                  clear hK5 hb5 hc4 HGS hb45
                  go_wp2_with fail
                  refine HGP.out.mono ?_
                  rintro e w6 ⟨rfl, hb6⟩
                  have ha7 := (Below.refl _ w6).alloc (Nat.le_refl _) (.cells #[.string sx, .int .i64 vx] 83)
                  have hT7 := Whole.new w6 #[.string sx, .int .i64 vx] 83
                  have hK7 := (HK5.out.below hb6).below ha7
                  have hB7 := (hB5.trans (hb6.mono hB5.size)).trans (ha7.mono (hB5.trans (hb6.mono hB5.size)).size)
                  obtain ⟨w7, hw7⟩ : ∃ w7, w6.alloc (.cells #[.string sx, .int .i64 vx] 83) = w7 := ⟨_, rfl⟩
                  rw [hw7] at hT7 hK7 hB7
                  have t0 : w7.cell? ⟨w6.heap.size, 0, none⟩ = some (.string sx) := hT7.cell 0
                  have t1 : w7.cell? ⟨w6.heap.size, 1, none⟩ = some (.int .i64 vx) := hT7.cell 1
                  have HK7 := Lib.hid (fun nq => (show KS f w1.heap.size (w7.drewN nq) B1 B2 B3 b s p.1 p.1 p.1 p.2 p.2 p.2 F1 F2 F3 (.slice (some ⟨g, 0, none⟩) k cg) (Ar.tab k fun j => Ar.hdl b s j) from hK7.below ⟨rfl, rfl, rfl, Nat.le_refl _, fun _ _ => rfl⟩))
                  have HB7 := Lib.hid (fun nq => (show Below w1.heap.size w1 (w7.drewN nq) from hB7.trans ⟨rfl, rfl, rfl, Nat.le_refl _, fun _ _ => rfl⟩))
                  have hls := HL.out.below hB7
                  have HLS := Lib.hid hls
                  clear hT7 hK7 hB7 hb6 hc5 HGP HK5 HK4 HB4 hB4 hB5 ha7 hls
                  go_wp2_with fail
                  clear hw7
                  cases G with
                  | none =>
                    have e1 : ok = false := HOK.out.symm
                    have e2 : vx = 0 := HVX.out.symm
                    have e3 : sx = ⟨#[]⟩ := HSX.out.symm
                    subst e1 e2 e3
                    go_quiet (fail)
                    go_wp2_with fail
                    go_roundw
                    case rel => exact ⟨m + 1, by omega, by go_num, HK7.out _, HB7.out _⟩
                    case measure => simp [intOf]; omega
                  | some v =>
                    obtain ⟨i, hi, rfl⟩ := HGV.out v rfl
                    obtain ⟨x, hx⟩ : ∃ x, ls[i]? = some x := ⟨_, List.getElem?_eq_getElem (by rw [HN.out]; exact hi)⟩
                    obtain ⟨bl, ol, hbl, hc0⟩ := HLS.out i x hx
                    subst hbl
                    have e1 : ok = true := HOK.out.symm
                    have e2 : vx = (i : Int) := HVX.out.symm
                    have e3 : sx = x := HSX.out.symm.trans (HFF.out i x hx)
                    subst e1 e2 e3
                    have p1 : (i : Int) < (k : Int) := by omega
                    have p0 : (0 : Int) ≤ (i : Int) := by omega
                    have b2 : (((i : Int)) != (i : Int)) = false := by simp
                    clear hx
                    go_quiet (fail)
                    go_wp2_with fail
                    go_roundw
                    case rel => exact ⟨m + 1, by omega, by go_num, HK7.out _, HB7.out _⟩
                    case measure => simp [intOf]; omega
                · have ek : m = k := by omega
                  subst ek
                  clear HR hK
                  have hB2 := hB.alloc hbs (.cells #[.int .i64 0, .int .i64 0, .slice none 0 0, .slice none 0 0, .int .i64 0] 76)
                  have hA2 : AS (fun _ => ⟨#[120]⟩) wr.heap.size (wr.alloc (.cells #[.int .i64 0, .int .i64 0, .slice none 0 0, .slice none 0 0, .int .i64 0] 76)) wr.heap.size 0 0 [] [] (Foot wr.heap.size (.slice none 0 0) (.slice none 0 0)) :=
                    ⟨_, _, Whole.new wr _ _, Nat.le_refl _, World.ownsRow_nil _ _ _ _, World.ownsRow_nil _ _ _ _, rfl⟩
                  have hz2 : wr.heap.size ≤ (wr.alloc (.cells #[.int .i64 0, .int .i64 0, .slice none 0 0, .slice none 0 0, .int .i64 0] 76)).heap.size := by simp
                  obtain ⟨w2, hw2⟩ : ∃ w2, wr.alloc (.cells #[.int .i64 0, .int .i64 0, .slice none 0 0, .slice none 0 0, .int .i64 0] 76) = w2 := ⟨_, rfl⟩
                  rw [hw2] at hB2 hA2 hz2
                  have HLE := Lib.hid (alen_anyS (fun _ => ⟨#[120]⟩) wr.heap.size wr.heap.size 0 0 (Ar.live []) [] [] _ w2 hA2)
                  rw [show ((Ar.live [] : Nat) : Int) = 0 from rfl] at HLE
                  have HA2 := Lib.hid hA2
                  clear hA2
                  go_wp2_with fail
                  refine HLE.out.mono ?_
                  rintro e w3 ⟨rfl, hb3⟩
                  have hA3 := HA2.out.below hb3
                  have hB3 := hB2.trans (hb3.mono hB2.size)
                  have hz3 : wr.heap.size ≤ w3.heap.size := by have := hb3.size; omega
                  have HAD := Lib.hid (aadd_anyS (fun _ => ⟨#[120]⟩) wr.heap.size wr.heap.size 0 0 0 [] [] _ w3 hA3 hz3 Ar.Ok.nil (by simp))
                  rw [show Ar.hdl 0 0 (Ar.add [] [] 0).2.2 = 1 by decide] at HAD
                  have HA3 := Lib.hid hA3
                  clear hA3 HLE HA2 hw2 hb3
                  go_wp2_with fail
                  refine HAD.out.mono ?_
                  rintro e w4 ⟨F4, rfl, hA4, hst4⟩
                  have hB4 : Below w1.heap.size w1 w4 := hB3.trans ((hst4.1.below hz3 fun j hj => (HA3.out.lt j hj).1).mono hbs)
                  have HLF := Lib.hid (alen_anyS (fun _ => ⟨#[120]⟩) wr.heap.size wr.heap.size 0 0 _ _ _ _ w4 hA4)
                  rw [show ((Ar.live (Ar.add [] [] 0).1 : Nat) : Int) = 1 by decide] at HLF
                  clear hA4 hst4 HAD HA3
                  go_wp2_with fail
                  refine HLF.out.mono ?_
                  rintro e w5 ⟨rfl, hb5⟩
                  have hB5 := HB1.out.trans ((hB4.trans (hb5.mono hB4.size)).mono HB1.out.size)
                  clear HLF hb5
                  go_wp2_with fail
                  go_ret
                  exact ⟨rfl, hB5⟩
end Go.Proofs.Ytbjlhkgbnfkedaa
