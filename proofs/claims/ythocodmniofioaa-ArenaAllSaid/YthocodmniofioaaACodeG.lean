/- The methods of an arena of numbers, and the law's function that says whether the program is awake. -/
import Derived.Test.YthocodmniofioaaAGetI
namespace Go.Proofs.Ythocodmniofioaa
open Go.RowKit

/-- An arena of numbers. -/
abbrev AI (base : Nat) (w : World) (B : Nat) (b s : Int) (cs : List (Option Int)) (fr : List Nat) (F : Nat → Prop) : Prop :=
  AM 29 57 3 2 base w B b s cs.length (Ar.slots cs) fr (Ar.live cs) F
abbrev arenaV (b s : Int) (vs vf : Value) (live : Int) : Value := .agg #[.int .i64 b, .int .i64 s, vs, vf, .int .i64 live]

theorem anew_any (b s : Int) (w : World) :
    Calls Try.prog 12 #[saltV b s] w fun e w' => e = .returned (arenaV b s (.slice none 0 0) (.slice none 0 0) 0) ∧ Below w.heap.size w w' := anew_anyI b s w
theorem aadd_any (base B : Nat) (b s v : Int) (cs : List (Option Int)) (fr : List Nat) (F : Nat → Prop) (w : World) (h : AI base w B b s cs fr F) (hb : base ≤ w.heap.size) (hok : Ar.Ok cs fr) (hl : cs.length ≤ 1000) :
    Calls Try.prog 15 #[.pointer (some ⟨B, 0, none⟩), .int .i64 v] w fun e w' => ∃ F', e = .returned (.int .i64 (Ar.hdl b s (Ar.add cs fr v).2.2)) ∧ AI base w' B b s (Ar.add cs fr v).1 (Ar.add cs fr v).2.1 F' ∧ AStep w w' F F' :=
  aadd_anyI base B b s v cs fr F w h hb hok hl
theorem adrop_any (base B : Nat) (b s h : Int) (cs : List (Option Int)) (fr : List Nat) (F : Nat → Prop) (w : World) (hm : AI base w B b s cs fr F) (hb : base ≤ w.heap.size) (hok : Ar.Ok cs fr) (hh : I64 h) (hl : cs.length ≤ 1000) :
    Calls Try.prog 19 #[.pointer (some ⟨B, 0, none⟩), .int .i64 h] w fun e w' => ∃ F', e = .returned (.bool (Ar.has b s cs h).isSome) ∧ AI base w' B b s (Ar.drop b s cs fr h).1 (Ar.drop b s cs fr h).2 F' ∧ AStep w w' F F' :=
  adrop_anyI base B b s h cs fr F w hm hb hok hh hl
theorem aget_any (base B : Nat) (b s h : Int) (cs : List (Option Int)) (fr : List Nat) (F : Nat → Prop) (w : World) (hm : AI base w B b s cs fr F) (hh : I64 h) (hl : cs.length ≤ 1000) :
    Calls Try.prog 20 #[.pointer (some ⟨B, 0, none⟩), .int .i64 h] w fun e w' => e = .returned (.tuple #[.int .i64 ((Ar.get b s cs h).getD 0), .bool (Ar.get b s cs h).isSome]) ∧ Below w.heap.size w w' :=
  aget_anyI base B b s h (Ar.live cs) cs fr F w hm hh hl
theorem alen_any (base B : Nat) (b s : Int) (cs : List (Option Int)) (fr : List Nat) (F : Nat → Prop) (w : World) (hm : AI base w B b s cs fr F) :
    Calls Try.prog 29 #[.pointer (some ⟨B, 0, none⟩)] w fun e w' => e = .returned (.int .i64 (Ar.live cs : Nat)) ∧ Below w.heap.size w w' :=
  alen_anyI base B b s (Ar.live cs) cs fr F w hm

/-- A record that is written through its address. -/
theorem AI.put {base B : Nat} {b s h v : Int} {cs : List (Option Int)} {fr : List Nat} {w : World} {i g c : Nat} {A' : Option Addr} {c' : Nat} (hM : AMv 29 57 3 2 base w B b s (.slice (some ⟨g, 0, none⟩) cs.length c) cs.length (Ar.rows Ar.slot cs) (.slice A' fr.length c') fr (Ar.live cs)) (e : Ar.has b s cs h = some i) :
    AI base (w.setCell ⟨g, i * 2 + 1, none⟩ (.int .i64 v)) B b s (Ar.set b s cs h v) fr (Foot B (.slice (some ⟨g, 0, none⟩) cs.length c) (.slice A' fr.length c')) ∧ AStep w (w.setCell ⟨g, i * 2 + 1, none⟩ (.int .i64 v)) (Foot B (.slice (some ⟨g, 0, none⟩) cs.length c) (.slice A' fr.length c')) (Foot B (.slice (some ⟨g, 0, none⟩) cs.length c) (.slice A' fr.length c')) := by
  obtain ⟨_, h2, u, h3⟩ := Ar.has_some e
  obtain ⟨hP, sP⟩ := hM.put (i * 2 + 1) (.int .i64 v)
  have hset : Ar.set b s cs h v = cs.set i (some v) := by unfold Ar.set; rw [e]
  have hx : (Ar.rows Ar.slot cs).set (i * 2 + 1) (.int .i64 v) = Ar.rows Ar.slot (cs.set i (some v)) := by
    rw [← Ar.rows_set2 slotLenI h2 (x := some v) (a := .bool true) (b := .int .i64 v) rfl]
    congr 1
    have h4 := Ar.rows_get slotLenI h3 (by omega : 0 < 2)
    have h5 : (Ar.rows Ar.slot cs)[i * 2]? = some (.bool true) := h4.trans rfl
    obtain ⟨h6, h7⟩ := List.getElem?_eq_some_iff.1 h5
    rw [← h7, List.set_getElem_self]
  rw [hx] at hP
  refine ⟨?_, sP⟩
  rw [hset]
  show AM _ _ _ _ _ _ _ _ _ (cs.set i (some v)).length (Ar.rows Ar.slot (cs.set i (some v))) fr (Ar.live (cs.set i (some v))) _
  rw [Ar.live_same h3, List.length_set]
  exact hP.am

set_option maxRecDepth 100000 in
set_option maxHeartbeats 1000000 in
theorem aset_any (base B : Nat) (b s h v : Int) (cs : List (Option Int)) (fr : List Nat) (F : Nat → Prop) (w : World) (hm : AI base w B b s cs fr F) (_hb : base ≤ w.heap.size) (hh : I64 h) (hl : cs.length ≤ 1000) :
    Calls Try.prog 17 #[.pointer (some ⟨B, 0, none⟩), .int .i64 h, .int .i64 v] w fun e w' => e = .returned (.bool (Ar.has b s cs h).isSome) ∧ AI base w' B b s (Ar.set b s cs h v) fr F ∧ Turns F w w' := by
  obtain ⟨A, c, A', c', hM, hF⟩ := hm.opened (by decide) (by decide) (by decide)
  subst hF
  have hcase : (∃ i : Nat, Ar.has b s cs h = some i) ∨ Ar.has b s cs h = none := by cases Ar.has b s cs h with | none => exact .inr rfl | some i => exact .inl ⟨i, rfl⟩
  go_enter Try.func17, Try.ntmps17
  go_wp2_with fail
  refine (aat_anyI base B b s h (Ar.live cs) cs fr _ _ w hM hh hl).mono ?_
  rintro e w2 ⟨rfl, hb2⟩
  have hM2 := hM.below hb2
  rcases hcase with ⟨i, e1⟩ | e1
  · rw [e1]
    obtain ⟨_, h2, u, h3⟩ := Ar.has_some e1
    obtain ⟨g, rfl, hgB, hcell⟩ := hM2.slot (by omega)
    have t1 : w2.cell? ⟨g, i * 2 + 1, none⟩ = some (.int .i64 u) := by rw [(hcell (i * 2 + 1) (by omega)).1]; exact (Ar.rows_get slotLenI h3 (by omega : 1 < 2)).trans rfl
    have f1 := (hcell (i * 2 + 1) (by omega)).2
    have hpt : slotPtr 2 (.slice (some ⟨g, 0, none⟩) cs.length c) (some i) = some ⟨g, i * 2 + 1, none⟩ := rfl
    rw [hpt]
    obtain ⟨hP, sP⟩ := AI.put (v := v) hM2 e1
    have HE := Lib.hid e1
    have HP := Lib.hid hP
    clear hM2 hM hm hcell h3 e1 hpt hP
    go_wp2_with fail
    go_ret
    exact ⟨by rw [HE.out]; rfl, HP.out, ((AStep.of_below hb2).trans sP).1⟩
  · rw [e1]
    have hset : Ar.set b s cs h v = cs := by unfold Ar.set; rw [e1]
    have hpt : slotPtr 2 (.slice A cs.length c) none = none := rfl
    rw [hpt]
    have HE := Lib.hid e1
    have HP := Lib.hid hM2
    have HS := Lib.hid hset
    clear hM2 hM hm e1 hpt hset
    go_wp2_with fail
    go_ret
    exact ⟨by rw [HE.out]; rfl, by rw [HS.out]; exact HP.out.am, .of_below hb2⟩

set_option maxRecDepth 100000 in
set_option maxHeartbeats 1000000 in
theorem aawake_any (w : World) :
    Calls Try.prog 11 #[] w fun e w' => e = .returned (.bool true) ∧ Below w.heap.size w w' := by
  go_enter Try.func11, Try.ntmps11
  go_wp2_with fail
  refine (anew_any 10 3 _).mono ?_
  rintro e w2 ⟨rfl, hb2⟩
  have hs2 := hb2.size
  have hB3 := hb2.alloc hs2 (.cells #[.int .i64 10, .int .i64 3, .slice none 0 0, .slice none 0 0, .int .i64 0] 29)
  have hA3 : AI w.heap.size (w2.alloc (.cells #[.int .i64 10, .int .i64 3, .slice none 0 0, .slice none 0 0, .int .i64 0] 29)) w2.heap.size 10 3 [] [] (Foot w2.heap.size (.slice none 0 0) (.slice none 0 0)) :=
    ⟨_, _, Whole.new w2 _ _, hs2, World.ownsRow_nil _ _ _ _, World.ownsRow_nil _ _ _ _, rfl⟩
  go_wp2_with fail
  obtain ⟨w3, hw3⟩ : ∃ w3, w2.alloc (.cells #[.int .i64 10, .int .i64 3, .slice none 0 0, .slice none 0 0, .int .i64 0] 29) = w3 := ⟨_, rfl⟩
  rw [hw3] at hB3 hA3 ⊢
  obtain ⟨B, hBB⟩ : ∃ B, w2.heap.size = B := ⟨_, rfl⟩
  rw [hBB] at hA3 hs2 ⊢
  clear hw3 hBB hb2
  have hs3 := hB3.size
  refine (aadd_any w.heap.size B 10 3 7 [] [] _ w3 hA3 hs3 ⟨List.nodup_nil, fun _ h => by simp at h⟩ (by simp)).mono ?_
  rintro e w4 ⟨F4, rfl, hA4, hst⟩
  have hb4 : Below w.heap.size w w4 := hB3.trans (hst.1.below hs3 fun j hj => (hA3.lt j hj).1)
  have e1 : Ar.hdl 10 3 (Ar.add [] [] 7).2.2 = 10 := by decide
  rw [e1]
  have HA := Lib.hid hA4
  clear hA4 hA3 hst hB3 e1
  go_wp2_with fail
  refine (aget_any w.heap.size B 10 3 10 _ _ F4 w4 HA.out (by constructor <;> omega) (by decide)).mono ?_
  rintro e w5 ⟨rfl, hb5⟩
  have hA5 := HA.out.below hb5
  have hg : Ar.get 10 3 (Ar.add [] [] 7).1 10 = some 7 := by decide
  rw [hg]
  have HA5 := Lib.hid hA5
  have hB5 := hb4.trans (hb5.mono hb4.size)
  clear hA5 hg HA
  go_wp2_with fail
  refine (alen_any w.heap.size B 10 3 _ _ F4 w5 HA5.out).mono ?_
  rintro e w6 ⟨rfl, hb6⟩
  have hlv : (Ar.live (Ar.add [] [] 7).1 : Nat) = 1 := by decide
  rw [hlv]
  clear hlv
  go_wp2_with fail
  go_ret
  exact ⟨rfl, hB5.trans (hb6.mono hB5.size)⟩
end Go.Proofs.Ythocodmniofioaa
