/- The program's Next returns what the plain text says. -/
import Derived.Test.YtmpdapjfndjicaaDoorEByn
import Derived.Test.YtmpdapjfndjicaaDoorShEnt
namespace Go.Proofs.YtmpdapjfndjicaaDoor
open Go Go.RowKit

/-- What the library's HasPrefix says at a literal. -/
def PF (s : ByteArray) (p : List UInt8) (b : Bool) : Prop := ∀ w : World, Calls Tryd.prog 24 #[.string s, .string ⟨p.toArray⟩] w fun e w' => e = .returned (.bool b) ∧ w = w'
theorem pf_any (s : ByteArray) (p : List UInt8) : PF s p (p.isPrefixOf s.data.toList) := fun w => (Tryd.hasPrefix s ⟨p.toArray⟩ w).mono fun _ _ ⟨h1, h2⟩ => ⟨h1, h2.symm⟩
theorem pf_len {p l : List UInt8} (h : p.isPrefixOf l = true) : p.length ≤ l.length := (List.isPrefixOf_iff_prefix.1 h).length_le

set_option maxRecDepth 100000 in
set_option maxHeartbeats 1000000 in
theorem tnext_any (s : ByteArray) (w : World) (hT : Tab w) (hs : s.size ≤ 20000) :
    Calls Tryd.prog 16 #[.string s] w fun e w' => e = .returned (.tuple #[.string (tstr (Ent.next s.data.toList).1), .int .i64 (Ent.next s.data.toList).2]) ∧ w = w' := by
  have q1 := pf_any s [38, 35, 120]
  have q2 := pf_any s [38, 35, 88]
  have q3 := pf_any s [38, 35]
  have q4 := pf_any s [38]
  have l1 : [38, 35, 120].isPrefixOf s.data.toList = true → 3 ≤ s.size := fun h => pf_len h
  have l2 : [38, 35, 88].isPrefixOf s.data.toList = true → 3 ≤ s.size := fun h => pf_len h
  have l3 : [38, 35].isPrefixOf s.data.toList = true → 2 ≤ s.size := fun h => pf_len h
  have l4 : [38].isPrefixOf s.data.toList = true → 1 ≤ s.size := fun h => pf_len h
  have hn : Ent.next s.data.toList = if [38, 35, 120].isPrefixOf s.data.toList || [38, 35, 88].isPrefixOf s.data.toList then Ent.byNum 16 3 s.data.toList else if [38, 35].isPrefixOf s.data.toList then Ent.byNum 10 2 s.data.toList else if [38].isPrefixOf s.data.toList then Ent.byName s.data.toList else ([], 0) := rfl
  cases h1 : [38, 35, 120].isPrefixOf s.data.toList with
  | true =>
    rw [h1] at q1
    have hq := tbyNumber_16 s 3 w (l1 h1) hs
    have HN := Lib.hid (show Ent.next s.data.toList = Ent.byNum 16 3 s.data.toList by rw [hn, h1]; rfl)
    clear hn l1 l2 l3 l4 q2 q3 q4 h1
    go_enter Tryd.func16, Tryd.ntmps16
    go_wp2_with fail
    refine (q1 w).mono ?_
    rintro e w' ⟨rfl, rfl⟩
    go_wp2_with fail
    refine hq.mono ?_
    rintro e w' ⟨rfl, rfl⟩
    go_wp2_with fail
    go_ret2
    exact ⟨retSI (by rw [HN.out]) (by rw [HN.out]), rfl⟩
  | false =>
    rw [h1] at q1
    cases h2 : [38, 35, 88].isPrefixOf s.data.toList with
    | true =>
      rw [h2] at q2
      have hq := tbyNumber_16 s 3 w (l2 h2) hs
      have HN := Lib.hid (show Ent.next s.data.toList = Ent.byNum 16 3 s.data.toList by rw [hn, h1, h2]; rfl)
      clear hn l1 l2 l3 l4 q3 q4 h1 h2
      go_enter Tryd.func16, Tryd.ntmps16
      go_wp2_with fail
      refine (q1 w).mono ?_
      rintro e w' ⟨rfl, rfl⟩
      go_wp2_with fail
      refine (q2 w).mono ?_
      rintro e w' ⟨rfl, rfl⟩
      go_wp2_with fail
      refine hq.mono ?_
      rintro e w' ⟨rfl, rfl⟩
      go_wp2_with fail
      go_ret2
      exact ⟨retSI (by rw [HN.out]) (by rw [HN.out]), rfl⟩
    | false =>
      rw [h2] at q2
      cases h3 : [38, 35].isPrefixOf s.data.toList with
      | true =>
        rw [h3] at q3
        have hq := tbyNumber_10 s 2 w (l3 h3) hs
        have HN := Lib.hid (show Ent.next s.data.toList = Ent.byNum 10 2 s.data.toList by rw [hn, h1, h2, h3]; rfl)
        clear hn l1 l2 l3 l4 q4 h1 h2 h3
        go_enter Tryd.func16, Tryd.ntmps16
        go_wp2_with fail
        refine (q1 w).mono ?_
        rintro e w' ⟨rfl, rfl⟩
        go_wp2_with fail
        refine (q2 w).mono ?_
        rintro e w' ⟨rfl, rfl⟩
        go_wp2_with fail
        refine (q3 w).mono ?_
        rintro e w' ⟨rfl, rfl⟩
        go_wp2_with fail
        refine hq.mono ?_
        rintro e w' ⟨rfl, rfl⟩
        go_wp2_with fail
        go_ret2
        exact ⟨retSI (by rw [HN.out]) (by rw [HN.out]), rfl⟩
      | false =>
        rw [h3] at q3
        cases h4 : [38].isPrefixOf s.data.toList with
        | true =>
          rw [h4] at q4
          have hq := tbyName_any s w hT (l4 h4) hs
          have HN := Lib.hid (show Ent.next s.data.toList = Ent.byName s.data.toList by rw [hn, h1, h2, h3, h4]; rfl)
          clear hn l1 l2 l3 l4 h1 h2 h3 h4
          go_enter Tryd.func16, Tryd.ntmps16
          go_wp2_with fail
          refine (q1 w).mono ?_
          rintro e w' ⟨rfl, rfl⟩
          go_wp2_with fail
          refine (q2 w).mono ?_
          rintro e w' ⟨rfl, rfl⟩
          go_wp2_with fail
          refine (q3 w).mono ?_
          rintro e w' ⟨rfl, rfl⟩
          go_wp2_with fail
          refine (q4 w).mono ?_
          rintro e w' ⟨rfl, rfl⟩
          go_wp2_with fail
          refine hq.mono ?_
          rintro e w' ⟨rfl, rfl⟩
          go_wp2_with fail
          go_ret2
          exact ⟨retSI (by rw [HN.out]) (by rw [HN.out]), rfl⟩
        | false =>
          rw [h4] at q4
          have HN := Lib.hid (show Ent.next s.data.toList = ([], 0) by rw [hn, h1, h2, h3, h4]; rfl)
          clear hn l1 l2 l3 l4 h1 h2 h3 h4
          go_enter Tryd.func16, Tryd.ntmps16
          go_wp2_with fail
          refine (q1 w).mono ?_
          rintro e w' ⟨rfl, rfl⟩
          go_wp2_with fail
          refine (q2 w).mono ?_
          rintro e w' ⟨rfl, rfl⟩
          go_wp2_with fail
          refine (q3 w).mono ?_
          rintro e w' ⟨rfl, rfl⟩
          go_wp2_with fail
          refine (q4 w).mono ?_
          rintro e w' ⟨rfl, rfl⟩
          go_wp2_with fail
          go_ret2
          exact ⟨retSI (by rw [HN.out]; rfl) (by rw [HN.out]; rfl), rfl⟩

end Go.Proofs.YtmpdapjfndjicaaDoor
