/- The statement EntityBack returns true: its walk. -/
import Derived.Test.YtmpdapjfndjicaaDoorEAwk
import Derived.Test.YtmpdapjfndjicaaDoorECEs
namespace Go.Proofs.YtmpdapjfndjicaaDoor
open Go Go.RowKit

set_option maxHeartbeats 1000000 in
theorem back_walk (s u : ByteArray) (w : World) (hT : Tab w) (hM : MaxLen w) :
    Calls Tryd.prog 8 #[.string s, .string u] w fun e w' => e = .returned (.bool true) ∧ Below w.heap.size w w' := by
  by_cases hs : s.size ≤ 1000
  · by_cases hu : u.size ≤ 1000
    · have c1 := fun w (h : MaxLen w) => tescape_any s.data.toList w h (by show s.size ≤ 2000; omega)
      have c2 := fun w (h : MaxLen w) => tescapeAttr_any s.data.toList w h (by show s.size ≤ 2000; omega)
      have c3 := fun w (h : MaxLen w) => tescapeAttr_any u.data.toList w h (by show u.size ≤ 2000; omega)
      rw [tstr_of] at c1 c2 c3
      have z1 := Ent.flat_len _ Ent.esc_len s.data.toList
      have z2 := Ent.flat_len _ Ent.escA_len s.data.toList
      have z3 := Ent.flat_len _ Ent.escA_len u.data.toList
      have hsl : s.data.toList.length = s.size := rfl
      have hul : u.data.toList.length = u.size := rfl
      have e1 : Ent.decode (tstr (s.data.toList.flatMap Ent.esc)).data.toList = s.data.toList := by
        have := Ent.decode_back s.data.toList []
        rwa [List.append_nil, Ent.decode_nil, List.append_nil] at this
      have e2 : Ent.decode (tstr (s.data.toList.flatMap Ent.escA)).data.toList = s.data.toList := by
        have := Ent.decode_backA s.data.toList []
        rwa [List.append_nil, Ent.decode_nil, List.append_nil] at this
      have e3 : Ent.decode (tstr (s.data.toList.flatMap Ent.esc) ++ tstr (u.data.toList.flatMap Ent.escA)).data.toList = (s ++ u).data.toList := by
        rw [tstr_append, tstr_data, Ent.decode_back]
        have := Ent.decode_backA u.data.toList []
        rw [List.append_nil, Ent.decode_nil, List.append_nil] at this
        rw [this]
        have h : s ++ u = tstr (s.data.toList ++ u.data.toList) := by rw [← tstr_append]; rfl
        rw [h, tstr_data]
      have zX : (tstr (s.data.toList.flatMap Ent.esc)).size ≤ 6000 := by rw [tstr_size]; omega
      have zY : (tstr (s.data.toList.flatMap Ent.escA)).size ≤ 6000 := by rw [tstr_size]; omega
      have zZ : (tstr (u.data.toList.flatMap Ent.escA)).size ≤ 6000 := by rw [tstr_size]; omega
      obtain ⟨X, hX⟩ : ∃ X, tstr (s.data.toList.flatMap Ent.esc) = X := ⟨_, rfl⟩
      obtain ⟨Y, hY⟩ : ∃ Y, tstr (s.data.toList.flatMap Ent.escA) = Y := ⟨_, rfl⟩
      obtain ⟨Z, hZ⟩ : ∃ Z, tstr (u.data.toList.flatMap Ent.escA) = Z := ⟨_, rfl⟩
      simp only [hX, hY, hZ] at c1 c2 c3 e1 e2 e3 zX zY zZ
      have d1 := fun w (h : Tab w) => tdecode_any X w h (by omega)
      have d2 := fun w (h : Tab w) => tdecode_any Y w h (by omega)
      have d3 := fun w (h : Tab w) => tdecode_any (X ++ Z) w h (by rw [ByteArray.size_append]; omega)
      rw [e1, tstr_of] at d1
      rw [e2, tstr_of] at d2
      rw [e3, tstr_of] at d3
      have q1 := sameS s
      have q2 := sameS (s ++ u)
      clear hX hY hZ e1 e2 e3 z1 z2 z3 hsl hul
      go_enter Tryd.func8, Tryd.ntmps8
      go_wp2_with fail
      refine (awake_any w hT).mono ?_
      rintro e w1 ⟨rfl, hb1⟩
      have hM1 := hM.below hb1
      have hT1 := hT.below hb1
      go_wp2_with fail
      refine (c1 w1 hM1).mono ?_
      rintro e w2 ⟨rfl, hb2⟩
      have hM2 := hM1.below hb2
      have hT2 := hT1.below hb2
      go_wp2_with fail
      refine (d1 w2 hT2).mono ?_
      rintro e w3 ⟨rfl, hb3⟩
      have hM3 := hM2.below hb3
      have hT3 := hT2.below hb3
      go_wp2_with fail
      refine (c2 w3 hM3).mono ?_
      rintro e w4 ⟨rfl, hb4⟩
      have hM4 := hM3.below hb4
      have hT4 := hT3.below hb4
      go_wp2_with fail
      refine (d2 w4 hT4).mono ?_
      rintro e w5 ⟨rfl, hb5⟩
      have hM5 := hM4.below hb5
      have hT5 := hT4.below hb5
      go_wp2_with fail
      refine (c1 w5 hM5).mono ?_
      rintro e w6 ⟨rfl, hb6⟩
      have hM6 := hM5.below hb6
      have hT6 := hT5.below hb6
      go_wp2_with fail
      refine (c3 w6 hM6).mono ?_
      rintro e w7 ⟨rfl, hb7⟩
      have hT7 := hT6.below hb7
      go_wp2_with fail
      refine (d3 w7 hT7).mono ?_
      rintro e w8 ⟨rfl, hb8⟩
      go_wp2_with fail
      go_ret
      exact ⟨rfl, below_trans' (below_trans' (below_trans' (below_trans' (below_trans' (below_trans' (below_trans' hb1 hb2) hb3) hb4) hb5) hb6) hb7) hb8⟩
    · go_enter Tryd.func8, Tryd.ntmps8
      go_wp2_with fail
      refine (awake_any w hT).mono ?_
      rintro e w1 ⟨rfl, hb1⟩
      go_wp2_with fail
      refine (awake_any w1 (hT.below hb1)).mono ?_
      rintro e w2 ⟨rfl, hb2⟩
      go_wp2_with fail
      go_ret
      exact ⟨rfl, below_trans' hb1 hb2⟩
  · go_enter Tryd.func8, Tryd.ntmps8
    go_wp2_with fail
    refine (awake_any w hT).mono ?_
    rintro e w1 ⟨rfl, hb1⟩
    go_wp2_with fail
    refine (awake_any w1 (hT.below hb1)).mono ?_
    rintro e w2 ⟨rfl, hb2⟩
    go_wp2_with fail
    go_ret
    exact ⟨rfl, below_trans' hb1 hb2⟩

end Go.Proofs.YtmpdapjfndjicaaDoor
