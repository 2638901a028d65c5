/- LinesAt, of the program and of the model. -/
import Derived.Test.YtpmkeagdoehbhaaDoorBCB
import Derived.Maps.AppendAt
import Derived.OwnWalk
namespace Go.Proofs.YtpmkeagdoehbhaaDoor
open Go.ChangeShapes Go.WideShapes Go.ChangeAt Go.RowKit

theorem intInfo : (Tryd.prog.info? 3).map (fun i => (i.zero, i.size, i.bytes)) = some (some (.int .i64 0), 1, 8) := by kernel_rfl

theorem linesAt_any (bs : Int) (A : Option Addr) (n c : Nat) (ls : List L3) (bus : Int) (w : World) (hn : n ≤ 1048576) (hr : RowL w A n ls) :
    Calls Tryd.prog 78 #[.agg #[.int .i64 bs, .slice A n c], .int .i64 bus] w fun e w' => ∃ v, e = .returned v ∧ OwnI 3 w' (w.heap.size + 1) v (linesAtF bs ls bus) ∧ Below w.heap.size w w' := by
  have HR := Lib.hid hr
  obtain ⟨i0, hi, hz0, hz1, hz2⟩ := info_parts intInfo
  have HI := Lib.hid hi
  by_cases hv : netOk bs ls = true
  · have HV := Lib.hid hv
    have hn10 : n ≤ 10 := by have := (netOk_len hv).2.2; have := hr.1; omega
    have HF := Lib.hid (show linesAtF bs ls bus = atTo ls bus n by rw [linesAtF, if_pos hv, hr.1])
    clear hv hr hn hi
    go_enter Tryd.func78, Tryd.ntmps78
    go_wp2_with fail
    have hb0 := below_bx w (.cells #[.int .i64 bs, .slice A n c] 25)
    refine (netValid_any bs _ n c ls _ (by omega) (HR.out.below hb0)).mono ?_
    rintro e w1 ⟨rfl, hb1⟩
    rw [HV.out]
    have a1 : Below w.heap.size w w1 := hb0.trans (hb1.mono (by simp))
    have hs1 : w.heap.size + 1 ≤ w1.heap.size := by have := hb1.size; simpa using this
    obtain ⟨p0, p1, _, _⟩ := ((IsBlk.new w 25 #[.int .i64 bs, .slice A n c]).keep hb1).two
    go_wp2
    go_loopw [5, 14] (fun v i wr => ∃ k : Nat, k ≤ n ∧ i = .int .i64 k ∧ OwnI 3 wr (w.heap.size + 1) v (atTo ls bus k) ∧ Below w.heap.size w wr ∧ w.heap.size + 1 ≤ wr.heap.size) (fun _ i _ => n - (intOf i).toNat)
    case atStart => exact ⟨0, by omega, rfl, World.ownsRow_nil _ _ _ _, a1, hs1⟩
    case round =>
      obtain ⟨k, hk, rfl, hown, hbel, hsz⟩ := hrel
      by_cases hlt : k < n
      · obtain ⟨b, off, rfl, hb, HC'⟩ := HR.out.2 (by omega)
        have hkl : ls[k]? = some (ls[k]'(by have := HR.out.1; omega)) := List.getElem?_eq_getElem _
        generalize (ls[k]'(by have := HR.out.1; omega)) = l at hkl
        obtain ⟨g0, g1, g2⟩ := HC' k l hkl
        rw [← hbel.cell (p := ⟨b, off + k * 3, none⟩) hb] at g0
        rw [← hbel.cell (p := ⟨b, off + k * 3 + 1, none⟩) hb] at g1
        rw [← hbel.cell (p := ⟨b, off + k * 3 + 2, none⟩) hb] at g2
        have HK := Lib.hid hkl
        have HO := Lib.hid hown
        clear hkl HC' hown
        obtain ⟨x, y, z⟩ := l
        simp only at g0 g1 g2
        have hz : w.heap.size ≤ wr.heap.size := hbel.size
        by_cases he : endsB (x, y, z) bus = true
        · have HE := Lib.hid he
          clear he
          go_wp2_with fail
          refine (endsAt_any x y z bus _).mono ?_
          rintro e w2 ⟨rfl, hb2⟩
          rw [HE.out]
          have a2 : Below w.heap.size w w2 := (hbel.alloc hz _).trans (hb2.mono (by simp; omega))
          have hs2 : w.heap.size + 1 ≤ w2.heap.size := by have := hb2.size; simp at this; omega
          have HO2 := Lib.hid ((HO.out.alloc (.cells #[.int .i64 x, .int .i64 y, .int .i64 z] 58)).keep hb2)
          have hlen : (atTo ls bus k).length ≤ k := atTo_len ls bus k
          go_wp2_with (
            at_builtin
            refine wpList_append_own _ rfl _ _ _ rfl (w.heap.size + 1) 3 i0 (.int .i64 0) 1 8 Tryd.underlying28 HI.out hz0 hz1 hz2 rfl (by decide) _ _ _ rfl (World.ownsRow.alloc HO2.out _) ⟨w2.heap.size, 0, none⟩ 1 1 [.int .i64 (k : Int)] rfl rfl ?c1 ?c2 ?c3 ?c4 ?c5 ?_
            case c1 => exact cell_one_new _ _ _
            case c2 => intro u hu; simp at hu; subst hu; rfl
            case c3 => simp only [maxLen]; omega
            case c4 => omega
            case c5 => simp; omega
            intro v' w3 hown' hgrow _
            have hb3 : Below w.heap.size w w3 := (a2.alloc a2.size _).grown hgrow (by have := a2.size; simp; omega) (fun q hq => by have := (World.ownsRow.lt HO2.out q hq).1; omega)
            have hs3 : w.heap.size + 1 ≤ w3.heap.size := by have := hgrow.size; simp at this; omega)
          go_roundw
          case rel => exact ⟨k + 1, by omega, by go_num, by rw [atTo_yes HK.out HE.out]; simpa [OwnI] using hown', hb3, hs3⟩
          case measure => simp [intOf]; omega
        · rw [Bool.not_eq_true] at he
          have HE := Lib.hid he
          clear he
          go_wp2_with fail
          refine (endsAt_any x y z bus _).mono ?_
          rintro e w2 ⟨rfl, hb2⟩
          rw [HE.out]
          have a2 : Below w.heap.size w w2 := (hbel.alloc hz _).trans (hb2.mono (by simp; omega))
          have hs2 : w.heap.size + 1 ≤ w2.heap.size := by have := hb2.size; simp at this; omega
          have HO2 := Lib.hid ((HO.out.alloc (.cells #[.int .i64 x, .int .i64 y, .int .i64 z] 58)).keep hb2)
          go_wp2
          go_roundw
          case rel => exact ⟨k + 1, by omega, by go_num, by rw [atTo_no HK.out HE.out]; exact HO2.out, a2, hs2⟩
          case measure => simp [intOf]; omega
      · have HO := Lib.hid hown
        clear hown
        go_wp2
        go_ret
        obtain rfl : k = n := by omega
        exact ⟨_, rfl, by rw [HF.out]; exact HO.out, hbel⟩
  · rw [Bool.not_eq_true] at hv
    have HV := Lib.hid hv
    have HF := Lib.hid (show linesAtF bs ls bus = [] by rw [linesAtF, if_neg (by rw [hv]; simp)])
    clear hv hr hi
    go_enter Tryd.func78, Tryd.ntmps78
    go_wp2_with fail
    have hb0 := below_bx w (.cells #[.int .i64 bs, .slice A n c] 25)
    refine (netValid_any bs _ n c ls _ hn (HR.out.below hb0)).mono ?_
    rintro e w1 ⟨rfl, hb1⟩
    rw [HV.out]
    go_wp2
    go_ret
    exact ⟨_, rfl, by rw [HF.out]; exact OwnI.nil, hb0.trans (hb1.mono (by simp))⟩

end Go.Proofs.YtpmkeagdoehbhaaDoor
