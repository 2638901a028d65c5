/- Slices of numbers in the exact laws: conversion, marks from any number on; Changes, of the program and of the model. -/
import Derived.Test.YtobbmnbkjeoheaaDoorB1
import Derived.Laws.MakeOwn
import Derived.Maps.AppendAt
import Derived.OwnWalk
import Derived.Deep.QuietTactic
import Derived.BigQuiet
import Derived.Outline
namespace Go.Proofs.YtobbmnbkjeoheaaDoor
open Go.ChangeShapes Go.WideShapes Go.ChangeAt Go.RowKit

theorem intInfo6 : (Tryd.prog.info? 3).map (fun i => (i.zero, i.size, i.bytes)) = some (some (.int .i64 0), 1, 8) := by kernel_rfl
theorem OwnI.mk_ {w : World} {base g n cap : Nat} {cur : Array Value} {zs : List Int} (hn : zs.length = n) (hb : base ≤ g) (hg : IsBlk w g 3 cur) (hc : n ≤ cap) (hm : cap ≤ maxLen) (hs : cur.size = cap) (ht : cur.toList.take n = zs.map (Value.int .i64)) : OwnI 3 w base (.slice (some ⟨g, 0, none⟩) n cap) zs := by
  subst hn
  exact ⟨by simp, .inr ⟨g, cap, cur, rfl, hb, hg, hc, hm, by omega, by rw [Nat.mul_one]; exact ht⟩⟩


end Go.Proofs.YtobbmnbkjeoheaaDoor
