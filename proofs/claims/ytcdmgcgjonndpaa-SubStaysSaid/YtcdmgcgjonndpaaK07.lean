/-
  Several texts in one:  ·  ·  ·  ·  ·  ·  ·  ·  ·  ·  ·  ·  ·  ·  ·  ·  ·  ·  ·  ·  ·  ·  ·  ·  ·  ·  ·  ·  ·  ·  ·  ·  ·  ·  ·  ·  ·  ·  ·  ·  · 
-/
import Derived.Test.YtcdmgcgjonndpaaK00
import Derived.Test.YtcdmgcgjonndpaaK01
import Derived.Test.YtcdmgcgjonndpaaK02
import Derived.Deep.RegionLaw
import Derived.Deep.DeepCutAuto
import Derived.Deep.CutBlock
import Derived.Maps.AppendAt
import Derived.Test.YtcdmgcgjonndpaaK03
import Derived.Test.YtcdmgcgjonndpaaK04
import Derived.Test.YtcdmgcgjonndpaaK06
import Derived.Laws.MakeOwn
import Derived.Test.YtcdmgcgjonndpaaK05
import Derived.LoopTactic
import Derived.Lib.QuietBelow
import Derived.BigQuiet
import Derived.RangeFuncNested
import Derived.RangeFuncBound
import Derived.RangeFuncCalls
import Derived.RangeFuncLeaves
import Derived.Shelf.Abstract
import Derived.Shelf.RegionOpen
import Derived.OwnWalkIn
import Derived.TacticsInMore
import Derived.LoopNIn
import Derived.LoopIn
import Derived.Maps.OwnIn
import Derived.Deep.Quiet
/-  -/
namespace Go.Proofs.Ytcdmgcgjonndpaa
open Go.RowKit
open M
structure Cp1 (w : World) (t : Ty) (As : Option Addr) (n cs : Nat) (A5 : Option Addr) (c5 : Nat) (wr : World) : Prop where
 below : Below w.heap.size w wr
 box : wr.heap[w.heap.size]? = some (.cells #[.int .i64 t.kind, .string t.pkg, .int .i64 t.major, .string t.mod, .string t.name, .slice A5 t.names.length c5, .slice As n cs] 25 (0, 0))
 res : wr.heap[w.heap.size + 1]? = some (.cells #[.int .i64 0, .string ⟨#[]⟩, .int .i64 0, .string ⟨#[]⟩, .string ⟨#[]⟩, .slice none 0 0, .slice none 0 0] 25 (0, 0))
 own : wr.ownsRow (w.heap.size + 2) 9 1 (.slice A5 t.names.length c5) t.names.length (t.names.map Value.string)
theorem Cp1.start {w wr : World} {t : Ty} {As : Option Addr} {n cs : Nat} {A5 : Option Addr} {c5 : Nat} (h : Cp1 w t As n cs A5 c5 wr) (hs : ∀ (i : Nat) (s : ByteArray), t.names[i]? = some s → s.size ≤ 9223372036854775807) :
  Cp w t A5 c5 0 none 0 (wr.setCell ⟨w.heap.size, 6, none⟩ (.slice none 0 0)) := by
 have hown := ownsRow_setCell_below h.own (a := ⟨w.heap.size, 6, none⟩) (by show w.heap.size < w.heap.size + 2; omega) (.slice none 0 0)
 obtain ⟨-, A, c, e, hN⟩ := own_names hown hs
 simp at e
 obtain ⟨rfl, rfl⟩ := e
 refine ⟨h.below.setCell (Nat.le_refl _) _, ?_, ?_, hN _ (fun b hb e => ?_), fun _ => [.nilIface, .nilIface, .nilIface, .nilIface, .nilIface, .nilIface, .nilIface], fun _ => rfl, World.ownsRow_nil _ _ _ _, fun i s hi => by omega⟩
 ·have := Joins.block_setCell (i := 6) h.box (.slice none 0 0)
  simpa using this
 ·rw [Below.heap_setCell _ _ _ _ (by show w.heap.size + 1 ≠ w.heap.size; omega)]
  exact h.res
 ·rcases e with e | e
  ·omega
  ·simp [Value.ownBlock] at e
theorem Cp1.made {w w4 : World} {t : Ty} {An As : Option Addr} {cn n cs : Nat} {A5 : Option Addr} {c5 : Nat}
  (hb : Below w.heap.size w w4) (hbox : w4.heap[w.heap.size]? = some (.cells #[.int .i64 t.kind, .string t.pkg, .int .i64 t.major, .string t.mod, .string t.name, .slice An t.names.length cn, .slice As n cs] 25 (0, 0)))
  (hres : w4.heap[w.heap.size + 1]? = some (.cells #[.int .i64 0, .string ⟨#[]⟩, .int .i64 0, .string ⟨#[]⟩, .string ⟨#[]⟩, .slice none 0 0, .slice none 0 0] 25 (0, 0)))
  (hown : w4.ownsRow (w.heap.size + 2) 9 1 (.slice A5 t.names.length c5) t.names.length (t.names.map Value.string)) :
  Cp1 w t As n cs A5 c5 (w4.setCell ⟨w.heap.size, 5, none⟩ (.slice A5 t.names.length c5)) := by
 refine ⟨hb.setCell (Nat.le_refl _) _, ?_, ?_, ownsRow_setCell_below hown (by show w.heap.size < w.heap.size + 2; omega) _⟩
 ·have := Joins.block_setCell (i := 5) hbox (.slice A5 t.names.length c5)
  simpa using this
 ·rw [Below.heap_setCell _ _ _ _ (by show w.heap.size + 1 ≠ w.heap.size; omega)]
  exact hres
theorem Cp1.empty (w : World) {t : Ty} (As : Option Addr) (n cs : Nat) (h0 : t.names.length = 0) :
  Cp1 w t As n cs (some ⟨w.heap.size + 1 + 1, 0, none⟩) 0 (((w.alloc (.cells #[.int .i64 t.kind, .string t.pkg, .int .i64 t.major, .string t.mod, .string t.name, .slice (some ⟨w.heap.size + 1 + 1, 0, none⟩) 0 0, .slice As n cs] 25)).alloc (.cells #[.int .i64 0, .string ⟨#[]⟩, .int .i64 0, .string ⟨#[]⟩, .string ⟨#[]⟩, .slice none 0 0, .slice none 0 0] 25)).alloc (.cells #[] 9)) := by
 have e1 : w.heap.size + 1 = (w.alloc (.cells #[.int .i64 t.kind, .string t.pkg, .int .i64 t.major, .string t.mod, .string t.name, .slice (some ⟨w.heap.size + 1 + 1, 0, none⟩) 0 0, .slice As n cs] 25)).heap.size := by simp
 have e2 : w.heap.size + 1 + 1 = ((w.alloc (.cells #[.int .i64 t.kind, .string t.pkg, .int .i64 t.major, .string t.mod, .string t.name, .slice (some ⟨w.heap.size + 1 + 1, 0, none⟩) 0 0, .slice As n cs] 25)).alloc (.cells #[.int .i64 0, .string ⟨#[]⟩, .int .i64 0, .string ⟨#[]⟩, .string ⟨#[]⟩, .slice none 0 0, .slice none 0 0] 25)).heap.size := by simp
 refine ⟨below_new (below_new (below_new (Below.refl _ _) _) _) _, ?_, ?_, ?_⟩
 ·rw [Lib.alloc_old _ _ _ (by simp; omega), Lib.alloc_old _ _ _ (by simp), h0]; exact heap_alloc_new w _
 ·rw [Lib.alloc_old _ _ _ (by simp)]
  have := heap_alloc_new (w.alloc (.cells #[.int .i64 t.kind, .string t.pkg, .int .i64 t.major, .string t.mod, .string t.name, .slice (some ⟨w.heap.size + 1 + 1, 0, none⟩) 0 0, .slice As n cs] 25)) (.cells #[.int .i64 0, .string ⟨#[]⟩, .int .i64 0, .string ⟨#[]⟩, .string ⟨#[]⟩, .slice none 0 0, .slice none 0 0] 25)
  rw [← e1] at this
  exact this
 ·have := World.ownsRow_lit (base := w.heap.size + 2) (e := 9) (size := 1) ((w.alloc (.cells #[.int .i64 t.kind, .string t.pkg, .int .i64 t.major, .string t.mod, .string t.name, .slice (some ⟨w.heap.size + 1 + 1, 0, none⟩) 0 0, .slice As n cs] 25)).alloc (.cells #[.int .i64 0, .string ⟨#[]⟩, .int .i64 0, .string ⟨#[]⟩, .string ⟨#[]⟩, .slice none 0 0, .slice none 0 0] 25)) #[] 0 (by rw [← e2]; omega) (by decide) rfl
  rw [← e2] at this
  rw [h0, List.length_eq_zero_iff.1 h0]
  exact this
set_option maxRecDepth 100000 in
set_option maxHeartbeats 4000000 in
theorem copy_any (N : Nat) : ∀ (t : Ty), many t ≤ N → many t ≤ 9000 → shortT t → ∀ (v : Value) (w : World), TyV w v t →
    Calls Try.prog 19 #[v] w fun e w' => ∃ l : List Value, e = .returned (.agg l.toArray) ∧ TyAt (strike (· < w.heap.size) w') l t ∧ Below w.heap.size w w' := by
  induction N with
  | zero => intro t h; have := many_pos t; omega
  | succ N ih =>
    intro t hN hM hSh v w hv
    obtain ⟨lv, rfl, hT⟩ := hv
    obtain ⟨An, cn, As, cs, rfl, zp, zm, za, hzn, hz, hNA, hS⟩ := hT.parts
    have HS := Lib.hid hS
    have HNA := Lib.hid hNA
    have hnl : t.names.length ≤ 200 := by
      cases t with | mk k p m d n ns ss => unfold shortT at hSh; exact hSh.1
    have HSS : Hid (∀ s, s ∈ t.subs → shortT s) := Lib.hid (by
      have key : ∀ l : List Ty, shortL l → ∀ s, s ∈ l → shortT s := by
        intro l
        induction l with
        | nil => intro _ s hs; cases hs
        | cons a r ih => 
          intro h s hs
          unfold shortL at h
          rcases List.mem_cons.1 hs with e | hs
          · rw [e]; exact h.1
          · exact ih h.2 s hs
      cases t with | mk k p m d n ns ss => unfold shortT at hSh; exact key ss hSh.2)
    have HNS : Hid (∀ (i : Nat) (s : ByteArray), t.names[i]? = some s → s.size ≤ 9223372036854775807) := Lib.hid (fun i s hs => by
      obtain ⟨g, o, -, -, -, h⟩ := hNA i s hs
      exact h)
    clear hT hS hNA hSh
    have hml : t.subs.length ≤ 9000 := by have := manyL_len t.subs; have := manyL_eq t; omega
    generalize hn : t.subs.length = n at hz hml
    have HN := Lib.hid hn
    clear hn
    obtain ⟨W3, hW3⟩ : ∃ W3, W3 = ((w.alloc (.cells #[.int .i64 t.kind, .string t.pkg, .int .i64 t.major, .string t.mod, .string t.name, .slice An t.names.length cn, .slice As n cs] 25)).alloc (.cells #[.int .i64 0, .string ⟨#[]⟩, .int .i64 0, .string ⟨#[]⟩, .string ⟨#[]⟩, .slice none 0 0, .slice none 0 0] 25)).alloc (.cells #[] 9) := ⟨_, rfl⟩
    have B3 : Hid (Below w.heap.size w W3) := Lib.hid (by rw [hW3]; exact below_new (below_new (below_new (Below.refl _ _) _) _) _)
    have X3 : Hid (W3.heap[w.heap.size]? = some (.cells #[.int .i64 t.kind, .string t.pkg, .int .i64 t.major, .string t.mod, .string t.name, .slice An t.names.length cn, .slice As n cs] 25 (0, 0))) := Lib.hid (by
      rw [hW3, Lib.alloc_old _ _ _ (by simp; omega), Lib.alloc_old _ _ _ (by simp)]; exact heap_alloc_new w _)
    have R3 : Hid (W3.heap[w.heap.size + 1]? = some (.cells #[.int .i64 0, .string ⟨#[]⟩, .int .i64 0, .string ⟨#[]⟩, .string ⟨#[]⟩, .slice none 0 0, .slice none 0 0] 25 (0, 0))) := Lib.hid (by
      rw [hW3, Lib.alloc_old _ _ _ (by simp)]
      have e : w.heap.size + 1 = (w.alloc (.cells #[.int .i64 t.kind, .string t.pkg, .int .i64 t.major, .string t.mod, .string t.name, .slice An t.names.length cn, .slice As n cs] 25)).heap.size := by simp
      rw [e]; exact heap_alloc_new _ _)
    have O3 : Hid (W3.ownsRow (w.heap.size + 2) 9 1 (.slice (some ⟨w.heap.size + 1 + 1, 0, none⟩) 0 0) 0 []) := Lib.hid (by
      rw [hW3]
      have e : w.heap.size + 1 + 1 = ((w.alloc (.cells #[.int .i64 t.kind, .string t.pkg, .int .i64 t.major, .string t.mod, .string t.name, .slice An t.names.length cn, .slice As n cs] 25)).alloc (.cells #[.int .i64 0, .string ⟨#[]⟩, .int .i64 0, .string ⟨#[]⟩, .string ⟨#[]⟩, .slice none 0 0, .slice none 0 0] 25)).heap.size := by simp
      have := World.ownsRow_lit (base := w.heap.size + 2) (e := 9) (size := 1) ((w.alloc (.cells #[.int .i64 t.kind, .string t.pkg, .int .i64 t.major, .string t.mod, .string t.name, .slice An t.names.length cn, .slice As n cs] 25)).alloc (.cells #[.int .i64 0, .string ⟨#[]⟩, .int .i64 0, .string ⟨#[]⟩, .string ⟨#[]⟩, .slice none 0 0, .slice none 0 0] 25)) #[] 0 (by rw [← e]; omega) (by decide) rfl
      rw [← e] at this
      exact this)
    have s3 : w.heap.size + 2 ≤ W3.heap.size := by have := (Array.getElem?_eq_some_iff.1 R3.out).1; omega
    have HW3 := Lib.hid hW3
    clear hW3
    obtain ⟨i0, hi, hz0, hz1, hz2⟩ := info_parts str_info
    go_enter Try.func19, Try.ntmps19
    go_upto_region 1 with fail
    go_cut [8] (fun s8 wx => ∃ (A5 : Option Addr) (c5 : Nat), Cp1 w t As n cs A5 c5 wx)
    case first =>
      cases An with
      | none =>
        have hn0 : t.names.length = 0 := by
          rcases Nat.eq_zero_or_pos t.names.length with h | h
          · exact h
          · obtain ⟨g, o, e, -⟩ := HNA.out 0 _ (List.getElem?_eq_getElem h)
            cases e
        have HE := Lib.hid (Cp1.empty w As n cs hn0)
        go_wp2_with fail
        go_meet
        exact ⟨_, _, HE.out⟩
      | some ad =>
        have own0 := O3.out
        rw [HW3.out] at own0
        have hnews : ∀ j u, (t.names.map Value.string)[j]? = some u → W3.cell? (ad.add j) = some u := by
          intro j u hj
          rw [List.getElem?_map] at hj
          obtain ⟨s, hs, rfl⟩ := Option.map_eq_some_iff.1 hj
          obtain ⟨g, o, e, hg, hc, -⟩ := HNA.out j s hs
          obtain rfl := Option.some.inj e
          rw [WideShapes.add_plain]
          exact (B3.out.cell (p := ⟨g, _, none⟩) hg).trans hc
        rw [HW3.out] at hnews
        have hone : ∀ u ∈ t.names.map Value.string, u.oneCell' = true := by
          intro u hu
          obtain ⟨s, -, rfl⟩ := List.mem_map.1 hu
          rfl
        have hbase := s3
        rw [HW3.out] at hbase
        go_wp2_with (at_builtin; refine wpList_append_own_at _ rfl _ _ 22 rfl (w.heap.size + 2) 9 i0 (.string ⟨#[]⟩) 1 16 Try.underlying22 hi hz0 hz1 hz2 rfl (by decide) _ 0 [] rfl own0 ad t.names.length cn (t.names.map Value.string) rfl ?c0 hnews hone ?c3 ?c4 hbase ?_)
        case c0 => simp
        case c3 => unfold maxLen; omega
        case c4 => omega
        intro v5 w4 hown hgrow _ hat
        rw [← HW3.out] at hgrow
        have hown2 : w4.ownsRow (w.heap.size + 2) 9 1 v5 t.names.length (t.names.map Value.string) := by first | exact hown | simpa using hown
        clear hown
        obtain ⟨-, A5, c5, rfl, -⟩ := own_names hown2 HNS.out
        have b4 : w4.heap[w.heap.size]? = _ := (hgrow.block w.heap.size (by omega) (by simp [Value.ownBlock]; omega)).trans X3.out
        have r4 : w4.heap[w.heap.size + 1]? = _ := (hgrow.block (w.heap.size + 1) (by omega) (by simp [Value.ownBlock])).trans R3.out
        have B4 : Below w.heap.size w w4 := B3.out.trans ⟨hgrow.os, hgrow.tape, hgrow.output, hgrow.size, fun b hb => hgrow.block b (by omega) (by simp [Value.ownBlock]; omega)⟩
        have M := Lib.hid (Cp1.made B4 b4 r4 hown2)
        have x5 : w4.cell? ⟨w.heap.size, 5, none⟩ = some (.slice (some ad) t.names.length cn) := Lib.cell_of_heap b4 5
        have f5 : w4.frozen? ⟨w.heap.size, 5, none⟩ = false := Lib.frozen_of_heap b4 5
        clear hgrow hown2 hat b4 r4 B4 hnews hbase own0
        go_wp2_with fail
        go_meet
        exact ⟨_, _, M.out⟩
    case rest =>
      obtain ⟨A5, c5, h1⟩ := hcut
      have x6 := Lib.cell_of_heap h1.box 6
      have f6 := Lib.frozen_of_heap h1.box 6
      simp at x6
      have START := Lib.hid (h1.start HNS.out)
      clear h1 B3 X3 R3 O3 HW3 HNS
      go_wp2_with fail
      clear x6 f6
      go_loopw [4] (fun i wr => ∃ (j : Nat) (A6 : Option Addr) (c6 : Nat), j ≤ n ∧ i = .int .i64 j ∧ Hid (Cp w t A5 c5 j A6 c6 wr)) (fun i _ => n - (intOf i).toNat)
      case atStart => exact ⟨0, none, 0, by omega, rfl, START⟩
      case round =>
        obtain ⟨j, A6, c6, hj, rfl, HC⟩ := hrel
        obtain ⟨wo, rfl⟩ : ∃ wo : World, wo = wr := ⟨_, rfl⟩
        have x6 := Lib.cell_of_heap HC.out.box 6
        have f6 := Lib.frozen_of_heap HC.out.box 6
        simp at x6
        have hkl : w.heap.size + 1 < wo.heap.size := (Array.getElem?_eq_some_iff.1 HC.out.res).1
        by_cases hlt : j < n
        · obtain ⟨s, hs⟩ : ∃ s, t.subs[j]? = some s := ⟨_, List.getElem?_eq_getElem (by rw [HN.out]; exact hlt)⟩
          obtain ⟨C, hC, hown6, hCs⟩ := HC.out.subs
          obtain ⟨g0, o0, v0, v1, v2, v3, v4, v5, v6, rfl, hg0, h0, h1, h2, h3, h4, h5, h6, hs7⟩ := HS.out.below HC.out.below j s hs
          obtain ⟨Am, cm, At, ct, rfl, rfl, rfl, rfl, rfl, rfl, rfl⟩ := hs7.seven
          have hsm := sub_many hs
          have IH := Lib.hid (fun (w' : World) (hw : Below wo.heap.size wo w') => ih s (by omega) (by omega) (HSS.out s (List.mem_of_getElem? hs)) (.agg #[.int .i64 s.kind, .string s.pkg, .int .i64 s.major, .string s.mod, .string s.name, .slice Am s.names.length cm, .slice At s.subs.length ct]) w' (TyV.below ⟨_, rfl, hs7⟩ hw))
          have hold : ∀ b, (Value.slice A6 j c6).ownBlock = some b → w.heap.size + 2 ≤ b ∧ b < wo.heap.size := fun b hb => by
            obtain ⟨h1, h2⟩ := hown6.lt b hb
            exact ⟨h1, h2⟩
          have HHS := Lib.hid hs
          have HHC := Lib.hid hC
          have HHCs := Lib.hid hCs
          have HOLD := Lib.hid hold
          have HOWN := Lib.hid hown6
          clear hs7 hs hC hCs hold hown6 hsm
          obtain ⟨i1, hi1, hy0, hy1, hy2⟩ := info_parts typ_info
          go_upto_block 1 with fail
          go_cut [4] (fun s4 wx => s4 = .int .i64 j ∧ ∃ (A6' : Option Addr) (c6' : Nat), Cp w t A5 c5 (j + 1) A6' c6' wx)
          case first =>
            have hk0 : w.heap.size < wo.heap.size := by omega
            go_wp2_with fail
            have F1 : ∀ (w1 : World) (oo : Obj), Below wo.heap.size wo w1 → (w1.alloc oo).ownsRow (w.heap.size + 2) 25 7 (.slice A6 j c6) j ((List.range j).map C).flatten := fun w1 oo hB => (own_keep HOWN.out hB).alloc oo
            have F2 : ∀ (w1 : World) (Ax : Option Addr) (cx : Nat) (Ay : Option Addr) (cy : Nat), ∀ (q : Nat) (u : Value), ([.int .i64 s.kind, .string s.pkg, .int .i64 s.major, .string s.mod, .string s.name, .slice Ax s.names.length cx, .slice Ay s.subs.length cy] : List Value)[q]? = some u → (w1.alloc (.cells #[.int .i64 s.kind, .string s.pkg, .int .i64 s.major, .string s.mod, .string s.name, .slice Ax s.names.length cx, .slice Ay s.subs.length cy] 25)).cell? ((⟨w1.heap.size, 0, none⟩ : Addr).add q) = some u := fun w1 Ax cx Ay cy q u hq => by
              rw [WideShapes.add_plain, Nat.zero_add, Lib.cell_of_heap (heap_alloc_new w1 _), ← hq, ← List.getElem?_toArray]
            have F3 : ∀ (Ax : Option Addr) (cx : Nat) (Ay : Option Addr) (cy : Nat), ∀ u ∈ ([.int .i64 s.kind, .string s.pkg, .int .i64 s.major, .string s.mod, .string s.name, .slice Ax s.names.length cx, .slice Ay s.subs.length cy] : List Value), u.oneCell' = true := fun Ax cx Ay cy u hu => by
              simp at hu
              rcases hu with rfl | rfl | rfl | rfl | rfl | rfl | rfl <;> rfl
            have F4 : ∀ (w1 : World) (oo : Obj), Below wo.heap.size wo w1 → w.heap.size + 2 ≤ (w1.alloc oo).heap.size := fun w1 oo hB => by
              have := hB.size
              have : (w1.alloc oo).heap.size = w1.heap.size + 1 := by simp
              omega
            have F5 : j + 1 ≤ maxLen := by unfold maxLen; omega
            have F6 : (j + 1) * 112 ≤ 140737488355328 := by omega
            have F7 : (Value.agg #[.int .i64 0, .string ⟨#[]⟩, .int .i64 0, .string ⟨#[]⟩, .string ⟨#[]⟩, .slice none 0 0, .slice none 0 0]).cells.size = 7 := by rfl
            have F8 : ∀ (w1 w2 : World) (oo : Obj), Below wo.heap.size wo w1 → (w1.alloc oo).grownBy w2 (Value.slice A6 j c6).ownBlock → w2.cell? ⟨w.heap.size, 6, none⟩ = some (.slice A6 j c6) ∧ w2.frozen? ⟨w.heap.size, 6, none⟩ = false := fun w1 w2 oo hB hgrow => by
              have e : w2.heap[w.heap.size]? = wo.heap[w.heap.size]? := by
                rw [hgrow.block w.heap.size (by have := hB.size; simp; omega) (fun e => by have := (HOLD.out _ e.symm).1; omega), Lib.alloc_old w1 oo _ (by have := hB.size; omega)]
                exact hB.block _ hk0
              rw [World.cell?_of_block (w := wo) (a := ⟨w.heap.size, 6, none⟩) e, World.frozen?_of_block (w := wo) (a := ⟨w.heap.size, 6, none⟩) e]
              exact ⟨x6, f6⟩
            go_region_law (first
              | (go_simp; go_at_call 19; refine (IH.out _ (Below.drew (Below.refl _ _))).mono ?_
                 rintro e w1 ⟨l1, rfl, hT1, hb1⟩
                 obtain ⟨Ax, cx, Ay, cy, rfl, -⟩ := hT1.parts
                 have hB : Below wo.heap.size wo w1 := (Below.drew (Below.refl _ _)).trans hb1
                 have y6 : w1.cell? ⟨w.heap.size, 6, none⟩ = some (.slice A6 j c6) := (hB.cell (p := ⟨w.heap.size, 6, none⟩) hk0).trans x6
                 have hw1 : w.heap.size < w1.heap.size := Nat.lt_of_lt_of_le hk0 hB.size)
              | (refine step_append_lies _ rfl (.tmp 20) (.tmp 26) 23 rfl (w.heap.size + 2) 25 i1 _ 7 112 Try.underlying23 hi1 hy0 hy1 hy2 F7 (Nat.zero_lt_succ 6) (.slice A6 j c6) j _ rfl (F1 w1 _ hB) ⟨w1.heap.size, 0, none⟩ 1 1 [.int .i64 s.kind, .string s.pkg, .int .i64 s.major, .string s.mod, .string s.name, .slice Ax s.names.length cx, .slice Ay s.subs.length cy] rfl rfl (F2 w1 Ax cx Ay cy) (F3 Ax cx Ay cy) Nat.one_pos F5 F6 (F4 w1 _ hB) _ rfl ?_
                 intro g cap w2 hown2 hgrow hat hlt2
                 have ST := Lib.hid (HC.out.step HHS.out hB hT1 rfl HHC.out HHCs.out hown2 hgrow hat HOLD.out)
                 obtain ⟨z6, e6⟩ := F8 w1 w2 _ hB hgrow))
            all_goals (go_wp2_with fail; go_meet; exact ⟨rfl, _, _, ST.out⟩)
          case rest =>
            obtain ⟨rfl, A6', c6', hC'⟩ := hcut
            have HC' := Lib.hid hC'
            clear hC' h0 h1 h2 h3 h4 h5 h6 x6 f6 IH
            go_wp2_with fail
            go_roundw
            case rel => exact ⟨j + 1, A6', c6', by omega, by go_num, HC'⟩
            case measure => simp [intOf]; omega
        · obtain rfl : j = n := by omega
          have y0 := Lib.cell_of_heap HC.out.box 0
          have y1 := Lib.cell_of_heap HC.out.box 1
          have y2 := Lib.cell_of_heap HC.out.box 2
          have y3 := Lib.cell_of_heap HC.out.box 3
          have y4 := Lib.cell_of_heap HC.out.box 4
          have y5 := Lib.cell_of_heap HC.out.box 5
          have r0 := Lib.cell_of_heap HC.out.res 0
          have r1 := Lib.cell_of_heap HC.out.res 1
          have r2 := Lib.cell_of_heap HC.out.res 2
          have r3 := Lib.cell_of_heap HC.out.res 3
          have r4 := Lib.cell_of_heap HC.out.res 4
          have r5 := Lib.cell_of_heap HC.out.res 5
          have r6 := Lib.cell_of_heap HC.out.res 6
          have q0 := Lib.frozen_of_heap HC.out.res 0
          have q1 := Lib.frozen_of_heap HC.out.res 1
          have q2 := Lib.frozen_of_heap HC.out.res 2
          have q3 := Lib.frozen_of_heap HC.out.res 3
          have q4 := Lib.frozen_of_heap HC.out.res 4
          have q5 := Lib.frozen_of_heap HC.out.res 5
          have q6 := Lib.frozen_of_heap HC.out.res 6
          simp at y0 y1 y2 y3 y4 y5 r0 r1 r2 r3 r4 r5 r6
          obtain ⟨W7, hW7⟩ : ∃ W7, W7 = (((((((wo.setCell ⟨w.heap.size + 1, 0, none⟩ (.int .i64 t.kind)).setCell ⟨w.heap.size + 1, 1, none⟩ (.string t.pkg)).setCell ⟨w.heap.size + 1, 2, none⟩ (.int .i64 t.major)).setCell ⟨w.heap.size + 1, 3, none⟩ (.string t.mod)).setCell ⟨w.heap.size + 1, 4, none⟩ (.string t.name)).setCell ⟨w.heap.size + 1, 5, none⟩ (.slice A5 t.names.length c5)).setCell ⟨w.heap.size + 1, 6, none⟩ (.slice A6 j c6)) := ⟨_, rfl⟩
          have hbk : W7.heap[w.heap.size + 1]? = some (.cells #[.int .i64 t.kind, .string t.pkg, .int .i64 t.major, .string t.mod, .string t.name, .slice A5 t.names.length c5, .slice A6 j c6] 25 (0, 0)) := by rw [hW7]; exact fill7 HC.out.res _ _ _ _ _ _ _
          have hot : ∀ c, c ≠ w.heap.size + 1 → W7.heap[c]? = wo.heap[c]? := fun c hc => by rw [hW7]; exact fill7_other hc _ _ _ _ _ _ _
          have hsz : W7.heap.size = wo.heap.size := by rw [hW7]; exact fill7_size _ _ _ _ _ _ _
          have DONE : TyAt (strike (· < w.heap.size + 2) wo) [.int .i64 t.kind, .string t.pkg, .int .i64 t.major, .string t.mod, .string t.name, .slice A5 t.names.length c5, .slice A6 j c6] t := by
            have hd := HC.out
            have e := HN.out
            subst e
            exact hd.done zp zm za hzn hz
          have T7 : Hid (TyAt (strike (· < w.heap.size) W7) [.int .i64 t.kind, .string t.pkg, .int .i64 t.major, .string t.mod, .string t.name, .slice A5 t.names.length c5, .slice A6 j c6] t) := Lib.hid (DONE.cells (by rw [strike_size, strike_size]; omega) (fun b o x hx => by
            obtain ⟨h1, h2⟩ := strike_cell.1 hx
            refine strike_cell.2 ⟨by omega, ?_⟩
            rw [World.cell?_of_block (w := wo) (a := ⟨b, o, none⟩) (hot b (by omega))]; exact h2))
          have B7 : Hid (Below w.heap.size w W7) := Lib.hid (by
            have hb := HC.out.below
            rw [hW7]
            exact ((((((hb.setCell (by simp) _).setCell (by simp) _).setCell (by simp) _).setCell (by simp) _).setCell (by simp) _).setCell (by simp) _).setCell (by simp) _)
          have C7 : Hid (∀ i v, ([.int .i64 t.kind, .string t.pkg, .int .i64 t.major, .string t.mod, .string t.name, .slice A5 t.names.length c5, .slice A6 j c6] : List Value)[i]? = some v → W7.cell? ⟨w.heap.size + 1, i, none⟩ = some v) := Lib.hid (fun i v hv => by
            rw [Lib.cell_of_heap hbk, ← hv, ← List.getElem?_toArray])
          have HW7 := Lib.hid hW7
          clear hW7 hbk hot hsz DONE
          go_wp2_with fail
          rw [← HW7.out]
          exact ret_agg1 (fn := Try.f19) (vs := [.int .i64 t.kind, .string t.pkg, .int .i64 t.major, .string t.mod, .string t.name, .slice A5 t.names.length c5, .slice A6 j c6]) (b := w.heap.size + 1) rfl rfl Try.underlying25 (by kernel_rfl) C7.out rfl ⟨_, rfl, T7.out, B7.out⟩
end Go.Proofs.Ytcdmgcgjonndpaa

/-  -/
namespace Go.Proofs.Ytcdmgcgjonndpaa
open Go.RowKit
open Go.Sort
open M
end Go.Proofs.Ytcdmgcgjonndpaa

/-  -/
namespace Go.Proofs.Ytcdmgcgjonndpaa
open Go.RowKit
open Go.Sort Go.Maps
open M
end Go.Proofs.Ytcdmgcgjonndpaa

/-  -/
namespace Go.Proofs.Ytcdmgcgjonndpaa
open Go.RowKit
open Go.Sort Go.Maps
open M
theorem grown_of {w w' : World} {r : Option Nat} (h : Below w.heap.size w w') : w.grownBy w' r := ⟨h.os, h.tape, h.output, h.size, fun b hb _ => h.block b hb⟩
theorem grown_over {a b c : World} {r : Nat} (h : a.grownBy b (some r)) (h' : b.grownBy c (some r)) : a.grownBy c (some r) := h.trans h'
end Go.Proofs.Ytcdmgcgjonndpaa

/-  -/
namespace Go.Proofs.Ytcdmgcgjonndpaa
open Go.RowKit
open Go.Sort Go.Maps
open M
end Go.Proofs.Ytcdmgcgjonndpaa

/-  -/
namespace Go.Proofs.Ytcdmgcgjonndpaa
open Go.RowKit
open Go.Sort Go.Maps
open M
theorem two_boxes (w : World) (c1 c2 : Array Value) (t1 t2 : TypeId) : ∃ W2, W2 = (w.alloc (.cells c1 t1)).alloc (.cells c2 t2) ∧ Below w.heap.size w W2 ∧ W2.heap[w.heap.size]? = some (.cells c1 t1 (0, 0)) ∧ W2.heap[w.heap.size + 1]? = some (.cells c2 t2 (0, 0)) ∧ w.heap.size + 1 < W2.heap.size := by
  have hs1 : (w.alloc (.cells c1 t1)).heap.size = w.heap.size + 1 := by simp
  refine ⟨_, rfl, below_new (below_new (Below.refl _ _) _) _, ?_, ?_, by simp⟩
  · rw [Lib.alloc_old _ _ _ (by rw [hs1]; omega)]; exact heap_alloc_new w _
  · rw [← hs1]; exact heap_alloc_new _ _
end Go.Proofs.Ytcdmgcgjonndpaa

/-  -/
namespace Go.Proofs.Ytcdmgcgjonndpaa
open Go.RowKit
open Go.Sort Go.Maps
open M
end Go.Proofs.Ytcdmgcgjonndpaa

/-  -/
namespace Go.Proofs.Ytcdmgcgjonndpaa
open Go.RowKit
open Go.Sort
open M
end Go.Proofs.Ytcdmgcgjonndpaa

/-  -/
namespace Go.Proofs.Ytcdmgcgjonndpaa
open Go.RowKit
open Go.Sort
open M
end Go.Proofs.Ytcdmgcgjonndpaa

/-  -/
namespace Go.Proofs.Ytcdmgcgjonndpaa
open Go.RowKit
open Go.Sort Go.Maps
open M
def dupB {α : Type} (key : α → ByteArray) (l : List α) (i : Nat) : Bool := match l[i]? with | some x => (l.take i).any fun y => decide (key y = key x) | none => false
theorem str_eq (a b : ByteArray) : (a.toList == b.toList) = decide (a = b) := by
  rw [Bool.eq_iff_iff, beq_iff_eq, decide_eq_true_eq, Lib.toList_data, Lib.toList_data, bytes_list]
end Go.Proofs.Ytcdmgcgjonndpaa

/-  -/
namespace Go.Proofs.Ytcdmgcgjonndpaa
open Go.RowKit Go.Shelf
open Go.Sort Go.Maps
open M
attribute [local go_sem] Oper.semAt_some
end Go.Proofs.Ytcdmgcgjonndpaa

/-  -/
namespace Go.Proofs.Ytcdmgcgjonndpaa
open Go.RowKit Go.Shelf
open Go.Sort Go.Maps
open M
attribute [local go_sem] Oper.semAt_some
end Go.Proofs.Ytcdmgcgjonndpaa

/-  -/
namespace Go.Proofs.Ytcdmgcgjonndpaa
open Go.RowKit
open Go.Sort
open M
end Go.Proofs.Ytcdmgcgjonndpaa

/-  -/
namespace Go.Proofs.Ytcdmgcgjonndpaa
open Go.RowKit
open Go.Sort
open M
end Go.Proofs.Ytcdmgcgjonndpaa

/-  -/
namespace Go.Proofs.Ytcdmgcgjonndpaa
open Go.RowKit
open Go.Sort
open M
end Go.Proofs.Ytcdmgcgjonndpaa

/-  -/
namespace Go.Proofs.Ytcdmgcgjonndpaa
open Go Go.RowKit
section
variable {P : Program} {ops : Array Oper} {C : World → Prop}
end
end Go.Proofs.Ytcdmgcgjonndpaa

/-  -/
namespace Go.Proofs.Ytcdmgcgjonndpaa
open Go.RowKit Go.Shelf
open Go.Sort Go.Maps
open M
end Go.Proofs.Ytcdmgcgjonndpaa

/-  -/
namespace Go.Proofs.Ytcdmgcgjonndpaa
open Go.RowKit Go.Shelf
open Go.Sort Go.Maps
open M
end Go.Proofs.Ytcdmgcgjonndpaa

/-  -/
namespace Go.Proofs.Ytcdmgcgjonndpaa
open Go.RowKit Go.Shelf
open Go.Sort Go.Maps
open M
end Go.Proofs.Ytcdmgcgjonndpaa

/-  -/
namespace Go.Proofs.Ytcdmgcgjonndpaa
open Go.RowKit Go.Shelf
open Go.Sort Go.Maps
open M
end Go.Proofs.Ytcdmgcgjonndpaa

/-  -/
namespace Go.Proofs.Ytcdmgcgjonndpaa
open Go.RowKit
open Go.Sort
open M
end Go.Proofs.Ytcdmgcgjonndpaa

/-  -/
namespace Go.Proofs.Ytcdmgcgjonndpaa
open Go Go.ChangeShapes Go.WideShapes Go.ChangeAt Go.RowKit Go.Joins Go.Deep
open M
section
variable {H : Type} {enc : TypeId × Value → H} {w : World} {base : Nat} {sp : Nat → Bool} {held : Bool}
end
end Go.Proofs.Ytcdmgcgjonndpaa

/-  -/
namespace Go.Proofs.Ytcdmgcgjonndpaa
open Go.RowKit
open M
end Go.Proofs.Ytcdmgcgjonndpaa

/-  -/
namespace Go.Proofs.Ytcdmgcgjonndpaa
open Go.RowKit
open Go.Sort
open M
end Go.Proofs.Ytcdmgcgjonndpaa

/-  -/
namespace Go.Proofs.Ytcdmgcgjonndpaa
open Go Go.RowKit
open Go.Sort
open M
section
variable {P : Program} (w : World)
end
theorem small_size {s : ByteArray} (h : smallB s.data.toList = true) : s.size ≤ 20 := by
  unfold smallB at h
  rw [Bool.and_eq_true, spell_iff] at h
  rw [← len_size]; exact h.1.2.1
theorem great_size {s : ByteArray} (h : greatB s.data.toList = true) : s.size ≤ 20 := by
  unfold greatB at h
  rw [Bool.and_eq_true, spell_iff] at h
  rw [← len_size]; exact h.1.2.1
end Go.Proofs.Ytcdmgcgjonndpaa

/-  -/
namespace Go.Proofs.Ytcdmgcgjonndpaa
open Go.RowKit
open M
structure Ok7 (m : Mo) : Prop where
  imp : ∀ i, i < m.imps.length → dupB (·.asn) m.imps i = false
  dec : ∀ i, i < m.decs.length → dupB (·.name) m.decs i = false
  whole : ∀ (i : Nat) (d : De), m.decs[i]? = some d → wholeT m d.typ = true
  circ : ∀ (i : Nat) (d : De), m.decs[i]? = some d → ¬ Reach (entries m) (saidT m d.typ) i
  hid : ∀ (i j : Nat) (d e : De), m.decs[i]? = some d → m.decs[j]? = some e → Reach (entries m) (saidT m d.typ) j → e.kind ≠ 2
structure Emb (f : Nat → Nat) (m' m : Mo) : Prop where
  imps : m'.imps = m.imps
  dec : ∀ (i : Nat) (d : De), m'.decs[i]? = some d → m.decs[f i]? = some d
  inj : ∀ i j, i < m'.decs.length → j < m'.decs.length → f i = f j → i = j
  sur : ∀ (i : Nat) (d : De), m.decs[i]? = some d → d.kind ≠ 4 → ∃ j, j < m'.decs.length ∧ f j = i
section
variable {f : Nat → Nat} {m' m : Mo}
end
end Go.Proofs.Ytcdmgcgjonndpaa

/-  -/
namespace Go.Proofs.Ytcdmgcgjonndpaa
open Go.RowKit
open M
end Go.Proofs.Ytcdmgcgjonndpaa

/-  -/
namespace Go.Proofs.Ytcdmgcgjonndpaa
open Go.RowKit
open M
mutual
def locT : Ty → List Ty
  | .mk k p j d n ns ss => if k = 8 then .mk k p j d n ns ss :: locL ss else locL ss
def locL : List Ty → List Ty
  | [] => []
  | t :: r => locT t ++ locL r
end
def oneN (m : Mo) (x : Ty) : List Nat := if x.mod.size = 0 then (typAt m x.name).toList else []
structure Rch (m : Mo) (t : Ty) (F : Nat → Bool) (L : List Ty) : Prop where
  only : ∀ i, F i = true → Reach (entries m) (saidT m t) i
  says : ∀ x ∈ L, ∀ i ∈ oneN m x, Reach (entries m) (saidT m t) i
  own : ∀ x ∈ locT t, x ∈ L
  on : ∀ (k : Nat) (d : De), F k = true → m.decs[k]? = some d → d.kind = 3 → ∀ x ∈ locT d.typ, x ∈ L
end Go.Proofs.Ytcdmgcgjonndpaa

/-  -/
namespace Go.Proofs.Ytcdmgcgjonndpaa
open Go.RowKit
open M
structure Nm where
  name : ByteArray
  typ : Ty
structure If where
  pkg : ByteArray
  major : Int
  mod : ByteArray
  types : List Nm
  vals : List Nm
end Go.Proofs.Ytcdmgcgjonndpaa

/-  -/
namespace Go.Proofs.Ytcdmgcgjonndpaa
open Go.RowKit
open M
end Go.Proofs.Ytcdmgcgjonndpaa

/-  -/
namespace Go.Proofs.Ytcdmgcgjonndpaa
open Go Go.ChangeShapes Go.WideShapes Go.ChangeAt Go.RowKit Go.Joins Go.Deep
open M
section
variable {H : Type} {enc : TypeId × Value → H} {w : World} {base : Nat} {sp : Nat → Bool} {held : Bool}
end
end Go.Proofs.Ytcdmgcgjonndpaa

/-  -/
namespace Go.Proofs.Ytcdmgcgjonndpaa
open Go Go.RowKit Go.Shelf
open Go.Sort Go.Maps
open M
end Go.Proofs.Ytcdmgcgjonndpaa

/-  -/
namespace Go.Proofs.Ytcdmgcgjonndpaa
open Go.RowKit
open Go.Sort Go.Maps
open M
end Go.Proofs.Ytcdmgcgjonndpaa

/-  -/
namespace Go.Proofs.Ytcdmgcgjonndpaa
open Go.RowKit
open M
set_option maxHeartbeats 2000000 in
theorem plain_any (N : Nat) : ∀ (t : Ty), many t ≤ N → ∀ (v : Value) (w : World), TyV w v t →
    Calls Try.prog 22 #[v] w fun e w' => e = .returned (.bool (plainT t)) ∧ Below w.heap.size w w' := by
  induction N with
  | zero => intro t h; have := many_pos t; omega
  | succ N ih =>
    intro t hN v w hv
    obtain ⟨l, rfl, hT⟩ := hv
    obtain ⟨An, cn, As, cs, rfl, -, -, -, hzn, hz, -, hS⟩ := hT.parts
    have HS := Lib.hid hS
    clear hT hS
    generalize hn : t.subs.length = n at hz
    have HN := Lib.hid hn
    clear hn
    have HE := Lib.hid (plain_eq t)
    rcases hid_or (t.kind == 8) with hk8 | hk8
    · have hk8' := hk8.out
      go_enter Try.func22, Try.ntmps22
      go_wp2_with fail
      go_loopw [3] (fun i wr => ∃ k : Nat, k ≤ n ∧ i = .int .i64 k ∧ Hid (∀ j s, j < k → t.subs[j]? = some s → plainT s = true) ∧ Below (boxed w #[.int .i64 t.kind, .string t.pkg, .int .i64 t.major, .string t.mod, .string t.name, .slice An t.names.length cn, .slice As n cs]).heap.size (boxed w #[.int .i64 t.kind, .string t.pkg, .int .i64 t.major, .string t.mod, .string t.name, .slice An t.names.length cn, .slice As n cs]) wr) (fun i _ => n - (intOf i).toNat)
      case atStart => exact ⟨0, by omega, rfl, Lib.hid (fun j s h => by omega), Below.refl _ _⟩
      case round =>
        obtain ⟨k, hk, rfl, HP, hb⟩ := hrel
        obtain ⟨wo, rfl⟩ : ∃ wo : World, wo = wr := ⟨_, rfl⟩
        have b6 := box_cell hb 6
        simp at b6
        have HB := Lib.hid (box_below hb)
        by_cases hlt : k < n
        · obtain ⟨s, hs⟩ : ∃ s, t.subs[k]? = some s := ⟨_, List.getElem?_eq_getElem (by rw [HN.out]; exact hlt)⟩
          obtain ⟨g, o, v0, v1, v2, v3, v4, v5, v6, rfl, -, h0, h1, h2, h3, h4, h5, h6, hs7⟩ := HS.out.below HB.out k s hs
          have hsm := sub_many hs
          have IH := Lib.hid (ih s (by omega) (.agg #[v0, v1, v2, v3, v4, v5, v6]) wo ⟨_, rfl, hs7⟩)
          have HSS := Lib.hid hs
          clear hs7 hs hsm
          rcases hid_or (plainT s) with hp | hp
          · have R : Hid (plainT t = false) := Lib.hid (by
              rw [HE.out, Bool.and_eq_false_iff]; right
              rw [Bool.eq_false_iff, ne_eq, plainL_mem]
              intro h
              have := h s (List.mem_of_getElem? HSS.out)
              rw [hp.out] at this; cases this)
            go_wp2_with fail
            refine IH.out.mono ?_; rintro e w2 ⟨rfl, hb2⟩; rw [hp.out]
            have hb3 := below_over hb hb2
            clear b6 h0 h1 h2 h3 h4 h5 h6 hb hb2
            go_wp2_with fail
            go_ret
            exact ⟨ret_bool R.out, box_below hb3⟩
          · go_wp2_with fail
            refine IH.out.mono ?_; rintro e w2 ⟨rfl, hb2⟩; rw [hp.out]
            have hb3 := below_over hb hb2
            clear b6 h0 h1 h2 h3 h4 h5 h6 hb hb2
            go_wp2_with fail
            go_roundw
            case rel => exact ⟨k + 1, by omega, by go_num, Lib.hid (fun j q hj hq => by
              rcases Nat.lt_or_ge j k with a | a
              · exact HP.out j q a hq
              · rw [show j = k by omega, HSS.out] at hq
                obtain rfl := Option.some.inj hq
                exact hp.out), hb3⟩
            case measure => simp [intOf]; omega
        · have R : Hid (plainT t = true) := Lib.hid (by
            rw [HE.out, hk8.out, (plainL_mem t.subs).2 (fun s hs => ?_)]
            · rfl
            · obtain ⟨j, hj⟩ := List.getElem?_of_mem hs
              have hjl := (List.getElem?_eq_some_iff.1 hj).1
              exact HP.out j s (by rw [HN.out] at hjl; omega) hj)
          go_wp2_with fail
          go_ret
          exact ⟨ret_bool R.out, HB.out⟩
    · have hk8' := hk8.out
      have R : Hid (plainT t = false) := Lib.hid (by rw [HE.out, hk8.out]; rfl)
      rw [R.out]
      go_enter Try.func22, Try.ntmps22
      go_wp2_with fail
      go_ret
      exact ⟨rfl, below_new (Below.refl _ _) _⟩
end Go.Proofs.Ytcdmgcgjonndpaa

/-  -/
namespace Go.Proofs.Ytcdmgcgjonndpaa
open Go Go.RowKit
open Go.Sort
section
variable {P : Program} {w : World}
end
theorem below_grown {B : Nat} {w w1 w2 : World} {v : Value} {e : TypeId} {z n : Nat} {xs : List Value} (hb : Below B w w1) (hB : B ≤ w1.heap.size) (hown : w1.ownsRow B e z v n xs) (hg : w1.grownBy w2 v.ownBlock) : Below B w w2 :=
  hb.trans ⟨hg.os, hg.tape, hg.output, hg.size, fun b h => hg.block b (Nat.lt_of_lt_of_le h hB) (fun e => by have := (hown.lt b e.symm).1; omega)⟩
end Go.Proofs.Ytcdmgcgjonndpaa

/-  -/
namespace Go.Proofs.Ytcdmgcgjonndpaa
open Go.RowKit Go.Shelf
open Go.Sort Go.Maps
open M
def ShL (l : List Value) (t : Ty) : Prop := ∃ (An : Option Addr) (cn : Nat) (As : Option Addr) (cs : Nat), l = [.int .i64 t.kind, .string t.pkg, .int .i64 t.major, .string t.mod, .string t.name, .slice An t.names.length cn, .slice As t.subs.length cs]
end Go.Proofs.Ytcdmgcgjonndpaa

/-  -/
namespace Go.Proofs.Ytcdmgcgjonndpaa
open Go Go.RowKit Go.Shelf
open Go.Sort Go.Maps
open M
end Go.Proofs.Ytcdmgcgjonndpaa

/-  -/
namespace Go.Proofs.Ytcdmgcgjonndpaa
open Go Go.RowKit Go.Shelf
open Go.Sort Go.Maps
open M
def zTy : Ty := .mk 0 ⟨#[]⟩ 0 ⟨#[]⟩ ⟨#[]⟩ [] []
end Go.Proofs.Ytcdmgcgjonndpaa

/-  -/
namespace Go.Proofs.Ytcdmgcgjonndpaa
open Go.RowKit
open Go.Sort
open M
end Go.Proofs.Ytcdmgcgjonndpaa

/-  -/
namespace Go.Proofs.Ytcdmgcgjonndpaa
open Go Go.RowKit Go.Shelf
open Go.Sort Go.Maps
open M
end Go.Proofs.Ytcdmgcgjonndpaa

/-  -/
namespace Go.Proofs.Ytcdmgcgjonndpaa
open Go Go.RowKit Go.Shelf
open Go.Sort Go.Maps
open M
end Go.Proofs.Ytcdmgcgjonndpaa

/-  -/
namespace Go.Proofs.Ytcdmgcgjonndpaa
open Go.RowKit
open M
set_option maxRecDepth 100000 in
set_option maxHeartbeats 4000000 in
theorem index_local (As : Option Addr) (cs n : Nat) (ss : List Ty) (w : World) (hn : ss.length = n) (hz : n ≤ 9223372036854775807) (hS : SubsAt w As ss)
    (IH : ∀ s, s ∈ ss → ∀ (v : Value) (w : World), TyV w v s → Calls Try.prog 35 #[v] w fun e w' => e = .returned (.bool (!plainT s)) ∧ Below w.heap.size w w') :
    Calls Try.prog 58 #[.slice As n cs, .func (.func 35) #[] #[]] w fun e w' => ∃ r : Int, e = .returned (.int .i64 r) ∧ decide (0 ≤ r) = !plainL ss ∧ Below w.heap.size w w' := by
  have HS := Lib.hid hS
  have HN := Lib.hid hn
  have HIH := Lib.hid IH
  clear hS hn IH
  go_enter Try.func58, Try.ntmps58
  go_wp2_with fail
  go_loopw [8] (fun i wr => ∃ k : Nat, k ≤ n ∧ i = .int .i64 k ∧ Hid (∀ j s, j < k → ss[j]? = some s → plainT s = true) ∧ Below w.heap.size w wr) (fun i _ => n - (intOf i).toNat)
  case atStart => exact ⟨0, by omega, rfl, Lib.hid (fun j s h => by omega), Below.refl _ _⟩
  case round =>
    obtain ⟨k, hk, rfl, HP, hb⟩ := hrel
    obtain ⟨wo, rfl⟩ : ∃ wo : World, wo = wr := ⟨_, rfl⟩
    by_cases hlt : k < n
    · obtain ⟨s, hs⟩ : ∃ s, ss[k]? = some s := ⟨_, List.getElem?_eq_getElem (by rw [HN.out]; exact hlt)⟩
      obtain ⟨g, o, v0, v1, v2, v3, v4, v5, v6, rfl, -, h0, h1, h2, h3, h4, h5, h6, hs7⟩ := HS.out.below hb k s hs
      have IHs := Lib.hid (HIH.out s (List.mem_of_getElem? hs) (.agg #[v0, v1, v2, v3, v4, v5, v6]) wo ⟨_, rfl, hs7⟩)
      have HSS := Lib.hid hs
      clear hs7 hs
      rcases hid_or (plainT s) with hp | hp
      · have R : Hid (decide (0 ≤ (k : Int)) = !plainL ss) := Lib.hid (by
          rw [show plainL ss = false by
            rw [Bool.eq_false_iff, ne_eq, plainL_mem]
            intro h
            have := h s (List.mem_of_getElem? HSS.out)
            rw [hp.out] at this; cases this]
          simp)
        go_wp2_with fail
        refine IHs.out.mono ?_; rintro e w2 ⟨rfl, hb2⟩; rw [hp.out]
        have hb3 := below_over hb hb2
        clear h0 h1 h2 h3 h4 h5 h6 hb hb2
        go_wp2_with fail
        go_ret
        exact ⟨_, rfl, R.out, hb3⟩
      · go_wp2_with fail
        refine IHs.out.mono ?_; rintro e w2 ⟨rfl, hb2⟩; rw [hp.out]
        have hb3 := below_over hb hb2
        clear h0 h1 h2 h3 h4 h5 h6 hb hb2
        go_wp2_with fail
        go_roundw
        case rel => exact ⟨k + 1, by omega, by go_num, Lib.hid (fun j q hj hq => by
          rcases Nat.lt_or_ge j k with a | a
          · exact HP.out j q a hq
          · rw [show j = k by omega, HSS.out] at hq
            obtain rfl := Option.some.inj hq
            exact hp.out), hb3⟩
        case measure => simp [intOf]; omega
    · have R : Hid (decide (0 ≤ (-1 : Int)) = !plainL ss) := Lib.hid (by
        rw [(plainL_mem ss).2 (fun s hs => ?_)]
        · rfl
        · obtain ⟨j, hj⟩ := List.getElem?_of_mem hs
          have hjl := (List.getElem?_eq_some_iff.1 hj).1
          exact HP.out j s (by rw [HN.out] at hjl; omega) hj)
      go_wp2_with fail
      go_ret
      exact ⟨_, rfl, R.out, hb⟩
set_option maxRecDepth 100000 in
set_option maxHeartbeats 1000000 in
theorem contains_local (As : Option Addr) (cs n : Nat) (ss : List Ty) (w : World) (hn : ss.length = n) (hz : n ≤ 9223372036854775807) (hS : SubsAt w As ss)
    (IH : ∀ s, s ∈ ss → ∀ (v : Value) (w : World), TyV w v s → Calls Try.prog 35 #[v] w fun e w' => e = .returned (.bool (!plainT s)) ∧ Below w.heap.size w w') :
    Calls Try.prog 46 #[.slice As n cs, .func (.func 35) #[] #[]] w fun e w' => e = .returned (.bool (!plainL ss)) ∧ Below w.heap.size w w' := by
  have HC := Lib.hid (index_local As cs n ss w hn hz hS IH)
  clear hn hS IH
  go_enter Try.func46, Try.ntmps46
  go_wp2_with fail
  refine HC.out.mono ?_; rintro e w2 ⟨r, rfl, hr, hb2⟩
  have HR := Lib.hid hr
  clear hr HC
  go_wp2_with fail
  go_ret
  exact ⟨ret_bool HR.out.symm, hb2⟩
set_option maxRecDepth 100000 in
set_option maxHeartbeats 1000000 in
theorem local_any (N : Nat) : ∀ (t : Ty), many t ≤ N → ∀ (v : Value) (w : World), TyV w v t →
    Calls Try.prog 35 #[v] w fun e w' => e = .returned (.bool (!plainT t)) ∧ Below w.heap.size w w' := by
  induction N with
  | zero => intro t h; have := many_pos t; omega
  | succ N ih =>
    intro t hN v w hv
    obtain ⟨l, rfl, hT⟩ := hv
    obtain ⟨An, cn, As, cs, rfl, -, -, -, hzn, hz, -, hS⟩ := hT.parts
    have HS := Lib.hid hS
    clear hT hS
    have HE := Lib.hid (plain_eq t)
    have IH : Hid (∀ s, s ∈ t.subs → ∀ (v : Value) (w : World), TyV w v s → Calls Try.prog 35 #[v] w fun e w' => e = .returned (.bool (!plainT s)) ∧ Below w.heap.size w w') :=
      Lib.hid (fun s hs v w hv => ih s (by have := manyL_mem t.subs s hs; have := manyL_eq t; omega) v w hv)
    clear ih hN
    generalize hn : t.subs.length = n at hz
    have HN := Lib.hid hn
    clear hn
    rcases hid_or (t.kind == 8) with h8 | h8
    · have h8' := h8.out
      have R : Hid ((!plainT t) = !plainL t.subs) := Lib.hid (by rw [HE.out, h8']; rfl)
      rw [R.out]
      clear R
      go_enter Try.func35, Try.ntmps35
      go_wp2_with fail
      refine (contains_local As cs n t.subs _ HN.out hz (HS.out.below (below_new (Below.refl _ _) _)) IH.out).mono ?_; rintro e w2 ⟨rfl, hb2⟩
      go_wp2_with fail
      go_ret
      exact ⟨rfl, (below_new (Below.refl _ _) _).trans (hb2.mono (by simp))⟩
    · have h8' := h8.out
      have R : Hid ((!plainT t) = true) := Lib.hid (by rw [HE.out, h8']; rfl)
      rw [R.out]
      clear R
      go_enter Try.func35, Try.ntmps35
      go_wp2_with fail
      go_ret
      exact ⟨rfl, below_new (Below.refl _ _) _⟩
end Go.Proofs.Ytcdmgcgjonndpaa
