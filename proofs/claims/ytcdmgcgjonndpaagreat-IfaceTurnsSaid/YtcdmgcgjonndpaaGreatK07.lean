/-
  Several texts in one:  ·  ·  · 
-/
import Derived.Test.YtcdmgcgjonndpaaGreatK00
import Derived.Test.YtcdmgcgjonndpaaGreatK01
import Derived.Deep.RegionLaw
import Derived.Deep.DeepCutAuto
import Derived.Deep.CutBlock
import Derived.Maps.AppendAt
import Derived.Test.YtcdmgcgjonndpaaGreatK03
import Derived.Test.YtcdmgcgjonndpaaGreatK04
import Derived.Test.YtcdmgcgjonndpaaGreatK06
/-  -/
namespace Go.Proofs.YtcdmgcgjonndpaaGreat
open Go.RowKit
open M
structure Cp1 (w : World) (t : Ty) (As : Option Addr) (n cs : Nat) (A5 : Option Addr) (c5 : Nat) (wr : World) : Prop where
 below : Below w.heap.size w wr
 box : wr.heap[w.heap.size]? = some (.cells #[.int .i64 t.kind, .string t.pkg, .int .i64 t.major, .string t.mod, .string t.name, .slice A5 t.names.length c5, .slice As n cs] 45 (0, 0))
 res : wr.heap[w.heap.size + 1]? = some (.cells #[.int .i64 0, .string ⟨#[]⟩, .int .i64 0, .string ⟨#[]⟩, .string ⟨#[]⟩, .slice none 0 0, .slice none 0 0] 45 (0, 0))
 own : wr.ownsRow (w.heap.size + 2) 9 1 (.slice A5 t.names.length c5) t.names.length (t.names.map Value.string)
theorem Cp1.start {w wr : World} {t : Ty} {As : Option Addr} {n cs : Nat} {A5 : Option Addr} {c5 : Nat} (h : Cp1 w t As n cs A5 c5 wr) (hs : ∀ (i : Nat) (s : ByteArray), t.names[i]? = some s → s.size ≤ 9223372036854775807) :
  Cp w t A5 c5 0 none 0 (wr.setCell ⟨w.heap.size, 6, none⟩ (.slice none 0 0)) := by
 have hown := ownsRow_setCell_below h.own (a := ⟨w.heap.size, 6, none⟩) (by show w.heap.size < w.heap.size + 2; omega) (.slice none 0 0)
 obtain ⟨-, A, c, e, hN⟩ := own_names hown hs
 simp at e
 obtain ⟨rfl, rfl⟩ := e
 refine ⟨h.below.setCell (Nat.le_refl _) _, ?_, ?_, hN _ (fun b hb e => ?_), fun _ => [.nilIface, .nilIface, .nilIface, .nilIface, .nilIface, .nilIface, .nilIface], fun _ => rfl, World.ownsRow_nil _ _ _ _, fun i s hi => by omega⟩
 ·have := Joins.block_setCell (i := 6) h.box (.slice none 0 0)
  simpa using this
 ·rw [Below.heap_setCell _ _ _ _ (by show w.heap.size + 1 ≠ w.heap.size; omega)]
  exact h.res
 ·rcases e with e | e
  ·omega
  ·simp [Value.ownBlock] at e
theorem Cp1.made {w w4 : World} {t : Ty} {An As : Option Addr} {cn n cs : Nat} {A5 : Option Addr} {c5 : Nat}
  (hb : Below w.heap.size w w4) (hbox : w4.heap[w.heap.size]? = some (.cells #[.int .i64 t.kind, .string t.pkg, .int .i64 t.major, .string t.mod, .string t.name, .slice An t.names.length cn, .slice As n cs] 45 (0, 0)))
  (hres : w4.heap[w.heap.size + 1]? = some (.cells #[.int .i64 0, .string ⟨#[]⟩, .int .i64 0, .string ⟨#[]⟩, .string ⟨#[]⟩, .slice none 0 0, .slice none 0 0] 45 (0, 0)))
  (hown : w4.ownsRow (w.heap.size + 2) 9 1 (.slice A5 t.names.length c5) t.names.length (t.names.map Value.string)) :
  Cp1 w t As n cs A5 c5 (w4.setCell ⟨w.heap.size, 5, none⟩ (.slice A5 t.names.length c5)) := by
 refine ⟨hb.setCell (Nat.le_refl _) _, ?_, ?_, ownsRow_setCell_below hown (by show w.heap.size < w.heap.size + 2; omega) _⟩
 ·have := Joins.block_setCell (i := 5) hbox (.slice A5 t.names.length c5)
  simpa using this
 ·rw [Below.heap_setCell _ _ _ _ (by show w.heap.size + 1 ≠ w.heap.size; omega)]
  exact hres
theorem Cp1.empty (w : World) {t : Ty} (As : Option Addr) (n cs : Nat) (h0 : t.names.length = 0) :
  Cp1 w t As n cs (some ⟨w.heap.size + 1 + 1, 0, none⟩) 0 (((w.alloc (.cells #[.int .i64 t.kind, .string t.pkg, .int .i64 t.major, .string t.mod, .string t.name, .slice (some ⟨w.heap.size + 1 + 1, 0, none⟩) 0 0, .slice As n cs] 45)).alloc (.cells #[.int .i64 0, .string ⟨#[]⟩, .int .i64 0, .string ⟨#[]⟩, .string ⟨#[]⟩, .slice none 0 0, .slice none 0 0] 45)).alloc (.cells #[] 9)) := by
 have e1 : w.heap.size + 1 = (w.alloc (.cells #[.int .i64 t.kind, .string t.pkg, .int .i64 t.major, .string t.mod, .string t.name, .slice (some ⟨w.heap.size + 1 + 1, 0, none⟩) 0 0, .slice As n cs] 45)).heap.size := by simp
 have e2 : w.heap.size + 1 + 1 = ((w.alloc (.cells #[.int .i64 t.kind, .string t.pkg, .int .i64 t.major, .string t.mod, .string t.name, .slice (some ⟨w.heap.size + 1 + 1, 0, none⟩) 0 0, .slice As n cs] 45)).alloc (.cells #[.int .i64 0, .string ⟨#[]⟩, .int .i64 0, .string ⟨#[]⟩, .string ⟨#[]⟩, .slice none 0 0, .slice none 0 0] 45)).heap.size := by simp
 refine ⟨below_new (below_new (below_new (Below.refl _ _) _) _) _, ?_, ?_, ?_⟩
 ·rw [Lib.alloc_old _ _ _ (by simp; omega), Lib.alloc_old _ _ _ (by simp), h0]; exact heap_alloc_new w _
 ·rw [Lib.alloc_old _ _ _ (by simp)]
  have := heap_alloc_new (w.alloc (.cells #[.int .i64 t.kind, .string t.pkg, .int .i64 t.major, .string t.mod, .string t.name, .slice (some ⟨w.heap.size + 1 + 1, 0, none⟩) 0 0, .slice As n cs] 45)) (.cells #[.int .i64 0, .string ⟨#[]⟩, .int .i64 0, .string ⟨#[]⟩, .string ⟨#[]⟩, .slice none 0 0, .slice none 0 0] 45)
  rw [← e1] at this
  exact this
 ·have := World.ownsRow_lit (base := w.heap.size + 2) (e := 9) (size := 1) ((w.alloc (.cells #[.int .i64 t.kind, .string t.pkg, .int .i64 t.major, .string t.mod, .string t.name, .slice (some ⟨w.heap.size + 1 + 1, 0, none⟩) 0 0, .slice As n cs] 45)).alloc (.cells #[.int .i64 0, .string ⟨#[]⟩, .int .i64 0, .string ⟨#[]⟩, .string ⟨#[]⟩, .slice none 0 0, .slice none 0 0] 45)) #[] 0 (by rw [← e2]; omega) (by decide) rfl
  rw [← e2] at this
  rw [h0, List.length_eq_zero_iff.1 h0]
  exact this
set_option maxRecDepth 100000 in
set_option maxHeartbeats 4000000 in
theorem copy_any (N : Nat) : ∀ (t : Ty), many t ≤ N → many t ≤ 9000 → shortT t → ∀ (v : Value) (w : World), TyV w v t →
    Calls Tryz.prog 26 #[v] w fun e w' => ∃ l : List Value, e = .returned (.agg l.toArray) ∧ TyAt (strike (· < w.heap.size) w') l t ∧ Below w.heap.size w w' := by
  induction N with
  | zero => intro t h; have := many_pos t; omega
  | succ N ih =>
    intro t hN hM hSh v w hv
    obtain ⟨lv, rfl, hT⟩ := hv
    obtain ⟨An, cn, As, cs, rfl, zp, zm, za, hzn, hz, hNA, hS⟩ := hT.parts
    have HS := Lib.hid hS
    have HNA := Lib.hid hNA
    have hnl : t.names.length ≤ 200 := by
      cases t with | mk k p m d n ns ss => unfold shortT at hSh; exact hSh.1
    have HSS : Hid (∀ s, s ∈ t.subs → shortT s) := Lib.hid (by
      have key : ∀ l : List Ty, shortL l → ∀ s, s ∈ l → shortT s := by
        intro l
        induction l with
        | nil => intro _ s hs; cases hs
        | cons a r ih => 
          intro h s hs
          unfold shortL at h
          rcases List.mem_cons.1 hs with e | hs
          · rw [e]; exact h.1
          · exact ih h.2 s hs
      cases t with | mk k p m d n ns ss => unfold shortT at hSh; exact key ss hSh.2)
    have HNS : Hid (∀ (i : Nat) (s : ByteArray), t.names[i]? = some s → s.size ≤ 9223372036854775807) := Lib.hid (fun i s hs => by
      obtain ⟨g, o, -, -, -, h⟩ := hNA i s hs
      exact h)
    clear hT hS hNA hSh
    have hml : t.subs.length ≤ 9000 := by have := manyL_len t.subs; have := manyL_eq t; omega
    generalize hn : t.subs.length = n at hz hml
    have HN := Lib.hid hn
    clear hn
    obtain ⟨W3, hW3⟩ : ∃ W3, W3 = ((w.alloc (.cells #[.int .i64 t.kind, .string t.pkg, .int .i64 t.major, .string t.mod, .string t.name, .slice An t.names.length cn, .slice As n cs] 45)).alloc (.cells #[.int .i64 0, .string ⟨#[]⟩, .int .i64 0, .string ⟨#[]⟩, .string ⟨#[]⟩, .slice none 0 0, .slice none 0 0] 45)).alloc (.cells #[] 9) := ⟨_, rfl⟩
    have B3 : Hid (Below w.heap.size w W3) := Lib.hid (by rw [hW3]; exact below_new (below_new (below_new (Below.refl _ _) _) _) _)
    have X3 : Hid (W3.heap[w.heap.size]? = some (.cells #[.int .i64 t.kind, .string t.pkg, .int .i64 t.major, .string t.mod, .string t.name, .slice An t.names.length cn, .slice As n cs] 45 (0, 0))) := Lib.hid (by
      rw [hW3, Lib.alloc_old _ _ _ (by simp; omega), Lib.alloc_old _ _ _ (by simp)]; exact heap_alloc_new w _)
    have R3 : Hid (W3.heap[w.heap.size + 1]? = some (.cells #[.int .i64 0, .string ⟨#[]⟩, .int .i64 0, .string ⟨#[]⟩, .string ⟨#[]⟩, .slice none 0 0, .slice none 0 0] 45 (0, 0))) := Lib.hid (by
      rw [hW3, Lib.alloc_old _ _ _ (by simp)]
      have e : w.heap.size + 1 = (w.alloc (.cells #[.int .i64 t.kind, .string t.pkg, .int .i64 t.major, .string t.mod, .string t.name, .slice An t.names.length cn, .slice As n cs] 45)).heap.size := by simp
      rw [e]; exact heap_alloc_new _ _)
    have O3 : Hid (W3.ownsRow (w.heap.size + 2) 9 1 (.slice (some ⟨w.heap.size + 1 + 1, 0, none⟩) 0 0) 0 []) := Lib.hid (by
      rw [hW3]
      have e : w.heap.size + 1 + 1 = ((w.alloc (.cells #[.int .i64 t.kind, .string t.pkg, .int .i64 t.major, .string t.mod, .string t.name, .slice An t.names.length cn, .slice As n cs] 45)).alloc (.cells #[.int .i64 0, .string ⟨#[]⟩, .int .i64 0, .string ⟨#[]⟩, .string ⟨#[]⟩, .slice none 0 0, .slice none 0 0] 45)).heap.size := by simp
      have := World.ownsRow_lit (base := w.heap.size + 2) (e := 9) (size := 1) ((w.alloc (.cells #[.int .i64 t.kind, .string t.pkg, .int .i64 t.major, .string t.mod, .string t.name, .slice An t.names.length cn, .slice As n cs] 45)).alloc (.cells #[.int .i64 0, .string ⟨#[]⟩, .int .i64 0, .string ⟨#[]⟩, .string ⟨#[]⟩, .slice none 0 0, .slice none 0 0] 45)) #[] 0 (by rw [← e]; omega) (by decide) rfl
      rw [← e] at this
      exact this)
    have s3 : w.heap.size + 2 ≤ W3.heap.size := by have := (Array.getElem?_eq_some_iff.1 R3.out).1; omega
    have HW3 := Lib.hid hW3
    clear hW3
    obtain ⟨i0, hi, hz0, hz1, hz2⟩ := info_parts str_info
    go_enter Tryz.func26, Tryz.ntmps26
    go_upto_region 1 with fail
    go_cut [8] (fun s8 wx => ∃ (A5 : Option Addr) (c5 : Nat), Cp1 w t As n cs A5 c5 wx)
    case first =>
      cases An with
      | none =>
        have hn0 : t.names.length = 0 := by
          rcases Nat.eq_zero_or_pos t.names.length with h | h
          · exact h
          · obtain ⟨g, o, e, -⟩ := HNA.out 0 _ (List.getElem?_eq_getElem h)
            cases e
        have HE := Lib.hid (Cp1.empty w As n cs hn0)
        go_wp2_with fail
        go_meet
        exact ⟨_, _, HE.out⟩
      | some ad =>
        have own0 := O3.out
        rw [HW3.out] at own0
        have hnews : ∀ j u, (t.names.map Value.string)[j]? = some u → W3.cell? (ad.add j) = some u := by
          intro j u hj
          rw [List.getElem?_map] at hj
          obtain ⟨s, hs, rfl⟩ := Option.map_eq_some_iff.1 hj
          obtain ⟨g, o, e, hg, hc, -⟩ := HNA.out j s hs
          obtain rfl := Option.some.inj e
          rw [WideShapes.add_plain]
          exact (B3.out.cell (p := ⟨g, _, none⟩) hg).trans hc
        rw [HW3.out] at hnews
        have hone : ∀ u ∈ t.names.map Value.string, u.oneCell' = true := by
          intro u hu
          obtain ⟨s, -, rfl⟩ := List.mem_map.1 hu
          rfl
        have hbase := s3
        rw [HW3.out] at hbase
        go_wp2_with (at_builtin; refine wpList_append_own_at _ rfl _ _ 42 rfl (w.heap.size + 2) 9 i0 (.string ⟨#[]⟩) 1 16 Tryz.underlying42 hi hz0 hz1 hz2 rfl (by decide) _ 0 [] rfl own0 ad t.names.length cn (t.names.map Value.string) rfl ?c0 hnews hone ?c3 ?c4 hbase ?_)
        case c0 => simp
        case c3 => unfold maxLen; omega
        case c4 => omega
        intro v5 w4 hown hgrow _ hat
        rw [← HW3.out] at hgrow
        have hown2 : w4.ownsRow (w.heap.size + 2) 9 1 v5 t.names.length (t.names.map Value.string) := by first | exact hown | simpa using hown
        clear hown
        obtain ⟨-, A5, c5, rfl, -⟩ := own_names hown2 HNS.out
        have b4 : w4.heap[w.heap.size]? = _ := (hgrow.block w.heap.size (by omega) (by simp [Value.ownBlock]; omega)).trans X3.out
        have r4 : w4.heap[w.heap.size + 1]? = _ := (hgrow.block (w.heap.size + 1) (by omega) (by simp [Value.ownBlock])).trans R3.out
        have B4 : Below w.heap.size w w4 := B3.out.trans ⟨hgrow.os, hgrow.tape, hgrow.output, hgrow.size, fun b hb => hgrow.block b (by omega) (by simp [Value.ownBlock]; omega)⟩
        have M := Lib.hid (Cp1.made B4 b4 r4 hown2)
        have x5 : w4.cell? ⟨w.heap.size, 5, none⟩ = some (.slice (some ad) t.names.length cn) := Lib.cell_of_heap b4 5
        have f5 : w4.frozen? ⟨w.heap.size, 5, none⟩ = false := Lib.frozen_of_heap b4 5
        clear hgrow hown2 hat b4 r4 B4 hnews hbase own0
        go_wp2_with fail
        go_meet
        exact ⟨_, _, M.out⟩
    case rest =>
      obtain ⟨A5, c5, h1⟩ := hcut
      have x6 := Lib.cell_of_heap h1.box 6
      have f6 := Lib.frozen_of_heap h1.box 6
      simp at x6
      have START := Lib.hid (h1.start HNS.out)
      clear h1 B3 X3 R3 O3 HW3 HNS
      go_wp2_with fail
      clear x6 f6
      go_loopw [4] (fun i wr => ∃ (j : Nat) (A6 : Option Addr) (c6 : Nat), j ≤ n ∧ i = .int .i64 j ∧ Hid (Cp w t A5 c5 j A6 c6 wr)) (fun i _ => n - (intOf i).toNat)
      case atStart => exact ⟨0, none, 0, by omega, rfl, START⟩
      case round =>
        obtain ⟨j, A6, c6, hj, rfl, HC⟩ := hrel
        obtain ⟨wo, rfl⟩ : ∃ wo : World, wo = wr := ⟨_, rfl⟩
        have x6 := Lib.cell_of_heap HC.out.box 6
        have f6 := Lib.frozen_of_heap HC.out.box 6
        simp at x6
        have hkl : w.heap.size + 1 < wo.heap.size := (Array.getElem?_eq_some_iff.1 HC.out.res).1
        by_cases hlt : j < n
        · obtain ⟨s, hs⟩ : ∃ s, t.subs[j]? = some s := ⟨_, List.getElem?_eq_getElem (by rw [HN.out]; exact hlt)⟩
          obtain ⟨C, hC, hown6, hCs⟩ := HC.out.subs
          obtain ⟨g0, o0, v0, v1, v2, v3, v4, v5, v6, rfl, hg0, h0, h1, h2, h3, h4, h5, h6, hs7⟩ := HS.out.below HC.out.below j s hs
          obtain ⟨Am, cm, At, ct, rfl, rfl, rfl, rfl, rfl, rfl, rfl⟩ := hs7.seven
          have hsm := sub_many hs
          have IH := Lib.hid (fun (w' : World) (hw : Below wo.heap.size wo w') => ih s (by omega) (by omega) (HSS.out s (List.mem_of_getElem? hs)) (.agg #[.int .i64 s.kind, .string s.pkg, .int .i64 s.major, .string s.mod, .string s.name, .slice Am s.names.length cm, .slice At s.subs.length ct]) w' (TyV.below ⟨_, rfl, hs7⟩ hw))
          have hold : ∀ b, (Value.slice A6 j c6).ownBlock = some b → w.heap.size + 2 ≤ b ∧ b < wo.heap.size := fun b hb => by
            obtain ⟨h1, h2⟩ := hown6.lt b hb
            exact ⟨h1, h2⟩
          have HHS := Lib.hid hs
          have HHC := Lib.hid hC
          have HHCs := Lib.hid hCs
          have HOLD := Lib.hid hold
          have HOWN := Lib.hid hown6
          clear hs7 hs hC hCs hold hown6 hsm
          obtain ⟨i1, hi1, hy0, hy1, hy2⟩ := info_parts typ_info
          go_upto_block 1 with fail
          go_cut [4] (fun s4 wx => s4 = .int .i64 j ∧ ∃ (A6' : Option Addr) (c6' : Nat), Cp w t A5 c5 (j + 1) A6' c6' wx)
          case first =>
            have hk0 : w.heap.size < wo.heap.size := by omega
            go_wp2_with fail
            have F1 : ∀ (w1 : World) (oo : Obj), Below wo.heap.size wo w1 → (w1.alloc oo).ownsRow (w.heap.size + 2) 45 7 (.slice A6 j c6) j ((List.range j).map C).flatten := fun w1 oo hB => (own_keep HOWN.out hB).alloc oo
            have F2 : ∀ (w1 : World) (Ax : Option Addr) (cx : Nat) (Ay : Option Addr) (cy : Nat), ∀ (q : Nat) (u : Value), ([.int .i64 s.kind, .string s.pkg, .int .i64 s.major, .string s.mod, .string s.name, .slice Ax s.names.length cx, .slice Ay s.subs.length cy] : List Value)[q]? = some u → (w1.alloc (.cells #[.int .i64 s.kind, .string s.pkg, .int .i64 s.major, .string s.mod, .string s.name, .slice Ax s.names.length cx, .slice Ay s.subs.length cy] 45)).cell? ((⟨w1.heap.size, 0, none⟩ : Addr).add q) = some u := fun w1 Ax cx Ay cy q u hq => by
              rw [WideShapes.add_plain, Nat.zero_add, Lib.cell_of_heap (heap_alloc_new w1 _), ← hq, ← List.getElem?_toArray]
            have F3 : ∀ (Ax : Option Addr) (cx : Nat) (Ay : Option Addr) (cy : Nat), ∀ u ∈ ([.int .i64 s.kind, .string s.pkg, .int .i64 s.major, .string s.mod, .string s.name, .slice Ax s.names.length cx, .slice Ay s.subs.length cy] : List Value), u.oneCell' = true := fun Ax cx Ay cy u hu => by
              simp at hu
              rcases hu with rfl | rfl | rfl | rfl | rfl | rfl | rfl <;> rfl
            have F4 : ∀ (w1 : World) (oo : Obj), Below wo.heap.size wo w1 → w.heap.size + 2 ≤ (w1.alloc oo).heap.size := fun w1 oo hB => by
              have := hB.size
              have : (w1.alloc oo).heap.size = w1.heap.size + 1 := by simp
              omega
            have F5 : j + 1 ≤ maxLen := by unfold maxLen; omega
            have F6 : (j + 1) * 112 ≤ 140737488355328 := by omega
            have F7 : (Value.agg #[.int .i64 0, .string ⟨#[]⟩, .int .i64 0, .string ⟨#[]⟩, .string ⟨#[]⟩, .slice none 0 0, .slice none 0 0]).cells.size = 7 := by rfl
            have F8 : ∀ (w1 w2 : World) (oo : Obj), Below wo.heap.size wo w1 → (w1.alloc oo).grownBy w2 (Value.slice A6 j c6).ownBlock → w2.cell? ⟨w.heap.size, 6, none⟩ = some (.slice A6 j c6) ∧ w2.frozen? ⟨w.heap.size, 6, none⟩ = false := fun w1 w2 oo hB hgrow => by
              have e : w2.heap[w.heap.size]? = wo.heap[w.heap.size]? := by
                rw [hgrow.block w.heap.size (by have := hB.size; simp; omega) (fun e => by have := (HOLD.out _ e.symm).1; omega), Lib.alloc_old w1 oo _ (by have := hB.size; omega)]
                exact hB.block _ hk0
              rw [World.cell?_of_block (w := wo) (a := ⟨w.heap.size, 6, none⟩) e, World.frozen?_of_block (w := wo) (a := ⟨w.heap.size, 6, none⟩) e]
              exact ⟨x6, f6⟩
            go_region_law (first
              | (go_simp; go_at_call 26; refine (IH.out _ (Below.drew (Below.refl _ _))).mono ?_
                 rintro e w1 ⟨l1, rfl, hT1, hb1⟩
                 obtain ⟨Ax, cx, Ay, cy, rfl, -⟩ := hT1.parts
                 have hB : Below wo.heap.size wo w1 := (Below.drew (Below.refl _ _)).trans hb1
                 have y6 : w1.cell? ⟨w.heap.size, 6, none⟩ = some (.slice A6 j c6) := (hB.cell (p := ⟨w.heap.size, 6, none⟩) hk0).trans x6
                 have hw1 : w.heap.size < w1.heap.size := Nat.lt_of_lt_of_le hk0 hB.size)
              | (refine step_append_lies _ rfl (.tmp 20) (.tmp 26) 43 rfl (w.heap.size + 2) 45 i1 _ 7 112 Tryz.underlying43 hi1 hy0 hy1 hy2 F7 (Nat.zero_lt_succ 6) (.slice A6 j c6) j _ rfl (F1 w1 _ hB) ⟨w1.heap.size, 0, none⟩ 1 1 [.int .i64 s.kind, .string s.pkg, .int .i64 s.major, .string s.mod, .string s.name, .slice Ax s.names.length cx, .slice Ay s.subs.length cy] rfl rfl (F2 w1 Ax cx Ay cy) (F3 Ax cx Ay cy) Nat.one_pos F5 F6 (F4 w1 _ hB) _ rfl ?_
                 intro g cap w2 hown2 hgrow hat hlt2
                 have ST := Lib.hid (HC.out.step HHS.out hB hT1 rfl HHC.out HHCs.out hown2 hgrow hat HOLD.out)
                 obtain ⟨z6, e6⟩ := F8 w1 w2 _ hB hgrow))
            all_goals (go_wp2_with fail; go_meet; exact ⟨rfl, _, _, ST.out⟩)
          case rest =>
            obtain ⟨rfl, A6', c6', hC'⟩ := hcut
            have HC' := Lib.hid hC'
            clear hC' h0 h1 h2 h3 h4 h5 h6 x6 f6 IH
            go_wp2_with fail
            go_roundw
            case rel => exact ⟨j + 1, A6', c6', by omega, by go_num, HC'⟩
            case measure => simp [intOf]; omega
        · obtain rfl : j = n := by omega
          have y0 := Lib.cell_of_heap HC.out.box 0
          have y1 := Lib.cell_of_heap HC.out.box 1
          have y2 := Lib.cell_of_heap HC.out.box 2
          have y3 := Lib.cell_of_heap HC.out.box 3
          have y4 := Lib.cell_of_heap HC.out.box 4
          have y5 := Lib.cell_of_heap HC.out.box 5
          have r0 := Lib.cell_of_heap HC.out.res 0
          have r1 := Lib.cell_of_heap HC.out.res 1
          have r2 := Lib.cell_of_heap HC.out.res 2
          have r3 := Lib.cell_of_heap HC.out.res 3
          have r4 := Lib.cell_of_heap HC.out.res 4
          have r5 := Lib.cell_of_heap HC.out.res 5
          have r6 := Lib.cell_of_heap HC.out.res 6
          have q0 := Lib.frozen_of_heap HC.out.res 0
          have q1 := Lib.frozen_of_heap HC.out.res 1
          have q2 := Lib.frozen_of_heap HC.out.res 2
          have q3 := Lib.frozen_of_heap HC.out.res 3
          have q4 := Lib.frozen_of_heap HC.out.res 4
          have q5 := Lib.frozen_of_heap HC.out.res 5
          have q6 := Lib.frozen_of_heap HC.out.res 6
          simp at y0 y1 y2 y3 y4 y5 r0 r1 r2 r3 r4 r5 r6
          obtain ⟨W7, hW7⟩ : ∃ W7, W7 = (((((((wo.setCell ⟨w.heap.size + 1, 0, none⟩ (.int .i64 t.kind)).setCell ⟨w.heap.size + 1, 1, none⟩ (.string t.pkg)).setCell ⟨w.heap.size + 1, 2, none⟩ (.int .i64 t.major)).setCell ⟨w.heap.size + 1, 3, none⟩ (.string t.mod)).setCell ⟨w.heap.size + 1, 4, none⟩ (.string t.name)).setCell ⟨w.heap.size + 1, 5, none⟩ (.slice A5 t.names.length c5)).setCell ⟨w.heap.size + 1, 6, none⟩ (.slice A6 j c6)) := ⟨_, rfl⟩
          have hbk : W7.heap[w.heap.size + 1]? = some (.cells #[.int .i64 t.kind, .string t.pkg, .int .i64 t.major, .string t.mod, .string t.name, .slice A5 t.names.length c5, .slice A6 j c6] 45 (0, 0)) := by rw [hW7]; exact fill7 HC.out.res _ _ _ _ _ _ _
          have hot : ∀ c, c ≠ w.heap.size + 1 → W7.heap[c]? = wo.heap[c]? := fun c hc => by rw [hW7]; exact fill7_other hc _ _ _ _ _ _ _
          have hsz : W7.heap.size = wo.heap.size := by rw [hW7]; exact fill7_size _ _ _ _ _ _ _
          have DONE : TyAt (strike (· < w.heap.size + 2) wo) [.int .i64 t.kind, .string t.pkg, .int .i64 t.major, .string t.mod, .string t.name, .slice A5 t.names.length c5, .slice A6 j c6] t := by
            have hd := HC.out
            have e := HN.out
            subst e
            exact hd.done zp zm za hzn hz
          have T7 : Hid (TyAt (strike (· < w.heap.size) W7) [.int .i64 t.kind, .string t.pkg, .int .i64 t.major, .string t.mod, .string t.name, .slice A5 t.names.length c5, .slice A6 j c6] t) := Lib.hid (DONE.cells (by rw [strike_size, strike_size]; omega) (fun b o x hx => by
            obtain ⟨h1, h2⟩ := strike_cell.1 hx
            refine strike_cell.2 ⟨by omega, ?_⟩
            rw [World.cell?_of_block (w := wo) (a := ⟨b, o, none⟩) (hot b (by omega))]; exact h2))
          have B7 : Hid (Below w.heap.size w W7) := Lib.hid (by
            have hb := HC.out.below
            rw [hW7]
            exact ((((((hb.setCell (by simp) _).setCell (by simp) _).setCell (by simp) _).setCell (by simp) _).setCell (by simp) _).setCell (by simp) _).setCell (by simp) _)
          have C7 : Hid (∀ i v, ([.int .i64 t.kind, .string t.pkg, .int .i64 t.major, .string t.mod, .string t.name, .slice A5 t.names.length c5, .slice A6 j c6] : List Value)[i]? = some v → W7.cell? ⟨w.heap.size + 1, i, none⟩ = some v) := Lib.hid (fun i v hv => by
            rw [Lib.cell_of_heap hbk, ← hv, ← List.getElem?_toArray])
          have HW7 := Lib.hid hW7
          clear hW7 hbk hot hsz DONE
          go_wp2_with fail
          rw [← HW7.out]
          exact ret_agg1 (fn := Tryz.f26) (vs := [.int .i64 t.kind, .string t.pkg, .int .i64 t.major, .string t.mod, .string t.name, .slice A5 t.names.length c5, .slice A6 j c6]) (b := w.heap.size + 1) rfl rfl Tryz.underlying45 (by kernel_rfl) C7.out rfl ⟨_, rfl, T7.out, B7.out⟩
end Go.Proofs.YtcdmgcgjonndpaaGreat

/-  -/
namespace Go.Proofs.YtcdmgcgjonndpaaGreat
open Go.RowKit
open Go.Sort
open M
theorem row_imps {w : World} {lo c : Nat} {A : Option Addr} {xs : List Im} (hown : w.ownsRow lo 73 4 (.slice A xs.length c) xs.length (xs.map imL).flatten)
    (hz : ∀ x ∈ xs, x.pkg.size ≤ 9223372036854775807 ∧ x.mod.size ≤ 9223372036854775807 ∧ x.asn.size ≤ 9223372036854775807) : Row imR lo xs A c w :=
  ⟨xs.map imL, by simp, hown, fun i l x hl hx => by
    rw [List.getElem?_map, hx] at hl
    simp at hl
    exact ⟨hl.symm, hz x (List.mem_of_getElem? hx)⟩⟩
theorem imps_flat (xs : List Im) : (xs.map imL).flatten.length = xs.length * 4 := by
  induction xs with
  | nil => rfl
  | cons x xs ih => simp only [List.map_cons, List.flatten_cons, List.length_append, ih, List.length_cons]; simp [imL]; omega
structure Cq1 (w : World) (m : Mo) (Ai : Option Addr) (ci : Nat) (Ad : Option Addr) (nd cd : Nat) (wr : World) : Prop where
  below : Below w.heap.size w wr
  box : Mx w.heap.size m.name Ai m.imps.length ci Ad nd cd wr
  res : Mx (w.heap.size + 1) ⟨#[]⟩ none 0 0 none 0 0 wr
  row : Row imR (w.heap.size + 2) m.imps Ai ci wr
structure Cq (w : World) (l2 : Nat) (m : Mo) (Ai : Option Addr) (ci : Nat) (xs : List De) (Ad : Option Addr) (cd : Nat) (wr : World) : Prop where
  below : Below w.heap.size w wr
  box : Mx w.heap.size m.name Ai m.imps.length ci Ad xs.length cd wr
  res : Mx (w.heap.size + 1) ⟨#[]⟩ none 0 0 none 0 0 wr
  ims : RowIn imR (strike (fun b => b < w.heap.size + 2 ∨ l2 ≤ b) wr) Ai m.imps
  rows : Row deR l2 xs Ad cd wr
  lole : l2 ≤ wr.heap.size
theorem Cq1.made {w w4 : World} {m : Mo} {A0 Ai Ad : Option Addr} {n0 c0 ci nd cd : Nat} (hb : Below w.heap.size w w4) (hbox : Mx w.heap.size m.name A0 n0 c0 Ad nd cd w4) (hres : Mx (w.heap.size + 1) ⟨#[]⟩ none 0 0 none 0 0 w4) (hrow : Row imR (w.heap.size + 2) m.imps Ai ci w4) :
    Cq1 w m Ai ci Ad nd cd (w4.setCell ⟨w.heap.size, 1, none⟩ (.slice Ai m.imps.length ci)) := by
  have ot : ∀ b, b ≠ w.heap.size → (w4.setCell ⟨w.heap.size, 1, none⟩ (.slice Ai m.imps.length ci)).heap[b]? = w4.heap[b]? := fun b h => Below.heap_setCell _ _ _ _ (by show b ≠ w.heap.size; exact h)
  refine ⟨hb.setCell (Nat.le_refl _) _, ?_, (ot _ (by omega)).trans hres, hrow.keep (by simp) (fun b h _ => ot b (by omega))⟩
  have := Joins.block_setCell (i := 1) hbox (.slice Ai m.imps.length ci)
  simpa [Mx] using this
theorem Cq1.empty (w : World) (m : Mo) (Ad : Option Addr) (nd cd : Nat) (h0 : m.imps = []) :
    Cq1 w m (some ⟨w.heap.size + 1 + 1, 0, none⟩) 0 Ad nd cd (((w.alloc (.cells #[.string m.name, .slice (some ⟨w.heap.size + 1 + 1, 0, none⟩) 0 0, .slice Ad nd cd] 33)).alloc (.cells #[.string ⟨#[]⟩, .slice none 0 0, .slice none 0 0] 33)).alloc (.cells #[] 73)) := by
  have e1 : (w.alloc (.cells #[.string m.name, .slice (some ⟨w.heap.size + 1 + 1, 0, none⟩) 0 0, .slice Ad nd cd] 33)).heap.size = w.heap.size + 1 := by simp
  have e2 : ((w.alloc (.cells #[.string m.name, .slice (some ⟨w.heap.size + 1 + 1, 0, none⟩) 0 0, .slice Ad nd cd] 33)).alloc (.cells #[.string ⟨#[]⟩, .slice none 0 0, .slice none 0 0] 33)).heap.size = w.heap.size + 1 + 1 := by simp
  have hl : m.imps.length = 0 := by rw [h0]; rfl
  refine ⟨below_new (below_new (below_new (Below.refl _ _) _) _) _, ?_, ?_, row_imps ?_ (by rw [h0]; intro x hx; cases hx)⟩
  · unfold Mx
    rw [hl, Lib.alloc_old _ _ _ (by rw [e2]; omega), Lib.alloc_old _ _ _ (by rw [e1]; omega)]; exact heap_alloc_new w _
  · unfold Mx
    rw [Lib.alloc_old _ _ _ (by rw [e2]; omega)]
    have := heap_alloc_new (w.alloc (.cells #[.string m.name, .slice (some ⟨w.heap.size + 1 + 1, 0, none⟩) 0 0, .slice Ad nd cd] 33)) (.cells #[.string ⟨#[]⟩, .slice none 0 0, .slice none 0 0] 33)
    rw [e1] at this
    exact this
  · have := World.ownsRow_lit (base := w.heap.size + 2) (e := 73) (size := 4) ((w.alloc (.cells #[.string m.name, .slice (some ⟨w.heap.size + 1 + 1, 0, none⟩) 0 0, .slice Ad nd cd] 33)).alloc (.cells #[.string ⟨#[]⟩, .slice none 0 0, .slice none 0 0] 33)) #[] 0 (by rw [e2]; omega) (by decide) rfl
    rw [e2] at this
    rw [h0]
    exact this
theorem Cq1.start {w wr : World} {m : Mo} {Ai Ad : Option Addr} {ci nd cd : Nat} (h : Cq1 w m Ai ci Ad nd cd wr) : Cq w wr.heap.size m Ai ci [] none 0 (wr.setCell ⟨w.heap.size, 2, none⟩ (.slice none 0 0)) := by
  have ot : ∀ b, b ≠ w.heap.size → (wr.setCell ⟨w.heap.size, 2, none⟩ (.slice none 0 0)).heap[b]? = wr.heap[b]? := fun b h => Below.heap_setCell _ _ _ _ (by show b ≠ w.heap.size; exact h)
  refine ⟨h.below.setCell (Nat.le_refl _) _, ?_, (ot _ (by omega)).trans h.res, (h.row.done (Nat.le_refl _)).move (by simp) (fun b hb hS => ⟨by omega, ot b (by omega)⟩), Row.start _ _ _, by simp⟩
  have := Joins.block_setCell (i := 2) h.box (.slice none 0 0)
  simpa [Mx] using this
theorem Cq1.start' {w wr : World} {m : Mo} {Ai Ad : Option Addr} {ci nd cd : Nat} (h : Cq1 w m Ai ci Ad nd cd wr) : ∃ l2, w.heap.size + 2 ≤ l2 ∧ Hid (Cq w l2 m Ai ci [] none 0 (wr.setCell ⟨w.heap.size, 2, none⟩ (.slice none 0 0))) :=
  ⟨_, (Array.getElem?_eq_some_iff.1 h.res).1, Lib.hid h.start⟩
theorem own_slice {w : World} {base : Nat} {e : TypeId} {z : Nat} {v : Value} {n : Nat} {xs : List Value} (h : w.ownsRow base e z v n xs) : ∃ A c, v = .slice A n c := by
  rcases h.2 with ⟨rfl, h0⟩ | ⟨g, cap, cur, rfl, -⟩
  · exact ⟨none, 0, by rw [h0]⟩
  · exact ⟨_, _, rfl⟩
theorem below_cells7 {w a : World} {n : Nat} (h : Below n w a) {l : List Value} (hl : l.length = 7) {g : Nat} (hg : n ≤ g) : Below n w (a.setCells g 2 l) := by
  obtain ⟨v0, v1, v2, v3, v4, v5, v6, rfl⟩ := list7 l hl
  rw [setCells7]
  exact ((((((h.setCell hg _).setCell hg _).setCell hg _).setCell hg _).setCell hg _).setCell hg _).setCell hg _
theorem Cq.keep {w wo wa : World} {l2 : Nat} {m : Mo} {Ai : Option Addr} {ci : Nat} {xs : List De} {Ad : Option Addr} {cd : Nat} (h : Cq w l2 m Ai ci xs Ad cd wo) (hb : Below wo.heap.size wo wa) : Cq w l2 m Ai ci xs Ad cd wa := by
  have h0 := (Array.getElem?_eq_some_iff.1 h.box).1
  have h1 := (Array.getElem?_eq_some_iff.1 h.res).1
  exact ⟨below_over h.below hb, (hb.block _ h0).trans h.box, (hb.block _ h1).trans h.res, h.ims.move hb.size (fun b hlt hS => ⟨hS, hb.block b hlt⟩), h.rows.keep hb.size (fun b _ hlt => hb.block b hlt), Nat.le_trans h.lole hb.size⟩
end Go.Proofs.YtcdmgcgjonndpaaGreat

/-  -/
namespace Go.Proofs.YtcdmgcgjonndpaaGreat
open Go.RowKit
open Go.Sort Go.Maps
open M
theorem OwnN.mono {w : World} {lo lo' : Nat} {v : Value} {l : List Nat} (h : OwnN w lo v l) (hl : lo' ≤ lo) : OwnN w lo' v l := by
 refine ⟨h.1, ?_⟩
 rcases h.2 with h | ⟨g, cap, cur, hv, hB, rest⟩
 ·exact .inl h
 ·exact .inr ⟨g, cap, cur, hv, Nat.le_trans hl hB, rest⟩
theorem OwnN.keep {w w' : World} {lo : Nat} {v : Value} {l : List Nat} (h : OwnN w lo v l) (hb : ∀ b, lo ≤ b → b < w.heap.size → w'.heap[b]? = w.heap[b]?) : OwnN w' lo v l := own_from h hb
theorem natCells_len (l : List Nat) : (natCells l).length = l.length := by simp [natCells]
theorem int_info : (Tryz.prog.info? 3).map (fun i => (i.zero, i.size, i.bytes)) = some (some (.int .i64 0), 1, 8) := by kernel_rfl
theorem OwnN.read {w : World} {lo g c n : Nat} {o : Nat} {sp : Option Nat} {l : List Nat} (h : OwnN w lo (.slice (some ⟨g, o, none⟩) n c) l) : o = 0 ∧ n = l.length ∧ lo ≤ g ∧ g < w.heap.size ∧ ∀ j u, (natCells l)[j]? = some u → w.cell? ⟨g, j, none⟩ = some u := by
 rcases h.2 with ⟨e, -⟩ | ⟨g', cap, cur, hv, hB, hg, hnc, hcm, hcs, htake⟩
 ·cases e
 ·cases hv
  refine ⟨rfl, rfl, hB, (Array.getElem?_eq_some_iff.1 hg).1, fun j u hj => ?_⟩
  have hj' := (List.getElem?_eq_some_iff.1 hj).1
  rw [natCells_len] at hj'
  rw [Lib.cell_of_heap hg, ← Array.getElem?_toList]
  have e : (cur.toList.take (l.length * 1))[j]? = some u := by rw [htake, hj]
  rw [List.getElem?_take] at e
  split at e
  ·exact e
  ·cases e
set_option maxRecDepth 100000 in
set_option maxHeartbeats 8000000 in
theorem said_any (m : Mo) (b0 b1 : Nat) (A : Option Addr) (n c : Nat) (N : Nat) : ∀ (t : Ty), many t ≤ N → many t ≤ 9000 → ∀ (v : Value) (w : World), NmS w b0 b1 m → TyV w v t →
  Calls Tryz.prog 76 #[.agg #[.map (some b0), .map (some b1), .slice A n c], v] w fun e w' => ∃ v' : Value, e = .returned (.tuple #[v', .bool (wholeT m t)]) ∧ OwnN w' w.heap.size v' (saidT m t) ∧ Below w.heap.size w w' := by
 induction N with
 | zero => intro t h; have := many_pos t; omega
 | succ N ih =>
 intro t hN hM v w hm hv
 have HV := Lib.hid hv
 obtain ⟨l, rfl, hT⟩ := hv
 obtain ⟨An, cn, As, cs, rfl, -, -, -, -, hz, -, hS⟩ := hT.parts
 obtain ⟨W2, hW2⟩ : ∃ W2, W2 = (w.alloc (.cells #[.map (some b0), .map (some b1), .slice A n c] 81)).alloc (.cells #[.int .i64 t.kind, .string t.pkg, .int .i64 t.major, .string t.mod, .string t.name, .slice An t.names.length cn, .slice As t.subs.length cs] 45) := ⟨_, rfl⟩
 have hB : Below w.heap.size w W2 := by rw [hW2]; exact below_new (below_new (Below.refl _ _) _) _
 have hs1 : (w.alloc (.cells #[.map (some b0), .map (some b1), .slice A n c] 81)).heap.size = w.heap.size + 1 := by simp
 have X1 : W2.heap[w.heap.size]? = some (.cells #[.map (some b0), .map (some b1), .slice A n c] 81 (0, 0)) := by
  rw [hW2, Lib.alloc_old _ _ _ (by rw [hs1]; omega)]; exact heap_alloc_new w _
 have X2 : W2.heap[w.heap.size + 1]? = some (.cells #[.int .i64 t.kind, .string t.pkg, .int .i64 t.major, .string t.mod, .string t.name, .slice An t.names.length cn, .slice As t.subs.length cs] 45 (0, 0)) := by
  rw [hW2, ← hs1]; exact heap_alloc_new _ _
 have hlo : w.heap.size + 1 < W2.heap.size := (Array.getElem?_eq_some_iff.1 X2).1
 have HM := Lib.hid (hm.below hB)
 have HV2 := Lib.hid (HV.out.below hB)
 have HB := Lib.hid hB
 have HW2 := Lib.hid hW2
 have HX1 := Lib.hid X1
 have HX2 := Lib.hid X2
 have HS := Lib.hid (hS.below hB)
 clear hT hS hB hW2 hs1 hm HV
 by_cases hk : t.kind = 8
 ·have LC := Lib.hid (local_said m t b0 b1 A n c _ W2 hk HM.out HV2.out)
  have q8 : (t.kind == 8) = true := by rw [hk]; rfl
  have x0 := Lib.cell_of_heap X1 0
  have x1 := Lib.cell_of_heap X1 1
  have x2 := Lib.cell_of_heap X1 2
  have y0 := Lib.cell_of_heap X2 0
  have y1 := Lib.cell_of_heap X2 1
  have y2 := Lib.cell_of_heap X2 2
  have y3 := Lib.cell_of_heap X2 3
  have y4 := Lib.cell_of_heap X2 4
  have y5 := Lib.cell_of_heap X2 5
  have y6 := Lib.cell_of_heap X2 6
  simp at x0 x1 x2 y0 y1 y2 y3 y4 y5 y6
  clear hk X1 X2
  go_enter Tryz.func76, Tryz.ntmps76
  go_upto_region 1 with fail
  rw [← HW2.out]
  go_wp2_with fail
  refine LC.out.mono ?_; rintro e w3 ⟨v', rfl, ho, hb3⟩
  have FIN := Lib.hid (ho.mono (show w.heap.size ≤ W2.heap.size by omega))
  have FB := Lib.hid (below_over HB.out hb3)
  clear ho hb3
  go_wp2_with fail
  go_ret2
  exact ⟨v', rfl, FIN.out, FB.out⟩
 ·have q8 : (t.kind == 8) = false := by simpa using hk
  have RS : Hid (saidT m t = saidL m t.subs) := Lib.hid (saidT_sub m t hk)
  have RW : Hid (wholeT m t = wholeL m t.subs) := Lib.hid (wholeT_sub m t hk)
  have HMN : Hid (∀ s ∈ t.subs, many s ≤ N ∧ many s ≤ 9000) := Lib.hid (fun s hs => by have h1 := manyL_mem _ _ hs; have h2 := manyL_eq t; omega)
  have hml : t.subs.length ≤ 9000 := by have := manyL_len t.subs; have := manyL_eq t; omega
  have HLN : Hid (∀ k, (saidL m (t.subs.take k)).length ≤ 9000) := Lib.hid (fun k => by
   have h1 := said_len m (many t) t (Nat.le_refl _)
   rw [RS.out] at h1
   have h2 : saidL m t.subs = saidL m (t.subs.take k) ++ saidL m (t.subs.drop k) := by rw [← saidL_append, List.take_append_drop]
   have h3 := congrArg List.length h2
   rw [List.length_append] at h3
   omega)
  obtain ⟨q, hq⟩ : ∃ q, q = t.subs.length := ⟨_, rfl⟩
  have HQ := Lib.hid hq
  rw [RS.out, RW.out]
  have y0 := Lib.cell_of_heap X2 0
  have y6 := Lib.cell_of_heap X2 6
  simp at y0 y6
  rw [← hq] at y6 hml
  obtain ⟨i0, hi, hz0, hz1, hz2⟩ := info_parts int_info
  clear hk X1 X2 hN hM hz hq HX2 HV2
  go_enter Tryz.func76, Tryz.ntmps76
  go_upto_region 1 with fail
  rw [← HW2.out]
  go_wp2_with fail
  clear y0 y6 HW2
  go_loopw [6, 7, 23] (fun s6 s7 iv wr => ∃ (k : Nat) (v6 : Value), v6 = s6 ∧ k ≤ q ∧ iv = .int .i64 k ∧ Hid (OwnN wr W2.heap.size v6 (saidL m (t.subs.take k))) ∧ s7 = .bool (wholeL m (t.subs.take k)) ∧ Hid (Below W2.heap.size W2 wr)) (fun _ _ iv _ => q - (intOf iv).toNat)
  case atStart => exact ⟨0, _, rfl, by omega, rfl, Lib.hid (own_nilN _ _), by simp [wholeL], Lib.hid (Below.refl _ _)⟩
  case round =>
   obtain ⟨k, v6, rfl, hkq, rfl, HO, rfl, HBo⟩ := hrel
   obtain ⟨wo, rfl⟩ : ∃ wo : World, wo = wr := ⟨_, rfl⟩
   by_cases hlt : k < q
   ·obtain ⟨s, hs⟩ : ∃ s, t.subs[k]? = some s := ⟨_, List.getElem?_eq_getElem (by rw [← HQ.out]; exact hlt)⟩
    obtain ⟨g, o, v0, v1, v2, v3, v4, v5, v6, rfl, hg, h0, h1, h2, h3, h4, h5, h6, hs7⟩ := HS.out.below HBo.out k s hs
    obtain ⟨Am, cm, At, ct, rfl, rfl, rfl, rfl, rfl, rfl, rfl⟩ := hs7.seven
    obtain ⟨w3, hw3⟩ : ∃ w3, w3 = wo.alloc (.cells #[.int .i64 s.kind, .string s.pkg, .int .i64 s.major, .string s.mod, .string s.name, .slice Am s.names.length cm, .slice At s.subs.length ct] 45) := ⟨_, rfl⟩
    have B3 : Below wo.heap.size wo w3 := by rw [hw3]; exact below_new (Below.refl _ _) _
    have X3 : w3.heap[wo.heap.size]? = some (.cells #[.int .i64 s.kind, .string s.pkg, .int .i64 s.major, .string s.mod, .string s.name, .slice Am s.names.length cm, .slice At s.subs.length ct] 45 (0, 0)) := by rw [hw3]; exact heap_alloc_new wo _
    have IH := Lib.hid (ih s (HMN.out s (List.mem_of_getElem? hs)).1 (HMN.out s (List.mem_of_getElem? hs)).2 (.agg #[.int .i64 s.kind, .string s.pkg, .int .i64 s.major, .string s.mod, .string s.name, .slice Am s.names.length cm, .slice At s.subs.length ct]) w3 (HM.out.below (below_over HBo.out B3)) (TyV.below ⟨_, rfl, hs7⟩ B3))
    have hs3 : w3.heap.size = wo.heap.size + 1 := by rw [hw3]; simp
    have hWo := HBo.out.size
    have O3 := HO.out.keep (w' := w3) (fun b _ h => B3.block b h)
    have N3 := (below_over HBo.out B3).block w.heap.size (by omega) |>.trans HX1.out
    have HO3 := Lib.hid O3
    have HB3 := Lib.hid (below_over HBo.out B3)
    have HX3 := Lib.hid X3
    have HN3 := Lib.hid N3
    have HW3 := Lib.hid hw3
    have HSS := Lib.hid hs
    clear hs7 hs B3 hw3 O3
    go_upto_region 8 with fail
    rw [← HW3.out]
    clear h0 h1 h2 h3 h4 h5 h6
    have x0 := Lib.cell_of_heap N3 0
    have x1 := Lib.cell_of_heap N3 1
    have x2 := Lib.cell_of_heap N3 2
    have y0 := Lib.cell_of_heap X3 0
    have y1 := Lib.cell_of_heap X3 1
    have y2 := Lib.cell_of_heap X3 2
    have y3 := Lib.cell_of_heap X3 3
    have y4 := Lib.cell_of_heap X3 4
    have y5 := Lib.cell_of_heap X3 5
    have y6 := Lib.cell_of_heap X3 6
    simp at x0 x1 x2 y0 y1 y2 y3 y4 y5 y6
    clear N3 X3
    go_wp2_with fail
    refine IH.out.mono ?_; rintro e w4 ⟨v', rfl, ho4, hb4⟩
    have hs4 := hb4.size
    have O4 := HO3.out.keep (w' := w4) (fun b _ h => hb4.block b h)
    have B4 : Below W2.heap.size W2 w4 := below_over HB3.out hb4
    have hlen := HLN.out (k + 1)
    rw [saidL_take m _ _ _ HSS.out, List.length_append] at hlen
    obtain ⟨L, hL⟩ : ∃ L, L = saidL m (t.subs.take k) := ⟨_, rfl⟩
    obtain ⟨P, hP⟩ : ∃ P, P = saidT m s := ⟨_, rfl⟩
    obtain ⟨b, hb⟩ : ∃ b, b = wholeT m s := ⟨_, rfl⟩
    obtain ⟨a, ha⟩ : ∃ a, a = wholeL m (t.subs.take k) := ⟨_, rfl⟩
    rw [← hL] at O4 hlen
    rw [← hP] at ho4 hlen
    rw [← ha, ← hb]
    have RL : Hid (saidL m (t.subs.take (k + 1)) = L ++ P) := Lib.hid (by rw [saidL_take m _ _ _ HSS.out, hL, hP])
    have RB : Hid (wholeL m (t.subs.take (k + 1)) = (a && b)) := Lib.hid (by rw [wholeL_take m _ _ _ HSS.out, ha, hb])
    clear x0 x1 x2 y0 y1 y2 y3 y4 y5 y6 IH HO3 HO hL hP ha hb hb4 HN3 HX3 HW3 HB3 HSS
    go_upto_region 9 with fail
    go_cut [6] (fun s6 wx => OwnN wx W2.heap.size s6 (L ++ P) ∧ Below W2.heap.size W2 wx)
    case first =>
     obtain ⟨Ap, cp, rfl⟩ := own_slice ho4
     cases Ap with
     | none =>
      have hP0 : P = [] := by
       rcases ho4.2 with ⟨e, h0⟩ | ⟨g, cap, cur, e, -⟩
       ·exact List.length_eq_zero_iff.1 h0
       ·cases e
      subst hP0
      have FIN : OwnN w4 W2.heap.size v6 (L ++ []) := by rw [List.append_nil]; exact O4
      go_wp2_with (at_builtin; refine wpList_append_empty rfl _ _ 88 rfl W2.heap.size 3 i0 1 Tryz.underlying88 hi v6 L.length cp (natCells L) rfl O4 rfl ?_)
      go_meet
      exact ⟨FIN, B4⟩
     | some ad =>
      have ho5 := ho4
      rcases ho4.2 with ⟨e, -⟩ | ⟨g, cap, cur, e, -⟩
      ·cases e
      cases e
      obtain ⟨-, -, -, -, hrd⟩ := ho5.read (sp := none)
      have hnews : ∀ j u, (natCells P)[j]? = some u → w4.cell? ((⟨g, 0, none⟩ : Addr).add j) = some u := fun j u hj => by
       rw [WideShapes.add_plain, Nat.zero_add]; exact hrd j u hj
      have hone : ∀ u ∈ natCells P, u.oneCell' = true := fun u hu => by
       obtain ⟨x, -, rfl⟩ := List.mem_map.1 hu
       rfl
      have hlow : ∀ b, v6.ownBlock = some b → W2.heap.size ≤ b := fun b e => (O4.lt b e).1
      go_wp2_with (at_builtin; go_loud (refine wpList_append_own_at _ rfl _ _ 88 rfl W2.heap.size 3 i0 _ 1 8 Tryz.underlying88 hi hz0 hz1 hz2 rfl (by decide) v6 L.length (natCells L) rfl O4 ⟨g, 0, none⟩ P.length cp (natCells P) rfl ?c0 hnews hone ?c3 ?c4 ?c5 ?_))
      case c0 => rw [natCells_len]; omega
      case c3 => unfold maxLen; omega
      case c4 => omega
      case c5 => exact B4.size
      intro v5 w5 hown hgrow _ hat
      have FIN : OwnN w5 W2.heap.size v5 (L ++ P) := by
       unfold OwnN natCells
       rw [List.map_append, List.length_append]
       exact hown
      have FB : Below W2.heap.size W2 w5 := B4.trans ⟨hgrow.os, hgrow.tape, hgrow.output, hgrow.size, fun b hb => hgrow.block b (by have := B4.size; omega) (fun e => by have := hlow b e.symm; omega)⟩
      clear hown hgrow hat
      go_wp2_with fail
      go_meet
      exact ⟨FIN, FB⟩
    case rest =>
     obtain ⟨O5, B5⟩ := hcut
     have HO5 := Lib.hid O5
     have HB5 := Lib.hid B5
     clear O5 B5 ho4 O4 B4
     cases a with
     | false =>
      go_wp2_with fail
      go_roundw
      case rel => exact ⟨k + 1, _, rfl, by omega, by go_num, Lib.hid (by rw [RL.out]; exact HO5.out), by rw [RB.out]; rfl, HB5⟩
      case measure => simp [intOf]; omega
     | true =>
      go_wp2_with fail
      go_roundw
      case rel => exact ⟨k + 1, _, rfl, by omega, by go_num, Lib.hid (by rw [RL.out]; exact HO5.out), by rw [RB.out]; cases b <;> rfl, HB5⟩
      case measure => simp [intOf]; omega
   ·obtain rfl : k = q := by omega
    have hfull : t.subs.take k = t.subs := List.take_of_length_le (by rw [← HQ.out]; exact Nat.le_refl _)
    have FIN := Lib.hid (HO.out.mono (show w.heap.size ≤ W2.heap.size by omega))
    have FB := Lib.hid (HB.out.trans (HBo.out.mono HB.out.size))
    rw [hfull] at FIN ⊢
    clear HO HBo
    go_wp2_with fail
    go_ret2
    exact ⟨_, rfl, FIN.out, FB.out⟩
end Go.Proofs.YtcdmgcgjonndpaaGreat

/-  -/
namespace Go.Proofs.YtcdmgcgjonndpaaGreat
open Go.RowKit
open Go.Sort Go.Maps
open M
def NatsAt (w : World) (A : Option Addr) (l : List Nat) : Prop :=
 ∀ (i x : Nat), l[i]? = some x → ∃ g o : Nat, A = some ⟨g, o, none⟩ ∧ g < w.heap.size ∧ w.cell? ⟨g, o + i, none⟩ = some (.int .i64 x)
theorem NatsAt.move {S S' : Nat → Prop} {w w' : World} {A : Option Addr} {l : List Nat} (h : NatsAt (strike S w) A l) (hz : w.heap.size ≤ w'.heap.size) (hb : ∀ b, b < w.heap.size → ¬ S b → ¬ S' b ∧ w'.heap[b]? = w.heap[b]?) : NatsAt (strike S' w') A l := fun i x hx => by
 obtain ⟨g, o, hA, hg, hc⟩ := h i x hx
 obtain ⟨h1, h2⟩ := strike_cell.1 hc
 obtain ⟨h3, h4⟩ := hb g (World.block_lt_of_cell? _ _ h2) h1
 exact ⟨g, o, hA, by rw [strike_size] at hg ⊢; omega, strike_cell.2 ⟨h3, by rw [World.cell?_of_block (w := w) (a := ⟨g, _, none⟩) h4]; exact h2⟩⟩
theorem NatsAt.free {S : Nat → Prop} {w : World} {A : Option Addr} {l : List Nat} (h : NatsAt (strike S w) A l) : NatsAt w A l := fun i x hx => by
 obtain ⟨g, o, hA, hg, hc⟩ := h i x hx
 exact ⟨g, o, hA, by rwa [strike_size] at hg, (strike_cell.1 hc).2⟩
theorem NatsAt.below {w w' : World} {A : Option Addr} {l : List Nat} (h : NatsAt w A l) (hb : Below w.heap.size w w') : NatsAt w' A l := fun i x hx => by
 obtain ⟨g, o, hA, hg, hc⟩ := h i x hx
 exact ⟨g, o, hA, Nat.lt_of_lt_of_le hg hb.size, (hb.cell (p := ⟨g, _, none⟩) hg).trans hc⟩
def enE (w : World) (l : List Value) (x : En) : Prop := ∃ (As : Option Addr) (cs : Nat), l = [.int .i64 x.at_, .int .i64 x.kind, .slice As x.said.length cs, .bool x.whole] ∧ NatsAt w As x.said ∧ x.said.length ≤ 1000000
def enR : Reads En := ⟨4, 90, enE, fun _ _ _ _ _ _ ⟨A, c, e, h, z⟩ hz hb => ⟨A, c, e, h.move hz hb, z⟩, fun _ _ _ _ ⟨A, c, e, h, z⟩ hb => ⟨A, c, e, h.below hb, z⟩, fun _ _ _ _ ⟨A, c, e, h, z⟩ => ⟨A, c, e, h.free, z⟩, fun _ l x ⟨A, c, e, _⟩ => by rw [e]; rfl⟩
def FoundAt (w : World) (fb n : Nat) (F : Nat → Bool) : Prop := w.heap[fb]? = some (.cells ((List.range n).map fun i => Value.bool (F i)).toArray 4 (0, 0))
theorem FoundAt.cell {w : World} {fb n : Nat} {F : Nat → Bool} (h : FoundAt w fb n F) {i : Nat} (hi : i < n) : w.cell? ⟨fb, i, none⟩ = some (.bool (F i)) := by
 rw [Lib.cell_of_heap h]; simp [hi]
theorem FoundAt.lt {w : World} {fb n : Nat} {F : Nat → Bool} (h : FoundAt w fb n F) : fb < w.heap.size := (Array.getElem?_eq_some_iff.1 h).1
theorem FoundAt.put {w : World} {fb n : Nat} {F : Nat → Bool} (h : FoundAt w fb n F) {i : Nat} (hi : i < n) : FoundAt (w.setCell ⟨fb, i, none⟩ (.bool true)) fb n (fun j => if j = i then true else F j) := by
 have := Joins.block_setCell (i := i) h (.bool true)
 unfold FoundAt
 rw [this]
 congr 2
 apply Array.ext'
 simp only [List.setIfInBounds_toArray]
 apply List.ext_getElem
 ·simp
 ·intro k h1 h2
  simp only [List.getElem_set, List.getElem_map, List.getElem_range]
  by_cases e : i = k
  ·subst e; simp
  ·rw [if_neg e, if_neg (fun x => e x.symm)]
def unf (n : Nat) (F : Nat → Bool) : Nat := ((List.range n).filter fun i => !F i).length
theorem filter_le (F F' : Nat → Bool) (h : ∀ i, F i = true → F' i = true) : ∀ l : List Nat, (l.filter fun j => !F' j).length ≤ (l.filter fun j => !F j).length
 | [] => Nat.le_refl _
 | a :: l => by
  have ih := filter_le F F' h l
  cases hF : F a with
  | true => simp [hF, h a hF]; exact ih
  | false =>
   cases hF' : F' a with
   | true => simp [hF, hF']; omega
   | false => simp [hF, hF']; exact ih
theorem filter_lt (F F' : Nat → Bool) (h : ∀ i, F i = true → F' i = true) {i : Nat} (hF : F i = false) (hF' : F' i = true) : ∀ l : List Nat, i ∈ l → (l.filter fun j => !F' j).length < (l.filter fun j => !F j).length
 | [], hm => by cases hm
 | a :: l, hm => by
  have le := filter_le F F' h l
  by_cases e : i = a
  ·subst e
   simp [hF, hF']; omega
  ·have ih := filter_lt F F' h hF hF' l ((List.mem_cons.1 hm).resolve_left e)
   cases hA : F a with
   | true => simp [hA, h a hA]; exact ih
   | false =>
    cases hA' : F' a with
    | true => simp [hA, hA']; omega
    | false => simp [hA, hA']; exact ih
theorem unf_put {n : Nat} {F : Nat → Bool} {i : Nat} (hi : i < n) (hF : F i = false) : unf n (fun j => if j = i then true else F j) < unf n F :=
 filter_lt F (fun j => if j = i then true else F j) (fun j hj => by show (if j = i then true else F j) = true; split; rfl; exact hj) hF (by simp) (List.range n) (List.mem_range.2 hi)
theorem unf_le {n : Nat} {F F' : Nat → Bool} (h : ∀ i, F i = true → F' i = true) : unf n F' ≤ unf n F := filter_le F F' h _
theorem grown_of {w w' : World} {r : Option Nat} (h : Below w.heap.size w w') : w.grownBy w' r := ⟨h.os, h.tape, h.output, h.size, fun b hb _ => h.block b hb⟩
def Valid (E : List En) : Prop := ∀ x ∈ E, ∀ j ∈ x.said, j < E.length
theorem grown_over {a b c : World} {r : Nat} (h : a.grownBy b (some r)) (h' : b.grownBy c (some r)) : a.grownBy c (some r) := h.trans h'
set_option maxRecDepth 100000 in
set_option maxHeartbeats 8000000 in
theorem mark_any (E : List En) (hE : Valid E) (hE2 : E.length ≤ 1000000) (Ae : Option Addr) (ce b0 b1 cf : Nat) (U : Nat) : ∀ (F : Nat → Bool) (fb : Nat) (l : List Nat) (As : Option Addr) (cs : Nat) (w : World), unf E.length F < U →
  RowIn enR (strike (fun b => fb ≤ b) w) Ae E → NatsAt (strike (fun b => fb ≤ b) w) As l → (∀ i ∈ l, i < E.length) → l.length ≤ 1000000 → FoundAt w fb E.length F →
  Calls Tryz.prog 115 #[.agg #[.map (some b0), .map (some b1), .slice Ae E.length ce], .slice As l.length cs, .slice (some ⟨fb, 0, none⟩) E.length cf] w fun e w' => e = .returned (.tuple #[]) ∧ ∃ F', FoundAt w' fb E.length F' ∧ Found E F l F' ∧ w.grownBy w' (some fb) := by
 induction U with
 | zero => intro F fb l As cs w h; omega
 | succ U ih =>
 intro F fb l As cs w hU hR hl hv hll hF
 obtain ⟨wb, hwb⟩ : ∃ wb, wb = w.alloc (.cells #[.map (some b0), .map (some b1), .slice Ae E.length ce] 81) := ⟨_, rfl⟩
 have B0 : Below w.heap.size w wb := by rw [hwb]; exact below_new (Below.refl _ _) _
 have X0 : wb.heap[w.heap.size]? = some (.cells #[.map (some b0), .map (some b1), .slice Ae E.length ce] 81 (0, 0)) := by rw [hwb]; exact heap_alloc_new w _
 have hfb := hF.lt
 have HR := Lib.hid hR
 have HL := Lib.hid hl
 have HVL := Lib.hid hv
 have HFb : Hid (FoundAt wb fb E.length F) := Lib.hid ((B0.block fb hfb).trans hF)
 have HG0 : Hid (w.grownBy wb (some fb)) := Lib.hid (grown_of B0)
 have HX0 := Lib.hid X0
 have hbs : w.heap.size < wb.heap.size := by rw [hwb]; simp
 have HWB := Lib.hid hwb
 have HEE := Lib.hid hE
 obtain ⟨n, hn⟩ : ∃ n, n = E.length := ⟨_, rfl⟩
 have HN := Lib.hid hn
 obtain ⟨q, hq⟩ : ∃ q, q = l.length := ⟨_, rfl⟩
 have HQ := Lib.hid hq
 rw [← hn] at hE2 ⊢
 rw [← hn] at HX0 HFb HWB
 rw [← hq] at hll ⊢
 clear hR hl hv hF B0 X0 hwb hE hn hq
 go_enter Tryz.func115, Tryz.ntmps115
 go_upto_region 1 with fail
 rw [← HWB.out]
 go_wp2_with fail
 go_loopw [10] (fun iv wr => ∃ (k : Nat) (F1 : Nat → Bool), k ≤ q ∧ iv = .int .i64 k ∧ Hid (FoundAt wr fb n F1) ∧ Hid (Found E F (l.take k) F1) ∧ Hid (wb.grownBy wr (some fb))) (fun iv _ => q - (intOf iv).toNat)
 case atStart => exact ⟨0, F, by omega, rfl, HFb, Lib.hid (by simpa using Found.nil E F), Lib.hid (grown_of (Below.refl _ _))⟩
 case round =>
  obtain ⟨k, F1, hk, rfl, HF1, HFD, HG⟩ := hrel
  obtain ⟨wo, rfl⟩ : ∃ wo : World, wo = wr := ⟨_, rfl⟩
  by_cases hlt : k < q
  ·obtain ⟨x, hx⟩ : ∃ x, l[k]? = some x := ⟨_, List.getElem?_eq_getElem (by rw [← HQ.out]; exact hlt)⟩
   have hxn : x < n := by rw [HN.out]; exact HVL.out x (List.mem_of_getElem? hx)
   have hGw : w.grownBy wo (some fb) := grown_over HG0.out HG.out
   have mv : ∀ (wx : World), w.grownBy wx (some fb) → NatsAt (strike (fun b => fb ≤ b) wx) As l ∧ RowIn enR (strike (fun b => fb ≤ b) wx) Ae E := fun wx hg =>
    ⟨HL.out.move hg.size fun b hb hS => ⟨hS, hg.block b hb (by simp; omega)⟩, HR.out.move hg.size fun b hb hS => ⟨hS, hg.block b hb (by simp; omega)⟩⟩
   obtain ⟨g, o, rfl, hg, hc⟩ := (mv wo hGw).1.free k x hx
   have hfc := HF1.out.cell hxn
   have hff := Lib.frozen_of_heap HF1.out x
   have hxi : (0 : Int) ≤ x := by omega
   have hxi2 : (x : Int) < n := by omega
   have htk : l.take (k + 1) = l.take k ++ [x] := by rw [List.take_add_one, hx]; rfl
   have HTK := Lib.hid htk
   clear htk
   cases hFx : F1 x with
   | true =>
    rw [hFx] at hfc
    have FD2 : Hid (Found E F (l.take (k + 1)) F1) := Lib.hid (by rw [HTK.out]; exact HFD.out.skip hFx)
    clear hFx hx mv hGw
    go_wp2_with fail
    go_roundw
    case rel => exact ⟨k + 1, F1, by omega, by go_num, HF1, FD2, HG⟩
    case measure => simp [intOf]; omega
   | false =>
    rw [hFx] at hfc
    obtain ⟨w5, hw5⟩ : ∃ w5, w5 = wo.setCell ⟨fb, x, none⟩ (.bool true) := ⟨_, rfl⟩
    have hg5 : wo.grownBy w5 (some fb) := by
     rw [hw5]
     exact ⟨rfl, rfl, rfl, by simp, fun b _ hne => Below.heap_setCell _ _ _ _ (by show b ≠ fb; exact fun e => hne (by rw [e]))⟩
    have hF5 : FoundAt w5 fb n (fun j => if j = x then true else F1 j) := by rw [hw5]; exact HF1.out.put hxn
    have hgd : w5.grownBy w5.drew (some fb) := grown_of (Below.drew (Below.refl _ _))
    have hg5d : w.grownBy w5.drew (some fb) := grown_over (grown_over hGw hg5) hgd
    have hgb : wb.grownBy w5.drew (some fb) := grown_over (grown_over HG.out hg5) hgd
    have hy : E[x]? = some E[x] := List.getElem?_eq_getElem (by rw [← HN.out]; exact hxn)
    obtain ⟨y, hyy⟩ : ∃ y, y = E[x] := ⟨_, rfl⟩
    rw [← hyy] at hy
    obtain ⟨g2, o2, lv, rfl, hg2, hc2, As2, cs2, rfl, hNs, hlen2⟩ := (mv w5.drew hg5d).2 x y hy
    have hb0 := hgb.block w.heap.size hbs (by simp; omega) |>.trans HX0.out
    have e2 := (strike_cell.1 (hc2 2 _ rfl)).2
    have e2' : w5.drew.cell? ⟨g2, o2 + x * 4 + 2, none⟩ = some (.slice As2 y.said.length cs2) := e2
    have hH0 : w5.drew.cell? ⟨w.heap.size, 0, none⟩ = some (.map (some b0)) ∧ w5.drew.cell? ⟨w.heap.size, 1, none⟩ = some (.map (some b1)) ∧ w5.drew.cell? ⟨w.heap.size, 2, none⟩ = some (.slice (some ⟨g2, o2, none⟩) n ce) ∧ w5.drew.cell? ⟨g2, o2 + x * 4 + 2, none⟩ = some (.slice As2 y.said.length cs2) :=
     ⟨Lib.cell_of_heap hb0 0, Lib.cell_of_heap hb0 1, Lib.cell_of_heap hb0 2, e2'⟩
    have hlt2 : unf E.length (fun j => if j = x then true else F1 j) < U := by
     rw [← HN.out]
     have h1 := unf_put hxn hFx
     have h2 := unf_le (n := n) (HFD.out.old)
     rw [← HN.out] at hU
     omega
    have IH := Lib.hid (ih (fun j => if j = x then true else F1 j) fb y.said As2 cs2 w5.drew hlt2 (mv w5.drew hg5d).2 hNs (HEE.out y (List.mem_of_getElem? hy)) hlen2 (by rw [← HN.out]; exact hF5))
    rw [← HN.out] at IH
    have HHG := Lib.hid hgb
    have HY := Lib.hid hy
    have HW5 := Lib.hid hw5
    clear hw5 hg5 hF5 hgd hg5d hgb hy hyy hc2 hNs hb0 e2 e2' hlt2 hFx hx mv hGw
    go_upto_region 6 with fail
    rw [← HW5.out]
    clear hfc hff hc
    refine AnyX.start (fun wx => wx.cell? ⟨w.heap.size, 0, none⟩ = some (.map (some b0)) ∧ wx.cell? ⟨w.heap.size, 1, none⟩ = some (.map (some b1)) ∧ wx.cell? ⟨w.heap.size, 2, none⟩ = some (.slice (some ⟨g2, o2, none⟩) n ce) ∧ wx.cell? ⟨g2, o2 + x * 4 + 2, none⟩ = some (.slice As2 y.said.length cs2)) (fun k => k == 8) (by kernel_rfl) ?_
    refine AnyX.take (i := 0) (v := ?_) rfl (by kernel_rfl) (by kernel_rfl) (by kernel_rfl) (by kernel_rfl) (by kernel_rfl) (fun _ _ _ h => h) hH0 (Or.inl ⟨by rfl, ?_⟩) ?_
    rotate_left
    ·(intro wS hS; (try obtain ⟨c0, c1, c2, c3⟩ := hS); go_simp; try with_reducible rfl)
    simp only [List.getElem_toArray, List.getElem_cons_succ, List.getElem_cons_zero]
    simp only [Act.put, List.setIfInBounds_toArray]
    simp only [List.set_cons_zero, List.set_cons_succ]
    refine AnyX.move (i := 1) (v := ?_) rfl (by kernel_rfl) (by kernel_rfl) (by kernel_rfl) (by kernel_rfl) (fun _ _ _ h => h) (Or.inl ⟨by rfl, ?_⟩) ?_
    rotate_left
    ·(intro wS _; go_simp; try with_reducible rfl)
    simp only [List.getElem_toArray, List.getElem_cons_succ, List.getElem_cons_zero]
    simp only [Act.put, List.setIfInBounds_toArray]
    simp only [List.set_cons_zero, List.set_cons_succ]
    refine AnyX.take (i := 2) (v := ?_) rfl (by kernel_rfl) (by kernel_rfl) (by kernel_rfl) (by kernel_rfl) (by kernel_rfl) (fun _ _ _ h => h) hH0 (Or.inl ⟨by rfl, ?_⟩) ?_
    rotate_left
    ·(intro wS hS; (try obtain ⟨c0, c1, c2, c3⟩ := hS); go_simp; try with_reducible rfl)
    simp only [List.getElem_toArray, List.getElem_cons_succ, List.getElem_cons_zero]
    simp only [Act.put, List.setIfInBounds_toArray]
    simp only [List.set_cons_zero, List.set_cons_succ]
    refine AnyX.move (i := 3) (v := ?_) rfl (by kernel_rfl) (by kernel_rfl) (by kernel_rfl) (by kernel_rfl) (fun _ _ _ h => h) (Or.inl ⟨by rfl, ?_⟩) ?_
    rotate_left
    ·(intro wS _; go_simp; try with_reducible rfl)
    simp only [List.getElem_toArray, List.getElem_cons_succ, List.getElem_cons_zero]
    simp only [Act.put, List.setIfInBounds_toArray]
    simp only [List.set_cons_zero, List.set_cons_succ]
    refine AnyX.move (i := 4) (v := ?_) rfl (by kernel_rfl) (by kernel_rfl) (by kernel_rfl) (by kernel_rfl) (fun _ _ _ h => h) (Or.inl ⟨by rfl, ?_⟩) ?_
    rotate_left
    ·(intro wS _; go_simp; try with_reducible rfl)
    simp only [List.getElem_toArray, List.getElem_cons_succ, List.getElem_cons_zero]
    simp only [Act.put, List.setIfInBounds_toArray]
    simp only [List.set_cons_zero, List.set_cons_succ]
    refine AnyX.move (i := 5) (v := ?_) rfl (by kernel_rfl) (by kernel_rfl) (by kernel_rfl) (by kernel_rfl) (fun _ _ _ h => h) (Or.inl ⟨by rfl, ?_⟩) ?_
    rotate_left
    ·(intro wS _; go_simp; try with_reducible rfl)
    simp only [List.getElem_toArray, List.getElem_cons_succ, List.getElem_cons_zero]
    simp only [Act.put, List.setIfInBounds_toArray]
    simp only [List.set_cons_zero, List.set_cons_succ]
    refine AnyX.take (i := 6) (v := ?_) rfl (by kernel_rfl) (by kernel_rfl) (by kernel_rfl) (by kernel_rfl) (by kernel_rfl) (fun _ _ _ h => h) hH0 (Or.inl ⟨by rfl, ?_⟩) ?_
    rotate_left
    ·(intro wS hS; (try obtain ⟨c0, c1, c2, c3⟩ := hS); go_simp; try with_reducible rfl)
    simp only [List.getElem_toArray, List.getElem_cons_succ, List.getElem_cons_zero]
    simp only [Act.put, List.setIfInBounds_toArray]
    simp only [List.set_cons_zero, List.set_cons_succ]
    refine AnyX.move (i := 7) (v := ?_) rfl (by kernel_rfl) (by kernel_rfl) (by kernel_rfl) (by kernel_rfl) (fun _ _ _ h => h) (Or.inl ⟨by rfl, ?_⟩) ?_
    rotate_left
    ·(intro wS _; go_simp; try with_reducible rfl)
    simp only [List.getElem_toArray, List.getElem_cons_succ, List.getElem_cons_zero]
    simp only [Act.put, List.setIfInBounds_toArray]
    simp only [List.set_cons_zero, List.set_cons_succ]
    refine AnyX.go 8 (by kernel_rfl) rfl rfl (fun K hK => ?_)
    simp only [List.getElem_toArray, List.getElem_cons_succ, List.getElem_cons_zero]
    go_simp
    refine IH.out.mono ?_
    rintro e w6 ⟨rfl, F3, hF3, hFD3, hg3⟩
    have FD3 : Hid (Found E F (l.take (k + 1)) F3) := Lib.hid (by rw [HTK.out]; exact HFD.out.more HY.out hFD3)
    have HF3 := Lib.hid hF3
    have HG3 := Lib.hid (grown_over HHG.out hg3)
    clear hF3 hFD3 hg3
    refine hK.out _ _ (fun hoff _ => absurd hoff (by decide)) ?_
    clear hK
    try simp only [Act.put, List.setIfInBounds_toArray]
    try simp only [List.set_cons_zero, List.set_cons_succ]
    refine AnyX.done (by kernel_rfl) ?_ _
    go_wp2_with fail
    go_roundw
    case rel => exact ⟨k + 1, F3, by omega, by go_num, HF3, FD3, HG3⟩
    case measure => simp [intOf]; omega
  ·obtain rfl : k = q := by omega
   have hfull : l.take k = l := List.take_of_length_le (by rw [← HQ.out]; exact Nat.le_refl _)
   have FIN : Hid (Found E F l F1) := Lib.hid (by have := HFD.out; rwa [hfull] at this)
   go_wp2_with fail
   go_end0
   exact ⟨rfl, F1, HF1.out, FIN.out, grown_over HG0.out HG.out⟩
end Go.Proofs.YtcdmgcgjonndpaaGreat
