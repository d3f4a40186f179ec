/-
  The walk of package lex's Tokens: the tokens of any text that isn't too long, or where nothing stands.
-/
import Derived.Test.YthlpiiakpneiiaaDoorLxB
import Derived.Below
import Derived.Laws.OwnMore
import Derived.OwnWalk
import Derived.Deep.Draws
import Derived.Laws.AppendOwn
namespace Go.Proofs.YthlpiiakpneiiaaDoor
open Go.RowKit
open M

/-- A token's three cells, and those of a list of tokens. -/
def tokCells (t : Tok) : List Value := [.int .i64 (t.kind : Int), .int .i64 (t.place : Int), .string t.text]
def rowCells (ts : List Tok) : List Value := ts.flatMap tokCells
theorem rowCells_snoc (ts : List Tok) (t : Tok) : rowCells (ts ++ [t]) = rowCells ts ++ tokCells t := by
  unfold rowCells; simp
theorem rowCells_length (ts : List Tok) : (rowCells ts).length = ts.length * 3 := by
  unfold rowCells
  induction ts with
  | nil => rfl
  | cons t r ih => simp only [List.flatMap_cons, List.length_append, ih, List.length_cons]; simp [tokCells]; omega

theorem own_below {w w' : World} {base : Nat} {e : TypeId} {size : Nat} {v : Value} {n : Nat} {xs : List Value} (h : w.ownsRow base e size v n xs) (hb : Below w.heap.size w w') : w'.ownsRow base e size v n xs := by
  refine ⟨h.1, ?_⟩
  rcases h.2 with hn | ⟨g, cap, cur, rfl, hbase, hgg, rest⟩
  · exact .inl hn
  · refine .inr ⟨g, cap, cur, rfl, hbase, ?_, rest⟩
    rw [hb.block g (Array.getElem?_eq_some_iff.1 hgg).1]
    exact hgg

/-- What Tokens comes to: the tokens in a row of the call's own, or a Spot of the call's own. -/
def TokPost (s : ByteArray) (w : World) (e : Ending) (w' : World) : Prop :=
  Below w.heap.size w w' ∧
    ((∃ (v : Value) (ts : List Tok), fin s 0 [] = (ts, -1) ∧ e = .returned (.tuple #[v, .nilIface]) ∧ w'.ownsRow w.heap.size 35 3 v ts.length (rowCells ts) ∧ ts.length ≤ s.size) ∨
     (∃ k b : Nat, fin s 0 [] = ([], (k : Int)) ∧ e = .returned (.tuple #[.slice none 0 0, .iface 41 (.pointer (some ⟨b, 0, none⟩))]) ∧ w.heap.size ≤ b ∧ b < w'.heap.size ∧
        w'.cell? ⟨b, 0, none⟩ = some (.int .i64 k) ∧ w'.cell? ⟨b, 1, none⟩ = some (.iface 28 (.int .i64 2))))

theorem infoTok : (Tryd.prog.info? 35).map (fun i => (i.zero, i.size, i.bytes)) = some (some (.agg #[.int .i64 0, .int .i64 0, .string ⟨#[]⟩]), 3, 32) := by kernel_rfl

set_option maxHeartbeats 400000 in
theorem clone_any (s : ByteArray) (w : World) (hs : s.size ≤ 281474976710656) : Calls Tryd.prog 13 #[.string s] w fun e w' => e = .returned (.string s) ∧ Below w.heap.size w w' := by
  go_enter Tryd.func13, Tryd.ntmps13
  go_wp2_with fail
  refine (Tryd.stringslite_Clone _ _ hs).mono ?_; rintro e w1 ⟨rfl, hb1⟩
  go_wp2
  go_ret
  exact ⟨rfl, hb1⟩
theorem pass0 (s : ByteArray) (w : World) (hs : s.size ≤ 9223372036854775806) : Calls Tryd.prog 11 #[.string s, .int .i64 0] w (PassPost s 0 w) := pass_any s 0 w hs (by omega)
theorem pass_at (s : ByteArray) (x : Int) (i : Nat) (w : World) (hs : s.size ≤ 9223372036854775806) (hi : i ≤ s.size) (hx : x = i) : Calls Tryd.prog 11 #[.string s, .int .i64 x] w (PassPost s i w) := by
  subst hx; exact pass_any s i w hs hi

/-- What 'first' tells at a place, where a token stands: its kind and its size. -/
theorem first_tok (l : List UInt8) (k : Nat) (hk : k < l.length) (h5 : (item l k).1 ≠ 5) : ∃ z : Nat, firstK (l.drop k) = (item l k).1 ∧ firstN (l.drop k) = z ∧ 0 < z ∧ k + z ≤ l.length ∧ item l k = ((item l k).1, k + z) := by
  have e := item_drop l k
  have g := item_gt l k h5
  have q := item_le l k hk
  have e1 : (item l k).1 = (item (l.drop k) 0).1 := by rw [e]
  have e2 : (item l k).2 = k + (item (l.drop k) 0).2 := by rw [e]
  refine ⟨(item (l.drop k) 0).2, ?_, ?_, by omega, by omega, ?_⟩
  · unfold firstK; rw [← e1, if_neg h5]
  · unfold firstN; rw [← e1, if_neg h5]
  · rw [← e2]
theorem first_none (l : List UInt8) (k : Nat) (h5 : (item l k).1 = 5) : firstN (l.drop k) = 0 := by
  have e := item_drop l k
  have e1 : (item l k).1 = (item (l.drop k) 0).1 := by rw [e]
  unfold firstN; rw [← e1, if_pos h5]

theorem item_drop_kind (l : List UInt8) (k : Nat) (h : (item l k).1 ≠ 0) : (item (l.drop k) 0).1 ≠ 0 := by
  have e := item_drop l k
  rw [e] at h; exact h

set_option maxHeartbeats 4000000 in
theorem tokens_any (s : ByteArray) (w : World) (hs : s.size ≤ 20000) : Calls Tryd.prog 6 #[.string s] w (TokPost s w) := by
  obtain ⟨i0, hi, hz0, hz1, hz2⟩ := info_parts infoTok
  have hs1 : s.size ≤ 9223372036854775806 := by omega
  have hn : ¬ (20000 : Int) < s.size := by omega
  have LS := Lib.hid (len_size s)
  go_enter Tryd.func6, Tryd.ntmps6
  go_wp2_with fail
  refine (pass0 s _ hs1).mono ?_; rintro e w' ⟨k0, rfl, rfl, -, hk0, hP0, hS0⟩
  have HP0 := Lib.hid hP0
  have HS0 := Lib.hid hS0
  clear hP0 hS0
  go_wp2
  go_loopw [4, 5] (fun v i wr => ∃ (k : Nat) (acc : List Tok), k ≤ s.size ∧ i = .int .i64 k ∧ Hid (fin s 0 [] = fin s k acc) ∧ Hid (k < s.size → (item s.data.toList k).1 ≠ 0) ∧ acc.length ≤ k ∧ wr.ownsRow w.heap.size 35 3 v acc.length (rowCells acc) ∧ Below w.heap.size w wr) (fun _ i _ => s.size - (intOf i).toNat)
  case atStart => exact ⟨k0, [], hk0, rfl, Lib.hid (HP0.out []), HS0, by simp, World.ownsRow_nil _ _ _ _, Below.refl _ _⟩
  case round =>
    obtain ⟨k, acc, hk, rfl, HF, HS, hacc, hown, hb⟩ := hrel
    obtain ⟨wo, rfl⟩ : ∃ wo : World, wo = wr := ⟨_, rfl⟩
    by_cases hlt : k < s.size
    · have hll : k < s.data.toList.length := by rw [LS.out]; exact hlt
      have TL := Lib.hid (tail_list s k)
      have TZ := Lib.hid (tail_size s k)
      have tz0 : 0 < (s.extract k s.size).size := by rw [TZ.out]; omega
      have tz1 : (s.extract k s.size).size ≤ 9223372036854775806 := by rw [TZ.out]; omega
      have K0 : Hid ((item (s.extract k s.size).data.toList 0).1 ≠ 0) := Lib.hid (by rw [TL.out]; exact item_drop_kind _ _ (HS.out hlt))
      have H0 := Lib.hid tz0
      have H1 := Lib.hid tz1
      have HK := Lib.hid (HS.out hlt)
      clear tz0 tz1 TZ
      by_cases h5 : (item s.data.toList k).1 = 5
      · have N0 : Hid (((firstN (s.data.toList.drop k) : Nat) : Int) = 0) := Lib.hid (by rw [first_none _ _ h5]; rfl)
        have RF : Hid (fin s 0 [] = ([], (k : Int))) := Lib.hid (by
          rw [HF.out]
          exact fin_bad acc hlt (k := (item s.data.toList k).2) (by rw [← h5]))
        clear h5 hll
        go_wp2_with fail
        refine (first_any _ _ H1.out H0.out K0.out).mono ?_; rintro e w' ⟨rfl, rfl⟩
        rw [TL.out, N0.out]
        go_wp2
        go_ret2
        refine ⟨?_, .inr ⟨k, _, RF.out, rfl, hb.size, by simp, by go_simp, by go_simp⟩⟩
        repeat (first | exact hb | with_reducible refine Below.drew ?_ | with_reducible refine below_drewN ?_ _ | with_reducible refine below_new ?_ _)
      · obtain ⟨z, e1, e2, z0, zl, ei⟩ := first_tok _ _ hll h5
        have E1 := Lib.hid e1
        have E2 := Lib.hid e2
        have zl' : k + z ≤ s.size := by have := LS.out; omega
        have hz : ((z : Int) == 0) = false := by simp; omega
        have RF : Hid (fin s 0 [] = fin s (k + z) (acc ++ [⟨(item s.data.toList k).1, k, s.extract k (k + z)⟩])) := Lib.hid (by
          rw [HF.out]
          exact fin_tok acc hlt ei HK.out h5)
        have PZ : Hid ((s.extract k (k + z)).size ≤ 281474976710656) := Lib.hid (by simp; omega)
        generalize hc : (item s.data.toList k).1 = c at E1 RF
        clear e1 e2 ei h5 hll zl hc
        go_wp2_with fail
        refine (first_any _ _ H1.out H0.out K0.out).mono ?_; rintro e w' ⟨rfl, rfl⟩
        rw [TL.out, E1.out, E2.out]
        go_wp2_with fail
        refine (clone_any _ _ (by simpa using PZ.out)).mono ?_; rintro e w2 ⟨rfl, hb2⟩
        have hown2 := own_below hown hb2
        have hbb := below_over hb hb2
        have hp32 : ((acc.length + 1) * 32 ≤ 140737488355328) := by omega
        go_wp2_with (at_builtin; refine wpList_append_own _ rfl _ _ 23 rfl w.heap.size 35 i0 (.agg #[.int .i64 0, .int .i64 0, .string ⟨#[]⟩]) 3 32 Tryd.underlying23 hi hz0 hz1 hz2 rfl (by decide) _ _ _ rfl (hown2.alloc _) ⟨w2.heap.size, 0, none⟩ 1 1 (tokCells ⟨c, k, s.extract k (k + z)⟩) rfl rfl ?c1 ?c2 ?c3 ?c4 ?c5 ?_)
        case c1 =>
          intro j u hj
          match j, hj with
          | 0, hj => simp [tokCells] at hj; subst hj; go_simp
          | 1, hj => simp [tokCells] at hj; subst hj; simp [Addr.add]
          | 2, hj => simp [tokCells] at hj; subst hj; simp [Addr.add]
        case c2 => intro u hu; simp [tokCells] at hu; rcases hu with rfl | rfl | rfl <;> rfl
        case c3 => unfold maxLen; omega
        case c4 => exact hp32
        case c5 => have := hbb.size; simp; omega
        intro v3 w3 hown3 hg3 _
        have hb3 : Below w.heap.size w w3 := (below_new hbb _).grown hg3 (by have := hbb.size; simp; omega) (fun q hq => (hown2.lt q hq).1)
        have hown4 : Hid (w3.ownsRow w.heap.size 35 3 v3 (acc ++ [(⟨c, k, s.extract k (k + z)⟩ : Tok)]).length (rowCells (acc ++ [⟨c, k, s.extract k (k + z)⟩]))) := Lib.hid (by
          rw [rowCells_snoc, List.length_append]; exact hown3)
        clear hown hown2 hown3 hg3 hb hb2 hbb hp32
        go_wp2_with (go_at_call 11; refine (pass_at s _ (k + z) _ hs1 zl' (by simp)).mono ?_; rintro e w' ⟨k2, rfl, rfl, hk2a, hk2b, hP2, hS2⟩; have HP2 := Lib.hid hP2; have HS2 := Lib.hid hS2; clear hP2 hS2)
        go_roundw
        case rel => exact ⟨k2, _, hk2b, rfl, Lib.hid (RF.out.trans (HP2.out _)), HS2, by simp; omega, hown4.out, hb3⟩
        case measure => simp [intOf]; omega
    · have hk' : s.size ≤ k := by omega
      have RF : Hid (fin s 0 [] = (acc, -1)) := Lib.hid (by rw [HF.out]; exact fin_end s k acc hk')
      go_wp2
      go_ret2
      exact ⟨hb, .inl ⟨_, acc, RF.out, rfl, hown, by omega⟩⟩

end Go.Proofs.YthlpiiakpneiiaaDoor
