/-
  Several texts in one:  ·  ·  ·  · 
-/
import Derived.Test.YtcdmgcgjonndpaaK19
import Derived.Test.YtcdmgcgjonndpaaK04
import Derived.Test.YtcdmgcgjonndpaaK01
import Derived.Test.YtcdmgcgjonndpaaK15
import Derived.Test.YtcdmgcgjonndpaaK05
import Derived.Deep.DeepCutAuto
import Derived.Test.YtcdmgcgjonndpaaK16
/-  -/
namespace Go.Proofs.Ytcdmgcgjonndpaa
open Go Go.RowKit Go.Shelf
open Go.Sort
open M
set_option maxHeartbeats 2000000 in
theorem many_big (N : Nat) : ∀ (t : Ty), many t ≤ N → many t ≤ 1000000 → ∀ (v : Value) (w : World), TyV w v t →
  Calls Try.prog 32 #[v] w fun e w' => e = .returned (.int .i64 (many t : Nat)) ∧ Below w.heap.size w w' := by
 induction N with
 | zero => intro t h; have := many_pos t; omega
 | succ N ih =>
  intro t hN hM v w hv
  obtain ⟨l, rfl, hT⟩ := hv
  obtain ⟨An, cn, As, cs, rfl, -, -, -, -, hz, -, hS⟩ := hT.parts
  have HS := Lib.hid hS
  have HE := Lib.hid (manyL_eq t)
  have HL := manyL_len t.subs
  have hM' : manyL t.subs ≤ 1000000 := by have := HE.out; omega
  clear hT hS
  generalize hn : t.subs.length = n at hz HL
  have HN := Lib.hid hn
  clear hn
  go_enter Try.func32, Try.ntmps32
  go_wp2_with fail
  go_loopw [3, 4] (fun m i wr => ∃ k : Nat, k ≤ n ∧ i = .int .i64 k ∧ m = .int .i64 ((1 + manyL (t.subs.take k) : Nat) : Int) ∧ Below (boxed w #[.int .i64 t.kind, .string t.pkg, .int .i64 t.major, .string t.mod, .string t.name, .slice An t.names.length cn, .slice As n cs]).heap.size (boxed w #[.int .i64 t.kind, .string t.pkg, .int .i64 t.major, .string t.mod, .string t.name, .slice An t.names.length cn, .slice As n cs]) wr) (fun _ i _ => n - (intOf i).toNat)
  case atStart => exact ⟨0, by omega, rfl, by simp [manyL], Below.refl _ _⟩
  case round =>
   obtain ⟨k, hk, rfl, rfl, hb⟩ := hrel
   obtain ⟨wo, rfl⟩ : ∃ wo : World, wo = wr := ⟨_, rfl⟩
   have b6 := box_cell hb 6
   simp at b6
   have HB := Lib.hid (box_below hb)
   have htk := manyL_take_le t.subs k
   by_cases hlt : k < n
   ·obtain ⟨s, hs⟩ : ∃ s, t.subs[k]? = some s := ⟨_, List.getElem?_eq_getElem (by rw [HN.out]; exact hlt)⟩
    obtain ⟨g, o, v0, v1, v2, v3, v4, v5, v6, rfl, -, h0, h1, h2, h3, h4, h5, h6, hs7⟩ := HS.out.below HB.out k s hs
    have hsm := sub_many hs
    have T1 := Lib.hid (manyL_take t.subs k s hs)
    have htk1 := manyL_take_le t.subs (k + 1)
    have IH := Lib.hid (ih s (by omega) (by omega) (.agg #[v0, v1, v2, v3, v4, v5, v6]) wo ⟨_, rfl, hs7⟩)
    have hsz : many s ≤ 1000000 := by omega
    clear hs7 hs hsm
    go_wp2_with fail
    refine IH.out.mono ?_; rintro e w2 ⟨rfl, hb2⟩
    have hb3 := below_over hb hb2
    clear b6 h0 h1 h2 h3 h4 h5 h6 hb hb2
    go_wp2_with fail
    go_roundw
    case rel => exact ⟨k + 1, by omega, by go_num, by rw [T1.out]; go_num, hb3⟩
    case measure => simp [intOf]; omega
   ·have hkn : k = n := by omega
    have T0 : Hid (many t = 1 + manyL (t.subs.take k)) := Lib.hid (by rw [HE.out, List.take_of_length_le (by rw [HN.out]; omega)])
    go_wp2_with fail
    go_ret
    exact ⟨ret_int' (by rw [T0.out]), HB.out⟩
set_option maxHeartbeats 1000000 in
theorem may_big (t : Ty) (v : Value) (w : World) (hM : many t ≤ 1000000) (hv : TyV w v t) :
  Calls Try.prog 18 #[v] w fun e w' => e = .returned (.bool (mayT t)) ∧ Below w.heap.size w w' := by
 have HV := Lib.hid hv
 obtain ⟨l, rfl, hT⟩ := hv
 obtain ⟨An, cn, As, cs, rfl, -, -, -, -, -, -, -⟩ := hT.parts
 clear hT
 have hD := deep_many t
 unfold mayT
 go_enter Try.func18, Try.ntmps18
 go_wp2_with fail
 refine (all_any _ t (Nat.le_refl _) _ _ (HV.out.below (below_new (Below.refl _ _) _))).mono ?_; rintro e w1 ⟨rfl, hb1⟩
 have hb1' : Below (boxed w #[.int .i64 t.kind, .string t.pkg, .int .i64 t.major, .string t.mod, .string t.name, .slice An t.names.length cn, .slice As t.subs.length cs]).heap.size (boxed w #[.int .i64 t.kind, .string t.pkg, .int .i64 t.major, .string t.mod, .string t.name, .slice An t.names.length cn, .slice As t.subs.length cs]) w1 := hb1
 clear hb1
 have V1 := Lib.hid (HV.out.below (box_below hb1'))
 have c0 := box_cell hb1' 0; have c1 := box_cell hb1' 1; have c2 := box_cell hb1' 2; have c3 := box_cell hb1' 3; have c4 := box_cell hb1' 4; have c5 := box_cell hb1' 5; have c6 := box_cell hb1' 6
 simp at c0 c1 c2 c3 c4 c5 c6
 rcases hid_or (allOk t) with ha | ha
 ·have R : Hid ((allOk t && decide (many t ≤ 500) && decide (deep t ≤ 32)) = false) := Lib.hid (by rw [ha.out]; rfl)
  rw [ha.out]
  go_wp2_with fail
  go_ret
  exact ⟨ret_bool R.out, box_below hb1'⟩
 ·rw [ha.out]
  have HB1 := Lib.hid (box_below hb1')
  go_wp2_with fail
  refine (many_big _ t (Nat.le_refl _) hM _ _ V1.out).mono ?_; rintro e w2 ⟨rfl, hb2⟩
  have hb3 := below_over hb1' hb2
  clear hb1' hb2 c0 c1 c2 c3 c4 c5 c6
  have V2 := Lib.hid (HV.out.below (box_below hb3))
  have c0 := box_cell hb3 0; have c1 := box_cell hb3 1; have c2 := box_cell hb3 2; have c3 := box_cell hb3 3; have c4 := box_cell hb3 4; have c5 := box_cell hb3 5; have c6 := box_cell hb3 6
  simp at c0 c1 c2 c3 c4 c5 c6
  by_cases h5 : many t ≤ 500
  ·have R : Hid ((allOk t && decide (many t ≤ 500) && decide (deep t ≤ 32)) = decide (deep t ≤ 32)) := Lib.hid (by rw [ha.out, show decide (many t ≤ 500) = true by simpa using h5]; rfl)
   go_wp2_with fail
   refine (deep_any _ t (Nat.le_refl _) (by omega) _ _ V2.out).mono ?_; rintro e w4 ⟨rfl, hb4⟩
   have HB4 := Lib.hid (box_below (below_over hb3 hb4))
   clear c0 c1 c2 c3 c4 c5 c6 hb3 hb4
   by_cases hd : deep t ≤ 32
   ·go_wp2_with fail
    go_ret
    exact ⟨ret_bool (by rw [R.out, Bool.eq_iff_iff]; simp <;> omega), HB4.out⟩
   ·go_wp2_with fail
    go_ret
    exact ⟨ret_bool (by rw [R.out, Bool.eq_iff_iff]; simp <;> omega), HB4.out⟩
  ·have R : Hid ((allOk t && decide (many t ≤ 500) && decide (deep t ≤ 32)) = false) := Lib.hid (by rw [ha.out, show decide (many t ≤ 500) = false by simpa using h5]; rfl)
   have HB3 := Lib.hid (box_below hb3)
   go_wp2_with fail
   go_ret
   first | exact ⟨ret_bool R.out, HB3.out⟩ | exact ⟨rfl, HB3.out⟩
theorem manyL_take_succ {l : List Ty} {i : Nat} {x : Ty} (h : l[i]? = some x) : manyL (l.take (i + 1)) = manyL (l.take i) + many x := by
 rw [take_next h, manyL_append]
 show _ + (many x + manyL []) = _
 have : manyL [] = 0 := rfl
 omega
theorem insP_many (s : ByteArray) (x : Ty) : ∀ (ns : List ByteArray) (xs : List Ty), ns.length = xs.length → manyL (insP s x ns xs).2 = manyL xs + many x
 | [], [], _ => by unfold insP; show many x + manyL [] = manyL [] + many x; omega
 | n :: ns, y :: ys, h => by
  have ih := insP_many s x ns ys (by simpa using h)
  unfold insP
  split
  ·show many x + (many y + manyL ys) = many y + manyL ys + many x; omega
  ·show many y + manyL (insP s x ns ys).2 = many y + manyL ys + many x; omega
 | [], _ :: _, h => by simp at h
 | _ :: _, [], h => by simp at h
theorem many_sub (t : Ty) : many t = 1 + manyL t.subs := by cases t; rfl
theorem bnd_small : ∀ (N : Nat) (up : Bool) (a b : Ty), many a + many b ≤ N → GoodT a → GoodT b → (∃ t, IsBnd up a b t ∧ many t ≤ many a * many b) ∨ NoBnd up a b := by
 intro N
 induction N with
 | zero => intro up a b h; have := many_pos a; omega
 | succ N ih =>
  intro up a b hN ga gb
  by_cases hk : a.kind = b.kind
  ·have hpb := many_pos b
   have IH : ∀ (u : Bool) (x y : Ty), x ∈ a.subs → y ∈ b.subs → (∃ t, IsBnd u x y t ∧ many t ≤ many x * many b) ∨ NoBnd u x y := fun u x y hx hy => by
    have h1 := sub_lt hx
    have h2 := sub_lt hy
    rcases ih u x y (by omega) (ga.sub hx) (gb.sub hy) with ⟨t, h3, h4⟩ | h3
    ·exact .inl ⟨t, h3, Nat.le_trans h4 (Nat.mul_le_mul_left _ (by omega))⟩
    ·exact .inr h3
   by_cases h47 : a.kind = 4 ∨ a.kind = 7
   ·by_cases hl : a.subs.length = b.subs.length
    ·have key : ∀ i, i ≤ a.subs.length → (∃ xs : List Ty, xs.length = i ∧ manyL xs ≤ manyL (a.subs.take i) * many b ∧ ∀ (j : Nat) (x y z : Ty), a.subs[j]? = some x → b.subs[j]? = some y → xs[j]? = some z → IsBnd (if j + 1 = a.subs.length then up else !up) x y z) ∨ NoBnd up a b := by
      intro i
      induction i with
      | zero => intro _; exact .inl ⟨[], rfl, by show (0 : Nat) ≤ _; omega, fun j x y z _ _ h => by simp at h⟩
      | succ i ihi =>
       intro hi
       rcases ihi (by omega) with ⟨xs, h1, h2, h3⟩ | h
       ·obtain ⟨x, hx⟩ := at_some (l := a.subs) (i := i) (by omega)
        obtain ⟨y, hy⟩ := at_some (l := b.subs) (i := i) (by omega)
        rcases IH (if i + 1 = a.subs.length then up else !up) x y (List.mem_of_getElem? hx) (List.mem_of_getElem? hy) with ⟨z, hz, hzm⟩ | hno
        ·refine .inl ⟨xs ++ [z], by simp [h1], ?_, ?_⟩
         ·rw [manyL_append, manyL_take_succ hx, Nat.add_mul]
          show manyL xs + (many z + manyL []) ≤ _
          have : manyL [] = 0 := rfl
          omega
         ·have := bnd_snoc (up := up) (a := a) (b := b) (xs := xs) h3 (by rw [h1]; exact hx) (by rw [h1]; exact hy) (by rw [h1]; exact hz)
          exact fun j x y z h1 h2 h3 => this j x y z h1 h2 h3
        ·exact .inr (no_part h47 hx hy hno)
       ·exact .inr h
     rcases key _ (Nat.le_refl _) with ⟨xs, h1, h2, h3⟩ | h
     ·refine .inl ⟨outT a xs, bnd_parts h47 ga hk rfl ⟨rfl, rfl, rfl, rfl⟩ rfl hl h1.symm (fun j x y z hx hy hz => h3 j x y z hx hy hz), ?_⟩
      rw [List.take_length] at h2
      rw [many_sub (outT a xs), many_sub a, Nat.add_mul]
      show 1 + manyL xs ≤ _
      omega
     ·exact .inr h
    ·exact .inr (no_len h47 hl)
   ·by_cases h56 : a.kind = 5 ∨ a.kind = 6
    ·have hal : ∃ al : Bool, (al = true → wins a.kind up) ∧ (al = false → loses a.kind up) := by
      rcases h56 with e | e
      ·cases up with
       | true => exact ⟨false, fun h => (by cases h), fun _ => .inl ⟨e, rfl⟩⟩
       | false => exact ⟨true, fun _ => .inr ⟨e, rfl⟩, fun h => (by cases h)⟩
      ·cases up with
       | true => exact ⟨true, fun _ => .inl ⟨e, rfl⟩, fun h => (by cases h)⟩
       | false => exact ⟨false, fun h => (by cases h), fun _ => .inr ⟨e, rfl⟩⟩
     obtain ⟨al, hw, hlo⟩ := hal
     have hla := (ga.row h56).2.1
     have h56b : b.kind = 5 ∨ b.kind = 6 := by rw [← hk]; exact h56
     have hlb := (gb.row h56b).2.1
     have keyA : ∀ i, i ≤ a.names.length → (∃ t, RbI up al a b i t ∧ manyL t.subs ≤ manyL (a.subs.take i) * many b) ∨ NoBnd up a b := by
      intro i
      induction i with
      | zero => intro _; exact .inl ⟨_, RbI.start up al a b, by show (0 : Nat) ≤ _; omega⟩
      | succ i ihi =>
       intro hi
       rcases ihi (by omega) with ⟨t, h1, h2⟩ | h
       ·obtain ⟨s, hs⟩ := at_some (l := a.names) (i := i) (by omega)
        obtain ⟨x, hx⟩ := at_some (l := a.subs) (i := i) (by omega)
        have hax : AtN a s x := ⟨i, hs, hx⟩
        have hst := manyL_take_succ hx
        have grow : ∀ z, many z ≤ many x * many b → manyL (putT t s z).subs ≤ manyL (a.subs.take (i + 1)) * many b := fun z hz => by
         show manyL (insP s z t.names t.subs).2 ≤ _
         rw [insP_many _ _ _ _ h1.gro.len, hst, Nat.add_mul]
         omega
        have stay : manyL t.subs ≤ manyL (a.subs.take (i + 1)) * many b := by rw [hst, Nat.add_mul]; omega
        by_cases hb : ∃ y, AtN b s y
        ·obtain ⟨y, hy⟩ := hb
         rcases IH up x y hax.sub hy.sub with ⟨z, hz, hzm⟩ | hno
         ·exact .inl ⟨putT t s z, h1.put ga hs (.inl ⟨x, y, hax, hy, hz⟩), grow z hzm⟩
         ·cases al with
          | true => exact .inr (no_union (hw rfl) hk hax hy hno)
          | false => exact .inl ⟨t, h1.skip hs rfl (fun x' y' hx' hy' => by rw [ga.one hx' hax, gb.one hy' hy]; exact hno), stay⟩
        ·cases al with
         | true => exact .inl ⟨putT t s x, h1.put ga hs (.inr ⟨rfl, hax, fun y hy => hb ⟨y, hy⟩⟩), grow x (Nat.le_mul_of_pos_right _ hpb)⟩
         | false => exact .inl ⟨t, h1.skip hs rfl (fun x' y' _ hy' => absurd ⟨y', hy'⟩ hb), stay⟩
       ·exact .inr h
     rcases keyA _ (Nat.le_refl _) with ⟨t, h1, h2⟩ | h
     ·rw [← hla, List.take_length] at h2
      have keyB : ∀ j, j ≤ b.names.length → ∃ t, RbJ up al a b j t ∧ manyL t.subs ≤ manyL a.subs * many b + manyL (b.subs.take j) := by
       intro j
       induction j with
       | zero => intro _; exact ⟨t, h1.next, by omega⟩
       | succ j ihj =>
        intro hj
        obtain ⟨t, h3, h4⟩ := ihj (by omega)
        obtain ⟨s, hs⟩ := at_some (l := b.names) (i := j) (by omega)
        obtain ⟨y, hy⟩ := at_some (l := b.subs) (i := j) (by omega)
        have hst := manyL_take_succ hy
        by_cases hx : al = true ∧ ∀ x, ¬ AtN a s x
        ·refine ⟨putT t s y, h3.put gb hs hy hx.1 hx.2, ?_⟩
         show manyL (insP s y t.names t.subs).2 ≤ _
         rw [insP_many _ _ _ _ h3.gro.len, hst]
         omega
        ·exact ⟨t, h3.skip hs (fun e => Classical.byContradiction fun hn => hx ⟨e, fun x hx' => hn ⟨x, hx'⟩⟩), by rw [hst]; omega⟩
      obtain ⟨t, h3, h4⟩ := keyB _ (Nat.le_refl _)
      have he := h3.end_ ga gb h56 hk hw hlo
      rw [← hlb, List.take_length] at h4
      have hsz : many t ≤ many a * many b := by
       rw [many_sub t, many_sub a, Nat.add_mul]
       have := many_sub b
       omega
      by_cases hn : a.kind = 5 ∨ t.names ≠ []
      ·exact .inl ⟨t, he.1 hn, hsz⟩
      ·exact .inr (he.2 hn)
     ·exact .inr h
    ·have h4 : a.kind ≠ 4 := fun e => h47 (.inl e)
     have h7 : a.kind ≠ 7 := fun e => h47 (.inr e)
     have h5 : a.kind ≠ 5 := fun e => h56 (.inl e)
     have h6 : a.kind ≠ 6 := fun e => h56 (.inr e)
     by_cases e : a = b
     ·exact .inl ⟨a, bnd_leaf h4 h5 h6 h7 ga e, Nat.le_mul_of_pos_right _ hpb⟩
     ·exact .inr (no_leaf h4 h5 h6 h7 e)
  ·exact .inr (no_kind hk)
theorem bnd_size {up : Bool} {a b t : Ty} (ga : GoodT a) (gb : GoodT b) (h : IsBnd up a b t) : many t ≤ many a * many b := by
 rcases bnd_small _ up a b (Nat.le_refl _) ga gb with ⟨u, h1, h2⟩ | h1
 ·rw [h.one h1]; exact h2
 ·exact (h.not h1).elim
theorem rbound_any (w0 : World) (N : Nat) : ∀ (up : Bool) (a b : Ty), many a + many b ≤ N → many a ≤ 9000 → many b ≤ 9000 → GoodT a → GoodT b → RbCall w0 up a b := by
 induction N with
 | zero => intro up a b h; have := many_pos a; omega
 | succ N ih =>
  intro up a b hN h9a h9b ga gb la lb w hTa hTb hw0
  have IH : ∀ x y, x ∈ a.subs → y ∈ b.subs → ∀ up', RbCall w0 up' x y := fun x y hx hy up' => by
   have h1 := sub_lt hx
   have h2 := sub_lt hy
   exact ih up' x y (by omega) (by omega) (by omega) (ga.sub hx) (gb.sub hy)
  by_cases hk : a.kind = b.kind
  ·by_cases h4 : a.kind = 4
   ·exact rbound_parts4 up w0 a b la lb w ga gb hk h4 h9a hTa hTb hw0 IH
   ·by_cases h7 : a.kind = 7
    ·exact rbound_parts7 up w0 a b la lb w ga gb hk h7 h9a hTa hTb hw0 IH
    ·by_cases h5 : a.kind = 5
     ·exact rbound_row5 up w0 a b la lb w ga gb hk h5 h9a h9b hTa hTb hw0 IH
     ·by_cases h6 : a.kind = 6
      ·exact rbound_row6 up w0 a b la lb w ga gb hk h6 h9a h9b hTa hTb hw0 IH
      ·exact rbound_leaf up w0 a b la lb w ga gb hk h4 h5 h6 h7 hTa hTb hw0
  ·exact rbound_kind up w0 a b la lb w hk hTa hTb
end Go.Proofs.Ytcdmgcgjonndpaa

/-  -/
namespace Go.Proofs.Ytcdmgcgjonndpaa
open Go Go.RowKit Go.Shelf
open Go.Sort
open M
def lfT (k : Int) : Ty := .mk k ⟨#[]⟩ 0 ⟨#[]⟩ ⟨#[]⟩ [] []
def upA9 : Ty := .mk 5 ⟨#[]⟩ 0 ⟨#[]⟩ ⟨#[]⟩ [⟨#[97]⟩, ⟨#[98]⟩] [lfT 1, lfT 2]
def upB9 : Ty := .mk 5 ⟨#[]⟩ 0 ⟨#[]⟩ ⟨#[]⟩ [⟨#[97]⟩] [lfT 1]
theorem lf_at (w : World) (k : Int) : TyAt w [.int .i64 k, .string ⟨#[]⟩, .int .i64 0, .string ⟨#[]⟩, .string ⟨#[]⟩, .slice none 0 0, .slice none 0 0] (lfT k) := ty_made (t := lfT k) (by show (0 : Nat) ≤ _; decide) (by show (0 : Nat) ≤ _; decide) (by show (0 : Nat) ≤ _; decide) (by show (0 : Nat) ≤ _; decide) (by show (0 : Nat) ≤ _; decide) (by show (0 : Nat) ≤ _; decide) (fun i s h => by simp [lfT, Ty.names] at h) (fun i s h => by simp [lfT, Ty.subs] at h)
theorem upA9_ok : okT upA9 = true := by decide +kernel
theorem upB9_ok : okT upB9 = true := by decide +kernel
theorem upB9_may : mayT upB9 = true := by decide +kernel
theorem zTy_not : okT zTy = false := by decide +kernel
theorem up9_le : SubR upA9 upB9 := (le_loses (up := true) (a := upA9) (b := upB9) (.inl ⟨rfl, rfl⟩)).2 ⟨rfl, fun s y hy => by
  obtain ⟨i, h1, h2⟩ := hy
  have hi : i = 0 := by have := (List.getElem?_eq_some_iff.1 h1).1; simp [upB9, Ty.names] at this; exact this
  subst hi
  exact ⟨y, ⟨0, h1, h2⟩, le_refl true y⟩⟩
theorem up9_not : ¬ SubR upB9 upA9 := fun h => by
  obtain ⟨x, hx, -⟩ := ((le_loses (up := true) (a := upB9) (b := upA9) (.inl ⟨rfl, rfl⟩)).1 h).2 ⟨#[98]⟩ (lfT 2) ⟨1, rfl, rfl⟩
  have := hx.name
  simp [upB9, Ty.names] at this
theorem up9_bnd : IsBnd true upA9 upB9 upB9 := bnd_le (okT_good upB9_ok) up9_le
theorem subP_ok {a b : Ty} : subP a b = (okT a && okT b && subB a b) := rfl
theorem two_names {w : World} {g : Nat} {x y : ByteArray} {T : TypeId} (h : w.heap[g]? = some (.cells #[.string x, .string y] T (0, 0))) (hx : x.size ≤ 9223372036854775807) (hy : y.size ≤ 9223372036854775807) : NamesAt w (some ⟨g, 0, none⟩) [x, y] := fun i s hs => by
  have hg := (Array.getElem?_eq_some_iff.1 h).1
  match i, hs with
  | 0, hs => simp at hs; subst hs; exact ⟨g, 0, rfl, hg, Lib.cell_of_heap h 0, hx⟩
  | 1, hs => simp at hs; subst hs; exact ⟨g, 0, rfl, hg, Lib.cell_of_heap h 1, hy⟩
  | (i + 2), hs => simp at hs
theorem one_name {w : World} {g : Nat} {x : ByteArray} {T : TypeId} (h : w.heap[g]? = some (.cells #[.string x] T (0, 0))) (hx : x.size ≤ 9223372036854775807) : NamesAt w (some ⟨g, 0, none⟩) [x] := fun i s hs => by
  have hg := (Array.getElem?_eq_some_iff.1 h).1
  match i, hs with
  | 0, hs => simp at hs; subst hs; exact ⟨g, 0, rfl, hg, Lib.cell_of_heap h 0, hx⟩
  | (i + 1), hs => simp at hs
theorem row_flat {α : Type} {R : Reads α} {w : World} {g : Nat} {xs : List α} {C : List (List Value)} {T : TypeId} (h : w.heap[g]? = some (.cells C.flatten.toArray T (0, 0))) (hl : ∀ l ∈ C, l.length = R.k) (hC : C.length = xs.length) (hE : ∀ (i : Nat) (l : List Value) (x : α), C[i]? = some l → xs[i]? = some x → R.E w l x) : RowIn R w (some ⟨g, 0, none⟩) xs := fun i x hx => by
  have hi := (List.getElem?_eq_some_iff.1 hx).1
  have hl' : C[i]? = some (C[i]'(by omega)) := List.getElem?_eq_getElem (by omega)
  refine ⟨g, 0, _, rfl, (Array.getElem?_eq_some_iff.1 h).1, fun j v hv => ?_, hE i _ x hl' hx⟩
  have hj := (List.getElem?_eq_some_iff.1 hv).1
  rw [hl _ (List.getElem_mem (by omega))] at hj
  rw [Lib.cell_of_heap h, List.getElem?_toArray, show 0 + i * R.k + j = i * R.k + j by omega, flatk_at C hl i j _ hl' hj]
  exact hv
set_option maxRecDepth 100000 in
set_option maxHeartbeats 16000000 in
theorem up9_any (w : World) : Calls Try.prog 8 #[] w fun e w' => e = .returned (.bool true) ∧ Below w.heap.size w w' := by
  obtain ⟨w1, hw1⟩ : ∃ w1, w1 = w.alloc (.cells #[.string ⟨#[97]⟩, .string ⟨#[98]⟩] 9) := ⟨_, rfl⟩
  obtain ⟨w2, hw2⟩ : ∃ w2, w2 = w1.alloc (.cells #[.int .i64 1, .string ⟨#[]⟩, .int .i64 0, .string ⟨#[]⟩, .string ⟨#[]⟩, .slice none 0 0, .slice none 0 0, .int .i64 2, .string ⟨#[]⟩, .int .i64 0, .string ⟨#[]⟩, .string ⟨#[]⟩, .slice none 0 0, .slice none 0 0] 25) := ⟨_, rfl⟩
  obtain ⟨w3, hw3⟩ : ∃ w3, w3 = w2.alloc (.cells #[.int .i64 5, .string ⟨#[]⟩, .int .i64 0, .string ⟨#[]⟩, .string ⟨#[]⟩, .slice (some ⟨w.heap.size, 0, none⟩) 2 2, .slice (some ⟨w.heap.size + 1, 0, none⟩) 2 2] 25) := ⟨_, rfl⟩
  obtain ⟨w4, hw4⟩ : ∃ w4, w4 = w3.alloc (.cells #[.string ⟨#[97]⟩] 9) := ⟨_, rfl⟩
  obtain ⟨w5, hw5⟩ : ∃ w5, w5 = w4.alloc (.cells #[.int .i64 1, .string ⟨#[]⟩, .int .i64 0, .string ⟨#[]⟩, .string ⟨#[]⟩, .slice none 0 0, .slice none 0 0] 25) := ⟨_, rfl⟩
  obtain ⟨w6, hw6⟩ : ∃ w6, w6 = w5.alloc (.cells #[.int .i64 5, .string ⟨#[]⟩, .int .i64 0, .string ⟨#[]⟩, .string ⟨#[]⟩, .slice (some ⟨w.heap.size + 1 + 1 + 1, 0, none⟩) 1 1, .slice (some ⟨w.heap.size + 1 + 1 + 1 + 1, 0, none⟩) 1 1] 25) := ⟨_, rfl⟩
  have s1 : w1.heap.size = w.heap.size + 1 := by rw [hw1]; simp
  have B1 : Below w.heap.size w w1 := by rw [hw1]; exact below_new (Below.refl _ _) _
  have X1 : w1.heap[w.heap.size]? = some (.cells #[.string ⟨#[97]⟩, .string ⟨#[98]⟩] 9 (0, 0)) := by rw [hw1]; exact heap_alloc_new w _
  have s2 : w2.heap.size = w.heap.size + 1 + 1 := by rw [hw2]; simp [s1]
  have B2 : Below w1.heap.size w1 w2 := by rw [hw2]; exact below_new (Below.refl _ _) _
  have X2 : w2.heap[w.heap.size + 1]? = some (.cells #[.int .i64 1, .string ⟨#[]⟩, .int .i64 0, .string ⟨#[]⟩, .string ⟨#[]⟩, .slice none 0 0, .slice none 0 0, .int .i64 2, .string ⟨#[]⟩, .int .i64 0, .string ⟨#[]⟩, .string ⟨#[]⟩, .slice none 0 0, .slice none 0 0] 25 (0, 0)) := by rw [hw2, ← s1]; exact heap_alloc_new w1 _
  have s3 : w3.heap.size = w.heap.size + 1 + 1 + 1 := by rw [hw3]; simp [s2]
  have B3 : Below w2.heap.size w2 w3 := by rw [hw3]; exact below_new (Below.refl _ _) _
  have X3 : w3.heap[w.heap.size + 1 + 1]? = some (.cells #[.int .i64 5, .string ⟨#[]⟩, .int .i64 0, .string ⟨#[]⟩, .string ⟨#[]⟩, .slice (some ⟨w.heap.size, 0, none⟩) 2 2, .slice (some ⟨w.heap.size + 1, 0, none⟩) 2 2] 25 (0, 0)) := by rw [hw3, ← s2]; exact heap_alloc_new w2 _
  have s4 : w4.heap.size = w.heap.size + 1 + 1 + 1 + 1 := by rw [hw4]; simp [s3]
  have B4 : Below w3.heap.size w3 w4 := by rw [hw4]; exact below_new (Below.refl _ _) _
  have X4 : w4.heap[w.heap.size + 1 + 1 + 1]? = some (.cells #[.string ⟨#[97]⟩] 9 (0, 0)) := by rw [hw4, ← s3]; exact heap_alloc_new w3 _
  have s5 : w5.heap.size = w.heap.size + 1 + 1 + 1 + 1 + 1 := by rw [hw5]; simp [s4]
  have B5 : Below w4.heap.size w4 w5 := by rw [hw5]; exact below_new (Below.refl _ _) _
  have X5 : w5.heap[w.heap.size + 1 + 1 + 1 + 1]? = some (.cells #[.int .i64 1, .string ⟨#[]⟩, .int .i64 0, .string ⟨#[]⟩, .string ⟨#[]⟩, .slice none 0 0, .slice none 0 0] 25 (0, 0)) := by rw [hw5, ← s4]; exact heap_alloc_new w4 _
  have s6 : w6.heap.size = w.heap.size + 1 + 1 + 1 + 1 + 1 + 1 := by rw [hw6]; simp [s5]
  have B6 : Below w5.heap.size w5 w6 := by rw [hw6]; exact below_new (Below.refl _ _) _
  have X6 : w6.heap[w.heap.size + 1 + 1 + 1 + 1 + 1]? = some (.cells #[.int .i64 5, .string ⟨#[]⟩, .int .i64 0, .string ⟨#[]⟩, .string ⟨#[]⟩, .slice (some ⟨w.heap.size + 1 + 1 + 1, 0, none⟩) 1 1, .slice (some ⟨w.heap.size + 1 + 1 + 1 + 1, 0, none⟩) 1 1] 25 (0, 0)) := by rw [hw6, ← s5]; exact heap_alloc_new w5 _
  have E5 : Below w5.heap.size w5 w6 := B6
  have E4 := below_over B5 E5
  have E3 := below_over B4 E4
  have E2 := below_over B3 E3
  have E1 := below_over B2 E2
  have HB6 : Hid (Below w.heap.size w w6) := Lib.hid (below_over B1 E1)
  have Y1 := (E1.block _ (by omega)).trans X1
  have Y2 := (E2.block _ (by omega)).trans X2
  have Y3 := (E3.block _ (by omega)).trans X3
  have Y4 := (E4.block _ (by omega)).trans X4
  have Y5 := (E5.block _ (by omega)).trans X5
  have TA : TyAt w6 [.int .i64 5, .string ⟨#[]⟩, .int .i64 0, .string ⟨#[]⟩, .string ⟨#[]⟩, .slice (some ⟨w.heap.size, 0, none⟩) 2 2, .slice (some ⟨w.heap.size + 1, 0, none⟩) 2 2] upA9 := ty_made (t := upA9) (by show (0 : Nat) ≤ _; decide) (by show (0 : Nat) ≤ _; decide) (by show (0 : Nat) ≤ _; decide) (by show (2 : Nat) ≤ _; decide) (by show (2 : Nat) ≤ _; decide) (by show (2 : Nat) ≤ 2; decide) (two_names Y1 (by decide) (by decide)) (row_flat (R := tR) (C := [[.int .i64 1, .string ⟨#[]⟩, .int .i64 0, .string ⟨#[]⟩, .string ⟨#[]⟩, .slice none 0 0, .slice none 0 0], [.int .i64 2, .string ⟨#[]⟩, .int .i64 0, .string ⟨#[]⟩, .string ⟨#[]⟩, .slice none 0 0, .slice none 0 0]]) Y2 (fun l hl => by simp at hl; rcases hl with rfl | rfl <;> rfl) rfl (fun i l x hl hx => by
    match i, hl, hx with
    | 0, hl, hx => simp [upA9, Ty.subs] at hl hx; subst hl; subst hx; exact lf_at w6 1
    | 1, hl, hx => simp [upA9, Ty.subs] at hl hx; subst hl; subst hx; exact lf_at w6 2
    | (i + 2), hl, hx => simp at hl))
  have TB : TyAt w6 [.int .i64 5, .string ⟨#[]⟩, .int .i64 0, .string ⟨#[]⟩, .string ⟨#[]⟩, .slice (some ⟨w.heap.size + 1 + 1 + 1, 0, none⟩) 1 1, .slice (some ⟨w.heap.size + 1 + 1 + 1 + 1, 0, none⟩) 1 1] upB9 := ty_made (t := upB9) (by show (0 : Nat) ≤ _; decide) (by show (0 : Nat) ≤ _; decide) (by show (0 : Nat) ≤ _; decide) (by show (1 : Nat) ≤ _; decide) (by show (1 : Nat) ≤ _; decide) (by show (1 : Nat) ≤ 1; decide) (one_name Y4 (by decide)) (row_flat (R := tR) (C := [[.int .i64 1, .string ⟨#[]⟩, .int .i64 0, .string ⟨#[]⟩, .string ⟨#[]⟩, .slice none 0 0, .slice none 0 0]]) Y5 (fun l hl => by simp at hl; subst hl; rfl) rfl (fun i l x hl hx => by
    match i, hl, hx with
    | 0, hl, hx => simp [upB9, Ty.subs] at hl hx; subst hl; subst hx; exact lf_at w6 1
    | (i + 1), hl, hx => simp at hl))
  have HTA := Lib.hid TA
  have HTB := Lib.hid TB
  have HA : Hid (∀ wx, Below w6.heap.size w6 wx → wx.heap[w.heap.size + 1 + 1]? = some (.cells #[.int .i64 5, .string ⟨#[]⟩, .int .i64 0, .string ⟨#[]⟩, .string ⟨#[]⟩, .slice (some ⟨w.heap.size, 0, none⟩) 2 2, .slice (some ⟨w.heap.size + 1, 0, none⟩) 2 2] 25 (0, 0))) := Lib.hid (fun wx hb => (hb.block _ (by omega)).trans Y3)
  have HB : Hid (∀ wx, Below w6.heap.size w6 wx → wx.heap[w.heap.size + 1 + 1 + 1 + 1 + 1]? = some (.cells #[.int .i64 5, .string ⟨#[]⟩, .int .i64 0, .string ⟨#[]⟩, .string ⟨#[]⟩, .slice (some ⟨w.heap.size + 1 + 1 + 1, 0, none⟩) 1 1, .slice (some ⟨w.heap.size + 1 + 1 + 1 + 1, 0, none⟩) 1 1] 25 (0, 0))) := Lib.hid (fun wx hb => (hb.block _ (by omega)).trans X6)
  have CJ := Lib.hid (Join_any9 upA9 upB9 [.int .i64 5, .string ⟨#[]⟩, .int .i64 0, .string ⟨#[]⟩, .string ⟨#[]⟩, .slice (some ⟨w.heap.size, 0, none⟩) 2 2, .slice (some ⟨w.heap.size + 1, 0, none⟩) 2 2] [.int .i64 5, .string ⟨#[]⟩, .int .i64 0, .string ⟨#[]⟩, .string ⟨#[]⟩, .slice (some ⟨w.heap.size + 1 + 1 + 1, 0, none⟩) 1 1, .slice (some ⟨w.heap.size + 1 + 1 + 1 + 1, 0, none⟩) 1 1] w6 TA TB)
  have HW : Hid ((((((w.alloc (.cells #[.string ⟨#[97]⟩, .string ⟨#[98]⟩] 9)).alloc (.cells #[.int .i64 1, .string ⟨#[]⟩, .int .i64 0, .string ⟨#[]⟩, .string ⟨#[]⟩, .slice none 0 0, .slice none 0 0, .int .i64 2, .string ⟨#[]⟩, .int .i64 0, .string ⟨#[]⟩, .string ⟨#[]⟩, .slice none 0 0, .slice none 0 0] 25)).alloc (.cells #[.int .i64 5, .string ⟨#[]⟩, .int .i64 0, .string ⟨#[]⟩, .string ⟨#[]⟩, .slice (some ⟨w.heap.size, 0, none⟩) 2 2, .slice (some ⟨w.heap.size + 1, 0, none⟩) 2 2] 25)).alloc (.cells #[.string ⟨#[97]⟩] 9)).alloc (.cells #[.int .i64 1, .string ⟨#[]⟩, .int .i64 0, .string ⟨#[]⟩, .string ⟨#[]⟩, .slice none 0 0, .slice none 0 0] 25)).alloc (.cells #[.int .i64 5, .string ⟨#[]⟩, .int .i64 0, .string ⟨#[]⟩, .string ⟨#[]⟩, .slice (some ⟨w.heap.size + 1 + 1 + 1, 0, none⟩) 1 1, .slice (some ⟨w.heap.size + 1 + 1 + 1 + 1, 0, none⟩) 1 1] 25) = w6) := Lib.hid (by rw [hw6, hw5, hw4, hw3, hw2, hw1])
  have m0 := Lib.cell_of_heap Y3 0
  have m1 := Lib.cell_of_heap Y3 1
  have m2 := Lib.cell_of_heap Y3 2
  have m3 := Lib.cell_of_heap Y3 3
  have m4 := Lib.cell_of_heap Y3 4
  have m5 := Lib.cell_of_heap Y3 5
  have m6 := Lib.cell_of_heap Y3 6
  have n0 := Lib.cell_of_heap X6 0
  have n1 := Lib.cell_of_heap X6 1
  have n2 := Lib.cell_of_heap X6 2
  have n3 := Lib.cell_of_heap X6 3
  have n4 := Lib.cell_of_heap X6 4
  have n5 := Lib.cell_of_heap X6 5
  have n6 := Lib.cell_of_heap X6 6
  simp at m0 m1 m2 m3 m4 m5 m6 n0 n1 n2 n3 n4 n5 n6
  clear hw1 hw2 hw3 hw4 hw5 hw6 s1 s2 s3 s4 s5 s6 B1 B2 B3 B4 B5 B6 E1 E2 E3 E4 E5 X1 X2 X3 X4 X5 X6 Y1 Y2 Y3 Y4 Y5 TA TB
  go_enter Try.func8, Try.ntmps8
  go_upto_region 3 with fail
  rw [HW.out]
  clear HW
  go_wp2_with fail
  refine CJ.out.mono ?_; rintro e w7 ⟨l, q, rfl, hb7, hcase⟩
  obtain ⟨rfl, hT7⟩ : q = true ∧ TyAt w7 l upB9 := by
    rcases hcase with ⟨h, -, -, t, ht, -, hT⟩ | ⟨-, -, h⟩
    · exact ⟨h, by rw [up9_bnd.one ht]; exact hT.full⟩
    · have := h upA9_ok upB9_ok upB9 up9_bnd
      rw [upB9_may] at this
      cases this
  obtain ⟨Fn, cF, Fs, dF, rfl, -⟩ := hT7.parts
  clear CJ m0 m1 m2 m3 m4 m5 m6 n0 n1 n2 n3 n4 n5 n6 hcase hT7
  obtain ⟨w8, hw8⟩ : ∃ w8, w8 = w7.alloc (.cells #[.int .i64 upB9.kind, .string upB9.pkg, .int .i64 upB9.major, .string upB9.mod, .string upB9.name, .slice Fn upB9.names.length cF, .slice Fs upB9.subs.length dF] 25) := ⟨_, rfl⟩
  have B8 : Below w6.heap.size w6 w8 := by rw [hw8]; exact below_new hb7 _
  have s8 : w7.heap.size < w8.heap.size := by rw [hw8]; simp
  have Y8 : w8.heap[w7.heap.size]? = some (.cells #[.int .i64 upB9.kind, .string upB9.pkg, .int .i64 upB9.major, .string upB9.mod, .string upB9.name, .slice Fn upB9.names.length cF, .slice Fs upB9.subs.length dF] 25 (0, 0)) := by rw [hw8]; exact heap_alloc_new w7 _
  have H8 : Hid (∀ wx, Below w8.heap.size w8 wx → wx.cell? ⟨w7.heap.size, 5, none⟩ = some (.slice Fn 1 cF)) := Lib.hid (fun wx hb => Lib.cell_of_heap ((hb.block _ s8).trans Y8) 5)
  have HB8 := Lib.hid B8
  have HW8 := Lib.hid hw8
  have c1 := Lib.hid (subC_any9 upA9 upB9 [.int .i64 5, .string ⟨#[]⟩, .int .i64 0, .string ⟨#[]⟩, .string ⟨#[]⟩, .slice (some ⟨w.heap.size, 0, none⟩) 2 2, .slice (some ⟨w.heap.size + 1, 0, none⟩) 2 2] [.int .i64 5, .string ⟨#[]⟩, .int .i64 0, .string ⟨#[]⟩, .string ⟨#[]⟩, .slice (some ⟨w.heap.size + 1 + 1 + 1, 0, none⟩) 1 1, .slice (some ⟨w.heap.size + 1 + 1 + 1 + 1, 0, none⟩) 1 1] w8 (fun _ => by decide +kernel) (fun _ => by decide +kernel) (HTA.out.keep B8) (HTB.out.keep B8))
  have r1 : subP upA9 upB9 = true := by rw [subP_ok, upA9_ok, upB9_ok, subB_iff.2 up9_le]; rfl
  have r2 : subP upB9 upA9 = false := by rw [subP_ok, upA9_ok, upB9_ok, subB_no.2 up9_not]; rfl
  have r3 : subP zTy zTy = false := by rw [subP_ok, zTy_not]; rfl
  rw [r1] at c1
  have HR := Lib.hid (And.intro r2 r3)
  have XA := HA.out w8 B8
  have XB := HB.out w8 B8
  have m0 := Lib.cell_of_heap XA 0
  have m1 := Lib.cell_of_heap XA 1
  have m2 := Lib.cell_of_heap XA 2
  have m3 := Lib.cell_of_heap XA 3
  have m4 := Lib.cell_of_heap XA 4
  have m5 := Lib.cell_of_heap XA 5
  have m6 := Lib.cell_of_heap XA 6
  have n0 := Lib.cell_of_heap XB 0
  have n1 := Lib.cell_of_heap XB 1
  have n2 := Lib.cell_of_heap XB 2
  have n3 := Lib.cell_of_heap XB 3
  have n4 := Lib.cell_of_heap XB 4
  have n5 := Lib.cell_of_heap XB 5
  have n6 := Lib.cell_of_heap XB 6
  simp at m0 m1 m2 m3 m4 m5 m6 n0 n1 n2 n3 n4 n5 n6
  clear hw8 B8 s8 Y8 hb7 r1 r2 r3 XA XB
  go_upto_region 4 with fail
  rw [← HW8.out]
  clear HW8
  go_wp2_with fail
  refine c1.out.mono ?_; rintro e w9 ⟨rfl, hb9⟩
  have HB9 := Lib.hid hb9
  have c2 := Lib.hid (subC_any9 upB9 upA9 [.int .i64 5, .string ⟨#[]⟩, .int .i64 0, .string ⟨#[]⟩, .string ⟨#[]⟩, .slice (some ⟨w.heap.size + 1 + 1 + 1, 0, none⟩) 1 1, .slice (some ⟨w.heap.size + 1 + 1 + 1 + 1, 0, none⟩) 1 1] [.int .i64 5, .string ⟨#[]⟩, .int .i64 0, .string ⟨#[]⟩, .string ⟨#[]⟩, .slice (some ⟨w.heap.size, 0, none⟩) 2 2, .slice (some ⟨w.heap.size + 1, 0, none⟩) 2 2] w9 (fun _ => by decide +kernel) (fun _ => by decide +kernel) (HTB.out.keep (below_over HB8.out hb9)) (HTA.out.keep (below_over HB8.out hb9)))
  rw [HR.out.1] at c2
  have XA := HA.out w9 (below_over HB8.out hb9)
  have XB := HB.out w9 (below_over HB8.out hb9)
  clear m0 m1 m2 m3 m4 m5 m6 n0 n1 n2 n3 n4 n5 n6 hb9 c1
  have m0 := Lib.cell_of_heap XA 0
  have m1 := Lib.cell_of_heap XA 1
  have m2 := Lib.cell_of_heap XA 2
  have m3 := Lib.cell_of_heap XA 3
  have m4 := Lib.cell_of_heap XA 4
  have m5 := Lib.cell_of_heap XA 5
  have m6 := Lib.cell_of_heap XA 6
  have n0 := Lib.cell_of_heap XB 0
  have n1 := Lib.cell_of_heap XB 1
  have n2 := Lib.cell_of_heap XB 2
  have n3 := Lib.cell_of_heap XB 3
  have n4 := Lib.cell_of_heap XB 4
  have n5 := Lib.cell_of_heap XB 5
  have n6 := Lib.cell_of_heap XB 6
  simp at m0 m1 m2 m3 m4 m5 m6 n0 n1 n2 n3 n4 n5 n6
  clear XA XB
  go_wp2_with fail
  refine c2.out.mono ?_; rintro e w10 ⟨rfl, hb10⟩
  have HB10 := Lib.hid (below_over HB9.out hb10)
  have c3 := Lib.hid (subC_any9 zTy zTy [.int .i64 0, .string ⟨#[]⟩, .int .i64 0, .string ⟨#[]⟩, .string ⟨#[]⟩, .slice none 0 0, .slice none 0 0] [.int .i64 0, .string ⟨#[]⟩, .int .i64 0, .string ⟨#[]⟩, .string ⟨#[]⟩, .slice none 0 0, .slice none 0 0] w10 (fun _ => by decide +kernel) (fun _ => by decide +kernel) (zeroT_at w10) (zeroT_at w10))
  rw [HR.out.2] at c3
  clear m0 m1 m2 m3 m4 m5 m6 n0 n1 n2 n3 n4 n5 n6 hb10 c2
  go_wp2_with fail
  refine c3.out.mono ?_; rintro e w11 ⟨rfl, hb11⟩
  have HB11 := Lib.hid (below_over HB10.out hb11)
  have z5 := H8.out w11 HB11.out
  have FIN := Lib.hid (below_over HB6.out (below_over HB8.out HB11.out))
  clear hb11 c3
  go_wp2_with fail
  go_ret
  exact ⟨rfl, FIN.out⟩
end Go.Proofs.Ytcdmgcgjonndpaa

/-  -/
namespace Go.Proofs.Ytcdmgcgjonndpaa
open Go Go.RowKit Go.Shelf
open Go.Sort
open M
def okL (t : Ty) : Bool := fewB t && okT t
theorem okL_ok {t : Ty} (h : okL t = true) : okT t = true := by
  unfold okL at h
  rw [Bool.and_eq_true] at h
  exact h.2
theorem box_step {w w' : World} {b : Nat} {c : Obj} (h : b < w.heap.size ∧ w.heap[b]? = some c) (hb : Below w.heap.size w w') : b < w'.heap.size ∧ w'.heap[b]? = some c := ⟨Nat.lt_of_lt_of_le h.1 hb.size, (hb.block _ h.1).trans h.2⟩
set_option maxRecDepth 100000 in
set_option maxHeartbeats 8000000 in
theorem lplain9_any (a : Ty) (la : List Value) (w : World) (hTa : TyAt w la a) :
    Calls Try.prog 10 #[.agg la.toArray] w fun e w' => e = .returned (.bool (okL a)) ∧ Below w.heap.size w w' := by
  have RES : Hid (okL a = (fewB a && (mayT a && plainT a))) := Lib.hid rfl
  obtain ⟨p, hp⟩ : ∃ p, p = fewB a := ⟨_, rfl⟩
  obtain ⟨q, hq⟩ : ∃ q, q = mayT a := ⟨_, rfl⟩
  obtain ⟨r, hr⟩ : ∃ r, r = plainT a := ⟨_, rfl⟩
  have HP := Lib.hid hp
  have HQ := Lib.hid hq
  have HR := Lib.hid hr
  rw [← hp, ← hq, ← hr] at RES
  clear hp hq hr
  have HTa := Lib.hid hTa
  obtain ⟨An, Ac, As, Ad, rfl, -⟩ := hTa.parts
  obtain ⟨U0, hU0⟩ : ∃ U0, U0 = w.alloc (.cells #[.int .i64 a.kind, .string a.pkg, .int .i64 a.major, .string a.mod, .string a.name, .slice An a.names.length Ac, .slice As a.subs.length Ad] 25) := ⟨_, rfl⟩
  have s0 : U0.heap.size = w.heap.size + 1 := by rw [hU0]; simp
  have B0 : Below w.heap.size w U0 := by rw [hU0]; exact below_new (Below.refl _ _) _
  have O0 : U0.heap[w.heap.size]? = some (.cells #[.int .i64 a.kind, .string a.pkg, .int .i64 a.major, .string a.mod, .string a.name, .slice An a.names.length Ac, .slice As a.subs.length Ad] 25 (0, 0)) := by rw [hU0]; exact heap_alloc_new w _
  have BW : Below w.heap.size w U0 := B0
  have BXa : Hid (w.heap.size < U0.heap.size ∧ U0.heap[w.heap.size]? = some (.cells #[.int .i64 a.kind, .string a.pkg, .int .i64 a.major, .string a.mod, .string a.name, .slice An a.names.length Ac, .slice As a.subs.length Ad] 25 (0, 0))) := Lib.hid ⟨by omega, O0⟩
  have KTa := Lib.hid (HTa.out.keep BW)
  have HW : Hid (w.alloc (.cells #[.int .i64 a.kind, .string a.pkg, .int .i64 a.major, .string a.mod, .string a.name, .slice An a.names.length Ac, .slice As a.subs.length Ad] 25) = U0) := Lib.hid (by rw [hU0])
  have HB := Lib.hid BW
  clear hU0 s0 B0 O0 BW hTa
  go_enter Try.func10, Try.ntmps10
  go_upto_region 1 with fail
  rw [HW.out]
  clear HW
  have CT := Lib.hid (fewB_any a (.agg #[.int .i64 a.kind, .string a.pkg, .int .i64 a.major, .string a.mod, .string a.name, .slice An a.names.length Ac, .slice As a.subs.length Ad]) U0 ⟨_, rfl, KTa.out⟩)
  rw [← HP.out] at CT
  obtain ⟨-, Xa⟩ := BXa.out
  have xa0 := Lib.cell_of_heap Xa 0
  have xa1 := Lib.cell_of_heap Xa 1
  have xa2 := Lib.cell_of_heap Xa 2
  have xa3 := Lib.cell_of_heap Xa 3
  have xa4 := Lib.cell_of_heap Xa 4
  have xa5 := Lib.cell_of_heap Xa 5
  have xa6 := Lib.cell_of_heap Xa 6
  simp at xa0 xa1 xa2 xa3 xa4 xa5 xa6
  clear Xa
  go_wp2_with fail
  refine CT.out.mono ?_; rintro e w1 ⟨rfl, hb⟩
  clear xa0 xa1 xa2 xa3 xa4 xa5 xa6
  clear CT
  replace BXa := Lib.hid (box_step BXa.out hb)
  replace KTa := Lib.hid (KTa.out.keep hb)
  replace HB := Lib.hid (below_over HB.out hb)
  clear hb
  cases p with
  | false =>
    go_wp2_with fail
    go_ret
    exact ⟨by rw [RES.out]; rfl, HB.out⟩
  | true =>
    have CT := Lib.hid (may_any a (.agg #[.int .i64 a.kind, .string a.pkg, .int .i64 a.major, .string a.mod, .string a.name, .slice An a.names.length Ac, .slice As a.subs.length Ad]) w1 (by have := few_small HP.out.symm; omega) ⟨_, rfl, KTa.out⟩)
    rw [← HQ.out] at CT
    obtain ⟨-, Xa⟩ := BXa.out
    have xa0 := Lib.cell_of_heap Xa 0
    have xa1 := Lib.cell_of_heap Xa 1
    have xa2 := Lib.cell_of_heap Xa 2
    have xa3 := Lib.cell_of_heap Xa 3
    have xa4 := Lib.cell_of_heap Xa 4
    have xa5 := Lib.cell_of_heap Xa 5
    have xa6 := Lib.cell_of_heap Xa 6
    simp at xa0 xa1 xa2 xa3 xa4 xa5 xa6
    clear Xa
    go_wp2_with fail
    refine CT.out.mono ?_; rintro e w2 ⟨rfl, hb⟩
    clear xa0 xa1 xa2 xa3 xa4 xa5 xa6
    clear CT
    replace BXa := Lib.hid (box_step BXa.out hb)
    replace KTa := Lib.hid (KTa.out.keep hb)
    replace HB := Lib.hid (below_over HB.out hb)
    clear hb
    cases q with
    | false =>
      go_wp2_with fail
      go_ret
      exact ⟨by rw [RES.out]; rfl, HB.out⟩
    | true =>
      have CT := Lib.hid (plain_any _ a (Nat.le_refl _) (.agg #[.int .i64 a.kind, .string a.pkg, .int .i64 a.major, .string a.mod, .string a.name, .slice An a.names.length Ac, .slice As a.subs.length Ad]) w2 ⟨_, rfl, KTa.out⟩)
      rw [← HR.out] at CT
      obtain ⟨-, Xa⟩ := BXa.out
      have xa0 := Lib.cell_of_heap Xa 0
      have xa1 := Lib.cell_of_heap Xa 1
      have xa2 := Lib.cell_of_heap Xa 2
      have xa3 := Lib.cell_of_heap Xa 3
      have xa4 := Lib.cell_of_heap Xa 4
      have xa5 := Lib.cell_of_heap Xa 5
      have xa6 := Lib.cell_of_heap Xa 6
      simp at xa0 xa1 xa2 xa3 xa4 xa5 xa6
      clear Xa
      go_wp2_with fail
      refine CT.out.mono ?_; rintro e w3 ⟨rfl, hb⟩
      clear xa0 xa1 xa2 xa3 xa4 xa5 xa6
      clear CT
      replace BXa := Lib.hid (box_step BXa.out hb)
      replace KTa := Lib.hid (KTa.out.keep hb)
      replace HB := Lib.hid (below_over HB.out hb)
      clear hb
      go_wp2_with fail
      go_ret
      exact ⟨by rw [RES.out]; rfl, HB.out⟩
end Go.Proofs.Ytcdmgcgjonndpaa

/-  -/
namespace Go.Proofs.Ytcdmgcgjonndpaa
open Go Go.RowKit Go.Shelf
open Go.Sort
open M
def TdIs (up : Bool) (a b : Ty) (q : Bool) (t : Ty) : Prop := (q = true ∧ IsBnd up a b t ∧ mayT t = true) ∨ (q = false ∧ t = zTy ∧ ∀ t', IsBnd up a b t' → mayT t' = false)
theorem TdIs.one {up q q' : Bool} {a b t t' : Ty} (h : TdIs up a b q t) (h' : TdIs up a b q' t') : q = q' ∧ t = t' := by
  rcases h with ⟨h1, h2, h3⟩ | ⟨h1, h2, h3⟩
  · rcases h' with ⟨k1, k2, k3⟩ | ⟨k1, k2, k3⟩
    · exact ⟨h1.trans k1.symm, h2.one k2⟩
    · have := k3 t h2
      rw [h3] at this
      cases this
  · rcases h' with ⟨k1, k2, k3⟩ | ⟨k1, k2, k3⟩
    · have := h3 t' k2
      rw [k3] at this
      cases this
    · exact ⟨h1.trans k1.symm, h2.trans k2.symm⟩
end Go.Proofs.Ytcdmgcgjonndpaa

/-  -/
namespace Go.Proofs.Ytcdmgcgjonndpaa
open Go Go.RowKit Go.Shelf
open Go.Sort
open M
theorem okL_no {t : Ty} (hf : fewB t = true) (h : okL t = false) : okT t = false := by
  unfold okL at h
  rw [hf] at h
  simpa using h
end Go.Proofs.Ytcdmgcgjonndpaa
