/-
  Several texts in one.
-/
import Derived.Test.YtcdmgcgjonndpaaGreatDoorK24
namespace Go.Proofs.YtcdmgcgjonndpaaGreatDoor
open Go Go.RowKit Go.Shelf
open Go.Sort
open M
structure Five (bx : Nat) (w w' : World) : Prop where
  size : w.heap.size <= w'.heap.size
  cells : ∀ (b o : Nat) (v : Value), w.cell? ⟨b, o, none⟩ = some v -> (b ≠ bx \/ o < 3) -> w'.cell? ⟨b, o, none⟩ = some v
  box : ∀ (o : Nat) (v : Value), w.cell? ⟨bx, o, none⟩ = some v -> o < 5 /\ (3 <= o -> ∃ A n c, v = .slice A n c)
theorem Five.names {bx : Nat} {w w' : World} (h : Five bx w w') {A : Option Addr} {l : List ByteArray} (hN : NamesAt w A l) : NamesAt w' A l := fun i s hs => by
  obtain ⟨g, o, hA, hg, hc, hz⟩ := hN i s hs;refine ⟨g, o, hA, Nat.lt_of_lt_of_le hg h.size, h.cells _ _ _ hc ?_, hz⟩;by_cases e : g = bx
  · subst e
    rcases Nat.lt_or_ge (o + i) 3 with q | q
    · exact .inr q
    · obtain ⟨A', n, c, e⟩ := (h.box _ _ hc).2 q
      cases e
  · exact .inl e
theorem Five.typ {bx : Nat} {w w' : World} (h : Five bx w w') {l : List Value} {t : Ty} (hT : TyAt w l t) : TyAt w' l t := by
  induction hT with
  | mk kind pkg major mod name names subs An cn As cs C hp hm hn hln hls hcs hN hl hS hT ih =>
    refine .mk kind pkg major mod name names subs An cn As cs C hp hm hn hln hls hcs (h.names hN) hl (fun i t ht => ?_) ih;obtain ⟨g, o, hA, hg, hc⟩ := hS i t ht
    have hne : g ≠ bx := fun e => by
      subst e;obtain ⟨v, hv⟩ : ∃ v, (C i)[6]? = some v := ⟨_, List.getElem?_eq_getElem (by rw [hl i]; omega)⟩;have := (h.box _ _ (hc 6 v hv)).1
      omega
    exact ⟨g, o, hA, Nat.lt_of_lt_of_le hg h.size, fun j v hv => h.cells _ _ _ (hc j v hv) (.inl hne)⟩
theorem Five.nm {bx : Nat} {w w' : World} (h : Five bx w w') {l : List Value} {x : Nm} (hx : nmE w l x) : nmE w' l x := by
  obtain ⟨hs, l7, e, hT⟩ := hx;exact ⟨hs, l7, e, h.typ hT⟩
theorem Five.row {bx : Nat} {w w' : World} (h : Five bx w w') {A : Option Addr} {l : List Nm} (hR : RowIn nmR w A l) : RowIn nmR w' A l := fun i x hx => by
  obtain ⟨g, o, l', hA, hg, hc, hE⟩ := hR i x hx;have h8 : l'.length = 8 := nmR.len _ _ _ hE
  have hne : g ≠ bx := fun e => by
    subst e;obtain ⟨v, hv⟩ : ∃ v, l'[7]? = some v := ⟨_, List.getElem?_eq_getElem (by omega)⟩;have := (h.box _ _ (hc 7 v hv)).1
    omega
  exact ⟨g, o, l', hA, Nat.lt_of_lt_of_le hg h.size, fun j v hv => h.cells _ _ _ (hc j v hv) (.inl hne), h.nm hE⟩
theorem Five.put {bx : Nat} {w : World} {p d : ByteArray} {j : Int} {A B A' : Option Addr} {n c m e n' c' : Nat} {k : Nat} (hk : k = 3 \/ k = 4) (hb : w.heap[bx]? = some (.cells #[.string p, .int .i64 j, .string d, .slice A n c, .slice B m e] 32 (0, 0))) : Five bx w (w.setCell ⟨bx, k, none⟩ (.slice A' n' c')) := by
  refine ⟨by simp, fun b o v hv hbo => ?_, fun o v hv => ?_⟩
  · by_cases e : b = bx
    · subst e
      have ho : o < 3 := hbo.elim (fun q => absurd rfl q) id;have hne : o ≠ k := by omega
      have := Joins.block_setCell (i := k) hb (.slice A' n' c')
      rw [cZ this];rw [cZ hb] at hv;rw [Array.getElem?_setIfInBounds_ne (by omega)];exact hv
    · exact (World.cell?_of_block (a := ⟨b, o, none⟩) (Below.heap_setCell _ _ _ _ (by show b ≠ bx; exact e))).trans hv
  · rw [cZ hb] at hv
    match o, hv with
    | 0, hv => exact ⟨by omega, fun h => by omega⟩
    | 1, hv => exact ⟨by omega, fun h => by omega⟩
    | 2, hv => exact ⟨by omega, fun h => by omega⟩
    | 3, hv => simp at hv; exact ⟨by omega, fun _ => ⟨_, _, _, hv.symm⟩⟩
    | 4, hv => simp at hv; exact ⟨by omega, fun _ => ⟨_, _, _, hv.symm⟩⟩
    | o + 5, hv => simp at hv
structure Five0 (bx : Nat) (w w' : World) : Prop where
  size : w.heap.size <= w'.heap.size
  cells : ∀ (b o : Nat) (v : Value), w.cell? ⟨b, o, none⟩ = some v -> b ≠ bx -> w'.cell? ⟨b, o, none⟩ = some v
  box : ∀ (o : Nat) (v : Value), w.cell? ⟨bx, o, none⟩ = some v -> o < 5 /\ ∀ s, v = .string s -> s.size = 0
theorem size_zero {s : ByteArray} (h : s.size = 0) : s = ⟨#[]⟩ := by
  obtain ⟨a⟩ := s;have : a = #[] := Array.eq_empty_of_size_eq_zero h
  rw [this]
theorem small_empty : smallB (⟨#[]⟩ : ByteArray).data.toList = false := by decide +kernel
theorem great_empty : greatB (⟨#[]⟩ : ByteArray).data.toList = false := by decide +kernel
theorem names_pos {t : Ty} (h : ownOk t = true) {i : Nat} {s : ByteArray} (hs : t.names[i]? = some s) : s.size ≠ 0 := by
  intro e;have hi := (List.getElem?_eq_some_iff.1 hs).1;obtain rfl := size_zero e
  have h2 : namesOk t.kind t.names = true /\ shapeOk t = true := by
    unfold ownOk at h
    simp only [Bool.and_eq_true] at h;exact ⟨h.1.2, h.2⟩
  have hb := (namesOk_iff _ _).1 h2.1 i hi;have hn : nameAt t.names i = ⟨#[]⟩ := by unfold nameAt; rw [List.getD_eq_getElem?_getD, hs]; rfl
  unfold badName at hb
  rw [hn, small_empty, great_empty] at hb;have h3 := h2.2;unfold shapeOk at h3
  have hl : 0 < t.names.length := by omega
  have hl' : ¬ t.names.length = 0 := by omega
  by_cases k5 : t.kind = 5
  · simp [k5] at hb
  by_cases k6 : t.kind = 6
  · simp [k6] at hb
  simp [k5, k6, hl'] at h3
theorem Five0.typ {bx : Nat} {w w' : World} (h : Five0 bx w w') {l : List Value} {t : Ty} (hT : TyAt w l t) (ok : allOk t = true) : TyAt w' l t := by
  induction hT with
  | mk kind pkg major mod name names subs An cn As cs C hp hm hn hln hls hcs hN hl hS hT ih =>
    rw [allOk_eq, Bool.and_eq_true] at ok;refine .mk kind pkg major mod name names subs An cn As cs C hp hm hn hln hls hcs (fun i s hs => ?_) hl (fun i t ht => ?_) (fun i t ht => ih i t ht ((allOkL_mem _).1 ok.2 t (List.mem_of_getElem? ht)))
    · obtain ⟨g, o, hA, hg, hc, hz⟩ := hN i s hs
      refine ⟨g, o, hA, Nat.lt_of_lt_of_le hg h.size, h.cells _ _ _ hc (fun e => ?_), hz⟩;subst e;exact names_pos ok.1 hs ((h.box _ _ hc).2 s rfl)
    · obtain ⟨g, o, hA, hg, hc⟩ := hS i t ht
      have hne : g ≠ bx := fun e => by
        subst e;obtain ⟨v, hv⟩ : ∃ v, (C i)[6]? = some v := ⟨_, List.getElem?_eq_getElem (by rw [hl i]; omega)⟩;have := (h.box _ _ (hc 6 v hv)).1
        omega
      exact ⟨g, o, hA, Nat.lt_of_lt_of_le hg h.size, fun j v hv => h.cells _ _ _ (hc j v hv) hne⟩
theorem Five0.row {bx : Nat} {w w' : World} (h : Five0 bx w w') {A : Option Addr} {l : List Nm} (hR : RowIn nmR w A l) (ok : ∀ x ∈ l, allOk x.typ = true) : RowIn nmR w' A l := fun i x hx => by
  obtain ⟨g, o, l', hA, hg, hc, hE⟩ := hR i x hx;have h8 : l'.length = 8 := nmR.len _ _ _ hE
  have hne : g ≠ bx := fun e => by
    subst e;obtain ⟨v, hv⟩ : ∃ v, l'[7]? = some v := ⟨_, List.getElem?_eq_getElem (by omega)⟩;have := (h.box _ _ (hc 7 v hv)).1
    omega
  obtain ⟨hs, l7, e, hT⟩ := hE;exact ⟨g, o, l', hA, Nat.lt_of_lt_of_le hg h.size, fun j v hv => h.cells _ _ _ (hc j v hv) hne, hs, l7, e, h.typ hT (ok x (List.mem_of_getElem? hx))⟩
theorem Five0.put {bx : Nat} {w : World} {j : Int} {A B : Option Addr} {n c m e : Nat} (hb : w.heap[bx]? = some (.cells #[.string ⟨#[]⟩, .int .i64 j, .string ⟨#[]⟩, .slice A n c, .slice B m e] 32 (0, 0))) (cs : Array Value) : Five0 bx w (w.setRow bx cs) := by
  refine ⟨by rw [size_setRow]; exact Nat.le_refl _, fun b o v hv hne => (World.cell?_of_block (a := ⟨b, o, none⟩) (setRow_other _ _ _ _ hne)).trans hv, fun o v hv => ?_⟩;rw [cZ hb] at hv;match o, hv with
  | 0, hv => simp at hv; exact ⟨by omega, fun s e => by rw [<- hv] at e; cases e; rfl⟩
  | 1, hv => simp at hv; exact ⟨by omega, fun s e => by rw [<- hv] at e; cases e⟩
  | 2, hv => simp at hv; exact ⟨by omega, fun s e => by rw [<- hv] at e; cases e; rfl⟩
  | 3, hv => simp at hv; exact ⟨by omega, fun s e => by rw [<- hv] at e; cases e⟩
  | 4, hv => simp at hv; exact ⟨by omega, fun s e => by rw [<- hv] at e; cases e⟩
  | o + 5, hv => simp at hv
end Go.Proofs.YtcdmgcgjonndpaaGreatDoor
namespace Go.Proofs.YtcdmgcgjonndpaaGreatDoor
open Go Go.RowKit Go.Shelf
open Go.Sort Go.Maps
open M
def RxT (most depth : Int) (u : Ty) (w : World) (l : List Value) (n : Int) (w' : World) : Prop :=
  Below w.heap.size w w' /\ (∃ v, ShL l v) /\ ((many u <= most /\ deep u <= depth /\ n = many u /\ TyAt (strike (· < w.heap.size) w') l u) \/ (¬ (many u <= most /\ deep u <= depth) /\ n = 0 /\ l = [.int .i64 0, .string ⟨#[]⟩, .int .i64 0, .string ⟨#[]⟩, .string ⟨#[]⟩, .slice none 0 0, .slice none 0 0]))
def RxOut (most depth : Int) (u : Ty) (w : World) (e : Ending) (w' : World) : Prop :=
  ∃ (l : List Value) (n : Int), e = .returned (.tuple #[.agg l.toArray, .int .i64 n]) /\ RxT most depth u w l n w'
def RxCall (w0 : World) (lm : List Value) (pkg : ByteArray) (major : Int) (Ae : Option Addr) (ne ce : Nat) (t u : Ty) : Prop :=
  ∀ (most depth : Int) (l : List Value) (wx : World), 0 <= most -> most <= 500 -> 0 <= depth -> depth <= 32 -> Below w0.heap.size w0 wx -> TyAt wx l t ->
    Calls Tryz.prog 64 #[.agg lm.toArray, .string pkg, .int .i64 major, .slice Ae ne ce, .agg l.toArray, .int .i64 most, .int .i64 depth] wx (RxOut most depth u wx)
def RxNode (w0 : World) (lm : List Value) (pkg : ByteArray) (major : Int) (Ae : Option Addr) (ne ce : Nat) (t u : Ty) : Prop :=
  t.kind ≠ 8 /\ t.names.length <= 200 /\ ∃ us : List Ty, u = Ty.withSubs t us /\ us.length = t.subs.length /\ ∀ (i : Nat) (s v : Ty), t.subs[i]? = some s -> us[i]? = some v -> RxCall w0 lm pkg major Ae ne ce s v
theorem RxT.put {most depth n : Int} {u : Ty} {w w6 w7 : World} {l : List Value} (h : RxT most depth u w6 l n w7) (hb : Below w.heap.size w w6) (hl : w.heap.size + 1 + 1 < w6.heap.size) :
    RxOut most depth u w (.returned (.tuple #[.agg l.toArray, .int .i64 n])) (w7.setRow (w.heap.size + 1 + 1) l.toArray) := by
  obtain ⟨h1, h2, h3⟩ := h;have hs := h1.size;refine ⟨l, n, rfl, setRow_below (below_over hb h1) (by omega) _, h2, ?_⟩;rcases h3 with ⟨a, b, c, d⟩ | h3
  · exact .inl ⟨a, b, c, d.move (by rw [size_setRow]; exact Nat.le_refl _) fun x hx hS => ⟨by omega, setRow_other _ _ _ _ (by omega)⟩⟩
  · exact .inr h3
theorem RxT.stop {most depth : Int} {u : Ty} {w wk : World} (hb : Below w.heap.size w wk) (h : ¬ (many u <= most /\ deep u <= depth)) :
    RxOut most depth u w (.returned (.tuple #[.agg #[.int .i64 0, .string ⟨#[]⟩, .int .i64 0, .string ⟨#[]⟩, .string ⟨#[]⟩, .slice none 0 0, .slice none 0 0], .int .i64 0])) (wk.setRow (w.heap.size + 1 + 1) #[.int .i64 0, .string ⟨#[]⟩, .int .i64 0, .string ⟨#[]⟩, .string ⟨#[]⟩, .slice none 0 0, .slice none 0 0]) :=
  ⟨[.int .i64 0, .string ⟨#[]⟩, .int .i64 0, .string ⟨#[]⟩, .string ⟨#[]⟩, .slice none 0 0, .slice none 0 0], 0, rfl, setRow_below hb (by omega) _, ⟨zTy, none, 0, none, 0, rfl⟩, .inr ⟨h, rfl, rfl⟩⟩
theorem many_with (t : Ty) (us : List Ty) : many (Ty.withSubs t us) = 1 + manyL us := by unfold Ty.withSubs many; rfl
theorem deep_with (t : Ty) (us : List Ty) : deep (Ty.withSubs t us) = 1 + deepL us := by unfold Ty.withSubs deep; omega
theorem openT_at (w : World) {m : Mo} {pkg name : ByteArray} (major : Int) (h1 : pkg.size <= 9223372036854775807) (h2 : m.name.size <= 9223372036854775807) (h3 : name.size <= 9223372036854775807) : TyAt w [.int .i64 9, .string pkg, .int .i64 major, .string m.name, .string name, .slice none 0 0, .slice none 0 0] (openT m pkg major name) :=
  .mk 9 pkg major m.name name [] [] none 0 none 0 (fun _ => [.int .i64 0, .string ⟨#[]⟩, .int .i64 0, .string ⟨#[]⟩, .string ⟨#[]⟩, .slice none 0 0, .slice none 0 0]) h1 h2 h3 (by decide) (by decide) (by decide) (fun i s h => by simp at h) (fun _ => rfl) (fun i t h => by simp at h) (fun i t h => by simp at h)
structure RxM (w0 : World) (lm : List Value) (pkg : ByteArray) (major : Int) (Ae : Option Addr) (ne ce : Nat) (u : Ty) (w : World) (tt : Ty) (Cn : Option Addr) (cC : Nat) (Cs : Option Addr) (dC : Nat) (wx : World) : Prop where
  mo : wx.heap[w.heap.size]? = some (.cells lm.toArray 25 (0, 0))
  box : wx.heap[w.heap.size + 1]? = some (.cells #[.int .i64 tt.kind, .string tt.pkg, .int .i64 tt.major, .string tt.mod, .string tt.name, .slice Cn tt.names.length cC, .slice Cs tt.subs.length dC] 45 (0, 0))
  res : wx.heap[w.heap.size + 1 + 1]? = some (.cells #[.int .i64 0, .string ⟨#[]⟩, .int .i64 0, .string ⟨#[]⟩, .string ⟨#[]⟩, .slice none 0 0, .slice none 0 0] 45 (0, 0))
  below : Below w.heap.size w wx
  ty : TyAt wx [.int .i64 tt.kind, .string tt.pkg, .int .i64 tt.major, .string tt.mod, .string tt.name, .slice Cn tt.names.length cC, .slice Cs tt.subs.length dC] tt
  node : RxNode w0 lm pkg major Ae ne ce tt u
structure RxN (w4 : World) (g : Nat) (tt : Ty) (A6 : Option Addr) (n c6 : Nat) (A5 : Option Addr) (c5 : Nat) (wr : World) : Prop where
  below : ∀ b, b < g -> wr.heap[b]? = w4.heap[b]?
  stay : wr.os = w4.os /\ wr.tape = w4.tape /\ wr.output = w4.output /\ w4.heap.size <= wr.heap.size
  box : wr.heap[g]? = some (.cells #[.int .i64 tt.kind, .string tt.pkg, .int .i64 tt.major, .string tt.mod, .string tt.name, .slice A5 tt.names.length c5, .slice A6 n c6] 45 (0, 0))
  own : wr.ownsRow (g + 1) 9 1 (.slice A5 tt.names.length c5) tt.names.length (tt.names.map Value.string)
structure RxI (wb : World) (l2 : Nat) (tt : Ty) (A5 : Option Addr) (c5 : Nat) (xs : List Ty) (A6 : Option Addr) (c6 : Nat) (wr : World) : Prop where
  below : Below wb.heap.size wb wr
  box : wr.heap[wb.heap.size]? = some (.cells #[.int .i64 tt.kind, .string tt.pkg, .int .i64 tt.major, .string tt.mod, .string tt.name, .slice A5 tt.names.length c5, .slice A6 xs.length c6] 45 (0, 0))
  names : NamesAt (strike (fun b => b < wb.heap.size + 1 \/ l2 <= b) wr) A5 tt.names
  rows : Row tR l2 xs A6 c6 wr
  lo : wb.heap.size + 1 <= l2
  lole : l2 <= wr.heap.size
theorem NamesAt.move {S S' : Nat -> Prop} {w w' : World} {A : Option Addr} {l : List ByteArray} (h : NamesAt (strike S w) A l) (hz : w.heap.size <= w'.heap.size) (hS : ∀ b, b < w.heap.size -> ¬ S b -> ¬ S' b /\ w'.heap[b]? = w.heap[b]?) : NamesAt (strike S' w') A l := fun i s hs => by
  obtain ⟨g, o, hA, hg, hc, hz'⟩ := h i s hs;obtain ⟨h1, h2⟩ := strike_cell.1 hc;rw [strike_size] at hg;obtain ⟨h3, h4⟩ := hS g hg h1;exact ⟨g, o, hA, by rw [strike_size]; omega, strike_cell.2 ⟨h3, (World.cell?_of_block (w := w) (w' := w') (a := ⟨g, _, none⟩) h4).trans h2⟩, hz'⟩
theorem RxN.made {wb w4 w5 : World} {tt : Ty} {A0 A6 A5 : Option Addr} {c0 n c6 c5 : Nat} (hbl : ∀ b, b < wb.heap.size -> w5.heap[b]? = w4.heap[b]?) (hst : w5.os = w4.os /\ w5.tape = w4.tape /\ w5.output = w4.output /\ w4.heap.size <= w5.heap.size)
    (hbox : w5.heap[wb.heap.size]? = some (.cells #[.int .i64 tt.kind, .string tt.pkg, .int .i64 tt.major, .string tt.mod, .string tt.name, .slice A0 tt.names.length c0, .slice A6 n c6] 45 (0, 0)))
    (hown : w5.ownsRow (wb.heap.size + 1) 9 1 (.slice A5 tt.names.length c5) tt.names.length (tt.names.map Value.string)) :
    RxN w4 wb.heap.size tt A6 n c6 A5 c5 (w5.setCell ⟨wb.heap.size, 5, none⟩ (.slice A5 tt.names.length c5)) := by
  refine ⟨fun b hb => (Below.heap_setCell _ _ _ _ (by show b ≠ wb.heap.size; omega)).trans (hbl b hb), ⟨hst.1, hst.2.1, hst.2.2.1, by simp; exact hst.2.2.2⟩, ?_, ownsRow_setCell_below hown (by show wb.heap.size < wb.heap.size + 1; omega) _⟩;have := Joins.block_setCell (i := 5) hbox (.slice A5 tt.names.length c5)
  simpa using this
theorem RxN.start {wb w4 wr : World} {tt : Ty} {A6 A5 : Option Addr} {n c6 c5 : Nat} (h : RxN w4 wb.heap.size tt A6 n c6 A5 c5 wr) (hb : Below wb.heap.size wb w4) (hs : ∀ (i : Nat) (s : ByteArray), tt.names[i]? = some s -> s.size <= 9223372036854775807) :
    RxI wb wr.heap.size tt A5 c5 [] none 0 (wr.setCell ⟨wb.heap.size, 6, none⟩ (.slice none 0 0)) := by
  have hg : wb.heap.size < wr.heap.size := (Array.getElem?_eq_some_iff.1 h.box).1;have ot : ∀ b, b ≠ wb.heap.size -> (wr.setCell ⟨wb.heap.size, 6, none⟩ (.slice none 0 0)).heap[b]? = wr.heap[b]? := fun b hb => Below.heap_setCell _ _ _ _ (by show b ≠ wb.heap.size; exact hb)
  obtain ⟨-, A, c, e, hN⟩ := own_names h.own hs;simp at e;obtain ⟨rfl, rfl⟩ := e;refine ⟨⟨h.stay.1.trans hb.os, h.stay.2.1.trans hb.tape, h.stay.2.2.1.trans hb.output, by simp; omega, fun b hlt => (ot b (by omega)).trans ((h.below b hlt).trans (hb.block b hlt))⟩, ?_, (hN (fun b => b < wb.heap.size + 1) (fun b hb => by omega)).move (by simp) (fun b hlt hS => ⟨by omega, ot b (by omega)⟩), Row.start _ _ _, hg, by simp⟩;have := Joins.block_setCell (i := 6) h.box (.slice none 0 0)
  simpa using this
theorem RxN.start' {wb w4 wr : World} {tt : Ty} {A6 A5 : Option Addr} {n c6 c5 : Nat} (h : RxN w4 wb.heap.size tt A6 n c6 A5 c5 wr) (hb : Below wb.heap.size wb w4) (hs : ∀ (i : Nat) (s : ByteArray), tt.names[i]? = some s -> s.size <= 9223372036854775807) :
    ∃ l2, Hid (RxI wb l2 tt A5 c5 [] none 0 (wr.setCell ⟨wb.heap.size, 6, none⟩ (.slice none 0 0))) := ⟨_, hZ (h.start hb hs)⟩
theorem RxI.keep {wb wo w' : World} {l2 : Nat} {tt : Ty} {A5 : Option Addr} {c5 : Nat} {xs : List Ty} {A6 : Option Addr} {c6 : Nat} (h : RxI wb l2 tt A5 c5 xs A6 c6 wo) (hb : Below wo.heap.size wo w') : RxI wb l2 tt A5 c5 xs A6 c6 w' :=
  ⟨below_over h.below hb, (hb.block _ (Array.getElem?_eq_some_iff.1 h.box).1).trans h.box, h.names.move hb.size fun b hlt hS => ⟨hS, hb.block b hlt⟩, h.rows.keep hb.size fun b _ hlt => hb.block b hlt, h.lo, Nat.le_trans h.lole hb.size⟩
theorem RxI.done {wb wr : World} {l2 : Nat} {tt : Ty} {A5 : Option Addr} {c5 : Nat} {us : List Ty} {A6 : Option Addr} {c6 : Nat} (h : RxI wb l2 tt A5 c5 us A6 c6 wr) {w : World} (hw : w.heap.size + 1 + 1 < wb.heap.size) (hb : Below w.heap.size w wb)
    (hp : tt.pkg.size <= 9223372036854775807) (hm : tt.mod.size <= 9223372036854775807) (hn : tt.name.size <= 9223372036854775807) (hln : tt.names.length <= 9223372036854775807) (hls : us.length <= 9223372036854775807) {most depth : Int} (hmo : many (Ty.withSubs tt us) <= most) (hde : deep (Ty.withSubs tt us) <= depth) :
    RxOut most depth (Ty.withSubs tt us) w (.returned (.tuple #[.agg #[.int .i64 tt.kind, .string tt.pkg, .int .i64 tt.major, .string tt.mod, .string tt.name, .slice A5 tt.names.length c5, .slice A6 us.length c6], .int .i64 (1 + manyL us : Nat)])) (wr.setRow (w.heap.size + 1 + 1) #[.int .i64 tt.kind, .string tt.pkg, .int .i64 tt.major, .string tt.mod, .string tt.name, .slice A5 tt.names.length c5, .slice A6 us.length c6]) := by
  have hlo := h.lo;have mv : ∀ b, b ≠ w.heap.size + 1 + 1 -> (wr.setRow (w.heap.size + 1 + 1) #[.int .i64 tt.kind, .string tt.pkg, .int .i64 tt.major, .string tt.mod, .string tt.name, .slice A5 tt.names.length c5, .slice A6 us.length c6]).heap[b]? = wr.heap[b]? := fun b hb => setRow_other _ _ _ _ hb
  refine ⟨[.int .i64 tt.kind, .string tt.pkg, .int .i64 tt.major, .string tt.mod, .string tt.name, .slice A5 tt.names.length c5, .slice A6 us.length c6], _, rfl, setRow_below (below_over hb h.below) (by omega) _, ⟨Ty.withSubs tt us, A5, c5, A6, c6, rfl⟩, .inl ⟨hmo, hde, by rw [many_with], ?_⟩⟩;exact ty_made (t := Ty.withSubs tt us) hp hm hn hln hls h.rows.cap (h.names.move (by rw [size_setRow]; exact Nat.le_refl _) fun b hlt hS => ⟨by omega, mv b (by omega)⟩) ((h.rows.done (Nat.le_refl _)).move (by rw [size_setRow]; exact Nat.le_refl _) fun b hlt hS => ⟨by omega, mv b (by omega)⟩)
def RxR (wo : World) (mo de : Int) (v : Ty) (b : Nat) (l : List Value) (k : Int) (wx : World) : Prop :=
  wx.heap[b]? = some (.cells l.toArray 45 (0, 0)) /\ wo.heap.size <= b /\ Below wo.heap.size wo wx /\ (∃ x, ShL l x) /\ ((many v <= mo /\ deep v <= de /\ k = many v /\ TyAt (strike (· < wo.heap.size) wx) l v) \/ (¬ (many v <= mo /\ deep v <= de) /\ k = 0))
theorem RxR.made {wo wa w2 w3 : World} {mo de k : Int} {v : Ty} {b : Nat} {l : List Value} (h : RxT mo de v wa l k w2) (ha : wo.heap.size <= wa.heap.size) (hb : wo.heap.size <= b) (hb' : b < wa.heap.size \/ w2.heap.size <= b) (hX : w3.heap[b]? = some (.cells l.toArray 45 (0, 0))) (hB : Below wo.heap.size wo w3) (h3 : ∀ x, x < w2.heap.size -> x ≠ b -> w3.heap[x]? = w2.heap[x]?) (hz : w2.heap.size <= w3.heap.size) : RxR wo mo de v b l k w3 := by
  obtain ⟨h1, h2, h4⟩ := h;refine ⟨hX, hb, hB, h2, ?_⟩;rcases h4 with ⟨a, c, d, e⟩ | ⟨a, c, -⟩
  · exact .inl ⟨a, c, d, e.move hz fun x hx hS => ⟨by omega, h3 x hx (by omega)⟩⟩
  · exact .inr ⟨a, c⟩
end Go.Proofs.YtcdmgcgjonndpaaGreatDoor
