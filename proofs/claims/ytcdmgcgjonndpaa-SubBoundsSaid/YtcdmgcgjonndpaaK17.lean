/-
  
-/
import Derived.Test.YtcdmgcgjonndpaaK16
namespace Go.Proofs.Ytcdmgcgjonndpaa
open Go Go.RowKit Go.Shelf
open Go.Sort
open M
def InP (ns : List ByteArray) (xs : List Ty) (s : ByteArray) (z : Ty) : Prop := ∃ i : Nat, ns[i]? = some s ∧ xs[i]? = some z
theorem inP_cons {n : ByteArray} {y : Ty} {ns : List ByteArray} {xs : List Ty} {s : ByteArray} {z : Ty} : InP (n :: ns) (y :: xs) s z ↔ (s = n ∧ z = y) ∨ InP ns xs s z := by
 constructor
 ·rintro ⟨i, h1, h2⟩
  cases i with
  | zero => simp at h1 h2; exact .inl ⟨h1.symm, h2.symm⟩
  | succ i => simp at h1 h2; exact .inr ⟨i, h1, h2⟩
 ·rintro (⟨rfl, rfl⟩ | ⟨i, h1, h2⟩)
  ·exact ⟨0, rfl, rfl⟩
  ·exact ⟨i + 1, by simpa using h1, by simpa using h2⟩
theorem insP_in {s : ByteArray} {x : Ty} {s' : ByteArray} {z : Ty} : ∀ (ns : List ByteArray) (xs : List Ty), ns.length = xs.length → (InP (insP s x ns xs).1 (insP s x ns xs).2 s' z ↔ (s' = s ∧ z = x) ∨ InP ns xs s' z)
 | [], [], _ => by unfold insP; exact inP_cons
 | n :: ns, y :: ys, h => by
  have ih := insP_in (s := s) (x := x) (s' := s') (z := z) ns ys (by simpa using h)
  unfold insP
  split
  ·exact inP_cons
  ·rw [inP_cons, ih, inP_cons]
   constructor
   ·rintro (h | h | h)
    ·exact .inr (.inl h)
    ·exact .inl h
    ·exact .inr (.inr h)
   ·rintro (h | h | h)
    ·exact .inr (.inl h)
    ·exact .inl h
    ·exact .inr (.inr h)
 | [], _ :: _, h => by simp at h
 | _ :: _, [], h => by simp at h
theorem insP_mem {s : ByteArray} {x : Ty} {s' : ByteArray} : ∀ (ns : List ByteArray) (xs : List Ty), ns.length = xs.length → (s' ∈ (insP s x ns xs).1 ↔ s' = s ∨ s' ∈ ns)
 | [], [], _ => by unfold insP; simp
 | n :: ns, y :: ys, h => by
  have ih := insP_mem (s := s) (x := x) (s' := s') ns ys (by simpa using h)
  unfold insP
  split
  ·simp
  ·simp only [List.mem_cons, ih]
   constructor
   ·rintro (h | h | h)
    ·exact .inr (.inl h)
    ·exact .inl h
    ·exact .inr (.inr h)
   ·rintro (h | h | h)
    ·exact .inr (.inl h)
    ·exact .inl h
    ·exact .inr (.inr h)
 | [], _ :: _, h => by simp at h
 | _ :: _, [], h => by simp at h
theorem insP_rise {s : ByteArray} {x : Ty} : ∀ (ns : List ByteArray) (xs : List Ty), ns.length = xs.length → Rising ns → s ∉ ns → Rising (insP s x ns xs).1
 | [], [], _, _, _ => by unfold insP; simp
 | n :: ns, y :: ys, h, hr, hs => by
  have hr' := List.pairwise_cons.1 hr
  have hl : ns.length = ys.length := by simpa using h
  have ih := insP_rise (s := s) (x := x) ns ys hl hr'.2 (fun e => hs (List.mem_cons_of_mem _ e))
  unfold insP
  split
  ·rename_i hlt
   refine List.pairwise_cons.2 ⟨fun a ha => ?_, hr⟩
   rcases List.mem_cons.1 ha with rfl | ha
   ·exact hlt
   ·exact lts_trans hlt (hr'.1 a ha)
  ·rename_i hlt
   refine List.pairwise_cons.2 ⟨fun a ha => ?_, ih⟩
   rcases (insP_mem ns ys hl).1 ha with rfl | ha
   ·rcases lts_tri n a with c | c | c
    ·exact c
    ·exact absurd (c ▸ List.mem_cons_self) hs
    ·exact absurd c hlt
   ·exact hr'.1 a ha
 | [], _ :: _, h, _, _ => by simp at h
 | _ :: _, [], h, _, _ => by simp at h
structure Gro (k : Int) (n : Nat) (t : Ty) : Prop where
 kind : t.kind = k
 bare : Bare t
 rise : Rising t.names
 len : t.names.length = t.subs.length
 cnt : t.names.length ≤ n
theorem Gro.start (k : Int) : Gro k 0 (.mk k ⟨#[]⟩ 0 ⟨#[]⟩ ⟨#[]⟩ [] []) := ⟨rfl, ⟨rfl, rfl, rfl, rfl⟩, List.Pairwise.nil, rfl, Nat.le_refl _⟩
theorem Gro.up {k : Int} {n : Nat} {t : Ty} (h : Gro k n t) : Gro k (n + 1) t := ⟨h.kind, h.bare, h.rise, h.len, Nat.le_succ_of_le h.cnt⟩
theorem Gro.put {k : Int} {n : Nat} {t : Ty} (h : Gro k n t) {s : ByteArray} {x : Ty} (hs : s ∉ t.names) : Gro k (n + 1) (putT t s x) := by
 have hl := insP_len s x t.names t.subs h.len
 refine ⟨h.kind, ⟨h.bare.pkg, h.bare.major, h.bare.mod, h.bare.name⟩, insP_rise _ _ h.len h.rise hs, hl.1.trans hl.2.symm, ?_⟩
 show (insP s x t.names t.subs).1.length ≤ n + 1
 rw [hl.1]
 have := h.cnt
 omega
theorem putN_at {k : Int} {n : Nat} {t : Ty} (h : Gro k n t) {s s' : ByteArray} {x z : Ty} : AtN (putT t s x) s' z ↔ (s' = s ∧ z = x) ∨ AtN t s' z := insP_in (s := s) (x := x) (s' := s') (z := z) t.names t.subs h.len
def UnK (up all : Bool) (a b : Ty) (s : ByteArray) (z : Ty) : Prop := (∃ x y, AtN a s x ∧ AtN b s y ∧ IsBnd up x y z) ∨ (all = true ∧ AtN a s z ∧ ∀ y, ¬ AtN b s y)
structure RbI (up all : Bool) (a b : Ty) (i : Nat) (t : Ty) : Prop where
 gro : Gro a.kind i t
 from_ : ∀ s z, AtN t s z → (∃ q : Nat, q < i ∧ a.names[q]? = some s) ∧ UnK up all a b s z
 done : ∀ (q : Nat) (s : ByteArray) (x : Ty), q < i → a.names[q]? = some s → AtN a s x → (∃ z, AtN t s z) ∨ (all = false ∧ ∀ y, AtN b s y → NoBnd up x y)
theorem RbI.start (up all : Bool) (a b : Ty) : RbI up all a b 0 (.mk a.kind ⟨#[]⟩ 0 ⟨#[]⟩ ⟨#[]⟩ [] []) := ⟨Gro.start _, fun s z ⟨i, h, _⟩ => by simp [Ty.names] at h, fun q s x h => by omega⟩
theorem at_names {t : Ty} {s : ByteArray} {k : Int} {n : Nat} (h : Gro k n t) (hs : s ∈ t.names) : ∃ z, AtN t s z := by
 obtain ⟨i, hi⟩ := List.getElem?_of_mem hs
 have hi' := (List.getElem?_eq_some_iff.1 hi).1
 obtain ⟨z, hz⟩ := at_some (l := t.subs) (i := i) (by rw [← h.len]; exact hi')
 exact ⟨z, i, hi, hz⟩
theorem RbI.fresh {up all : Bool} {a b t : Ty} {i : Nat} {s : ByteArray} (h : RbI up all a b i t) (ga : GoodT a) (hs : a.names[i]? = some s) : s ∉ t.names := fun hm => by
 obtain ⟨z, hz⟩ := at_names h.gro hm
 obtain ⟨⟨q, hq, hqs⟩, -⟩ := h.from_ s z hz
 have := nodup_at ga.nodup hqs hs
 omega
theorem RbI.put {up all : Bool} {a b t z : Ty} {i : Nat} {s : ByteArray} (h : RbI up all a b i t) (ga : GoodT a) (hs : a.names[i]? = some s) (hz : UnK up all a b s z) : RbI up all a b (i + 1) (putT t s z) := by
 have hf := h.fresh ga hs
 refine ⟨h.gro.put hf, fun s' z' h' => ?_, fun q s' x hq hs' hx => ?_⟩
 ·rcases (putN_at h.gro).1 h' with ⟨rfl, rfl⟩ | h'
  ·exact ⟨⟨i, by omega, hs⟩, hz⟩
  ·obtain ⟨⟨q, h1, h2⟩, h3⟩ := h.from_ s' z' h'
   exact ⟨⟨q, by omega, h2⟩, h3⟩
 ·rcases Nat.lt_or_ge q i with c | c
  ·rcases h.done q s' x c hs' hx with ⟨z', h'⟩ | h'
   ·exact .inl ⟨z', (putN_at h.gro).2 (.inr h')⟩
   ·exact .inr h'
  ·obtain rfl : q = i := by omega
   rw [hs] at hs'; cases hs'
   exact .inl ⟨z, (putN_at h.gro).2 (.inl ⟨rfl, rfl⟩)⟩
theorem RbI.skip {up all : Bool} {a b t : Ty} {i : Nat} {s : ByteArray} (h : RbI up all a b i t) (hs : a.names[i]? = some s) (hall : all = false) (hno : ∀ x y, AtN a s x → AtN b s y → NoBnd up x y) : RbI up all a b (i + 1) t := by
 refine ⟨h.gro.up, fun s' z' h' => ?_, fun q s' x hq hs' hx => ?_⟩
 ·obtain ⟨⟨q, h1, h2⟩, h3⟩ := h.from_ s' z' h'
  exact ⟨⟨q, by omega, h2⟩, h3⟩
 ·rcases Nat.lt_or_ge q i with c | c
  ·exact h.done q s' x c hs' hx
  ·obtain rfl : q = i := by omega
   rw [hs] at hs'; cases hs'
   exact .inr ⟨hall, fun y hy => hno x y hx hy⟩
structure RbJ (up all : Bool) (a b : Ty) (j : Nat) (t : Ty) : Prop where
 gro : Gro a.kind (a.names.length + j) t
 from_ : ∀ s z, AtN t s z → UnK up all a b s z ∨ (all = true ∧ AtN b s z ∧ (∀ x, ¬ AtN a s x) ∧ ∃ q : Nat, q < j ∧ b.names[q]? = some s)
 doneA : ∀ s x, AtN a s x → (∃ z, AtN t s z) ∨ (all = false ∧ ∀ y, AtN b s y → NoBnd up x y)
 doneB : ∀ (q : Nat) (s : ByteArray) (y : Ty), q < j → b.names[q]? = some s → AtN b s y → all = true → (∃ z, AtN t s z) ∨ ∃ x, AtN a s x
theorem RbI.next {up all : Bool} {a b t : Ty} (h : RbI up all a b a.names.length t) : RbJ up all a b 0 t := ⟨h.gro, fun s z hz => .inl (h.from_ s z hz).2, fun s x hx => by
 obtain ⟨q, h1, -⟩ := id hx
 exact h.done q s x (List.getElem?_eq_some_iff.1 h1).1 h1 hx, fun q s y h => by omega⟩
theorem UnK.inA {up all : Bool} {a b : Ty} {s : ByteArray} {z : Ty} (h : UnK up all a b s z) : ∃ x, AtN a s x := by
 rcases h with ⟨x, -, h, -⟩ | ⟨-, h, -⟩
 ·exact ⟨x, h⟩
 ·exact ⟨z, h⟩
theorem RbJ.put {up all : Bool} {a b t y : Ty} {j : Nat} {s : ByteArray} (h : RbJ up all a b j t) (gb : GoodT b) (hs : b.names[j]? = some s) (hy : b.subs[j]? = some y) (hall : all = true) (hno : ∀ x, ¬ AtN a s x) : RbJ up all a b (j + 1) (putT t s y) := by
 have hf : s ∉ t.names := fun hm => by
  obtain ⟨z, hz⟩ := at_names h.gro hm
  rcases h.from_ s z hz with h' | ⟨-, -, -, q, h1, h2⟩
  ·obtain ⟨x, hx⟩ := h'.inA
   exact hno x hx
  ·have := nodup_at gb.nodup h2 hs
   omega
 refine ⟨h.gro.put hf, fun s' z' h' => ?_, fun s' x hx => ?_, fun q s' y' hq hs' hy' ha => ?_⟩
 ·rcases (putN_at h.gro).1 h' with ⟨rfl, rfl⟩ | h'
  ·exact .inr ⟨hall, ⟨j, hs, hy⟩, hno, j, by omega, hs⟩
  ·rcases h.from_ s' z' h' with h' | ⟨h1, h2, h3, q, h4, h5⟩
   ·exact .inl h'
   ·exact .inr ⟨h1, h2, h3, q, by omega, h5⟩
 ·rcases h.doneA s' x hx with ⟨z, hz⟩ | h'
  ·exact .inl ⟨z, (putN_at h.gro).2 (.inr hz)⟩
  ·exact .inr h'
 ·rcases Nat.lt_or_ge q j with c | c
  ·rcases h.doneB q s' y' c hs' hy' ha with ⟨z, hz⟩ | h'
   ·exact .inl ⟨z, (putN_at h.gro).2 (.inr hz)⟩
   ·exact .inr h'
  ·obtain rfl : q = j := by omega
   rw [hs] at hs'; cases hs'
   exact .inl ⟨y, (putN_at h.gro).2 (.inl ⟨rfl, rfl⟩)⟩
theorem RbJ.skip {up all : Bool} {a b t : Ty} {j : Nat} {s : ByteArray} (h : RbJ up all a b j t) (hs : b.names[j]? = some s) (hx : all = true → ∃ x, AtN a s x) : RbJ up all a b (j + 1) t := by
 refine ⟨h.gro.up, fun s' z' h' => ?_, h.doneA, fun q s' y' hq hs' hy' ha => ?_⟩
 ·rcases h.from_ s' z' h' with h' | ⟨h1, h2, h3, q, h4, h5⟩
  ·exact .inl h'
  ·exact .inr ⟨h1, h2, h3, q, by omega, h5⟩
 ·rcases Nat.lt_or_ge q j with c | c
  ·exact h.doneB q s' y' c hs' hy' ha
  ·obtain rfl : q = j := by omega
   rw [hs] at hs'; cases hs'
   exact .inr (hx ha)
theorem RbJ.good {up all : Bool} {a b t : Ty} (h : RbJ up all a b b.names.length t) (ga : GoodT a) (gb : GoodT b) (hk : a.kind = 5 ∨ a.kind = 6) (e1 : a.kind = b.kind) (h6 : a.kind = 6 → t.names ≠ []) : GoodT t := by
 have hz : ∀ s z, AtN t s z → GoodT z ∧ (s ∈ a.names ∨ s ∈ b.names) := fun s z hz => by
  rcases h.from_ s z hz with h' | ⟨-, h', -, -⟩
  ·rcases h' with ⟨x, y, h1, -, h3⟩ | ⟨-, h1, -⟩
   ·exact ⟨h3.good, .inl h1.name⟩
   ·exact ⟨ga.sub h1.sub, .inl h1.name⟩
  ·exact ⟨gb.sub h'.sub, .inr h'.name⟩
 refine good_row (by rw [h.gro.kind]; exact hk) h.gro.bare h.gro.rise (fun s hs => ?_) h.gro.len.symm (fun e => ?_) (fun z hzs => ?_)
 ·obtain ⟨z, hz'⟩ := at_names h.gro hs
  rw [h.gro.kind]
  rcases (hz s z hz').2 with c | c
  ·exact ga.named s c
  ·rw [e1]; exact gb.named s c
 ·have h1 := List.length_pos_iff.2 (h6 (h.gro.kind ▸ e))
  rw [← h.gro.len]; exact h1
 ·obtain ⟨i, hi⟩ := List.getElem?_of_mem hzs
  have hi' := (List.getElem?_eq_some_iff.1 hi).1
  obtain ⟨s, hs⟩ := at_some (l := t.names) (i := i) (by rw [h.gro.len]; exact hi')
  exact (hz s z ⟨i, hs, hi⟩).1
theorem RbJ.end_ {up all : Bool} {a b t : Ty} (h : RbJ up all a b b.names.length t) (ga : GoodT a) (gb : GoodT b) (hk : a.kind = 5 ∨ a.kind = 6) (e1 : a.kind = b.kind) (hw : all = true → wins a.kind up) (hl : all = false → loses a.kind up) :
  ((a.kind = 5 ∨ t.names ≠ []) → IsBnd up a b t) ∧ (¬ (a.kind = 5 ∨ t.names ≠ []) → NoBnd up a b) := by
 cases all with
 | true =>
  have h0 : a.kind = 6 → t.names ≠ [] := fun e hn => by
   have hpos := (ga.row hk).2.2 e
   have hl := (ga.row hk).2.1
   have hs : a.names[0]? = some (a.names[0]'(by omega)) := List.getElem?_eq_getElem _
   obtain ⟨x, hx⟩ := ga.has hk (List.mem_of_getElem? hs)
   rcases h.doneA _ x hx with ⟨z, hz⟩ | ⟨c, -⟩
   ·have := hz.name; rw [hn] at this; cases this
   ·cases c
  have gt := h.good ga gb hk e1 h0
  refine ⟨fun _ => bnd_union (hw rfl) e1 h.gro.kind.symm ga gb gt (fun s z hz => ?_) (fun s x hx => ?_) (fun s y hy => ?_), fun hn => ?_⟩
  ·rcases h.from_ s z hz with h' | ⟨-, h1, h2, -⟩
   ·rcases h' with h' | ⟨-, h1, h2⟩
    ·exact .inl h'
    ·exact .inr (.inl ⟨h1, h2⟩)
   ·exact .inr (.inr ⟨h1, h2⟩)
  ·rcases h.doneA s x hx with h' | ⟨c, -⟩
   ·exact h'
   ·cases c
  ·obtain ⟨q, h1, -⟩ := id hy
   rcases h.doneB q s y (List.getElem?_eq_some_iff.1 h1).1 h1 hy rfl with h' | ⟨x, hx⟩
   ·exact h'
   ·rcases h.doneA s x hx with h' | ⟨c, -⟩
    ·exact h'
    ·cases c
  ·rcases hk with e | e
   ·exact absurd (.inl e) hn
   ·exact absurd (.inr (h0 e)) hn
 | false =>
  have from2 : ∀ s z, AtN t s z → ∃ x y, AtN a s x ∧ AtN b s y ∧ IsBnd up x y z := fun s z hz => by
   rcases h.from_ s z hz with h' | ⟨c, -⟩
   ·rcases h' with h' | ⟨c, -⟩
    ·exact h'
    ·cases c
   ·cases c
  refine ⟨fun hn => ?_, fun hn => ?_⟩
  ·have gt := h.good ga gb hk e1 (fun e => by rcases hn with c | c; omega; exact c)
   exact bnd_common (hl rfl) e1 h.gro.kind.symm ga gb gt from2 (fun s x y hx hy => by
    rcases h.doneA s x hx with h' | ⟨-, h'⟩
    ·exact .inl h'
    ·exact .inr (h' y hy))
  ·have h6 : a.kind = 6 := by rcases hk with e | e; exact absurd (.inl e) hn; exact e
   have hnil : t.names = [] := Classical.byContradiction fun e => hn (.inr e)
   exact no_common (hl rfl) h6 e1 fun s x y hx hy => by
    rcases h.doneA s x hx with ⟨z, hz⟩ | ⟨-, h'⟩
    ·have := hz.name; rw [hnil] at this; cases this
    ·exact h' y hy
def RbOut (w0 : World) (up : Bool) (x y : Ty) (w : World) (e : Ending) (w' : World) : Prop :=
 ∃ (l : List Value) (q : Bool), e = .returned (.tuple #[.agg l.toArray, .bool q]) ∧ Below w.heap.size w w' ∧ (∃ v, ShL l v) ∧
  ((q = true ∧ ∃ t, IsBnd up x y t ∧ TyAt (strike (fun k => w0.heap.size ≤ k ∧ k < w.heap.size) w') l t) ∨ (q = false ∧ NoBnd up x y))
def RbCall (w0 : World) (up : Bool) (x y : Ty) : Prop := ∀ (lx ly : List Value) (w : World), TyAt w0 lx x → TyAt w0 ly y → Below w0.heap.size w0 w → Calls Try.prog 17 #[.agg lx.toArray, .agg ly.toArray, .bool up] w (RbOut w0 up x y w)
theorem RbOut.zero {w0 w wk : World} {up : Bool} {x y : Ty} {b : Nat} (hb : Below w.heap.size w wk) (hle : w.heap.size ≤ b) (h : NoBnd up x y) : RbOut w0 up x y w (.returned (.tuple #[.agg #[.int .i64 0, .string ⟨#[]⟩, .int .i64 0, .string ⟨#[]⟩, .string ⟨#[]⟩, .slice none 0 0, .slice none 0 0], .bool false])) (wk.setRow b #[.int .i64 0, .string ⟨#[]⟩, .int .i64 0, .string ⟨#[]⟩, .string ⟨#[]⟩, .slice none 0 0, .slice none 0 0]) :=
 ⟨[.int .i64 0, .string ⟨#[]⟩, .int .i64 0, .string ⟨#[]⟩, .string ⟨#[]⟩, .slice none 0 0, .slice none 0 0], false, rfl, setRow_below hb hle _, ⟨zTy, none, 0, none, 0, rfl⟩, .inr ⟨rfl, h⟩⟩
theorem PwR.made2 {w0 wo wa w2 w3 : World} {up q : Bool} {x y : Ty} {b : Nat} {l : List Value} (h : (q = true ∧ ∃ t, IsBnd up x y t ∧ TyAt (strike (fun k => w0.heap.size ≤ k ∧ k < wa.heap.size) w2) l t) ∨ (q = false ∧ NoBnd up x y)) (hsh : ∃ v, ShL l v) (h0 : w0.heap.size ≤ wo.heap.size) (ha : wo.heap.size ≤ wa.heap.size) (hb : wo.heap.size ≤ b) (hb' : b < wa.heap.size ∨ w2.heap.size ≤ b) (hX : w3.heap[b]? = some (.cells l.toArray 25 (0, 0))) (hB : Below wo.heap.size wo w3) (h3 : ∀ x, x < w2.heap.size → x ≠ b → w3.heap[x]? = w2.heap[x]?) (hz : w2.heap.size ≤ w3.heap.size) : PwR w0 wo up x y b l q w3 := by
 refine ⟨hX, hb, hB, hsh, ?_⟩
 rcases h with ⟨h1, t, h2, hT⟩ | ⟨h1, h2⟩
 ·exact .inl ⟨h1, t, h2, hT.move hz fun k hk hS => ⟨fun e => hS ⟨e.1, by omega⟩, h3 k hk (fun e => hS ⟨by omega, by omega⟩)⟩⟩
 ·exact .inr ⟨h1, h2⟩
end Go.Proofs.Ytcdmgcgjonndpaa
