/-
  Several texts in one:  ·  ·  ·  ·  ·  ·  ·  ·  ·  ·  ·  ·  ·  ·  ·  ·  ·  ·  ·  ·  · 
-/
import Derived.Test.YtcdmgcgjonndpaaGreatK20
import Derived.Test.YtcdmgcgjonndpaaGreatK03
import Derived.Test.YtcdmgcgjonndpaaGreatK14
import Derived.Test.YtcdmgcgjonndpaaGreatK07
import Derived.Test.YtcdmgcgjonndpaaGreatK11
import Derived.Test.YtcdmgcgjonndpaaGreatK13
import Derived.Test.YtcdmgcgjonndpaaGreatK01
import Derived.Lib.QuietBelow
import Derived.BigQuiet
import Derived.Test.YtcdmgcgjonndpaaGreatK05
import Derived.Test.YtcdmgcgjonndpaaGreatK00
import Derived.Test.YtcdmgcgjonndpaaGreatK12
import Derived.Sort.Walk0
import Derived.Test.YtcdmgcgjonndpaaGreatK09
import Derived.Deep.DeepCutAuto
import Derived.Test.YtcdmgcgjonndpaaGreatK08
import Derived.Lib.SlicesCompact
import Derived.Test.YtcdmgcgjonndpaaGreatK19
/-  -/
namespace Go.Proofs.YtcdmgcgjonndpaaGreat
open Go.RowKit
open M
def locD (n : ByteArray) : Ty := .mk 8 ⟨#[]⟩ 0 ⟨#[]⟩ n [] []
def meantD (d : De) : Ty := if d.kind = 4 then d.typ else locD d.name
def ltNm (x y : Nm) : Bool := Op.bytesLess x.name.toList y.name.toList
def putN (x : Nm) : List Nm → List Nm
  | [] => [x]
  | y :: r => if ltNm y x = true then y :: putN x r else x :: y :: r
def srtN (l : List Nm) : List Nm := l.foldl (fun a x => putN x a) []
theorem putN_perm (x : Nm) : ∀ l : List Nm, (putN x l).Perm (x :: l)
  | [] => List.Perm.refl _
  | y :: r => by
    unfold putN
    split
    · exact ((putN_perm x r).cons y).trans (List.Perm.swap x y r)
    · exact List.Perm.refl _
def upNm (x y : Nm) : Prop := ltNm y x = false
theorem putN_sorted (x : Nm) : ∀ l : List Nm, l.Pairwise upNm → (putN x l).Pairwise upNm
  | [], _ => List.pairwise_singleton _ _
  | y :: r, h => by
    obtain ⟨h1, h2⟩ := List.pairwise_cons.1 h
    unfold putN
    split
    · rename_i hlt
      refine List.pairwise_cons.2 ⟨fun z hz => ?_, putN_sorted x r h2⟩
      rcases List.mem_cons.1 ((putN_perm x r).mem_iff.1 hz) with rfl | hz
      · show ltNm z y = false
        cases e : ltNm z y with
        | false => rfl
        | true =>
          have := bl_trans _ _ _ hlt e
          rw [bl_irrefl] at this; cases this
      · exact h1 z hz
    · rename_i hlt
      have hlt' : ltNm y x = false := by simpa using hlt
      refine List.pairwise_cons.2 ⟨fun z hz => ?_, h⟩
      rcases List.mem_cons.1 hz with rfl | hz
      · exact hlt'
      · exact bl_ntrans _ _ _ (h1 z hz) hlt'
theorem srtN_perm (l : List Nm) : (srtN l).Perm l := by
  have key : ∀ (l a : List Nm), (l.foldl (fun a x => putN x a) a).Perm (l ++ a) := by
    intro l
    induction l with
    | nil => intro a; exact List.Perm.refl _
    | cons x r ih =>
      intro a
      refine (ih (putN x a)).trans ?_
      exact ((putN_perm x a).append_left r).trans List.perm_middle
  have := key l []
  simpa [srtN] using this
theorem srtN_sorted (l : List Nm) : (srtN l).Pairwise upNm := by
  have key : ∀ (l a : List Nm), a.Pairwise upNm → (l.foldl (fun a x => putN x a) a).Pairwise upNm := by
    intro l
    induction l with
    | nil => intro a h; exact h
    | cons x r ih => intro a h; exact ih _ (putN_sorted x a h)
  exact key l [] List.Pairwise.nil
theorem nodup_eq {l : List Nm} (h : (l.map (·.name)).Nodup) {x y : Nm} (hx : x ∈ l) (hy : y ∈ l) (e : x.name = y.name) : x = y := by
  induction l with
  | nil => cases hx
  | cons a r ih =>
    rw [List.map_cons, List.nodup_cons] at h
    rcases List.mem_cons.1 hx with rfl | hx2
    · rcases List.mem_cons.1 hy with rfl | hy
      · rfl
      · exact absurd (List.mem_map.2 ⟨y, hy, e.symm⟩) h.1
    · rcases List.mem_cons.1 hy with rfl | hy
      · exact absurd (show y.name ∈ r.map (fun z : Nm => z.name) from List.mem_map.2 ⟨x, hx2, e⟩) h.1
      · exact ih h.2 hx2 hy
theorem srtN_one {l l' : List Nm} (hp : l'.Perm l) (hs : l'.Pairwise upNm) (hn : (l.map (·.name)).Nodup) : l' = srtN l := by
  refine List.Perm.eq_of_pairwise (le := upNm) (fun a b ha hb hab hba => ?_) hs (srtN_sorted l) (hp.trans (srtN_perm l).symm)
  have e := bl_tri _ _ hba hab
  refine nodup_eq hn (hp.mem_iff.1 ha) ((srtN_perm l).mem_iff.1 hb) ?_
  have e2 : a.name.data = b.name.data := by
    rw [Lib.toList_data, Lib.toList_data] at e
    exact Array.toList_inj.1 e
  exact (by
    cases ha' : a.name; cases hb' : b.name
    rw [ha', hb'] at e2
    simpa using e2)
def tysOf (l : List (De × Ty)) : List Nm := l.filterMap fun p => if p.1.kind = 1 ∨ p.1.kind = 3 then some ⟨p.1.name, p.2⟩ else none
def valsOf (l : List (De × Ty)) : List Nm := l.filterMap fun p => if p.1.kind = 4 then some ⟨p.1.name, p.2⟩ else none
theorem tysOf_snoc (l : List (De × Ty)) (d : De) (u : Ty) : tysOf (l ++ [(d, u)]) = tysOf l ++ (if d.kind = 1 ∨ d.kind = 3 then [⟨d.name, u⟩] else []) := by
  unfold tysOf
  rw [List.filterMap_append]
  congr 1
  by_cases h : d.kind = 1 ∨ d.kind = 3
  · simp [h]
  · simp [h]
theorem valsOf_snoc (l : List (De × Ty)) (d : De) (u : Ty) : valsOf (l ++ [(d, u)]) = valsOf l ++ (if d.kind = 4 then [⟨d.name, u⟩] else []) := by
  unfold valsOf
  rw [List.filterMap_append]
  congr 1
  by_cases h : d.kind = 4
  · simp [h]
  · simp [h]
theorem zip_snoc {α β : Type} {ds : List α} {us : List β} {k : Nat} {d : α} {u : β} (hl : us.length = k) (hd : ds[k]? = some d) : (ds.take (k + 1)).zip (us ++ [u]) = (ds.take k).zip us ++ [(d, u)] := by
  rw [List.take_add_one, hd]
  have hk := (List.getElem?_eq_some_iff.1 hd).1
  show (ds.take k ++ [d]).zip (us ++ [u]) = _
  rw [List.zip_append (by rw [List.length_take]; omega)]
  rfl
theorem tysOf_len (l : List (De × Ty)) : (tysOf l).length ≤ l.length := List.length_filterMap_le _ _
theorem valsOf_len (l : List (De × Ty)) : (valsOf l).length ≤ l.length := List.length_filterMap_le _ _
theorem fm_sub {α β : Type} (f : α → Option β) (g : α → ByteArray) (nm : β → ByteArray) (hf : ∀ a b, f a = some b → nm b = g a) : ∀ l : List α, ((l.filterMap f).map nm).Sublist (l.map g)
  | [] => List.Sublist.refl _
  | a :: r => by
    have ih := fm_sub f g nm hf r
    cases h : f a with
    | none => rw [List.filterMap_cons_none h, List.map_cons]; exact ih.cons _
    | some b => rw [List.filterMap_cons_some h, List.map_cons, List.map_cons, hf a b h]; exact ih.cons_cons _
theorem tysOf_names (l : List (De × Ty)) : ((tysOf l).map (·.name)).Sublist (l.map (·.1.name)) := fm_sub (fun p : De × Ty => if p.1.kind = 1 ∨ p.1.kind = 3 then some (⟨p.1.name, p.2⟩ : Nm) else none) (fun p => p.1.name) (fun x : Nm => x.name) (fun a b h => by
  split at h
  · cases h; rfl
  · cases h) l
theorem valsOf_names (l : List (De × Ty)) : ((valsOf l).map (·.name)).Sublist (l.map (·.1.name)) := fm_sub (fun p : De × Ty => if p.1.kind = 4 then some (⟨p.1.name, p.2⟩ : Nm) else none) (fun p => p.1.name) (fun x : Nm => x.name) (fun a b h => by
  split at h
  · cases h; rfl
  · cases h) l
theorem ok7_nodup {m : Mo} (h : Ok7 m) : (m.decs.map (·.name)).Nodup := by
  rw [List.nodup_iff_pairwise_ne, List.pairwise_iff_getElem]
  intro i j hi hj hij e
  simp only [List.length_map] at hi hj
  have hd := h.dec j hj
  have hx : m.decs[j]? = some m.decs[j] := List.getElem?_eq_getElem hj
  rw [dupB_some hx, List.any_eq_false] at hd
  have hm : m.decs[i] ∈ m.decs.take j := by
    have : (m.decs.take j)[i]? = some m.decs[i] := by rw [List.getElem?_take, if_pos hij]; exact List.getElem?_eq_getElem hi
    exact List.mem_of_getElem? this
  have := hd _ hm
  simp only [List.getElem_map] at e
  simp [e] at this
theorem zip_fst {ds : List De} {us : List Ty} (hl : us.length = ds.length) : (ds.zip us).map (·.1.name) = ds.map (·.name) := by
  rw [show (fun p : De × Ty => p.1.name) = (fun d : De => d.name) ∘ Prod.fst from rfl, ← List.map_map, List.map_fst_zip (by omega)]
def ifOf (m : Mo) (pkg : ByteArray) (major : Int) (us : List Ty) : If := ⟨pkg, major, m.name, srtN (tysOf (m.decs.zip us)), srtN (valsOf (m.decs.zip us))⟩
def nT : ByteArray := ⟨#[84]⟩
def BdIs (m : Mo) (pkg : ByteArray) (major : Int) (env : List If) (c j : Int) (x : If) : Prop :=
  (RkOut m c j ∧ c ≠ 0 ∧ x = zIf) ∨ (mayM m = true ∧ Ok7 m ∧ c = 1 ∧ j = -1 ∧ x = zIf ∧ ¬ (mayT (openT m pkg major nT) = true ∧ env.length ≤ 100)) ∨ (MayN m pkg major env ∧
    ((∃ (i : Nat) (d : De) (u : Ty), m.decs[i]? = some d ∧ j = i ∧ c ≠ 0 ∧ x = zIf ∧ EpIs m pkg major env (meantD d) c u ∧ ∀ (k : Nat) (e : De), k < i → m.decs[k]? = some e → ∃ v, EpIs m pkg major env (meantD e) 0 v) ∨
     (c = 0 ∧ j = -1 ∧ ∃ us : List Ty, us.length = m.decs.length ∧ (∀ (i : Nat) (d : De) (u : Ty), m.decs[i]? = some d → us[i]? = some u → EpIs m pkg major env (meantD d) 0 u) ∧ x = ifOf m pkg major us)))
end Go.Proofs.YtcdmgcgjonndpaaGreat

/-  -/
namespace Go.Proofs.YtcdmgcgjonndpaaGreat
open Go Go.RowKit Go.Shelf
open Go.Sort Go.Maps
open M
structure RxN (w4 : World) (g : Nat) (tt : Ty) (A6 : Option Addr) (n c6 : Nat) (A5 : Option Addr) (c5 : Nat) (wr : World) : Prop where
  below : ∀ b, b < g → wr.heap[b]? = w4.heap[b]?
  stay : wr.os = w4.os ∧ wr.tape = w4.tape ∧ wr.output = w4.output ∧ w4.heap.size ≤ wr.heap.size
  box : wr.heap[g]? = some (.cells #[.int .i64 tt.kind, .string tt.pkg, .int .i64 tt.major, .string tt.mod, .string tt.name, .slice A5 tt.names.length c5, .slice A6 n c6] 45 (0, 0))
  own : wr.ownsRow (g + 1) 9 1 (.slice A5 tt.names.length c5) tt.names.length (tt.names.map Value.string)
structure RxI (wb : World) (l2 : Nat) (tt : Ty) (A5 : Option Addr) (c5 : Nat) (xs : List Ty) (A6 : Option Addr) (c6 : Nat) (wr : World) : Prop where
  below : Below wb.heap.size wb wr
  box : wr.heap[wb.heap.size]? = some (.cells #[.int .i64 tt.kind, .string tt.pkg, .int .i64 tt.major, .string tt.mod, .string tt.name, .slice A5 tt.names.length c5, .slice A6 xs.length c6] 45 (0, 0))
  names : NamesAt (strike (fun b => b < wb.heap.size + 1 ∨ l2 ≤ b) wr) A5 tt.names
  rows : Row tR l2 xs A6 c6 wr
  lo : wb.heap.size + 1 ≤ l2
  lole : l2 ≤ wr.heap.size
end Go.Proofs.YtcdmgcgjonndpaaGreat

/-  -/
namespace Go.Proofs.YtcdmgcgjonndpaaGreat
open Go Go.RowKit Go.Shelf
open Go.Sort Go.Maps
open M
end Go.Proofs.YtcdmgcgjonndpaaGreat

/-  -/
namespace Go.Proofs.YtcdmgcgjonndpaaGreat
open Go.RowKit Go.Shelf
open Go.Sort Go.Maps
open M
structure Rq (m : Mo) (t : Ty) (fb n lo : Nat) (W : World) (F : Nat → Bool) (L : List Ty) (A : Option Addr) (c : Nat) (wr : World) : Prop where
  below : Below fb W wr
  found : FoundAt wr fb n F
  rch : Rch m t F L
  own : OwnL wr lo (.slice A L.length c) L
  most : L.length + 9000 * unf n F ≤ 9000 * (n + 1)
end Go.Proofs.YtcdmgcgjonndpaaGreat

/-  -/
namespace Go.Proofs.YtcdmgcgjonndpaaGreat
open Go Go.RowKit Go.Shelf
open Go.Sort Go.Maps
open M
end Go.Proofs.YtcdmgcgjonndpaaGreat

/-  -/
namespace Go.Proofs.YtcdmgcgjonndpaaGreat
open Go Go.RowKit Go.Shelf
open Go.Sort Go.Maps
open M
end Go.Proofs.YtcdmgcgjonndpaaGreat

/-  -/
namespace Go.Proofs.YtcdmgcgjonndpaaGreat
open Go Go.RowKit Go.Shelf
open Go.Sort Go.Maps
open M
theorem ep_one {m : Mo} {pkg : ByteArray} {major : Int} {env : List If} {t u u' : Ty} {c c' : Int} (h : EpIs m pkg major env t c u) (h' : EpIs m pkg major env t c' u') : c = c' ∧ u = u' := by
  rcases h with ⟨rfl, rfl, h⟩ | ⟨h1, h2, h⟩
  · rcases h' with ⟨rfl, rfl, -⟩ | ⟨h1, h2, -⟩
    · exact ⟨rfl, rfl⟩
    · exact absurd ⟨h1, h2⟩ h
  · rcases h' with ⟨-, -, h'⟩ | ⟨-, -, h'⟩
    · exact absurd ⟨h1, h2⟩ h'
    · rcases h with ⟨rfl, rfl, h⟩ | ⟨hk, h⟩
      · rcases h' with ⟨rfl, rfl, -⟩ | ⟨hk, -⟩
        · exact ⟨rfl, rfl⟩
        · rw [h] at hk; cases hk
      · rcases h' with ⟨-, -, h'⟩ | ⟨-, h'⟩
        · rw [hk] at h'; cases h'
        · rcases h with ⟨rfl, rfl, h⟩ | ⟨hl, h⟩
          · rcases h' with ⟨rfl, rfl, -⟩ | ⟨hl, -⟩
            · exact ⟨rfl, rfl⟩
            · rw [h] at hl; cases hl
          · rcases h' with ⟨-, -, h'⟩ | ⟨-, h'⟩
            · rw [hl] at h'; cases h'
            · obtain ⟨k, x, hx, h⟩ := h
              obtain ⟨k', x', hx', h'⟩ := h'
              obtain rfl := exp_one _ _ _ _ _ hx hx'
              rcases h with ⟨rfl, rfl, h⟩ | ⟨rfl, rfl, ha, hb⟩
              · rcases h' with ⟨rfl, rfl, -⟩ | ⟨-, -, ha, hb⟩
                · exact ⟨rfl, rfl⟩
                · omega
              · rcases h' with ⟨-, -, h'⟩ | ⟨rfl, rfl, -⟩
                · omega
                · exact ⟨rfl, rfl⟩
end Go.Proofs.YtcdmgcgjonndpaaGreat

/-  -/
namespace Go.Proofs.YtcdmgcgjonndpaaGreat
open Go Go.RowKit
open M
theorem rises_of {gr : Bool} {l : List Nm} (h1 : l.Pairwise upNm) (h2 : (l.map fun z : Nm => z.name).Nodup) (h3 : ∀ x ∈ l, nameOk gr x.name = true ∧ mayT x.typ = true ∧ plainT x.typ = true) : risesN gr l = true := by
  refine rises_yes fun i hi => ?_
  have hx : l[i]? = some l[i] := List.getElem?_eq_getElem hi
  obtain ⟨a, b, c⟩ := h3 _ (List.getElem_mem hi)
  cases i with
  | zero => rw [okAt_0 hx, a, b, c]; rfl
  | succ k =>
    have hk : k < l.length := by omega
    have hy : l[k]? = some l[k] := List.getElem?_eq_getElem hk
    have hp := List.pairwise_iff_getElem.1 h1 k (k + 1) hk hi (by omega)
    have hp' : Op.bytesLess l[k + 1].name.toList l[k].name.toList = false := hp
    have hlt : Op.bytesLess l[k].name.toList l[k + 1].name.toList = true := by
      cases e : Op.bytesLess l[k].name.toList l[k + 1].name.toList with
      | true => rfl
      | false =>
        exfalso
        have e1 := bl_tri _ _ e hp'
        rw [Lib.toList_data, Lib.toList_data] at e1
        have e2 : l[k].name.data = l[k + 1].name.data := Array.toList_inj.1 e1
        have e3 : l[k].name = l[k + 1].name := by
          cases ha : l[k].name; cases hb : l[k + 1].name
          rw [ha, hb] at e2
          simpa using e2
        rw [List.nodup_iff_pairwise_ne, List.pairwise_iff_getElem] at h2
        have := h2 k (k + 1) (by simpa using hk) (by simpa using hi) (by omega)
        simp only [List.getElem_map] at this
        exact this e3
    rw [okAt_s hx hy, a, b, c, leS_eq, hlt]; rfl
theorem zip_at {m : Mo} {us : List Ty} {p : De × Ty} (h : p ∈ m.decs.zip us) : ∃ i : Nat, m.decs[i]? = some p.1 ∧ us[i]? = some p.2 := by
  obtain ⟨i, hi⟩ := List.mem_iff_getElem?.1 h
  refine ⟨i, ?_⟩
  have := List.getElem?_zip_eq_some.1 hi
  exact this
theorem tys_kind {l : List (De × Ty)} {x : Nm} (h : x ∈ tysOf l) : ∃ p ∈ l, x = ⟨p.1.name, p.2⟩ ∧ (p.1.kind = 1 ∨ p.1.kind = 3) := by
  obtain ⟨p, hp, e⟩ := List.mem_filterMap.1 h
  split at e
  · rename_i hk; cases e; exact ⟨p, hp, rfl, hk⟩
  · cases e
theorem vals_kind {l : List (De × Ty)} {x : Nm} (h : x ∈ valsOf l) : ∃ p ∈ l, x = ⟨p.1.name, p.2⟩ ∧ p.1.kind = 4 := by
  obtain ⟨p, hp, e⟩ := List.mem_filterMap.1 h
  split at e
  · rename_i hk; cases e; exact ⟨p, hp, rfl, hk⟩
  · cases e
theorem mayD_great {d : De} (h : mayD d = true) (hk : d.kind = 1 ∨ d.kind = 3) : greatB d.name.data.toList = true := by
  unfold mayD at h
  rcases hk with hk | hk
  · rw [if_pos (.inl hk)] at h; exact ((Bool.and_eq_true _ _).mp h).1
  · rw [if_neg (by rw [hk]; decide), if_pos hk] at h; exact ((Bool.and_eq_true _ _).mp h).1
theorem mayD_small {d : De} (h : mayD d = true) (hk : d.kind = 4) : smallB d.name.data.toList = true := by
  unfold mayD at h
  rw [if_neg (by rw [hk]; decide), if_neg (by rw [hk]; decide), if_pos hk] at h; exact ((Bool.and_eq_true _ _).mp h).1
def AllEp (m : Mo) (pkg : ByteArray) (major : Int) (env : List If) (us : List Ty) : Prop := us.length = m.decs.length ∧ ∀ (i : Nat) (d : De) (u : Ty), m.decs[i]? = some d → us[i]? = some u → EpIs m pkg major env (meantD d) 0 u
theorem names_dec {m : Mo} {us : List Ty} (ok : Ok7 m) (hl : us.length = m.decs.length) : ((tysOf (m.decs.zip us)).map fun z : Nm => z.name).Nodup ∧ ((valsOf (m.decs.zip us)).map fun z : Nm => z.name).Nodup := by
  have h1 := tysOf_names (m.decs.zip us)
  have h2 := valsOf_names (m.decs.zip us)
  rw [zip_fst hl] at h1 h2
  exact ⟨h1.nodup (ok7_nodup ok), h2.nodup (ok7_nodup ok)⟩
theorem if_may {m : Mo} {pkg : ByteArray} {major : Int} {env : List If} {us : List Ty} (hm : MayN m pkg major env) (h : AllEp m pkg major env us) : mayIf (ifOf m pkg major us) = true := by
  obtain ⟨⟨h1, h2⟩, h3, -⟩ := id hm
  have hd := (mayM_parts h1).2.2.2
  obtain ⟨n1, n2⟩ := names_dec h2 h.1
  have r1 : risesN true (srtN (tysOf (m.decs.zip us))) = true := by
    refine rises_of (srtN_sorted _) (((srtN_perm _).map _).nodup_iff.2 n1) fun x hx => ?_
    obtain ⟨p, hp, rfl, hk⟩ := tys_kind ((srtN_perm _).mem_iff.1 hx)
    obtain ⟨i, e1, e2⟩ := zip_at hp
    have z := ep_zero (h.2 i _ _ e1 e2)
    exact ⟨mayD_great (hd _ (List.mem_of_getElem? e1)) hk, z.2.2.1, z.2.2.2⟩
  have r2 : risesN false (srtN (valsOf (m.decs.zip us))) = true := by
    refine rises_of (srtN_sorted _) (((srtN_perm _).map _).nodup_iff.2 n2) fun x hx => ?_
    obtain ⟨p, hp, rfl, hk⟩ := vals_kind ((srtN_perm _).mem_iff.1 hx)
    obtain ⟨i, e1, e2⟩ := zip_at hp
    have z := ep_zero (h.2 i _ _ e1 e2)
    exact ⟨mayD_small (hd _ (List.mem_of_getElem? e1)) hk, z.2.2.1, z.2.2.2⟩
  unfold mayIf
  show (mayT (opT pkg major m.name ⟨#[84]⟩) && (risesN true (srtN (tysOf (m.decs.zip us))) && risesN false (srtN (valsOf (m.decs.zip us))))) = true
  rw [r1, r2]
  have h3' : mayT (opT pkg major m.name ⟨#[84]⟩) = true := h3
  rw [h3']; rfl
theorem bd_zero {m : Mo} {pkg : ByteArray} {major : Int} {env : List If} {j : Int} {x : If} (h : BdIs m pkg major env 0 j x) : MayN m pkg major env ∧ ∃ us, AllEp m pkg major env us ∧ x = ifOf m pkg major us := by
  rcases h with ⟨-, h, -⟩ | ⟨-, -, h, -⟩ | ⟨hm, h⟩
  · exact absurd rfl h
  · cases h
  · rcases h with ⟨i, d, u, -, -, h, -⟩ | ⟨-, -, us, h1, h2, h3⟩
    · exact absurd rfl h
    · exact ⟨hm, us, ⟨h1, h2⟩, h3⟩
theorem bd_may {m : Mo} {pkg : ByteArray} {major : Int} {env : List If} {j : Int} {x : If} (h : BdIs m pkg major env 0 j x) : mayIf x = true := by
  obtain ⟨hm, us, h1, rfl⟩ := bd_zero h
  exact if_may hm h1
theorem mean_turn {m : Mo} {k : Nat} (hk : k < m.decs.length) (ok : Ok7 m) (pkg : ByteArray) (major : Int) (env : List If) : meanT (turned m k) pkg major env = meanT m pkg major env := by
  have hE := turned_emb m k hk
  have ht := hE.typ ok.dec
  funext x
  unfold meanT
  split
  · have hx := ht x.name
    rw [hx]
    cases h1 : typAt (turned m k) x.name with
    | none => rfl
    | some i =>
      obtain ⟨d, hd⟩ := dec_at (typAt_lt h1)
      have hd2 := hE.dec i d hd
      show Option.map _ ((turned m k).decs[i]?) = Option.map _ (m.decs[_]?)
      rw [hd, hd2]; rfl
  · rfl
theorem ep_turn {m : Mo} {k : Nat} (hk : k < m.decs.length) {pkg : ByteArray} {major : Int} {env : List If} {t u : Ty} (h : EpIs m pkg major env t 0 u) : EpIs (turned m k) pkg major env t 0 u := by
  rcases h with ⟨h, -⟩ | ⟨hm, hmt, h⟩
  · cases h
  rcases h with ⟨h, -⟩ | ⟨hkn, h⟩
  · cases h
  rcases h with ⟨h, -⟩ | ⟨hla, hh, x, hx, h⟩
  · cases h
  rcases h with ⟨h, -⟩ | ⟨-, rfl, hs1, hs2⟩
  · cases h
  have ok := hm.1.2
  have hE := turned_emb m k hk
  have ht := hE.typ ok.dec
  have hM : MayN (turned m k) pkg major env := ⟨⟨(turned_may m k (by omega)).trans hm.1.1, (turned_ok m k hk).2 ok⟩, hm.2.1, hm.2.2⟩
  have e1 : knoN (turned m k) = knoN m := by
    funext y
    unfold knoN
    split
    · rw [ht y.name]; cases typAt (turned m k) y.name <;> rfl
    · rfl
  refine .inr ⟨hM, hmt, .inr ⟨by rw [e1]; exact hkn, .inr ⟨?_, hh, u, by rw [mean_turn hk ok]; exact hx, .inr ⟨rfl, rfl, hs1, hs2⟩⟩⟩⟩
  rw [List.any_eq_false] at hla ⊢
  intro s hs
  have hs' : s ∈ allK m t m.decs.length := by
    rcases allK_mem hs with rfl | ⟨j, d, hd, h3, hr, rfl⟩
    · unfold allK; exact List.mem_cons_self
    · have h4 := reach_emb hE ht hr
      rw [← (said_emb hE.imps ht t).1] at h4
      exact allK_has (hE.dec j d hd) h3 h4
  exact hla s hs'
theorem zip_turn {α β : Type} (a : List α) (b : List β) (k : Nat) (hl : b.length = a.length) : ((a.drop k ++ a.take k).zip (b.drop k ++ b.take k)).Perm (a.zip b) := by
  rw [List.zip_append (by rw [List.length_drop, List.length_drop, hl])]
  refine List.perm_append_comm.trans ?_
  have : (a.take k).zip (b.take k) ++ (a.drop k).zip (b.drop k) = a.zip b := by
    rw [← List.zip_append (by rw [List.length_take, List.length_take, hl]), List.take_append_drop, List.take_append_drop]
  rw [this]
theorem turn_at {m : Mo} {us : List Ty} (k : Nat) (hl : us.length = m.decs.length) {P : De → Ty → Prop} (h : ∀ (i : Nat) (d : De) (u : Ty), m.decs[i]? = some d → us[i]? = some u → P d u) :
    ∀ (i : Nat) (d : De) (u : Ty), (turned m k).decs[i]? = some d → (us.drop k ++ us.take k)[i]? = some u → P d u := by
  intro i d u h1 h2
  have h1 : (m.decs.drop k ++ m.decs.take k)[i]? = some d := h1
  rw [List.getElem?_append] at h1 h2
  rw [List.length_drop] at h1 h2
  rw [hl] at h2
  split at h1
  · rename_i hi
    rw [if_pos hi] at h2
    rw [List.getElem?_drop] at h1 h2
    exact h _ _ _ h1 h2
  · rename_i hi
    rw [if_neg hi] at h2
    rw [List.getElem?_take] at h1 h2
    split at h1
    · rename_i hj
      rw [if_pos hj] at h2
      exact h _ _ _ h1 h2
    · cases h1
theorem bd_turn {m : Mo} {k : Nat} (hk : k < m.decs.length) {pkg : ByteArray} {major : Int} {env : List If} {j c' j' : Int} {x y : If} (h : BdIs m pkg major env 0 j x) (h' : BdIs (turned m k) pkg major env c' j' y) : c' = 0 ∧ x = y := by
  obtain ⟨hm, us, ⟨hl, hus⟩, rfl⟩ := bd_zero h
  have ok := hm.1.2
  have ok' := (turned_ok m k hk).2 ok
  have may' : mayM (turned m k) = true := (turned_may m k (by omega)).trans hm.1.1
  have hup := turn_at k hl hus
  have hlt : (us.drop k ++ us.take k).length = (turned m k).decs.length := by
    rw [turned_len m k (by omega), List.length_append, List.length_drop, List.length_take]; omega
  rcases h' with ⟨hr, hc, -⟩ | ⟨-, -, -, -, -, hn⟩ | ⟨-, h'⟩
  · exfalso
    rcases hr with ⟨e, -⟩ | ⟨-, e⟩
    · rw [may'] at e; cases e
    · rw [check7_none.2 ok'] at e
      exact hc e.1
  · exact absurd ⟨hm.2.1, hm.2.2⟩ hn
  · rcases h' with ⟨i, d, u, hd, -, hc, -, he, -⟩ | ⟨hc, -, vs, hvl, hvs, rfl⟩
    · exfalso
      have hi : i < (us.drop k ++ us.take k).length := by rw [hlt]; exact dec_lt hd
      have e1 := ep_turn hk (hup i d _ hd (List.getElem?_eq_getElem hi))
      exact hc (ep_one he e1).1
    · refine ⟨hc, ?_⟩
      have ev : vs = us.drop k ++ us.take k := by
        refine List.ext_getElem? fun i => ?_
        rcases Nat.lt_or_ge i (turned m k).decs.length with q | q
        · obtain ⟨d, hd⟩ := dec_at q
          have e1 : vs[i]? = some (vs[i]'(by omega)) := List.getElem?_eq_getElem _
          have e2 : (us.drop k ++ us.take k)[i]? = some ((us.drop k ++ us.take k)[i]'(by omega)) := List.getElem?_eq_getElem _
          rw [e1, e2, (ep_one (hvs i d _ hd e1) (ep_turn hk (hup i d _ hd e2))).2]
        · rw [List.getElem?_eq_none (by omega), List.getElem?_eq_none (by omega)]
      subst ev
      have hp : ((turned m k).decs.zip (us.drop k ++ us.take k)).Perm (m.decs.zip us) := zip_turn m.decs us k hl
      obtain ⟨n1, n2⟩ := names_dec ok hl
      have t1 : srtN (tysOf ((turned m k).decs.zip (us.drop k ++ us.take k))) = srtN (tysOf (m.decs.zip us)) := srtN_one ((srtN_perm _).trans (hp.filterMap _)) (srtN_sorted _) n1
      have t2 : srtN (valsOf ((turned m k).decs.zip (us.drop k ++ us.take k))) = srtN (valsOf (m.decs.zip us)) := srtN_one ((srtN_perm _).trans (hp.filterMap _)) (srtN_sorted _) n2
      unfold ifOf
      rw [t1, t2]
      rfl
theorem bd_turn_no {m : Mo} {k : Nat} (hk : k < m.decs.length) {pkg : ByteArray} {major : Int} {env : List If} {c j j' : Int} {x y : If} (h : BdIs m pkg major env c j x) (h' : BdIs (turned m k) pkg major env 0 j' y) : c = 0 := by
  by_cases h0 : k = 0
  · subst h0
    rw [turned_zero] at h'
    have := bd_turn (m := m) (k := 0) hk h' (by rw [turned_zero]; exact h)
    exact this.1
  · have e := turned_back m k (by omega)
    have hl := turned_len m k (by omega)
    exact (bd_turn (m := turned m k) (k := m.decs.length - k) (by omega) h' (by rw [e]; exact h)).1
end Go.Proofs.YtcdmgcgjonndpaaGreat

/-  -/
namespace Go.Proofs.YtcdmgcgjonndpaaGreat
open Go
open Go.Sort
open M
def AtN (t : Ty) (s : ByteArray) (x : Ty) : Prop := ∃ i : Nat, t.names[i]? = some s ∧ t.subs[i]? = some x
theorem sub_lt {x t : Ty} (h : x ∈ t.subs) : many x < many t := by
  have h1 := manyL_mem _ _ h
  have e : many t = 1 + manyL t.subs := by cases t; rfl
  omega
theorem sub_lt_at {x t : Ty} {i : Nat} (h : t.subs[i]? = some x) : many x < many t := sub_lt (List.mem_of_getElem? h)
theorem AtN.lt {t x : Ty} {s : ByteArray} (h : AtN t s x) : many x < many t := by
  obtain ⟨i, -, h⟩ := h
  exact sub_lt_at h
theorem empty_is {s : ByteArray} (h : emptyB s = true) : s = ⟨#[]⟩ := by
  unfold emptyB at h
  have h := of_decide_eq_true h
  cases s with | mk d => cases d with | mk l =>
  simp only [ByteArray.size, List.size_toArray, List.length_eq_zero_iff] at h
  rw [h]
structure Bare (t : Ty) : Prop where
  pkg : t.pkg = ⟨#[]⟩
  major : t.major = 0
  mod : t.mod = ⟨#[]⟩
  name : t.name = ⟨#[]⟩
def SubR (a b : Ty) : Prop :=
  a.kind = b.kind ∧
  (a.kind = 5 → ∀ s y, AtN b s y → ∃ x, ∃ _ : AtN a s x, ∃ _ : AtN b s y, SubR x y) ∧
  (a.kind = 6 → ∀ s x, AtN a s x → ∃ y, ∃ _ : AtN a s x, ∃ _ : AtN b s y, SubR x y) ∧
  ((a.kind = 4 ∨ a.kind = 7) → a.subs.length = b.subs.length ∧ ∀ i x y, (hx : a.subs[i]? = some x) → (hy : b.subs[i]? = some y) → (i + 1 = a.subs.length → SubR x y) ∧ (i + 1 ≠ a.subs.length → SubR y x)) ∧
  ((a.kind ≠ 4 ∧ a.kind ≠ 5 ∧ a.kind ≠ 6 ∧ a.kind ≠ 7) → a = b)
termination_by many a + many b
decreasing_by
  · rename_i h1 h2
    have := h1.lt; have := h2.lt; omega
  · rename_i h1 h2
    have := h1.lt; have := h2.lt; omega
  · have := sub_lt_at hx; have := sub_lt_at hy; omega
  · have := sub_lt_at hx; have := sub_lt_at hy; omega
def Le (up : Bool) (a b : Ty) : Prop := if up = true then SubR a b else SubR b a
end Go.Proofs.YtcdmgcgjonndpaaGreat

/-  -/
namespace Go.Proofs.YtcdmgcgjonndpaaGreat
open Go Go.RowKit Go.Shelf
open Go.Sort
open M
end Go.Proofs.YtcdmgcgjonndpaaGreat

/-  -/
namespace Go.Proofs.YtcdmgcgjonndpaaGreat
open Go Go.RowKit Go.Shelf
open Go.Sort
open M
end Go.Proofs.YtcdmgcgjonndpaaGreat

/-  -/
namespace Go.Proofs.YtcdmgcgjonndpaaGreat
open Go Go.RowKit Go.Shelf
open Go.Sort
open M
end Go.Proofs.YtcdmgcgjonndpaaGreat

/-  -/
namespace Go.Proofs.YtcdmgcgjonndpaaGreat
open Go Go.RowKit Go.Shelf
open Go.Sort
open M
end Go.Proofs.YtcdmgcgjonndpaaGreat

/-  -/
namespace Go.Proofs.YtcdmgcgjonndpaaGreat
open Go Go.RowKit Go.Shelf
open Go.Sort
open M
end Go.Proofs.YtcdmgcgjonndpaaGreat

/-  -/
namespace Go.Proofs.YtcdmgcgjonndpaaGreat
open Go Go.RowKit Go.Shelf
open Go.Sort
open M
end Go.Proofs.YtcdmgcgjonndpaaGreat

/-  -/
namespace Go.Proofs.YtcdmgcgjonndpaaGreat
open Go Go.RowKit Go.Shelf
open Go.Sort
open M
structure RowB {α : Type} (R : Reads α) (S : Nat → Prop) (lo : Nat) (xs : List α) (A : Option Addr) (c : Nat) (w : World) : Prop where
  cells : ∃ C : List (List Value), C.length = xs.length ∧ w.ownsRow lo R.T R.k (.slice A xs.length c) xs.length C.flatten ∧
    ∀ (i : Nat) (l : List Value) (x : α), C[i]? = some l → xs[i]? = some x → R.E (strike (fun b => S b ∨ (Value.slice A xs.length c).ownBlock = some b) w) l x
theorem RowB.start {α : Type} (R : Reads α) (S : Nat → Prop) (lo : Nat) (w : World) : RowB R S lo [] none 0 w := ⟨[], rfl, World.ownsRow_nil _ _ _ _, fun i l x h => by simp at h⟩
theorem own_block {w w' : World} {B : Nat} {e : TypeId} {z : Nat} {v : Value} {n : Nat} {xs : List Value} (h : w.ownsRow B e z v n xs) (hb : ∀ b, v.ownBlock = some b → w'.heap[b]? = w.heap[b]?) : w'.ownsRow B e z v n xs := by
  refine ⟨h.1, ?_⟩
  rcases h.2 with h | ⟨g, cap, cur, hv, hB, hg, rest⟩
  · exact .inl h
  · exact .inr ⟨g, cap, cur, hv, hB, (hb g (by rw [hv]; rfl)).trans hg, rest⟩
theorem RowB.lt {α : Type} {R : Reads α} {S : Nat → Prop} {lo : Nat} {xs : List α} {A : Option Addr} {c : Nat} {w : World} (h : RowB R S lo xs A c w) {b : Nat} (e : (Value.slice A xs.length c).ownBlock = some b) : lo ≤ b ∧ b < w.heap.size := by
  obtain ⟨C, h1, h3, h4⟩ := h.cells
  exact h3.lt b e
theorem RowB.keep {α : Type} {R : Reads α} {S S' : Nat → Prop} {lo : Nat} {xs : List α} {A : Option Addr} {c : Nat} {w w' : World} (h : RowB R S lo xs A c w) (hz : w.heap.size ≤ w'.heap.size) (ho : ∀ b, (Value.slice A xs.length c).ownBlock = some b → w'.heap[b]? = w.heap[b]?)
    (hb : ∀ b, ¬ S b → (Value.slice A xs.length c).ownBlock ≠ some b → b < w.heap.size → ¬ S' b ∧ w'.heap[b]? = w.heap[b]?) : RowB R S' lo xs A c w' := by
  obtain ⟨C, h1, h3, h4⟩ := h.cells
  refine ⟨C, h1, own_block h3 ho, fun i l x hl hx => R.move _ _ _ _ _ _ (h4 i l x hl hx) hz fun b hlt hS => ?_⟩
  obtain ⟨k1, k2⟩ := hb b (fun e => hS (.inl e)) (fun e => hS (.inr e)) hlt
  exact ⟨fun e => e.elim k1 (fun e => hS (.inr e)), k2⟩
theorem RowB.more {α : Type} {R : Reads α} {S S' : Nat → Prop} {lo g cap c : Nat} {xs : List α} {A : Option Addr} {w1 w3 : World} {o : Obj} {l : List Value} {x : α} {C : List (List Value)}
    (hS' : ∀ b, S b ∨ (Value.slice A xs.length c).ownBlock = some b → S' b) (hSs : ∀ b, S b → b < w1.heap.size)
    (hC1 : C.length = xs.length) (hC4 : ∀ (i : Nat) (l : List Value) (x : α), C[i]? = some l → xs[i]? = some x → R.E (strike (fun b => S b ∨ (Value.slice A xs.length c).ownBlock = some b) w1) l x)
    (hE : R.E (strike S' w1) l x) (hown : w3.ownsRow lo R.T R.k (.slice (some ⟨g, 0, none⟩) (xs.length + 1) cap) (xs.length + 1) (C.flatten ++ l)) (hgrow : (w1.alloc o).grownBy w3 (Value.slice A xs.length c).ownBlock)
    (hat : (Value.slice A xs.length c).ownBlock = some g ∨ g = (w1.alloc o).heap.size) :
    RowB R S lo (xs ++ [x]) (some ⟨g, 0, none⟩) cap w3 ∧ (∀ b, (Value.slice A xs.length c).ownBlock ≠ some b → b < w1.heap.size → w3.heap[b]? = w1.heap[b]?) ∧ w1.heap.size ≤ w3.heap.size := by
  have hsz : (w1.alloc o).heap.size = w1.heap.size + 1 := by simp
  have hsz3 := hgrow.size
  have hold : ∀ b, b < w1.heap.size → (Value.slice A xs.length c).ownBlock ≠ some b → w3.heap[b]? = w1.heap[b]? := fun b hb hne => by
    rw [hgrow.block b (by omega) (fun e => hne e.symm)]
    exact Lib.alloc_old w1 o b hb
  have mv : ∀ l x, R.E (strike (fun b => S b ∨ (Value.slice A xs.length c).ownBlock = some b) w1) l x → R.E (strike (fun b => S b ∨ (Value.slice (some ⟨g, 0, none⟩) (xs ++ [x]).length cap).ownBlock = some b) w3) l x := fun l x hT => by
    refine R.move _ _ _ _ _ _ hT (by omega) fun b hb hS => ⟨?_, hold b hb (fun e => hS (.inr e))⟩
    rintro (e | e)
    · exact hS (.inl e)
    · simp [Value.ownBlock] at e
      subst e
      rcases hat with e | e
      · exact hS (.inr e)
      · omega
  have hT : R.E (strike (fun b => S b ∨ (Value.slice A xs.length c).ownBlock = some b) w1) l x := R.move _ _ _ _ _ _ hE (Nat.le_refl _) fun b hlt hS => ⟨fun e => hS (hS' b e), rfl⟩
  refine ⟨⟨C ++ [l], by simp [hC1], ?_, fun i y u hy hu => ?_⟩, fun b hb hlt => hold b hlt hb, by omega⟩
  · rw [List.length_append]
    simpa using hown
  · rcases Nat.lt_or_ge i xs.length with hi | hi
    · rw [List.getElem?_append_left (by omega)] at hy hu
      have := mv y u (hC4 i y u hy hu)
      simpa [Value.ownBlock] using this
    · have hi' := (List.getElem?_eq_some_iff.1 hy).1
      have : i = xs.length := by simp [hC1] at hi'; omega
      subst this
      rw [List.getElem?_append_right (by omega)] at hy hu
      simp [hC1] at hy
      simp at hu
      rw [← hy, ← hu]
      have := mv l x hT
      simpa [Value.ownBlock] using this
end Go.Proofs.YtcdmgcgjonndpaaGreat

/-  -/
namespace Go.Proofs.YtcdmgcgjonndpaaGreat
open Go Go.RowKit Go.Shelf
open Go.Sort
open M
end Go.Proofs.YtcdmgcgjonndpaaGreat

/-  -/
namespace Go.Proofs.YtcdmgcgjonndpaaGreat
open Go Go.RowKit Go.Shelf
open Go.Sort
open M
end Go.Proofs.YtcdmgcgjonndpaaGreat

/-  -/
namespace Go.Proofs.YtcdmgcgjonndpaaGreat
open Go
open Go.Sort
open M
end Go.Proofs.YtcdmgcgjonndpaaGreat

/-  -/
namespace Go.Proofs.YtcdmgcgjonndpaaGreat
open Go Go.RowKit Go.Shelf
open Go.Sort
open M
theorem rowB_more {α : Type} {R : Reads α} {S S' : Nat → Prop} {lo d g cap c : Nat} {xs : List α} {A : Option Addr} {w1 w3 : World} {o : Obj} {l : List Value} {x : α} {C : List (List Value)} {old : Array Value} {T : TypeId} {k : Nat}
    (h : RowB R S lo xs A c w1) (hS' : ∀ b, S b ∨ (Value.slice A xs.length c).ownBlock = some b → S' b) (hSs : ∀ b, S b → b < w1.heap.size)
    (hC1 : C.length = xs.length) (hC4 : ∀ (i : Nat) (l : List Value) (x : α), C[i]? = some l → xs[i]? = some x → R.E (strike (fun b => S b ∨ (Value.slice A xs.length c).ownBlock = some b) w1) l x)
    (hE : R.E (strike S' w1) l x) (hown : w3.ownsRow lo R.T R.k (.slice (some ⟨g, 0, none⟩) (xs.length + 1) cap) (xs.length + 1) (C.flatten ++ l)) (hgrow : (w1.alloc o).grownBy w3 (Value.slice A xs.length c).ownBlock)
    (hat : (Value.slice A xs.length c).ownBlock = some g ∨ g = (w1.alloc o).heap.size) (hd : d < lo) (hSd : S d) (hbox : w1.heap[d]? = some (.cells old T (0, 0))) (hk : old[k]? = some (.slice A xs.length c)) :
    RowB R S lo (xs ++ [x]) (some ⟨g, 0, none⟩) cap (w3.setCell ⟨d, k, none⟩ (.slice (some ⟨g, 0, none⟩) (xs.length + 1) cap)) ∧
    (w3.setCell ⟨d, k, none⟩ (.slice (some ⟨g, 0, none⟩) (xs.length + 1) cap)).heap[d]? = some (.cells (old.setIfInBounds k (.slice (some ⟨g, 0, none⟩) (xs.length + 1) cap)) T (0, 0)) ∧
    (∀ b, (Value.slice A xs.length c).ownBlock ≠ some b → b ≠ d → b < w1.heap.size → (w3.setCell ⟨d, k, none⟩ (.slice (some ⟨g, 0, none⟩) (xs.length + 1) cap)).heap[b]? = w1.heap[b]?) ∧
    (∀ m, m ≤ d → Below m w1 (w3.setCell ⟨d, k, none⟩ (.slice (some ⟨g, 0, none⟩) (xs.length + 1) cap))) ∧
    w3.cell? ⟨d, k, none⟩ = some (.slice A xs.length c) ∧ w3.frozen? ⟨d, k, none⟩ = false ∧ w1.heap.size ≤ (w3.setCell ⟨d, k, none⟩ (.slice (some ⟨g, 0, none⟩) (xs.length + 1) cap)).heap.size := by
  obtain ⟨R3, old3, hs3⟩ := RowB.more hS' hSs hC1 hC4 hE hown hgrow hat
  have hlow : ∀ b, (Value.slice A xs.length c).ownBlock = some b → lo ≤ b := fun b e => (h.lt e).1
  have hd1 : d < w1.heap.size := (Array.getElem?_eq_some_iff.1 hbox).1
  have B3 := (old3 d (fun e => by have := hlow d e; omega) hd1).trans hbox
  have ot : ∀ b, b ≠ d → (w3.setCell ⟨d, k, none⟩ (.slice (some ⟨g, 0, none⟩) (xs.length + 1) cap)).heap[b]? = w3.heap[b]? := fun b hb => Below.heap_setCell _ _ _ _ (by show b ≠ d; exact hb)
  have of : ∀ b, (Value.slice A xs.length c).ownBlock ≠ some b → b ≠ d → b < w1.heap.size → (w3.setCell ⟨d, k, none⟩ (.slice (some ⟨g, 0, none⟩) (xs.length + 1) cap)).heap[b]? = w1.heap[b]? := fun b hb hne hlt => (ot b hne).trans (old3 b hb hlt)
  have hgo : lo ≤ g ∨ True := .inr trivial
  refine ⟨R3.keep (by simp) (fun b hb => ot b (fun e => ?_)) (fun b h1 h2 h3 => ⟨h1, ot b (fun e => h1 (e ▸ hSd))⟩), Joins.block_setCell (i := k) B3 _, of, fun m hm => ?_, ?_, Lib.frozen_of_heap B3 k, by simp; omega⟩
  · subst e
    have := (R3.lt hb).1
    omega
  · have hgw := hgrow
    exact ⟨hgw.os.trans rfl, hgw.tape.trans rfl, hgw.output.trans rfl, by simp; omega, fun j hj => of j (fun e => by have := hlow j e; omega) (by omega) (by omega)⟩
  · rw [Lib.cell_of_heap B3 k]; exact hk
structure CmI (w0 w : World) (kd : Int) (ns : List ByteArray) (xs : List Ty) (A5 : Option Addr) (c5 : Nat) (A6 : Option Addr) (c6 : Nat) (bx lo : Nat) (wr : World) : Prop where
  below : Below w.heap.size w wr
  size : lo ≤ wr.heap.size
  box : wr.heap[bx]? = some (.cells #[.int .i64 kd, .string ⟨#[]⟩, .int .i64 0, .string ⟨#[]⟩, .string ⟨#[]⟩, .slice A5 ns.length c5, .slice A6 xs.length c6] 45 (0, 0))
  names : RowB stR (fun k => k < lo) lo ns A5 c5 wr
  types : RowB tR (fun k => (w0.heap.size ≤ k ∧ k < lo) ∨ (Value.slice A5 ns.length c5).ownBlock = some k) lo xs A6 c6 wr
  apart : ∀ b, (Value.slice A5 ns.length c5).ownBlock = some b → (Value.slice A6 xs.length c6).ownBlock ≠ some b
end Go.Proofs.YtcdmgcgjonndpaaGreat

/-  -/
namespace Go.Proofs.YtcdmgcgjonndpaaGreat
open Go Go.RowKit Go.Shelf
open Go.Sort
open M
structure BuI (w : World) (bx : Nat) (p : ByteArray) (j : Int) (d : ByteArray) (T V : List Nm) (At : Option Addr) (ct : Nat) (Av : Option Addr) (cv : Nat) (wr : World) : Prop where
  below : Below w.heap.size w wr
  size : bx + 1 ≤ wr.heap.size
  box : wr.heap[bx]? = some (.cells #[.string p, .int .i64 j, .string d, .slice At T.length ct, .slice Av V.length cv] 24 (0, 0))
  types : RowB nmR (fun k => k < bx + 1 ∨ (Value.slice Av V.length cv).ownBlock = some k) (bx + 1) T At ct wr
  vals : RowB nmR (fun k => k < bx + 1 ∨ (Value.slice At T.length ct).ownBlock = some k) (bx + 1) V Av cv wr
  apart : ∀ b, (Value.slice At T.length ct).ownBlock = some b → (Value.slice Av V.length cv).ownBlock ≠ some b
theorem BuI.keep {w : World} {bx : Nat} {p : ByteArray} {j : Int} {d : ByteArray} {T V : List Nm} {At : Option Addr} {ct : Nat} {Av : Option Addr} {cv : Nat} {wr wr' : World} (h : BuI w bx p j d T V At ct Av cv wr) (hb : Below wr.heap.size wr wr') : BuI w bx p j d T V At ct Av cv wr' :=
  ⟨below_over h.below hb, Nat.le_trans h.size hb.size, (hb.block _ (by have := h.size; omega)).trans h.box,
    h.types.keep hb.size (fun b hb' => hb.block _ (h.types.lt hb').2) (fun b h1 h2 h3 => ⟨h1, hb.block _ h3⟩),
    h.vals.keep hb.size (fun b hb' => hb.block _ (h.vals.lt hb').2) (fun b h1 h2 h3 => ⟨h1, hb.block _ h3⟩), h.apart⟩
theorem BuI.type {w : World} {bx : Nat} {p : ByteArray} {j : Int} {d : ByteArray} {T V : List Nm} {At : Option Addr} {ct : Nat} {Av : Option Addr} {cv : Nat} {wr w3 : World} {g cap B : Nat} {o : Obj} {l : List Value} {x : Nm} {C : List (List Value)} (h : BuI w bx p j d T V At ct Av cv wr) (hw : w.heap.size ≤ bx)
    (hE : nmE (strike (fun k => k < B) wr) l x) (hB : bx + 1 ≤ B) (hBs : B ≤ wr.heap.size) (hBt : ∀ b, (Value.slice At T.length ct).ownBlock = some b → b < B) (hBv : ∀ b, (Value.slice Av V.length cv).ownBlock = some b → b < B)
    (hC1 : C.length = T.length) (hC4 : ∀ (i : Nat) (l : List Value) (x : Nm), C[i]? = some l → T[i]? = some x → nmR.E (strike (fun b => (b < bx + 1 ∨ (Value.slice Av V.length cv).ownBlock = some b) ∨ (Value.slice At T.length ct).ownBlock = some b) wr) l x)
    (hown : w3.ownsRow (bx + 1) 49 8 (.slice (some ⟨g, 0, none⟩) (T.length + 1) cap) (T.length + 1) (C.flatten ++ l)) (hgrow : (wr.alloc o).grownBy w3 (Value.slice At T.length ct).ownBlock) (hat : (Value.slice At T.length ct).ownBlock = some g ∨ g = (wr.alloc o).heap.size) :
    BuI w bx p j d (T ++ [x]) V (some ⟨g, 0, none⟩) cap Av cv (w3.setCell ⟨bx, 3, none⟩ (.slice (some ⟨g, 0, none⟩) (T.length + 1) cap)) ∧
    (∀ m, m ≤ bx → Below m wr (w3.setCell ⟨bx, 3, none⟩ (.slice (some ⟨g, 0, none⟩) (T.length + 1) cap))) ∧
    w3.cell? ⟨bx, 3, none⟩ = some (.slice At T.length ct) ∧ w3.frozen? ⟨bx, 3, none⟩ = false := by
  have hz := h.size
  obtain ⟨R9, Y9, old9, bel9, z9, e9, s9⟩ := rowB_more (R := nmR) (S' := fun k => k < B) (k := 3) h.types (fun b hb => by
    rcases hb with (hb | hb) | hb
    · show b < B; omega
    · exact hBv b hb
    · exact hBt b hb) (fun b hb => by
    rcases hb with hb | hb
    · omega
    · exact (h.vals.lt hb).2) hC1 hC4 (l := l) hE hown hgrow hat (Nat.lt_succ_self bx) (.inl (Nat.lt_succ_self bx)) h.box rfl
  have hg : (Value.slice At T.length ct).ownBlock = some g ∨ wr.heap.size < g := by
    rcases hat with e | e
    · exact .inl e
    · exact .inr (by rw [e]; simp)
  refine ⟨⟨h.below.trans (bel9 _ hw), by omega, by rw [List.length_append]; exact Y9, R9, ?_, ?_⟩, bel9, z9, e9⟩
  · refine h.vals.keep s9 (fun b hb => old9 b (fun e => h.apart b e hb) (fun e => ?_) (h.vals.lt hb).2) (fun b h1 h2 h3 => ⟨?_, old9 b (fun e => h1 (.inr e)) (fun e => h1 (.inl (by omega))) h3⟩)
    · have := (h.vals.lt hb).1; omega
    · rintro (e | e)
      · exact h1 (.inl e)
      · simp [Value.ownBlock] at e
        subst e
        rcases hg with e | e
        · exact h1 (.inr e)
        · omega
  · intro b hb e
    simp [Value.ownBlock] at hb
    subst hb
    rcases hg with e' | e'
    · exact h.apart _ e' e
    · have := (h.vals.lt e).2; omega
theorem BuI.val {w : World} {bx : Nat} {p : ByteArray} {j : Int} {d : ByteArray} {T V : List Nm} {At : Option Addr} {ct : Nat} {Av : Option Addr} {cv : Nat} {wr w3 : World} {g cap B : Nat} {o : Obj} {l : List Value} {x : Nm} {C : List (List Value)} (h : BuI w bx p j d T V At ct Av cv wr) (hw : w.heap.size ≤ bx)
    (hE : nmE (strike (fun k => k < B) wr) l x) (hB : bx + 1 ≤ B) (hBs : B ≤ wr.heap.size) (hBt : ∀ b, (Value.slice At T.length ct).ownBlock = some b → b < B) (hBv : ∀ b, (Value.slice Av V.length cv).ownBlock = some b → b < B)
    (hC1 : C.length = V.length) (hC4 : ∀ (i : Nat) (l : List Value) (x : Nm), C[i]? = some l → V[i]? = some x → nmR.E (strike (fun b => (b < bx + 1 ∨ (Value.slice At T.length ct).ownBlock = some b) ∨ (Value.slice Av V.length cv).ownBlock = some b) wr) l x)
    (hown : w3.ownsRow (bx + 1) 49 8 (.slice (some ⟨g, 0, none⟩) (V.length + 1) cap) (V.length + 1) (C.flatten ++ l)) (hgrow : (wr.alloc o).grownBy w3 (Value.slice Av V.length cv).ownBlock) (hat : (Value.slice Av V.length cv).ownBlock = some g ∨ g = (wr.alloc o).heap.size) :
    BuI w bx p j d T (V ++ [x]) At ct (some ⟨g, 0, none⟩) cap (w3.setCell ⟨bx, 4, none⟩ (.slice (some ⟨g, 0, none⟩) (V.length + 1) cap)) ∧
    (∀ m, m ≤ bx → Below m wr (w3.setCell ⟨bx, 4, none⟩ (.slice (some ⟨g, 0, none⟩) (V.length + 1) cap))) ∧
    w3.cell? ⟨bx, 4, none⟩ = some (.slice Av V.length cv) ∧ w3.frozen? ⟨bx, 4, none⟩ = false := by
  have hz := h.size
  obtain ⟨R9, Y9, old9, bel9, z9, e9, s9⟩ := rowB_more (R := nmR) (S' := fun k => k < B) (k := 4) h.vals (fun b hb => by
    rcases hb with (hb | hb) | hb
    · show b < B; omega
    · exact hBt b hb
    · exact hBv b hb) (fun b hb => by
    rcases hb with hb | hb
    · omega
    · exact (h.types.lt hb).2) hC1 hC4 (l := l) hE hown hgrow hat (Nat.lt_succ_self bx) (.inl (Nat.lt_succ_self bx)) h.box rfl
  have hg : (Value.slice Av V.length cv).ownBlock = some g ∨ wr.heap.size < g := by
    rcases hat with e | e
    · exact .inl e
    · exact .inr (by rw [e]; simp)
  refine ⟨⟨h.below.trans (bel9 _ hw), by omega, by rw [List.length_append]; exact Y9, ?_, R9, ?_⟩, bel9, z9, e9⟩
  · refine h.types.keep s9 (fun b hb => old9 b (fun e => h.apart b hb e) (fun e => ?_) (h.types.lt hb).2) (fun b h1 h2 h3 => ⟨?_, old9 b (fun e => h1 (.inr e)) (fun e => h1 (.inl (by omega))) h3⟩)
    · have := (h.types.lt hb).1; omega
    · rintro (e | e)
      · exact h1 (.inl e)
      · simp [Value.ownBlock] at e
        subst e
        rcases hg with e | e
        · exact h1 (.inr e)
        · omega
  · intro b hb e
    simp [Value.ownBlock] at e
    subst e
    rcases hg with e' | e'
    · exact h.apart _ hb e'
    · have := (h.types.lt hb).2; omega
end Go.Proofs.YtcdmgcgjonndpaaGreat

/-  -/
namespace Go.Proofs.YtcdmgcgjonndpaaGreat
open Go Go.RowKit Go.Shelf
open Go.Sort Go.Maps
open M
theorem nmSizeF : (Tryz.prog.info? 49).map (·.size) = some 8 := by kernel_rfl
theorem nmOneF {s p d n : ByteArray} {k m : Int} {A5 A6 : Option Addr} {n5 c5 n6 c6 : Nat} : (#[.string s, .int .i64 k, .string p, .int .i64 m, .string d, .string n, .slice A5 n5 c5, .slice A6 n6 c6] : Array Value).all (·.oneCell') = true := Array.all_eq_true_iff_forall_mem.2 (fun v hv => by simp at hv; rcases hv with rfl | rfl | rfl | rfl | rfl | rfl | rfl | rfl <;> rfl)
theorem nm_infoF : (Tryz.prog.info? 49).map (fun i => (i.zero, i.size, i.bytes)) = some (some (.agg #[.string ⟨#[]⟩, .int .i64 0, .string ⟨#[]⟩, .int .i64 0, .string ⟨#[]⟩, .string ⟨#[]⟩, .slice none 0 0, .slice none 0 0]), 8, 128) := by kernel_rfl
end Go.Proofs.YtcdmgcgjonndpaaGreat
