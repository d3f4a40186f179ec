/-
  Several texts in one.
-/
import Derived.Test.YtcdmgcgjonndpaaGreatDoorK23
set_option maxRecDepth 100000
set_option maxHeartbeats 32000000
namespace Go.Proofs.YtcdmgcgjonndpaaGreatDoor
open Go.RowKit
open M
def locD (n : ByteArray) : Ty := .mk 8 ⟨#[]⟩ 0 ⟨#[]⟩ n [] []
def meantD (d : De) : Ty := if d.kind = 4 then d.typ else locD d.name
def ltNm (x y : Nm) : Bool := Op.bytesLess x.name.toList y.name.toList
def putN (x : Nm) : List Nm -> List Nm
  | [] => [x]
  | y :: r => if ltNm y x = true then y :: putN x r else x :: y :: r
def srtN (l : List Nm) : List Nm := l.foldl (fun a x => putN x a) []
theorem srtN_snoc (l : List Nm) (x : Nm) : srtN (l ++ [x]) = putN x (srtN l) := by unfold srtN; rw [List.foldl_append]; rfl
theorem putN_perm (x : Nm) : ∀ l : List Nm, (putN x l).Perm (x :: l)
  | [] => List.Perm.refl _
  | y :: r => by
    unfold putN
    split
    · exact ((putN_perm x r).cons y).trans (List.Perm.swap x y r)
    · exact List.Perm.refl _
def upNm (x y : Nm) : Prop := ltNm y x = false
theorem putN_sorted (x : Nm) : ∀ l : List Nm, l.Pairwise upNm -> (putN x l).Pairwise upNm
  | [], _ => List.pairwise_singleton _ _
  | y :: r, h => by
    obtain ⟨h1, h2⟩ := List.pairwise_cons.1 h;unfold putN
    split
    · rename_i hlt
      refine List.pairwise_cons.2 ⟨fun z hz => ?_, putN_sorted x r h2⟩;rcases List.mem_cons.1 ((putN_perm x r).mem_iff.1 hz) with rfl | hz
      · show ltNm z y = false
        cases e : ltNm z y with
        | false => rfl
        | true =>
          have := bl_trans _ _ _ hlt e
          rw [bl_irrefl] at this; cases this
      · exact h1 z hz
    · rename_i hlt
      have hlt' : ltNm y x = false := by simpa using hlt
      refine List.pairwise_cons.2 ⟨fun z hz => ?_, h⟩;rcases List.mem_cons.1 hz with rfl | hz
      · exact hlt'
      · exact bl_ntrans _ _ _ (h1 z hz) hlt'
theorem srtN_perm (l : List Nm) : (srtN l).Perm l := by
  have key : ∀ (l a : List Nm), (l.foldl (fun a x => putN x a) a).Perm (l ++ a) := by
    intro l;induction l with
    | nil => intro a; exact List.Perm.refl _
    | cons x r ih =>
      intro a;refine (ih (putN x a)).trans ?_;exact ((putN_perm x a).append_left r).trans List.perm_middle
  have := key l []
  simpa [srtN] using this
theorem srtN_sorted (l : List Nm) : (srtN l).Pairwise upNm := by
  have key : ∀ (l a : List Nm), a.Pairwise upNm -> (l.foldl (fun a x => putN x a) a).Pairwise upNm := by
    intro l;induction l with
    | nil => intro a h; exact h
    | cons x r ih => intro a h; exact ih _ (putN_sorted x a h)
  exact key l [] List.Pairwise.nil
theorem nodup_eq {l : List Nm} (h : (l.map (·.name)).Nodup) {x y : Nm} (hx : x ∈ l) (hy : y ∈ l) (e : x.name = y.name) : x = y := by
  induction l with
  | nil => cases hx
  | cons a r ih =>
    rw [List.map_cons, List.nodup_cons] at h;rcases List.mem_cons.1 hx with rfl | hx2
    · rcases List.mem_cons.1 hy with rfl | hy
      · rfl
      · exact absurd (List.mem_map.2 ⟨y, hy, e.symm⟩) h.1
    · rcases List.mem_cons.1 hy with rfl | hy
      · exact absurd (show y.name ∈ r.map (fun z : Nm => z.name) from List.mem_map.2 ⟨x, hx2, e⟩) h.1
      · exact ih h.2 hx2 hy
theorem srtN_one {l l' : List Nm} (hp : l'.Perm l) (hs : l'.Pairwise upNm) (hn : (l.map (·.name)).Nodup) : l' = srtN l := by
  refine List.Perm.eq_of_pairwise (le := upNm) (fun a b ha hb hab hba => ?_) hs (srtN_sorted l) (hp.trans (srtN_perm l).symm);have e := bl_tri _ _ hba hab;refine nodup_eq hn (hp.mem_iff.1 ha) ((srtN_perm l).mem_iff.1 hb) ?_
  have e2 : a.name.data = b.name.data := by
    rw [Lib.toList_data, Lib.toList_data] at e;exact Array.toList_inj.1 e
  exact (by
    cases ha' : a.name; cases hb' : b.name
    rw [ha', hb'] at e2;simpa using e2)
def tysOf (l : List (De × Ty)) : List Nm := l.filterMap fun p => if p.1.kind = 1 \/ p.1.kind = 3 then some ⟨p.1.name, p.2⟩ else none
def valsOf (l : List (De × Ty)) : List Nm := l.filterMap fun p => if p.1.kind = 4 then some ⟨p.1.name, p.2⟩ else none
theorem tysOf_snoc (l : List (De × Ty)) (d : De) (u : Ty) : tysOf (l ++ [(d, u)]) = tysOf l ++ (if d.kind = 1 \/ d.kind = 3 then [⟨d.name, u⟩] else []) := by
  unfold tysOf
  rw [List.filterMap_append];congr 1
  by_cases h : d.kind = 1 \/ d.kind = 3
  · simp [h]
  · simp [h]
theorem valsOf_snoc (l : List (De × Ty)) (d : De) (u : Ty) : valsOf (l ++ [(d, u)]) = valsOf l ++ (if d.kind = 4 then [⟨d.name, u⟩] else []) := by
  unfold valsOf
  rw [List.filterMap_append];congr 1
  by_cases h : d.kind = 4
  · simp [h]
  · simp [h]
theorem zip_snoc {α β : Type} {ds : List α} {us : List β} {k : Nat} {d : α} {u : β} (hl : us.length = k) (hd : ds[k]? = some d) : (ds.take (k + 1)).zip (us ++ [u]) = (ds.take k).zip us ++ [(d, u)] := by
  rw [List.take_add_one, hd];have hk := (List.getElem?_eq_some_iff.1 hd).1;show (ds.take k ++ [d]).zip (us ++ [u]) = _
  rw [List.zip_append (by rw [List.length_take]; omega)];rfl
theorem tysOf_len (l : List (De × Ty)) : (tysOf l).length <= l.length := List.length_filterMap_le _ _
theorem valsOf_len (l : List (De × Ty)) : (valsOf l).length <= l.length := List.length_filterMap_le _ _
theorem fm_sub {α β : Type} (f : α -> Option β) (g : α -> ByteArray) (nm : β -> ByteArray) (hf : ∀ a b, f a = some b -> nm b = g a) : ∀ l : List α, ((l.filterMap f).map nm).Sublist (l.map g)
  | [] => List.Sublist.refl _
  | a :: r => by
    have ih := fm_sub f g nm hf r;cases h : f a with
    | none => rw [List.filterMap_cons_none h, List.map_cons]; exact ih.cons _
    | some b => rw [List.filterMap_cons_some h, List.map_cons, List.map_cons, hf a b h]; exact ih.cons_cons _
theorem tysOf_names (l : List (De × Ty)) : ((tysOf l).map (·.name)).Sublist (l.map (·.1.name)) := fm_sub (fun p : De × Ty => if p.1.kind = 1 \/ p.1.kind = 3 then some (⟨p.1.name, p.2⟩ : Nm) else none) (fun p => p.1.name) (fun x : Nm => x.name) (fun a b h => by
  split at h
  · cases h; rfl
  · cases h) l
theorem valsOf_names (l : List (De × Ty)) : ((valsOf l).map (·.name)).Sublist (l.map (·.1.name)) := fm_sub (fun p : De × Ty => if p.1.kind = 4 then some (⟨p.1.name, p.2⟩ : Nm) else none) (fun p => p.1.name) (fun x : Nm => x.name) (fun a b h => by
  split at h
  · cases h; rfl
  · cases h) l
theorem ok7_nodup {m : Mo} (h : Ok7 m) : (m.decs.map (·.name)).Nodup := by
  rw [List.nodup_iff_pairwise_ne, List.pairwise_iff_getElem];intro i j hi hj hij e;simp only [List.length_map] at hi hj;have hd := h.dec j hj;have hx : m.decs[j]? = some m.decs[j] := List.getElem?_eq_getElem hj;rw [dupB_some hx, List.any_eq_false] at hd
  have hm : m.decs[i] ∈ m.decs.take j := by
    have : (m.decs.take j)[i]? = some m.decs[i] := by rw [List.getElem?_take, if_pos hij]; exact List.getElem?_eq_getElem hi
    exact List.mem_of_getElem? this
  have := hd _ hm
  simp only [List.getElem_map] at e;simp [e] at this
theorem zip_fst {ds : List De} {us : List Ty} (hl : us.length = ds.length) : (ds.zip us).map (·.1.name) = ds.map (·.name) := by
  rw [show (fun p : De × Ty => p.1.name) = (fun d : De => d.name) ∘ Prod.fst from rfl, <- List.map_map, List.map_fst_zip (by omega)]
def ifOf (m : Mo) (pkg : ByteArray) (major : Int) (us : List Ty) : If := ⟨pkg, major, m.name, srtN (tysOf (m.decs.zip us)), srtN (valsOf (m.decs.zip us))⟩
def nT : ByteArray := ⟨#[84]⟩
def BdIs (m : Mo) (pkg : ByteArray) (major : Int) (env : List If) (c j : Int) (x : If) : Prop :=
  (RkOut m c j /\ c ≠ 0 /\ x = zIf) \/ (mayM m = true /\ Ok7 m /\ c = 1 /\ j = -1 /\ x = zIf /\ ¬ (mayT (openT m pkg major nT) = true /\ env.length <= 100)) \/ (MayN m pkg major env /\
    ((∃ (i : Nat) (d : De) (u : Ty), m.decs[i]? = some d /\ j = i /\ c ≠ 0 /\ x = zIf /\ EpIs m pkg major env (meantD d) c u /\ ∀ (k : Nat) (e : De), k < i -> m.decs[k]? = some e -> ∃ v, EpIs m pkg major env (meantD e) 0 v) \/
     (c = 0 /\ j = -1 /\ ∃ us : List Ty, us.length = m.decs.length /\ (∀ (i : Nat) (d : De) (u : Ty), m.decs[i]? = some d -> us[i]? = some u -> EpIs m pkg major env (meantD d) 0 u) /\ x = ifOf m pkg major us)))
end Go.Proofs.YtcdmgcgjonndpaaGreatDoor
namespace Go.Proofs.YtcdmgcgjonndpaaGreatDoor
open Go Go.RowKit Go.Shelf
open Go.Sort Go.Maps
open M
theorem nmSizeF : (Tryz.prog.info? 49).map (·.size) = some 8 := by kernel_rfl
theorem nmOneF {s p d n : ByteArray} {k m : Int} {A5 A6 : Option Addr} {n5 c5 n6 c6 : Nat} : (#[.string s, .int .i64 k, .string p, .int .i64 m, .string d, .string n, .slice A5 n5 c5, .slice A6 n6 c6] : Array Value).all (·.oneCell') = true := Array.all_eq_true_iff_forall_mem.2 (fun v hv => by simp at hv; rcases hv with rfl | rfl | rfl | rfl | rfl | rfl | rfl | rfl <;> rfl)
theorem nm_infoF : (Tryz.prog.info? 49).map (fun i => (i.zero, i.size, i.bytes)) = some (some (.agg #[.string ⟨#[]⟩, .int .i64 0, .string ⟨#[]⟩, .int .i64 0, .string ⟨#[]⟩, .string ⟨#[]⟩, .slice none 0 0, .slice none 0 0]), 8, 128) := by kernel_rfl
end Go.Proofs.YtcdmgcgjonndpaaGreatDoor
namespace Go.Proofs.YtcdmgcgjonndpaaGreatDoor
open Go Go.RowKit Go.Shelf
open Go.Sort
open M
section
variable {P : Program} {w : World}
theorem run_append_from10 (base : Nat) (t ty e : TypeId) (i : TypeInfo) (z : Value) (size bytes : Nat) (ht : P.underlying t = some (.slice e)) (hi : P.info? e = some i) (hz : i.zero = some z)
  (hsize : i.size = size) (hby : i.bytes = bytes) (hzs : z.cells.size = size) (hsz : 0 < size)
  (v : Value) (n : Nat) (xs : List Value) (hown : w.ownsRow base e size v n xs) (B : Option Addr) (m c : Nat) (news : List Value) (hl : news.length = m * size) (hB : B = none -> m = 0)
  (hnews : ∀ ad, B = some ad -> ∀ j u, news[j]? = some u -> w.cell? (ad.add j) = some u) (h1 : ∀ u ∈ news, u.oneCell' = true)
  (h63 : n + m <= maxLen) (hbytes : (n + m) * bytes <= 140737488355328) (hbase : base <= w.heap.size) :
  ∃ v' w', (Builtin.append_ #[t, t] ty #[v, .slice B m c]).run P w = .ok v' w' /\ w'.ownsRow base e size v' (n + m) (xs ++ news) /\ w.grownBy w' v.ownBlock := by
 cases B with
 | none =>
  obtain rfl := hB rfl;have hn : news = [] := List.length_eq_zero_iff.1 (by simpa using hl);subst hn;exact ⟨v, w, run_append_empty base t ty e i size ht hi v n c xs hown, by rw [List.append_nil]; exact hown, ⟨rfl, rfl, rfl, Nat.le_refl _, fun _ _ _ => rfl⟩⟩
 | some ad =>
  obtain ⟨v', w', hr, h2, h3, -, -⟩ := run_append_own_at (P := P) w base t ty e i z size bytes ht hi hz hsize hby hzs hsz v n xs hown ad m c news hl (hnews ad rfl) h1 h63 hbytes hbase;exact ⟨v', w', hr, h2, h3⟩
theorem wpList_append_from10 {ops : Array Oper} {rest : List Oper} {o : Oper} {a : Act} {Q : Exit -> Act -> World -> Prop} (hgd : o.guard = none) (s x : Operand) (t : TypeId)
  (ho : o.op = .call { callee := .builtin .append, args := #[s, x], argTypes := #[t, t] })
  (base : Nat) (e : TypeId) (i : TypeInfo) (z : Value) (size bytes : Nat) (ht : P.underlying t = some (.slice e)) (hi : P.info? e = some i) (hz : i.zero = some z)
  (hsize : i.size = size) (hby : i.bytes = bytes) (hzs : z.cells.size = size) (hsz : 0 < size)
  (v : Value) (n : Nat) (xs : List Value) (hs : a.eval s = v) (hown : w.ownsRow base e size v n xs) (B : Option Addr) (m c : Nat) (news : List Value) (hxe : a.eval x = .slice B m c) (hl : news.length = m * size) (hB : B = none -> m = 0)
  (hnews : ∀ ad, B = some ad -> ∀ j u, news[j]? = some u -> w.cell? (ad.add j) = some u) (h1 : ∀ u ∈ news, u.oneCell' = true)
  (h63 : n + m <= maxLen) (hbytes : (n + m) * bytes <= 140737488355328) (hbase : base <= w.heap.size)
  (h : ∀ v' w', w'.ownsRow base e size v' (n + m) (xs ++ news) -> w.grownBy w' v.ownBlock -> wpList P ops Q rest (a.put o.dst v') w') : wpList P ops Q (o :: rest) a w :=
 wpList_plain hgd fun _ hK => by
  obtain ⟨v', w', hr, h2, h3⟩ := run_append_from10 (P := P) base t o.type e i z size bytes ht hi hz hsize hby hzs hsz v n xs hown B m c news hl hB hnews h1 h63 hbytes hbase;unfold Oper.wp execOp
  simp only [ho, resolve, invoke, builtin, Sem.run_bind, Sem.run_pure, Result.andThen_ok, List.map_toArray, List.map_cons, List.map_nil, hs, hxe, hr];exact hK _ _ (h v' w' h2 h3)
end
theorem nm_one {w : World} {l : List Value} {x : Nm} (h : nmE w l x) : ∀ u ∈ l, u.oneCell' = true := by
 obtain ⟨-, l7, rfl, hT⟩ := h
 obtain ⟨Bn, cB, Bs, dB, rfl, -⟩ := hT.parts
 intro u hu
 simp at hu
 rcases hu with rfl | rfl | rfl | rfl | rfl | rfl | rfl | rfl <;> rfl
theorem putN_at {x : Nm} : ∀ {l : List Nm} {k : Nat}, k <= l.length -> (∀ (j : Nat) (y : Nm), j < k -> l[j]? = some y -> ltNm y x = true) -> (k = l.length \/ ∃ y, l[k]? = some y /\ ltNm y x = false) -> putN x l = l.take k ++ [x] ++ l.drop k
 | [], k, hk, _, _ => by
  have : k = 0 := by simpa using hk
  subst this; rfl
 | y :: r, 0, _, _, h2 => by
  rcases h2 with h2 | ⟨z, hz, h2⟩
  ·simp at h2
  ·simp at hz; subst hz
   unfold putN
   rw [if_neg (by rw [h2]; decide)]; rfl
 | y :: r, k + 1, hk, h1, h2 => by
  have e := h1 0 y (by omega) rfl;unfold putN
  rw [if_pos e, putN_at (l := r) (k := k) (by simpa using hk) (fun j z hj hz => h1 (j + 1) z (by omega) (by simpa using hz)) (by
   rcases h2 with h2 | ⟨z, hz, h2⟩
   ·exact .inl (by simpa using h2)
   ·exact .inr ⟨z, by simpa using hz, h2⟩)]
  rfl
theorem pairs_ins {α : Type} {P : List Value -> α -> Prop} {C : List (List Value)} {xs : List α} {lx : List Value} {x : α} (hl : C.length = xs.length) (h : ∀ (i : Nat) (l : List Value) (x : α), C[i]? = some l -> xs[i]? = some x -> P l x) (hx : P lx x) (k : Nat) (hk : k <= xs.length) :
  ∀ (i : Nat) (l : List Value) (y : α), (C.take k ++ [lx] ++ C.drop k)[i]? = some l -> (xs.take k ++ [x] ++ xs.drop k)[i]? = some y -> P l y := by
 intro i l y h1 h2
 have e1 : (C.take k ++ [lx]).length = k + 1 := by simp; omega
 have e2 : (xs.take k ++ [x]).length = k + 1 := by simp; omega
 have e3 : (C.take k).length = k := by simp; omega
 have e4 : (xs.take k).length = k := by simp; omega
 rw [List.getElem?_append] at h1 h2
 rw [e1] at h1
 rw [e2] at h2
 split at h1
 ·rename_i hi
  rw [if_pos hi] at h2;rw [List.getElem?_append] at h1 h2;rw [e3] at h1;rw [e4] at h2;split at h1
  ·rename_i hj
   rw [if_pos hj] at h2;rw [List.getElem?_take] at h1 h2;rw [if_pos hj] at h1 h2;exact h _ _ _ h1 h2
  ·rename_i hj
   rw [if_neg hj] at h2;have : i - k = 0 := by omega
   rw [this] at h1 h2;simp at h1 h2;subst h1 h2;exact hx
 ·rename_i hi
  rw [if_neg hi] at h2;rw [List.getElem?_drop] at h1 h2;exact h _ _ _ h1 h2
def PuOut10 (l : List Nm) (x : Nm) (w : World) (e : Ending) (w' : World) : Prop := ∃ (A : Option Addr) (c : Nat), e = .returned (.slice A (l.length + 1) c) /\ RowIn nmR w' A (putN x l) /\ l.length + 1 <= c /\ Below w.heap.size w w'
theorem rput10_any (l : List Nm) (A : Option Addr) (c : Nat) (x : Nm) (lx : List Value) (w : World) (hR : RowIn nmR w A l) (hx : nmE w lx x) (hz : l.length <= 1000) (hc : l.length <= c) (hA : (A = none /\ c = 0) \/ 0 < l.length) :
  Calls Tryz.prog 25 #[.slice A l.length c, .agg lx.toArray] w (PuOut10 l x w) := by
 have HR := hZ hR
 have HXE := hZ hx
 obtain ⟨hxs, l7, rfl, hT⟩ := hx
 obtain ⟨Bn, cB, Bs, dB, rfl, -⟩ := hT.parts
 obtain ⟨n, hn⟩ : ∃ n, n = l.length := ⟨_, rfl⟩
 have HN := hZ hn
 obtain ⟨W2, hW2⟩ : ∃ W2, W2 = w.alloc (.cells #[.string x.name, .int .i64 x.typ.kind, .string x.typ.pkg, .int .i64 x.typ.major, .string x.typ.mod, .string x.typ.name, .slice Bn x.typ.names.length cB, .slice Bs x.typ.subs.length dB] 49) := ⟨_, rfl⟩
 have B2 : Below w.heap.size w W2 := by rw [hW2]; exact below_new (Below.refl _ _) _
 have O2 : W2.heap[w.heap.size]? = some (.cells #[.string x.name, .int .i64 x.typ.kind, .string x.typ.pkg, .int .i64 x.typ.major, .string x.typ.mod, .string x.typ.name, .slice Bn x.typ.names.length cB, .slice Bs x.typ.subs.length dB] 49 (0, 0)) := by rw [hW2]; exact heap_alloc_new w _
 have s2 : w.heap.size < W2.heap.size := by rw [hW2]; simp
 have HB2 := hZ B2
 have HX0 : Hid (∀ wx, Below W2.heap.size W2 wx -> wx.heap[w.heap.size]? = some (.cells #[.string x.name, .int .i64 x.typ.kind, .string x.typ.pkg, .int .i64 x.typ.major, .string x.typ.mod, .string x.typ.name, .slice Bn x.typ.names.length cB, .slice Bs x.typ.subs.length dB] 49 (0, 0))) := hZ (fun wx hb => (hb.block _ s2).trans O2)
 have HW := hZ hW2
 have hn0 : n <= 1000 := by rw [hn]; exact hz
 have hnc : n <= c := by rw [hn]; exact hc
 have HAC : Hid ((A = none /\ c = 0 /\ n = 0) \/ ((∃ g o, A = some ⟨g, o, none⟩) /\ 0 < n)) := hZ (by
  rcases hA with ⟨h1, h2⟩ | h
  ·exact .inl ⟨h1, h2, by omega⟩
  ·obtain ⟨y, hy⟩ : ∃ y, l[0]? = some y := ⟨_, List.getElem?_eq_getElem h⟩
   obtain ⟨g, o, l', e, -⟩ := hR 0 y hy;exact .inr ⟨⟨g, o, e⟩, by omega⟩)
 have HL : Hid (∃ C : List (List Value), C.length = n /\ (∀ l', l' ∈ C -> l'.length = 8) /\ (∀ (i : Nat) (l' : List Value) (y : Nm), C[i]? = some l' -> l[i]? = some y -> nmE w l' y) /\ ∀ (g o : Nat), A = some ⟨g, o, none⟩ -> ∀ (j : Nat) (u : Value), C.flatten[j]? = some u -> w.cell? ⟨g, o + j, none⟩ = some u) := hZ (by
  rcases HAC.out with ⟨-, -, h0⟩ | ⟨⟨g, o, e⟩, -⟩
  ·refine ⟨[], by rw [h0]; rfl, fun l' h => by simp at h, fun i l' y h => by simp at h, fun g o h j u hu => by simp at hu⟩
  ·subst e
   obtain ⟨C, h1, h2, h3, h4⟩ := RowIn.lists (R := nmR) (by decide) hR;refine ⟨C, by rw [hn]; exact h1, h2, h3, fun g' o' e j u hu => ?_⟩;cases e
   exact h4 j u hu)
 rw [<- hn]
 clear hR hT hn hz hc hA hW2 B2 O2 s2
 go_enter Tryz.func25, Tryz.ntmps25
 go_upto_region 1 with fail
 rw [<- HW.out]
 clear HW
 go_wp2_with fail
 go_loopw [5] (fun s5 wr => ∃ k : Nat, k <= n /\ s5 = .int .i64 k /\ Hid (∀ (j : Nat) (y : Nm), j < k -> l[j]? = some y -> ltNm y x = true) /\ Hid (Below W2.heap.size W2 wr)) (fun s5 _ => n - (intOf s5).toNat)
 case atStart => exact ⟨0, by omega, rfl, hZ (fun j y h => by omega), hZ (Below.refl _ _)⟩
 case round =>
  obtain ⟨k, hk, rfl, HP, HB⟩ := hrel;obtain ⟨wo, rfl⟩ : ∃ wo : World, wo = wr := ⟨_, rfl⟩;have HBw := hZ (below_over HB2.out HB.out);have HXw := HX0.out wo HB.out;have n0 := cZ HXw 0;simp at n0;by_cases hlt : k < n
  ·obtain ⟨y, hy⟩ : ∃ y, l[k]? = some y := ⟨_, List.getElem?_eq_getElem (by rw [<- HN.out]; exact hlt)⟩
   obtain ⟨g, o, Dn, cD, Ds, dD, rfl, hg, a0, -⟩ := (HR.out.below HBw.out).nm hy;have HY := hZ hy;have hk0 : (0 : Int) <= k := by omega
   have hk1 : (k : Int) < n := by omega
   have hlt' : decide ((k : Int) < n) = true := by simp; omega
   obtain ⟨q, hq⟩ : ∃ q, Op.bytesLess y.name.toList x.name.toList = q := ⟨_, rfl⟩;have HQ : Hid (ltNm y x = q) := hZ hq;clear hy hg HXw;cases q with
   | true =>
    go_wp2_with fail
    go_quiet (fail)
    go_wp2_with fail
    go_roundw
    case rel => exact ⟨k + 1, by omega, by go_num, hZ (fun j z hj hz => by
     rcases Nat.lt_or_ge j k with e | e
     ·exact HP.out j z e hz
     ·rw [show j = k by omega, HY.out] at hz
      cases hz
      exact HQ.out), hZ (below_drewN HB.out _)⟩
    case measure => simp [intOf]; omega
   | false =>
    have PUT : Hid (putN x l = l.take k ++ [x] ++ l.drop k) := hZ (putN_at (by rw [<- HN.out]; exact hk) HP.out (.inr ⟨y, HY.out, HQ.out⟩));have hck : ¬ c = k := by omega
    have hc0 : ¬ c = 0 := by omega
    obtain ⟨C, hCl, hC8, hCE, hCc⟩ := HL.out;have hkc1 : (0 : Int) <= ((k : Nat) : Int) := by omega
    have hkc2 : ((k : Nat) : Int) <= ((c : Nat) : Int) := by omega
    have hkc3 : ((k : Nat) : Int) <= ((n : Nat) : Int) := by omega
    have hkc4 : k <= c := by omega
    have hkc5 : k <= n := by omega
    go_wp2_with fail
    go_quiet (fail)
    generalize hwz : World.drewN wo _ = wz
    have HBz : Hid (Below w.heap.size w wz) := hZ (by rw [<- hwz]; exact below_drewN HBw.out _);have HBz2 : Hid (Below W2.heap.size W2 wz) := hZ (by rw [<- hwz]; exact below_drewN HB.out _);clear hwz n0
    have hcell : ∀ wx : World, Below wz.heap.size wz wx -> ∀ j u, C.flatten[j]? = some u -> wx.cell? ⟨g, o + j, none⟩ = some u := fun wx hb j u hu => by
     have h3 := hCc g o rfl j u hu;have hb' : Below w.heap.size w wx := below_over HBz.out hb
     exact (hb'.cell (p := ⟨g, o + j, none⟩) (World.block_lt_of_cell? _ _ h3)).trans h3
    have hone : ∀ u ∈ C.flatten, u.oneCell' = true := fun u hu => by
     obtain ⟨l', hl, hu⟩ := List.mem_flatten.1 hu;obtain ⟨i, hi⟩ := List.mem_iff_getElem?.1 hl;have hil := (List.getElem?_eq_some_iff.1 hi).1;exact nm_one (hCE i l' _ hi (List.getElem?_eq_getElem (by rw [<- HN.out, <- hCl]; exact hil))) u hu
    have hl1 : (C.take k).flatten.length = k * 8 := by rw [flatC_len _ (fun l' hl => hC8 l' (List.mem_of_mem_take hl)), List.length_take, hCl]; first | rfl | (congr 1; omega)
    have hl2 : (C.drop k).flatten.length = (n - k) * 8 := by rw [flatC_len _ (fun l' hl => hC8 l' (List.mem_of_mem_drop hl)), List.length_drop, hCl]
    obtain ⟨inf, hi1, hy0, hy1, hy2⟩ := info_parts nm_infoF;have own0 : (wz.alloc (.cells #[] 49)).ownsRow wz.heap.size 49 8 (.slice (some ⟨wz.heap.size, 0, none⟩) 0 0) 0 [] := World.ownsRow_lit (base := wz.heap.size) (e := 49) (size := 8) wz #[] 0 (Nat.le_refl _) (by decide) rfl;have hbA : Below wz.heap.size wz (wz.alloc (.cells #[] 49)) := below_new (Below.refl _ _) _;have hsA : wz.heap.size <= (wz.alloc (.cells #[] 49)).heap.size := by simp
    have hm1 : 0 + k <= maxLen := by unfold maxLen; omega
    have ho1 : ∀ u ∈ (C.take k).flatten, u.oneCell' = true := fun u hu => by
     obtain ⟨l', hl, hu⟩ := List.mem_flatten.1 hu;exact hone u (List.mem_flatten.2 ⟨l', List.mem_of_mem_take hl, hu⟩)
    have ho2 : ∀ u ∈ (C.drop k).flatten, u.oneCell' = true := fun u hu => by
     obtain ⟨l', hl, hu⟩ := List.mem_flatten.1 hu;exact hone u (List.mem_flatten.2 ⟨l', List.mem_of_mem_drop hl, hu⟩)
    have hn1 : ∀ ad : Addr, ((some ⟨g, o, none⟩) : Option Addr) = some ad -> ∀ j u, (C.take k).flatten[j]? = some u -> (wz.alloc (.cells #[] 49)).cell? (ad.add j) = some u := (fun ad e j u hu => by
     cases e
     have := hcell _ hbA _ _ (flat_take k j u hu)
     rw [WideShapes.add_plain];exact this)
    go_upto_region 5 with (first | (refine wpList_append_from10 rfl (.tmp 23) (.tmp 26) 30 rfl wz.heap.size 49 inf _ 8 128 Tryz.underlying30 hi1 hy0 hy1 hy2 (by rfl) (Nat.zero_lt_succ 7) (.slice (some ⟨wz.heap.size, 0, none⟩) 0 0) 0 [] rfl own0 (some ⟨g, o, none⟩) k _ (C.take k).flatten rfl hl1 (by intro h; first | rfl | cases h) hn1 ho1 hm1 (by omega) hsA ?_; intro v5 w6 hown5 hgrow5))
    rw [Nat.zero_add, List.nil_append] at hown5;have hb6 : Below wz.heap.size wz w6 := below_grown hbA hsA own0 hgrow5;have HB6 := hZ hb6;clear hgrow5 own0 hn1;have X6 := HX0.out w6 (below_over HBz2.out hb6);obtain ⟨y0, y1, y2, y3, y4, y5, y6, y7⟩ := cq8 X6;simp at y0 y1 y2 y3 y4 y5 y6 y7;have hm2 : k + 1 <= maxLen := by unfold maxLen; omega
    have hsB : wz.heap.size <= (w6.alloc (.cells #[.string x.name, .int .i64 x.typ.kind, .string x.typ.pkg, .int .i64 x.typ.major, .string x.typ.mod, .string x.typ.name, .slice Bn x.typ.names.length cB, .slice Bs x.typ.subs.length dB] 49)).heap.size := by have := HB6.out.size; simp; omega
    have hbC : Below wz.heap.size wz (w6.alloc (.cells #[.string x.name, .int .i64 x.typ.kind, .string x.typ.pkg, .int .i64 x.typ.major, .string x.typ.mod, .string x.typ.name, .slice Bn x.typ.names.length cB, .slice Bs x.typ.subs.length dB] 49)) := below_new hb6 _;have own5 : (w6.alloc (.cells #[.string x.name, .int .i64 x.typ.kind, .string x.typ.pkg, .int .i64 x.typ.major, .string x.typ.mod, .string x.typ.name, .slice Bn x.typ.names.length cB, .slice Bs x.typ.subs.length dB] 49)).ownsRow wz.heap.size 49 8 v5 k (C.take k).flatten := hown5.alloc _;clear hb6 X6;go_upto_region 6 with (first | (refine wpList_append_from10 rfl (.tmp 28) (.tmp 30) 30 rfl wz.heap.size 49 inf _ 8 128 Tryz.underlying30 hi1 hy0 hy1 hy2 (by rfl) (Nat.zero_lt_succ 7) v5 k _ rfl own5 (some ⟨w6.heap.size, 0, none⟩) 1 1 [.string x.name, .int .i64 x.typ.kind, .string x.typ.pkg, .int .i64 x.typ.major, .string x.typ.mod, .string x.typ.name, .slice Bn x.typ.names.length cB, .slice Bs x.typ.subs.length dB] rfl rfl (by intro h; cases h) (fun ad e q u hq => by cases e; rw [WideShapes.add_plain, Nat.zero_add, cZ (heap_alloc_new w6 _), <- hq, <- List.getElem?_toArray]) (fun u hu => by simp at hu; rcases hu with rfl | rfl | rfl | rfl | rfl | rfl | rfl | rfl <;> rfl) hm2 (by omega) hsB ?_; intro v6 w7 hown6 hgrow6))
    have hb7 : Below wz.heap.size wz w7 := below_grown hbC hsB own5 hgrow6;have HB7 := hZ hb7;clear hgrow6 own5 hown5 hbC hsB y0 y1 y2 y3 y4 y5 y6 y7;have hbB := hb7;have hs7 := HB7.out.size;have hm3 : k + 1 + (n - k) <= maxLen := by unfold maxLen; omega
    have hn2 : ∀ ad : Addr, ((some ⟨g, o + k * 8, none⟩) : Option Addr) = some ad -> ∀ j u, (C.drop k).flatten[j]? = some u -> w7.cell? (ad.add j) = some u := (fun ad e j u hu => by
     cases e
     rw [flat_drop (k := 8) hC8 k (by rw [hCl]; omega)] at hu;have := hcell _ hbB _ _ hu
     rw [<- Nat.add_assoc] at this;rw [WideShapes.add_plain];exact this)
    go_wp2_with (first | (refine wpList_append_from10 rfl (.tmp 32) (.tmp 35) 30 rfl wz.heap.size 49 inf _ 8 128 Tryz.underlying30 hi1 hy0 hy1 hy2 (by rfl) (Nat.zero_lt_succ 7) v6 (k + 1) _ rfl hown6 (some ⟨g, o + k * 8, none⟩) (n - k) _ (C.drop k).flatten rfl hl2 (by intro h; first | rfl | cases h) hn2 ho2 hm3 (by omega) hs7 ?_; intro v7 w8 hown7 hgrow7))
    have hb8 : Below wz.heap.size wz w8 := below_grown hb7 hs7 hown6 hgrow7;have e8 : k + 1 + (n - k) = n + 1 := by omega
    rw [e8] at hown7;obtain ⟨A8, c8, rfl⟩ := own_slice hown7;have HB8 : Hid (Below w.heap.size w w8) := hZ (below_over HBz.out hb8)
    have FIN : Hid (PuOut10 l x w (.returned (.slice A8 (n + 1) c8)) w8) := hZ (by
     have hlen : (putN x l).length = n + 1 := by rw [(putN_perm x l).length_eq, List.length_cons, <- HN.out]
     have hF : (C.take k ++ [([.string x.name, .int .i64 x.typ.kind, .string x.typ.pkg, .int .i64 x.typ.major, .string x.typ.mod, .string x.typ.name, .slice Bn x.typ.names.length cB, .slice Bs x.typ.subs.length dB] : List Value)] ++ C.drop k).flatten = (C.take k).flatten ++ ([.string x.name, .int .i64 x.typ.kind, .string x.typ.pkg, .int .i64 x.typ.major, .string x.typ.mod, .string x.typ.name, .slice Bn x.typ.names.length cB, .slice Bs x.typ.subs.length dB] : List Value) ++ (C.drop k).flatten := by rw [List.flatten_append, List.flatten_append]; rfl
     refine ⟨A8, c8, by rw [<- HN.out], ?_, by rw [<- HN.out]; exact own_cap hown7, HB8.out⟩;refine RowIn.of_own (R := nmR) (lo := wz.heap.size) (c := c8) (C := C.take k ++ [[.string x.name, .int .i64 x.typ.kind, .string x.typ.pkg, .int .i64 x.typ.major, .string x.typ.mod, .string x.typ.name, .slice Bn x.typ.names.length cB, .slice Bs x.typ.subs.length dB]] ++ C.drop k) ?_ ?_ ?_ ?_
     ·rw [hlen, hF]; exact hown7
     ·rw [hlen]; simp [hCl]; try omega
     ·intro l' hl'
      rcases List.mem_append.1 hl' with h | h
      ·rcases List.mem_append.1 h with h | h
       ·exact hC8 l' (List.mem_of_mem_take h)
       ·rw [List.mem_singleton.1 h]; rfl
      ·exact hC8 l' (List.mem_of_mem_drop h)
     ·rw [PUT.out]
      exact pairs_ins (P := fun l' y => nmE w8 l' y) (by rw [hCl]; exact HN.out) (fun i l' y h1 h2 => nmR.keep _ _ _ _ (hCE i l' y h1 h2) HB8.out) (nmR.keep _ _ _ _ HXE.out HB8.out) k (by rw [<- HN.out]; omega))
    clear hb8 hown7 hgrow7 hb7 hown6 hn2;go_ret;exact FIN.out
  ·have hkn : k = n := by omega
   have hlt' : decide ((k : Int) < n) = false := by simp; omega
   have PUT : Hid (putN x l = l.take k ++ [x] ++ l.drop k) := hZ (putN_at (by rw [<- HN.out]; exact hk) HP.out (.inl (by rw [<- HN.out]; exact hkn)));clear HXw;rcases HAC.out with ⟨rfl, rfl, h0⟩ | ⟨⟨g, o, rfl⟩, hpos⟩
   ·obtain rfl : n = 0 := h0
    obtain rfl : k = 0 := hkn;obtain ⟨C, hCl, hC8, hCE, hCc⟩ := HL.out;go_wp2_with fail
    go_quiet (fail)
    generalize hwz : World.drewN wo _ = wz
    have HBz : Hid (Below w.heap.size w wz) := hZ (by rw [<- hwz]; exact below_drewN HBw.out _);have HBz2 : Hid (Below W2.heap.size W2 wz) := hZ (by rw [<- hwz]; exact below_drewN HB.out _);clear hwz n0
    have hone : ∀ u ∈ C.flatten, u.oneCell' = true := fun u hu => by
     obtain ⟨l', hl, hu⟩ := List.mem_flatten.1 hu;obtain ⟨i, hi⟩ := List.mem_iff_getElem?.1 hl;have hil := (List.getElem?_eq_some_iff.1 hi).1;exact nm_one (hCE i l' _ hi (List.getElem?_eq_getElem (by rw [<- HN.out, <- hCl]; exact hil))) u hu
    have hl1 : (C.take 0).flatten.length = 0 * 8 := by rw [flatC_len _ (fun l' hl => hC8 l' (List.mem_of_mem_take hl)), List.length_take, hCl]; first | rfl | (congr 1; omega)
    have hl2 : (C.drop 0).flatten.length = (0 - 0) * 8 := by rw [flatC_len _ (fun l' hl => hC8 l' (List.mem_of_mem_drop hl)), List.length_drop, hCl]
    obtain ⟨inf, hi1, hy0, hy1, hy2⟩ := info_parts nm_infoF;have own0 : (wz.alloc (.cells #[] 49)).ownsRow wz.heap.size 49 8 (.slice (some ⟨wz.heap.size, 0, none⟩) 0 0) 0 [] := World.ownsRow_lit (base := wz.heap.size) (e := 49) (size := 8) wz #[] 0 (Nat.le_refl _) (by decide) rfl;have hbA : Below wz.heap.size wz (wz.alloc (.cells #[] 49)) := below_new (Below.refl _ _) _;have hsA : wz.heap.size <= (wz.alloc (.cells #[] 49)).heap.size := by simp
    have hm1 : 0 + 0 <= maxLen := by unfold maxLen; omega
    have ho1 : ∀ u ∈ (C.take 0).flatten, u.oneCell' = true := fun u hu => by
     obtain ⟨l', hl, hu⟩ := List.mem_flatten.1 hu;exact hone u (List.mem_flatten.2 ⟨l', List.mem_of_mem_take hl, hu⟩)
    have ho2 : ∀ u ∈ (C.drop 0).flatten, u.oneCell' = true := fun u hu => by
     obtain ⟨l', hl, hu⟩ := List.mem_flatten.1 hu;exact hone u (List.mem_flatten.2 ⟨l', List.mem_of_mem_drop hl, hu⟩)
    have hn1 : ∀ ad : Addr, (none : Option Addr) = some ad -> ∀ j u, (C.take 0).flatten[j]? = some u -> (wz.alloc (.cells #[] 49)).cell? (ad.add j) = some u := (fun ad e => by cases e);go_upto_region 5 with (first | (refine wpList_append_from10 rfl (.tmp 23) (.tmp 26) 30 rfl wz.heap.size 49 inf _ 8 128 Tryz.underlying30 hi1 hy0 hy1 hy2 (by rfl) (Nat.zero_lt_succ 7) (.slice (some ⟨wz.heap.size, 0, none⟩) 0 0) 0 [] rfl own0 none 0 _ (C.take 0).flatten rfl hl1 (by intro h; first | rfl | cases h) hn1 ho1 hm1 (by omega) hsA ?_; intro v5 w6 hown5 hgrow5))
    rw [Nat.zero_add, List.nil_append] at hown5;have hb6 : Below wz.heap.size wz w6 := below_grown hbA hsA own0 hgrow5;have HB6 := hZ hb6;clear hgrow5 own0 hn1;have X6 := HX0.out w6 (below_over HBz2.out hb6);obtain ⟨y0, y1, y2, y3, y4, y5, y6, y7⟩ := cq8 X6;simp at y0 y1 y2 y3 y4 y5 y6 y7;have hm2 : 0 + 1 <= maxLen := by unfold maxLen; omega
    have hsB : wz.heap.size <= (w6.alloc (.cells #[.string x.name, .int .i64 x.typ.kind, .string x.typ.pkg, .int .i64 x.typ.major, .string x.typ.mod, .string x.typ.name, .slice Bn x.typ.names.length cB, .slice Bs x.typ.subs.length dB] 49)).heap.size := by have := HB6.out.size; simp; omega
    have hbC : Below wz.heap.size wz (w6.alloc (.cells #[.string x.name, .int .i64 x.typ.kind, .string x.typ.pkg, .int .i64 x.typ.major, .string x.typ.mod, .string x.typ.name, .slice Bn x.typ.names.length cB, .slice Bs x.typ.subs.length dB] 49)) := below_new hb6 _;have own5 : (w6.alloc (.cells #[.string x.name, .int .i64 x.typ.kind, .string x.typ.pkg, .int .i64 x.typ.major, .string x.typ.mod, .string x.typ.name, .slice Bn x.typ.names.length cB, .slice Bs x.typ.subs.length dB] 49)).ownsRow wz.heap.size 49 8 v5 0 (C.take 0).flatten := hown5.alloc _;clear hb6 X6;go_upto_region 6 with (first | (refine wpList_append_from10 rfl (.tmp 28) (.tmp 30) 30 rfl wz.heap.size 49 inf _ 8 128 Tryz.underlying30 hi1 hy0 hy1 hy2 (by rfl) (Nat.zero_lt_succ 7) v5 0 _ rfl own5 (some ⟨w6.heap.size, 0, none⟩) 1 1 [.string x.name, .int .i64 x.typ.kind, .string x.typ.pkg, .int .i64 x.typ.major, .string x.typ.mod, .string x.typ.name, .slice Bn x.typ.names.length cB, .slice Bs x.typ.subs.length dB] rfl rfl (by intro h; cases h) (fun ad e q u hq => by cases e; rw [WideShapes.add_plain, Nat.zero_add, cZ (heap_alloc_new w6 _), <- hq, <- List.getElem?_toArray]) (fun u hu => by simp at hu; rcases hu with rfl | rfl | rfl | rfl | rfl | rfl | rfl | rfl <;> rfl) hm2 (by omega) hsB ?_; intro v6 w7 hown6 hgrow6))
    have hb7 : Below wz.heap.size wz w7 := below_grown hbC hsB own5 hgrow6;have HB7 := hZ hb7;clear hgrow6 own5 hown5 hbC hsB y0 y1 y2 y3 y4 y5 y6 y7;have hbB := hb7;have hs7 := HB7.out.size;have hm3 : 0 + 1 + (0 - 0) <= maxLen := by unfold maxLen; omega
    have hn2 : ∀ ad : Addr, (none : Option Addr) = some ad -> ∀ j u, (C.drop 0).flatten[j]? = some u -> w7.cell? (ad.add j) = some u := (fun ad e => by cases e);go_wp2_with (first | (refine wpList_append_from10 rfl (.tmp 32) (.tmp 35) 30 rfl wz.heap.size 49 inf _ 8 128 Tryz.underlying30 hi1 hy0 hy1 hy2 (by rfl) (Nat.zero_lt_succ 7) v6 (0 + 1) _ rfl hown6 none (0 - 0) _ (C.drop 0).flatten rfl hl2 (by intro h; first | rfl | cases h) hn2 ho2 hm3 (by omega) hs7 ?_; intro v7 w8 hown7 hgrow7))
    have hb8 : Below wz.heap.size wz w8 := below_grown hb7 hs7 hown6 hgrow7;have e8 : 0 + 1 + (0 - 0) = 0 + 1 := by omega
    rw [e8] at hown7;obtain ⟨A8, c8, rfl⟩ := own_slice hown7;have HB8 : Hid (Below w.heap.size w w8) := hZ (below_over HBz.out hb8)
    have FIN : Hid (PuOut10 l x w (.returned (.slice A8 (0 + 1) c8)) w8) := hZ (by
     have hlen : (putN x l).length = 0 + 1 := by rw [(putN_perm x l).length_eq, List.length_cons, <- HN.out]
     have hF : (C.take 0 ++ [([.string x.name, .int .i64 x.typ.kind, .string x.typ.pkg, .int .i64 x.typ.major, .string x.typ.mod, .string x.typ.name, .slice Bn x.typ.names.length cB, .slice Bs x.typ.subs.length dB] : List Value)] ++ C.drop 0).flatten = (C.take 0).flatten ++ ([.string x.name, .int .i64 x.typ.kind, .string x.typ.pkg, .int .i64 x.typ.major, .string x.typ.mod, .string x.typ.name, .slice Bn x.typ.names.length cB, .slice Bs x.typ.subs.length dB] : List Value) ++ (C.drop 0).flatten := by rw [List.flatten_append, List.flatten_append]; rfl
     refine ⟨A8, c8, by rw [<- HN.out], ?_, by rw [<- HN.out]; exact own_cap hown7, HB8.out⟩;refine RowIn.of_own (R := nmR) (lo := wz.heap.size) (c := c8) (C := C.take 0 ++ [[.string x.name, .int .i64 x.typ.kind, .string x.typ.pkg, .int .i64 x.typ.major, .string x.typ.mod, .string x.typ.name, .slice Bn x.typ.names.length cB, .slice Bs x.typ.subs.length dB]] ++ C.drop 0) ?_ ?_ ?_ ?_
     ·rw [hlen, hF]; exact hown7
     ·rw [hlen]; simp [hCl]; try omega
     ·intro l' hl'
      rcases List.mem_append.1 hl' with h | h
      ·rcases List.mem_append.1 h with h | h
       ·exact hC8 l' (List.mem_of_mem_take h)
       ·rw [List.mem_singleton.1 h]; rfl
      ·exact hC8 l' (List.mem_of_mem_drop h)
     ·rw [PUT.out]
      exact pairs_ins (P := fun l' y => nmE w8 l' y) (by rw [hCl]; exact HN.out) (fun i l' y h1 h2 => nmR.keep _ _ _ _ (hCE i l' y h1 h2) HB8.out) (nmR.keep _ _ _ _ HXE.out HB8.out) 0 (by rw [<- HN.out]; omega))
    clear hb8 hown7 hgrow7 hb7 hown6 hn2;go_ret;exact FIN.out
   ·have hc0 : ¬ c = 0 := by omega
    have HKN := hZ hkn;clear hkn;by_cases hck : c = k
    ·obtain rfl := hck
     obtain ⟨C, hCl, hC8, hCE, hCc⟩ := HL.out;have hkc1 : (0 : Int) <= ((c : Nat) : Int) := by omega
     have hkc2 : ((c : Nat) : Int) <= ((c : Nat) : Int) := by omega
     have hkc3 : ((c : Nat) : Int) <= ((n : Nat) : Int) := by omega
     have hkc4 : c <= c := by omega
     have hkc5 : c <= n := by omega
     clear hnc;go_wp2_with fail
     go_quiet (fail)
     generalize hwz : World.drewN wo _ = wz
     have HBz : Hid (Below w.heap.size w wz) := hZ (by rw [<- hwz]; exact below_drewN HBw.out _);have HBz2 : Hid (Below W2.heap.size W2 wz) := hZ (by rw [<- hwz]; exact below_drewN HB.out _);clear hwz n0
     have hcell : ∀ wx : World, Below wz.heap.size wz wx -> ∀ j u, C.flatten[j]? = some u -> wx.cell? ⟨g, o + j, none⟩ = some u := fun wx hb j u hu => by
      have h3 := hCc g o rfl j u hu;have hb' : Below w.heap.size w wx := below_over HBz.out hb
      exact (hb'.cell (p := ⟨g, o + j, none⟩) (World.block_lt_of_cell? _ _ h3)).trans h3
     have hone : ∀ u ∈ C.flatten, u.oneCell' = true := fun u hu => by
      obtain ⟨l', hl, hu⟩ := List.mem_flatten.1 hu;obtain ⟨i, hi⟩ := List.mem_iff_getElem?.1 hl;have hil := (List.getElem?_eq_some_iff.1 hi).1;exact nm_one (hCE i l' _ hi (List.getElem?_eq_getElem (by rw [<- HN.out, <- hCl]; exact hil))) u hu
     have hl1 : (C.take c).flatten.length = c * 8 := by rw [flatC_len _ (fun l' hl => hC8 l' (List.mem_of_mem_take hl)), List.length_take, hCl]; first | rfl | (congr 1; omega)
     have hl2 : (C.drop c).flatten.length = (n - c) * 8 := by rw [flatC_len _ (fun l' hl => hC8 l' (List.mem_of_mem_drop hl)), List.length_drop, hCl]
     obtain ⟨inf, hi1, hy0, hy1, hy2⟩ := info_parts nm_infoF;have own0 : (wz.alloc (.cells #[] 49)).ownsRow wz.heap.size 49 8 (.slice (some ⟨wz.heap.size, 0, none⟩) 0 0) 0 [] := World.ownsRow_lit (base := wz.heap.size) (e := 49) (size := 8) wz #[] 0 (Nat.le_refl _) (by decide) rfl;have hbA : Below wz.heap.size wz (wz.alloc (.cells #[] 49)) := below_new (Below.refl _ _) _;have hsA : wz.heap.size <= (wz.alloc (.cells #[] 49)).heap.size := by simp
     have hm1 : 0 + c <= maxLen := by unfold maxLen; omega
     have ho1 : ∀ u ∈ (C.take c).flatten, u.oneCell' = true := fun u hu => by
      obtain ⟨l', hl, hu⟩ := List.mem_flatten.1 hu;exact hone u (List.mem_flatten.2 ⟨l', List.mem_of_mem_take hl, hu⟩)
     have ho2 : ∀ u ∈ (C.drop c).flatten, u.oneCell' = true := fun u hu => by
      obtain ⟨l', hl, hu⟩ := List.mem_flatten.1 hu;exact hone u (List.mem_flatten.2 ⟨l', List.mem_of_mem_drop hl, hu⟩)
     have hn1 : ∀ ad : Addr, ((some ⟨g, o, none⟩) : Option Addr) = some ad -> ∀ j u, (C.take c).flatten[j]? = some u -> (wz.alloc (.cells #[] 49)).cell? (ad.add j) = some u := (fun ad e j u hu => by
      cases e
      have := hcell _ hbA _ _ (flat_take c j u hu)
      rw [WideShapes.add_plain];exact this)
     go_upto_region 5 with (first | (refine wpList_append_from10 rfl (.tmp 23) (.tmp 26) 30 rfl wz.heap.size 49 inf _ 8 128 Tryz.underlying30 hi1 hy0 hy1 hy2 (by rfl) (Nat.zero_lt_succ 7) (.slice (some ⟨wz.heap.size, 0, none⟩) 0 0) 0 [] rfl own0 (some ⟨g, o, none⟩) c _ (C.take c).flatten rfl hl1 (by intro h; first | rfl | cases h) hn1 ho1 hm1 (by omega) hsA ?_; intro v5 w6 hown5 hgrow5))
     rw [Nat.zero_add, List.nil_append] at hown5;have hb6 : Below wz.heap.size wz w6 := below_grown hbA hsA own0 hgrow5;have HB6 := hZ hb6;clear hgrow5 own0 hn1;have X6 := HX0.out w6 (below_over HBz2.out hb6);obtain ⟨y0, y1, y2, y3, y4, y5, y6, y7⟩ := cq8 X6;simp at y0 y1 y2 y3 y4 y5 y6 y7;have hm2 : c + 1 <= maxLen := by unfold maxLen; omega
     have hsB : wz.heap.size <= (w6.alloc (.cells #[.string x.name, .int .i64 x.typ.kind, .string x.typ.pkg, .int .i64 x.typ.major, .string x.typ.mod, .string x.typ.name, .slice Bn x.typ.names.length cB, .slice Bs x.typ.subs.length dB] 49)).heap.size := by have := HB6.out.size; simp; omega
     have hbC : Below wz.heap.size wz (w6.alloc (.cells #[.string x.name, .int .i64 x.typ.kind, .string x.typ.pkg, .int .i64 x.typ.major, .string x.typ.mod, .string x.typ.name, .slice Bn x.typ.names.length cB, .slice Bs x.typ.subs.length dB] 49)) := below_new hb6 _;have own5 : (w6.alloc (.cells #[.string x.name, .int .i64 x.typ.kind, .string x.typ.pkg, .int .i64 x.typ.major, .string x.typ.mod, .string x.typ.name, .slice Bn x.typ.names.length cB, .slice Bs x.typ.subs.length dB] 49)).ownsRow wz.heap.size 49 8 v5 c (C.take c).flatten := hown5.alloc _;clear hb6 X6;go_upto_region 6 with (first | (refine wpList_append_from10 rfl (.tmp 28) (.tmp 30) 30 rfl wz.heap.size 49 inf _ 8 128 Tryz.underlying30 hi1 hy0 hy1 hy2 (by rfl) (Nat.zero_lt_succ 7) v5 c _ rfl own5 (some ⟨w6.heap.size, 0, none⟩) 1 1 [.string x.name, .int .i64 x.typ.kind, .string x.typ.pkg, .int .i64 x.typ.major, .string x.typ.mod, .string x.typ.name, .slice Bn x.typ.names.length cB, .slice Bs x.typ.subs.length dB] rfl rfl (by intro h; cases h) (fun ad e q u hq => by cases e; rw [WideShapes.add_plain, Nat.zero_add, cZ (heap_alloc_new w6 _), <- hq, <- List.getElem?_toArray]) (fun u hu => by simp at hu; rcases hu with rfl | rfl | rfl | rfl | rfl | rfl | rfl | rfl <;> rfl) hm2 (by omega) hsB ?_; intro v6 w7 hown6 hgrow6))
     have hb7 : Below wz.heap.size wz w7 := below_grown hbC hsB own5 hgrow6;have HB7 := hZ hb7;clear hgrow6 own5 hown5 hbC hsB y0 y1 y2 y3 y4 y5 y6 y7;have hbB := hb7;have hs7 := HB7.out.size;have hm3 : c + 1 + (n - c) <= maxLen := by unfold maxLen; omega
     have hn2 : ∀ ad : Addr, ((some ⟨g, o, none⟩) : Option Addr) = some ad -> ∀ j u, (C.drop c).flatten[j]? = some u -> w7.cell? (ad.add j) = some u := (fun ad e j u hu => by
      exfalso
      have h1 := (List.getElem?_eq_some_iff.1 hu).1;have h2 := HKN.out;rw [hl2] at h1;omega)
     go_wp2_with (first | (refine wpList_append_from10 rfl (.tmp 32) (.tmp 35) 30 rfl wz.heap.size 49 inf _ 8 128 Tryz.underlying30 hi1 hy0 hy1 hy2 (by rfl) (Nat.zero_lt_succ 7) v6 (c + 1) _ rfl hown6 (some ⟨g, o, none⟩) (n - c) _ (C.drop c).flatten rfl hl2 (by intro h; first | rfl | cases h) hn2 ho2 hm3 (by omega) hs7 ?_; intro v7 w8 hown7 hgrow7))
     have hb8 : Below wz.heap.size wz w8 := below_grown hb7 hs7 hown6 hgrow7;have e8 : c + 1 + (n - c) = n + 1 := by omega
     rw [e8] at hown7;obtain ⟨A8, c8, rfl⟩ := own_slice hown7;have HB8 : Hid (Below w.heap.size w w8) := hZ (below_over HBz.out hb8)
     have FIN : Hid (PuOut10 l x w (.returned (.slice A8 (n + 1) c8)) w8) := hZ (by
      have hlen : (putN x l).length = n + 1 := by rw [(putN_perm x l).length_eq, List.length_cons, <- HN.out]
      have hF : (C.take c ++ [([.string x.name, .int .i64 x.typ.kind, .string x.typ.pkg, .int .i64 x.typ.major, .string x.typ.mod, .string x.typ.name, .slice Bn x.typ.names.length cB, .slice Bs x.typ.subs.length dB] : List Value)] ++ C.drop c).flatten = (C.take c).flatten ++ ([.string x.name, .int .i64 x.typ.kind, .string x.typ.pkg, .int .i64 x.typ.major, .string x.typ.mod, .string x.typ.name, .slice Bn x.typ.names.length cB, .slice Bs x.typ.subs.length dB] : List Value) ++ (C.drop c).flatten := by rw [List.flatten_append, List.flatten_append]; rfl
      refine ⟨A8, c8, by rw [<- HN.out], ?_, by rw [<- HN.out]; exact own_cap hown7, HB8.out⟩;refine RowIn.of_own (R := nmR) (lo := wz.heap.size) (c := c8) (C := C.take c ++ [[.string x.name, .int .i64 x.typ.kind, .string x.typ.pkg, .int .i64 x.typ.major, .string x.typ.mod, .string x.typ.name, .slice Bn x.typ.names.length cB, .slice Bs x.typ.subs.length dB]] ++ C.drop c) ?_ ?_ ?_ ?_
      ·rw [hlen, hF]; exact hown7
      ·rw [hlen]; simp [hCl]; try omega
      ·intro l' hl'
       rcases List.mem_append.1 hl' with h | h
       ·rcases List.mem_append.1 h with h | h
        ·exact hC8 l' (List.mem_of_mem_take h)
        ·rw [List.mem_singleton.1 h]; rfl
       ·exact hC8 l' (List.mem_of_mem_drop h)
      ·rw [PUT.out]
       exact pairs_ins (P := fun l' y => nmE w8 l' y) (by rw [hCl]; exact HN.out) (fun i l' y h1 h2 => nmR.keep _ _ _ _ (hCE i l' y h1 h2) HB8.out) (nmR.keep _ _ _ _ HXE.out HB8.out) c (by rw [<- HN.out]; omega))
     clear hb8 hown7 hgrow7 hb7 hown6 hn2;go_ret;exact FIN.out
    ·skip
     obtain ⟨C, hCl, hC8, hCE, hCc⟩ := HL.out;have hkc1 : (0 : Int) <= ((k : Nat) : Int) := by omega
     have hkc2 : ((k : Nat) : Int) <= ((c : Nat) : Int) := by omega
     have hkc3 : ((k : Nat) : Int) <= ((n : Nat) : Int) := by omega
     have hkc4 : k <= c := by omega
     have hkc5 : k <= n := by omega
     go_wp2_with fail
     go_quiet (fail)
     generalize hwz : World.drewN wo _ = wz
     have HBz : Hid (Below w.heap.size w wz) := hZ (by rw [<- hwz]; exact below_drewN HBw.out _);have HBz2 : Hid (Below W2.heap.size W2 wz) := hZ (by rw [<- hwz]; exact below_drewN HB.out _);clear hwz n0
     have hcell : ∀ wx : World, Below wz.heap.size wz wx -> ∀ j u, C.flatten[j]? = some u -> wx.cell? ⟨g, o + j, none⟩ = some u := fun wx hb j u hu => by
      have h3 := hCc g o rfl j u hu;have hb' : Below w.heap.size w wx := below_over HBz.out hb
      exact (hb'.cell (p := ⟨g, o + j, none⟩) (World.block_lt_of_cell? _ _ h3)).trans h3
     have hone : ∀ u ∈ C.flatten, u.oneCell' = true := fun u hu => by
      obtain ⟨l', hl, hu⟩ := List.mem_flatten.1 hu;obtain ⟨i, hi⟩ := List.mem_iff_getElem?.1 hl;have hil := (List.getElem?_eq_some_iff.1 hi).1;exact nm_one (hCE i l' _ hi (List.getElem?_eq_getElem (by rw [<- HN.out, <- hCl]; exact hil))) u hu
     have hl1 : (C.take k).flatten.length = k * 8 := by rw [flatC_len _ (fun l' hl => hC8 l' (List.mem_of_mem_take hl)), List.length_take, hCl]; first | rfl | (congr 1; omega)
     have hl2 : (C.drop k).flatten.length = (n - k) * 8 := by rw [flatC_len _ (fun l' hl => hC8 l' (List.mem_of_mem_drop hl)), List.length_drop, hCl]
     obtain ⟨inf, hi1, hy0, hy1, hy2⟩ := info_parts nm_infoF;have own0 : (wz.alloc (.cells #[] 49)).ownsRow wz.heap.size 49 8 (.slice (some ⟨wz.heap.size, 0, none⟩) 0 0) 0 [] := World.ownsRow_lit (base := wz.heap.size) (e := 49) (size := 8) wz #[] 0 (Nat.le_refl _) (by decide) rfl;have hbA : Below wz.heap.size wz (wz.alloc (.cells #[] 49)) := below_new (Below.refl _ _) _;have hsA : wz.heap.size <= (wz.alloc (.cells #[] 49)).heap.size := by simp
     have hm1 : 0 + k <= maxLen := by unfold maxLen; omega
     have ho1 : ∀ u ∈ (C.take k).flatten, u.oneCell' = true := fun u hu => by
      obtain ⟨l', hl, hu⟩ := List.mem_flatten.1 hu;exact hone u (List.mem_flatten.2 ⟨l', List.mem_of_mem_take hl, hu⟩)
     have ho2 : ∀ u ∈ (C.drop k).flatten, u.oneCell' = true := fun u hu => by
      obtain ⟨l', hl, hu⟩ := List.mem_flatten.1 hu;exact hone u (List.mem_flatten.2 ⟨l', List.mem_of_mem_drop hl, hu⟩)
     have hn1 : ∀ ad : Addr, ((some ⟨g, o, none⟩) : Option Addr) = some ad -> ∀ j u, (C.take k).flatten[j]? = some u -> (wz.alloc (.cells #[] 49)).cell? (ad.add j) = some u := (fun ad e j u hu => by
      cases e
      have := hcell _ hbA _ _ (flat_take k j u hu)
      rw [WideShapes.add_plain];exact this)
     go_upto_region 5 with (first | (refine wpList_append_from10 rfl (.tmp 23) (.tmp 26) 30 rfl wz.heap.size 49 inf _ 8 128 Tryz.underlying30 hi1 hy0 hy1 hy2 (by rfl) (Nat.zero_lt_succ 7) (.slice (some ⟨wz.heap.size, 0, none⟩) 0 0) 0 [] rfl own0 (some ⟨g, o, none⟩) k _ (C.take k).flatten rfl hl1 (by intro h; first | rfl | cases h) hn1 ho1 hm1 (by omega) hsA ?_; intro v5 w6 hown5 hgrow5))
     rw [Nat.zero_add, List.nil_append] at hown5;have hb6 : Below wz.heap.size wz w6 := below_grown hbA hsA own0 hgrow5;have HB6 := hZ hb6;clear hgrow5 own0 hn1;have X6 := HX0.out w6 (below_over HBz2.out hb6);obtain ⟨y0, y1, y2, y3, y4, y5, y6, y7⟩ := cq8 X6;simp at y0 y1 y2 y3 y4 y5 y6 y7;have hm2 : k + 1 <= maxLen := by unfold maxLen; omega
     have hsB : wz.heap.size <= (w6.alloc (.cells #[.string x.name, .int .i64 x.typ.kind, .string x.typ.pkg, .int .i64 x.typ.major, .string x.typ.mod, .string x.typ.name, .slice Bn x.typ.names.length cB, .slice Bs x.typ.subs.length dB] 49)).heap.size := by have := HB6.out.size; simp; omega
     have hbC : Below wz.heap.size wz (w6.alloc (.cells #[.string x.name, .int .i64 x.typ.kind, .string x.typ.pkg, .int .i64 x.typ.major, .string x.typ.mod, .string x.typ.name, .slice Bn x.typ.names.length cB, .slice Bs x.typ.subs.length dB] 49)) := below_new hb6 _;have own5 : (w6.alloc (.cells #[.string x.name, .int .i64 x.typ.kind, .string x.typ.pkg, .int .i64 x.typ.major, .string x.typ.mod, .string x.typ.name, .slice Bn x.typ.names.length cB, .slice Bs x.typ.subs.length dB] 49)).ownsRow wz.heap.size 49 8 v5 k (C.take k).flatten := hown5.alloc _;clear hb6 X6;go_upto_region 6 with (first | (refine wpList_append_from10 rfl (.tmp 28) (.tmp 30) 30 rfl wz.heap.size 49 inf _ 8 128 Tryz.underlying30 hi1 hy0 hy1 hy2 (by rfl) (Nat.zero_lt_succ 7) v5 k _ rfl own5 (some ⟨w6.heap.size, 0, none⟩) 1 1 [.string x.name, .int .i64 x.typ.kind, .string x.typ.pkg, .int .i64 x.typ.major, .string x.typ.mod, .string x.typ.name, .slice Bn x.typ.names.length cB, .slice Bs x.typ.subs.length dB] rfl rfl (by intro h; cases h) (fun ad e q u hq => by cases e; rw [WideShapes.add_plain, Nat.zero_add, cZ (heap_alloc_new w6 _), <- hq, <- List.getElem?_toArray]) (fun u hu => by simp at hu; rcases hu with rfl | rfl | rfl | rfl | rfl | rfl | rfl | rfl <;> rfl) hm2 (by omega) hsB ?_; intro v6 w7 hown6 hgrow6))
     have hb7 : Below wz.heap.size wz w7 := below_grown hbC hsB own5 hgrow6;have HB7 := hZ hb7;clear hgrow6 own5 hown5 hbC hsB y0 y1 y2 y3 y4 y5 y6 y7;have hbB := hb7;have hs7 := HB7.out.size;have hm3 : k + 1 + (n - k) <= maxLen := by unfold maxLen; omega
     have hn2 : ∀ ad : Addr, ((some ⟨g, o + k * 8, none⟩) : Option Addr) = some ad -> ∀ j u, (C.drop k).flatten[j]? = some u -> w7.cell? (ad.add j) = some u := (fun ad e j u hu => by
      cases e
      rw [flat_drop (k := 8) hC8 k (by rw [hCl]; omega)] at hu;have := hcell _ hbB _ _ hu
      rw [<- Nat.add_assoc] at this;rw [WideShapes.add_plain];exact this)
     go_wp2_with (first | (refine wpList_append_from10 rfl (.tmp 32) (.tmp 35) 30 rfl wz.heap.size 49 inf _ 8 128 Tryz.underlying30 hi1 hy0 hy1 hy2 (by rfl) (Nat.zero_lt_succ 7) v6 (k + 1) _ rfl hown6 (some ⟨g, o + k * 8, none⟩) (n - k) _ (C.drop k).flatten rfl hl2 (by intro h; first | rfl | cases h) hn2 ho2 hm3 (by omega) hs7 ?_; intro v7 w8 hown7 hgrow7))
     have hb8 : Below wz.heap.size wz w8 := below_grown hb7 hs7 hown6 hgrow7;have e8 : k + 1 + (n - k) = n + 1 := by omega
     rw [e8] at hown7;obtain ⟨A8, c8, rfl⟩ := own_slice hown7;have HB8 : Hid (Below w.heap.size w w8) := hZ (below_over HBz.out hb8)
     have FIN : Hid (PuOut10 l x w (.returned (.slice A8 (n + 1) c8)) w8) := hZ (by
      have hlen : (putN x l).length = n + 1 := by rw [(putN_perm x l).length_eq, List.length_cons, <- HN.out]
      have hF : (C.take k ++ [([.string x.name, .int .i64 x.typ.kind, .string x.typ.pkg, .int .i64 x.typ.major, .string x.typ.mod, .string x.typ.name, .slice Bn x.typ.names.length cB, .slice Bs x.typ.subs.length dB] : List Value)] ++ C.drop k).flatten = (C.take k).flatten ++ ([.string x.name, .int .i64 x.typ.kind, .string x.typ.pkg, .int .i64 x.typ.major, .string x.typ.mod, .string x.typ.name, .slice Bn x.typ.names.length cB, .slice Bs x.typ.subs.length dB] : List Value) ++ (C.drop k).flatten := by rw [List.flatten_append, List.flatten_append]; rfl
      refine ⟨A8, c8, by rw [<- HN.out], ?_, by rw [<- HN.out]; exact own_cap hown7, HB8.out⟩;refine RowIn.of_own (R := nmR) (lo := wz.heap.size) (c := c8) (C := C.take k ++ [[.string x.name, .int .i64 x.typ.kind, .string x.typ.pkg, .int .i64 x.typ.major, .string x.typ.mod, .string x.typ.name, .slice Bn x.typ.names.length cB, .slice Bs x.typ.subs.length dB]] ++ C.drop k) ?_ ?_ ?_ ?_
      ·rw [hlen, hF]; exact hown7
      ·rw [hlen]; simp [hCl]; try omega
      ·intro l' hl'
       rcases List.mem_append.1 hl' with h | h
       ·rcases List.mem_append.1 h with h | h
        ·exact hC8 l' (List.mem_of_mem_take h)
        ·rw [List.mem_singleton.1 h]; rfl
       ·exact hC8 l' (List.mem_of_mem_drop h)
      ·rw [PUT.out]
       exact pairs_ins (P := fun l' y => nmE w8 l' y) (by rw [hCl]; exact HN.out) (fun i l' y h1 h2 => nmR.keep _ _ _ _ (hCE i l' y h1 h2) HB8.out) (nmR.keep _ _ _ _ HXE.out HB8.out) k (by rw [<- HN.out]; omega))
     clear hb8 hown7 hgrow7 hb7 hown6 hn2;go_ret;exact FIN.out
end Go.Proofs.YtcdmgcgjonndpaaGreatDoor
