/-
  Several texts in one.
-/
import Derived.Test.YtcdmgcgjonndpaaGreatDoorK12
set_option maxRecDepth 100000
set_option maxHeartbeats 8000000
namespace Go.Proofs.YtcdmgcgjonndpaaGreatDoor
open Go Go.ChangeShapes Go.WideShapes Go.ChangeAt Go.RowKit Go.Joins Go.Deep
open M
section
variable {H : Type} {enc : TypeId × Value -> H} {w : World} {base : Nat} {sp : Nat -> Bool} {held : Bool}
theorem open_rows7 {α : Type} (R : Reads α) (st : TypeId) (a0 : α) (ht : Tryz.prog.underlying st = some (.slice R.T)) (hk : Tryz.prog.cellsOf R.T = R.k) (hpos : 0 < R.k)
    (hE : ∀ (n : Nat) (cs : List Value) (x : DataW H × List MemPlace), DataW.trod enc Tryz.prog w base sp held n R.T cs = some x -> ∃ a, R.E w cs a)
    {fuel : Nat} {v : Value} {x : DataW H × List MemPlace} (h : DataW.trod enc Tryz.prog w base sp held fuel st [v] = some x) : ∃ (A : Option Addr) (c : Nat) (l : List α), v = .slice A l.length c /\ l.length <= maxLen /\ l.length <= c /\ RowIn R w A l := by
  rcases DataW.trod_slice ht h with ⟨hc, -⟩ | ⟨a', len, cap, elems, rest, n', hn', hc, -, -, hl, hm, hlen', hel, -, -⟩
  · obtain rfl := List.head_eq_of_cons_eq hc
    exact ⟨none, 0, [], rfl, Nat.zero_le _, Nat.zero_le _, fun i x hx => by simp at hx⟩
  · obtain rfl := List.head_eq_of_cons_eq hc
    rw [hk] at hel
    have hall : ∀ i, ∃ q : α × List Value, i < len -> w.cells? base (a'.add (i * R.k)) R.k = some q.2 /\ R.E w q.2 q.1 := by
      intro i;by_cases hi : i < len
      · have h1 := hel i hi
        rw [List.getElem?_eq_getElem (by rw [hlen']; exact hi)] at h1;obtain ⟨cs', h2, h3⟩ := Option.bind_eq_some_iff.1 h1;obtain ⟨t, ht⟩ := hE n' cs' _ h3;exact ⟨(t, cs'), fun _ => ⟨h2, ht⟩⟩
      · exact ⟨(a0, []), fun h => absurd h hi⟩
    obtain ⟨F, hF⟩ := Classical.axiomOfChoice hall;clear hall hel hE
    have hsome : ∀ i t, ((List.range len).map fun i => (F i).1)[i]? = some t -> i < len /\ t = (F i).1 := by
      intro i t ht;rw [List.getElem?_map] at ht;rcases Nat.lt_or_ge i len with hi | hi
      · rw [List.getElem?_range hi] at ht
        exact ⟨hi, (Option.some.inj ht).symm⟩
      · rw [List.getElem?_eq_none (by simpa using hi)] at ht
        cases ht
    have hle : ((List.range len).map fun i => (F i).1).length = len := by simp
    refine ⟨some a', cap, (List.range len).map fun i => (F i).1, by rw [hle], by rw [hle]; exact Nat.le_trans hl hm, by rw [hle]; exact hl, fun i t ht => ?_⟩;obtain ⟨hi, rfl⟩ := hsome i t ht;obtain ⟨b, o, spot⟩ := a';have hat := (World.cells?_some (hF i hi).1).2.2;have hlk := R.len _ _ _ (hF i hi).2
    have hspot : spot = none := by
      have hc := (World.cells?_some (hF 0 (by omega)).1).2.2 0 hpos;rw [List.getElem?_eq_getElem (by rw [R.len _ _ _ (hF 0 (by omega)).2]; exact hpos)] at hc;have := World.cell?_spot hc
      simpa [Addr.add] using this
    subst hspot
    have hcell : ∀ j v, (F i).2[j]? = some v -> w.cell? ⟨b, o + i * R.k + j, none⟩ = some v := by
      intro j v hv
      have hj : j < R.k := by
        have := (List.getElem?_eq_some_iff.1 hv).1
        rw [hlk] at this; exact this
      have := hat j hj
      rw [WideShapes.add_plain, WideShapes.add_plain] at this;rw [this]; exact hv
    exact ⟨b, o, (F i).2, rfl, World.block_lt_of_cell? w _ (hcell 0 _ (List.getElem?_eq_getElem (by rw [hlk]; exact hpos))), hcell, (hF i hi).2⟩
theorem open_module7 {r : Go.Reach} {b0 : Nat} {v : Value} {d : DataW H} {p : List MemPlace} (hv : Value.okWide Tryz.prog w r b0 25 v) (h : DataW.Trod enc Tryz.prog w base sp held 25 v d p) : ∃ l m, v = .agg l.toArray /\ MoAt w l m /\ CapsAt l m := by
  obtain ⟨cs, rfl, -⟩ := okWide_struct Tryz.underlying25 hv;obtain ⟨fuel, hf⟩ := h;obtain ⟨cl⟩ := cs;obtain ⟨xs, n, hfuel, -, hlen, hxl, hf⟩ := DataW.trod_struct Tryz.underlying25 hf;rw [modCells] at hlen;obtain ⟨c0, c1, c2, hcl⟩ := list3' cl hlen;subst hcl;have q : ∀ j, j < 3 -> ∃ y, xs[j]? = some y := fun j hj => ⟨_, List.getElem?_eq_getElem (by rw [hxl]; exact hj)⟩
  obtain ⟨y0, e0⟩ := q 0 (by omega); obtain ⟨y1, e1⟩ := q 1 (by omega); obtain ⟨y2, e2⟩ := q 2 (by omega)
  have g0 : DataW.trod enc Tryz.prog w base sp held n 9 (([c0, c1, c2].drop 0).take (Tryz.prog.cellsOf 9)) = some y0 := (hf 0 _ rfl).trans e0;have g1 : DataW.trod enc Tryz.prog w base sp held n 22 (([c0, c1, c2].drop 1).take (Tryz.prog.cellsOf 22)) = some y1 := (hf 1 _ rfl).trans e1;have g2 : DataW.trod enc Tryz.prog w base sp held n 23 (([c0, c1, c2].drop 2).take (Tryz.prog.cellsOf 23)) = some y2 := (hf 2 _ rfl).trans e2;rw [tyCellsStr] at g0;rw [modCellsI] at g1;rw [modCellsD] at g2;have h1 : DataW.trod enc Tryz.prog w base sp held n 22 [c1] = some y1 := g1;have h2 : DataW.trod enc Tryz.prog w base sp held n 23 [c2] = some y2 := g2;obtain ⟨s, k0, -, z0⟩ := DataW.trod_string Tryz.underlying9 g0;simp at k0;subst k0;obtain ⟨Ai, ci, li, rfl, hli, kI, hI⟩ := open_rows7 imR 22 ⟨⟨#[]⟩, 0, ⟨#[]⟩, ⟨#[]⟩⟩ Tryz.underlying22 impCells (by decide) open_im h1;obtain ⟨Ad, cd, ld, rfl, hld, kD, hD⟩ := open_rows7 deR 23 ⟨0, ⟨#[]⟩, noT⟩ Tryz.underlying23 decCells (by decide) open_de h2;unfold maxLen at z0 hli hld
  exact ⟨_, ⟨s, li, ld⟩, rfl, ⟨Ai, ci, Ad, cd, rfl, z0, hli, hld, hI, hD⟩, CapsAt.of (m := ⟨s, li, ld⟩) kI kD rfl⟩
end
end Go.Proofs.YtcdmgcgjonndpaaGreatDoor
namespace Go.Proofs.YtcdmgcgjonndpaaGreatDoor
open Go.RowKit
open Go.Sort
open M
def fewD (d : De) : Bool := fewB d.typ && decide (d.name.size <= 500)
def fewM (m : Mo) : Bool := decide (m.name.size <= 500) && (decide (m.imps.length <= 100) && (decide (m.decs.length <= 100) && m.decs.all fewD))
theorem all_one {α : Type} (p : α -> Bool) (l : List α) (j : Nat) (x : α) (h : l[j]? = some x) (hp : p x = false) : l.all p = false := by
  rw [List.all_eq_false];exact ⟨x, List.mem_of_getElem? h, by rw [hp]; decide⟩
theorem rfew6_any (m : Mo) (l : List Value) (w : World) (h : MoAt w l m) : Calls Tryz.prog 5 #[.agg l.toArray] w fun e w' => e = .returned (.bool (fewM m)) /\ Below w.heap.size w w' := by
  obtain ⟨Ai, ci, Ad, cd, rfl, z1, z2, z3, hI, hD⟩ := h;obtain ⟨w0, hw0⟩ : ∃ w0, w0 = w.alloc (.cells #[.string m.name, .slice Ai m.imps.length ci, .slice Ad m.decs.length cd] 25) := ⟨_, rfl⟩;have B0 : Below w.heap.size w w0 := by rw [hw0]; exact below_new (Below.refl _ _) _
  have O0 : w0.heap[w.heap.size]? = some (.cells #[.string m.name, .slice Ai m.imps.length ci, .slice Ad m.decs.length cd] 25 (0, 0)) := by rw [hw0]; exact heap_alloc_new w _
  have hl0 : w.heap.size < w0.heap.size := by rw [hw0]; simp
  obtain ⟨V, hV⟩ : ∃ V, fewM m = V := ⟨_, rfl⟩;rw [hV];have HV : Hid ((decide (m.name.size <= 500) && (decide (m.imps.length <= 100) && (decide (m.decs.length <= 100) && m.decs.all fewD))) = V) := hZ hV;obtain ⟨ni, hni⟩ : ∃ ni, ni = m.imps.length := ⟨_, rfl⟩;obtain ⟨nd, hnd⟩ : ∃ nd, nd = m.decs.length := ⟨_, rfl⟩;rw [<- hni] at z2 O0 hw0 HV;rw [<- hnd] at z3 O0 hw0 HV;rw [<- hni, <- hnd];have HND := hZ hnd;have HD := hZ (hD.below B0);obtain ⟨x0, x1, x2⟩ := cq3 O0;simp at x0 x1 x2;have HO := hZ O0;have HB := hZ B0;have HW0 := hZ hw0;clear hV hI hD hw0 B0 O0 hni hnd;by_cases h5 : 500 < m.name.size
  · have e1 : (500 : Int) < m.name.size := by omega
    have RV : V = false := by rw [<- HV.out, show decide (m.name.size <= 500) = false by simp; omega]; rfl
    subst RV;go_enter Tryz.func5, Tryz.ntmps5
    go_upto_region 1 with fail
    rw [<- HW0.out];go_wp2_with fail
    go_ret;exact ⟨rfl, HB.out⟩
  have e5 : ¬ (500 : Int) < m.name.size := by omega
  by_cases h1 : 100 < ni
  · have e1 : (100 : Int) < ni := by omega
    have RV : V = false := by rw [<- HV.out, show decide (ni <= 100) = false by simp; omega]; simp
    subst RV;go_enter Tryz.func5, Tryz.ntmps5
    go_upto_region 1 with fail
    rw [<- HW0.out];go_wp2_with fail
    go_ret;exact ⟨rfl, HB.out⟩
  have e1 : ¬ (100 : Int) < ni := by omega
  by_cases h2 : 100 < nd
  · have e2 : (100 : Int) < nd := by omega
    have RV : V = false := by rw [<- HV.out, show decide (nd <= 100) = false by simp; omega]; simp
    subst RV;go_enter Tryz.func5, Tryz.ntmps5
    go_upto_region 1 with fail
    rw [<- HW0.out];go_wp2_with fail
    go_ret;exact ⟨rfl, HB.out⟩
  have e2 : ¬ (100 : Int) < nd := by omega
  have HV1 : Hid (m.decs.all fewD = V) := hZ (by
    rw [<- HV.out, decide_eq_true (show m.name.size <= 500 by omega), decide_eq_true (show ni <= 100 by omega), decide_eq_true (show nd <= 100 by omega)]; rfl)
  clear HV h5 h1 h2;go_enter Tryz.func5, Tryz.ntmps5
  go_upto_region 1 with fail
  rw [<- HW0.out];clear HW0;go_wp2_with fail
  clear e5 e1 e2;go_loopw [3] (fun iv wr => ∃ j : Nat, j <= nd /\ iv = .int .i64 j /\ Hid ((m.decs.take j).all fewD = true) /\ Below w0.heap.size w0 wr) (fun iv _ => nd - (intOf iv).toNat)
  case atStart => exact ⟨0, by omega, rfl, hZ (by simp), Below.refl _ _⟩
  case round =>
    obtain ⟨j, hj, rfl, HQ, hb⟩ := hrel;obtain ⟨wo, rfl⟩ : ∃ wo : World, wo = wr := ⟨_, rfl⟩;have O := (hb.block _ hl0).trans HO.out;have x2 := cZ O 2;simp at x2;by_cases hlt : j < nd
    · obtain ⟨x, hx⟩ : ∃ x, m.decs[j]? = some x := ⟨_, List.getElem?_eq_getElem (by rw [<- HND.out]; exact hlt)⟩
      obtain ⟨g, o, v0, v1, v2, v3, v4, v5, v6, rfl, hg, a0, a1, u0, u1, u2, u3, u4, u5, u6, us, zs⟩ := (HD.out.below hb).de hx;have FW := hZ (fewB_any x.typ _ wo ⟨_, rfl, us⟩);have HX := hZ hx;have HBo := hZ hb;have HA1 := hZ a1;have HO2 := hZ O;clear hx us hb a0 a1 O;go_wp2_with fail
      refine FW.out.mono ?_; rintro e w3 ⟨rfl, hb3⟩
      have a1 := (hb3.cell (p := ⟨g, _, none⟩) hg).trans HA1.out;have x2 := cZ ((hb3.block _ (Array.getElem?_eq_some_iff.1 HO2.out).1).trans HO2.out) 2;simp at x2;have HB3 := hZ (below_over HBo.out hb3);have FIN := hZ (below_over HB.out HB3.out);obtain ⟨q, hq⟩ : ∃ q, fewB x.typ = q := ⟨_, rfl⟩;rw [hq];have HQ2 := hZ hq;clear hb3 u0 u1 u2 u3 u4 u5 u6 hq FW HA1 HO2;cases q with
      | false =>
        have RV : V = false := by rw [<- HV1.out]; exact all_one _ _ _ _ HX.out (by unfold fewD; rw [HQ2.out]; rfl)
        subst RV;go_wp2_with fail
        go_ret;exact ⟨rfl, FIN.out⟩
      | true =>
        by_cases hn : 500 < x.name.size
        · have e1 : (500 : Int) < x.name.size := by omega
          have RV : V = false := by rw [<- HV1.out]; exact all_one _ _ _ _ HX.out (by unfold fewD; rw [show decide (x.name.size <= 500) = false by simp; omega]; simp)
          subst RV;go_wp2_with fail
          go_ret;exact ⟨rfl, FIN.out⟩
        · have e1 : ¬ (500 : Int) < x.name.size := by omega
          have HN : Hid (x.name.size <= 500) := hZ (by omega);clear hn;go_wp2_with fail
          go_roundw
          case rel => exact ⟨j + 1, by omega, by go_num, hZ (by rw [all_snoc _ _ _ _ HX.out, HQ.out]; unfold fewD; rw [HQ2.out, decide_eq_true HN.out]; rfl), HB3.out⟩
          case measure => simp [intOf]; omega
    · have RV : V = true := by rw [<- HV1.out, <- HQ.out, List.take_of_length_le (by rw [<- HND.out]; omega)]
      subst RV;have FIN := hZ (below_over HB.out hb);clear O;go_wp2_with fail
      go_ret;exact ⟨rfl, FIN.out⟩
end Go.Proofs.YtcdmgcgjonndpaaGreatDoor
namespace Go.Proofs.YtcdmgcgjonndpaaGreatDoor
open Go Go.RowKit
open Go.Sort
open M
section
variable {P : Program} (w : World)
end
theorem flatC_len {k : Nat} : ∀ (C : List (List Value)), (∀ l, l ∈ C -> l.length = k) -> C.flatten.length = C.length * k
  | [], _ => by simp
  | a :: r, h => by
    rw [List.flatten_cons, List.length_append, h a List.mem_cons_self, flatC_len r (fun l hl => h l (List.mem_cons_of_mem _ hl)), List.length_cons, Nat.succ_mul];omega
theorem RowIn.lists {α : Type} {R : Reads α} {w : World} {g o : Nat} {xs : List α} (hk : 0 < R.k) (h : RowIn R w (some ⟨g, o, none⟩) xs) :
    ∃ C : List (List Value), C.length = xs.length /\ (∀ l, l ∈ C -> l.length = R.k) /\ (∀ (i : Nat) (l : List Value) (x : α), C[i]? = some l -> xs[i]? = some x -> R.E w l x) /\
      ∀ (j : Nat) (u : Value), C.flatten[j]? = some u -> w.cell? ⟨g, o + j, none⟩ = some u := by
  have hall : ∀ i : Fin xs.length, ∃ l : List Value, R.E w l xs[i] /\ ∀ (j : Nat) (v : Value), l[j]? = some v -> w.cell? ⟨g, o + i.1 * R.k + j, none⟩ = some v := fun i => by
    obtain ⟨g', o', l, hA, hg, hc, hE⟩ := h i.1 xs[i] (List.getElem?_eq_getElem i.2);cases hA
    exact ⟨l, hE, hc⟩
  obtain ⟨F, hF⟩ := Classical.axiomOfChoice hall
  have hat : ∀ (i : Nat) (l : List Value), (List.ofFn F)[i]? = some l -> ∃ hi : i < xs.length, l = F ⟨i, hi⟩ := by
    intro i l hl;rw [List.getElem?_ofFn] at hl;split at hl
    · rename_i hi
      exact ⟨hi, (Option.some.inj hl).symm⟩
    · cases hl
  have hlen : ∀ l, l ∈ List.ofFn F -> l.length = R.k := fun l hl => by
    obtain ⟨i, hi⟩ := List.mem_iff_getElem?.1 hl;obtain ⟨hi', rfl⟩ := hat i l hi;exact R.len _ _ _ (hF ⟨i, hi'⟩).1
  refine ⟨List.ofFn F, by simp, hlen, fun i l x hl hx => ?_, fun j u hu => ?_⟩
  · obtain ⟨hi, rfl⟩ := hat i l hl
    rw [List.getElem?_eq_getElem hi] at hx;cases hx
    exact (hF ⟨i, hi⟩).1
  · have hj := (List.getElem?_eq_some_iff.1 hu).1
    rw [flatC_len _ hlen, List.length_ofFn] at hj;have hi : j / R.k < xs.length := Nat.div_lt_of_lt_mul (by rw [Nat.mul_comm]; exact hj);have hl : (List.ofFn F)[j / R.k]? = some (F ⟨j / R.k, hi⟩) := by rw [List.getElem?_ofFn, dif_pos hi]
    have hf := flatk_at (List.ofFn F) hlen (j / R.k) (j % R.k) _ hl (Nat.mod_lt _ hk);have hd : j / R.k * R.k + j % R.k = j := by rw [Nat.mul_comm]; exact Nat.div_add_mod j R.k
    rw [hd, hu] at hf;have := (hF ⟨j / R.k, hi⟩).2 (j % R.k) u hf.symm
    rwa [Nat.add_assoc, hd] at this
theorem flat_drop {k : Nat} {C : List (List Value)} (hC : ∀ l, l ∈ C -> l.length = k) (a : Nat) (ha : a <= C.length) (j : Nat) : (C.drop a).flatten[j]? = C.flatten[a * k + j]? := by
  have h1 : C.flatten = (C.take a).flatten ++ (C.drop a).flatten := by rw [<- List.flatten_append, List.take_append_drop]
  have h2 : (C.take a).flatten.length = a * k := by
    rw [flatC_len _ (fun l hl => hC l (List.mem_of_mem_take hl)), List.length_take, Nat.min_eq_left ha]
  rw [h1, List.getElem?_append_right (by omega), h2, Nat.add_sub_cancel_left]
theorem flat_take {C : List (List Value)} (a : Nat) (j : Nat) (u : Value) (h : (C.take a).flatten[j]? = some u) : C.flatten[j]? = some u := by
  have h1 : C.flatten = (C.take a).flatten ++ (C.drop a).flatten := by rw [<- List.flatten_append, List.take_append_drop]
  rw [h1, List.getElem?_append_left (List.getElem?_eq_some_iff.1 h).1, h]
theorem RowIn.of_own {α : Type} {R : Reads α} {w : World} {lo c : Nat} {A : Option Addr} {xs : List α} {C : List (List Value)} (hown : w.ownsRow lo R.T R.k (.slice A xs.length c) xs.length C.flatten)
    (hl : C.length = xs.length) (hall : ∀ l, l ∈ C -> l.length = R.k) (hE : ∀ (i : Nat) (l : List Value) (x : α), C[i]? = some l -> xs[i]? = some x -> R.E w l x) : RowIn R w A xs := by
  intro i x hx;have hi := (List.getElem?_eq_some_iff.1 hx).1;have hli : C[i]? = some C[i] := List.getElem?_eq_getElem (by omega);rcases hown.2 with ⟨e, -⟩ | ⟨g, cap, cur, hv, hB, hg, -, -, hcl, htake⟩
  · cases A with
    | none => simp at e; simp [e.1] at hi
    | some a => simp at e
  · simp at hv
    obtain ⟨rfl, -⟩ := hv;refine ⟨g, 0, C[i], rfl, (Array.getElem?_eq_some_iff.1 hg).1, fun j v hv => ?_, hE i _ x hli hx⟩;have hj := (List.getElem?_eq_some_iff.1 hv).1;rw [hall _ (List.getElem_mem (by omega))] at hj;have hf := flatk_at C hall i j _ hli hj;rw [cZ hg, <- Array.getElem?_toList];have e2 : (cur.toList.take (xs.length * R.k))[i * R.k + j]? = C[i][j]? := by rw [htake, hf]
    rw [List.getElem?_take] at e2;split at e2
    · rw [show 0 + i * R.k + j = i * R.k + j by omega, e2]; exact hv
    · rename_i hn
      have : (i + 1) * R.k <= xs.length * R.k := Nat.mul_le_mul_right _ hi
      rw [Nat.succ_mul] at this;omega
theorem ty_one {w : World} {l : List Value} {t : Ty} (h : TyAt w l t) : ∀ u ∈ l, u.oneCell' = true := by
  obtain ⟨An, cn, As, cs, rfl, -⟩ := h.parts;intro u hu;simp at hu;rcases hu with rfl | rfl | rfl | rfl | rfl | rfl | rfl <;> rfl
theorem small_size {s : ByteArray} (h : smallB s.data.toList = true) : s.size <= 20 := by
  unfold smallB at h
  rw [Bool.and_eq_true, spell_iff] at h;rw [<- len_size]; exact h.1.2.1
theorem great_size {s : ByteArray} (h : greatB s.data.toList = true) : s.size <= 20 := by
  unfold greatB at h
  rw [Bool.and_eq_true, spell_iff] at h;rw [<- len_size]; exact h.1.2.1
theorem mayD_name {d : De} (h : mayD d = true) : d.name.size <= 20 := by
  unfold mayD at h
  split at h
  · rw [Bool.and_eq_true] at h; exact great_size h.1
  · split at h
    · rw [Bool.and_eq_true] at h; exact great_size h.1
    · split at h
      · rw [Bool.and_eq_true] at h; exact small_size h.1
      · cases h
theorem mayM_parts {m : Mo} (h : mayM m = true) : m.imps.length <= 20 /\ m.decs.length <= 60 /\ (∀ x ∈ m.imps, mayI x = true) /\ ∀ d ∈ m.decs, mayD d = true := by
  unfold mayM at h
  simp only [Bool.and_eq_true, decide_eq_true_eq, List.all_eq_true] at h;exact ⟨h.2.1, h.2.2.1, h.2.2.2.1, h.2.2.2.2⟩
theorem MoAt.names {w : World} {l : List Value} {m : Mo} (h : MoAt w l m) : (∀ x ∈ m.imps, x.asn.size <= maxLen) /\ ∀ d ∈ m.decs, d.name.size <= maxLen := by
  obtain ⟨Ai, ci, Ad, cd, -, -, -, -, hI, hD⟩ := h;unfold maxLen
  refine ⟨fun x hx => ?_, fun d hd => ?_⟩
  · obtain ⟨i, hi⟩ := List.getElem?_of_mem hx
    obtain ⟨g, o, l, -, -, -, hE⟩ := hI i x hi;have := hE.2.2.2
    omega
  · obtain ⟨i, hi⟩ := List.getElem?_of_mem hd
    obtain ⟨g, o, l, -, -, -, hs, -⟩ := hD i d hi;omega
theorem few7 {m : Mo} (h : fewM m = true) : m.imps.length <= 100 /\ m.decs.length <= 100 /\ ∀ d ∈ m.decs, many d.typ <= 9000 /\ shortT d.typ := by
  unfold fewM at h
  simp only [Bool.and_eq_true, List.all_eq_true, decide_eq_true_eq] at h;refine ⟨h.2.1, h.2.2.1, fun d hm => ?_⟩;have := h.2.2.2 d hm
  unfold fewD at this
  simp only [Bool.and_eq_true] at this;have hs := few_small this.1;exact ⟨by omega, few_short _ 3000 (of_decide_eq_true this.1)⟩
def CkAny (w : World) (m : Mo) (e : Ending) (w' : World) : Prop :=
  (mayM m = false /\ e = .returned (.iface 54 (.int .i64 1))) \/ (mayM m = true /\ CkOut w m e w')
theorem check7_any (m : Mo) (l : List Value) (w : World) (h : MoAt w l m) (hM : ∀ d ∈ m.decs, many d.typ <= 9000) (hcap : CapsAt l m) :
    Calls Tryz.prog 13 #[.agg l.toArray] w fun e w' => CkAny w m e w' /\ Below w.heap.size w w' := by
  cases hm : mayM m with
  | false =>
    refine (check7_no m l w h hm).mono ?_;rintro e w' ⟨he, hb⟩;exact ⟨.inl ⟨hm, he⟩, hb⟩
  | true =>
    refine (check7_yes m l w h hm h.names.1 (fun d hd => ⟨hM d hd, h.names.2 d hd⟩) hcap).mono ?_;rintro e w' ⟨he, hb⟩;exact ⟨.inr ⟨hm, he⟩, hb⟩
end Go.Proofs.YtcdmgcgjonndpaaGreatDoor
namespace Go.Proofs.YtcdmgcgjonndpaaGreatDoor
open Go.RowKit
open M
theorem fstN_neg {p : Nat -> Bool} {n : Nat} : ¬ 0 <= fstN p n ↔ ∀ i, i < n -> p i = false := by
  unfold fstN
  cases h : (List.range n).find? p with
  | none =>
    rw [List.find?_eq_none] at h;constructor
    · intro _ i hi
      have := h i (List.mem_range.2 hi)
      simpa using this
    · intro _; simp
  | some i =>
    constructor
    · intro h2; exact absurd (Int.natCast_nonneg i) h2
    · intro h2
      have h3 := List.find?_some h;have h4 := List.mem_range.1 (List.mem_of_find?_eq_some h);rw [h2 i h4] at h3; cases h3
structure Ok7 (m : Mo) : Prop where
  imp : ∀ i, i < m.imps.length -> dupB (·.asn) m.imps i = false
  dec : ∀ i, i < m.decs.length -> dupB (·.name) m.decs i = false
  whole : ∀ (i : Nat) (d : De), m.decs[i]? = some d -> wholeT m d.typ = true
  circ : ∀ (i : Nat) (d : De), m.decs[i]? = some d -> ¬ Reach (entries m) (saidT m d.typ) i
  hid : ∀ (i j : Nat) (d e : De), m.decs[i]? = some d -> m.decs[j]? = some e -> Reach (entries m) (saidT m d.typ) j -> e.kind ≠ 2
theorem dec_at {m : Mo} {i : Nat} (h : i < m.decs.length) : ∃ d, m.decs[i]? = some d := ⟨_, List.getElem?_eq_getElem h⟩
theorem dec_lt {m : Mo} {i : Nat} {d : De} (h : m.decs[i]? = some d) : i < m.decs.length := (List.getElem?_eq_some_iff.1 h).1
theorem hidB_iff {m : Mo} {l : List Nat} : hidB (entries m) l = false ↔ ∀ (j : Nat) (e : De), m.decs[j]? = some e -> Reach (entries m) l j -> e.kind ≠ 2 := by
  unfold hidB
  rw [List.any_eq_false];constructor
  · intro h j e he hr hk
    refine h j (List.mem_range.2 (by rw [entries_len]; exact dec_lt he)) ?_;rw [entries_at he, reachB_iff.2 hr];simp [hk]
  · intro h j hj
    have hj := List.mem_range.1 hj;rw [entries_len] at hj;obtain ⟨e, he⟩ := dec_at hj;rw [entries_at he];simp only [Bool.and_eq_true, not_and, Bool.not_eq_true, beq_eq_false_iff_ne, ne_eq];intro hr;exact h j e he (reachB_iff.1 hr)
theorem check7_none {m : Mo} : check7 m = none ↔ Ok7 m := by
  unfold check7 faults7
  rw [List.find?_eq_none];simp only [List.mem_cons, List.not_mem_nil, or_false, forall_eq_or_imp, forall_eq, decide_eq_true_eq, fstN_neg, entries_len];constructor
  · rintro ⟨h1, h2, h3, h4, h5⟩
    refine ⟨h1, h2, fun i d hd => ?_, fun i d hd hr => ?_, fun i j d e hd he hr => ?_⟩
    · have := h3 i (dec_lt hd)
      rw [atE_some (entries_at hd)] at this;simpa using this
    · have := h4 i (dec_lt hd)
      rw [atE_some (entries_at hd)] at this;rw [reachB_iff.2 hr] at this; cases this
    · have := h5 i (dec_lt hd)
      rw [atE_some (entries_at hd)] at this;exact hidB_iff.1 this j e he hr
  · intro h
    refine ⟨h.imp, h.dec, fun i hi => ?_, fun i hi => ?_, fun i hi => ?_⟩
    · obtain ⟨d, hd⟩ := dec_at hi
      rw [atE_some (entries_at hd)];simpa using h.whole i d hd
    · obtain ⟨d, hd⟩ := dec_at hi
      rw [atE_some (entries_at hd)];cases e : reachB (entries m) (saidT m d.typ) i with
      | false => rfl
      | true => exact absurd (reachB_iff.1 e) (h.circ i d hd)
    · obtain ⟨d, hd⟩ := dec_at hi
      rw [atE_some (entries_at hd)];exact hidB_iff.2 fun j e he hr => h.hid i j d e hd he hr
structure Emb (f : Nat -> Nat) (m' m : Mo) : Prop where
  imps : m'.imps = m.imps
  dec : ∀ (i : Nat) (d : De), m'.decs[i]? = some d -> m.decs[f i]? = some d
  inj : ∀ i j, i < m'.decs.length -> j < m'.decs.length -> f i = f j -> i = j
  sur : ∀ (i : Nat) (d : De), m.decs[i]? = some d -> d.kind ≠ 4 -> ∃ j, j < m'.decs.length /\ f j = i
theorem dup_not {m : Mo} (h : ∀ i, i < m.decs.length -> dupB (·.name) m.decs i = false) {i j : Nat} {d e : De} (hi : m.decs[i]? = some d) (hj : m.decs[j]? = some e) (hn : d.name = e.name) : i = j := by
  have key : ∀ (i j : Nat) (d e : De), m.decs[i]? = some d -> m.decs[j]? = some e -> d.name = e.name -> ¬ i < j := by
    intro i j d e hi hj hn hlt;have h1 := h j (dec_lt hj);rw [dupB_some hj, List.any_eq_false] at h1;exact h1 d (List.mem_of_getElem? (i := i) (by rw [List.getElem?_take, if_pos hlt]; exact hi)) (by simpa using hn)
  have a := key i j d e hi hj hn;have b := key j i e d hj hi hn.symm;omega
theorem typAt_iff {m : Mo} (h : ∀ i, i < m.decs.length -> dupB (·.name) m.decs i = false) {s : ByteArray} {i : Nat} : typAt m s = some i ↔ ∃ d, m.decs[i]? = some d /\ isTyp s d = true := by
  unfold typAt
  rw [List.findIdx?_eq_some_iff_getElem];constructor
  · rintro ⟨hi, h1, -⟩
    exact ⟨_, List.getElem?_eq_getElem hi, h1⟩
  · rintro ⟨d, hd, ht⟩
    obtain ⟨hi, e⟩ := List.getElem?_eq_some_iff.1 hd;refine ⟨hi, by rw [e]; exact ht, fun j hj hjt => ?_⟩;have hd2 : m.decs[j]? = some m.decs[j] := List.getElem?_eq_getElem _
    have : j = i := dup_not h hd2 hd (by
      simp only [isTyp, Bool.and_eq_true, decide_eq_true_eq] at ht hjt;rw [ht.2, hjt.2])
    omega
section
variable {f : Nat -> Nat} {m' m : Mo}
end
theorem said_typ (m : Mo) : ∀ (N : Nat) (t : Ty), many t <= N -> ∀ i ∈ saidT m t, ∃ d, m.decs[i]? = some d /\ d.kind ≠ 4 := by
  intro N;induction N with
  | zero => intro t h; have := many_pos t; omega
  | succ N ih =>
    intro t hN i hi;by_cases hk : t.kind = 8
    · rw [saidT_local m t hk] at hi
      split at hi
      · have h1 : typAt m t.name = some i := by simpa using hi
        unfold typAt at h1
        rw [List.findIdx?_eq_some_iff_getElem] at h1;obtain ⟨h2, h3, -⟩ := h1;refine ⟨_, List.getElem?_eq_getElem h2, ?_⟩;simp only [isTyp, Bool.and_eq_true, Bool.not_eq_true', beq_eq_false_iff_ne] at h3;exact h3.1
      · cases hi
    · rw [saidT_sub m t hk] at hi
      have key : ∀ l : List Ty, (∀ s ∈ l, many s <= N) -> i ∈ saidL m l -> ∃ d, m.decs[i]? = some d /\ d.kind ≠ 4 := by
        intro l;induction l with
        | nil => intro _ h; simp [saidL] at h
        | cons s r ihl =>
          intro hl h;simp only [saidL, List.mem_append] at h;rcases h with h | h
          · exact ih s (hl s (by simp)) i h
          · exact ihl (fun s hs => hl s (by simp [hs])) h
      refine key t.subs (fun s hs => ?_) hi;have h1 := manyL_mem _ _ hs;have h2 : many t = 1 + manyL t.subs := by cases t; simp [many, Ty.subs]
      omega
theorem reach_typ {m : Mo} {t : Ty} {i : Nat} (h : Reach (entries m) (saidT m t) i) : ∃ d, m.decs[i]? = some d /\ d.kind ≠ 4 := by
  cases h with
  | one h => exact said_typ m _ t (Nat.le_refl _) i h
  | @step i j x _ hx hi =>
    have hj : j < m.decs.length := by
      have := (List.getElem?_eq_some_iff.1 hx).1
      rwa [entries_len] at this
    obtain ⟨d, hd⟩ := dec_at hj;rw [entries_at hd] at hx;cases hx
    exact said_typ m _ d.typ (Nat.le_refl _) i hi
theorem reach_nil {E : List En} {i : Nat} (h : Reach E [] i) : False := by
  induction h with
  | one h => cases h
  | step _ _ _ ih => exact ih
theorem said_noT (m : Mo) : saidT m noT = [] := by unfold noT saidT; simp [saidL]
mutual
def locT : Ty -> List Ty
 | .mk k p j d n ns ss => if k = 8 then .mk k p j d n ns ss :: locL ss else locL ss
def locL : List Ty -> List Ty
 | [] => []
 | t :: r => locT t ++ locL r
end
theorem locT_eq (t : Ty) : locT t = (if t.kind = 8 then [t] else []) ++ locL t.subs := by
 cases t; unfold locT Ty.kind Ty.subs; split <;> rfl
theorem locL_append : ∀ a b : List Ty, locL (a ++ b) = locL a ++ locL b
 | [], b => rfl
 | t :: r, b => by simp [locL, locL_append r b]
theorem locL_take (l : List Ty) (k : Nat) (t : Ty) (h : l[k]? = some t) : locL (l.take (k + 1)) = locL (l.take k) ++ locT t := by
 rw [List.take_add_one, h, locL_append]; simp [locL]
mutual
theorem locT_len : ∀ t : Ty, (locT t).length <= many t
 | .mk k p j d n ns ss => by
  have := locL_len ss
  unfold locT many
  split <;> simp <;> omega
theorem locL_len : ∀ l : List Ty, (locL l).length <= manyL l
 | [] => by simp [locL]
 | t :: r => by
  have := locT_len t
  have := locL_len r
  unfold locL manyL
  rw [List.length_append]; omega
end
def oneN (m : Mo) (x : Ty) : List Nat := if x.mod.size = 0 then (typAt m x.name).toList else []
theorem local_subs {t : Ty} (h : ownOk t = true) (hk : t.kind = 8) : t.subs = [] := by
 unfold ownOk shapeOk at h
 rw [hk] at h
 simp only [Bool.and_eq_true, decide_eq_true_eq, reduceCtorEq, if_neg (show ¬ ((8 : Int) = 1 \/ (8 : Int) = 2 \/ (8 : Int) = 3) by decide), if_neg (show ¬ (8 : Int) = 4 by decide), if_neg (show ¬ (8 : Int) = 5 by decide), if_neg (show ¬ (8 : Int) = 6 by decide), if_neg (show ¬ (8 : Int) = 7 by decide), if_pos] at h
 exact List.length_eq_zero_iff.1 h.2.1.1.1.1.1
mutual
theorem loc_ok (m : Mo) : ∀ t : Ty, allOk t = true -> saidT m t = (locT t).flatMap (oneN m) /\ wholeT m t = (locT t).all (knoN m)
 | .mk k p j d n ns ss, h => by
  rw [allOk_eq, Bool.and_eq_true] at h;by_cases hk : k = 8
  ·have hs : ss = [] := local_subs h.1 hk
   subst hs;unfold saidT wholeT locT
   simp only [if_pos hk];refine ⟨by simp [locL, oneN, Ty.mod, Ty.name], by simp [locL, knoN, Ty.mod, Ty.name]⟩
  ·unfold saidT wholeT locT
   simp only [if_neg hk];exact locL_ok m ss h.2
theorem locL_ok (m : Mo) : ∀ l : List Ty, allOkL l = true -> saidL m l = (locL l).flatMap (oneN m) /\ wholeL m l = (locL l).all (knoN m)
 | [], _ => ⟨rfl, rfl⟩
 | t :: r, h => by
  unfold allOkL at h
  rw [Bool.and_eq_true] at h;have h1 := loc_ok m t h.1;have h2 := locL_ok m r h.2;unfold saidL wholeL locL
  rw [h1.1, h2.1, h1.2, h2.2, List.flatMap_append, List.all_append];exact ⟨rfl, rfl⟩
end
theorem loc_may (m : Mo) {t : Ty} (h : mayT t = true) : saidT m t = (locT t).flatMap (oneN m) /\ wholeT m t = (locT t).all (knoN m) := by
 unfold mayT at h
 simp only [Bool.and_eq_true] at h
 exact loc_ok m t h.1.1
theorem loc_noT (m : Mo) : saidT m noT = (locT noT).flatMap (oneN m) /\ wholeT m noT = (locT noT).all (knoN m) := by
 unfold noT saidT wholeT locT
 exact ⟨rfl, rfl⟩
theorem mayD_sorts {d : De} (h : mayD d = true) : ((d.kind = 1 \/ d.kind = 2) /\ d.typ = noT /\ greatB d.name.data.toList = true) \/ (d.kind = 3 /\ mayT d.typ = true /\ greatB d.name.data.toList = true) \/ (d.kind = 4 /\ mayT d.typ = true /\ smallB d.name.data.toList = true) := by
 unfold mayD at h
 split at h
 ·rename_i hk
  rw [Bool.and_eq_true] at h;exact .inl ⟨hk, (sameT_iff _ _).1 h.2, h.1⟩
 ·split at h
  ·rename_i hk
   rw [Bool.and_eq_true] at h;exact .inr (.inl ⟨hk, h.2, h.1⟩)
  ·split at h
   ·rename_i hk
    rw [Bool.and_eq_true] at h;exact .inr (.inr ⟨hk, h.2, h.1⟩)
   ·cases h
theorem loc_dec (m : Mo) {d : De} (h : mayD d = true) : saidT m d.typ = (locT d.typ).flatMap (oneN m) /\ wholeT m d.typ = (locT d.typ).all (knoN m) := by
 rcases mayD_sorts h with ⟨-, e, -⟩ | ⟨-, e, -⟩ | ⟨-, e, -⟩
 ·rw [e]; exact loc_noT m
 ·exact loc_may m e
 ·exact loc_may m e
theorem sort_alike {d e : De} (hd : mayD d = true) (he : mayD e = true) (h : d.name = e.name) : (d.kind == 4) = (e.kind == 4) := by
 rcases mayD_sorts hd with ⟨k, -, g⟩ | ⟨k, -, g⟩ | ⟨k, -, g⟩ <;> rcases mayD_sorts he with ⟨k', -, g'⟩ | ⟨k', -, g'⟩ | ⟨k', -, g'⟩
 all_goals (rw [h] at g)
 all_goals first
  | (rw [small_not_great g] at g'; cases g'; done)
  | (rw [small_not_great g'] at g; cases g; done)
  | skip
 all_goals (first | (rcases k with k | k <;> rcases k' with k' | k' <;> rw [k, k'] <;> rfl) | (rcases k with k | k <;> rw [k, k'] <;> rfl) | (rcases k' with k' | k' <;> rw [k, k'] <;> rfl) | (rw [k, k']))
structure Rch (m : Mo) (t : Ty) (F : Nat -> Bool) (L : List Ty) : Prop where
 only : ∀ i, F i = true -> Reach (entries m) (saidT m t) i
 says : ∀ x ∈ L, ∀ i ∈ oneN m x, Reach (entries m) (saidT m t) i
 own : ∀ x ∈ locT t, x ∈ L
 on : ∀ (k : Nat) (d : De), F k = true -> m.decs[k]? = some d -> d.kind = 3 -> ∀ x ∈ locT d.typ, x ∈ L
theorem Rch.start {m : Mo} {t : Ty} (h : saidT m t = (locT t).flatMap (oneN m)) : Rch m t (fun _ => false) (locT t) :=
 ⟨fun i h => (by cases h), fun x hx i hi => .one (by rw [h]; exact List.mem_flatMap.2 ⟨x, hx, hi⟩), fun _ h => h, fun k d h => (by cases h)⟩
theorem Rch.leaf {m : Mo} {t : Ty} {F : Nat -> Bool} {L : List Ty} {x : Ty} {k : Nat} {d : De} (h : Rch m t F L) (hx : x ∈ L) (hk : k ∈ oneN m x) (hd : m.decs[k]? = some d) (hd3 : d.kind ≠ 3) : Rch m t (fun j => if j = k then true else F j) L := by
 refine ⟨fun i hi => ?_, h.says, h.own, fun i e hi he h3 => ?_⟩
 ·replace hi : (if i = k then true else F i) = true := hi
  split at hi
  ·rename_i e; subst e; exact h.says x hx _ hk
  ·exact h.only i hi
 ·replace hi : (if i = k then true else F i) = true := hi
  split at hi
  ·rename_i e2; subst e2
   rw [hd] at he; cases he
   exact absurd h3 hd3
  ·exact h.on i e hi he h3
theorem Rch.alias {m : Mo} {t : Ty} {F : Nat -> Bool} {L : List Ty} {x : Ty} {k : Nat} {d : De} (h : Rch m t F L) (hx : x ∈ L) (hk : k ∈ oneN m x) (hd : m.decs[k]? = some d) (hs : saidT m d.typ = (locT d.typ).flatMap (oneN m)) :
  Rch m t (fun j => if j = k then true else F j) (L ++ locT d.typ) := by
 have hr := h.says x hx _ hk
 refine ⟨fun i hi => ?_, fun y hy i hi => ?_, fun y hy => List.mem_append_left _ (h.own y hy), fun i e hi he h3 y hy => ?_⟩
 ·replace hi : (if i = k then true else F i) = true := hi
  split at hi
  ·rename_i e; subst e; exact hr
  ·exact h.only i hi
 ·rcases List.mem_append.1 hy with hy | hy
  ·exact h.says y hy i hi
  ·refine .step hr (entries_at hd) ?_
   show i ∈ saidT m d.typ
   rw [hs]; exact List.mem_flatMap.2 ⟨y, hy, hi⟩
 ·replace hi : (if i = k then true else F i) = true := hi
  split at hi
  ·rename_i e2; subst e2
   rw [hd] at he; cases he
   exact List.mem_append_right _ hy
  ·exact List.mem_append_left _ (h.on i e hi he h3 y hy)
theorem Rch.all {m : Mo} {t : Ty} {F : Nat -> Bool} {L : List Ty} (h : Rch m t F L) (hm : ∀ d ∈ m.decs, mayD d = true) (ht : saidT m t = (locT t).flatMap (oneN m)) (hc : ∀ x ∈ L, ∀ i ∈ oneN m x, F i = true) (i : Nat) : F i = reachB (entries m) (saidT m t) i := by
 rw [Bool.eq_iff_iff, reachB_iff]
 refine ⟨h.only i, fun hr => ?_⟩
 induction hr with
 | one hi =>
  rw [ht] at hi;obtain ⟨x, hx, hi⟩ := List.mem_flatMap.1 hi;exact hc x (h.own x hx) _ hi
 | @step i j x hrj hx hi ih =>
  have hj : j < m.decs.length := by
   have := (List.getElem?_eq_some_iff.1 hx).1
   rwa [entries_len] at this
  obtain ⟨d, hd⟩ := dec_at hj;rw [entries_at hd] at hx;cases hx
  have hmd := hm d (List.mem_of_getElem? hd);replace hi : i ∈ saidT m d.typ := hi
  by_cases h3 : d.kind = 3
  ·rw [(loc_dec m hmd).1] at hi
   obtain ⟨y, hy, hi⟩ := List.mem_flatMap.1 hi;exact hc y (h.on j d ih hd h3 y hy) _ hi
  ·obtain ⟨e, he, hk4⟩ := reach_typ hrj
   rw [hd] at he;cases he
   rcases mayD_sorts hmd with ⟨-, e, -⟩ | ⟨k, -⟩ | ⟨k, -⟩
   ·rw [e, said_noT] at hi; cases hi
   ·exact absurd k h3
   ·exact absurd k hk4
noncomputable def badN (m : Mo) (i : Nat) (code : Int) : Bool := match m.decs[i]? with
 | none => false
 | some d => if code = 5 then (m.decs.take i).any fun y => decide (y.name = d.name) && ((y.kind == 4) == (d.kind == 4))
  else if code = 4 then !((locT d.typ).all (knoN m))
  else if code = 6 then (d.kind == 3) && (match typAt m d.name with | some k => reachB (entries m) (saidT m d.typ) k | none => false)
  else hidB (entries m) (saidT m d.typ)
theorem bad5 {m : Mo} (hm : ∀ d ∈ m.decs, mayD d = true) {i : Nat} (hi : i < m.decs.length) : badN m i 5 = dupB (·.name) m.decs i := by
 obtain ⟨d, hd⟩ := dec_at hi
 unfold badN
 rw [hd, dupB_some hd]
 simp only [if_pos]
 rw [Bool.eq_iff_iff, List.any_eq_true, List.any_eq_true]
 constructor
 ·rintro ⟨y, hy, h⟩
  rw [Bool.and_eq_true] at h;exact ⟨y, hy, h.1⟩
 ·rintro ⟨y, hy, h⟩
  refine ⟨y, hy, ?_⟩;rw [h, Bool.true_and, sort_alike (hm y (List.mem_of_mem_take hy)) (hm d (List.mem_of_getElem? hd)) (of_decide_eq_true h)];simp
theorem bad4 {m : Mo} (hm : ∀ d ∈ m.decs, mayD d = true) {i : Nat} (hi : i < m.decs.length) : badN m i 4 = atE (entries m) (fun x => !x.whole) i := by
 obtain ⟨d, hd⟩ := dec_at hi
 unfold badN
 rw [hd, atE_some (entries_at hd)]
 simp only [if_neg (show ¬ (4 : Int) = 5 by decide), if_pos]
 rw [(loc_dec m (hm d (List.mem_of_getElem? hd))).2]
theorem bad6 {m : Mo} (hm : ∀ d ∈ m.decs, mayD d = true) (hu : ∀ i, i < m.decs.length -> dupB (·.name) m.decs i = false) {i : Nat} (hi : i < m.decs.length) : badN m i 6 = atE (entries m) (fun x => reachB (entries m) x.said x.at_) i := by
 obtain ⟨d, hd⟩ := dec_at hi
 have hmd := hm d (List.mem_of_getElem? hd)
 unfold badN
 rw [hd, atE_some (entries_at hd)]
 simp only [if_neg (show ¬ (6 : Int) = 5 by decide), if_neg (show ¬ (6 : Int) = 4 by decide), if_pos]
 rcases mayD_sorts hmd with ⟨k, e, -⟩ | ⟨k, -⟩ | ⟨k, -⟩
 ·rw [e, said_noT]
  have h1 : (d.kind == 3) = false := by rcases k with k | k <;> rw [k] <;> rfl
  rw [h1, Bool.false_and];cases h2 : reachB (entries m) [] i with
  | false => rfl
  | true => exact absurd (reachB_iff.1 h2) (fun h => reach_nil h)
 ·have h1 : typAt m d.name = some i := (typAt_iff hu).2 ⟨d, hd, by simp [isTyp, k]⟩
  rw [k, h1];rfl
 ·have h1 : (d.kind == 3) = false := by rw [k]; rfl
  rw [h1, Bool.false_and];cases h2 : reachB (entries m) (saidT m d.typ) i with
  | false => rfl
  | true =>
   obtain ⟨e, he, hk⟩ := reach_typ (reachB_iff.1 h2);rw [hd] at he;cases he
   exact absurd k hk
theorem bad10 {m : Mo} {i : Nat} (hi : i < m.decs.length) : badN m i 10 = atE (entries m) (fun x => hidB (entries m) x.said) i := by
 obtain ⟨d, hd⟩ := dec_at hi
 unfold badN
 rw [hd, atE_some (entries_at hd)]
 rfl
def codeN (c : Nat) : Int := if c = 0 then 5 else if c = 1 then 4 else if c = 2 then 6 else 10
def RkOut (m : Mo) (b p : Int) : Prop := (mayM m = false /\ b = 1 /\ p = -1) \/ (mayM m = true /\ match check7 m with | none => b = 0 /\ p = -1 | some (i, c) => b = c /\ p = i)
theorem rk_imp {m : Mo} (hm : mayM m = true) {i : Nat} (hi : i < m.imps.length) (hno : ∀ j, j < i -> dupB (·.asn) m.imps j = false) (h : dupB (·.asn) m.imps i = true) : RkOut m 5 i := by
 refine .inr ⟨hm, ?_⟩
 have e : check7 m = some ((i : Int), 5) := by
  unfold check7 faults7
  rw [fstN_yes hi hno h];simp
 rw [e]
 exact ⟨rfl, rfl⟩
theorem fst_part {m : Mo} (hm : mayM m = true) (c : Nat) (hc : c < 4) (hu : c = 2 -> ∀ i, i < m.decs.length -> dupB (·.name) m.decs i = false) : (faults7 m)[c + 1]? = some (fstN (fun i => badN m i (codeN c)) m.decs.length, codeN c) := by
 have hd := (mayM_parts hm).2.2.2
 have ext : ∀ (p q : Nat -> Bool) (n : Nat), (∀ i, i < n -> p i = q i) -> fstN p n = fstN q n := by
  intro p q n h;unfold fstN
  have : (List.range n).find? p = (List.range n).find? q := by
   have key : ∀ l : List Nat, (∀ i ∈ l, p i = q i) -> l.find? p = l.find? q := by
    intro l;induction l with
    | nil => intro _; rfl
    | cons a r ih =>
     intro h;rw [List.find?_cons, List.find?_cons, h a List.mem_cons_self, ih (fun i hi => h i (List.mem_cons_of_mem _ hi))]
   exact key _ (fun i hi => h i (List.mem_range.1 hi))
  rw [this]
 have h4 : c = 0 \/ c = 1 \/ c = 2 \/ c = 3 := by omega
 rcases h4 with rfl | rfl | rfl | rfl
 ·show _ = some (fstN (fun i => badN m i 5) m.decs.length, (5 : Int))
  rw [ext _ _ _ (fun i hi => bad5 hd hi)];rfl
 ·show _ = some (fstN (fun i => badN m i 4) m.decs.length, (4 : Int))
  rw [ext _ _ _ (fun i hi => bad4 hd hi)];show some (fstN (atE (entries m) (fun x => !x.whole)) (entries m).length, (4 : Int)) = _
  rw [entries_len]
 ·show _ = some (fstN (fun i => badN m i 6) m.decs.length, (6 : Int))
  rw [ext _ _ _ (fun i hi => bad6 hd (hu rfl) hi)];show some (fstN (atE (entries m) (fun x => reachB (entries m) x.said x.at_)) (entries m).length, (6 : Int)) = _
  rw [entries_len]
 ·show _ = some (fstN (fun i => badN m i 10) m.decs.length, (10 : Int))
  rw [ext _ _ _ (fun i hi => bad10 hi)];show some (fstN (atE (entries m) (fun x => hidB (entries m) x.said)) (entries m).length, (10 : Int)) = _
  rw [entries_len]
theorem rk_pre {m : Mo} (hm : mayM m = true) (hno : ∀ j, j < m.imps.length -> dupB (·.asn) m.imps j = false) (c : Nat) (hc : c <= 4) (h : ∀ c', c' < c -> ∀ i, i < m.decs.length -> badN m i (codeN c') = false) : ∀ y ∈ (faults7 m).take (c + 1), (!decide (0 <= y.1)) = true := by
 have hu : 0 < c -> ∀ i, i < m.decs.length -> dupB (·.name) m.decs i = false := fun h0 i hi => by
  rw [<- bad5 (mayM_parts hm).2.2.2 hi]; exact h 0 h0 i hi
 intro y hy
 obtain ⟨j, hj⟩ := List.mem_iff_getElem?.1 hy
 rw [List.getElem?_take] at hj
 split at hj
 ·rename_i hlt
  cases j with
  | zero =>
   have e : (faults7 m)[0]? = some (fstN (dupB (·.asn) m.imps) m.imps.length, 5) := rfl;rw [e, fstN_no hno] at hj;cases hj; rfl
  | succ j =>
   rw [fst_part hm j (by omega) (fun e => hu (by omega)), fstN_no (h j (by omega))] at hj;cases hj; rfl
 ·cases hj
theorem rk_dec {m : Mo} (hm : mayM m = true) (hno : ∀ j, j < m.imps.length -> dupB (·.asn) m.imps j = false) {c i : Nat} (hc : c < 4) (h : ∀ c', c' < c -> ∀ i, i < m.decs.length -> badN m i (codeN c') = false)
  (hi : i < m.decs.length) (hni : ∀ j, j < i -> badN m j (codeN c) = false) (hb : badN m i (codeN c) = true) : RkOut m (codeN c) i := by
 refine .inr ⟨hm, ?_⟩
 have hu : 0 < c -> ∀ i, i < m.decs.length -> dupB (·.name) m.decs i = false := fun h0 i hi => by
  rw [<- bad5 (mayM_parts hm).2.2.2 hi]; exact h 0 h0 i hi
 have e : check7 m = some ((i : Int), codeN c) := by
  refine find_at (k := c + 1) ?_ (rk_pre hm hno c (by omega) h) (by simp);rw [fst_part hm c hc (fun e => hu (by omega)), fstN_yes hi hni hb]
 rw [e]
 exact ⟨rfl, rfl⟩
theorem rk_none {m : Mo} (hm : mayM m = true) (hno : ∀ j, j < m.imps.length -> dupB (·.asn) m.imps j = false) (h : ∀ c', c' < 4 -> ∀ i, i < m.decs.length -> badN m i (codeN c') = false) : RkOut m 0 (-1) := by
 refine .inr ⟨hm, ?_⟩
 have e : check7 m = none := by
  refine List.find?_eq_none.2 fun x hx => ?_
  have := rk_pre hm hno 4 (Nat.le_refl _) h x (by rw [List.take_of_length_le (by simp [faults7])]; exact hx)
  simpa using this
 rw [e]
 exact ⟨rfl, rfl⟩
structure Nm where
 name : ByteArray
 typ : Ty
structure If where
 pkg : ByteArray
 major : Int
 mod : ByteArray
 types : List Nm
 vals : List Nm
def isIf (p : ByteArray) (j : Int) (d : ByteArray) (x : If) : Bool := decide (x.pkg = p) && ((x.major == j) && decide (x.mod = d))
def findI (env : List If) (p : ByteArray) (j : Int) (d : ByteArray) : Option Nat := env.findIdx? (isIf p j d)
def isNm (s : ByteArray) (x : Nm) : Bool := decide (x.name = s)
def ofI (l : List Nm) (s : ByteArray) : Option Nat := l.findIdx? (isNm s)
def impAt (m : Mo) (s : ByteArray) : Option Nat := m.imps.findIdx? fun x => decide (x.asn = s)
def envT (env : List If) (x : Im) (s : ByteArray) : Option Ty :=
 match findI env x.pkg x.major x.mod with
 | none => none
 | some k => match env[k]? with
  | none => none
  | some i => match ofI i.types s with
   | none => none
   | some n => (i.types[n]?).map (·.typ)
def thereT (m : Mo) (env : List If) (l : Ty) : Option Ty :=
 match impAt m l.mod with
 | none => none
 | some k => match m.imps[k]? with
  | none => none
  | some x => match envT env x l.name with
   | none => none
   | some t => if (mayT t && plainT t) = true then some t else none
theorem thereT_plain {m : Mo} {env : List If} {l t : Ty} (h : thereT m env l = some t) : mayT t = true /\ plainT t = true := by
 unfold thereT at h
 split at h
 ·cases h
 ·split at h
  ·cases h
  ·split at h
   ·cases h
   ·split at h
    ·rename_i hp
     cases h
     exact (Bool.and_eq_true _ _).mp hp
    ·cases h
def openT (m : Mo) (pkg : ByteArray) (major : Int) (name : ByteArray) : Ty := .mk 9 pkg major m.name name [] []
def meanT (m : Mo) (pkg : ByteArray) (major : Int) (env : List If) (x : Ty) : Option Ty :=
 if x.mod.size = 0 then
  match typAt m x.name with
  | none => none
  | some k => (m.decs[k]?).map fun d => if d.kind = 3 then d.typ else openT m pkg major x.name
 else thereT m env x
def Ty.withSubs (t : Ty) (us : List Ty) : Ty := .mk t.kind t.pkg t.major t.mod t.name t.names us
def ExpH (mean : Ty -> Option Ty) : Nat -> Ty -> Ty -> Prop
 | 0, _, _ => False
 | h + 1, t, u => (t.kind = 8 /\ ∃ s, mean t = some s /\ ExpH mean h s u) \/ (t.kind ≠ 8 /\ ∃ us : List Ty, u = Ty.withSubs t us /\ us.length = t.subs.length /\ ∀ (i : Nat) (s v : Ty), t.subs[i]? = some s -> us[i]? = some v -> ExpH mean h s v)
theorem ExpH.mono {mean : Ty -> Option Ty} : ∀ {h : Nat} {h' : Nat} {t u : Ty}, h <= h' -> ExpH mean h t u -> ExpH mean h' t u
 | 0, _, _, _, _, hx => hx.elim
 | h + 1, 0, _, _, hle, _ => by omega
 | h + 1, h' + 1, t, u, hle, hx => by
  rcases hx with ⟨h8, s, hs, hx⟩ | ⟨h8, us, rfl, hl, hx⟩
  ·exact .inl ⟨h8, s, hs, ExpH.mono (by omega) hx⟩
  ·exact .inr ⟨h8, us, rfl, hl, fun i s v hs hv => ExpH.mono (by omega) (hx i s v hs hv)⟩
theorem plain_parts {t : Ty} (h : plainT t = true) : t.kind ≠ 8 /\ ∀ s ∈ t.subs, plainT s = true := by
 cases t with
 | mk k p j d n ns ss =>
  unfold plainT at h
  simp only [Bool.and_eq_true, Bool.not_eq_true', beq_eq_false_iff_ne] at h;refine ⟨h.1, ?_⟩
  have key : ∀ l : List Ty, plainL l = true -> ∀ s ∈ l, plainT s = true := by
   intro l;induction l with
   | nil => intro _ s hs; cases hs
   | cons a r ih =>
    intro h s hs;unfold plainL at h
    rw [Bool.and_eq_true] at h;rcases List.mem_cons.1 hs with rfl | hs
    ·exact h.1
    ·exact ih h.2 s hs
  exact key ss h.2
theorem exp_plain (mean : Ty -> Option Ty) : ∀ (N : Nat) (t : Ty), many t <= N -> plainT t = true -> ExpH mean N t t := by
 intro N
 induction N with
 | zero => intro t h; have := many_pos t; omega
 | succ N ih =>
  intro t hN hp;obtain ⟨h8, hs⟩ := plain_parts hp;refine .inr ⟨h8, t.subs, by cases t; rfl, rfl, fun i s v h1 h2 => ?_⟩;rw [h1] at h2;cases h2
  have hm := List.mem_of_getElem? h1;have := manyL_mem _ _ hm
  have e : many t = 1 + manyL t.subs := by cases t; rfl
  exact ih s (by omega) (hs s hm)
structure Good (m : Mo) (env : List If) (t : Ty) : Prop where
 ok : allOk t = true
 kno : ∀ x ∈ locT t, knoN m x = true
 has : ∀ x ∈ locT t, x.mod.size ≠ 0 -> (thereT m env x).isSome = true
 on : ∀ (k : Nat) (d : De), Reach (entries m) (saidT m t) k -> m.decs[k]? = some d -> d.kind = 3 -> ∀ x ∈ locT d.typ, x.mod.size ≠ 0 -> (thereT m env x).isSome = true
noncomputable def reaches (m : Mo) (t : Ty) : Nat := ((List.range m.decs.length).filter fun i => reachB (entries m) (saidT m t) i).length
theorem reaches_le {m : Mo} {s t : Ty} (h : ∀ i, Reach (entries m) (saidT m s) i -> Reach (entries m) (saidT m t) i) : reaches m s <= reaches m t := by
 unfold reaches
 have := filter_le (fun i => !reachB (entries m) (saidT m s) i |> Bool.not) (fun i => reachB (entries m) (saidT m t) i) (fun i hi => reachB_iff.2 (h i (reachB_iff.1 (by simpa using hi)))) (List.range m.decs.length)
 have key : ∀ l : List Nat, (l.filter fun i => reachB (entries m) (saidT m s) i).length <= (l.filter fun i => reachB (entries m) (saidT m t) i).length := by
  intro l;induction l with
  | nil => exact Nat.le_refl _
  | cons a r ih =>
   cases h1 : reachB (entries m) (saidT m s) a with
   | false =>
    cases h2 : reachB (entries m) (saidT m t) a with
    | false => simp [h1, h2]; exact ih
    | true => simp [h1, h2]; omega
   | true =>
    have h2 : reachB (entries m) (saidT m t) a = true := reachB_iff.2 (h a (reachB_iff.1 h1));simp [h1, h2]; exact ih
 exact key _
theorem reaches_lt {m : Mo} {s t : Ty} (h : ∀ i, Reach (entries m) (saidT m s) i -> Reach (entries m) (saidT m t) i) {k : Nat} (hk : k < m.decs.length) (hkt : Reach (entries m) (saidT m t) k) (hks : ¬ Reach (entries m) (saidT m s) k) : reaches m s < reaches m t := by
 unfold reaches
 have le : ∀ l : List Nat, (l.filter fun i => reachB (entries m) (saidT m s) i).length <= (l.filter fun i => reachB (entries m) (saidT m t) i).length := by
  intro l;induction l with
  | nil => exact Nat.le_refl _
  | cons a r ih =>
   cases h1 : reachB (entries m) (saidT m s) a with
   | false =>
    cases h2 : reachB (entries m) (saidT m t) a with
    | false => simp [h1, h2]; exact ih
    | true => simp [h1, h2]; omega
   | true =>
    have h2 : reachB (entries m) (saidT m t) a = true := reachB_iff.2 (h a (reachB_iff.1 h1));simp [h1, h2]; exact ih
 have h1k : reachB (entries m) (saidT m s) k = false := by
  cases e : reachB (entries m) (saidT m s) k with
  | false => rfl
  | true => exact absurd (reachB_iff.1 e) hks
 have h2k := reachB_iff.2 hkt
 have lt : ∀ l : List Nat, k ∈ l -> (l.filter fun i => reachB (entries m) (saidT m s) i).length < (l.filter fun i => reachB (entries m) (saidT m t) i).length := by
  intro l;induction l with
  | nil => intro h; cases h
  | cons a r ih =>
   intro hm;by_cases e : k = a
   ·subst e
    have := le r
    simp [h1k, h2k]; omega
   ·have := ih ((List.mem_cons.1 hm).resolve_left e)
    cases h1 : reachB (entries m) (saidT m s) a with
    | false =>
     cases h2 : reachB (entries m) (saidT m t) a with
     | false => simp [h1, h2]; exact this
     | true => simp [h1, h2]; omega
    | true =>
     have h2 : reachB (entries m) (saidT m t) a = true := reachB_iff.2 (h a (reachB_iff.1 h1));simp [h1, h2]; exact this
 exact lt _ (List.mem_range.2 hk)
theorem said_sub {m : Mo} {t s : Ty} (hk : t.kind ≠ 8) (hs : s ∈ t.subs) : ∀ i ∈ saidT m s, i ∈ saidT m t := by
 rw [saidT_sub m t hk]
 have key : ∀ l : List Ty, s ∈ l -> ∀ i ∈ saidT m s, i ∈ saidL m l := by
  intro l;induction l with
  | nil => intro h; cases h
  | cons a r ih =>
   intro h i hi;unfold saidL
   rcases List.mem_cons.1 h with rfl | h
   ·exact List.mem_append_left _ hi
   ·exact List.mem_append_right _ (ih h i hi)
 exact key _ hs
theorem loc_sub {t s : Ty} (hs : s ∈ t.subs) : ∀ x ∈ locT s, x ∈ locT t := by
 rw [locT_eq t]
 have key : ∀ l : List Ty, s ∈ l -> ∀ x ∈ locT s, x ∈ locL l := by
  intro l;induction l with
  | nil => intro h; cases h
  | cons a r ih =>
   intro h x hx;unfold locL
   rcases List.mem_cons.1 h with rfl | h
   ·exact List.mem_append_left _ hx
   ·exact List.mem_append_right _ (ih h x hx)
 exact fun x hx => List.mem_append_right _ (key _ hs x hx)
theorem Good.sub {m : Mo} {env : List If} {t s : Ty} (h : Good m env t) (hk : t.kind ≠ 8) (hs : s ∈ t.subs) : Good m env s := by
 have ha := h.ok
 rw [allOk_eq, Bool.and_eq_true] at ha
 exact ⟨(allOkL_mem _).1 ha.2 s hs, fun x hx => h.kno x (loc_sub hs x hx), fun x hx => h.has x (loc_sub hs x hx), fun k d hr => h.on k d (hr.mono fun j hj => .one (said_sub hk hs j hj))⟩
theorem exp_some {m : Mo} {pkg : ByteArray} {major : Int} {env : List If} (hm : mayM m = true) (ok : Ok7 m) : ∀ (N : Nat) (M : Nat) (t : Ty), reaches m t <= N -> many t <= M -> Good m env t -> ∃ h u, ExpH (meanT m pkg major env) h t u := by
 intro N
 induction N using Nat.strongRecOn with
 | ind N ihN =>
 intro M
 induction M with
 | zero => intro t _ h; have := many_pos t; omega
 | succ M ih =>
  intro t hN hM hg;by_cases hk : t.kind = 8
  ·by_cases hz : t.mod.size = 0
   ·have hx : t ∈ locT t := by rw [locT_eq, if_pos hk]; simp
    have h1 := hg.kno t hx;unfold knoN at h1
    rw [if_pos hz] at h1;obtain ⟨k, hk1⟩ := Option.isSome_iff_exists.1 h1;obtain ⟨d, hd⟩ := dec_at (typAt_lt hk1);have hsd : saidT m t = [k] := by rw [saidT_local m t hk, if_pos hz, hk1]; rfl
    by_cases h3 : d.kind = 3
    ·have hmean : meanT m pkg major env t = some d.typ := by unfold meanT; rw [if_pos hz, hk1]; simp [hd, h3]
     have hrk : Reach (entries m) (saidT m t) k := .one (by rw [hsd]; simp);have hin : ∀ i, Reach (entries m) (saidT m d.typ) i -> Reach (entries m) (saidT m t) i := fun i hr => hr.mono fun j hj => .step hrk (entries_at hd) hj
     have hmd := (mayM_parts hm).2.2.2 d (List.mem_of_getElem? hd)
     have hmt : mayT d.typ = true := by
      rcases mayD_sorts hmd with ⟨e, -⟩ | ⟨-, e, -⟩ | ⟨e, -⟩
      ·rcases e with e | e <;> rw [h3] at e <;> cases e
      ·exact e
      ·rw [h3] at e; cases e
     have hgd : Good m env d.typ := by
      refine ⟨?_, fun x hx => ?_, fun x hx hz => hg.on k d hrk hd h3 x hx hz, fun j e hr => hg.on j e (hin j hr)⟩
      ·unfold mayT at hmt
       simp only [Bool.and_eq_true] at hmt;exact hmt.1.1
      ·have := ok.whole k d hd
       rw [(loc_may m hmt).2, List.all_eq_true] at this;exact this x hx
     have hlt := reaches_lt hin (dec_lt hd) hrk (ok.circ k d hd);obtain ⟨h, u, hu⟩ := ihN (reaches m d.typ) (by omega) (many d.typ) d.typ (Nat.le_refl _) (Nat.le_refl _) hgd;exact ⟨h + 1, u, .inl ⟨hk, _, hmean, hu⟩⟩
    ·have hmean : meanT m pkg major env t = some (openT m pkg major t.name) := by unfold meanT; rw [if_pos hz, hk1]; simp [hd, h3]
     exact ⟨2, openT m pkg major t.name, .inl ⟨hk, _, hmean, .inr ⟨by show (9 : Int) ≠ 8; decide, [], rfl, rfl, fun i s v h => by simp [openT, Ty.subs] at h⟩⟩⟩
   ·have hx : t ∈ locT t := by rw [locT_eq, if_pos hk]; simp
    obtain ⟨s, hs⟩ := Option.isSome_iff_exists.1 (hg.has t hx hz);have hmean : meanT m pkg major env t = some s := by unfold meanT; rw [if_neg hz, hs]
    exact ⟨many s + 1, s, .inl ⟨hk, s, hmean, exp_plain _ _ s (Nat.le_refl _) (thereT_plain hs).2⟩⟩
  ·have hall : ∀ i : Fin t.subs.length, ∃ q : Nat × Ty, ExpH (meanT m pkg major env) q.1 t.subs[i] q.2 := fun i => by
    have hm1 : t.subs[i] ∈ t.subs := List.getElem_mem _;have h1 := manyL_mem _ _ hm1;have e : many t = 1 + manyL t.subs := by cases t; rfl
    obtain ⟨h, u, hu⟩ := ih t.subs[i] (Nat.le_trans (reaches_le fun j hr => hr.mono fun q hq => .one (said_sub hk hm1 q hq)) hN) (by omega) (hg.sub hk hm1);exact ⟨(h, u), hu⟩
   obtain ⟨F, hF⟩ := Classical.axiomOfChoice hall
   obtain ⟨H, hH⟩ : ∃ H, ∀ i, (F i).1 <= H := by
    have key : ∀ l : List Nat, ∃ H, ∀ x ∈ l, x <= H := by
     intro l;induction l with
     | nil => exact ⟨0, fun x h => by cases h⟩
     | cons a r ih =>
      obtain ⟨H, hH⟩ := ih
      exact ⟨max a H, fun x hx => by
       rcases List.mem_cons.1 hx with rfl | hx
       ·omega
       ·have := hH x hx; omega⟩
    obtain ⟨H, hH⟩ := key (List.ofFn fun i => (F i).1);exact ⟨H, fun i => hH _ (List.mem_ofFn.2 ⟨i, rfl⟩)⟩
   refine ⟨H + 1, Ty.withSubs t (List.ofFn fun i => (F i).2), .inr ⟨hk, _, rfl, by simp, fun i s v hs hv => ?_⟩⟩;have hi := (List.getElem?_eq_some_iff.1 hs).1;rw [List.getElem?_eq_getElem hi] at hs;cases hs
   rw [List.getElem?_ofFn, dif_pos hi] at hv;cases hv
   exact (hF ⟨i, hi⟩).mono (hH _)
theorem exp_is_plain {m : Mo} {pkg : ByteArray} {major : Int} {env : List If} : ∀ (h : Nat) (t u : Ty), ExpH (meanT m pkg major env) h t u -> plainT u = true := by
 intro h
 induction h with
 | zero => intro t u hx; exact hx.elim
 | succ h ih =>
  intro t u hx;rcases hx with ⟨h8, s, hs, hx⟩ | ⟨h8, us, rfl, hl, hx⟩
  ·exact ih s u hx
  ·unfold Ty.withSubs plainT
   have e : (t.kind == 8) = false := by simpa using h8
   rw [e]
   have key : ∀ l : List Ty, (∀ v ∈ l, plainT v = true) -> plainL l = true := by
    intro l;induction l with
    | nil => intro _; rfl
    | cons a r ih =>
     intro h;unfold plainL
     rw [h a List.mem_cons_self, ih fun v hv => h v (List.mem_cons_of_mem _ hv)]; rfl
   rw [key us fun v hv => ?_]
   ·rfl
   obtain ⟨i, hi⟩ := List.mem_iff_getElem?.1 hv;have hil := (List.getElem?_eq_some_iff.1 hi).1;exact ih _ v (hx i _ v (List.getElem?_eq_getElem (by omega)) hi)
end Go.Proofs.YtcdmgcgjonndpaaGreatDoor
