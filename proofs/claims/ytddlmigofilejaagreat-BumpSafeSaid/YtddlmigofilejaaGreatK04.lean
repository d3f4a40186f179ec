/-
  Several texts in one.
-/
import Derived.Test.YtddlmigofilejaaGreatK03
import Derived.LaidEql
import Derived.Stop.Asserts
import Derived.RowKitTokens
import Derived.Lib.IfaceEq
import Derived.Laws.Pointers
import Derived.Lib.ItoaLen
import Derived.Deep.RegionHeld3
import Derived.Deep.RegionWith
import Derived.Laws.BitsLemmas
set_option maxRecDepth 100000
set_option maxHeartbeats 4000000
namespace Go.Proofs.YtddlmigofilejaaGreat
open Go.RowKit
open Go.Sort
open M
theorem RowIn.im {w : World} {A : Option Addr} {xs : List Im} (h : RowIn imR w A xs) {i : Nat} {x : Im} (hx : xs[i]? = some x) : ∃ g o, A = some ⟨g, o, none⟩ /\ g < w.heap.size /\
    w.cell? ⟨g, o + i * 4, none⟩ = some (.string x.pkg) /\ w.cell? ⟨g, o + i * 4 + 1, none⟩ = some (.int .i64 x.major) /\ w.cell? ⟨g, o + i * 4 + 2, none⟩ = some (.string x.mod) /\ w.cell? ⟨g, o + i * 4 + 3, none⟩ = some (.string x.asn) /\
    x.pkg.size <= 9223372036854775807 /\ x.mod.size <= 9223372036854775807 /\ x.asn.size <= 9223372036854775807 := by
  obtain ⟨g, o, l, hA, hg, hc, rfl, z1, z2, z3⟩ := h i x hx;exact ⟨g, o, hA, hg, hc 0 _ rfl, hc 1 _ rfl, hc 2 _ rfl, hc 3 _ rfl, z1, z2, z3⟩
theorem RowIn.de {w : World} {A : Option Addr} {xs : List De} (h : RowIn deR w A xs) {i : Nat} {x : De} (hx : xs[i]? = some x) : ∃ (g o : Nat) (v0 v1 v2 v3 v4 v5 v6 : Value), A = some ⟨g, o, none⟩ /\ g < w.heap.size /\
    w.cell? ⟨g, o + i * 9, none⟩ = some (.int .i64 x.kind) /\ w.cell? ⟨g, o + i * 9 + 1, none⟩ = some (.string x.name) /\ w.cell? ⟨g, o + i * 9 + 2, none⟩ = some v0 /\ w.cell? ⟨g, o + i * 9 + 2 + 1, none⟩ = some v1 /\ w.cell? ⟨g, o + i * 9 + 2 + 2, none⟩ = some v2 /\
    w.cell? ⟨g, o + i * 9 + 2 + 3, none⟩ = some v3 /\ w.cell? ⟨g, o + i * 9 + 2 + 4, none⟩ = some v4 /\ w.cell? ⟨g, o + i * 9 + 2 + 5, none⟩ = some v5 /\ w.cell? ⟨g, o + i * 9 + 2 + 6, none⟩ = some v6 /\ TyAt w [v0, v1, v2, v3, v4, v5, v6] x.typ /\ x.name.size <= 9223372036854775807 := by
  obtain ⟨g, o, l, hA, hg, hc, hs, l7, rfl, hT⟩ := h i x hx;obtain ⟨v0, v1, v2, v3, v4, v5, v6, rfl⟩ := list7 l7 hT.len;exact ⟨g, o, v0, v1, v2, v3, v4, v5, v6, hA, hg, hc 0 _ rfl, hc 1 _ rfl, hc 2 _ rfl, hc 3 _ rfl, hc 4 _ rfl, hc 5 _ rfl, hc 6 _ rfl, hc 7 _ rfl, hc 8 _ rfl, hT, hs⟩
end Go.Proofs.YtddlmigofilejaaGreat
namespace Go.Proofs.YtddlmigofilejaaGreat
open Go.RowKit
open M
theorem many_any (N : Nat) : ∀ (t : Ty), many t <= N -> many t <= 9000 -> ∀ (v : Value) (w : World), TyV w v t ->
    Calls Tryz.prog 115 #[v] w fun e w' => e = .returned (.int .i64 (many t : Nat)) /\ Below w.heap.size w w' := by
  induction N with
  | zero => intro t h; have := many_pos t; omega
  | succ N ih =>
    intro t hN hM v w hv;obtain ⟨l, rfl, hT⟩ := hv;obtain ⟨An, cn, As, cs, rfl, -, -, -, -, hz, -, hS⟩ := hT.parts;have HS := hZ hS;have HE := hZ (manyL_eq t);have HL := manyL_len t.subs;have hM' : manyL t.subs <= 9000 := by have := HE.out; omega
    clear hT hS;generalize hn : t.subs.length = n at hz HL
    have HN := hZ hn;clear hn;go_enter Tryz.func115, Tryz.ntmps115
    go_wp2_with fail
    go_loopw [3, 4] (fun m i wr => ∃ k : Nat, k <= n /\ i = .int .i64 k /\ m = .int .i64 ((1 + manyL (t.subs.take k) : Nat) : Int) /\ Below (boxed w #[.int .i64 t.kind, .string t.pkg, .int .i64 t.major, .string t.mod, .string t.name, .slice An t.names.length cn, .slice As n cs]).heap.size (boxed w #[.int .i64 t.kind, .string t.pkg, .int .i64 t.major, .string t.mod, .string t.name, .slice An t.names.length cn, .slice As n cs]) wr) (fun _ i _ => n - (intOf i).toNat)
    case atStart => exact ⟨0, by omega, rfl, by simp [manyL], Below.refl _ _⟩
    case round =>
      obtain ⟨k, hk, rfl, rfl, hb⟩ := hrel;obtain ⟨wo, rfl⟩ : ∃ wo : World, wo = wr := ⟨_, rfl⟩;have b6 := box_cell hb 6;simp at b6;have HB := hZ (box_below hb);have htk := manyL_take_le t.subs k;by_cases hlt : k < n
      · obtain ⟨s, hs⟩ : ∃ s, t.subs[k]? = some s := ⟨_, List.getElem?_eq_getElem (by rw [HN.out]; exact hlt)⟩
        obtain ⟨g, o, v0, v1, v2, v3, v4, v5, v6, rfl, -, h0, h1, h2, h3, h4, h5, h6, hs7⟩ := HS.out.below HB.out k s hs;have hsm := sub_many hs;have T1 := hZ (manyL_take t.subs k s hs);have htk1 := manyL_take_le t.subs (k + 1);have IH := hZ (ih s (by omega) (by omega) (.agg #[v0, v1, v2, v3, v4, v5, v6]) wo ⟨_, rfl, hs7⟩);have hsz : many s <= 9000 := by omega
        clear hs7 hs hsm;go_wp2_with fail
        refine IH.out.mono ?_; rintro e w2 ⟨rfl, hb2⟩
        have hb3 := below_over hb hb2;clear b6 h0 h1 h2 h3 h4 h5 h6 hb hb2;go_wp2_with fail
        go_roundw
        case rel => exact ⟨k + 1, by omega, by go_num, by rw [T1.out]; go_num, hb3⟩
        case measure => simp [intOf]; omega
      · have hkn : k = n := by omega
        have T0 : Hid (many t = 1 + manyL (t.subs.take k)) := hZ (by rw [HE.out, List.take_of_length_le (by rw [HN.out]; omega)]);go_wp2_with fail
        go_ret;exact ⟨ret_int' (by rw [T0.out]), HB.out⟩
theorem few_eq (t : Ty) (most : Int) : fewT t most = if most - 1 < 0 \/ 200 < t.names.length then -1 else fewL t.subs (most - 1) := by cases t; rfl
theorem fewL_take : ∀ (l : List Ty) (k : Nat) (most : Int), fewL l most = fewL (l.drop k) (fewL (l.take k) most)
  | [], k, most => by simp [fewL]
  | t :: r, 0, most => rfl
  | t :: r, k + 1, most => by
    show (if 0 <= most then fewL r (fewT t most) else most) = fewL (r.drop k) (if 0 <= most then fewL (r.take k) (fewT t most) else most)
    split
    · exact fewL_take r k _
    · rw [fewL_neg _ _ (by omega)]
theorem fewL_snoc (l : List Ty) (k : Nat) (t : Ty) (most : Int) (h : l[k]? = some t) (h0 : 0 <= fewL (l.take k) most) : fewL (l.take (k + 1)) most = fewT t (fewL (l.take k) most) := by
  have hk := (List.getElem?_eq_some_iff.1 h).1;have e := fewL_take (l.take (k + 1)) k most;rw [List.take_take, Nat.min_eq_left (by omega)] at e
  have d : (l.take (k + 1)).drop k = [t] := by
    rw [List.take_add_one, h, List.drop_append_of_le_length (by simp; omega), List.drop_eq_nil_of_le (List.length_take_le _ _)];rfl
  rw [e, d];show (if 0 <= _ then fewL [] _ else _) = _
  rw [if_pos h0]; rfl
theorem few_any (N : Nat) : ∀ (t : Ty), many t <= N -> ∀ (most : Int), -1 <= most -> most <= 3000 -> ∀ (v : Value) (w : World), TyV w v t ->
    Calls Tryz.prog 34 #[v, .int .i64 most] w fun e w' => e = .returned (.int .i64 (fewT t most)) /\ Below w.heap.size w w' := by
  induction N with
  | zero => intro t h; have := many_pos t; omega
  | succ N ih =>
    intro t hN most hlo hhi v w hv;obtain ⟨l, rfl, hT⟩ := hv;obtain ⟨An, cn, As, cs, rfl, -, -, -, hzn, hz, -, hS⟩ := hT.parts;have HS := hZ hS;clear hT hS;generalize hn : t.subs.length = n at hz
    have HN := hZ hn;clear hn;have HE := hZ (few_eq t most);by_cases hm : most - 1 < 0
    · have R : Hid (fewT t most = -1) := hZ (by rw [HE.out, if_pos (.inl hm)])
      rw [R.out];go_enter Tryz.func34, Tryz.ntmps34
      go_wp2_with fail
      go_ret;exact ⟨rfl, below_new (Below.refl _ _) _⟩
    generalize hq : t.names.length = q at hzn HE
    by_cases hl : 200 < q
    · have R : Hid (fewT t most = -1) := hZ (by rw [HE.out, if_pos (.inr hl)])
      have hl' : (200 : Int) < q := by omega
      rw [R.out];clear hq;go_enter Tryz.func34, Tryz.ntmps34
      go_wp2_with fail
      go_ret;exact ⟨rfl, below_new (Below.refl _ _) _⟩
    have HR : Hid (fewT t most = fewL t.subs (most - 1)) := hZ (by rw [HE.out, if_neg (by omega)]);have hl' : ¬ (200 : Int) < q := by omega
    clear HE hq;go_enter Tryz.func34, Tryz.ntmps34
    go_wp2_with fail
    go_loopw [1, 5] (fun m i wr => ∃ k : Nat, k <= n /\ i = .int .i64 k /\ m = .int .i64 (fewL (t.subs.take k) (most - 1)) /\ Below (boxed w #[.int .i64 t.kind, .string t.pkg, .int .i64 t.major, .string t.mod, .string t.name, .slice An q cn, .slice As n cs]).heap.size (boxed w #[.int .i64 t.kind, .string t.pkg, .int .i64 t.major, .string t.mod, .string t.name, .slice An q cn, .slice As n cs]) wr) (fun _ i _ => n - (intOf i).toNat)
    case atStart => exact ⟨0, by omega, rfl, by simp [fewL], Below.refl _ _⟩
    case round =>
      obtain ⟨k, hk, rfl, rfl, hb⟩ := hrel;obtain ⟨wo, rfl⟩ : ∃ wo : World, wo = wr := ⟨_, rfl⟩;have b6 := box_cell hb 6;simp at b6;have HB := hZ (box_below hb);have bd := fewL_bd (t.subs.take k) (most - 1) (by omega);by_cases hlt : k < n
      · by_cases h0 : 0 <= fewL (t.subs.take k) (most - 1)
        · obtain ⟨s, hs⟩ : ∃ s, t.subs[k]? = some s := ⟨_, List.getElem?_eq_getElem (by rw [HN.out]; exact hlt)⟩
          obtain ⟨g, o, v0, v1, v2, v3, v4, v5, v6, rfl, -, h0', h1, h2, h3, h4, h5, h6, hs7⟩ := HS.out.below HB.out k s hs;have hsm := sub_many hs;have T1 := hZ (fewL_snoc t.subs k s (most - 1) hs h0);have IH := hZ (ih s (by omega) (fewL (t.subs.take k) (most - 1)) (by omega) (by omega) (.agg #[v0, v1, v2, v3, v4, v5, v6]) wo ⟨_, rfl, hs7⟩);clear hs7 hs hsm;generalize fewL (t.subs.take k) (most - 1) = z at h0 IH T1 bd
          go_wp2_with fail
          refine IH.out.mono ?_; rintro e w2 ⟨rfl, hb2⟩
          have hb3 := below_over hb hb2;clear b6 h0' h1 h2 h3 h4 h5 h6 hb hb2;go_wp2_with fail
          go_roundw
          case rel => exact ⟨k + 1, by omega, by go_num, by rw [T1.out], hb3⟩
          case measure => simp [intOf]; omega
        · have T0 : Hid (fewT t most = fewL (t.subs.take k) (most - 1)) := hZ (by rw [HR.out, fewL_take t.subs k, fewL_neg _ _ (by omega)])
          generalize fewL (t.subs.take k) (most - 1) = z at h0 T0 bd
          go_wp2_with fail
          go_ret;exact ⟨ret_int' T0.out, HB.out⟩
      · have T0 : Hid (fewT t most = fewL (t.subs.take k) (most - 1)) := hZ (by rw [HR.out, List.take_of_length_le (by rw [HN.out]; omega)])
        generalize fewL (t.subs.take k) (most - 1) = z at T0 bd
        go_wp2_with fail
        go_ret;exact ⟨ret_int' T0.out, HB.out⟩
end Go.Proofs.YtddlmigofilejaaGreat
namespace Go.Proofs.YtddlmigofilejaaGreat
open Go.RowKit
open Go.Sort
open M
def mayI (x : Im) : Bool := smallB x.pkg.data.toList && (smallB x.mod.data.toList && (smallB x.asn.data.toList && (decide (1 <= x.major) && decide (x.major <= 999999999))))
def mayD (d : De) : Bool :=
  if d.kind = 1 \/ d.kind = 2 then greatB d.name.data.toList && sameT d.typ noT
  else if d.kind = 3 then greatB d.name.data.toList && mayT d.typ
  else if d.kind = 4 then smallB d.name.data.toList && mayT d.typ
  else false
end Go.Proofs.YtddlmigofilejaaGreat
namespace Go.Proofs.YtddlmigofilejaaGreat
open Go.RowKit Go.Extern.Stop Go.Stop Go.Extern
theorem sp_typeOfC (v : Value) (w : World) : (ReflectliteType.typeOf #[.iface 33 v]).run Tryz.prog w = .ok (.iface 167 (.agg #[.pointer (some ⟨0, 33, none⟩)])) w := by kernel_rfl
theorem sp_methodComparable (h : Value) (w : World) : (Go.method 379 167 (.agg #[h]) "Comparable").run Tryz.prog w = .ok (215, .agg #[h]) w := by kernel_rfl
theorem sp_comparableC (w : World) : ((ReflectliteType.method fun t => do Rtype.noPackHeld "Comparable" t; (fun a => Value.bool a.comparable) <$> typeInfo t) #[.agg #[.pointer (some ⟨0, 33, none⟩)]]).run Tryz.prog w = .ok (.bool true) w := by kernel_rfl
theorem sp_comp : (Tryz.prog.info? 33).map (·.comparable) = some true := by kernel_rfl
end Go.Proofs.YtddlmigofilejaaGreat
namespace Go.Proofs.YtddlmigofilejaaGreat
open Go.RowKit
open Go.Sort
open M
def mayM (m : Mo) : Bool := smallB m.name.data.toList && (decide (m.imps.length <= 20) && (decide (m.decs.length <= 60) && (m.imps.all mayI && m.decs.all mayD)))
theorem all_snoc {α : Type} (p : α -> Bool) (l : List α) (j : Nat) (x : α) (h : l[j]? = some x) : (l.take (j + 1)).all p = ((l.take j).all p && p x) := by
  rw [List.take_add_one, h, List.all_append]; simp
def dec (n : Int) : ByteArray := ⟨(Lib.decDigits n.toNat).toArray⟩
end Go.Proofs.YtddlmigofilejaaGreat
namespace Go.Proofs.YtddlmigofilejaaGreat.M
def rowOf (L : List (List UInt8)) (ns : List ByteArray) : Nat -> List UInt8
  | 0 => []
  | k + 1 => (if 0 < k then rowOf L ns k ++ [44, 32] else rowOf L ns k) ++ (if 0 < ns.length then (nameAt ns k).data.toList ++ [58, 32] else []) ++ L.getD k []
def kindText (k : Int) (p : ByteArray) (m : Int) (d n : ByteArray) (ns : List ByteArray) (L : List (List UInt8)) : List UInt8 :=
  if k = 1 then [73, 110, 116]
  else if k = 2 then [84, 101, 120, 116]
  else if k = 3 then [66, 111, 111, 108]
  else if k = 4 then [76, 105, 115, 116, 40] ++ L.getD 0 [] ++ [41]
  else if k = 5 then [123] ++ rowOf L ns L.length ++ [125]
  else if k = 6 then [91] ++ rowOf L ns L.length ++ [93]
  else if k = 7 then [40] ++ rowOf L [] (L.length - 1) ++ [41, 32, 45, 62, 32] ++ L.getD (L.length - 1) []
  else if k = 9 then [60] ++ p.data.toList ++ [32] ++ (dec m).data.toList ++ [32] ++ d.data.toList ++ [32] ++ n.data.toList ++ [62]
  else if d.size = 0 then n.data.toList
  else d.data.toList ++ [46] ++ n.data.toList
mutual
def textT : Ty -> List UInt8
  | .mk k p m d n ns ss => kindText k p m d n ns (textsT ss)
def textsT : List Ty -> List (List UInt8)
  | [] => []
  | t :: r => textT t :: textsT r
end
end Go.Proofs.YtddlmigofilejaaGreat.M
namespace Go.Proofs.YtddlmigofilejaaGreat.M
open Go
def alnum (c : UInt8) : Bool := anyC (c.toNat : Int)
def Word (l : List UInt8) : Prop := ∀ c ∈ l, alnum c = true
def Halt (l : List UInt8) : Prop := ∀ c r, l = c :: r -> alnum c = false
theorem halt_cons {c : UInt8} {r : List UInt8} (h : alnum c = false) : Halt (c :: r) := fun a s e => by
  simp only [List.cons.injEq] at e;rw [<- e.1]; exact h
theorem word_all {g : Int -> Bool} {f : Int -> Bool} {s : ByteArray} (hf : ∀ n, f n = true -> anyC n = true) (hg : ∀ n, g n = true -> anyC n = true) (h : spell f g s.data.toList = true) : Word s.data.toList := by
  intro c hc;obtain ⟨j, hj, rfl⟩ := List.getElem_of_mem hc;obtain ⟨h0, h1, h2, h3⟩ := (spell_iff _ _ _).1 h;have e : bt s.data.toList j = (((s.data.toList)[j]).toNat : Int) := by unfold bt; rw [List.getD_eq_getElem?_getD, List.getElem?_eq_getElem hj]; rfl
  unfold alnum
  rw [<- e];rcases Nat.eq_zero_or_pos j with h' | h'
  · subst h'; exact hf _ h2
  · exact hg _ (h3 j h' hj)
theorem low_any' (n : Int) (h : lowC n = true) : anyC n = true := by unfold anyC; rw [h]; rfl
theorem up_any' (n : Int) (h : upC n = true) : anyC n = true := by unfold anyC; rw [h]; simp
theorem lowDig_any' (n : Int) (h : lowDigC n = true) : anyC n = true := by
  unfold lowDigC at h; unfold anyC
  rcases Bool.or_eq_true _ _ ▸ h with h | h <;> rw [h] <;> simp
theorem small_spell {s : ByteArray} (h : smallB s.data.toList = true) : spell lowC lowDigC s.data.toList = true := by
  unfold smallB at h; simp only [Bool.and_eq_true] at h; exact h.1
theorem great_spell {s : ByteArray} (h : greatB s.data.toList = true) : spell upC anyC s.data.toList = true := by
  unfold greatB at h; simp only [Bool.and_eq_true] at h; exact h.1
theorem small_word {s : ByteArray} (h : smallB s.data.toList = true) : Word s.data.toList := word_all low_any' lowDig_any' (small_spell h)
theorem great_word {s : ByteArray} (h : greatB s.data.toList = true) : Word s.data.toList := word_all up_any' (fun _ h => h) (great_spell h)
theorem spell_ne {f g : Int -> Bool} {l : List UInt8} (h : spell f g l = true) : l ≠ [] := by
  intro e; subst e
  have := ((spell_iff _ _ _).1 h).1
  simp at this
theorem great_not_word {l : List UInt8} (h : greatB l = true) : l ∉ words := by
  unfold greatB wordB at h
  simp only [Bool.and_eq_true, Bool.not_eq_true', List.contains_eq_mem, decide_eq_false_iff_not] at h;exact h.2
theorem small_not_word {l : List UInt8} (h : smallB l = true) : l ∉ words := by
  intro hm
  have h1 : 97 <= bt l 0 := by
    unfold smallB at h
    simp only [Bool.and_eq_true, spell_iff] at h;have := h.1.2.2.1
    unfold lowC at this
    simp only [Bool.and_eq_true, decide_eq_true_eq] at this;exact this.1
  have h2 : ∀ l ∈ words, bt l 0 < 97 := by decide
  have := h2 l hm
  omega
def Stop (l : List UInt8) : Prop := ∀ c r, l = c :: r -> c = 41 \/ c = 44 \/ c = 125 \/ c = 93
theorem Stop.halt {l : List UInt8} (h : Stop l) : Halt l := fun c r e => by
  rcases h c r e with rfl | rfl | rfl | rfl <;> decide
end Go.Proofs.YtddlmigofilejaaGreat.M
namespace Go.Proofs.YtddlmigofilejaaGreat.M
open Go
theorem empty_bytes {s : ByteArray} (h : s.size = 0) : s = ⟨#[]⟩ := by
  apply bytes_list.1
  exact List.length_eq_zero_iff.1 (by rw [len_size]; exact h)
theorem empty_is : (⟨#[]⟩ : ByteArray) = ByteArray.empty := rfl
theorem no_more {t : Ty} (h : noMore t = true) : t.pkg = ⟨#[]⟩ /\ t.major = 0 /\ t.mod = ⟨#[]⟩ /\ t.name = ⟨#[]⟩ := by
  unfold noMore emptyB at h
  simp only [Bool.and_eq_true, decide_eq_true_eq, beq_iff_eq] at h;exact ⟨empty_bytes h.1.1.1, h.1.1.2, empty_bytes h.1.2, empty_bytes h.2⟩
theorem forms (t : Ty) (h : ownOk t = true) :
    (∃ k, (k = 1 \/ k = 2 \/ k = 3) /\ t = .mk k ⟨#[]⟩ 0 ⟨#[]⟩ ⟨#[]⟩ [] []) \/ (∃ s, t = .mk 4 ⟨#[]⟩ 0 ⟨#[]⟩ ⟨#[]⟩ [] [s]) \/
    (∃ ns ss, t = .mk 5 ⟨#[]⟩ 0 ⟨#[]⟩ ⟨#[]⟩ ns ss /\ ss.length = ns.length /\ ∀ i, i < ns.length -> smallB (nameAt ns i).data.toList = true) \/
    (∃ ns ss, t = .mk 6 ⟨#[]⟩ 0 ⟨#[]⟩ ⟨#[]⟩ ns ss /\ ss.length = ns.length /\ ∀ i, i < ns.length -> greatB (nameAt ns i).data.toList = true) \/
    (∃ ss, t = .mk 7 ⟨#[]⟩ 0 ⟨#[]⟩ ⟨#[]⟩ [] ss /\ 0 < ss.length) \/
    (∃ d n, t = .mk 8 ⟨#[]⟩ 0 d n [] [] /\ greatB n.data.toList = true /\ (smallB d.data.toList = true \/ d = ⟨#[]⟩)) \/
    (∃ p m d n, t = .mk 9 p m d n [] [] /\ smallB p.data.toList = true /\ smallB d.data.toList = true /\ greatB n.data.toList = true /\ 1 <= m) := by
  unfold ownOk at h
  simp only [Bool.and_eq_true] at h;obtain ⟨⟨-, hn⟩, hs⟩ := h;have hbad := (namesOk_iff _ _).1 hn;unfold shapeOk at hs
  by_cases k1 : t.kind = 1 \/ t.kind = 2 \/ t.kind = 3
  · rw [if_pos k1] at hs
    simp only [Bool.and_eq_true, decide_eq_true_eq] at hs;obtain ⟨e1, e2, e3, e4⟩ := no_more hs.1.1;exact .inl ⟨t.kind, k1, ty_ext rfl e1 e2 e3 e4 (List.length_eq_zero_iff.1 hs.2) (List.length_eq_zero_iff.1 hs.1.2)⟩
  rw [if_neg k1] at hs;by_cases k4 : t.kind = 4
  · rw [if_pos k4] at hs
    simp only [Bool.and_eq_true, decide_eq_true_eq] at hs;obtain ⟨e1, e2, e3, e4⟩ := no_more hs.1.1;obtain ⟨s, es⟩ := List.length_eq_one_iff.1 hs.1.2;exact .inr (.inl ⟨s, ty_ext k4 e1 e2 e3 e4 (List.length_eq_zero_iff.1 hs.2) es⟩)
  rw [if_neg k4] at hs;by_cases k5 : t.kind = 5
  · rw [if_pos k5] at hs
    simp only [Bool.and_eq_true, decide_eq_true_eq] at hs;obtain ⟨e1, e2, e3, e4⟩ := no_more hs.1;refine .inr (.inr (.inl ⟨t.names, t.subs, ty_ext k5 e1 e2 e3 e4 rfl rfl, hs.2, fun i hi => ?_⟩));have := hbad i hi
    unfold badName at this
    rw [k5] at this;simp only [Bool.or_eq_false_iff, Bool.and_eq_false_iff, Bool.not_eq_false'] at this;rcases this.1.1 with a | a
    · simp at a
    · exact a
  rw [if_neg k5] at hs;by_cases k6 : t.kind = 6
  · rw [if_pos k6] at hs
    simp only [Bool.and_eq_true, decide_eq_true_eq] at hs;obtain ⟨e1, e2, e3, e4⟩ := no_more hs.1.1;refine .inr (.inr (.inr (.inl ⟨t.names, t.subs, ty_ext k6 e1 e2 e3 e4 rfl rfl, hs.1.2, fun i hi => ?_⟩)));have := hbad i hi
    unfold badName at this
    rw [k6] at this;simp only [Bool.or_eq_false_iff, Bool.and_eq_false_iff, Bool.not_eq_false'] at this;rcases this.1.2 with a | a
    · simp at a
    · exact a
  rw [if_neg k6] at hs;by_cases k7 : t.kind = 7
  · rw [if_pos k7] at hs
    simp only [Bool.and_eq_true, decide_eq_true_eq] at hs;obtain ⟨e1, e2, e3, e4⟩ := no_more hs.1.1;exact .inr (.inr (.inr (.inr (.inl ⟨t.subs, ty_ext k7 e1 e2 e3 e4 (List.length_eq_zero_iff.1 hs.2) rfl, hs.1.2⟩))))
  rw [if_neg k7] at hs;by_cases k8 : t.kind = 8
  · rw [if_pos k8] at hs
    unfold emptyB at hs
    simp only [Bool.and_eq_true, Bool.or_eq_true, decide_eq_true_eq, beq_iff_eq] at hs;obtain ⟨⟨⟨⟨⟨a, b⟩, c⟩, e⟩, f⟩, g⟩ := hs;exact .inr (.inr (.inr (.inr (.inr (.inl ⟨t.mod, t.name, ty_ext k8 (empty_bytes c) e rfl rfl (List.length_eq_zero_iff.1 b) (List.length_eq_zero_iff.1 a), f, g.imp id empty_bytes⟩)))))
  rw [if_neg k8] at hs;by_cases k9 : t.kind = 9
  · rw [if_pos k9] at hs
    simp only [Bool.and_eq_true, decide_eq_true_eq] at hs;obtain ⟨⟨⟨⟨⟨⟨a, b⟩, c⟩, e⟩, f⟩, g⟩, -⟩ := hs;exact .inr (.inr (.inr (.inr (.inr (.inr ⟨t.pkg, t.major, t.mod, t.name, ty_ext k9 rfl rfl rfl rfl (List.length_eq_zero_iff.1 b) (List.length_eq_zero_iff.1 a), c, e, f, g⟩)))))
  rw [if_neg k9] at hs;cases hs
def tag (w r : List UInt8) : Int :=
  if w = [73, 110, 116] then 1 else if w = [84, 101, 120, 116] then 2 else if w = [66, 111, 111, 108] then 3 else if w = [76, 105, 115, 116] then 4
  else if w = [] then (if r.head? = some 123 then 5 else if r.head? = some 91 then 6 else if r.head? = some 40 then 7 else 9) else 8
theorem tag_name {l r : List UInt8} (h : l ≠ []) (hw : l ∉ words) : tag l r = 8 := by
  have h1 : l ≠ [73, 110, 116] := fun e => hw (by rw [e]; decide)
  have h2 : l ≠ [84, 101, 120, 116] := fun e => hw (by rw [e]; decide)
  have h3 : l ≠ [66, 111, 111, 108] := fun e => hw (by rw [e]; decide)
  have h4 : l ≠ [76, 105, 115, 116] := fun e => hw (by rw [e]; decide)
  unfold tag
  rw [if_neg h1, if_neg h2, if_neg h3, if_neg h4, if_neg h]
theorem split (t : Ty) (h : ownOk t = true) : ∃ w r, textT t = w ++ r /\ Word w /\ ∀ x, Stop x -> Halt (r ++ x) /\ tag w (r ++ x) = t.kind := by
  rcases forms t h with ⟨k, hk, rfl⟩ | ⟨s, rfl⟩ | ⟨ns, ss, rfl, -, -⟩ | ⟨ns, ss, rfl, -, -⟩ | ⟨ss, rfl, -⟩ | ⟨d, n, rfl, hn, hd⟩ | ⟨p, m, d, n, rfl, hp, hd, hn, hm⟩
  · rcases hk with rfl | rfl | rfl
    · exact ⟨[73, 110, 116], [], rfl, by unfold Word; decide, fun x hx => ⟨by simpa using hx.halt, rfl⟩⟩
    · exact ⟨[84, 101, 120, 116], [], rfl, by unfold Word; decide, fun x hx => ⟨by simpa using hx.halt, rfl⟩⟩
    · exact ⟨[66, 111, 111, 108], [], rfl, by unfold Word; decide, fun x hx => ⟨by simpa using hx.halt, rfl⟩⟩
  · exact ⟨[76, 105, 115, 116], [40] ++ textT s ++ [41], by simp [textT, kindText, textsT], by unfold Word; decide, fun x hx => ⟨halt_cons (by decide), rfl⟩⟩
  · exact ⟨[], _, (List.nil_append _).symm, by unfold Word; decide, fun x hx => by simp only [textT, kindText]; exact ⟨halt_cons (by decide), rfl⟩⟩
  · exact ⟨[], _, (List.nil_append _).symm, by unfold Word; decide, fun x hx => by simp only [textT, kindText]; exact ⟨halt_cons (by decide), rfl⟩⟩
  · exact ⟨[], _, (List.nil_append _).symm, by unfold Word; decide, fun x hx => by simp only [textT, kindText]; exact ⟨halt_cons (by decide), rfl⟩⟩
  · rcases hd with hd | rfl
    · have hne := spell_ne (small_spell hd)
      have hz : d.size ≠ 0 := fun e => hne (List.length_eq_zero_iff.1 (by rw [len_size]; exact e))
      exact ⟨d.data.toList, [46] ++ n.data.toList, by simp [textT, kindText, hz], small_word hd, fun x hx => ⟨halt_cons (by decide), tag_name hne (small_not_word hd)⟩⟩
    · exact ⟨n.data.toList, [], by simp [textT, kindText, empty_is], great_word hn, fun x hx => ⟨by simpa using hx.halt, tag_name (spell_ne (great_spell hn)) (great_not_word hn)⟩⟩
  · exact ⟨[], _, (List.nil_append _).symm, by unfold Word; decide, fun x hx => by simp only [textT, kindText]; exact ⟨halt_cons (by decide), rfl⟩⟩
end Go.Proofs.YtddlmigofilejaaGreat.M
namespace Go.Proofs.YtddlmigofilejaaGreat.M
open Go
end Go.Proofs.YtddlmigofilejaaGreat.M
namespace Go.Proofs.YtddlmigofilejaaGreat
open Go.RowKit
open M
def localOk (t : Ty) : Bool := emptyB t.pkg && (t.major == 0) && (emptyB t.mod || smallB t.mod.data.toList) && greatB t.name.data.toList
def openOk (t : Ty) : Bool := smallB t.pkg.data.toList && decide (1 <= t.major) && decide (t.major <= 999999999) && smallB t.mod.data.toList && greatB t.name.data.toList
def badFor (f : List UInt8 -> Bool) (names : List ByteArray) (i : Nat) : Bool := !f (nameAt names i).data.toList || (decide (0 < i) && leS (nameAt names i) (nameAt names (i - 1)))
def risingB (f : List UInt8 -> Bool) (names : List ByteArray) : Bool := (List.range names.length).all fun i => !badFor f names i
theorem rising_iff (f : List UInt8 -> Bool) (names : List ByteArray) : risingB f names = true ↔ ∀ i, i < names.length -> badFor f names i = false := by
 unfold risingB
 simp [List.all_eq_true]
theorem rising_no {f : List UInt8 -> Bool} {names : List ByteArray} {i : Nat} (hi : i < names.length) (h : badFor f names i = true) : risingB f names = false := by
 rw [Bool.eq_false_iff, ne_eq, rising_iff]
 intro a
 have := a i hi
 rw [h] at this; cases this
theorem leL : ∀ x y : List UInt8, (Op.bytesLess x y || x == y) = !Op.bytesLess y x
 | [], [] => rfl
 | [], b :: y => by simp [Op.bytesLess]
 | a :: x, [] => by simp [Op.bytesLess]
 | a :: x, b :: y => by
  have ih := leL x y;simp only [Op.bytesLess, List.cons_beq_cons];rcases Nat.lt_trichotomy a.toNat b.toNat with h | h | h
  ·have h1 : a < b := h
   have h2 : ¬ b < a := by intro (c : b.toNat < a.toNat); omega
   have h3 : (b == a) = false := by simp; intro e; subst e; exact absurd h (Nat.lt_irrefl _)
   simp [h1, h2, h3]
  ·have e : a = b := UInt8.toNat_inj.1 h
   subst e;have h1 : ¬ a < a := by intro (c : a.toNat < a.toNat); omega
   simp [h1, ih]
  ·have h1 : b < a := h
   have h2 : ¬ a < b := by intro (c : a.toNat < b.toNat); omega
   have h3 : (a == b) = false := by simp; intro e; subst e; exact absurd h (Nat.lt_irrefl _)
   simp [h1, h2, h3]
theorem leS_eq (a b : ByteArray) : leS a b = !Op.bytesLess b.toList a.toList := leL _ _
theorem names_small (names : List ByteArray) : namesOk 5 names = risingB smallB names := by
 have e : (fun i => !badName 5 names i) = (fun i => !badFor smallB names i) := by funext i; simp [badName, badFor]
 unfold namesOk risingB; rw [e]
theorem names_great (names : List ByteArray) : namesOk 6 names = risingB greatB names := by
 have e : (fun i => !badName 6 names i) = (fun i => !badFor greatB names i) := by funext i; simp [badName, badFor]
 unfold namesOk risingB; rw [e]
theorem names_none (k : Int) {names : List ByteArray} (h : names.length = 0) : namesOk k names = true := by
 unfold namesOk; rw [h]; rfl
def formT (t : Ty) : Bool :=
 if t.kind = 1 \/ t.kind = 2 \/ t.kind = 3 then decide (t.subs.length = 0) && decide (t.names.length = 0) && noMore t
 else if t.kind = 4 then decide (t.subs.length = 1) && decide (t.names.length = 0) && noMore t
 else if t.kind = 5 then decide (t.subs.length <= 20) && decide (t.names.length = t.subs.length) && risingB smallB t.names && noMore t
 else if t.kind = 6 then decide (1 <= t.subs.length) && decide (t.subs.length <= 20) && decide (t.names.length = t.subs.length) && risingB greatB t.names && noMore t
 else if t.kind = 7 then decide (1 <= t.subs.length) && decide (t.subs.length <= 20) && decide (t.names.length = 0) && noMore t
 else if t.kind = 8 then decide (t.subs.length = 0) && decide (t.names.length = 0) && localOk t
 else if t.kind = 9 then decide (t.subs.length = 0) && decide (t.names.length = 0) && openOk t
 else false
def formW (t : Ty) (n q : Nat) : Bool :=
 if t.kind = 1 \/ t.kind = 2 \/ t.kind = 3 then decide (n = 0) && decide (q = 0) && noMore t
 else if t.kind = 4 then decide (n = 1) && decide (q = 0) && noMore t
 else if t.kind = 5 then decide (n <= 20) && decide (q = n) && risingB smallB t.names && noMore t
 else if t.kind = 6 then decide (1 <= n) && decide (n <= 20) && decide (q = n) && risingB greatB t.names && noMore t
 else if t.kind = 7 then decide (1 <= n) && decide (n <= 20) && decide (q = 0) && noMore t
 else if t.kind = 8 then decide (n = 0) && decide (q = 0) && localOk t
 else if t.kind = 9 then decide (n = 0) && decide (q = 0) && openOk t
 else false
theorem formT_w (t : Ty) : formT t = formW t t.subs.length t.names.length := rfl
theorem formT_own (t : Ty) : formT t = ownOk t := by
 unfold formT ownOk shapeOk localOk openOk
 by_cases h : t.kind = 1 \/ t.kind = 2 \/ t.kind = 3
 ·simp only [if_pos h]
  by_cases h0 : t.names.length = 0
  ·rw [names_none _ h0, Bool.eq_iff_iff]; simp [h0] <;> (constructor <;> (intro a; simp_all))
  ·rw [Bool.eq_iff_iff]; simp [h0]
 simp only [if_neg h]
 by_cases h4 : t.kind = 4
 ·simp only [if_pos h4]
  by_cases h0 : t.names.length = 0
  ·rw [names_none _ h0, Bool.eq_iff_iff]; simp [h0] <;> (constructor <;> (intro a; simp_all))
  ·rw [Bool.eq_iff_iff]; simp [h0]
 simp only [if_neg h4]
 by_cases h5 : t.kind = 5
 ·simp only [if_pos h5]
  rw [h5, names_small];rw [Bool.eq_iff_iff]; simp only [Bool.and_eq_true, decide_eq_true_eq]
  constructor
  ·rintro ⟨⟨⟨a, b⟩, c⟩, d⟩; exact ⟨⟨a, c⟩, d, b.symm⟩
  ·rintro ⟨⟨a, c⟩, d, b⟩; exact ⟨⟨⟨a, b.symm⟩, c⟩, d⟩
 simp only [if_neg h5]
 by_cases h6 : t.kind = 6
 ·simp only [if_pos h6]
  rw [h6, names_great];rw [Bool.eq_iff_iff]; simp only [Bool.and_eq_true, decide_eq_true_eq]
  constructor
  ·rintro ⟨⟨⟨⟨e, a⟩, b⟩, c⟩, d⟩; exact ⟨⟨a, c⟩, ⟨d, b.symm⟩, by omega⟩
  ·rintro ⟨⟨a, c⟩, ⟨d, b⟩, e⟩; exact ⟨⟨⟨⟨by omega, a⟩, b.symm⟩, c⟩, d⟩
 simp only [if_neg h6]
 by_cases h7 : t.kind = 7
 ·simp only [if_pos h7]
  by_cases h0 : t.names.length = 0
  ·rw [names_none _ h0, Bool.eq_iff_iff]; simp only [Bool.and_eq_true, decide_eq_true_eq]
   constructor
   ·rintro ⟨⟨⟨e, a⟩, b⟩, d⟩; exact ⟨⟨a, trivial⟩, ⟨d, by omega⟩, h0⟩
   ·rintro ⟨⟨a, c⟩, ⟨d, b⟩, e⟩; exact ⟨⟨⟨by omega, a⟩, h0⟩, d⟩
  ·rw [Bool.eq_iff_iff]; simp [h0]
 simp only [if_neg h7]
 by_cases h8 : t.kind = 8
 ·simp only [if_pos h8]
  by_cases h0 : t.names.length = 0
  ·rw [names_none _ h0, Bool.eq_iff_iff]; simp only [Bool.and_eq_true, Bool.or_eq_true, decide_eq_true_eq]
   constructor
   ·rintro ⟨⟨a, b⟩, ⟨⟨c, d⟩, e⟩, f⟩; exact ⟨⟨by omega, trivial⟩, ⟨⟨⟨⟨a, h0⟩, c⟩, d⟩, f⟩, e.symm⟩
   ·rintro ⟨-, ⟨⟨⟨⟨a, b⟩, c⟩, d⟩, f⟩, e⟩; exact ⟨⟨a, h0⟩, ⟨⟨c, d⟩, e.symm⟩, f⟩
  ·rw [Bool.eq_iff_iff]; simp [h0]
 simp only [if_neg h8]
 by_cases h9 : t.kind = 9
 ·simp only [if_pos h9]
  by_cases h0 : t.names.length = 0
  ·rw [names_none _ h0, Bool.eq_iff_iff]; simp only [Bool.and_eq_true, decide_eq_true_eq]
   constructor
   ·rintro ⟨⟨a, b⟩, ⟨⟨⟨c, d⟩, e⟩, f⟩, g⟩; exact ⟨⟨by omega, trivial⟩, ⟨⟨⟨⟨⟨⟨a, h0⟩, c⟩, f⟩, g⟩, d⟩, e⟩⟩
   ·rintro ⟨-, ⟨⟨⟨⟨⟨a, b⟩, c⟩, f⟩, g⟩, d⟩, e⟩; exact ⟨⟨a, h0⟩, ⟨⟨⟨c, d⟩, e⟩, f⟩, g⟩
  ·rw [Bool.eq_iff_iff]; simp [h0]
 ·simp only [if_neg h9]; simp
theorem nameAt_of0 {l : List ByteArray} {i : Nat} {s : ByteArray} (h : l[i]? = some s) : nameAt l i = s := by
 unfold nameAt; rw [List.getD_eq_getElem?_getD, h]; rfl
theorem unnamed_any (t : Ty) (v : Value) (w : World) (hv : TyV w v t) :
  Calls Tryz.prog 160 #[v] w fun e w' => e = .returned (.bool (noMore t)) /\ Below w.heap.size w w' := by
 obtain ⟨l, rfl, hT⟩ := hv
 obtain ⟨An, cn, As, cs, rfl, zp, zm, za, hzn, hz, hN, -⟩ := hT.parts
 clear hT hN
 by_cases e1 : t.pkg.size = 0
 ·obtain ⟨x1, y1⟩ := empty_facts _ e1
  rcases hid_or (t.major == 0) with e2 | e2
  ·have d2 := e2.out
   have R : noMore t = false := by
    unfold noMore emptyB
    simp [d2]
   rw [R];clear R;as_aux_lemma =>
   go_enter Tryz.func160, Tryz.ntmps160
   go_wp2_with fail
   go_ret;exact ⟨rfl, below_new (Below.refl _ _) _⟩
  ·have d2 := e2.out
   by_cases e3 : t.mod.size = 0
   ·obtain ⟨x3, y3⟩ := empty_facts _ e3
    by_cases e4 : t.name.size = 0
    ·obtain ⟨x4, y4⟩ := empty_facts _ e4
     have R : noMore t = true := by
      unfold noMore emptyB
      simp [e1, d2, e3, e4]
     rw [R];clear R;as_aux_lemma =>
     go_enter Tryz.func160, Tryz.ntmps160
     go_wp2_with fail
     go_ret;exact ⟨rfl, below_new (Below.refl _ _) _⟩
    ·obtain ⟨x4, y4⟩ := full_facts _ e4
     have R : noMore t = false := by
      unfold noMore emptyB
      simp [e4]
     rw [R];clear R;as_aux_lemma =>
     go_enter Tryz.func160, Tryz.ntmps160
     go_wp2_with fail
     go_ret;exact ⟨rfl, below_new (Below.refl _ _) _⟩
   ·obtain ⟨x3, y3⟩ := full_facts _ e3
    have R : noMore t = false := by
     unfold noMore emptyB
     simp [e3]
    rw [R];clear R;as_aux_lemma =>
    go_enter Tryz.func160, Tryz.ntmps160
    go_wp2_with fail
    go_ret;exact ⟨rfl, below_new (Below.refl _ _) _⟩
 ·obtain ⟨x1, y1⟩ := full_facts _ e1
  have R : noMore t = false := by
   unfold noMore emptyB
   simp [e1]
  rw [R];clear R;as_aux_lemma =>
  go_enter Tryz.func160, Tryz.ntmps160
  go_wp2_with fail
  go_ret;exact ⟨rfl, below_new (Below.refl _ _) _⟩
theorem mayLocal_any (t : Ty) (v : Value) (w : World) (hv : TyV w v t) :
  Calls Tryz.prog 162 #[v] w fun e w' => e = .returned (.bool (localOk t)) /\ Below w.heap.size w w' := by
 obtain ⟨l, rfl, hT⟩ := hv
 obtain ⟨An, cn, As, cs, rfl, zp, zm, za, hzn, hz, hN, -⟩ := hT.parts
 clear hT hN
 by_cases e1 : t.pkg.size = 0
 ·obtain ⟨x1, y1⟩ := empty_facts _ e1
  rcases hid_or (t.major == 0) with e2 | e2
  ·have d2 := e2.out
   have R : Hid (localOk t = false) := hZ (by
    unfold localOk emptyB
    simp [d2])
   rw [R.out];clear R;as_aux_lemma =>
   go_enter Tryz.func162, Tryz.ntmps162
   go_wp2_with fail
   go_ret;exact ⟨rfl, below_new (Below.refl _ _) _⟩
  ·have d2 := e2.out
   by_cases e3 : t.mod.size = 0
   ·obtain ⟨x3, y3⟩ := empty_facts _ e3
    rcases hid_or (greatB t.name.data.toList) with g1 | g1
    ·skip
     have R : Hid (localOk t = false) := hZ (by
      unfold localOk emptyB
      simp [e1, d2, e3, g1.out])
     rw [R.out];clear R;as_aux_lemma =>
     go_enter Tryz.func162, Tryz.ntmps162
     go_wp2_with fail
     refine (great_any _ _ za).mono ?_; rintro e w2 ⟨rfl, rfl⟩; rw [g1.out]
     go_wp2_with fail
     go_ret;exact ⟨rfl, below_new (Below.refl _ _) _⟩
    ·skip
     have R : Hid (localOk t = true) := hZ (by
      unfold localOk emptyB
      simp [e1, d2, e3, g1.out])
     rw [R.out];clear R;as_aux_lemma =>
     go_enter Tryz.func162, Tryz.ntmps162
     go_wp2_with fail
     refine (great_any _ _ za).mono ?_; rintro e w2 ⟨rfl, rfl⟩; rw [g1.out]
     go_wp2_with fail
     go_ret;exact ⟨rfl, below_new (Below.refl _ _) _⟩
   ·obtain ⟨x3, y3⟩ := full_facts _ e3
    rcases hid_or (smallB t.mod.data.toList) with s1 | s1
    ·skip
     have R : Hid (localOk t = false) := hZ (by
      unfold localOk emptyB
      simp [e3, s1.out])
     rw [R.out];clear R;as_aux_lemma =>
     go_enter Tryz.func162, Tryz.ntmps162
     go_wp2_with fail
     refine (small_any _ _ zm).mono ?_; rintro e w1 ⟨rfl, rfl⟩; rw [s1.out]
     go_wp2_with fail
     go_ret;exact ⟨rfl, below_new (Below.refl _ _) _⟩
    ·skip
     rcases hid_or (greatB t.name.data.toList) with g1 | g1
     ·skip
      have R : Hid (localOk t = false) := hZ (by
       unfold localOk emptyB
       simp [e1, d2, e3, s1.out, g1.out])
      rw [R.out];clear R;as_aux_lemma =>
      go_enter Tryz.func162, Tryz.ntmps162
      go_wp2_with fail
      refine (small_any _ _ zm).mono ?_; rintro e w1 ⟨rfl, rfl⟩; rw [s1.out]
      go_wp2_with fail
      refine (great_any _ _ za).mono ?_; rintro e w2 ⟨rfl, rfl⟩; rw [g1.out]
      go_wp2_with fail
      go_ret;exact ⟨rfl, below_new (Below.refl _ _) _⟩
     ·skip
      have R : Hid (localOk t = true) := hZ (by
       unfold localOk emptyB
       simp [e1, d2, e3, s1.out, g1.out])
      rw [R.out];clear R;as_aux_lemma =>
      go_enter Tryz.func162, Tryz.ntmps162
      go_wp2_with fail
      refine (small_any _ _ zm).mono ?_; rintro e w1 ⟨rfl, rfl⟩; rw [s1.out]
      go_wp2_with fail
      refine (great_any _ _ za).mono ?_; rintro e w2 ⟨rfl, rfl⟩; rw [g1.out]
      go_wp2_with fail
      go_ret;exact ⟨rfl, below_new (Below.refl _ _) _⟩
 ·obtain ⟨x1, y1⟩ := full_facts _ e1
  have R : Hid (localOk t = false) := hZ (by
   unfold localOk emptyB
   simp [e1])
  rw [R.out];clear R;as_aux_lemma =>
  go_enter Tryz.func162, Tryz.ntmps162
  go_wp2_with fail
  go_ret;exact ⟨rfl, below_new (Below.refl _ _) _⟩
theorem mayOpen_any (t : Ty) (v : Value) (w : World) (hv : TyV w v t) :
  Calls Tryz.prog 163 #[v] w fun e w' => e = .returned (.bool (openOk t)) /\ Below w.heap.size w w' := by
 obtain ⟨l, rfl, hT⟩ := hv
 obtain ⟨An, cn, As, cs, rfl, zp, zm, za, hzn, hz, hN, -⟩ := hT.parts
 clear hT hN
 rcases hid_or (smallB t.pkg.data.toList) with s1 | s1
 ·skip
  have R : Hid (openOk t = false) := hZ (by
   unfold openOk
   simp [s1.out])
  rw [R.out];clear R;as_aux_lemma =>
  go_enter Tryz.func163, Tryz.ntmps163
  go_wp2_with fail
  refine (small_any _ _ zp).mono ?_; rintro e w1 ⟨rfl, rfl⟩; rw [s1.out]
  go_wp2_with fail
  go_ret;exact ⟨rfl, below_new (Below.refl _ _) _⟩
 ·by_cases l1 : 1 <= t.major
  ·by_cases l2 : t.major <= 999999999
   ·rcases hid_or (smallB t.mod.data.toList) with s2 | s2
    ·skip
     have R : Hid (openOk t = false) := hZ (by
      unfold openOk
      simp [s2.out])
     rw [R.out];clear R;as_aux_lemma =>
     go_enter Tryz.func163, Tryz.ntmps163
     go_wp2_with fail
     refine (small_any _ _ zp).mono ?_; rintro e w1 ⟨rfl, rfl⟩; rw [s1.out]
     go_wp2_with fail
     refine (small_any _ _ zm).mono ?_; rintro e w2 ⟨rfl, rfl⟩; rw [s2.out]
     go_wp2_with fail
     go_ret;exact ⟨rfl, below_new (Below.refl _ _) _⟩
    ·rcases hid_or (greatB t.name.data.toList) with g1 | g1
     ·skip
      have R : Hid (openOk t = false) := hZ (by
       unfold openOk
       simp [g1.out])
      rw [R.out];clear R;as_aux_lemma =>
      go_enter Tryz.func163, Tryz.ntmps163
      go_wp2_with fail
      refine (small_any _ _ zp).mono ?_; rintro e w1 ⟨rfl, rfl⟩; rw [s1.out]
      go_wp2_with fail
      refine (small_any _ _ zm).mono ?_; rintro e w2 ⟨rfl, rfl⟩; rw [s2.out]
      go_wp2_with fail
      refine (great_any _ _ za).mono ?_; rintro e w3 ⟨rfl, rfl⟩; rw [g1.out]
      go_wp2_with fail
      go_ret;exact ⟨rfl, below_new (Below.refl _ _) _⟩
     ·skip
      have R : Hid (openOk t = true) := hZ (by
       unfold openOk
       simp [s1.out, l1, l2, s2.out, g1.out])
      rw [R.out];clear R;as_aux_lemma =>
      go_enter Tryz.func163, Tryz.ntmps163
      go_wp2_with fail
      refine (small_any _ _ zp).mono ?_; rintro e w1 ⟨rfl, rfl⟩; rw [s1.out]
      go_wp2_with fail
      refine (small_any _ _ zm).mono ?_; rintro e w2 ⟨rfl, rfl⟩; rw [s2.out]
      go_wp2_with fail
      refine (great_any _ _ za).mono ?_; rintro e w3 ⟨rfl, rfl⟩; rw [g1.out]
      go_wp2_with fail
      go_ret;exact ⟨rfl, below_new (Below.refl _ _) _⟩
   ·skip
    have R : Hid (openOk t = false) := hZ (by
     unfold openOk
     simp [l2])
    rw [R.out];clear R;as_aux_lemma =>
    go_enter Tryz.func163, Tryz.ntmps163
    go_wp2_with fail
    refine (small_any _ _ zp).mono ?_; rintro e w1 ⟨rfl, rfl⟩; rw [s1.out]
    go_wp2_with fail
    go_ret;exact ⟨rfl, below_new (Below.refl _ _) _⟩
  ·skip
   have R : Hid (openOk t = false) := hZ (by
    unfold openOk
    simp [l1])
   rw [R.out];clear R;as_aux_lemma =>
   go_enter Tryz.func163, Tryz.ntmps163
   go_wp2_with fail
   refine (small_any _ _ zp).mono ?_; rintro e w1 ⟨rfl, rfl⟩; rw [s1.out]
   go_wp2_with fail
   go_ret;exact ⟨rfl, below_new (Below.refl _ _) _⟩
theorem rising_small (A : Option Addr) (c n : Nat) (names : List ByteArray) (w : World) (hn : names.length = n) (hz : n <= 9223372036854775807) (hN : NamesAt w A names) :
  Calls Tryz.prog 161 #[.slice A n c, .func (.func 86) #[] #[]] w fun e w' => e = .returned (.bool (risingB smallB names)) /\ w = w' := by
 have HN := hZ hN
 have HQ := hZ hn
 clear hN hn
 go_enter Tryz.func161, Tryz.ntmps161
 go_wp2_with fail
 go_loop [9] (fun i => ∃ k : Nat, k <= n /\ i = .int .i64 k /\ Hid (∀ j, j < k -> badFor smallB names j = false)) (fun i => n - (intOf i).toNat)
 case atStart => exact ⟨0, by omega, rfl, hZ (fun j h => by omega)⟩
 case round =>
  obtain ⟨k, hk, rfl, HP⟩ := hrel;by_cases hlt : k < n
  ·obtain ⟨s, hs⟩ : ∃ s, names[k]? = some s := ⟨_, List.getElem?_eq_getElem (by rw [HQ.out]; exact hlt)⟩
   obtain ⟨g, o, rfl, hgo, hcs, hzs⟩ := HN.out k s hs;have hna := nameAt_of0 hs;rcases hid_or (smallB s.data.toList) with h1 | h1
   ·have R : Hid (risingB smallB names = false) := hZ (rising_no (i := k) (by rw [HQ.out]; exact hlt) (by unfold badFor; rw [hna, h1.out]; rfl))
    clear hna hs;go_wp2_with fail
    refine (small_any _ _ hzs).mono ?_; rintro e w1 ⟨rfl, rfl⟩; rw [h1.out]
    go_wp2_with fail
    go_ret;exact ⟨ret_bool R.out, rfl⟩
   ·rcases Nat.eq_zero_or_pos k with hk0 | hk0
    ·have hp : ¬ (0 : Int) < k := by omega
     have hb : Hid (badFor smallB names k = false) := hZ (by unfold badFor; rw [hna, h1.out, show decide (0 < k) = false by simp; omega]; rfl);clear hna hs hk0;go_wp2_with fail
     refine (small_any _ _ hzs).mono ?_; rintro e w1 ⟨rfl, rfl⟩; rw [h1.out]
     go_wp2_with fail
     go_round
     case rel => exact ⟨k + 1, by omega, by go_num, hZ (fun j hj => by
      rcases Nat.lt_or_ge j k with a | a
      ·exact HP.out j a
      ·rw [show j = k by omega]; exact hb.out)⟩
     case measure => simp [intOf]; omega
    ·obtain ⟨p, hps⟩ : ∃ p, names[k - 1]? = some p := ⟨_, List.getElem?_eq_getElem (by rw [HQ.out]; omega)⟩
     obtain ⟨g2, o2, eg, hg2, hc2, -⟩ := HN.out (k - 1) p hps;obtain ⟨rfl, rfl⟩ : g = g2 /\ o = o2 := by simpa using eg
     have hna2 := nameAt_of0 hps;have hp : (0 : Int) < k := by omega
     have hp1 : 1 <= (k : Int) := by omega
     rcases hid_or (!Op.bytesLess p.toList s.toList) with hL | hL
     ·have hl := hL.out
      have hb : Hid (badFor smallB names k = false) := hZ (by unfold badFor; rw [hna, hna2, h1.out, leS_eq, hl]; simp);clear hna hna2 eg hg2 hps hk0 hs;go_wp2_with fail
      refine (small_any _ _ hzs).mono ?_; rintro e w1 ⟨rfl, rfl⟩; rw [h1.out]
      go_wp2_with fail
      go_round
      case rel => exact ⟨k + 1, by omega, by go_num, hZ (fun j hj => by
       rcases Nat.lt_or_ge j k with a | a
       ·exact HP.out j a
       ·rw [show j = k by omega]; exact hb.out)⟩
      case measure => simp [intOf]; omega
     ·have hl := hL.out
      have R : Hid (risingB smallB names = false) := hZ (rising_no (i := k) (by rw [HQ.out]; exact hlt) (by unfold badFor; rw [hna, hna2, h1.out, leS_eq, hl, show decide (0 < k) = true by simp; omega]; rfl));clear hna hna2 eg hg2 hps hk0 hs;go_wp2_with fail
      refine (small_any _ _ hzs).mono ?_; rintro e w1 ⟨rfl, rfl⟩; rw [h1.out]
      go_wp2_with fail
      go_ret;exact ⟨ret_bool R.out, rfl⟩
  ·have R : Hid (risingB smallB names = true) := hZ ((rising_iff _ _).2 (fun i hi => HP.out i (by rw [HQ.out] at hi; omega)))
   go_wp2_with fail
   go_ret;exact ⟨ret_bool R.out, rfl⟩
theorem rising_great (A : Option Addr) (c n : Nat) (names : List ByteArray) (w : World) (hn : names.length = n) (hz : n <= 9223372036854775807) (hN : NamesAt w A names) :
  Calls Tryz.prog 161 #[.slice A n c, .func (.func 117) #[] #[]] w fun e w' => e = .returned (.bool (risingB greatB names)) /\ w = w' := by
 have HN := hZ hN
 have HQ := hZ hn
 clear hN hn
 go_enter Tryz.func161, Tryz.ntmps161
 go_wp2_with fail
 go_loop [9] (fun i => ∃ k : Nat, k <= n /\ i = .int .i64 k /\ Hid (∀ j, j < k -> badFor greatB names j = false)) (fun i => n - (intOf i).toNat)
 case atStart => exact ⟨0, by omega, rfl, hZ (fun j h => by omega)⟩
 case round =>
  obtain ⟨k, hk, rfl, HP⟩ := hrel;by_cases hlt : k < n
  ·obtain ⟨s, hs⟩ : ∃ s, names[k]? = some s := ⟨_, List.getElem?_eq_getElem (by rw [HQ.out]; exact hlt)⟩
   obtain ⟨g, o, rfl, hgo, hcs, hzs⟩ := HN.out k s hs;have hna := nameAt_of0 hs;rcases hid_or (greatB s.data.toList) with h1 | h1
   ·have R : Hid (risingB greatB names = false) := hZ (rising_no (i := k) (by rw [HQ.out]; exact hlt) (by unfold badFor; rw [hna, h1.out]; rfl))
    clear hna hs;go_wp2_with fail
    refine (great_any _ _ hzs).mono ?_; rintro e w1 ⟨rfl, rfl⟩; rw [h1.out]
    go_wp2_with fail
    go_ret;exact ⟨ret_bool R.out, rfl⟩
   ·rcases Nat.eq_zero_or_pos k with hk0 | hk0
    ·have hp : ¬ (0 : Int) < k := by omega
     have hb : Hid (badFor greatB names k = false) := hZ (by unfold badFor; rw [hna, h1.out, show decide (0 < k) = false by simp; omega]; rfl);clear hna hs hk0;go_wp2_with fail
     refine (great_any _ _ hzs).mono ?_; rintro e w1 ⟨rfl, rfl⟩; rw [h1.out]
     go_wp2_with fail
     go_round
     case rel => exact ⟨k + 1, by omega, by go_num, hZ (fun j hj => by
      rcases Nat.lt_or_ge j k with a | a
      ·exact HP.out j a
      ·rw [show j = k by omega]; exact hb.out)⟩
     case measure => simp [intOf]; omega
    ·obtain ⟨p, hps⟩ : ∃ p, names[k - 1]? = some p := ⟨_, List.getElem?_eq_getElem (by rw [HQ.out]; omega)⟩
     obtain ⟨g2, o2, eg, hg2, hc2, -⟩ := HN.out (k - 1) p hps;obtain ⟨rfl, rfl⟩ : g = g2 /\ o = o2 := by simpa using eg
     have hna2 := nameAt_of0 hps;have hp : (0 : Int) < k := by omega
     have hp1 : 1 <= (k : Int) := by omega
     rcases hid_or (!Op.bytesLess p.toList s.toList) with hL | hL
     ·have hl := hL.out
      have hb : Hid (badFor greatB names k = false) := hZ (by unfold badFor; rw [hna, hna2, h1.out, leS_eq, hl]; simp);clear hna hna2 eg hg2 hps hk0 hs;go_wp2_with fail
      refine (great_any _ _ hzs).mono ?_; rintro e w1 ⟨rfl, rfl⟩; rw [h1.out]
      go_wp2_with fail
      go_round
      case rel => exact ⟨k + 1, by omega, by go_num, hZ (fun j hj => by
       rcases Nat.lt_or_ge j k with a | a
       ·exact HP.out j a
       ·rw [show j = k by omega]; exact hb.out)⟩
      case measure => simp [intOf]; omega
     ·have hl := hL.out
      have R : Hid (risingB greatB names = false) := hZ (rising_no (i := k) (by rw [HQ.out]; exact hlt) (by unfold badFor; rw [hna, hna2, h1.out, leS_eq, hl, show decide (0 < k) = true by simp; omega]; rfl));clear hna hna2 eg hg2 hps hk0 hs;go_wp2_with fail
      refine (great_any _ _ hzs).mono ?_; rintro e w1 ⟨rfl, rfl⟩; rw [h1.out]
      go_wp2_with fail
      go_ret;exact ⟨ret_bool R.out, rfl⟩
  ·have R : Hid (risingB greatB names = true) := hZ ((rising_iff _ _).2 (fun i hi => HP.out i (by rw [HQ.out] at hi; omega)))
   go_wp2_with fail
   go_ret;exact ⟨ret_bool R.out, rfl⟩
end Go.Proofs.YtddlmigofilejaaGreat
namespace Go.Proofs.YtddlmigofilejaaGreat.M
open Go
theorem deep_pos (t : Ty) : 1 <= deep t := by cases t; simp [deep]
theorem deepL_append : ∀ (a b : List Ty), deepL (a ++ b) = max (deepL a) (deepL b)
  | [], b => by simp [deepL]
  | t :: r, b => by simp only [List.cons_append, deepL, deepL_append r b]; omega
theorem rise_lt {ns : List ByteArray} (h : ∀ i, i + 1 < ns.length -> Op.bytesLess (nameAt ns i).toList (nameAt ns (i + 1)).toList = true) : ∀ (k i : Nat), i + k + 1 < ns.length -> Op.bytesLess (nameAt ns i).toList (nameAt ns (i + k + 1)).toList = true
  | 0, i, hj => h i hj
  | k + 1, i, hj => bl_trans _ _ _ (rise_lt h k i (by omega)) (h (i + k + 1) (by omega))
end Go.Proofs.YtddlmigofilejaaGreat.M
