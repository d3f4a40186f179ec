/-
  Several texts in one.
-/
import Derived.Test.YtddlmigofilejaaGreatK07
import Derived.Lib.SlicesCompact
set_option maxRecDepth 100000
set_option maxHeartbeats 8000000
namespace Go.Proofs.YtddlmigofilejaaGreat
section
variable {P : Program} (w : World)
theorem run_equalIn_iface_int (d : Nat) {ti tn : TypeId} {ms : Array (String × TypeId)} {i : TypeInfo} {k : IntKind} (a b : Int)
    (hi : P.underlying ti = some (.interface ms)) (hn : P.underlying tn = some (.int k)) (hinfo : P.info? tn = some i) (hcomp : i.comparable = true) :
    (Op.equalIn (d + 2) ti (.iface tn (.int k a)) (.iface tn (.int k b))).run P w = .ok (a == b) w := by
  simp [Op.equalIn, run_underlying hi, run_underlying hn, typeInfo, hinfo, hcomp]
theorem run_eql_iface_int {ti tn : TypeId} {ms : Array (String × TypeId)} {i : TypeInfo} {k : IntKind} (a b : Int)
    (hi : P.underlying ti = some (.interface ms)) (hn : P.underlying tn = some (.int k)) (hinfo : P.info? tn = some i) (hcomp : i.comparable = true) :
    (binOp .eql ti (.iface tn (.int k a)) (.iface tn (.int k b))).run P w = .ok (.bool (a == b)) w := by
  simp only [binOp];simp [Op.equal, Op.maxDepth, run_equalIn_iface_int w 9998 a b hi hn hinfo hcomp]
end
end Go.Proofs.YtddlmigofilejaaGreat
namespace Go.Proofs.YtddlmigofilejaaGreat
open Go.RowKit
open M
theorem code_comparable : (Tryz.prog.info? 33).map (·.comparable) = some true := by kernel_rfl
theorem eqErr (a b : Int) (w : World) : (binOp .eql 27 (.iface 33 (.int .i64 a)) (.iface 33 (.int .i64 b))).run Tryz.prog w = .ok (.bool (a == b)) w := by
  obtain ⟨i, hi, hc⟩ := Option.map_eq_some_iff.1 code_comparable;exact run_eql_iface_int w a b Tryz.underlying27 Tryz.underlying33 hi hc
end Go.Proofs.YtddlmigofilejaaGreat
namespace Go.Proofs.YtddlmigofilejaaGreat
open Go.RowKit
open Go.Sort
open M
def fewNm (x : Nm) : Bool := fewB x.typ
def fewI (x : If) : Bool := decide (x.types.length <= 200) && (decide (x.vals.length <= 200) && (x.types.all fewNm && x.vals.all fewNm))
def fewE (env : List If) : Bool := decide (env.length <= 200) && env.all fewI
theorem rfew8_any (A : Option Addr) (c : Nat) (env : List If) (w : World) (hE : RowIn ifR w A env) (hel : env.length <= 9223372036854775807) :
  Calls Tryz.prog 6 #[.slice A env.length c] w fun e w' => e = .returned (.bool (fewE env)) /\ Below w.heap.size w w' := by
 obtain ⟨V, hV⟩ : ∃ V, fewE env = V := ⟨_, rfl⟩
 rw [hV]
 have HV : Hid ((decide (env.length <= 200) && env.all fewI) = V) := hZ hV
 obtain ⟨ne, hne⟩ : ∃ ne, ne = env.length := ⟨_, rfl⟩
 rw [<- hne] at hel HV
 rw [<- hne]
 have HN := hZ hne
 have HE := hZ hE
 clear hV hne hE
 by_cases h2 : 200 < ne
 ·have e1 : (200 : Int) < ne := by omega
  have RV : V = false := by rw [<- HV.out, show decide (ne <= 200) = false by simp; omega]; rfl
  subst RV;go_enter Tryz.func6, Tryz.ntmps6
  go_wp2_with fail
  go_ret;exact ⟨rfl, Below.refl _ _⟩
 have e1 : ¬ (200 : Int) < ne := by omega
 have HV1 : Hid (env.all fewI = V) := hZ (by rw [<- HV.out, decide_eq_true (show ne <= 200 by omega)]; rfl)
 clear HV
 go_enter Tryz.func6, Tryz.ntmps6
 go_wp2_with fail
 clear e1
 go_loopw [3] (fun iv wr => ∃ j : Nat, j <= ne /\ iv = .int .i64 j /\ Hid ((env.take j).all fewI = true) /\ Below w.heap.size w wr) (fun iv _ => ne - (intOf iv).toNat)
 case atStart => exact ⟨0, by omega, rfl, hZ (by simp), Below.refl _ _⟩
 case round =>
  obtain ⟨j, hj, rfl, HQ, hb⟩ := hrel;obtain ⟨wo, rfl⟩ : ∃ wo : World, wo = wr := ⟨_, rfl⟩;have HBo := hZ hb;by_cases hlt : j < ne
  ·obtain ⟨x, hx⟩ : ∃ x, env[j]? = some x := ⟨_, List.getElem?_eq_getElem (by rw [<- HN.out]; exact hlt)⟩
   obtain ⟨g, o, At, ct, Av, cv, rfl, hgo, -, -, -, g3, g4, -, -, -, -, hT, hVL⟩ := (HE.out.below hb).ifc hx;have HX := hZ hx;have HT := hZ hT;have HVL := hZ hVL;obtain ⟨nt, hnt⟩ : ∃ nt, nt = x.types.length := ⟨_, rfl⟩;obtain ⟨nv, hnv⟩ : ∃ nv, nv = x.vals.length := ⟨_, rfl⟩;rw [<- hnt] at g3;rw [<- hnv] at g4;have HL3 := hZ hnt;have HL4 := hZ hnv;have E3 := hZ g3;have E4 := hZ g4;have hj0 : (0 : Int) <= j := by omega
   have hj1 : (j : Int) < ne := by omega
   have OUT : Hid (Below w.heap.size w wo) := hZ hb;clear hx hT hVL hnt hnv hb;by_cases ht : 200 < nt
   ·have q1 : (200 : Int) < nt := by omega
    have RV : V = false := by
     rw [<- HV1.out];refine all_one _ _ _ _ HX.out ?_;unfold fewI; rw [<- HL3.out, decide_eq_false (by omega)]; rfl
    subst RV;go_wp2_with fail
    go_ret;exact ⟨rfl, OUT.out⟩
   have q1 : ¬ (200 : Int) < nt := by omega
   by_cases hv : 200 < nv
   ·have q2 : (200 : Int) < nv := by omega
    have RV : V = false := by
     rw [<- HV1.out];refine all_one _ _ _ _ HX.out ?_;unfold fewI; rw [<- HL4.out, decide_eq_false (show ¬ nv <= 200 by omega)]; simp
    subst RV;go_wp2_with fail
    go_ret;exact ⟨rfl, OUT.out⟩
   have q2 : ¬ (200 : Int) < nv := by omega
   have TL : Hid (x.types.length <= 200) := hZ (by rw [<- HL3.out]; omega);have VL : Hid (x.vals.length <= 200) := hZ (by rw [<- HL4.out]; omega);clear ht hv;go_wp2_with fail
   have hn3 : nt <= 200 := by omega
   have hn4 : nv <= 200 := by omega
   clear q1 q2 g3 g4;go_loopw [4] (fun iv wr => ∃ k : Nat, k <= nt /\ iv = .int .i64 k /\ Hid ((x.types.take k).all fewNm = true) /\ Below wo.heap.size wo wr) (fun iv _ => nt - (intOf iv).toNat)
   case atStart => exact ⟨0, by omega, rfl, hZ (by simp), Below.refl _ _⟩
   case round =>
    obtain ⟨k, hk, rfl, HQk, hbk⟩ := hrel;obtain ⟨wk, rfl⟩ : ∃ wk : World, wk = wr := ⟨_, rfl⟩;have HBk := hZ hbk;have HBW := hZ (below_over HBo.out hbk);have g3 := (hbk.cell (p := ⟨g, _, none⟩) hgo).trans E3.out;by_cases hlk : k < nt
    ·obtain ⟨z, hz⟩ : ∃ z, x.types[k]? = some z := ⟨_, List.getElem?_eq_getElem (by rw [<- HL3.out]; exact hlk)⟩
     obtain ⟨gt, ot, Bn, cB, Bs, dB, rfl, hgt, -, f0, f1, f2, f3, f4, f5, f6, hTz, -⟩ := (HT.out.below hbk).nm hz;have FW := hZ (fewB_any z.typ _ wk ⟨_, rfl, hTz⟩);have HZ := hZ hz;have hk0 : (0 : Int) <= k := by omega
     have hk1 : (k : Int) < nt := by omega
     clear hz hTz hbk;go_wp2_with fail
     refine FW.out.mono ?_; rintro e w3 ⟨rfl, hb3⟩
     have HB3 := hZ (below_over HBk.out hb3);have FIN := hZ (below_over HBW.out hb3);obtain ⟨q, hq⟩ : ∃ q, fewB z.typ = q := ⟨_, rfl⟩;rw [hq];have HQ2 := hZ hq;clear hb3 f0 f1 f2 f3 f4 f5 f6 hq FW g3;cases q with
     | false =>
      have RV : V = false := by
       rw [<- HV1.out];refine all_one _ _ _ _ HX.out ?_;have h1 : x.types.all fewNm = false := all_one _ _ _ _ HZ.out HQ2.out;unfold fewI; rw [h1]; simp
      subst RV;go_wp2_with fail
      go_ret;exact ⟨rfl, FIN.out⟩
     | true =>
      go_wp2_with fail
      go_roundw
      case rel => exact ⟨k + 1, by omega, by go_num, hZ (by rw [all_snoc _ _ _ _ HZ.out, HQk.out]; exact HQ2.out), HB3.out⟩
      case measure => simp [intOf]; omega
    ·have AL3 : Hid (x.types.all fewNm = true) := hZ (by rw [<- HQk.out, List.take_of_length_le (by rw [<- HL3.out]; omega)])
     have g4 := (HBk.out.cell (p := ⟨g, _, none⟩) hgo).trans E4.out;clear hbk;go_wp2_with fail
     clear g3 g4;go_loopw [6] (fun iv wr => ∃ k : Nat, k <= nv /\ iv = .int .i64 k /\ Hid ((x.vals.take k).all fewNm = true) /\ Below wo.heap.size wo wr) (fun iv _ => nv - (intOf iv).toNat)
     case atStart => exact ⟨0, by omega, rfl, hZ (by simp), HBk.out⟩
     case round =>
      obtain ⟨k, hk, rfl, HQk, hbk⟩ := hrel;obtain ⟨wk, rfl⟩ : ∃ wk : World, wk = wr := ⟨_, rfl⟩;have HBk := hZ hbk;have HBW := hZ (below_over HBo.out hbk);have g4 := (hbk.cell (p := ⟨g, _, none⟩) hgo).trans E4.out;by_cases hlk : k < nv
      ·obtain ⟨z, hz⟩ : ∃ z, x.vals[k]? = some z := ⟨_, List.getElem?_eq_getElem (by rw [<- HL4.out]; exact hlk)⟩
       obtain ⟨gt, ot, Bn, cB, Bs, dB, rfl, hgt, -, f0, f1, f2, f3, f4, f5, f6, hTz, -⟩ := (HVL.out.below hbk).nm hz;have FW := hZ (fewB_any z.typ _ wk ⟨_, rfl, hTz⟩);have HZ := hZ hz;have hk0 : (0 : Int) <= k := by omega
       have hk1 : (k : Int) < nv := by omega
       clear hz hTz hbk;go_wp2_with fail
       refine FW.out.mono ?_; rintro e w3 ⟨rfl, hb3⟩
       have HB3 := hZ (below_over HBk.out hb3);have FIN := hZ (below_over HBW.out hb3);obtain ⟨q, hq⟩ : ∃ q, fewB z.typ = q := ⟨_, rfl⟩;rw [hq];have HQ2 := hZ hq;clear hb3 f0 f1 f2 f3 f4 f5 f6 hq FW g4;cases q with
       | false =>
        have RV : V = false := by
         rw [<- HV1.out];refine all_one _ _ _ _ HX.out ?_;have h1 : x.vals.all fewNm = false := all_one _ _ _ _ HZ.out HQ2.out;unfold fewI; rw [h1]; simp
        subst RV;go_wp2_with fail
        go_ret;exact ⟨rfl, FIN.out⟩
       | true =>
        go_wp2_with fail
        go_roundw
        case rel => exact ⟨k + 1, by omega, by go_num, hZ (by rw [all_snoc _ _ _ _ HZ.out, HQk.out]; exact HQ2.out), HB3.out⟩
        case measure => simp [intOf]; omega
      ·have AL4 : Hid (x.vals.all fewNm = true) := hZ (by rw [<- HQk.out, List.take_of_length_le (by rw [<- HL4.out]; omega)])
       have NX : Hid ((env.take (j + 1)).all fewI = true) := hZ (by
        rw [all_snoc _ _ _ _ HX.out, HQ.out];unfold fewI
        rw [AL3.out, AL4.out, decide_eq_true TL.out, decide_eq_true VL.out]; rfl)
       clear hbk;go_wp2_with fail
       go_roundw
       case rel => exact ⟨j + 1, by omega, by go_num, NX, HBW.out⟩
       case measure => simp [intOf]; omega
  ·have RV : V = true := by rw [<- HV1.out, <- HQ.out, List.take_of_length_le (by rw [<- HN.out]; omega)]
   subst RV;go_wp2_with fail
   go_ret;exact ⟨rfl, HBo.out⟩
end Go.Proofs.YtddlmigofilejaaGreat
namespace Go.Proofs.YtddlmigofilejaaGreat
open Go.RowKit
open M
def nameOk (gr : Bool) (s : ByteArray) : Bool := if gr then greatB s.data.toList else smallB s.data.toList
def okAt (gr : Bool) (l : List Nm) (i : Nat) : Bool :=
  match l[i]? with
  | none => true
  | some x => nameOk gr x.name && ((match i with
    | 0 => true
    | k + 1 => match l[k]? with
      | none => true
      | some y => !leS x.name y.name) && (mayT x.typ && plainT x.typ))
def risesN (gr : Bool) (l : List Nm) : Bool := (List.range l.length).all (okAt gr l)
theorem rises_yes {gr : Bool} {l : List Nm} (h : ∀ i, i < l.length -> okAt gr l i = true) : risesN gr l = true := by
  unfold risesN
  rw [List.all_eq_true];intro i hi;exact h i (by simpa using hi)
theorem rises_no {gr : Bool} {l : List Nm} {i : Nat} (hi : i < l.length) (h : okAt gr l i = false) : risesN gr l = false := by
  unfold risesN
  rw [Bool.eq_false_iff, ne_eq, List.all_eq_true];intro a;have := a i (by simpa using hi)
  rw [h] at this; cases this
theorem rises_at {gr : Bool} {l : List Nm} (h : risesN gr l = true) (i : Nat) (hi : i < l.length) : okAt gr l i = true := by
  unfold risesN at h
  rw [List.all_eq_true] at h;exact h i (by simpa using hi)
theorem okAt_0 {gr : Bool} {l : List Nm} {x : Nm} (hx : l[0]? = some x) : okAt gr l 0 = (nameOk gr x.name && (mayT x.typ && plainT x.typ)) := by
  unfold okAt; rw [hx]; simp
theorem okAt_s {gr : Bool} {l : List Nm} {k : Nat} {x y : Nm} (hx : l[k + 1]? = some x) (hy : l[k]? = some y) : okAt gr l (k + 1) = (nameOk gr x.name && (!leS x.name y.name && (mayT x.typ && plainT x.typ))) := by
  unfold okAt; rw [hx]; simp only [hy]
def opT (p : ByteArray) (j : Int) (d n : ByteArray) : Ty := .mk 9 p j d n [] []
def mayIf (x : If) : Bool := mayT (opT x.pkg x.major x.mod ⟨#[84]⟩) && (risesN true x.types && risesN false x.vals)
theorem open_may (p : ByteArray) (j : Int) (d n : ByteArray) : mayT (opT p j d n) = (smallB p.data.toList && smallB d.data.toList && greatB n.data.toList && decide (1 <= j) && decide (j <= 999999999)) := by
  have h : mayT (opT p j d n) = ((decide ((0 : Nat) <= 20) && true && (true && true && smallB p.data.toList && smallB d.data.toList && greatB n.data.toList && decide (1 <= j) && decide (j <= 999999999))) && true && decide (1 + 0 <= 500) && decide (0 + 1 <= 32)) := by
    unfold mayT
    rw [allOk_eq];rfl
  rw [h];simp
theorem T_great : greatB (⟨#[84]⟩ : ByteArray).data.toList = true := by decide +kernel
theorem p_small : smallB (⟨#[112]⟩ : ByteArray).data.toList = true := by decide +kernel
theorem m_small : smallB (⟨#[109]⟩ : ByteArray).data.toList = true := by decide +kernel
theorem great_may (n : ByteArray) : mayT (opT ⟨#[112]⟩ 1 ⟨#[109]⟩ n) = greatB n.data.toList := by rw [open_may, p_small, m_small]; simp
theorem small_may (d : ByteArray) : mayT (opT ⟨#[112]⟩ 1 d ⟨#[84]⟩) = smallB d.data.toList := by rw [open_may, p_small, T_great]; simp
theorem may_open (p : ByteArray) (j : Int) (d : ByteArray) : mayT (opT p j d ⟨#[84]⟩) = (smallB p.data.toList && smallB d.data.toList && (decide (1 <= j) && decide (j <= 999999999))) := by rw [open_may, T_great]; simp [Bool.and_assoc]
theorem openTy_at (p : ByteArray) (j : Int) (d n : ByteArray) (w : World) (hp : p.size <= 9223372036854775807) (hd : d.size <= 9223372036854775807) (hn : n.size <= 9223372036854775807) : TyAt w [.int .i64 9, .string p, .int .i64 j, .string d, .string n, .slice none 0 0, .slice none 0 0] (opT p j d n) :=
  .mk 9 p j d n [] [] none 0 none 0 (fun _ => [.int .i64 9, .string p, .int .i64 j, .string d, .string n, .slice none 0 0, .slice none 0 0]) hp hd hn (by decide) (by decide) (by decide) (fun i s h => by simp at h) (fun _ => rfl) (fun i t h => by simp at h) (fun i t h => by simp at h)
end Go.Proofs.YtddlmigofilejaaGreat
namespace Go.Proofs.YtddlmigofilejaaGreat
open Go
open Go.Sort
open M
def ordU (l : List ByteArray) : List (List UInt8) := (l.map (·.data.toList)).mergeSort fun x y => decide (x <= y)
theorem ordU_len (l : List ByteArray) : (ordU l).length = l.length := by unfold ordU; rw [List.length_mergeSort, List.length_map]
def uniS (l : List ByteArray) : List (List UInt8) := Lib.compact (ordU l)
def uniN (l : List ByteArray) : List ByteArray := (uniS l).map fun x => ⟨x.toArray⟩
theorem compact_up {zs : List (List UInt8)} (h : zs.Pairwise (· <= ·)) : (Lib.compact zs).Pairwise (· < ·) := by
  unfold Lib.compact Lib.compactUpTo
  rw [List.pairwise_map];refine (List.Pairwise.filter (Lib.keeps zs.toArray) (List.pairwise_lt_range (n := zs.length))).imp_of_mem ?_;intro i j hi hj hij;have hj1 := (List.mem_filter.1 hj).1;have hj2 := (List.mem_filter.1 hj).2;have hi1 := (List.mem_filter.1 hi).1;simp at hj1 hi1
  have hne : zs.toArray[j]! ≠ zs.toArray[j - 1]! := by
    unfold Lib.keeps at hj2
    have := of_decide_eq_true hj2
    rcases this with e | e
    · omega
    · exact e
  have e0 : zs.toArray[i]! = zs[i] := by rw [getElem!_pos _ _ (by simpa using hi1)]; simp
  have e1 : zs.toArray[j]! = zs[j] := by rw [getElem!_pos _ _ (by simpa using hj1)]; simp
  have e2 : zs.toArray[j - 1]! = zs[j - 1]'(by omega) := by rw [getElem!_pos _ _ (by simp; omega)]; simp
  rw [e1, e2] at hne;rw [e0, e1];have hle : zs[j - 1]'(by omega) <= zs[j] := List.pairwise_iff_getElem.1 h (j - 1) j (by omega) hj1 (by omega)
  have hlt : zs[j - 1]'(by omega) < zs[j] := by
    by_cases c : zs[j - 1]'(by omega) < zs[j]
    · exact c
    · exact absurd (List.le_antisymm (α := UInt8) c hle) hne
  by_cases e : i = j - 1
  · subst e; exact hlt
  · have := List.pairwise_iff_getElem.1 h i (j - 1) hi1 (by omega) (by omega)
    exact List.lt_of_le_of_lt this hlt
theorem compact_mem {zs : List (List UInt8)} (x : List UInt8) : x ∈ Lib.compact zs ↔ x ∈ zs := by
  unfold Lib.compact Lib.compactUpTo
  rw [List.mem_map];constructor
  · rintro ⟨i, hi, rfl⟩
    have := (List.mem_filter.1 hi).1
    simp at this;rw [getElem!_pos _ _ (by simpa using this)];simp
  · intro hx
    obtain ⟨i, hi⟩ := List.getElem?_of_mem hx
    have key : ∀ (i : Nat), zs[i]? = some x -> ∃ a, a ∈ (List.range zs.length).filter (Lib.keeps zs.toArray) /\ zs.toArray[a]! = x := by
      intro i;induction i with
      | zero =>
        intro h;obtain ⟨h1, h2⟩ := List.getElem?_eq_some_iff.1 h;exact ⟨0, List.mem_filter.2 ⟨by simpa using h1, by simp [Lib.keeps]⟩, by rw [getElem!_pos _ _ (by simpa using h1)]; simpa using h2⟩
      | succ i ih =>
        intro h;obtain ⟨h1, h2⟩ := List.getElem?_eq_some_iff.1 h;have e1 : zs.toArray[i + 1]! = x := by rw [getElem!_pos _ _ (by simpa using h1)]; simpa using h2
        cases hk : Lib.keeps zs.toArray (i + 1) with
        | true => exact ⟨i + 1, List.mem_filter.2 ⟨by simpa using h1, hk⟩, e1⟩
        | false =>
          unfold Lib.keeps at hk
          have hk := of_decide_eq_false hk;simp only [not_or, Decidable.not_not, Nat.add_sub_cancel, ne_eq] at hk;refine ih ?_;have e2 := hk.2.symm.trans e1;rw [getElem!_pos _ _ (by simp; omega)] at e2;rw [List.getElem?_eq_some_iff];exact ⟨by omega, by simpa using e2⟩
    exact key i hi
theorem ordU_up (l : List ByteArray) : (ordU l).Pairwise (· <= ·) := by
  unfold ordU
  refine (List.pairwise_mergeSort (fun a b c h1 h2 => ?_) (fun a b => ?_) _).imp (fun h => of_decide_eq_true h)
  · exact decide_eq_true (List.le_trans (of_decide_eq_true h1) (of_decide_eq_true h2))
  · rcases List.le_total a b with h | h
    · simp [h]
    · simp [h]
theorem uniN_rise (l : List ByteArray) : Rising (uniN l) := by
  unfold uniN uniS
  show List.Pairwise _ _
  rw [List.pairwise_map];refine (compact_up (ordU_up l)).imp fun h => ?_
  show LtS _ _
  unfold LtS
  simpa using h
theorem uniN_mem (l : List ByteArray) (s : ByteArray) : s ∈ uniN l ↔ s ∈ l := by
  unfold uniN uniS
  rw [List.mem_map];constructor
  · rintro ⟨x, hx, rfl⟩
    rw [compact_mem] at hx;unfold ordU at hx
    rw [List.mem_mergeSort, List.mem_map] at hx;obtain ⟨y, hy, rfl⟩ := hx;have : (⟨y.data.toList.toArray⟩ : ByteArray) = y := by cases y; simp
    rw [this]; exact hy
  · intro hs
    refine ⟨s.data.toList, (compact_mem _).2 ?_, by cases s; simp⟩;unfold ordU
    rw [List.mem_mergeSort];exact List.mem_map_of_mem hs
theorem uniS_le (l : List ByteArray) : (uniS l).length <= l.length := by
  unfold uniS Lib.compact Lib.compactUpTo
  rw [List.length_map];refine Nat.le_trans (List.length_filter_le _ _) ?_;simp [ordU_len]
theorem uniN_len (l : List ByteArray) : (uniN l).length = (uniS l).length := by unfold uniN; simp
end Go.Proofs.YtddlmigofilejaaGreat
namespace Go.Proofs.YtddlmigofilejaaGreat
open Go
open M
structure Ch where
  kind : Int
  mod : ByteArray
  name : ByteArray
  ofT : Bool
def samePk (x y : If) : Bool := decide (x.pkg = y.pkg) && (x.major == y.major)
def okPk (l : List If) (i : Nat) : Bool :=
  match l[i]? with
  | none => true
  | some x => mayIf x && (match i with
    | 0 => true
    | k + 1 => match l[k]? with
      | none => true
      | some y => samePk y x && decide (LtS y.mod x.mod))
def mayPk (l : List If) : Bool := decide (l.length <= 20) && (List.range l.length).all (okPk l)
theorem mayPk_yes {l : List If} (h0 : l.length <= 20) (h : ∀ i, i < l.length -> okPk l i = true) : mayPk l = true := by
  unfold mayPk
  rw [decide_eq_true h0, Bool.true_and, List.all_eq_true];intro i hi;exact h i (by simpa using hi)
theorem mayPk_no {l : List If} {i : Nat} (hi : i < l.length) (h : okPk l i = false) : mayPk l = false := by
  rw [Bool.eq_false_iff];intro e;unfold mayPk at e
  rw [Bool.and_eq_true, List.all_eq_true] at e;have := e.2 i (by simpa using hi)
  rw [h] at this; cases this
theorem mayPk_long {l : List If} (h : 20 < l.length) : mayPk l = false := by
  unfold mayPk
  rw [decide_eq_false (by omega)]; rfl
theorem mayPk_at {l : List If} (h : mayPk l = true) : l.length <= 20 /\ ∀ i, i < l.length -> okPk l i = true := by
  unfold mayPk at h
  rw [Bool.and_eq_true, decide_eq_true_eq, List.all_eq_true] at h;exact ⟨h.1, fun i hi => h.2 i (by simpa using hi)⟩
theorem okPk_0 {l : List If} {x : If} (hx : l[0]? = some x) : okPk l 0 = mayIf x := by
  unfold okPk; rw [hx]; simp
theorem okPk_s {l : List If} {k : Nat} {x y : If} (hx : l[k + 1]? = some x) (hy : l[k]? = some y) : okPk l (k + 1) = (mayIf x && (samePk y x && decide (LtS y.mod x.mod))) := by
  unfold okPk; rw [hx]; simp only [hy]
theorem samePk_iff {x y : If} : samePk x y = true ↔ x.pkg = y.pkg /\ x.major = y.major := by
  unfold samePk; simp
theorem mayPk_may {l : List If} (h : mayPk l = true) {x : If} (hx : x ∈ l) : mayIf x = true := by
  obtain ⟨i, hi⟩ := List.getElem?_of_mem hx;have := (mayPk_at h).2 i (List.getElem?_eq_some_iff.1 hi).1
  unfold okPk at this
  rw [hi] at this;exact (Bool.and_eq_true _ _ ▸ this).1
theorem mayPk_first {l : List If} (h : mayPk l = true) {z : If} (hz : l[0]? = some z) : ∀ (i : Nat) (x : If), l[i]? = some x -> x.pkg = z.pkg /\ x.major = z.major := by
  intro i;induction i with
  | zero => intro x hx; rw [hz] at hx; cases hx; exact ⟨rfl, rfl⟩
  | succ i ih =>
    intro x hx;have hl := (List.getElem?_eq_some_iff.1 hx).1;obtain ⟨y, hy⟩ : ∃ y, l[i]? = some y := ⟨_, List.getElem?_eq_getElem (by omega)⟩;have h1 := (mayPk_at h).2 (i + 1) hl;rw [okPk_s hx hy, Bool.and_eq_true, Bool.and_eq_true] at h1;obtain ⟨e1, e2⟩ := samePk_iff.1 h1.2.1;obtain ⟨f1, f2⟩ := ih y hy;exact ⟨e1.symm.trans f1, e2.symm.trans f2⟩
theorem mayPk_rise {l : List If} (h : mayPk l = true) : Rising (l.map (·.mod)) := by
  refine rising_at fun i hi => ?_
  rw [List.length_map] at hi;obtain ⟨x, hx⟩ : ∃ x, l[i + 1]? = some x := ⟨_, List.getElem?_eq_getElem hi⟩;obtain ⟨y, hy⟩ : ∃ y, l[i]? = some y := ⟨_, List.getElem?_eq_getElem (by omega)⟩;have h1 := (mayPk_at h).2 (i + 1) hi;rw [okPk_s hx hy, Bool.and_eq_true, Bool.and_eq_true, decide_eq_true_eq] at h1;have e1 : nameAt (l.map (·.mod)) i = y.mod := by unfold nameAt; simp [hy]
  have e2 : nameAt (l.map (·.mod)) (i + 1) = x.mod := by unfold nameAt; simp [hx]
  rw [e1, e2];exact h1.2.2
theorem risesN_rise {gr : Bool} {l : List Nm} (h : risesN gr l = true) : Rising (l.map (·.name)) := by
  refine rising_at fun i hi => ?_
  rw [List.length_map] at hi;obtain ⟨x, hx⟩ : ∃ x, l[i + 1]? = some x := ⟨_, List.getElem?_eq_getElem hi⟩;obtain ⟨y, hy⟩ : ∃ y, l[i]? = some y := ⟨_, List.getElem?_eq_getElem (by omega)⟩;have h1 := rises_at h (i + 1) hi;rw [okAt_s hx hy, Bool.and_eq_true, Bool.and_eq_true] at h1;have e1 : nameAt (l.map (·.name)) i = y.name := by unfold nameAt; simp [hy]
  have e2 : nameAt (l.map (·.name)) (i + 1) = x.name := by unfold nameAt; simp [hx]
  rw [e1, e2];have h2 := h1.2.1;rw [leS_lts] at h2;simpa using h2
theorem risesN_ok {gr : Bool} {l : List Nm} (h : risesN gr l = true) : ∀ x ∈ l, nameOk gr x.name = true /\ mayT x.typ = true /\ plainT x.typ = true := by
  intro x hx;obtain ⟨i, hi⟩ := List.getElem?_of_mem hx;have := rises_at h i (List.getElem?_eq_some_iff.1 hi).1
  unfold okAt at this
  rw [hi] at this;simp only [Bool.and_eq_true] at this;exact ⟨this.1, this.2.2.1, this.2.2.2⟩
theorem mayIf_parts {x : If} (h : mayIf x = true) : risesN true x.types = true /\ risesN false x.vals = true := by
  unfold mayIf at h
  rw [Bool.and_eq_true, Bool.and_eq_true] at h;exact h.2
def fairP (a b : List If) : Bool := mayPk a && (mayPk b && (match a[0]?, b[0]? with
  | some x, some y => samePk x y
  | _, _ => true))
theorem fairP_parts {a b : List If} (h : fairP a b = true) : mayPk a = true /\ mayPk b = true /\ ∀ x y, a[0]? = some x -> b[0]? = some y -> samePk x y = true := by
  unfold fairP at h
  rw [Bool.and_eq_true, Bool.and_eq_true] at h;refine ⟨h.1, h.2.1, fun x y hx hy => ?_⟩;have := h.2.2
  rw [hx, hy] at this;exact this
def ofMod (l : List If) (m : ByteArray) : Option If := l.find? fun x => decide (x.mod = m)
def rowOf (t : Bool) (x : If) : List Nm := if t then x.types else x.vals
def rowP (l : List If) (m : ByteArray) (t : Bool) : List Nm :=
  match ofMod l m with
  | none => []
  | some x => rowOf t x
def valAt (l : List Nm) (s : ByteArray) : Option Ty := (l.find? (isNm s)).map (·.typ)
noncomputable def oneP (t : Bool) (s : ByteArray) (a b : List Nm) : Int :=
  match valAt b s with
  | none => 1
  | some y => match valAt a s with
    | none => 4
    | some x => if sameT x y = true then 0 else if t = false /\ subB y x = true then 3 else 2
noncomputable def chOne (m : ByteArray) (t : Bool) (a b : List Nm) (s : ByteArray) : List Ch := if oneP t s a b = 0 then [] else [⟨oneP t s a b, m, s, t⟩]
noncomputable def chRow (m : ByteArray) (t : Bool) (a b : List Nm) : List Ch := (uniN (a.map (·.name) ++ b.map (·.name))).flatMap (chOne m t a b)
noncomputable def chMod (a b : List If) (m : ByteArray) : List Ch := chRow m true (rowP a m true) (rowP b m true) ++ chRow m false (rowP a m false) (rowP b m false)
noncomputable def chP (a b : List If) : List Ch := (uniN (a.map (·.mod) ++ b.map (·.mod))).flatMap (chMod a b)
def stepP (k : Int) : Int := if k = 1 \/ k = 2 then 3 else 2
def ofP (l : List Ch) : Int := l.foldl (fun m c => max m (stepP c.kind)) 1
def mostP (m : Int) (l : List Ch) : Int := l.foldl (fun m c => max m (stepP c.kind)) m
theorem stepP_cases (k : Int) : stepP k = 2 \/ stepP k = 3 := by unfold stepP; split <;> simp
theorem mostP_le : ∀ (l : List Ch) (m z : Int), mostP m l <= z ↔ m <= z /\ ∀ c ∈ l, stepP c.kind <= z
  | [], m, z => by simp [mostP]
  | c :: r, m, z => by
    show mostP (max m (stepP c.kind)) r <= z ↔ _
    rw [mostP_le r];constructor
    · rintro ⟨h1, h2⟩
      refine ⟨by omega, fun x hx => ?_⟩;rcases List.mem_cons.1 hx with rfl | hx
      · omega
      · exact h2 x hx
    · rintro ⟨h1, h2⟩
      have := h2 c List.mem_cons_self
      exact ⟨by omega, fun x hx => h2 x (List.mem_cons_of_mem _ hx)⟩
theorem ofP_le {l : List Ch} {z : Int} (h1 : 1 <= z) : ofP l <= z ↔ ∀ c ∈ l, stepP c.kind <= z := by
  have := mostP_le l 1 z
  exact this.trans ⟨fun h => h.2, fun h => ⟨h1, h⟩⟩
theorem ofP_pos (l : List Ch) : 1 <= ofP l := ((mostP_le l 1 (ofP l)).1 (Int.le_refl _)).1
theorem ofP_three (l : List Ch) : ofP l <= 3 := (ofP_le (by decide)).2 fun c _ => by rcases stepP_cases c.kind with h | h <;> omega
theorem mem_chP {a b : List If} {c : Ch} : c ∈ chP a b ↔ (c.mod ∈ a.map (·.mod) \/ c.mod ∈ b.map (·.mod)) /\ (c.name ∈ (rowP a c.mod c.ofT).map (·.name) \/ c.name ∈ (rowP b c.mod c.ofT).map (·.name)) /\ c.kind = oneP c.ofT c.name (rowP a c.mod c.ofT) (rowP b c.mod c.ofT) /\ c.kind ≠ 0 := by
  have key : ∀ (m : ByteArray) (t : Bool) (x y : List Nm), c ∈ chRow m t x y ↔ c.mod = m /\ c.ofT = t /\ (c.name ∈ x.map (·.name) \/ c.name ∈ y.map (·.name)) /\ c.kind = oneP t c.name x y /\ c.kind ≠ 0 := by
    intro m t x y;unfold chRow
    rw [List.mem_flatMap];constructor
    · rintro ⟨s, hs, hc⟩
      rw [uniN_mem, List.mem_append] at hs;unfold chOne at hc
      split at hc
      · cases hc
      · rename_i h0
        simp only [List.mem_singleton] at hc;subst hc;exact ⟨rfl, rfl, hs, rfl, h0⟩
    · rintro ⟨rfl, rfl, hs, hk, h0⟩
      refine ⟨c.name, by rw [uniN_mem, List.mem_append]; exact hs, ?_⟩;unfold chOne
      rw [if_neg (hk ▸ h0), <- hk];exact List.mem_singleton.2 rfl
  unfold chP
  rw [List.mem_flatMap];constructor
  · rintro ⟨m, hm, hc⟩
    rw [uniN_mem, List.mem_append] at hm;unfold chMod at hc
    rw [List.mem_append, key, key] at hc;rcases hc with ⟨rfl, ht, h⟩ | ⟨rfl, ht, h⟩ <;> exact ⟨hm, by rw [ht]; exact h⟩
  · rintro ⟨hm, h⟩
    refine ⟨c.mod, by rw [uniN_mem, List.mem_append]; exact hm, ?_⟩;unfold chMod
    rw [List.mem_append, key, key];cases ht : c.ofT with
    | true => rw [ht] at h; exact .inl ⟨rfl, rfl, h⟩
    | false => rw [ht] at h; exact .inr ⟨rfl, rfl, h⟩
end Go.Proofs.YtddlmigofilejaaGreat
namespace Go.Proofs.YtddlmigofilejaaGreat
open Go Go.RowKit Go.Shelf
open Go.Sort
open M
theorem nanB_any (s : ByteArray) (w : World) : Calls Tryz.prog 69 #[.string s] w fun e w' => e = .returned (.bool false) /\ w' = w := by
 have hs := str_eq s s
 rw [decide_eq_true rfl] at hs
 go_enter Tryz.func69, Tryz.ntmps69
 go_wp2_with fail
 go_ret
 exact ⟨rfl, rfl⟩
theorem nanS_any (s : ByteArray) (w : World) : Calls Tryz.prog 189 #[.string s] w fun e w' => e = .returned (.bool false) /\ w' = w := by
 have hs := str_eq s s
 rw [decide_eq_true rfl] at hs
 go_enter Tryz.func189, Tryz.ntmps189
 go_wp2_with fail
 go_ret
 exact ⟨rfl, rfl⟩
theorem lessB_any (a b : ByteArray) (w : World) : Calls Tryz.prog 102 #[.string a, .string b] w fun e w' => e = .returned (.bool (decide (LtS a b))) /\ w' = w := by
 go_enter Tryz.func102, Tryz.ntmps102
 go_wp2_with fail
 refine (nanB_any a w).mono ?_; rintro e w' ⟨rfl, rfl⟩
 go_wp2_with fail
 go_ret
 exact ⟨by rw [<- bless_lts]; rfl, rfl⟩
def BsOut (l : List ByteArray) (s : ByteArray) (w : World) (e : Ending) (w' : World) : Prop := ∃ (i : Nat) (b : Bool), e = .returned (.tuple #[.int .i64 i, .bool b]) /\ (b = true ↔ s ∈ l) /\ (b = true -> l[i]? = some s) /\ Below w.heap.size w w'
theorem search_any (A : Option Addr) (n c : Nat) (l : List ByteArray) (s : ByteArray) (w : World) (hn : l.length = n) (hz : n <= 4611686018427387903) (hN : NamesAt w A l) (hr : Rising l) :
  Calls Tryz.prog 179 #[.slice A n c, .string s] w (BsOut l s w) := by
 have HN := hZ hn
 have HNA := hZ hN
 have HR := hZ hr
 clear hn hN hr
 go_enter Tryz.func179, Tryz.ntmps179
 go_wp2_with fail
 go_loopw [7, 8] (fun s7 s8 wr => ∃ i j : Nat, i <= j /\ j <= n /\ s7 = .int .i64 i /\ s8 = .int .i64 j /\ Hid (∀ q x, q < i -> l[q]? = some x -> LtS x s) /\ Hid (∀ q x, j <= q -> l[q]? = some x -> ¬ LtS x s) /\ Hid (Below w.heap.size w wr)) (fun s7 s8 _ => (intOf s8).toNat - (intOf s7).toNat)
 case atStart => exact ⟨0, n, by omega, by omega, rfl, rfl, hZ (fun q x h => by omega), hZ (fun q x h hx => by have := (List.getElem?_eq_some_iff.1 hx).1; have := HN.out; omega), hZ (Below.refl _ _)⟩
 case round =>
  obtain ⟨i, j, hij, hj, rfl, rfl, HL, HG, HB⟩ := hrel;obtain ⟨wo, rfl⟩ : ∃ wo : World, wo = wr := ⟨_, rfl⟩;by_cases hlt : i < j
  ·have w1 : IntKind.i64.wrap ((i : Int) + j) = i + j := by rw [IntKind.wrap_i64]; omega
   have w2 : IntKind.u64.wrap ((i : Int) + j) = i + j := by rw [IntKind.wrap_u64]; omega
   have hlt' : (i : Int) < j := by omega
   obtain ⟨h, hh⟩ : ∃ h : Nat, h = (i + j) / 2 := ⟨_, rfl⟩;have hc : ((i : Int) + j) / 2 = (h : Int) := by omega
   have hih : i <= h := by omega
   have hhj : h < j := by omega
   have h0 : (0 : Int) <= h := by omega
   have h1 : (h : Int) < n := by omega
   obtain ⟨x, hx⟩ : ∃ x, l[h]? = some x := ⟨_, List.getElem?_eq_getElem (by rw [HN.out]; omega)⟩;obtain ⟨g, o, rfl, hg, hcl, -⟩ := HNA.out h x hx;have y0 := (HB.out.cell (p := ⟨g, _, none⟩) hg).trans hcl;have HX := hZ hx;have HLS := hZ (lessB_any x s wo);clear hh hcl hx;go_upto_region 5 with fail
   clear hc w1 w2 hlt';go_wp2_with fail
   refine HLS.out.mono ?_; rintro e w' ⟨rfl, rfl⟩
   clear HLS y0;by_cases hls : LtS x s
   ·have NL : Hid (∀ q y, q < h + 1 -> l[q]? = some y -> LtS y s) := hZ (fun q y hq hy => by
     rcases Nat.lt_or_ge q h with c | c
     ·obtain ⟨hq1, rfl⟩ := List.getElem?_eq_some_iff.1 hy
      obtain ⟨hh1, rfl⟩ := List.getElem?_eq_some_iff.1 HX.out;exact lts_trans (List.pairwise_iff_getElem.1 HR.out q h hq1 hh1 c) hls
     ·obtain rfl : q = h := by omega
      rw [HX.out] at hy; cases hy; exact hls)
    rw [decide_eq_true hls];clear hls;go_wp2_with fail
    go_roundw
    case rel => exact ⟨h + 1, j, by omega, by omega, by go_num, rfl, NL, HG, HB⟩
    case measure => simp [intOf]; omega
   ·have NG : Hid (∀ q y, h <= q -> l[q]? = some y -> ¬ LtS y s) := hZ (fun q y hq hy => by
     rcases Nat.lt_or_ge h q with c | c
     ·obtain ⟨hq1, rfl⟩ := List.getElem?_eq_some_iff.1 hy
      obtain ⟨hh1, rfl⟩ := List.getElem?_eq_some_iff.1 HX.out;exact fun hy => hls (lts_trans (List.pairwise_iff_getElem.1 HR.out h q hh1 hq1 c) hy)
     ·obtain rfl : q = h := by omega
      rw [HX.out] at hy; cases hy; exact hls)
    rw [decide_eq_false hls];clear hls;go_wp2_with fail
    go_roundw
    case rel => exact ⟨i, h, hih, by omega, rfl, rfl, HL, NG, HB⟩
    case measure => simp [intOf]; omega
  ·obtain rfl : i = j := by omega
   by_cases hin : i < n
   ·obtain ⟨x, hx⟩ : ∃ x, l[i]? = some x := ⟨_, List.getElem?_eq_getElem (by rw [HN.out]; exact hin)⟩
    obtain ⟨g, o, rfl, hg, hcl, -⟩ := HNA.out i x hx;have y0 := (HB.out.cell (p := ⟨g, _, none⟩) hg).trans hcl;have h0 : (0 : Int) <= i := by omega
    have h1 : (i : Int) < n := by omega
    have hq := str_eq x s;have HX := hZ hx;by_cases hxs : x = s
    ·rw [decide_eq_true hxs] at hq
     have MEM : Hid (s ∈ l /\ l[i]? = some s) := hZ ⟨by rw [<- hxs]; exact List.mem_of_getElem? hx, by rw [hx, hxs]⟩;clear hxs hx hcl;go_wp2_with fail
     (try simp only [Exit.inBlock, Exit.then])
     exact bodyPost_ret (results_tmp2 rfl _ _ _) rfl ⟨i, true, rfl, ⟨fun _ => MEM.out.1, fun _ => rfl⟩, fun _ => MEM.out.2, HB.out⟩
    ·rw [decide_eq_false hxs] at hq
     have MEM : Hid (¬ s ∈ l) := hZ (fun hs => by
      exfalso
      obtain ⟨q, hq⟩ := List.getElem?_of_mem hs;rcases Nat.lt_trichotomy q i with c | c | c
      ·exact lts_irrefl _ (HL.out q s c hq)
      ·subst c; rw [hx] at hq; cases hq; exact hxs rfl
      ·obtain ⟨hq1, e1⟩ := List.getElem?_eq_some_iff.1 hq
       obtain ⟨hi1, e2⟩ := List.getElem?_eq_some_iff.1 hx;have := List.pairwise_iff_getElem.1 HR.out i q hi1 hq1 c
       rw [e1, e2] at this;exact HG.out i x (Nat.le_refl _) hx this)
     have HN1 := hZ (nanS_any x wo);clear hxs hx hcl;go_wp2_with fail
     refine HN1.out.mono ?_; rintro e w' ⟨rfl, rfl⟩
     go_wp2_with fail
     (try simp only [Exit.inBlock, Exit.then])
     exact bodyPost_ret (results_tmp2 rfl _ _ _) rfl ⟨i, false, rfl, ⟨fun h => (by cases h), fun h => absurd h MEM.out⟩, fun h => (by cases h), HB.out⟩
   ·have h1 : ¬ (i : Int) < n := by omega
    have MEM : Hid (¬ s ∈ l) := hZ (fun hs => by
     exfalso
     obtain ⟨q, hq⟩ := List.getElem?_of_mem hs;have hq1 := (List.getElem?_eq_some_iff.1 hq).1;exact lts_irrefl _ (HL.out q s (by have := HN.out; omega) hq))
    go_wp2_with fail
    (try simp only [Exit.inBlock, Exit.then])
    exact bodyPost_ret (results_tmp2 rfl _ _ _) rfl ⟨i, false, rfl, ⟨fun h => (by cases h), fun h => absurd h MEM.out⟩, fun h => (by cases h), HB.out⟩
theorem nan10_any (s : ByteArray) (w : World) : Calls Tryz.prog 69 #[.string s] w fun e w' => e = .returned (.bool false) /\ w = w' := by
  have h : (s.toList == s.toList) = true := by simp
  have h2 : (!(s.toList == s.toList)) = false := by rw [h]; rfl
  go_enter Tryz.func69, Tryz.ntmps69
  go_wp2_with fail
  go_ret;exact ⟨by first | rfl | exact ret_bool (by simp), rfl⟩
def cmpB (a b : ByteArray) : Int := if Op.bytesLess a.toList b.toList = true then -1 else if Op.bytesLess b.toList a.toList = true then 1 else 0
theorem compare10_any (a b : ByteArray) (w : World) : Calls Tryz.prog 40 #[.string a, .string b] w fun e w' => e = .returned (.int .i64 (cmpB a b)) /\ w = w' := by
  obtain ⟨v1, h1⟩ : ∃ v, Op.bytesLess a.toList b.toList = v := ⟨_, rfl⟩;obtain ⟨v2, h2⟩ : ∃ v, Op.bytesLess b.toList a.toList = v := ⟨_, rfl⟩;have hc : cmpB a b = if v1 = true then -1 else if v2 = true then 1 else 0 := by unfold cmpB; rw [h1, h2]
  have h3 : v1 = false -> (a.toList == b.toList) = !v2 := fun e => by
    have := leL a.toList b.toList
    rw [h1, e, h2] at this;simpa using this
  rw [hc];have H3 := hZ h3;clear hc h3;cases v1 with
  | true =>
    go_enter Tryz.func40, Tryz.ntmps40
    go_wp2_with fail
    refine (nan10_any _ _).mono ?_; rintro e w' ⟨rfl, rfl⟩
    go_wp2_with fail
    refine (nan10_any _ _).mono ?_; rintro e w' ⟨rfl, rfl⟩
    go_wp2_with fail
    go_ret;exact ⟨rfl, rfl⟩
  | false =>
    have e3 := H3.out rfl;cases v2 with
    | true =>
      have e4 : (!(a.toList == b.toList)) = true := by rw [e3]; rfl
      go_enter Tryz.func40, Tryz.ntmps40
      go_wp2_with fail
      refine (nan10_any _ _).mono ?_; rintro e w' ⟨rfl, rfl⟩
      go_wp2_with fail
      refine (nan10_any _ _).mono ?_; rintro e w' ⟨rfl, rfl⟩
      go_wp2_with fail
      go_ret;exact ⟨rfl, rfl⟩
    | false =>
      have e4 : (!(a.toList == b.toList)) = false := by rw [e3]; rfl
      go_enter Tryz.func40, Tryz.ntmps40
      go_wp2_with fail
      refine (nan10_any _ _).mono ?_; rintro e w' ⟨rfl, rfl⟩
      go_wp2_with fail
      refine (nan10_any _ _).mono ?_; rintro e w' ⟨rfl, rfl⟩
      go_wp2_with fail
      go_ret;exact ⟨rfl, rfl⟩
end Go.Proofs.YtddlmigofilejaaGreat
namespace Go.Proofs.YtddlmigofilejaaGreat
open Go Go.RowKit Go.Shelf
open Go.Sort Go.Maps
open M
theorem cmpB_cases (a b : ByteArray) : (LtS a b /\ cmpB a b = -1) \/ (a = b /\ cmpB a b = 0) \/ (LtS b a /\ cmpB a b = 1) := by
 unfold cmpB
 rw [bless_lts, bless_lts]
 rcases lts_tri a b with h | h | h
 ·exact .inl ⟨h, by rw [if_pos (decide_eq_true h)]⟩
 ·subst h
  refine .inr (.inl ⟨rfl, ?_⟩);have h := decide_eq_false (lts_irrefl a);rw [h, if_neg (by decide), if_neg (by decide)]
 ·refine .inr (.inr ⟨h, ?_⟩)
  rw [decide_eq_false (fun e => lts_irrefl a (lts_trans e h) : ¬ LtS a b), decide_eq_true h, if_neg (by decide), if_pos rfl]
def BfOut {α : Type} (nm : α -> ByteArray) (l : List α) (s : ByteArray) (w : World) (e : Ending) (w' : World) : Prop :=
 ∃ (i : Nat) (b : Bool), e = .returned (.tuple #[.int .i64 i, .bool b]) /\ (b = true -> ∃ x, l[i]? = some x /\ nm x = s) /\ (b = false -> ∀ x ∈ l, nm x ≠ s) /\ Below w.heap.size w w'
theorem rise_ge {α : Type} {nm : α -> ByteArray} {l : List α} {s : ByteArray} (hr : Rising (l.map nm)) {h : Nat} {x : α} (hx : l[h]? = some x) (hls : ¬ LtS (nm x) s) : ∀ (q : Nat) (y : α), h <= q -> l[q]? = some y -> ¬ LtS (nm y) s := fun q y hq hy => by
 rcases Nat.lt_or_ge h q with c | c
 ·have h1 : (l.map nm)[h]? = some (nm x) := by rw [List.getElem?_map, hx]; rfl
  have h2 : (l.map nm)[q]? = some (nm y) := by rw [List.getElem?_map, hy]; rfl
  obtain ⟨k1, e1⟩ := List.getElem?_eq_some_iff.1 h1;obtain ⟨k2, e2⟩ := List.getElem?_eq_some_iff.1 h2;have := List.pairwise_iff_getElem.1 hr h q k1 k2 c
  rw [e1, e2] at this;exact fun hy => hls (lts_trans this hy)
 ·obtain rfl : q = h := by omega
  rw [hx] at hy; cases hy; exact hls
theorem rise_lt {α : Type} {nm : α -> ByteArray} {l : List α} {s : ByteArray} (hr : Rising (l.map nm)) {h : Nat} {x : α} (hx : l[h]? = some x) (hls : LtS (nm x) s) : ∀ (q : Nat) (y : α), q < h + 1 -> l[q]? = some y -> LtS (nm y) s := fun q y hq hy => by
 rcases Nat.lt_or_ge q h with c | c
 ·have h1 : (l.map nm)[h]? = some (nm x) := by rw [List.getElem?_map, hx]; rfl
  have h2 : (l.map nm)[q]? = some (nm y) := by rw [List.getElem?_map, hy]; rfl
  obtain ⟨k1, e1⟩ := List.getElem?_eq_some_iff.1 h1;obtain ⟨k2, e2⟩ := List.getElem?_eq_some_iff.1 h2;have := List.pairwise_iff_getElem.1 hr q h k2 k1 c
  rw [e1, e2] at this;exact lts_trans this hls
 ·obtain rfl : q = h := by omega
  rw [hx] at hy; cases hy; exact hls
theorem rise_no {α : Type} {nm : α -> ByteArray} {l : List α} {s : ByteArray} (hr : Rising (l.map nm)) {i : Nat} {x : α} (hl : ∀ (q : Nat) (y : α), q < i -> l[q]? = some y -> LtS (nm y) s) (hx : l[i]? = some x) (hg : ¬ LtS (nm x) s) (hne : nm x ≠ s) : ∀ y ∈ l, nm y ≠ s := fun y hy e => by
 obtain ⟨q, hq⟩ := List.getElem?_of_mem hy
 rcases Nat.lt_or_ge q i with c | c
 ·exact lts_irrefl _ (e ▸ hl q y c hq)
 ·rcases lts_tri (nm x) s with h | h | h
  ·exact hg h
  ·exact hne h
  ·have := rise_ge hr hx (fun e => lts_irrefl _ e : ¬ LtS (nm x) (nm x)) q y c hq
   exact this (e ▸ h)
theorem nameOfN_any (y : Nm) (Bn : Option Addr) (cB : Nat) (Bs : Option Addr) (dB : Nat) (w : World) : Calls Tryz.prog 42 #[.agg #[.string y.name, .int .i64 y.typ.kind, .string y.typ.pkg, .int .i64 y.typ.major, .string y.typ.mod, .string y.typ.name, .slice Bn y.typ.names.length cB, .slice Bs y.typ.subs.length dB]] w fun e w' => e = .returned (.string y.name) /\ Below w.heap.size w w' := by
 go_enter Tryz.func42, Tryz.ntmps42
 go_wp2_with fail
 go_ret
 exact ⟨rfl, below_new (Below.refl _ _) _⟩
theorem cloN_any (y : Nm) (Bn : Option Addr) (cB : Nat) (Bs : Option Addr) (dB : Nat) (s : ByteArray) (fb : Nat) (w : World) (hf : w.cell? ⟨fb, 0, none⟩ = some (.func (.func 42) #[] #[])) :
  Calls Tryz.prog 109 #[.agg #[.string y.name, .int .i64 y.typ.kind, .string y.typ.pkg, .int .i64 y.typ.major, .string y.typ.mod, .string y.typ.name, .slice Bn y.typ.names.length cB, .slice Bs y.typ.subs.length dB], .string s, .pointer (some ⟨fb, 0, none⟩)] w fun e w' => e = .returned (.int .i64 (cmpB y.name s)) /\ Below w.heap.size w w' := by
 obtain ⟨wb, hwb⟩ : ∃ wb, wb = w.alloc (.cells #[.string y.name, .int .i64 y.typ.kind, .string y.typ.pkg, .int .i64 y.typ.major, .string y.typ.mod, .string y.typ.name, .slice Bn y.typ.names.length cB, .slice Bs y.typ.subs.length dB] 52) := ⟨_, rfl⟩
 have B0 : Below w.heap.size w wb := by rw [hwb]; exact below_new (Below.refl _ _) _
 have X0 : wb.heap[w.heap.size]? = some (.cells #[.string y.name, .int .i64 y.typ.kind, .string y.typ.pkg, .int .i64 y.typ.major, .string y.typ.mod, .string y.typ.name, .slice Bn y.typ.names.length cB, .slice Bs y.typ.subs.length dB] 52 (0, 0)) := by rw [hwb]; exact heap_alloc_new w _
 obtain ⟨y0, y1, y2, y3, y4, y5, y6, y7⟩ := cq8 X0
 simp at y0 y1 y2 y3 y4 y5 y6 y7
 have f0 := (B0.cell (p := ⟨fb, 0, none⟩) (World.block_lt_of_cell? _ _ hf)).trans hf
 have NM := hZ (nameOfN_any y Bn cB Bs dB wb)
 have CB := hZ (compare10_any y.name s)
 have HB0 := hZ B0
 have HWB := hZ hwb
 obtain ⟨V, hV⟩ : ∃ V, V = cmpB y.name s := ⟨_, rfl⟩
 rw [<- hV] at CB ⊢
 clear hf hwb B0 X0 hV
 go_enter Tryz.func109, Tryz.ntmps109
 go_upto_region 1 with fail
 rw [<- HWB.out]
 go_wp2_with fail
 refine NM.out.mono ?_; rintro e w1 ⟨rfl, hb1⟩
 have HB1 := hZ (below_over HB0.out hb1)
 clear y0 y1 y2 y3 y4 y5 y6 y7 f0 hb1
 go_wp2_with fail
 refine (CB.out _).mono ?_; rintro e w2 ⟨rfl, rfl⟩
 go_wp2_with fail
 go_ret
 exact ⟨rfl, HB1.out⟩
theorem bsN_any (A : Option Addr) (c : Nat) (l : List Nm) (s : ByteArray) (fb : Nat) (w : World) (hR0 : RowIn nmR w A l) (hz : l.length <= 4611686018427387903) (hr : Rising (l.map (·.name))) (hf : w.cell? ⟨fb, 0, none⟩ = some (.func (.func 42) #[] #[])) :
  Calls Tryz.prog 108 #[.slice A l.length c, .string s, .func (.func 109) #[] #[.pointer (some ⟨fb, 0, none⟩)]] w (BfOut (·.name) l s w) := by
 have HNA := hZ hR0
 have HR := hZ hr
 have HF := hZ hf
 obtain ⟨n, hn⟩ : ∃ n, n = l.length := ⟨_, rfl⟩
 have HN := hZ hn
 rw [<- hn] at hz ⊢
 clear hn hR0 hr hf
 go_enter Tryz.func108, Tryz.ntmps108
 go_wp2_with fail
 go_loopw [9, 10] (fun s9 s10 wr => ∃ i j : Nat, i <= j /\ j <= n /\ s9 = .int .i64 i /\ s10 = .int .i64 j /\ Hid (∀ (q : Nat) (x : Nm), q < i -> l[q]? = some x -> LtS x.name s) /\ Hid (∀ (q : Nat) (x : Nm), j <= q -> l[q]? = some x -> ¬ LtS x.name s) /\ Hid (Below w.heap.size w wr)) (fun s9 s10 _ => (intOf s10).toNat - (intOf s9).toNat)
 case atStart => exact ⟨0, n, by omega, by omega, rfl, rfl, hZ (fun q x h => by omega), hZ (fun q x h hx => by have := (List.getElem?_eq_some_iff.1 hx).1; have := HN.out; omega), hZ (Below.refl _ _)⟩
 case round =>
  obtain ⟨i, j, hij, hj, rfl, rfl, HL, HG, HB⟩ := hrel;obtain ⟨wo, rfl⟩ : ∃ wo : World, wo = wr := ⟨_, rfl⟩;by_cases hlt : i < j
  ·have w1 : IntKind.i64.wrap ((i : Int) + j) = i + j := by rw [IntKind.wrap_i64]; omega
   have w2 : IntKind.u64.wrap ((i : Int) + j) = i + j := by rw [IntKind.wrap_u64]; omega
   have hlt' : (i : Int) < j := by omega
   obtain ⟨h, hh⟩ : ∃ h : Nat, h = (i + j) / 2 := ⟨_, rfl⟩;have hc : ((i : Int) + j) / 2 = (h : Int) := by omega
   have hih : i <= h := by omega
   have hhj : h < j := by omega
   have h0 : (0 : Int) <= h := by omega
   have h1 : (h : Int) < n := by omega
   obtain ⟨y, hx⟩ : ∃ x, l[h]? = some x := ⟨_, List.getElem?_eq_getElem (by rw [<- HN.out]; omega)⟩;obtain ⟨g, o, Bn, cB, Bs, dB, rfl, hg, a0, a1, a2, a3, a4, a5, a6, a7, -⟩ := (HNA.out.below HB.out).nm hx;have IM := hZ (cloN_any y Bn cB Bs dB s fb wo ((HB.out.cell (p := ⟨fb, 0, none⟩) (World.block_lt_of_cell? _ _ HF.out)).trans HF.out));have HX := hZ hx;clear hh hx hg;rcases cmpB_cases y.name s with ⟨hls, ec⟩ | ⟨hls, ec⟩ | ⟨hls, ec⟩
   ·have NL := hZ (rise_lt HR.out HX.out hls)
    rw [ec] at IM;clear ec hls;go_upto_region 5 with fail
    clear hc w1 w2 hlt';go_wp2_with fail
    refine IM.out.mono ?_; rintro e w3 ⟨rfl, hb3⟩
    have HB3 := hZ (below_over HB.out hb3);clear a0 a1 a2 a3 a4 a5 a6 a7 hb3 IM;have k1 : IntKind.i64.wrap ((h : Int) + 1) = ((h + 1 : Nat) : Int) := by rw [IntKind.wrap_i64]; omega
    go_wp2_with fail
    go_roundw
    case rel => exact ⟨h + 1, j, by omega, by omega, by first | rfl | go_num, rfl, NL, HG, HB3⟩
    case measure => simp [intOf]; omega
   ·have NG := hZ (rise_ge HR.out HX.out (show ¬ LtS y.name s from fun e => lts_irrefl _ (hls ▸ e)))
    rw [ec] at IM;clear ec hls;go_upto_region 5 with fail
    clear hc w1 w2 hlt';go_wp2_with fail
    refine IM.out.mono ?_; rintro e w3 ⟨rfl, hb3⟩
    have HB3 := hZ (below_over HB.out hb3);clear a0 a1 a2 a3 a4 a5 a6 a7 hb3 IM;go_wp2_with fail
    go_roundw
    case rel => exact ⟨i, h, hih, by omega, rfl, rfl, HL, NG, HB3⟩
    case measure => simp [intOf]; omega
   ·have NG := hZ (rise_ge HR.out HX.out (show ¬ LtS y.name s from fun e => lts_irrefl _ (lts_trans e hls)))
    rw [ec] at IM;clear ec hls;go_upto_region 5 with fail
    clear hc w1 w2 hlt';go_wp2_with fail
    refine IM.out.mono ?_; rintro e w3 ⟨rfl, hb3⟩
    have HB3 := hZ (below_over HB.out hb3);clear a0 a1 a2 a3 a4 a5 a6 a7 hb3 IM;go_wp2_with fail
    go_roundw
    case rel => exact ⟨i, h, hih, by omega, rfl, rfl, HL, NG, HB3⟩
    case measure => simp [intOf]; omega
  ·obtain rfl : i = j := by omega
   have hii : ¬ (i : Int) < i := by omega
   by_cases hin : i < n
   ·obtain ⟨y, hx⟩ : ∃ x, l[i]? = some x := ⟨_, List.getElem?_eq_getElem (by rw [<- HN.out]; exact hin)⟩
    obtain ⟨g, o, Bn, cB, Bs, dB, rfl, hg, a0, a1, a2, a3, a4, a5, a6, a7, -⟩ := (HNA.out.below HB.out).nm hx;have IM := hZ (cloN_any y Bn cB Bs dB s fb wo ((HB.out.cell (p := ⟨fb, 0, none⟩) (World.block_lt_of_cell? _ _ HF.out)).trans HF.out));have HX := hZ hx;have h0 : (0 : Int) <= i := by omega
    have h1 : (i : Int) < n := by omega
    clear hx hg;rcases cmpB_cases y.name s with ⟨hls, ec⟩ | ⟨hls, ec⟩ | ⟨hls, ec⟩
    ·exact absurd hls (HG.out i y (Nat.le_refl _) HX.out)
    ·have MEM : Hid (∃ x, l[i]? = some x /\ x.name = s) := hZ ⟨y, HX.out, hls⟩
     rw [ec] at IM;clear ec hls;go_wp2_with fail
     refine IM.out.mono ?_; rintro e w3 ⟨rfl, hb3⟩
     have HB3 := hZ (below_over HB.out hb3);clear a0 a1 a2 a3 a4 a5 a6 a7 hb3 IM;go_wp2_with fail
     (try simp only [Exit.inBlock, Exit.then])
     exact bodyPost_ret (results_tmp2 rfl _ _ _) rfl ⟨i, true, rfl, fun _ => MEM.out, fun h => (by cases h), HB3.out⟩
    ·have MEM : Hid (∀ x ∈ l, x.name ≠ s) := hZ (rise_no HR.out HL.out HX.out (HG.out i y (Nat.le_refl _) HX.out) (fun e => lts_irrefl _ (e ▸ hls)))
     rw [ec] at IM;clear ec hls;go_wp2_with fail
     refine IM.out.mono ?_; rintro e w3 ⟨rfl, hb3⟩
     have HB3 := hZ (below_over HB.out hb3);clear a0 a1 a2 a3 a4 a5 a6 a7 hb3 IM;go_wp2_with fail
     (try simp only [Exit.inBlock, Exit.then])
     exact bodyPost_ret (results_tmp2 rfl _ _ _) rfl ⟨i, false, rfl, fun h => (by cases h), fun _ => MEM.out, HB3.out⟩
   ·have h1 : ¬ (i : Int) < n := by omega
    have MEM : Hid (∀ x ∈ l, x.name ≠ s) := hZ (fun y hy e => by
     obtain ⟨q, hq⟩ := List.getElem?_of_mem hy;have hq1 := (List.getElem?_eq_some_iff.1 hq).1;exact lts_irrefl _ (e ▸ HL.out q y (by have := HN.out; omega) hq))
    go_wp2_with fail
    (try simp only [Exit.inBlock, Exit.then])
    exact bodyPost_ret (results_tmp2 rfl _ _ _) rfl ⟨i, false, rfl, fun h => (by cases h), fun _ => MEM.out, HB.out⟩
theorem nameOfI_any (y : If) (At : Option Addr) (ct : Nat) (Av : Option Addr) (cv : Nat) (w : World) : Calls Tryz.prog 20 #[.agg #[.string y.pkg, .int .i64 y.major, .string y.mod, .slice At y.types.length ct, .slice Av y.vals.length cv]] w fun e w' => e = .returned (.string y.mod) /\ Below w.heap.size w w' := by
 go_enter Tryz.func20, Tryz.ntmps20
 go_wp2_with fail
 go_ret
 exact ⟨rfl, below_new (Below.refl _ _) _⟩
theorem cloI_any (y : If) (At : Option Addr) (ct : Nat) (Av : Option Addr) (cv : Nat) (s : ByteArray) (fb : Nat) (w : World) (hf : w.cell? ⟨fb, 0, none⟩ = some (.func (.func 20) #[] #[])) :
  Calls Tryz.prog 39 #[.agg #[.string y.pkg, .int .i64 y.major, .string y.mod, .slice At y.types.length ct, .slice Av y.vals.length cv], .string s, .pointer (some ⟨fb, 0, none⟩)] w fun e w' => e = .returned (.int .i64 (cmpB y.mod s)) /\ Below w.heap.size w w' := by
 obtain ⟨wb, hwb⟩ : ∃ wb, wb = w.alloc (.cells #[.string y.pkg, .int .i64 y.major, .string y.mod, .slice At y.types.length ct, .slice Av y.vals.length cv] 44) := ⟨_, rfl⟩
 have B0 : Below w.heap.size w wb := by rw [hwb]; exact below_new (Below.refl _ _) _
 have X0 : wb.heap[w.heap.size]? = some (.cells #[.string y.pkg, .int .i64 y.major, .string y.mod, .slice At y.types.length ct, .slice Av y.vals.length cv] 44 (0, 0)) := by rw [hwb]; exact heap_alloc_new w _
 obtain ⟨y0, y1, y2, y3, y4⟩ := cq5 X0
 simp at y0 y1 y2 y3 y4
 have f0 := (B0.cell (p := ⟨fb, 0, none⟩) (World.block_lt_of_cell? _ _ hf)).trans hf
 have NM := hZ (nameOfI_any y At ct Av cv wb)
 have CB := hZ (compare10_any y.mod s)
 have HB0 := hZ B0
 have HWB := hZ hwb
 obtain ⟨V, hV⟩ : ∃ V, V = cmpB y.mod s := ⟨_, rfl⟩
 rw [<- hV] at CB ⊢
 clear hf hwb B0 X0 hV
 go_enter Tryz.func39, Tryz.ntmps39
 go_upto_region 1 with fail
 rw [<- HWB.out]
 go_wp2_with fail
 refine NM.out.mono ?_; rintro e w1 ⟨rfl, hb1⟩
 have HB1 := hZ (below_over HB0.out hb1)
 clear y0 y1 y2 y3 y4 f0 hb1
 go_wp2_with fail
 refine (CB.out _).mono ?_; rintro e w2 ⟨rfl, rfl⟩
 go_wp2_with fail
 go_ret
 exact ⟨rfl, HB1.out⟩
theorem bsI_any (A : Option Addr) (c : Nat) (l : List If) (s : ByteArray) (fb : Nat) (w : World) (hR0 : RowIn ifR w A l) (hz : l.length <= 4611686018427387903) (hr : Rising (l.map (·.mod))) (hf : w.cell? ⟨fb, 0, none⟩ = some (.func (.func 20) #[] #[])) :
  Calls Tryz.prog 38 #[.slice A l.length c, .string s, .func (.func 39) #[] #[.pointer (some ⟨fb, 0, none⟩)]] w (BfOut (·.mod) l s w) := by
 have HNA := hZ hR0
 have HR := hZ hr
 have HF := hZ hf
 obtain ⟨n, hn⟩ : ∃ n, n = l.length := ⟨_, rfl⟩
 have HN := hZ hn
 rw [<- hn] at hz ⊢
 clear hn hR0 hr hf
 go_enter Tryz.func38, Tryz.ntmps38
 go_wp2_with fail
 go_loopw [9, 10] (fun s9 s10 wr => ∃ i j : Nat, i <= j /\ j <= n /\ s9 = .int .i64 i /\ s10 = .int .i64 j /\ Hid (∀ (q : Nat) (x : If), q < i -> l[q]? = some x -> LtS x.mod s) /\ Hid (∀ (q : Nat) (x : If), j <= q -> l[q]? = some x -> ¬ LtS x.mod s) /\ Hid (Below w.heap.size w wr)) (fun s9 s10 _ => (intOf s10).toNat - (intOf s9).toNat)
 case atStart => exact ⟨0, n, by omega, by omega, rfl, rfl, hZ (fun q x h => by omega), hZ (fun q x h hx => by have := (List.getElem?_eq_some_iff.1 hx).1; have := HN.out; omega), hZ (Below.refl _ _)⟩
 case round =>
  obtain ⟨i, j, hij, hj, rfl, rfl, HL, HG, HB⟩ := hrel;obtain ⟨wo, rfl⟩ : ∃ wo : World, wo = wr := ⟨_, rfl⟩;by_cases hlt : i < j
  ·have w1 : IntKind.i64.wrap ((i : Int) + j) = i + j := by rw [IntKind.wrap_i64]; omega
   have w2 : IntKind.u64.wrap ((i : Int) + j) = i + j := by rw [IntKind.wrap_u64]; omega
   have hlt' : (i : Int) < j := by omega
   obtain ⟨h, hh⟩ : ∃ h : Nat, h = (i + j) / 2 := ⟨_, rfl⟩;have hc : ((i : Int) + j) / 2 = (h : Int) := by omega
   have hih : i <= h := by omega
   have hhj : h < j := by omega
   have h0 : (0 : Int) <= h := by omega
   have h1 : (h : Int) < n := by omega
   obtain ⟨y, hx⟩ : ∃ x, l[h]? = some x := ⟨_, List.getElem?_eq_getElem (by rw [<- HN.out]; omega)⟩;obtain ⟨g, o, At, ct, Av, cv, rfl, hg, a0, a1, a2, a3, a4, -⟩ := (HNA.out.below HB.out).ifc hx;have IM := hZ (cloI_any y At ct Av cv s fb wo ((HB.out.cell (p := ⟨fb, 0, none⟩) (World.block_lt_of_cell? _ _ HF.out)).trans HF.out));have HX := hZ hx;clear hh hx hg;rcases cmpB_cases y.mod s with ⟨hls, ec⟩ | ⟨hls, ec⟩ | ⟨hls, ec⟩
   ·have NL := hZ (rise_lt HR.out HX.out hls)
    rw [ec] at IM;clear ec hls;go_upto_region 5 with fail
    clear hc w1 w2 hlt';go_wp2_with fail
    refine IM.out.mono ?_; rintro e w3 ⟨rfl, hb3⟩
    have HB3 := hZ (below_over HB.out hb3);clear a0 a1 a2 a3 a4 hb3 IM;have k1 : IntKind.i64.wrap ((h : Int) + 1) = ((h + 1 : Nat) : Int) := by rw [IntKind.wrap_i64]; omega
    go_wp2_with fail
    go_roundw
    case rel => exact ⟨h + 1, j, by omega, by omega, by first | rfl | go_num, rfl, NL, HG, HB3⟩
    case measure => simp [intOf]; omega
   ·have NG := hZ (rise_ge HR.out HX.out (show ¬ LtS y.mod s from fun e => lts_irrefl _ (hls ▸ e)))
    rw [ec] at IM;clear ec hls;go_upto_region 5 with fail
    clear hc w1 w2 hlt';go_wp2_with fail
    refine IM.out.mono ?_; rintro e w3 ⟨rfl, hb3⟩
    have HB3 := hZ (below_over HB.out hb3);clear a0 a1 a2 a3 a4 hb3 IM;go_wp2_with fail
    go_roundw
    case rel => exact ⟨i, h, hih, by omega, rfl, rfl, HL, NG, HB3⟩
    case measure => simp [intOf]; omega
   ·have NG := hZ (rise_ge HR.out HX.out (show ¬ LtS y.mod s from fun e => lts_irrefl _ (lts_trans e hls)))
    rw [ec] at IM;clear ec hls;go_upto_region 5 with fail
    clear hc w1 w2 hlt';go_wp2_with fail
    refine IM.out.mono ?_; rintro e w3 ⟨rfl, hb3⟩
    have HB3 := hZ (below_over HB.out hb3);clear a0 a1 a2 a3 a4 hb3 IM;go_wp2_with fail
    go_roundw
    case rel => exact ⟨i, h, hih, by omega, rfl, rfl, HL, NG, HB3⟩
    case measure => simp [intOf]; omega
  ·obtain rfl : i = j := by omega
   have hii : ¬ (i : Int) < i := by omega
   by_cases hin : i < n
   ·obtain ⟨y, hx⟩ : ∃ x, l[i]? = some x := ⟨_, List.getElem?_eq_getElem (by rw [<- HN.out]; exact hin)⟩
    obtain ⟨g, o, At, ct, Av, cv, rfl, hg, a0, a1, a2, a3, a4, -⟩ := (HNA.out.below HB.out).ifc hx;have IM := hZ (cloI_any y At ct Av cv s fb wo ((HB.out.cell (p := ⟨fb, 0, none⟩) (World.block_lt_of_cell? _ _ HF.out)).trans HF.out));have HX := hZ hx;have h0 : (0 : Int) <= i := by omega
    have h1 : (i : Int) < n := by omega
    clear hx hg;rcases cmpB_cases y.mod s with ⟨hls, ec⟩ | ⟨hls, ec⟩ | ⟨hls, ec⟩
    ·exact absurd hls (HG.out i y (Nat.le_refl _) HX.out)
    ·have MEM : Hid (∃ x, l[i]? = some x /\ x.mod = s) := hZ ⟨y, HX.out, hls⟩
     rw [ec] at IM;clear ec hls;go_wp2_with fail
     refine IM.out.mono ?_; rintro e w3 ⟨rfl, hb3⟩
     have HB3 := hZ (below_over HB.out hb3);clear a0 a1 a2 a3 a4 hb3 IM;go_wp2_with fail
     (try simp only [Exit.inBlock, Exit.then])
     exact bodyPost_ret (results_tmp2 rfl _ _ _) rfl ⟨i, true, rfl, fun _ => MEM.out, fun h => (by cases h), HB3.out⟩
    ·have MEM : Hid (∀ x ∈ l, x.mod ≠ s) := hZ (rise_no HR.out HL.out HX.out (HG.out i y (Nat.le_refl _) HX.out) (fun e => lts_irrefl _ (e ▸ hls)))
     rw [ec] at IM;clear ec hls;go_wp2_with fail
     refine IM.out.mono ?_; rintro e w3 ⟨rfl, hb3⟩
     have HB3 := hZ (below_over HB.out hb3);clear a0 a1 a2 a3 a4 hb3 IM;go_wp2_with fail
     (try simp only [Exit.inBlock, Exit.then])
     exact bodyPost_ret (results_tmp2 rfl _ _ _) rfl ⟨i, false, rfl, fun h => (by cases h), fun _ => MEM.out, HB3.out⟩
   ·have h1 : ¬ (i : Int) < n := by omega
    have MEM : Hid (∀ x ∈ l, x.mod ≠ s) := hZ (fun y hy e => by
     obtain ⟨q, hq⟩ := List.getElem?_of_mem hy;have hq1 := (List.getElem?_eq_some_iff.1 hq).1;exact lts_irrefl _ (e ▸ HL.out q y (by have := HN.out; omega) hq))
    go_wp2_with fail
    (try simp only [Exit.inBlock, Exit.then])
    exact bodyPost_ret (results_tmp2 rfl _ _ _) rfl ⟨i, false, rfl, fun h => (by cases h), fun _ => MEM.out, HB.out⟩
end Go.Proofs.YtddlmigofilejaaGreat
