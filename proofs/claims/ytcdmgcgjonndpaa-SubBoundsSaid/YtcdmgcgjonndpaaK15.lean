/-
  
-/
import Derived.Test.YtcdmgcgjonndpaaK14
import Derived.Test.YtcdmgcgjonndpaaK10
namespace Go.Proofs.Ytcdmgcgjonndpaa
open Go Go.RowKit Go.Shelf
open Go.Sort
open M
theorem fit_ok9 : ∀ (N : Nat) (t : Ty), many t ≤ N → allOk t = true → fitT t := by
 intro N
 induction N with
 | zero => intro t h; have := many_pos t; omega
 | succ N ih =>
  intro t hN ha
  rw [allOk_eq, Bool.and_eq_true] at ha
  have ho := ha.1
  unfold ownOk at ho
  simp only [Bool.and_eq_true, decide_eq_true_eq] at ho
  have hs : fitL t.subs := (fitL_mem _).2 fun s hs => ih s (by have := manyL_mem _ _ hs; have := manyL_eq t; omega) ((allOkL_mem _).1 ha.2 s hs)
  have he : ∀ s : ByteArray, emptyB s = true → s.size ≤ 281474976710656 := fun s h => by
   unfold emptyB at h
   have := of_decide_eq_true h
   omega
  have hsm : ∀ s : ByteArray, smallB s.data.toList = true → s.size ≤ 281474976710656 := fun s h => by have := small_size h; omega
  have hgr : ∀ s : ByteArray, greatB s.data.toList = true → s.size ≤ 281474976710656 := fun s h => by have := great_size h; omega
  have hno : noMore t = true → t.pkg.size ≤ 281474976710656 ∧ t.mod.size ≤ 281474976710656 ∧ t.name.size ≤ 281474976710656 := fun h => by
   unfold noMore at h
   simp only [Bool.and_eq_true] at h
   exact ⟨he _ h.1.1.1, he _ h.1.2, he _ h.2⟩
  have hnm : ∀ k : Int, (k = 5 ∨ k = 6) → t.kind = k → ∀ s ∈ t.names, s.size ≤ 281474976710656 := fun k hk ek s hm => by
   obtain ⟨i, hi⟩ := List.getElem?_of_mem hm
   have hi' := (List.getElem?_eq_some_iff.1 hi).1
   have hb := (namesOk_iff _ _).1 ho.1.2 i hi'
   unfold badName at hb
   have en : nameAt t.names i = s := by unfold nameAt; simp [List.getD_eq_getElem?_getD, hi]
   rw [en, ek] at hb
   simp only [Bool.or_eq_false_iff] at hb
   rcases hk with rfl | rfl
   ·have := hb.1.1
    simp at this
    exact hsm s this
   ·have := hb.1.2
    simp at this
    exact hgr s this
  have key : (t.pkg.size ≤ 281474976710656 ∧ t.mod.size ≤ 281474976710656 ∧ t.name.size ≤ 281474976710656) ∧ t.names.length ≤ 200 ∧ ∀ s ∈ t.names, s.size ≤ 281474976710656 := by
   have hsh := ho.2
   have hno0 : t.names.length = 0 → t.names.length ≤ 200 ∧ ∀ s ∈ t.names, s.size ≤ 281474976710656 := fun h => ⟨by omega, fun s hs => by rw [List.length_eq_zero_iff.1 h] at hs; cases hs⟩
   unfold shapeOk at hsh
   split at hsh
   ·simp only [Bool.and_eq_true, decide_eq_true_eq] at hsh
    exact ⟨hno hsh.1.1, hno0 hsh.2⟩
   ·split at hsh
    ·simp only [Bool.and_eq_true, decide_eq_true_eq] at hsh
     exact ⟨hno hsh.1.1, hno0 hsh.2⟩
    ·split at hsh
     ·rename_i hk
      simp only [Bool.and_eq_true, decide_eq_true_eq] at hsh
      exact ⟨hno hsh.1, by omega, hnm 5 (.inl rfl) hk⟩
     ·split at hsh
      ·rename_i hk
       simp only [Bool.and_eq_true, decide_eq_true_eq] at hsh
       exact ⟨hno hsh.1.1, by omega, hnm 6 (.inr rfl) hk⟩
      ·split at hsh
       ·simp only [Bool.and_eq_true, decide_eq_true_eq] at hsh
        exact ⟨hno hsh.1.1, hno0 hsh.2⟩
       ·split at hsh
        ·simp only [Bool.and_eq_true, Bool.or_eq_true, decide_eq_true_eq] at hsh
         exact ⟨⟨he _ hsh.1.1.1.2, hsh.2.elim (hsm _) (he _), hgr _ hsh.1.2⟩, hno0 hsh.1.1.1.1.2⟩
        ·split at hsh
         ·simp only [Bool.and_eq_true, decide_eq_true_eq] at hsh
          exact ⟨⟨hsm _ hsh.1.1.1.1.2, hsm _ hsh.1.1.1.2, hgr _ hsh.1.1.2⟩, hno0 hsh.1.1.1.1.1.2⟩
         ·cases hsh
  cases t with
  | mk k p m d n ns ss =>
   unfold fitT
   exact ⟨⟨key.1.1, key.1.2.1, key.1.2.2, key.2.1, key.2.2⟩, hs⟩
theorem TyAt.full {S : Nat → Prop} {w : World} {l : List Value} {t : Ty} (h : TyAt (strike S w) l t) : TyAt w l t := h.cells (by rw [strike_size]; exact Nat.le_refl _) fun b o x hx => (strike_cell.1 hx).2
def okT (t : Ty) : Bool := mayT t && plainT t
theorem okT_good {t : Ty} (h : okT t = true) : GoodT t := by
 unfold okT at h
 rw [Bool.and_eq_true] at h
 exact good_of_may h.1 h.2
theorem mayT_many {t : Ty} (h : mayT t = true) : many t ≤ 500 := by
 unfold mayT at h
 simp only [Bool.and_eq_true, decide_eq_true_eq] at h
 exact h.1.2
theorem okT_many {t : Ty} (h : okT t = true) : many t ≤ 9000 := by
 unfold okT at h
 rw [Bool.and_eq_true] at h
 have := mayT_many h.1
 omega
def OpOut (up : Bool) (a b : Ty) (w : World) (e : Ending) (w' : World) : Prop :=
 ∃ (l : List Value) (q : Bool), e = .returned (.tuple #[.agg l.toArray, .bool q]) ∧ Below w.heap.size w w' ∧ ((q = true ∧ okT a = true ∧ okT b = true ∧ ∃ t, IsBnd up a b t ∧ TyAt w' l t) ∨ (q = false ∧ l = [.int .i64 0, .string ⟨#[]⟩, .int .i64 0, .string ⟨#[]⟩, .string ⟨#[]⟩, .slice none 0 0, .slice none 0 0] ∧ (okT a = true → okT b = true → NoBnd up a b)))
def TdOut (up : Bool) (a b : Ty) (w : World) (e : Ending) (w' : World) : Prop :=
 ∃ (l : List Value) (q : Bool), e = .returned (.tuple #[.agg l.toArray, .bool q]) ∧ Below w.heap.size w w' ∧ ((q = true ∧ okT a = true ∧ okT b = true ∧ ∃ t, IsBnd up a b t ∧ mayT t = true ∧ TyAt (strike (· < w.heap.size) w') l t) ∨ (q = false ∧ l = [.int .i64 0, .string ⟨#[]⟩, .int .i64 0, .string ⟨#[]⟩, .string ⟨#[]⟩, .slice none 0 0, .slice none 0 0] ∧ (okT a = true → okT b = true → ∀ t, IsBnd up a b t → mayT t = false)))
def BdAll (f : FuncId) (up : Bool) : Prop := ∀ (w0 : World) (a b : Ty), many a ≤ 9000 → many b ≤ 9000 → GoodT a → GoodT b → BdCall w0 f up a b
theorem join_all : BdAll 27 true := fun w0 a b h1 h2 ga gb => (joinmeet_any w0 _ a b (Nat.le_refl _) h1 h2 ga gb).1
theorem meet_all : BdAll 28 false := fun w0 a b h1 h2 ga gb => (joinmeet_any w0 _ a b (Nat.le_refl _) h1 h2 ga gb).2
theorem op_shape {up q : Bool} {a b : Ty} {w : World} {l : List Value} (h : (q = true ∧ okT a = true ∧ okT b = true ∧ ∃ t, IsBnd up a b t ∧ TyAt w l t) ∨ (q = false ∧ l = [.int .i64 0, .string ⟨#[]⟩, .int .i64 0, .string ⟨#[]⟩, .string ⟨#[]⟩, .slice none 0 0, .slice none 0 0] ∧ (okT a = true → okT b = true → NoBnd up a b))) : ∃ v, ShL l v := by
 rcases h with ⟨-, -, -, t, -, hT⟩ | ⟨-, rfl, -⟩
 ·obtain ⟨Fn, cF, Fs, dF, rfl, -⟩ := hT.parts
  exact ⟨t, Fn, cF, Fs, dF, rfl⟩
 ·exact ⟨zTy, none, 0, none, 0, rfl⟩
theorem td_shape {up q : Bool} {a b : Ty} {w : World} {S : Nat → Prop} {l : List Value} (h : (q = true ∧ okT a = true ∧ okT b = true ∧ ∃ t, IsBnd up a b t ∧ mayT t = true ∧ TyAt (strike S w) l t) ∨ (q = false ∧ l = [.int .i64 0, .string ⟨#[]⟩, .int .i64 0, .string ⟨#[]⟩, .string ⟨#[]⟩, .slice none 0 0, .slice none 0 0] ∧ (okT a = true → okT b = true → ∀ t, IsBnd up a b t → mayT t = false))) : ∃ v, ShL l v := by
 rcases h with ⟨-, -, -, t, -, -, hT⟩ | ⟨-, rfl, -⟩
 ·obtain ⟨Fn, cF, Fs, dF, rfl, -⟩ := hT.parts
  exact ⟨t, Fn, cF, Fs, dF, rfl⟩
 ·exact ⟨zTy, none, 0, none, 0, rfl⟩
set_option maxRecDepth 100000 in
set_option maxHeartbeats 16000000 in
theorem ofPlain_any (f : FuncId) (up : Bool) (hff : FnIn f) (hall : BdAll f up) (a b : Ty) (la lb : List Value) (w : World) (hTa : TyAt w la a) (hTb : TyAt w lb b) :
  Calls Try.prog 29 #[.agg la.toArray, .agg lb.toArray, .func (.func f) #[] #[]] w (OpOut up a b w) := by
 have HFF := Lib.hid hff
 have HALL := Lib.hid hall
 have HTa := Lib.hid hTa
 have HTb := Lib.hid hTb
 obtain ⟨An, cA, As, cS, rfl, -⟩ := hTa.parts
 obtain ⟨Bn, cB, Bs, cD, rfl, -⟩ := hTb.parts
 obtain ⟨W2, hW2, B2, O0, O1, hl2⟩ := two_boxes w #[.int .i64 a.kind, .string a.pkg, .int .i64 a.major, .string a.mod, .string a.name, .slice An a.names.length cA, .slice As a.subs.length cS] #[.int .i64 b.kind, .string b.pkg, .int .i64 b.major, .string b.mod, .string b.name, .slice Bn b.names.length cB, .slice Bs b.subs.length cD] 25 25
 have s2 : W2.heap.size = w.heap.size + 1 + 1 := by rw [hW2]; simp
 obtain ⟨W3, hW3⟩ : ∃ W3, W3 = W2.alloc (.cells #[.int .i64 0, .string ⟨#[]⟩, .int .i64 0, .string ⟨#[]⟩, .string ⟨#[]⟩, .slice none 0 0, .slice none 0 0] 25) := ⟨_, rfl⟩
 have B3 : Below W2.heap.size W2 W3 := by rw [hW3]; exact below_new (Below.refl _ _) _
 have s3 : W3.heap.size = w.heap.size + 1 + 1 + 1 := by rw [hW3]; simp [s2]
 have O2 : W3.heap[w.heap.size + 1 + 1]? = some (.cells #[.int .i64 0, .string ⟨#[]⟩, .int .i64 0, .string ⟨#[]⟩, .string ⟨#[]⟩, .slice none 0 0, .slice none 0 0] 25 (0, 0)) := by rw [hW3, ← s2]; exact heap_alloc_new W2 _
 have HB3 : Hid (Below w.heap.size w W3) := Lib.hid (below_over B2 B3)
 have HX0 : Hid (∀ wx, Below W3.heap.size W3 wx → wx.heap[w.heap.size]? = some (.cells #[.int .i64 a.kind, .string a.pkg, .int .i64 a.major, .string a.mod, .string a.name, .slice An a.names.length cA, .slice As a.subs.length cS] 25 (0, 0))) := Lib.hid (fun wx hb => (hb.block _ (by omega)).trans ((B3.block _ (by omega)).trans O0))
 have HX1 : Hid (∀ wx, Below W3.heap.size W3 wx → wx.heap[w.heap.size + 1]? = some (.cells #[.int .i64 b.kind, .string b.pkg, .int .i64 b.major, .string b.mod, .string b.name, .slice Bn b.names.length cB, .slice Bs b.subs.length cD] 25 (0, 0))) := Lib.hid (fun wx hb => (hb.block _ (by omega)).trans ((B3.block _ (by omega)).trans O1))
 have HR : Hid (∀ wx, Below W3.heap.size W3 wx → wx.heap[w.heap.size + 1 + 1]? = some (.cells #[.int .i64 0, .string ⟨#[]⟩, .int .i64 0, .string ⟨#[]⟩, .string ⟨#[]⟩, .slice none 0 0, .slice none 0 0] 25 (0, 0))) := Lib.hid (fun wx hb => (hb.block _ (by omega)).trans O2)
 have HW : Hid (((w.alloc (.cells #[.int .i64 a.kind, .string a.pkg, .int .i64 a.major, .string a.mod, .string a.name, .slice An a.names.length cA, .slice As a.subs.length cS] 25)).alloc (.cells #[.int .i64 b.kind, .string b.pkg, .int .i64 b.major, .string b.mod, .string b.name, .slice Bn b.names.length cB, .slice Bs b.subs.length cD] 25)).alloc (.cells #[.int .i64 0, .string ⟨#[]⟩, .int .i64 0, .string ⟨#[]⟩, .string ⟨#[]⟩, .slice none 0 0, .slice none 0 0] 25) = W3) := Lib.hid (by rw [hW3, hW2])
 have HS3 := Lib.hid s3
 have HAW : Hid (∀ wx, Below W3.heap.size W3 wx → TyAt wx [.int .i64 a.kind, .string a.pkg, .int .i64 a.major, .string a.mod, .string a.name, .slice An a.names.length cA, .slice As a.subs.length cS] a) := Lib.hid (fun wx hb => HTa.out.keep (below_over HB3.out hb))
 have HBW : Hid (∀ wx, Below W3.heap.size W3 wx → TyAt wx [.int .i64 b.kind, .string b.pkg, .int .i64 b.major, .string b.mod, .string b.name, .slice Bn b.names.length cB, .slice Bs b.subs.length cD] b) := Lib.hid (fun wx hb => HTb.out.keep (below_over HB3.out hb))
 have hrb : w.heap.size ≤ w.heap.size + 1 + 1 := by omega
 have X0 := HX0.out W3 (Below.refl _ _)
 have m0 := Lib.cell_of_heap X0 0
 have m1 := Lib.cell_of_heap X0 1
 have m2 := Lib.cell_of_heap X0 2
 have m3 := Lib.cell_of_heap X0 3
 have m4 := Lib.cell_of_heap X0 4
 have m5 := Lib.cell_of_heap X0 5
 have m6 := Lib.cell_of_heap X0 6
 simp at m0 m1 m2 m3 m4 m5 m6
 obtain ⟨p, hp⟩ : ∃ p, p = okT a := ⟨_, rfl⟩
 obtain ⟨q, hq⟩ : ∃ q, q = okT b := ⟨_, rfl⟩
 have HP := Lib.hid hp
 have HQ := Lib.hid hq
 have CA := Lib.hid (plainK_any a (.agg #[.int .i64 a.kind, .string a.pkg, .int .i64 a.major, .string a.mod, .string a.name, .slice An a.names.length cA, .slice As a.subs.length cS]) W3 ⟨_, rfl, HAW.out W3 (Below.refl _ _)⟩)
 have ep : (mayT a && plainT a) = p := hp.symm
 rw [ep] at CA
 clear hW2 hW3 B2 B3 O0 O1 O2 s2 s3 hl2 hTa hTb X0 hff hall hp hq ep
 go_enter Try.func29, Try.ntmps29
 go_upto_region 1 with fail
 rw [HW.out]
 clear HW
 go_wp2_with fail
 refine CA.out.mono ?_; rintro e w4 ⟨rfl, hb4⟩
 have HB4 := Lib.hid hb4
 clear m0 m1 m2 m3 m4 m5 m6 hb4 CA
 cases p with
 | false =>
  have X7 := HR.out w4 HB4.out
  have HX7 := Lib.hid X7
  have FIN : Hid (OpOut up a b w (.returned (.tuple #[.agg #[.int .i64 0, .string ⟨#[]⟩, .int .i64 0, .string ⟨#[]⟩, .string ⟨#[]⟩, .slice none 0 0, .slice none 0 0], .bool false])) (w4.setRow (w.heap.size + 1 + 1) #[.int .i64 0, .string ⟨#[]⟩, .int .i64 0, .string ⟨#[]⟩, .string ⟨#[]⟩, .slice none 0 0, .slice none 0 0])) := Lib.hid
   ⟨[.int .i64 0, .string ⟨#[]⟩, .int .i64 0, .string ⟨#[]⟩, .string ⟨#[]⟩, .slice none 0 0, .slice none 0 0], false, rfl, setRow_below (below_over HB3.out HB4.out) hrb _, .inr ⟨rfl, rfl, fun h => by rw [← HP.out] at h; cases h⟩⟩
  go_upto_region 2 with fail
  go_wp2_with (first | ((with_reducible refine wpList_putRow 25 (w.heap.size + 1 + 1) #[.int .i64 0, .string ⟨#[]⟩, .int .i64 0, .string ⟨#[]⟩, .string ⟨#[]⟩, .slice none 0 0, .slice none 0 0] _ _ X7 ?_ ?_ ?_ ?_ ?_ ?_); exact tySize; rfl; exact tyOne; (focus (first | (go_simp; done) | rfl)); (focus (first | (go_simp; done) | rfl))))
  exact ret_agg (fn := Try.f29) (vs := [.int .i64 0, .string ⟨#[]⟩, .int .i64 0, .string ⟨#[]⟩, .string ⟨#[]⟩, .slice none 0 0, .slice none 0 0]) (b := w.heap.size + 1 + 1) rfl rfl rfl Try.underlying25 (by kernel_rfl) (cell7 (setRow_heap _ (w.heap.size + 1 + 1) _ _ _ _ HX7.out)) rfl FIN.out
 | true =>
  have CB := Lib.hid (plainK_any b (.agg #[.int .i64 b.kind, .string b.pkg, .int .i64 b.major, .string b.mod, .string b.name, .slice Bn b.names.length cB, .slice Bs b.subs.length cD]) w4 ⟨_, rfl, HBW.out w4 HB4.out⟩)
  have eq' : (mayT b && plainT b) = q := HQ.out.symm
  rw [eq'] at CB
  have X1 := HX1.out w4 HB4.out
  have m0 := Lib.cell_of_heap X1 0
  have m1 := Lib.cell_of_heap X1 1
  have m2 := Lib.cell_of_heap X1 2
  have m3 := Lib.cell_of_heap X1 3
  have m4 := Lib.cell_of_heap X1 4
  have m5 := Lib.cell_of_heap X1 5
  have m6 := Lib.cell_of_heap X1 6
  simp at m0 m1 m2 m3 m4 m5 m6
  clear X1 eq'
  go_wp2_with fail
  refine CB.out.mono ?_; rintro e w5 ⟨rfl, hb5⟩
  have HB5 := Lib.hid (below_over HB4.out hb5)
  clear m0 m1 m2 m3 m4 m5 m6 hb5 CB
  cases q with
  | false =>
   have X7 := HR.out w5 HB5.out
   have HX7 := Lib.hid X7
   have FIN : Hid (OpOut up a b w (.returned (.tuple #[.agg #[.int .i64 0, .string ⟨#[]⟩, .int .i64 0, .string ⟨#[]⟩, .string ⟨#[]⟩, .slice none 0 0, .slice none 0 0], .bool false])) (w5.setRow (w.heap.size + 1 + 1) #[.int .i64 0, .string ⟨#[]⟩, .int .i64 0, .string ⟨#[]⟩, .string ⟨#[]⟩, .slice none 0 0, .slice none 0 0])) := Lib.hid
    ⟨[.int .i64 0, .string ⟨#[]⟩, .int .i64 0, .string ⟨#[]⟩, .string ⟨#[]⟩, .slice none 0 0, .slice none 0 0], false, rfl, setRow_below (below_over HB3.out HB5.out) hrb _, .inr ⟨rfl, rfl, fun _ h => by rw [← HQ.out] at h; cases h⟩⟩
   go_upto_region 2 with fail
   go_wp2_with (first | ((with_reducible refine wpList_putRow 25 (w.heap.size + 1 + 1) #[.int .i64 0, .string ⟨#[]⟩, .int .i64 0, .string ⟨#[]⟩, .string ⟨#[]⟩, .slice none 0 0, .slice none 0 0] _ _ X7 ?_ ?_ ?_ ?_ ?_ ?_); exact tySize; rfl; exact tyOne; (focus (first | (go_simp; done) | rfl)); (focus (first | (go_simp; done) | rfl))))
   exact ret_agg (fn := Try.f29) (vs := [.int .i64 0, .string ⟨#[]⟩, .int .i64 0, .string ⟨#[]⟩, .string ⟨#[]⟩, .slice none 0 0, .slice none 0 0]) (b := w.heap.size + 1 + 1) rfl rfl rfl Try.underlying25 (by kernel_rfl) (cell7 (setRow_heap _ (w.heap.size + 1 + 1) _ _ _ _ HX7.out)) rfl FIN.out
  | true =>
   have CT := Lib.hid (HALL.out w a b (okT_many HP.out.symm) (okT_many HQ.out.symm) (okT_good HP.out.symm) (okT_good HQ.out.symm) [.int .i64 a.kind, .string a.pkg, .int .i64 a.major, .string a.mod, .string a.name, .slice An a.names.length cA, .slice As a.subs.length cS] [.int .i64 b.kind, .string b.pkg, .int .i64 b.major, .string b.mod, .string b.name, .slice Bn b.names.length cB, .slice Bs b.subs.length cD] w5 HTa.out HTb.out (below_over HB3.out HB5.out))
   have X0 := HX0.out w5 HB5.out
   have X1 := HX1.out w5 HB5.out
   have m0 := Lib.cell_of_heap X0 0
   have m1 := Lib.cell_of_heap X0 1
   have m2 := Lib.cell_of_heap X0 2
   have m3 := Lib.cell_of_heap X0 3
   have m4 := Lib.cell_of_heap X0 4
   have m5 := Lib.cell_of_heap X0 5
   have m6 := Lib.cell_of_heap X0 6
   have n0 := Lib.cell_of_heap X1 0
   have n1 := Lib.cell_of_heap X1 1
   have n2 := Lib.cell_of_heap X1 2
   have n3 := Lib.cell_of_heap X1 3
   have n4 := Lib.cell_of_heap X1 4
   have n5 := Lib.cell_of_heap X1 5
   have n6 := Lib.cell_of_heap X1 6
   simp at m0 m1 m2 m3 m4 m5 m6 n0 n1 n2 n3 n4 n5 n6
   clear X0 X1
   go_upto_region 3 with fail
   go_wp2_with (first | (rw [HFF.out, Oper.upon_enter]; refine CT.out.mono ?_))
   rintro e w6 ⟨l, q, rfl, hb6, hcase⟩
   obtain ⟨v, Hn, cH, Hs, dH, rfl⟩ := bd_shape hcase
   have X7 := HR.out w6 (below_over HB5.out hb6)
   have HX7 := Lib.hid X7
   have FIN : Hid (OpOut up a b w (.returned (.tuple #[.agg #[.int .i64 v.kind, .string v.pkg, .int .i64 v.major, .string v.mod, .string v.name, .slice Hn v.names.length cH, .slice Hs v.subs.length dH], .bool q])) (w6.setRow (w.heap.size + 1 + 1) #[.int .i64 v.kind, .string v.pkg, .int .i64 v.major, .string v.mod, .string v.name, .slice Hn v.names.length cH, .slice Hs v.subs.length dH])) := Lib.hid (by
    refine ⟨[.int .i64 v.kind, .string v.pkg, .int .i64 v.major, .string v.mod, .string v.name, .slice Hn v.names.length cH, .slice Hs v.subs.length dH], q, rfl, setRow_below (below_over HB3.out (below_over HB5.out hb6)) hrb _, ?_⟩
    have hs := (below_over HB3.out HB5.out).size
    have hs3 := HS3.out
    have hs5 := HB5.out.size
    rcases hcase with ⟨h1, t, h2, hT⟩ | ⟨h1, h2, h3⟩
    ·exact .inl ⟨h1, HP.out.symm, HQ.out.symm, t, h2, (hT.move (S' := fun k => w.heap.size ≤ k ∧ k < w5.heap.size) (by rw [size_setRow]; exact Nat.le_refl _) fun k hk hS => ⟨hS, setRow_other _ _ _ _ (fun e => hS ⟨by omega, by omega⟩)⟩).full⟩
    ·exact .inr ⟨h1, h2, fun _ _ => h3⟩)
   clear hb6 hcase m0 m1 m2 m3 m4 m5 m6 n0 n1 n2 n3 n4 n5 n6
   go_wp2_with (first | ((with_reducible refine wpList_putRow 25 (w.heap.size + 1 + 1) #[.int .i64 v.kind, .string v.pkg, .int .i64 v.major, .string v.mod, .string v.name, .slice Hn v.names.length cH, .slice Hs v.subs.length dH] _ _ X7 ?_ ?_ ?_ ?_ ?_ ?_); exact tySize; rfl; exact tyOne; (focus (first | (go_simp; done) | rfl)); (focus (first | (go_simp; done) | rfl))))
   exact ret_agg (fn := Try.f29) (vs := [.int .i64 v.kind, .string v.pkg, .int .i64 v.major, .string v.mod, .string v.name, .slice Hn v.names.length cH, .slice Hs v.subs.length dH]) (b := w.heap.size + 1 + 1) rfl rfl rfl Try.underlying25 (by kernel_rfl) (cell7 (setRow_heap _ (w.heap.size + 1 + 1) _ _ _ _ HX7.out)) rfl FIN.out
set_option maxRecDepth 100000 in
set_option maxHeartbeats 16000000 in
theorem told9_any (f : FuncId) (up : Bool) (hff : FnIn f) (hall : BdAll f up) (a b : Ty) (la lb : List Value) (w : World) (hTa : TyAt w la a) (hTb : TyAt w lb b) :
  Calls Try.prog 26 #[.agg la.toArray, .agg lb.toArray, .func (.func f) #[] #[]] w (TdOut up a b w) := by
 have HTa := Lib.hid hTa
 have HTb := Lib.hid hTb
 obtain ⟨An, cA, As, cS, rfl, -⟩ := hTa.parts
 obtain ⟨Bn, cB, Bs, cD, rfl, -⟩ := hTb.parts
 obtain ⟨W2, hW2, B2, O0, O1, hl2⟩ := two_boxes w #[.int .i64 a.kind, .string a.pkg, .int .i64 a.major, .string a.mod, .string a.name, .slice An a.names.length cA, .slice As a.subs.length cS] #[.int .i64 b.kind, .string b.pkg, .int .i64 b.major, .string b.mod, .string b.name, .slice Bn b.names.length cB, .slice Bs b.subs.length cD] 25 25
 have s2 : W2.heap.size = w.heap.size + 1 + 1 := by rw [hW2]; simp
 obtain ⟨W3, hW3⟩ : ∃ W3, W3 = W2.alloc (.cells #[.int .i64 0, .string ⟨#[]⟩, .int .i64 0, .string ⟨#[]⟩, .string ⟨#[]⟩, .slice none 0 0, .slice none 0 0] 25) := ⟨_, rfl⟩
 have B3 : Below W2.heap.size W2 W3 := by rw [hW3]; exact below_new (Below.refl _ _) _
 have s3 : W3.heap.size = w.heap.size + 1 + 1 + 1 := by rw [hW3]; simp [s2]
 have O2 : W3.heap[w.heap.size + 1 + 1]? = some (.cells #[.int .i64 0, .string ⟨#[]⟩, .int .i64 0, .string ⟨#[]⟩, .string ⟨#[]⟩, .slice none 0 0, .slice none 0 0] 25 (0, 0)) := by rw [hW3, ← s2]; exact heap_alloc_new W2 _
 have HB3 : Hid (Below w.heap.size w W3) := Lib.hid (below_over B2 B3)
 have HX0 : Hid (∀ wx, Below W3.heap.size W3 wx → wx.heap[w.heap.size]? = some (.cells #[.int .i64 a.kind, .string a.pkg, .int .i64 a.major, .string a.mod, .string a.name, .slice An a.names.length cA, .slice As a.subs.length cS] 25 (0, 0))) := Lib.hid (fun wx hb => (hb.block _ (by omega)).trans ((B3.block _ (by omega)).trans O0))
 have HX1 : Hid (∀ wx, Below W3.heap.size W3 wx → wx.heap[w.heap.size + 1]? = some (.cells #[.int .i64 b.kind, .string b.pkg, .int .i64 b.major, .string b.mod, .string b.name, .slice Bn b.names.length cB, .slice Bs b.subs.length cD] 25 (0, 0))) := Lib.hid (fun wx hb => (hb.block _ (by omega)).trans ((B3.block _ (by omega)).trans O1))
 have HR : Hid (∀ wx, Below W3.heap.size W3 wx → wx.heap[w.heap.size + 1 + 1]? = some (.cells #[.int .i64 0, .string ⟨#[]⟩, .int .i64 0, .string ⟨#[]⟩, .string ⟨#[]⟩, .slice none 0 0, .slice none 0 0] 25 (0, 0))) := Lib.hid (fun wx hb => (hb.block _ (by omega)).trans O2)
 have HW : Hid (((w.alloc (.cells #[.int .i64 a.kind, .string a.pkg, .int .i64 a.major, .string a.mod, .string a.name, .slice An a.names.length cA, .slice As a.subs.length cS] 25)).alloc (.cells #[.int .i64 b.kind, .string b.pkg, .int .i64 b.major, .string b.mod, .string b.name, .slice Bn b.names.length cB, .slice Bs b.subs.length cD] 25)).alloc (.cells #[.int .i64 0, .string ⟨#[]⟩, .int .i64 0, .string ⟨#[]⟩, .string ⟨#[]⟩, .slice none 0 0, .slice none 0 0] 25) = W3) := Lib.hid (by rw [hW3, hW2])
 have HS3 := Lib.hid s3
 have HAW : Hid (∀ wx, Below W3.heap.size W3 wx → TyAt wx [.int .i64 a.kind, .string a.pkg, .int .i64 a.major, .string a.mod, .string a.name, .slice An a.names.length cA, .slice As a.subs.length cS] a) := Lib.hid (fun wx hb => HTa.out.keep (below_over HB3.out hb))
 have HBW : Hid (∀ wx, Below W3.heap.size W3 wx → TyAt wx [.int .i64 b.kind, .string b.pkg, .int .i64 b.major, .string b.mod, .string b.name, .slice Bn b.names.length cB, .slice Bs b.subs.length cD] b) := Lib.hid (fun wx hb => HTb.out.keep (below_over HB3.out hb))
 have hrb : w.heap.size ≤ w.heap.size + 1 + 1 := by omega
 have X0 := HX0.out W3 (Below.refl _ _)
 have m0 := Lib.cell_of_heap X0 0
 have m1 := Lib.cell_of_heap X0 1
 have m2 := Lib.cell_of_heap X0 2
 have m3 := Lib.cell_of_heap X0 3
 have m4 := Lib.cell_of_heap X0 4
 have m5 := Lib.cell_of_heap X0 5
 have m6 := Lib.cell_of_heap X0 6
 simp at m0 m1 m2 m3 m4 m5 m6
 have CA := Lib.hid (ofPlain_any f up hff hall a b [.int .i64 a.kind, .string a.pkg, .int .i64 a.major, .string a.mod, .string a.name, .slice An a.names.length cA, .slice As a.subs.length cS] [.int .i64 b.kind, .string b.pkg, .int .i64 b.major, .string b.mod, .string b.name, .slice Bn b.names.length cB, .slice Bs b.subs.length cD] W3 (HAW.out W3 (Below.refl _ _)) (HBW.out W3 (Below.refl _ _)))
 have X1 := HX1.out W3 (Below.refl _ _)
 have n0 := Lib.cell_of_heap X1 0
 have n1 := Lib.cell_of_heap X1 1
 have n2 := Lib.cell_of_heap X1 2
 have n3 := Lib.cell_of_heap X1 3
 have n4 := Lib.cell_of_heap X1 4
 have n5 := Lib.cell_of_heap X1 5
 have n6 := Lib.cell_of_heap X1 6
 simp at n0 n1 n2 n3 n4 n5 n6
 clear hW2 hW3 B2 B3 O0 O1 O2 s2 s3 hl2 hTa hTb X0 hff hall X1
 go_enter Try.func26, Try.ntmps26
 go_upto_region 1 with fail
 rw [HW.out]
 clear HW
 go_wp2_with fail
 refine CA.out.mono ?_; rintro e w4 ⟨l, q, rfl, hb4, hcase⟩
 obtain ⟨v, Hn, cH, Hs, dH, rfl⟩ := op_shape hcase
 clear m0 m1 m2 m3 m4 m5 m6 n0 n1 n2 n3 n4 n5 n6 CA
 obtain ⟨w5, hw5⟩ : ∃ w5, w5 = w4.alloc (.cells #[.int .i64 v.kind, .string v.pkg, .int .i64 v.major, .string v.mod, .string v.name, .slice Hn v.names.length cH, .slice Hs v.subs.length dH] 25) := ⟨_, rfl⟩
 have B45 : Below w4.heap.size w4 w5 := by rw [hw5]; exact below_new (Below.refl _ _) _
 have B5 : Below W3.heap.size W3 w5 := by rw [hw5]; exact below_new hb4 _
 have s5 : w5.heap.size = w4.heap.size + 1 := by rw [hw5]; simp
 have Y5 : w5.heap[w4.heap.size]? = some (.cells #[.int .i64 v.kind, .string v.pkg, .int .i64 v.major, .string v.mod, .string v.name, .slice Hn v.names.length cH, .slice Hs v.subs.length dH] 25 (0, 0)) := by rw [hw5]; exact heap_alloc_new w4 _
 have HW5 := Lib.hid hw5
 have HB5 := Lib.hid B5
 have HY5 : Hid (∀ wx, Below w5.heap.size w5 wx → wx.heap[w4.heap.size]? = some (.cells #[.int .i64 v.kind, .string v.pkg, .int .i64 v.major, .string v.mod, .string v.name, .slice Hn v.names.length cH, .slice Hs v.subs.length dH] 25 (0, 0))) := Lib.hid (fun wx hb => (hb.block _ (by omega)).trans Y5)
 have HC := Lib.hid hcase
 have HB45 := Lib.hid B45
 clear hw5 hb4 hcase B45 B5 Y5 s5
 cases q with
 | false =>
  have hno : okT a = true → okT b = true → NoBnd up a b := by
   rcases HC.out with ⟨h, -⟩ | ⟨-, -, h⟩
   ·cases h
   ·exact h
  have X7 := HR.out w5 HB5.out
  have HX7 := Lib.hid X7
  have FIN : Hid (TdOut up a b w (.returned (.tuple #[.agg #[.int .i64 0, .string ⟨#[]⟩, .int .i64 0, .string ⟨#[]⟩, .string ⟨#[]⟩, .slice none 0 0, .slice none 0 0], .bool false])) (w5.setRow (w.heap.size + 1 + 1) #[.int .i64 0, .string ⟨#[]⟩, .int .i64 0, .string ⟨#[]⟩, .string ⟨#[]⟩, .slice none 0 0, .slice none 0 0])) := Lib.hid
   ⟨[.int .i64 0, .string ⟨#[]⟩, .int .i64 0, .string ⟨#[]⟩, .string ⟨#[]⟩, .slice none 0 0, .slice none 0 0], false, rfl, setRow_below (below_over HB3.out HB5.out) hrb _, .inr ⟨rfl, rfl, fun h1 h2 t ht => (ht.not (hno h1 h2)).elim⟩⟩
  clear hno
  go_upto_region 3 with fail
  rw [← HW5.out]
  clear HW5
  go_wp2_with (first | ((with_reducible refine wpList_putRow 25 (w.heap.size + 1 + 1) #[.int .i64 0, .string ⟨#[]⟩, .int .i64 0, .string ⟨#[]⟩, .string ⟨#[]⟩, .slice none 0 0, .slice none 0 0] _ _ X7 ?_ ?_ ?_ ?_ ?_ ?_); exact tySize; rfl; exact tyOne; (focus (first | (go_simp; done) | rfl)); (focus (first | (go_simp; done) | rfl))))
  exact ret_agg (fn := Try.f26) (vs := [.int .i64 0, .string ⟨#[]⟩, .int .i64 0, .string ⟨#[]⟩, .string ⟨#[]⟩, .slice none 0 0, .slice none 0 0]) (b := w.heap.size + 1 + 1) rfl rfl rfl Try.underlying25 (by kernel_rfl) (cell7 (setRow_heap _ (w.heap.size + 1 + 1) _ _ _ _ HX7.out)) rfl FIN.out
 | true =>
  obtain ⟨ha, hb, t, hbd, hTt⟩ : okT a = true ∧ okT b = true ∧ ∃ t, IsBnd up a b t ∧ TyAt w4 [.int .i64 v.kind, .string v.pkg, .int .i64 v.major, .string v.mod, .string v.name, .slice Hn v.names.length cH, .slice Hs v.subs.length dH] t := by
   rcases HC.out with ⟨-, h1, h2, h3⟩ | ⟨h, -⟩
   ·exact ⟨h1, h2, h3⟩
   ·cases h
  have HOK := Lib.hid (And.intro ha hb)
  have HBD := Lib.hid hbd
  have HTT : Hid (∀ wx, Below w5.heap.size w5 wx → TyAt wx [.int .i64 v.kind, .string v.pkg, .int .i64 v.major, .string v.mod, .string v.name, .slice Hn v.names.length cH, .slice Hs v.subs.length dH] t) := Lib.hid (fun wx hw => hTt.keep (below_over HB45.out hw))
  obtain ⟨p, hp⟩ : ∃ p, p = mayT t := ⟨_, rfl⟩
  have HP := Lib.hid hp
  have CM := Lib.hid (mayK_any t (.agg #[.int .i64 v.kind, .string v.pkg, .int .i64 v.major, .string v.mod, .string v.name, .slice Hn v.names.length cH, .slice Hs v.subs.length dH]) w5 ⟨_, rfl, HTT.out w5 (Below.refl _ _)⟩)
  rw [← hp] at CM
  have Y5 := HY5.out w5 (Below.refl _ _)
  have m0 := Lib.cell_of_heap Y5 0
  have m1 := Lib.cell_of_heap Y5 1
  have m2 := Lib.cell_of_heap Y5 2
  have m3 := Lib.cell_of_heap Y5 3
  have m4 := Lib.cell_of_heap Y5 4
  have m5 := Lib.cell_of_heap Y5 5
  have m6 := Lib.cell_of_heap Y5 6
  simp at m0 m1 m2 m3 m4 m5 m6
  clear hp ha hb hbd hTt Y5
  go_upto_region 2 with fail
  rw [← HW5.out]
  clear HW5
  go_wp2_with fail
  refine CM.out.mono ?_; rintro e w6 ⟨rfl, hb6⟩
  have HB6 := Lib.hid hb6
  clear m0 m1 m2 m3 m4 m5 m6 hb6 CM
  cases p with
  | false =>
   have X7 := HR.out w6 (below_over HB5.out HB6.out)
   have HX7 := Lib.hid X7
   have FIN : Hid (TdOut up a b w (.returned (.tuple #[.agg #[.int .i64 0, .string ⟨#[]⟩, .int .i64 0, .string ⟨#[]⟩, .string ⟨#[]⟩, .slice none 0 0, .slice none 0 0], .bool false])) (w6.setRow (w.heap.size + 1 + 1) #[.int .i64 0, .string ⟨#[]⟩, .int .i64 0, .string ⟨#[]⟩, .string ⟨#[]⟩, .slice none 0 0, .slice none 0 0])) := Lib.hid
    ⟨[.int .i64 0, .string ⟨#[]⟩, .int .i64 0, .string ⟨#[]⟩, .string ⟨#[]⟩, .slice none 0 0, .slice none 0 0], false, rfl, setRow_below (below_over HB3.out (below_over HB5.out HB6.out)) hrb _, .inr ⟨rfl, rfl, fun _ _ t' ht' => by rw [← HBD.out.one ht']; exact HP.out.symm⟩⟩
   go_upto_region 3 with fail
   go_wp2_with (first | ((with_reducible refine wpList_putRow 25 (w.heap.size + 1 + 1) #[.int .i64 0, .string ⟨#[]⟩, .int .i64 0, .string ⟨#[]⟩, .string ⟨#[]⟩, .slice none 0 0, .slice none 0 0] _ _ X7 ?_ ?_ ?_ ?_ ?_ ?_); exact tySize; rfl; exact tyOne; (focus (first | (go_simp; done) | rfl)); (focus (first | (go_simp; done) | rfl))))
   exact ret_agg (fn := Try.f26) (vs := [.int .i64 0, .string ⟨#[]⟩, .int .i64 0, .string ⟨#[]⟩, .string ⟨#[]⟩, .slice none 0 0, .slice none 0 0]) (b := w.heap.size + 1 + 1) rfl rfl rfl Try.underlying25 (by kernel_rfl) (cell7 (setRow_heap _ (w.heap.size + 1 + 1) _ _ _ _ HX7.out)) rfl FIN.out
  | true =>
   have hmt := HP.out.symm
   have CF := Lib.hid (fresh_any t (by have := mayT_many hmt; omega) (fit_ok9 _ t (Nat.le_refl _) (by unfold mayT at hmt; simp only [Bool.and_eq_true] at hmt; exact hmt.1.1)) [.int .i64 v.kind, .string v.pkg, .int .i64 v.major, .string v.mod, .string v.name, .slice Hn v.names.length cH, .slice Hs v.subs.length dH] w6 (HTT.out w6 HB6.out))
   have Y5 := HY5.out w6 HB6.out
   have m0 := Lib.cell_of_heap Y5 0
   have m1 := Lib.cell_of_heap Y5 1
   have m2 := Lib.cell_of_heap Y5 2
   have m3 := Lib.cell_of_heap Y5 3
   have m4 := Lib.cell_of_heap Y5 4
   have m5 := Lib.cell_of_heap Y5 5
   have m6 := Lib.cell_of_heap Y5 6
   simp at m0 m1 m2 m3 m4 m5 m6
   clear hmt Y5
   go_wp2_with fail
   refine CF.out.mono ?_; rintro e w7 ⟨l, rfl, hT7, hb7⟩
   obtain ⟨Fn, cF, Fs, dF, rfl, -⟩ := hT7.parts
   have HB7 := Lib.hid (below_over HB5.out (below_over HB6.out hb7))
   have X7 := HR.out w7 HB7.out
   have HX7 := Lib.hid X7
   have FIN : Hid (TdOut up a b w (.returned (.tuple #[.agg #[.int .i64 t.kind, .string t.pkg, .int .i64 t.major, .string t.mod, .string t.name, .slice Fn t.names.length cF, .slice Fs t.subs.length dF], .bool true])) (w7.setRow (w.heap.size + 1 + 1) #[.int .i64 t.kind, .string t.pkg, .int .i64 t.major, .string t.mod, .string t.name, .slice Fn t.names.length cF, .slice Fs t.subs.length dF])) := Lib.hid (by
    have h6 := (below_over HB3.out (below_over HB5.out HB6.out)).size
    have h5 := (below_over HB5.out HB6.out).size
    have h3 := HS3.out
    exact ⟨[.int .i64 t.kind, .string t.pkg, .int .i64 t.major, .string t.mod, .string t.name, .slice Fn t.names.length cF, .slice Fs t.subs.length dF], true, rfl, setRow_below (below_over HB3.out HB7.out) hrb _, .inl ⟨rfl, HOK.out.1, HOK.out.2, t, HBD.out, HP.out.symm, hT7.move (by rw [size_setRow]; exact Nat.le_refl _) fun k hk hS => ⟨fun e => hS (by show k < w6.heap.size; have : k < w.heap.size := e; omega), setRow_other _ _ _ _ (fun e => hS (by show k < w6.heap.size; omega))⟩⟩⟩)
   clear m0 m1 m2 m3 m4 m5 m6 CF hT7 hb7
   go_wp2_with (first | ((with_reducible refine wpList_putRow 25 (w.heap.size + 1 + 1) #[.int .i64 t.kind, .string t.pkg, .int .i64 t.major, .string t.mod, .string t.name, .slice Fn t.names.length cF, .slice Fs t.subs.length dF] _ _ X7 ?_ ?_ ?_ ?_ ?_ ?_); exact tySize; rfl; exact tyOne; (focus (first | (go_simp; done) | rfl)); (focus (first | (go_simp; done) | rfl))))
   exact ret_agg (fn := Try.f26) (vs := [.int .i64 t.kind, .string t.pkg, .int .i64 t.major, .string t.mod, .string t.name, .slice Fn t.names.length cF, .slice Fs t.subs.length dF]) (b := w.heap.size + 1 + 1) rfl rfl rfl Try.underlying25 (by kernel_rfl) (cell7 (setRow_heap _ (w.heap.size + 1 + 1) _ _ _ _ HX7.out)) rfl FIN.out
set_option maxRecDepth 100000 in
set_option maxHeartbeats 16000000 in
theorem Join_any9 (a b : Ty) (la lb : List Value) (w : World) (hTa : TyAt w la a) (hTb : TyAt w lb b) :
  Calls Try.prog 13 #[.agg la.toArray, .agg lb.toArray] w (TdOut true a b w) := by
 have HTa := Lib.hid hTa
 have HTb := Lib.hid hTb
 obtain ⟨An, cA, As, cS, rfl, -⟩ := hTa.parts
 obtain ⟨Bn, cB, Bs, cD, rfl, -⟩ := hTb.parts
 obtain ⟨W2, hW2, B2, O0, O1, hl2⟩ := two_boxes w #[.int .i64 a.kind, .string a.pkg, .int .i64 a.major, .string a.mod, .string a.name, .slice An a.names.length cA, .slice As a.subs.length cS] #[.int .i64 b.kind, .string b.pkg, .int .i64 b.major, .string b.mod, .string b.name, .slice Bn b.names.length cB, .slice Bs b.subs.length cD] 25 25
 have s2 : W2.heap.size = w.heap.size + 1 + 1 := by rw [hW2]; simp
 obtain ⟨W3, hW3⟩ : ∃ W3, W3 = W2.alloc (.cells #[.int .i64 0, .string ⟨#[]⟩, .int .i64 0, .string ⟨#[]⟩, .string ⟨#[]⟩, .slice none 0 0, .slice none 0 0] 25) := ⟨_, rfl⟩
 have B3 : Below W2.heap.size W2 W3 := by rw [hW3]; exact below_new (Below.refl _ _) _
 have s3 : W3.heap.size = w.heap.size + 1 + 1 + 1 := by rw [hW3]; simp [s2]
 have O2 : W3.heap[w.heap.size + 1 + 1]? = some (.cells #[.int .i64 0, .string ⟨#[]⟩, .int .i64 0, .string ⟨#[]⟩, .string ⟨#[]⟩, .slice none 0 0, .slice none 0 0] 25 (0, 0)) := by rw [hW3, ← s2]; exact heap_alloc_new W2 _
 have HB3 : Hid (Below w.heap.size w W3) := Lib.hid (below_over B2 B3)
 have HX0 : Hid (∀ wx, Below W3.heap.size W3 wx → wx.heap[w.heap.size]? = some (.cells #[.int .i64 a.kind, .string a.pkg, .int .i64 a.major, .string a.mod, .string a.name, .slice An a.names.length cA, .slice As a.subs.length cS] 25 (0, 0))) := Lib.hid (fun wx hb => (hb.block _ (by omega)).trans ((B3.block _ (by omega)).trans O0))
 have HX1 : Hid (∀ wx, Below W3.heap.size W3 wx → wx.heap[w.heap.size + 1]? = some (.cells #[.int .i64 b.kind, .string b.pkg, .int .i64 b.major, .string b.mod, .string b.name, .slice Bn b.names.length cB, .slice Bs b.subs.length cD] 25 (0, 0))) := Lib.hid (fun wx hb => (hb.block _ (by omega)).trans ((B3.block _ (by omega)).trans O1))
 have HR : Hid (∀ wx, Below W3.heap.size W3 wx → wx.heap[w.heap.size + 1 + 1]? = some (.cells #[.int .i64 0, .string ⟨#[]⟩, .int .i64 0, .string ⟨#[]⟩, .string ⟨#[]⟩, .slice none 0 0, .slice none 0 0] 25 (0, 0))) := Lib.hid (fun wx hb => (hb.block _ (by omega)).trans O2)
 have HW : Hid (((w.alloc (.cells #[.int .i64 a.kind, .string a.pkg, .int .i64 a.major, .string a.mod, .string a.name, .slice An a.names.length cA, .slice As a.subs.length cS] 25)).alloc (.cells #[.int .i64 b.kind, .string b.pkg, .int .i64 b.major, .string b.mod, .string b.name, .slice Bn b.names.length cB, .slice Bs b.subs.length cD] 25)).alloc (.cells #[.int .i64 0, .string ⟨#[]⟩, .int .i64 0, .string ⟨#[]⟩, .string ⟨#[]⟩, .slice none 0 0, .slice none 0 0] 25) = W3) := Lib.hid (by rw [hW3, hW2])
 have HS3 := Lib.hid s3
 have HAW : Hid (∀ wx, Below W3.heap.size W3 wx → TyAt wx [.int .i64 a.kind, .string a.pkg, .int .i64 a.major, .string a.mod, .string a.name, .slice An a.names.length cA, .slice As a.subs.length cS] a) := Lib.hid (fun wx hb => HTa.out.keep (below_over HB3.out hb))
 have HBW : Hid (∀ wx, Below W3.heap.size W3 wx → TyAt wx [.int .i64 b.kind, .string b.pkg, .int .i64 b.major, .string b.mod, .string b.name, .slice Bn b.names.length cB, .slice Bs b.subs.length cD] b) := Lib.hid (fun wx hb => HTb.out.keep (below_over HB3.out hb))
 have hrb : w.heap.size ≤ w.heap.size + 1 + 1 := by omega
 have X0 := HX0.out W3 (Below.refl _ _)
 have m0 := Lib.cell_of_heap X0 0
 have m1 := Lib.cell_of_heap X0 1
 have m2 := Lib.cell_of_heap X0 2
 have m3 := Lib.cell_of_heap X0 3
 have m4 := Lib.cell_of_heap X0 4
 have m5 := Lib.cell_of_heap X0 5
 have m6 := Lib.cell_of_heap X0 6
 simp at m0 m1 m2 m3 m4 m5 m6
 have CA := Lib.hid (told9_any _ true fnin_join join_all a b [.int .i64 a.kind, .string a.pkg, .int .i64 a.major, .string a.mod, .string a.name, .slice An a.names.length cA, .slice As a.subs.length cS] [.int .i64 b.kind, .string b.pkg, .int .i64 b.major, .string b.mod, .string b.name, .slice Bn b.names.length cB, .slice Bs b.subs.length cD] W3 (HAW.out W3 (Below.refl _ _)) (HBW.out W3 (Below.refl _ _)))
 have X1 := HX1.out W3 (Below.refl _ _)
 have n0 := Lib.cell_of_heap X1 0
 have n1 := Lib.cell_of_heap X1 1
 have n2 := Lib.cell_of_heap X1 2
 have n3 := Lib.cell_of_heap X1 3
 have n4 := Lib.cell_of_heap X1 4
 have n5 := Lib.cell_of_heap X1 5
 have n6 := Lib.cell_of_heap X1 6
 simp at n0 n1 n2 n3 n4 n5 n6
 clear hW2 hW3 B2 B3 O0 O1 O2 s2 s3 hl2 hTa hTb X0 X1
 go_enter Try.func13, Try.ntmps13
 go_upto_region 1 with fail
 rw [HW.out]
 clear HW
 go_wp2_with fail
 refine CA.out.mono ?_; rintro e w4 ⟨l, q, rfl, hb4, hcase⟩
 obtain ⟨v, Hn, cH, Hs, dH, rfl⟩ := td_shape hcase
 have X7 := HR.out w4 hb4
 have HX7 := Lib.hid X7
 have FIN : Hid (TdOut true a b w (.returned (.tuple #[.agg #[.int .i64 v.kind, .string v.pkg, .int .i64 v.major, .string v.mod, .string v.name, .slice Hn v.names.length cH, .slice Hs v.subs.length dH], .bool q])) (w4.setRow (w.heap.size + 1 + 1) #[.int .i64 v.kind, .string v.pkg, .int .i64 v.major, .string v.mod, .string v.name, .slice Hn v.names.length cH, .slice Hs v.subs.length dH])) := Lib.hid (by
  have h3 := HS3.out
  refine ⟨[.int .i64 v.kind, .string v.pkg, .int .i64 v.major, .string v.mod, .string v.name, .slice Hn v.names.length cH, .slice Hs v.subs.length dH], q, rfl, setRow_below (below_over HB3.out hb4) hrb _, ?_⟩
  rcases hcase with ⟨h1, h2, h4, t, h5, h6, hT⟩ | h
  ·exact .inl ⟨h1, h2, h4, t, h5, h6, hT.move (by rw [size_setRow]; exact Nat.le_refl _) fun k hk hS => ⟨fun e => hS (by show k < W3.heap.size; have : k < w.heap.size := e; omega), setRow_other _ _ _ _ (fun e => hS (by show k < W3.heap.size; omega))⟩⟩
  ·exact .inr h)
 clear m0 m1 m2 m3 m4 m5 m6 n0 n1 n2 n3 n4 n5 n6 CA hb4 hcase
 go_wp2_with (first | ((with_reducible refine wpList_putRow 25 (w.heap.size + 1 + 1) #[.int .i64 v.kind, .string v.pkg, .int .i64 v.major, .string v.mod, .string v.name, .slice Hn v.names.length cH, .slice Hs v.subs.length dH] _ _ X7 ?_ ?_ ?_ ?_ ?_ ?_); exact tySize; rfl; exact tyOne; (focus (first | (go_simp; done) | rfl)); (focus (first | (go_simp; done) | rfl))))
 exact ret_agg (fn := Try.f13) (vs := [.int .i64 v.kind, .string v.pkg, .int .i64 v.major, .string v.mod, .string v.name, .slice Hn v.names.length cH, .slice Hs v.subs.length dH]) (b := w.heap.size + 1 + 1) rfl rfl rfl Try.underlying25 (by kernel_rfl) (cell7 (setRow_heap _ (w.heap.size + 1 + 1) _ _ _ _ HX7.out)) rfl FIN.out
set_option maxRecDepth 100000 in
set_option maxHeartbeats 16000000 in
theorem Meet_any9 (a b : Ty) (la lb : List Value) (w : World) (hTa : TyAt w la a) (hTb : TyAt w lb b) :
  Calls Try.prog 14 #[.agg la.toArray, .agg lb.toArray] w (TdOut false a b w) := by
 have HTa := Lib.hid hTa
 have HTb := Lib.hid hTb
 obtain ⟨An, cA, As, cS, rfl, -⟩ := hTa.parts
 obtain ⟨Bn, cB, Bs, cD, rfl, -⟩ := hTb.parts
 obtain ⟨W2, hW2, B2, O0, O1, hl2⟩ := two_boxes w #[.int .i64 a.kind, .string a.pkg, .int .i64 a.major, .string a.mod, .string a.name, .slice An a.names.length cA, .slice As a.subs.length cS] #[.int .i64 b.kind, .string b.pkg, .int .i64 b.major, .string b.mod, .string b.name, .slice Bn b.names.length cB, .slice Bs b.subs.length cD] 25 25
 have s2 : W2.heap.size = w.heap.size + 1 + 1 := by rw [hW2]; simp
 obtain ⟨W3, hW3⟩ : ∃ W3, W3 = W2.alloc (.cells #[.int .i64 0, .string ⟨#[]⟩, .int .i64 0, .string ⟨#[]⟩, .string ⟨#[]⟩, .slice none 0 0, .slice none 0 0] 25) := ⟨_, rfl⟩
 have B3 : Below W2.heap.size W2 W3 := by rw [hW3]; exact below_new (Below.refl _ _) _
 have s3 : W3.heap.size = w.heap.size + 1 + 1 + 1 := by rw [hW3]; simp [s2]
 have O2 : W3.heap[w.heap.size + 1 + 1]? = some (.cells #[.int .i64 0, .string ⟨#[]⟩, .int .i64 0, .string ⟨#[]⟩, .string ⟨#[]⟩, .slice none 0 0, .slice none 0 0] 25 (0, 0)) := by rw [hW3, ← s2]; exact heap_alloc_new W2 _
 have HB3 : Hid (Below w.heap.size w W3) := Lib.hid (below_over B2 B3)
 have HX0 : Hid (∀ wx, Below W3.heap.size W3 wx → wx.heap[w.heap.size]? = some (.cells #[.int .i64 a.kind, .string a.pkg, .int .i64 a.major, .string a.mod, .string a.name, .slice An a.names.length cA, .slice As a.subs.length cS] 25 (0, 0))) := Lib.hid (fun wx hb => (hb.block _ (by omega)).trans ((B3.block _ (by omega)).trans O0))
 have HX1 : Hid (∀ wx, Below W3.heap.size W3 wx → wx.heap[w.heap.size + 1]? = some (.cells #[.int .i64 b.kind, .string b.pkg, .int .i64 b.major, .string b.mod, .string b.name, .slice Bn b.names.length cB, .slice Bs b.subs.length cD] 25 (0, 0))) := Lib.hid (fun wx hb => (hb.block _ (by omega)).trans ((B3.block _ (by omega)).trans O1))
 have HR : Hid (∀ wx, Below W3.heap.size W3 wx → wx.heap[w.heap.size + 1 + 1]? = some (.cells #[.int .i64 0, .string ⟨#[]⟩, .int .i64 0, .string ⟨#[]⟩, .string ⟨#[]⟩, .slice none 0 0, .slice none 0 0] 25 (0, 0))) := Lib.hid (fun wx hb => (hb.block _ (by omega)).trans O2)
 have HW : Hid (((w.alloc (.cells #[.int .i64 a.kind, .string a.pkg, .int .i64 a.major, .string a.mod, .string a.name, .slice An a.names.length cA, .slice As a.subs.length cS] 25)).alloc (.cells #[.int .i64 b.kind, .string b.pkg, .int .i64 b.major, .string b.mod, .string b.name, .slice Bn b.names.length cB, .slice Bs b.subs.length cD] 25)).alloc (.cells #[.int .i64 0, .string ⟨#[]⟩, .int .i64 0, .string ⟨#[]⟩, .string ⟨#[]⟩, .slice none 0 0, .slice none 0 0] 25) = W3) := Lib.hid (by rw [hW3, hW2])
 have HS3 := Lib.hid s3
 have HAW : Hid (∀ wx, Below W3.heap.size W3 wx → TyAt wx [.int .i64 a.kind, .string a.pkg, .int .i64 a.major, .string a.mod, .string a.name, .slice An a.names.length cA, .slice As a.subs.length cS] a) := Lib.hid (fun wx hb => HTa.out.keep (below_over HB3.out hb))
 have HBW : Hid (∀ wx, Below W3.heap.size W3 wx → TyAt wx [.int .i64 b.kind, .string b.pkg, .int .i64 b.major, .string b.mod, .string b.name, .slice Bn b.names.length cB, .slice Bs b.subs.length cD] b) := Lib.hid (fun wx hb => HTb.out.keep (below_over HB3.out hb))
 have hrb : w.heap.size ≤ w.heap.size + 1 + 1 := by omega
 have X0 := HX0.out W3 (Below.refl _ _)
 have m0 := Lib.cell_of_heap X0 0
 have m1 := Lib.cell_of_heap X0 1
 have m2 := Lib.cell_of_heap X0 2
 have m3 := Lib.cell_of_heap X0 3
 have m4 := Lib.cell_of_heap X0 4
 have m5 := Lib.cell_of_heap X0 5
 have m6 := Lib.cell_of_heap X0 6
 simp at m0 m1 m2 m3 m4 m5 m6
 have CA := Lib.hid (told9_any _ false fnin_meet meet_all a b [.int .i64 a.kind, .string a.pkg, .int .i64 a.major, .string a.mod, .string a.name, .slice An a.names.length cA, .slice As a.subs.length cS] [.int .i64 b.kind, .string b.pkg, .int .i64 b.major, .string b.mod, .string b.name, .slice Bn b.names.length cB, .slice Bs b.subs.length cD] W3 (HAW.out W3 (Below.refl _ _)) (HBW.out W3 (Below.refl _ _)))
 have X1 := HX1.out W3 (Below.refl _ _)
 have n0 := Lib.cell_of_heap X1 0
 have n1 := Lib.cell_of_heap X1 1
 have n2 := Lib.cell_of_heap X1 2
 have n3 := Lib.cell_of_heap X1 3
 have n4 := Lib.cell_of_heap X1 4
 have n5 := Lib.cell_of_heap X1 5
 have n6 := Lib.cell_of_heap X1 6
 simp at n0 n1 n2 n3 n4 n5 n6
 clear hW2 hW3 B2 B3 O0 O1 O2 s2 s3 hl2 hTa hTb X0 X1
 go_enter Try.func14, Try.ntmps14
 go_upto_region 1 with fail
 rw [HW.out]
 clear HW
 go_wp2_with fail
 refine CA.out.mono ?_; rintro e w4 ⟨l, q, rfl, hb4, hcase⟩
 obtain ⟨v, Hn, cH, Hs, dH, rfl⟩ := td_shape hcase
 have X7 := HR.out w4 hb4
 have HX7 := Lib.hid X7
 have FIN : Hid (TdOut false a b w (.returned (.tuple #[.agg #[.int .i64 v.kind, .string v.pkg, .int .i64 v.major, .string v.mod, .string v.name, .slice Hn v.names.length cH, .slice Hs v.subs.length dH], .bool q])) (w4.setRow (w.heap.size + 1 + 1) #[.int .i64 v.kind, .string v.pkg, .int .i64 v.major, .string v.mod, .string v.name, .slice Hn v.names.length cH, .slice Hs v.subs.length dH])) := Lib.hid (by
  have h3 := HS3.out
  refine ⟨[.int .i64 v.kind, .string v.pkg, .int .i64 v.major, .string v.mod, .string v.name, .slice Hn v.names.length cH, .slice Hs v.subs.length dH], q, rfl, setRow_below (below_over HB3.out hb4) hrb _, ?_⟩
  rcases hcase with ⟨h1, h2, h4, t, h5, h6, hT⟩ | h
  ·exact .inl ⟨h1, h2, h4, t, h5, h6, hT.move (by rw [size_setRow]; exact Nat.le_refl _) fun k hk hS => ⟨fun e => hS (by show k < W3.heap.size; have : k < w.heap.size := e; omega), setRow_other _ _ _ _ (fun e => hS (by show k < W3.heap.size; omega))⟩⟩
  ·exact .inr h)
 clear m0 m1 m2 m3 m4 m5 m6 n0 n1 n2 n3 n4 n5 n6 CA hb4 hcase
 go_wp2_with (first | ((with_reducible refine wpList_putRow 25 (w.heap.size + 1 + 1) #[.int .i64 v.kind, .string v.pkg, .int .i64 v.major, .string v.mod, .string v.name, .slice Hn v.names.length cH, .slice Hs v.subs.length dH] _ _ X7 ?_ ?_ ?_ ?_ ?_ ?_); exact tySize; rfl; exact tyOne; (focus (first | (go_simp; done) | rfl)); (focus (first | (go_simp; done) | rfl))))
 exact ret_agg (fn := Try.f14) (vs := [.int .i64 v.kind, .string v.pkg, .int .i64 v.major, .string v.mod, .string v.name, .slice Hn v.names.length cH, .slice Hs v.subs.length dH]) (b := w.heap.size + 1 + 1) rfl rfl rfl Try.underlying25 (by kernel_rfl) (cell7 (setRow_heap _ (w.heap.size + 1 + 1) _ _ _ _ HX7.out)) rfl FIN.out
set_option maxRecDepth 100000 in
set_option maxHeartbeats 16000000 in
theorem Joins_any9 (a b : Ty) (la lb : List Value) (w : World) (hTa : TyAt w la a) (hTb : TyAt w lb b) :
  Calls Try.prog 15 #[.agg la.toArray, .agg lb.toArray] w fun e w' => ∃ q, e = .returned (.bool q) ∧ (q = true → okT a = true ∧ okT b = true ∧ ∃ t, IsBnd true a b t) ∧ (q = false → okT a = true → okT b = true → NoBnd true a b) ∧ Below w.heap.size w w' := by
 have HTa := Lib.hid hTa
 have HTb := Lib.hid hTb
 obtain ⟨An, cA, As, cS, rfl, -⟩ := hTa.parts
 obtain ⟨Bn, cB, Bs, cD, rfl, -⟩ := hTb.parts
 obtain ⟨W2, hW2, B2, O0, O1, hl2⟩ := two_boxes w #[.int .i64 a.kind, .string a.pkg, .int .i64 a.major, .string a.mod, .string a.name, .slice An a.names.length cA, .slice As a.subs.length cS] #[.int .i64 b.kind, .string b.pkg, .int .i64 b.major, .string b.mod, .string b.name, .slice Bn b.names.length cB, .slice Bs b.subs.length cD] 25 25
 have s2 : W2.heap.size = w.heap.size + 1 + 1 := by rw [hW2]; simp
 have HB2 := Lib.hid B2
 have CA := Lib.hid (ofPlain_any _ true fnin_join join_all a b [.int .i64 a.kind, .string a.pkg, .int .i64 a.major, .string a.mod, .string a.name, .slice An a.names.length cA, .slice As a.subs.length cS] [.int .i64 b.kind, .string b.pkg, .int .i64 b.major, .string b.mod, .string b.name, .slice Bn b.names.length cB, .slice Bs b.subs.length cD] W2 (HTa.out.keep B2) (HTb.out.keep B2))
 have HW := Lib.hid hW2
 have m0 := Lib.cell_of_heap O0 0
 have m1 := Lib.cell_of_heap O0 1
 have m2 := Lib.cell_of_heap O0 2
 have m3 := Lib.cell_of_heap O0 3
 have m4 := Lib.cell_of_heap O0 4
 have m5 := Lib.cell_of_heap O0 5
 have m6 := Lib.cell_of_heap O0 6
 have n0 := Lib.cell_of_heap O1 0
 have n1 := Lib.cell_of_heap O1 1
 have n2 := Lib.cell_of_heap O1 2
 have n3 := Lib.cell_of_heap O1 3
 have n4 := Lib.cell_of_heap O1 4
 have n5 := Lib.cell_of_heap O1 5
 have n6 := Lib.cell_of_heap O1 6
 simp at m0 m1 m2 m3 m4 m5 m6 n0 n1 n2 n3 n4 n5 n6
 clear hW2 B2 O0 O1 s2 hl2 hTa hTb
 go_enter Try.func15, Try.ntmps15
 go_upto_region 1 with fail
 rw [← HW.out]
 clear HW
 go_wp2_with fail
 refine CA.out.mono ?_; rintro e w4 ⟨l, q, rfl, hb4, hcase⟩
 obtain ⟨v, Hn, cH, Hs, dH, rfl⟩ := op_shape hcase
 have FIN : Hid ((q = true → okT a = true ∧ okT b = true ∧ ∃ t, IsBnd true a b t) ∧ (q = false → okT a = true → okT b = true → NoBnd true a b) ∧ Below w.heap.size w (w4.alloc (.cells #[.int .i64 v.kind, .string v.pkg, .int .i64 v.major, .string v.mod, .string v.name, .slice Hn v.names.length cH, .slice Hs v.subs.length dH] 25))) := Lib.hid (by
  refine ⟨fun h => ?_, fun h => ?_, below_new (below_over HB2.out hb4) _⟩
  ·subst h
   rcases hcase with ⟨-, h1, h2, t, h3, -⟩ | ⟨h, -⟩
   ·exact ⟨h1, h2, t, h3⟩
   ·cases h
  ·subst h
   rcases hcase with ⟨h, -⟩ | ⟨-, -, h⟩
   ·cases h
   ·exact h)
 clear m0 m1 m2 m3 m4 m5 m6 n0 n1 n2 n3 n4 n5 n6 CA hb4 hcase
 go_wp2_with fail
 go_ret
 exact ⟨q, rfl, FIN.out.1, FIN.out.2.1, FIN.out.2.2⟩
end Go.Proofs.Ytcdmgcgjonndpaa
