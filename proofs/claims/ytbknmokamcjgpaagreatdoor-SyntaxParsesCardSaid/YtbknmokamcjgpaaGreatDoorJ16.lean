/-
  Several texts in one: The code's fields in memory: names with types, that grow in new memory; whether a name is among them. · The code's field: a name and its type.
-/
import Derived.Test.YtbknmokamcjgpaaGreatDoorJ14
import Derived.Test.YtbknmokamcjgpaaGreatDoorJ15
import Derived.LoopTactic
/- The code's fields in memory: names with types, that grow in new memory; whether a name is among them. -/
namespace Go.Proofs.YtbknmokamcjgpaaGreatDoor
open Go.RowKit
open Go.Sort
open M

/-- A name with a type, as its eight cells are. -/
structure Nv where
  s : ByteArray
  k : Int
  p : ByteArray
  m : Int
  d : ByteArray
  n : ByteArray
  A5 : Option Addr
  n5 : Nat
  c5 : Nat
  A6 : Option Addr
  n6 : Nat
  c6 : Nat
instance : Inhabited Nv := ⟨⟨⟨#[]⟩, 0, ⟨#[]⟩, 0, ⟨#[]⟩, ⟨#[]⟩, none, 0, 0, none, 0, 0⟩⟩
def Nv.ty (x : Nv) : List Value := [.int .i64 x.k, .string x.p, .int .i64 x.m, .string x.d, .string x.n, .slice x.A5 x.n5 x.c5, .slice x.A6 x.n6 x.c6]
def Nv.enc (x : Nv) : List Value := [.string x.s, .int .i64 x.k, .string x.p, .int .i64 x.m, .string x.d, .string x.n, .slice x.A5 x.n5 x.c5, .slice x.A6 x.n6 x.c6]
theorem Nv.len (x : Nv) : x.enc.length = 8 := rfl
theorem Nv.one (x : Nv) : ∀ v ∈ x.enc, v.oneCell' = true := fun v hv => by
  simp [Nv.enc] at hv
  rcases hv with rfl | rfl | rfl | rfl | rfl | rfl | rfl | rfl <;> rfl
abbrev Nt := Nv × Ty
def rowN (P : List Nt) : List Value := (P.map (fun x => x.1.enc)).flatten
theorem rowN_snoc (P : List Nt) (x : Nt) : rowN (P ++ [x]) = rowN P ++ x.1.enc := by unfold rowN; simp
theorem rowN_len : ∀ P : List Nt, (rowN P).length = P.length * 8
  | [] => rfl
  | x :: P => by
    have := rowN_len P
    unfold rowN at this ⊢
    rw [List.map_cons, List.flatten_cons, List.length_append, this, x.1.len, List.length_cons]; omega
theorem rowN_at : ∀ (P : List Nt) (i q : Nat) (x : Nt), P[i]? = some x → q < 8 → (rowN P)[i * 8 + q]? = x.1.enc[q]?
  | [], i, q, x, h, _ => by simp at h
  | y :: P, 0, q, x, h, hq => by
    simp at h; subst h
    unfold rowN
    rw [List.map_cons, List.flatten_cons, List.getElem?_append_left (by rw [y.1.len]; omega)]
    simp
  | y :: P, i + 1, q, x, h, hq => by
    have h' : P[i]? = some x := by simpa using h
    have := rowN_at P i q x h' hq
    unfold rowN at this ⊢
    rw [List.map_cons, List.flatten_cons, List.getElem?_append_right (by rw [y.1.len]; omega), y.1.len, show (i + 1) * 8 + q - 8 = i * 8 + q by omega]
    exact this
/-- What they are to the document: names with types. -/
def fdOf (P : List Nt) : List FdT := P.map (fun x => (x.1.s, x.2))
theorem fdOf_snoc (P : List Nt) (x : Nt) : fdOf (P ++ [x]) = fdOf P ++ [(x.1.s, x.2)] := by unfold fdOf; simp
theorem fdOf_len (P : List Nt) : (fdOf P).length = P.length := by unfold fdOf; simp

/-- Fields that grow in new memory. -/
structure NmR (lo : Nat) (P : List Nt) (n : Nat) (v : Value) (w : World) : Prop where
  len : P.length = n
  own : w.ownsRow lo 184 8 v n (rowN P)
  szs : ∀ x, x ∈ P → x.1.s.size ≤ 281474976710656
  trees : ∀ x, x ∈ P → TyAt (strike (fun b => b < lo ∨ v.ownBlock = some b) w) x.1.ty x.2
theorem NmR.start (lo : Nat) (w : World) : NmR lo [] 0 (.slice none 0 0) w := ⟨rfl, World.ownsRow_nil _ _ _ _, fun x h => by simp at h, fun x h => by simp at h⟩
theorem NmR.keep {lo : Nat} {P : List Nt} {n : Nat} {v : Value} {w w' : World} (h : NmR lo P n v w) (hz : w.heap.size ≤ w'.heap.size) (hb : ∀ b, lo ≤ b → b < w.heap.size → w'.heap[b]? = w.heap[b]?) : NmR lo P n v w' :=
  ⟨h.len, own_from h.own hb, h.szs, fun x hx => (h.trees x hx).move hz fun b hlt hS => ⟨hS, hb b (by
    rcases Nat.lt_or_ge b lo with h | h
    · exact absurd (.inl h) hS
    · exact h) hlt⟩⟩
theorem NmR.lower {lo lo' : Nat} {P : List Nt} {n : Nat} {v : Value} {w : World} (h : NmR lo P n v w) (hl : lo' ≤ lo) : NmR lo' P n v w :=
  ⟨h.len, own_lower h.own hl, h.szs, fun x hx => (h.trees x hx).move (Nat.le_refl _) fun b _ hS => ⟨fun e => hS (by
    rcases e with e | e
    · exact .inl (by omega)
    · exact .inr e), rfl⟩⟩
theorem NmR.first {lo g : Nat} {x : Nt} {w : World} (hlo : lo ≤ g) (hg : w.heap[g]? = some (.cells x.1.enc.toArray 184 (0, 0))) (hs : x.1.s.size ≤ 281474976710656) (hT : TyAt (strike (fun b => b < lo ∨ b = g) w) x.1.ty x.2) :
    NmR lo [x] 1 (.slice (some ⟨g, 0, none⟩) 1 1) w := by
  refine ⟨rfl, ⟨by simp [rowN, x.1.len], .inr ⟨g, 1, x.1.enc.toArray, rfl, hlo, hg, Nat.le_refl _, by decide, by simp [x.1.len], ?_⟩⟩, fun y hy => by simp at hy; subst hy; exact hs, fun y hy => ?_⟩
  · simp [rowN, ← x.1.len]
  · simp at hy; subst hy
    refine TyAt.move hT (Nat.le_refl _) fun b _ hS => ⟨?_, rfl⟩
    rintro (e | e)
    · exact hS (.inl e)
    · simp [Value.ownBlock] at e; exact hS (.inr e.symm)
/-- One more. -/
theorem NmR.moreK {cu r lo g cap n : Nat} {P : List Nt} {v : Value} {w wo w1 w3 : World} {o : Obj} {x : Nt}
    (h : NmR lo P n v w1) (hlo : lo ≤ wo.heap.size) (hwo : ∀ b, v.ownBlock = some b → b < wo.heap.size) (hs : x.1.s.size ≤ 281474976710656)
    (hT : TyAt (strike (· < wo.heap.size) w1) x.1.ty x.2) (hown : w3.ownsRow lo 184 8 (.slice (some ⟨g, 0, none⟩) (n + 1) cap) (n + 1) (rowN P ++ x.1.enc)) (hgrow : (w1.alloc o).grownBy w3 v.ownBlock)
    (hat : v.ownBlock = some g ∨ g = (w1.alloc o).heap.size) (hK : KQ cu r w w1) (hw : w.heap.size ≤ lo) :
    NmR lo (P ++ [x]) (n + 1) (.slice (some ⟨g, 0, none⟩) (n + 1) cap) w3 ∧ KQ cu r w w3 ∧ (∀ b, b < lo → b < w1.heap.size → w3.heap[b]? = w1.heap[b]?) ∧
    (∀ b, (∀ vs fr, w1.heap[b]? ≠ some (Obj.cells vs 184 fr)) → b < w1.heap.size → w3.heap[b]? = w1.heap[b]?) ∧ w1.heap.size ≤ w3.heap.size := by
  have hlow : ∀ b, v.ownBlock = some b → lo ≤ b := fun b e => (h.own.lt b e).1
  have hsz : (w1.alloc o).heap.size = w1.heap.size + 1 := by simp
  have hsz3 := hgrow.size
  have hold : ∀ b, b < w1.heap.size → v.ownBlock ≠ some b → w3.heap[b]? = w1.heap[b]? := fun b hb hne => by
    rw [hgrow.block b (by omega) (fun e => hne e.symm)]
    exact Lib.alloc_old w1 o b hb
  have mv : ∀ l t, TyAt (strike (fun b => b < lo ∨ v.ownBlock = some b) w1) l t → TyAt (strike (fun b => b < lo ∨ (Value.slice (some ⟨g, 0, none⟩) (n + 1) cap).ownBlock = some b) w3) l t := fun l t hT => by
    refine TyAt.move hT (by omega) fun b hb hS => ⟨?_, hold b hb (fun e => hS (.inr e))⟩
    rintro (e | e)
    · exact hS (.inl e)
    · simp [Value.ownBlock] at e
      subst e
      rcases hat with e | e
      · exact hS (.inr e)
      · omega
  refine ⟨⟨by simp [h.len], by rw [rowN_snoc]; exact hown, fun y hy => ?_, fun y hy => mv _ _ ?_⟩, (hK.alloc o).grow hgrow fun b e => by have := hlow b e; omega, fun b hb hlt => hold b hlt (fun e => by have := hlow b e; omega), fun b hb hlt => hold b hlt (fun e => ?_), by omega⟩
  · rcases List.mem_append.1 hy with hy | hy
    · exact h.szs y hy
    · rw [List.mem_singleton.1 hy]; exact hs
  · rcases List.mem_append.1 hy with hy | hy
    · exact h.trees y hy
    · rw [List.mem_singleton.1 hy]
      refine TyAt.move hT (Nat.le_refl _) fun b hlt hS => ⟨?_, rfl⟩
      rintro (e | e)
      · omega
      · have := hwo b e; omega
  · rcases h.own.2 with ⟨e1, -⟩ | ⟨g6, cap6, cur6, hv, -, hg6, -⟩
    · rw [e1] at e; simp [Value.ownBlock] at e
    · rw [hv] at e; simp [Value.ownBlock] at e
      subst e
      exact hb _ _ hg6
/-- Where its cells lie. -/
theorem NmR.cell {lo : Nat} {P : List Nt} {n : Nat} {v : Value} {w : World} (h : NmR lo P n v w) : ∃ A cap, v = .slice A n cap ∧
    ∀ k x, P[k]? = some x → ∃ g, A = some ⟨g, 0, none⟩ ∧ lo ≤ g ∧ g < w.heap.size ∧ ∀ q u, x.1.enc[q]? = some u → w.cell? ⟨g, 0 + k * 8 + q, none⟩ = some u := by
  have hl := h.len
  rcases h.own.2 with ⟨rfl, h0⟩ | ⟨g, cap, cur, rfl, hB, hg, hnc, hcm, hcs, htake⟩
  · subst h0
    exact ⟨none, 0, rfl, fun k x hx => by have := (List.getElem?_eq_some_iff.1 hx).1; omega⟩
  · refine ⟨_, _, rfl, fun k x hx => ⟨g, rfl, hB, (Array.getElem?_eq_some_iff.1 hg).1, fun q u hu => ?_⟩⟩
    have hk := (List.getElem?_eq_some_iff.1 hx).1
    have hq : q < 8 := by have := (List.getElem?_eq_some_iff.1 hu).1; rwa [x.1.len] at this
    rw [Lib.cell_of_heap hg, ← Array.getElem?_toList]
    have e2 := rowN_at P k q x hx hq
    rw [← htake, List.getElem?_take] at e2
    split at e2
    · rw [show 0 + k * 8 + q = k * 8 + q by omega, e2]; exact hu
    · rename_i hn; omega

/-- The closure of field: is a name this one? -/
theorem clos_any (x : Nv) (t : ByteArray) (B : Nat) (w : World) (hB : w.cell? ⟨B, 2, none⟩ = some (.string t)) :
    Calls Tryz.prog 169 #[.agg #[.string x.s, .int .i64 x.k, .string x.p, .int .i64 x.m, .string x.d, .string x.n, .slice x.A5 x.n5 x.c5, .slice x.A6 x.n6 x.c6], .pointer (some ⟨B, 0, none⟩)] w fun e w' => e = .returned (.bool (x.s.data.toList == t.data.toList)) ∧ Below w.heap.size w w' := by
  obtain ⟨u, hu⟩ : ∃ u, (x.s.data.toList == t.data.toList) = u := ⟨_, rfl⟩
  have R : Hid ((x.s.toList == t.toList) = u) := Lib.hid (by rw [← hu, Lib.toList_data, Lib.toList_data])
  rw [hu]
  clear hu
  have hlt := World.block_lt_of_cell? _ _ hB
  have hne : B ≠ w.heap.size := Nat.ne_of_lt hlt
  go_enter Tryz.func169, Tryz.ntmps169
  go_wp2_with fail
  go_ret
  exact ⟨by rw [← R.out]; rfl, below_new (Below.refl _ _) _⟩

set_option maxRecDepth 100000 in
set_option maxHeartbeats 1000000 in
theorem index_named (A : Option Addr) (cap n : Nat) (P : List Nt) (t : ByteArray) (B : Nat) (w : World) (hn : P.length = n) (hz : n ≤ 1000000)
    (hS : ∀ k x, P[k]? = some x → ∃ g, A = some ⟨g, 0, none⟩ ∧ g < w.heap.size ∧ ∀ q u, x.1.enc[q]? = some u → w.cell? ⟨g, 0 + k * 8 + q, none⟩ = some u) (hB : w.cell? ⟨B, 2, none⟩ = some (.string t)) :
    Calls Tryz.prog 181 #[.slice A n cap, .func (.func 169) #[] #[.pointer (some ⟨B, 0, none⟩)]] w fun e w' =>
      ∃ r : Int, e = .returned (.int .i64 r) ∧ decide (0 ≤ r) = P.any (fun x => x.1.s.data.toList == t.data.toList) ∧ Below w.heap.size w w' := by
  have HS : Hid (∀ k x, P[k]? = some x → ∃ g o, A = some ⟨g, o, none⟩ ∧ g < w.heap.size ∧ ∀ q u, x.1.enc[q]? = some u → w.cell? ⟨g, o + k * 8 + q, none⟩ = some u) := Lib.hid (fun k x hx => by
    obtain ⟨g, h1, h2, h3⟩ := hS k x hx
    exact ⟨g, 0, h1, h2, h3⟩)
  have HN := Lib.hid hn
  have HB := Lib.hid hB
  have hBl := World.block_lt_of_cell? _ _ hB
  have eg : ∀ args w, (callFunc 169 args).run Tryz.prog w = .ok (.enter 169 args) w := enters_of Tryz.func169 (by kernel_rfl) rfl
  clear hS hn hB
  go_enter Tryz.func181, Tryz.ntmps181
  go_wp2_with fail
  go_loopw [8] (fun i wr => ∃ k : Nat, k ≤ n ∧ i = .int .i64 k ∧ Hid (∀ j x, j < k → P[j]? = some x → (x.1.s.data.toList == t.data.toList) = false) ∧ Below w.heap.size w wr) (fun i _ => n - (intOf i).toNat)
  case atStart => exact ⟨0, by omega, rfl, Lib.hid (fun j s h => by omega), Below.refl _ _⟩
  case round =>
    obtain ⟨k, hk, rfl, HP, hb⟩ := hrel
    obtain ⟨wo, rfl⟩ : ∃ wo : World, wo = wr := ⟨_, rfl⟩
    by_cases hlt : k < n
    · obtain ⟨x, hs⟩ : ∃ x, P[k]? = some x := ⟨_, List.getElem?_eq_getElem (by rw [HN.out]; exact hlt)⟩
      obtain ⟨g, o, rfl, hgl, hcs⟩ := HS.out k x hs
      have cc : ∀ q u, x.1.enc[q]? = some u → wo.cell? ⟨g, o + k * 8 + q, none⟩ = some u := fun q u hu => (hb.cell (p := ⟨g, _, none⟩) hgl).trans (hcs q u hu)
      have h0 : wo.cell? ⟨g, o + k * 8, none⟩ = some (.string x.1.s) := cc 0 _ rfl
      have h1 := cc 1 _ rfl
      have h2 := cc 2 _ rfl
      have h3 := cc 3 _ rfl
      have h4 := cc 4 _ rfl
      have h5 := cc 5 _ rfl
      have h6 := cc 6 _ rfl
      have h7 := cc 7 _ rfl
      have CL := Lib.hid (clos_any x.1 t B wo ((hb.cell (p := ⟨B, _, none⟩) hBl).trans HB.out))
      have HSS := Lib.hid hs
      clear hcs cc hs
      rcases hid_or (x.1.s.data.toList == t.data.toList) with hp | hp
      rotate_left
      · have R : Hid (decide (0 ≤ (k : Int)) = P.any (fun x => x.1.s.data.toList == t.data.toList)) := Lib.hid (by
          rw [show P.any (fun x => x.1.s.data.toList == t.data.toList) = true from List.any_eq_true.2 ⟨x, List.mem_of_getElem? HSS.out, hp.out⟩]
          simp)
        go_wp2_with fail
        refine CL.out.mono ?_; rintro e w2 ⟨rfl, hb2⟩; rw [hp.out]
        have hb3 := below_over hb hb2
        clear h0 h1 h2 h3 h4 h5 h6 h7 hb hb2
        go_wp2_with fail
        go_ret
        exact ⟨_, rfl, R.out, hb3⟩
      · go_wp2_with fail
        refine CL.out.mono ?_; rintro e w2 ⟨rfl, hb2⟩; rw [hp.out]
        have hb3 := below_over hb hb2
        clear h0 h1 h2 h3 h4 h5 h6 h7 hb hb2
        go_wp2_with fail
        go_roundw
        case rel => exact ⟨k + 1, by omega, by go_num, Lib.hid (fun j q hj hq => by
          rcases Nat.lt_or_ge j k with a | a
          · exact HP.out j q a hq
          · rw [show j = k by omega, HSS.out] at hq
            obtain rfl := Option.some.inj hq
            exact hp.out), hb3⟩
        case measure => simp [intOf]; omega
    · have R : Hid (decide (0 ≤ (-1 : Int)) = P.any (fun x => x.1.s.data.toList == t.data.toList)) := Lib.hid (by
        rw [show P.any (fun x => x.1.s.data.toList == t.data.toList) = false from List.any_eq_false.2 (fun x hx => by
          obtain ⟨j, hj⟩ := List.getElem?_of_mem hx
          have hjl := (List.getElem?_eq_some_iff.1 hj).1
          rw [HP.out j x (by rw [HN.out] at hjl; omega) hj]; decide)]
        rfl)
      go_wp2_with fail
      go_ret
      exact ⟨_, rfl, R.out, hb⟩

set_option maxRecDepth 100000 in
set_option maxHeartbeats 1000000 in
theorem contains_named {lo : Nat} {P : List Nt} {n : Nat} {v : Value} {w : World} (hR : NmR lo P n v w) (hz : n ≤ 1000000) (t : ByteArray) (B : Nat) (hB : w.cell? ⟨B, 2, none⟩ = some (.string t)) :
    Calls Tryz.prog 168 #[v, .func (.func 169) #[] #[.pointer (some ⟨B, 0, none⟩)]] w fun e w' =>
      e = .returned (.bool (P.any (fun x => x.1.s.data.toList == t.data.toList))) ∧ Below w.heap.size w w' := by
  obtain ⟨A, cap, rfl, hS⟩ := hR.cell
  have IX := Lib.hid (index_named A cap n P t B w hR.len hz (fun k x hx => by
    obtain ⟨g, h1, -, h2, h3⟩ := hS k x hx
    exact ⟨g, h1, h2, h3⟩) hB)
  clear hR hS hB
  go_enter Tryz.func168, Tryz.ntmps168
  go_wp2_with fail
  refine IX.out.mono ?_; rintro e w1 ⟨r, rfl, hr, hb1⟩
  have R := Lib.hid hr
  clear hr IX
  go_wp2_with fail
  go_ret
  exact ⟨by rw [← R.out]; rfl, hb1⟩

end Go.Proofs.YtbknmokamcjgpaaGreatDoor

/- The code's field: a name and its type. -/
namespace Go.Proofs.YtbknmokamcjgpaaGreatDoor
open Go.RowKit
open Go.Sort
open M

/-- What a field tells, behind those of these names. -/
def fieldR (S : Toks) (k : Int) (g d i c : Nat) (ns : List ByteArray) : Res FdT :=
  if S.nameOk k i = false then .err 2 i else if 20 ≤ ns.length then .err 3 i else if twice (S.T i) ns = true then .err 5 i
  else if S.sign (i + 1) [58] = false then .err 2 (i + 1) else match pT S g (d + 1) (i + 2) c with
    | .err b j => .err b j
    | .ok s j c' => .ok (S.T i, s) j c'
theorem name_lt {S : Toks} {k : Int} {i : Nat} (h : S.nameOk k i = true) : i < S.n := by
  unfold Toks.nameOk at h
  by_cases hk : k = 5
  · rw [if_pos hk] at h; exact small_lt h
  · rw [if_neg hk] at h; exact great_lt h

/-- What is so at the colon. -/
structure FdAt (S : Toks) (k : Int) (i b n : Nat) (ns : List ByteArray) (q1 tw : Bool) (b3 : Nat) (s : ByteArray) (i4 b4 i5 b5 : Nat) : Prop where
  len : ns.length = n
  is : b = 0 → q1 = S.nameOk k i
  two : b = 0 → i < S.n → tw = twice (S.T i) ns
  must : b3 = mustB (mustB (mustB b q1 2) (decide ((n : Int) < 20)) 3) (!tw) 5
  word : NameOut S (S.nameOk k i) i b3 s i4 b4
  i5e : psI b4 (S.sign i4 [58]) i4 = i5
  b5e : psB b4 (S.sign i4 [58]) = b5
theorem FdAt.no {S : Toks} {k : Int} {i b n g d c : Nat} {ns : List ByteArray} {q1 tw : Bool} {b3 : Nat} {s : ByteArray} {i4 b4 i5 b5 : Nat} (h : FdAt S k i b n ns q1 tw b3 s i4 b4 i5 b5) (hb : b5 ≠ 0) : badR b i (fieldR S k g d i c ns) = .err b5 i5 := by
  have stuck : b3 ≠ 0 → b5 = b3 ∧ i5 = i := fun h3 => by
    rcases h.word with ⟨e, -⟩ | ⟨e, -⟩ | ⟨-, e1, e2⟩
    · exact absurd e h3
    · exact absurd e h3
    · subst e1 e2
      refine ⟨?_, ?_⟩
      · rw [← h.b5e, psB_bad _ h3]
      · rw [← h.i5e, psI_bad _ _ h3]
  by_cases hb0 : b = 0
  rotate_left
  · have : b3 = b := by rw [h.must, mustB_bad _ _ hb0, mustB_bad _ _ hb0, mustB_bad _ _ hb0]
    obtain ⟨e1, e2⟩ := stuck (by omega)
    rw [badR_ne _ _ hb0, e1, e2, this]
  subst hb0
  rw [badR_0]
  have h1 := h.is rfl
  have hm := h.must
  unfold fieldR
  cases hn : S.nameOk k i with
  | false =>
    rw [h1, hn, mustB_no, mustB_bad (b := 2) (decide ((n : Int) < 20)) 3 (by decide), mustB_bad (b := 2) (!tw) 5 (by decide)] at hm
    obtain ⟨e1, e2⟩ := stuck (by omega)
    rw [if_pos rfl, e1, e2, hm]
  | true =>
    rw [h1, hn, mustB_yes] at hm
    rw [if_neg (by decide)]
    by_cases h20 : 20 ≤ ns.length
    · have : decide ((n : Int) < 20) = false := by have := h.len; simp; omega
      rw [this, mustB_no, mustB_bad _ _ (by decide)] at hm
      obtain ⟨e1, e2⟩ := stuck (by omega)
      rw [if_pos h20, e1, e2, hm]
    · have : decide ((n : Int) < 20) = true := by have := h.len; simp; omega
      rw [this, mustB_yes] at hm
      rw [if_neg h20]
      have ht := h.two rfl (name_lt hn)
      rw [← ht]
      cases tw with
      | true =>
        have hm5 : b3 = 5 := hm
        obtain ⟨e1, e2⟩ := stuck (by omega)
        rw [if_pos rfl, e1, e2, hm5]
      | false =>
        have hm0 : b3 = 0 := hm
        rw [if_neg (by decide)]
        rcases h.word with ⟨-, -, -, rfl, rfl⟩ | ⟨-, e, -⟩ | ⟨e, -⟩
        · cases hs : S.sign (i + 1) [58] with
          | true => have := h.b5e; rw [hs] at this; exact absurd this.symm hb
          | false =>
            have e1 := h.b5e
            have e2 := h.i5e
            rw [hs] at e1 e2
            rw [if_pos rfl, ← e1, ← e2]
            rfl
        · rw [hn] at e; cases e
        · exact absurd hm0 e
theorem FdAt.yes {S : Toks} {k : Int} {i b n g d c : Nat} {ns : List ByteArray} {q1 tw : Bool} {b3 : Nat} {s : ByteArray} {i4 b4 i5 b5 : Nat} (h : FdAt S k i b n ns q1 tw b3 s i4 b4 i5 b5) (hb : b5 = 0) :
    b = 0 ∧ n < 20 ∧ s = S.T i ∧ i5 = i + 2 ∧ i + 1 < S.n ∧ twice (S.T i) ns = false ∧ S.nameOk k i = true ∧ badR b i (fieldR S k g d i c ns) = (match pT S g (d + 1) i5 c with
    | .err b j => .err b j
    | .ok t j c' => .ok (s, t) j c') := by
  have hb4 : b4 = 0 := psB_0 (h.b5e.trans hb)
  have hb3 : b3 = 0 := by
    rcases h.word with ⟨e, -⟩ | ⟨e, -⟩ | ⟨-, -, e⟩
    · exact e
    · exact e
    · omega
  have hm := h.must
  rw [hb3] at hm
  have m2 := mustB_0 (by decide) hm.symm
  have m1 := mustB_0 (by decide) m2
  have m0 := mustB_0 (by decide) m1
  subst m0
  rw [m2] at hm
  have htw : tw = false := by
    cases tw with
    | false => rfl
    | true => cases hm
  have hq : q1 = true := by
    cases q1 with
    | true => rfl
    | false => cases m1
  have h20 : n < 20 := by
    rw [m1] at m2
    by_cases e : (n : Int) < 20
    · omega
    · have : decide ((n : Int) < 20) = false := by simpa using e
      rw [this] at m2; cases m2
  have hn : S.nameOk k i = true := by rw [← h.is rfl]; exact hq
  have htf : twice (S.T i) ns = false := by rw [← h.two rfl (name_lt hn)]; exact htw
  rcases h.word with ⟨-, -, rfl, rfl, -⟩ | ⟨-, e, -⟩ | ⟨e, -⟩
  rotate_left
  · rw [hn] at e; cases e
  · exact absurd hb3 e
  have hs : S.sign (i + 1) [58] = true := by
    cases hs : S.sign (i + 1) [58] with
    | true => rfl
    | false =>
      have e1 := h.b5e
      rw [hs, hb4] at e1
      have : (2 : Nat) = b5 := e1
      omega
  have hi5 : i5 = i + 2 := by
    have e2 := h.i5e
    rw [hs, hb4] at e2
    exact e2.symm
  subst hi5
  refine ⟨rfl, h20, rfl, rfl, sign_lt hs, htf, hn, ?_⟩
  rw [badR_0]
  unfold fieldR
  rw [if_neg (by rw [hn]; decide), if_neg (by have := h.len; omega), if_neg (by rw [htf]; decide), if_neg (by rw [hs]; decide)]
theorem FdAt.res {S : Toks} {k : Int} {i b n g d c : Nat} {ns : List ByteArray} {q1 tw : Bool} {b3 : Nat} {s : ByteArray} {i4 b4 i5 b5 b6 i6 c6 : Nat} {t : Ty} (h : FdAt S k i b n ns q1 tw b3 s i4 b4 i5 b5)
    (hr : badR b6 i6 (.ok t i6 c6) = badR b5 i5 (oneR S g d i5 c n)) : badR b6 i6 (.ok (s, t) i6 c6) = badR b i (fieldR S k g d i c ns) := by
  by_cases hb : b5 = 0
  · obtain ⟨rfl, h20, -, -, -, -, -, he⟩ := h.yes (g := g) (d := d) (c := c) hb
    rw [he]
    rw [hb, badR_0] at hr
    unfold oneR at hr
    rw [if_neg (fun x => by omega)] at hr
    rw [← hr]
    by_cases h6 : b6 = 0
    · subst h6; rfl
    · rw [badR_ne _ _ h6, badR_ne _ _ h6]
  · rw [h.no hb]
    rw [badR_ne _ _ hb] at hr
    by_cases h6 : b6 = 0
    · subst h6; cases hr
    · rw [badR_ne _ _ h6] at hr ⊢
      cases hr; rfl
theorem FdAt.hne {S : Toks} {k : Int} {i b n g d c : Nat} {ns : List ByteArray} {q1 tw : Bool} {b3 : Nat} {s : ByteArray} {i4 b4 i5 b5 : Nat} (h : FdAt S k i b n ns q1 tw b3 s i4 b4 i5 b5)
    (hne : b = 0 → ∀ j, fieldR S k g d i c ns ≠ .err 99 j) (hb : b5 = 0) : ∀ j, oneR S g d i5 c n ≠ .err 99 j := fun j e => by
  obtain ⟨rfl, h20, -, -, -, -, -, he⟩ := h.yes (g := g) (d := d) (c := c) hb
  rw [badR_0] at he
  unfold oneR at e
  rw [if_neg (fun x => by omega)] at e
  rw [e] at he
  exact hne rfl j he

theorem nmSize : (Tryz.prog.info? 184).map (·.size) = some 8 := by kernel_rfl
theorem nmOne {s : ByteArray} {k m : Int} {p d n : ByteArray} {A5 A6 : Option Addr} {n5 c5 n6 c6 : Nat} : (#[.string s, .int .i64 k, .string p, .int .i64 m, .string d, .string n, .slice A5 n5 c5, .slice A6 n6 c6] : Array Value).all (·.oneCell') = true := Array.all_eq_true_iff_forall_mem.2 (fun v hv => by simp at hv; rcases hv with rfl | rfl | rfl | rfl | rfl | rfl | rfl | rfl <;> rfl)
theorem cell8 {w : World} {b : Nat} {v0 v1 v2 v3 v4 v5 v6 v7 : Value} {T : TypeId} {fr : Nat × Nat} (h : w.heap[b]? = some (.cells #[v0, v1, v2, v3, v4, v5, v6, v7] T fr)) : ∀ i v, ([v0, v1, v2, v3, v4, v5, v6, v7] : List Value)[i]? = some v → w.cell? ⟨b, i, none⟩ = some v := fun i v hv => by
  rw [Lib.cell_of_heap h, ← hv, ← List.getElem?_toArray]

/-- What a field leaves. -/
def FdOut (w : World) (cu r : Nat) (A : Option Addr) (n cn : Nat) (R : Res FdT) (e : Ending) (w' : World) : Prop :=
  ∃ (x : Nv) (t : Ty) (i c b : Nat), e = .returned (.agg x.enc.toArray) ∧ x.s.size ≤ 281474976710656 ∧ TyAt (strike (· < w.heap.size) w') x.ty t ∧ KQ cu r w w' ∧ RSt cu r A n cn i c b w' ∧ c ≤ 500 ∧ badR b i (.ok (x.s, t) i c) = R
theorem FdOut.seal {w wk : World} {cu r b m : Nat} {A : Option Addr} {n cn i c bd : Nat} {R : Res FdT} {t : Ty} {x : Nv} {old : Array Value}
    (hb : w.heap.size ≤ b) (hres : wk.heap[b]? = some (.cells old 184 (0, 0))) (hs : x.s.size ≤ 281474976710656) (hK : KQ cu r w wk) (hT : TyAt (strike (· < m) wk) x.ty t) (hbm : b < m) (hC : RSt cu r A n cn i c bd wk) (h5 : c ≤ 500) (hR : badR bd i (.ok (x.s, t) i c) = R) :
    (∀ i v, x.enc[i]? = some v → (wk.setRow b x.enc.toArray).cell? ⟨b, i, none⟩ = some v) ∧
    FdOut w cu r A n cn R (.returned (.agg x.enc.toArray)) (wk.setRow b x.enc.toArray) := by
  refine ⟨cell8 (setRow_heap wk b old _ _ _ hres), x, t, i, c, bd, rfl, hs, ?_, ?_, ?_, h5, hR⟩
  · exact hT.move (by simp) fun b' hlt hS => ⟨by omega, setRow_other wk b b' _ (by omega)⟩
  · exact ⟨hK.os, hK.tape, hK.output, by have := hK.size; simpa using this, fun j hj h1 h2 => (setRow_other wk b j _ (by omega)).trans (hK.block j hj h1 h2)⟩
  · exact hC.other hres (by decide) (fun k hk => setRow_other wk b k _ (by omega))

set_option maxRecDepth 100000 in
set_option maxHeartbeats 4000000 in
theorem field_any {W : World} {cu r : Nat} {A : Option Addr} {S : Toks} {cn i c b g d d' n lo : Nat} {k : Int} {P : List Nt} {v : Value} {w : World} (RD : CReadOk W cu r A S cn g) (hc : RCtx W cu r A S w) (h : RSt cu r A S.n cn i c b w) (hc5 : c ≤ 500) (hd : d' = d + 1) (hd5 : d' ≤ 1000000)
    (f : Nat) (p : Int → ByteArray → Bool) (hf : AsksOk f p) (hp0 : p 0 ⟨#[]⟩ = false) (hpk : ∀ i, (decide (i < S.n) && p (S.K i) (S.T i)) = S.nameOk k i) (hP : NmR lo P n v w) (hn : n ≤ 1000) (ns : List ByteArray) (hl : ns.length = n)
    (htw : ∀ s : ByteArray, P.any (fun x => x.1.s.data.toList == s.data.toList) = twice s ns) (hne : b = 0 → ∀ j, fieldR S k g d i c ns ≠ .err 99 j) :
    Calls Tryz.prog 155 #[.pointer (some ⟨r, 0, none⟩), v, .func (.func f) #[] #[], .int .i64 d'] w (FdOut w cu r A S.n cn (badR b i (fieldR S k g d i c ns))) := by
  have hr := h.lt
  have hq0 := h.qlt
  have hbig := hc.cur.big
  obtain ⟨A0, cap0, rfl, -⟩ := hP.cell
  obtain ⟨R, hR⟩ : ∃ R, badR b i (fieldR S k g d i c ns) = R := ⟨_, rfl⟩
  rw [hR]
  obtain ⟨w0, hw0⟩ : ∃ w0, w0 = w.alloc (.cells #[.string ⟨#[]⟩, .int .i64 0, .string ⟨#[]⟩, .int .i64 0, .string ⟨#[]⟩, .string ⟨#[]⟩, .slice none 0 0, .slice none 0 0] 184) := ⟨_, rfl⟩
  have B0 : Below w.heap.size w w0 := by rw [hw0]; exact below_new (Below.refl _ _) _
  have X0 : w0.heap[w.heap.size]? = some (.cells #[.string ⟨#[]⟩, .int .i64 0, .string ⟨#[]⟩, .int .i64 0, .string ⟨#[]⟩, .string ⟨#[]⟩, .slice none 0 0, .slice none 0 0] 184 (0, 0)) := by rw [hw0]; exact heap_alloc_new w _
  have hl0 : w.heap.size < w0.heap.size := (Array.getElem?_eq_some_iff.1 X0).1
  have hne0 : w.heap.size ≠ r ∧ w.heap.size ≠ cu := ⟨Nat.ne_of_gt hr, Nat.ne_of_gt hq0⟩
  have C0 := hc.on (KQ.of_below B0)
  have h0 := h.below B0
  have NX := Lib.hid (rnext_any C0 h0)
  have hts := tAt_size hc.cur b i
  have p0 := h0.p
  have HC0 := Lib.hid C0
  have H0 := Lib.hid h0
  have HX0 := Lib.hid X0
  have HK0 := Lib.hid (KQ.of_below (q := cu) (r := r) B0)
  have HP0 := Lib.hid (hP.keep B0.size (fun b' _ hlt => B0.block b' hlt))
  have HR := Lib.hid hR
  have HNE := Lib.hid hne
  have RD' := Lib.hid RD
  have HD := Lib.hid hd
  have HL := Lib.hid hl
  have HTW := Lib.hid htw
  have HPK := Lib.hid hpk
  have HF := Lib.hid hf
  have HP0' := Lib.hid hp0
  have eg := hf.enters
  have HISB : Hid (b = 0 → p (kAt S b i) (tAt S b i) = S.nameOk k i) := Lib.hid (fun hb => by
    rw [← hpk i]
    unfold kAt tAt
    by_cases hlt : i < S.n
    · rw [if_pos ⟨hb, hlt⟩, if_pos ⟨hb, hlt⟩]; simp [hlt]
    · rw [if_neg (fun x => hlt x.2), if_neg (fun x => hlt x.2), hp0]; simp [hlt])
  have HPT : Hid (b = 0 → i < S.n → tAt S b i = S.T i) := Lib.hid (fun hb hlt => if_pos ⟨hb, hlt⟩)
  have HW0 := Lib.hid hw0
  clear h hc hR hne hd RD hw0 B0 X0 C0 h0 hP hf hpk hl htw hp0
  go_enter Tryz.func155, Tryz.ntmps155
  go_upto_region 1 with fail
  rw [← HW0.out]
  go_wp2_with fail
  refine NX.out.mono ?_; rintro e w1 ⟨y, rfl, hb1⟩
  generalize hkk : kAt S b i = kk at HISB ⊢
  generalize htt : tAt S b i = tt at hts HISB HPT ⊢
  clear hkk htt NX
  unfold tokV
  obtain ⟨w2, hw2⟩ : ∃ w2, w2 = w1.alloc (.cells #[.int .i64 kk, .int .i64 y, .string tt] 39) := ⟨_, rfl⟩
  have B2 : Below w1.heap.size w1 w2 := by rw [hw2]; exact below_new (Below.refl _ _) _
  have T2 : TokBox w1.heap.size kk y tt w2 := by rw [hw2]; exact heap_alloc_new w1 _
  have B02 := below_over hb1 B2
  have hs1 := hb1.size
  have CT := Lib.hid (contains_named (HP0.out.keep B02.size (fun b' _ hlt => B02.block b' hlt)) (by omega) tt w1.heap.size (Lib.cell_of_heap T2 2))
  have HT2 := Lib.hid T2
  have HB02 := Lib.hid B02
  have HW2 := Lib.hid hw2
  clear hw2 B2 T2 B02 hb1
  go_upto_region 2 with fail
  rw [← HW2.out]
  go_wp2_with fail
  refine CT.out.mono ?_; rintro e w3 ⟨rfl, hb3⟩
  obtain ⟨tw, htw⟩ : ∃ tw, P.any (fun x => x.1.s.data.toList == tt.data.toList) = tw := ⟨_, rfl⟩
  rw [htw]
  have HTW1 : Hid (tw = twice tt ns) := Lib.hid (by rw [← htw]; exact HTW.out tt)
  have B03 := below_over HB02.out hb3
  have h3 := H0.out.below B03
  have T3 := HT2.out.on hb3
  have p3 := h3.p
  have t0 : w3.cell? ⟨w1.heap.size, 0, none⟩ = some (.int .i64 kk) := Lib.cell_of_heap T3 0
  have t1 : w3.cell? ⟨w1.heap.size, 1, none⟩ = some (.int .i64 y) := Lib.cell_of_heap T3 1
  have t2 : w3.cell? ⟨w1.heap.size, 2, none⟩ = some (.string tt) := Lib.cell_of_heap T3 2
  have HC3 := Lib.hid (HC0.out.on (KQ.of_below B03))
  have HX3 := Lib.hid ((B03.block _ hl0).trans HX0.out)
  have HK3 := Lib.hid (HK0.out.trans (KQ.of_below B03))
  have hl3 := Nat.lt_of_lt_of_le hl0 B03.size
  have H3 := Lib.hid h3
  obtain ⟨q1, hq1⟩ : ∃ q1, p kk tt = q1 := ⟨_, rfl⟩
  have AF : Hid (∀ w', Calls Tryz.prog f #[.agg #[.int .i64 kk, .int .i64 y, .string tt]] w' fun e w'' => e = .returned (.bool q1) ∧ Below w'.heap.size w' w'') := Lib.hid (fun w' => by
    rw [← hq1]; exact HF.out.says kk y tt w' (by omega))
  have HQ1 := Lib.hid hq1
  clear htw hb3 B03 h3 T3 CT HT2 HB02 HW2 HX0 HK0 HC0 H0 p0 hq1 HP0
  go_wp2_with fail
  refine AnyX.start (fun wx => wx.cell? ⟨r, 0, none⟩ = some (.pointer (some ⟨cu, 0, none⟩)) ∧ wx.cell? ⟨w1.heap.size, 0, none⟩ = some (.int .i64 kk) ∧ wx.cell? ⟨w1.heap.size, 1, none⟩ = some (.int .i64 y) ∧ wx.cell? ⟨w1.heap.size, 2, none⟩ = some (.string tt)) (fun k => k == 7) (by kernel_rfl) ?_
  have hH0 : w3.drew.cell? ⟨r, 0, none⟩ = some (.pointer (some ⟨cu, 0, none⟩)) ∧ w3.drew.cell? ⟨w1.heap.size, 0, none⟩ = some (.int .i64 kk) ∧ w3.drew.cell? ⟨w1.heap.size, 1, none⟩ = some (.int .i64 y) ∧ w3.drew.cell? ⟨w1.heap.size, 2, none⟩ = some (.string tt) := ⟨p3, t0, t1, t2⟩
  refine AnyX.move (i := 0) (v := ?_) rfl (by kernel_rfl) (by kernel_rfl) (by kernel_rfl) (by kernel_rfl) (fun _ _ _ h => h) (Or.inl ⟨by rfl, ?_⟩) ?_
  rotate_left
  · (intro wS _; go_simp; try with_reducible rfl)
  simp only [List.getElem_toArray, List.getElem_cons_succ, List.getElem_cons_zero]
  simp only [Act.put, List.setIfInBounds_toArray]
  simp only [List.set_cons_zero, List.set_cons_succ]
  refine AnyX.move (i := 1) (v := ?_) rfl (by kernel_rfl) (by kernel_rfl) (by kernel_rfl) (by kernel_rfl) (fun _ _ _ h => h) (Or.inl ⟨by rfl, ?_⟩) ?_
  rotate_left
  · (intro wS _; go_simp; try with_reducible rfl)
  simp only [List.getElem_toArray, List.getElem_cons_succ, List.getElem_cons_zero]
  simp only [Act.put, List.setIfInBounds_toArray]
  simp only [List.set_cons_zero, List.set_cons_succ]
  refine AnyX.move (i := 2) (v := ?_) rfl (by kernel_rfl) (by kernel_rfl) (by kernel_rfl) (by kernel_rfl) (fun _ _ _ h => h) (Or.inl ⟨by rfl, ?_⟩) ?_
  rotate_left
  · (intro wS _; go_simp; try with_reducible rfl)
  simp only [List.getElem_toArray, List.getElem_cons_succ, List.getElem_cons_zero]
  simp only [Act.put, List.setIfInBounds_toArray]
  simp only [List.set_cons_zero, List.set_cons_succ]
  refine AnyX.take (i := 3) (v := ?_) rfl (by kernel_rfl) (by kernel_rfl) (by kernel_rfl) (by kernel_rfl) (by kernel_rfl) (fun _ _ _ h => h) hH0 (Or.inl ⟨by rfl, ?_⟩) ?_
  rotate_left
  · (intro wS hS; (try obtain ⟨hS1, hS2, hS3, hS4⟩ := hS); go_simp; try with_reducible rfl)
  simp only [List.getElem_toArray, List.getElem_cons_succ, List.getElem_cons_zero]
  simp only [Act.put, List.setIfInBounds_toArray]
  simp only [List.set_cons_zero, List.set_cons_succ]
  refine AnyX.move (i := 4) (v := ?_) rfl (by kernel_rfl) (by kernel_rfl) (by kernel_rfl) (by kernel_rfl) (fun _ _ _ h => h) (Or.inl ⟨by rfl, ?_⟩) ?_
  rotate_left
  · (intro wS _; go_simp; try with_reducible rfl)
  simp only [List.getElem_toArray, List.getElem_cons_succ, List.getElem_cons_zero]
  simp only [Act.put, List.setIfInBounds_toArray]
  simp only [List.set_cons_zero, List.set_cons_succ]
  refine AnyX.take (i := 5) (v := ?_) rfl (by kernel_rfl) (by kernel_rfl) (by kernel_rfl) (by kernel_rfl) (by kernel_rfl) (fun _ _ _ h => h) hH0 (Or.inl ⟨by rfl, ?_⟩) ?_
  rotate_left
  · (intro wS hS; (try obtain ⟨hS1, hS2, hS3, hS4⟩ := hS); go_simp; try with_reducible rfl)
  simp only [List.getElem_toArray, List.getElem_cons_succ, List.getElem_cons_zero]
  simp only [Act.put, List.setIfInBounds_toArray]
  simp only [List.set_cons_zero, List.set_cons_succ]
  refine AnyX.go 6 (by kernel_rfl) rfl rfl (fun K hK => ?_)
  simp only [List.getElem_toArray, List.getElem_cons_succ, List.getElem_cons_zero]
  go_simp
  refine (AF.out _).mono ?_
  rintro e w4 ⟨rfl, hb4⟩
  obtain ⟨hcB4, hfB4⟩ := bcell hb4
  have hH4 : w4.cell? ⟨r, 0, none⟩ = some (.pointer (some ⟨cu, 0, none⟩)) ∧ w4.cell? ⟨w1.heap.size, 0, none⟩ = some (.int .i64 kk) ∧ w4.cell? ⟨w1.heap.size, 1, none⟩ = some (.int .i64 y) ∧ w4.cell? ⟨w1.heap.size, 2, none⟩ = some (.string tt) :=
    ⟨(hcB4 r 0 (World.block_lt_of_cell? _ _ p3)).trans hH0.1, (hcB4 _ 0 (World.block_lt_of_cell? _ _ t0)).trans hH0.2.1, (hcB4 _ 1 (World.block_lt_of_cell? _ _ t1)).trans hH0.2.2.1, (hcB4 _ 2 (World.block_lt_of_cell? _ _ t2)).trans hH0.2.2.2⟩
  simp only []
  refine hK.out _ _ (fun hoff _ => hH4) ?_
  clear hK
  try simp only [Act.put, List.setIfInBounds_toArray]
  try simp only [List.set_cons_zero, List.set_cons_succ]
  refine AnyX.go 7 (by kernel_rfl) rfl rfl (fun K hK => ?_)
  simp only [List.getElem_toArray, List.getElem_cons_succ, List.getElem_cons_zero]
  go_simp
  have B34 : Below w3.heap.size w3 w4 := (Below.drew (Below.refl _ _)).trans hb4
  have h4 := H3.out.below B34
  refine (rmust_any h4 q1 2 (by decide)).mono ?_
  rintro e w5 ⟨rfl, h5, k5⟩
  simp only []
  refine hK.out _ _ (fun hoff _ => absurd hoff (by decide)) ?_
  clear hK
  try simp only [Act.put, List.setIfInBounds_toArray]
  try simp only [List.set_cons_zero, List.set_cons_succ]
  refine AnyX.done (by kernel_rfl) ?_ _
  have K35 := (KQ.of_below (q := cu) (r := r) B34).trans k5
  have HC5 := Lib.hid (HC3.out.on K35)
  have HX5 := Lib.hid ((K35.blk hl3 hne0).trans HX3.out)
  have HK5 := Lib.hid (HK3.out.trans K35)
  have hl5 := Nat.lt_of_lt_of_le hl3 K35.size
  have p5 := h5.p
  have MU := Lib.hid (fun so => rmust_any h5 so 3 (by decide))
  clear hH0 hH4 hcB4 hfB4 t0 t1 t2 p3 hb4 B34 h4 h5 k5 K35 AF HC3 HX3 HK3 H3 eg
  go_wp2_with fail
  refine (MU.out _).mono ?_; rintro e w6 ⟨rfl, h6, k6⟩
  have HC6 := Lib.hid (HC5.out.on k6)
  have HX6 := Lib.hid ((k6.blk hl5 hne0).trans HX5.out)
  have HK6 := Lib.hid (HK5.out.trans k6)
  have hl6 := Nat.lt_of_lt_of_le hl5 k6.size
  have p6 := h6.p
  have MU' := Lib.hid (fun so => rmust_any h6 so 5 (by decide))
  clear h6 k6 MU HC5 HX5 HK5 p5
  go_wp2_with fail
  refine (MU'.out _).mono ?_; rintro e w7 ⟨rfl, h7, k7⟩
  obtain ⟨b3, hb3⟩ : ∃ b3, mustB (mustB (mustB b q1 2) (decide ((n : Int) < 20)) 3) (!tw) 5 = b3 := ⟨_, rfl⟩
  rw [hb3] at h7
  have HB3 := Lib.hid hb3
  have HX7 := Lib.hid ((k7.blk hl6 hne0).trans HX6.out)
  have HK7 := Lib.hid (HK6.out.trans k7)
  have hl7 := Nat.lt_of_lt_of_le hl6 k7.size
  have p7 := h7.p
  have C7 := HC6.out.on k7
  have WD := Lib.hid (rword_any C7 h7 f p HF.out HP0'.out)
  have HC7 := Lib.hid C7
  clear h7 k7 MU' HC6 HX6 HK6 p6 hb3 C7
  go_wp2_with fail
  refine WD.out.mono ?_; rintro e w8 ⟨s, i8, b8, rfl, hs8, h8, k8, hN⟩
  rw [HPK.out i] at hN
  have HN := Lib.hid hN
  have HX8 := Lib.hid ((k8.blk hl7 hne0).trans HX7.out)
  have HK8 := Lib.hid (HK7.out.trans k8)
  have hl8 := Nat.lt_of_lt_of_le hl7 k8.size
  have p8 := h8.p
  have C8 := HC7.out.on k8
  have SG := Lib.hid (rsign_any C8 h8 ⟨#[58]⟩)
  have HC8 := Lib.hid C8
  clear h8 k8 WD HC7 HX7 HK7 p7 hN C8
  go_wp2_with fail
  refine SG.out.mono ?_; rintro e w9 ⟨rfl, h9, k9⟩
  obtain ⟨b9, hb9⟩ : ∃ b9, psB b8 (S.sign i8 [58]) = b9 := ⟨_, rfl⟩
  obtain ⟨i9, hi9⟩ : ∃ i9, psI b8 (S.sign i8 [58]) i8 = i9 := ⟨_, rfl⟩
  have h9' : RSt cu r A S.n cn i9 c b9 w9 := by rw [← hb9, ← hi9]; exact h9
  have FA : Hid (FdAt S k i b n ns q1 tw b3 s i8 b8 i9 b9) := Lib.hid ⟨HL.out, fun e => by rw [← HQ1.out]; exact HISB.out e, fun e hlt => by rw [HTW1.out, HPT.out e hlt], HB3.out.symm, HN.out, hi9, hb9⟩
  have C9 := HC8.out.on k9
  have RE1 := RD'.out d' (n + 1) i9 c b9 w9 C9 h9' hc5 hd5 (by omega) (fun hz j => by
    rw [HD.out, one_read]
    exact FA.out.hne HNE.out hz j)
  rw [HD.out, one_read, ← HD.out] at RE1
  have RE : Calls Tryz.prog 30 #[.pointer (some ⟨r, 0, none⟩), .int .i64 d', .int .i64 ((n : Int) + 1)] w9 (COut w9 cu r A S.n cn (badR b9 i9 (oneR S g d i9 c n))) := RE1
  have HRE := Lib.hid RE
  have HX9 := Lib.hid ((k9.blk hl8 hne0).trans HX8.out)
  have HK9 := Lib.hid (HK8.out.trans k9)
  have hl9 := Nat.lt_of_lt_of_le hl8 k9.size
  have n63 : (n : Int) + 1 ≤ 9223372036854775807 := by omega
  clear h9 h9' k9 SG HC8 HX8 HK8 p8 C9 RE RE1 hb9 hi9
  go_wp2_with fail
  refine HRE.out.mono ?_; rintro e w10 ⟨l, t, i10, c10, b10, rfl, hT10, k10, h10, hc10, hres⟩
  obtain ⟨An, cA, As, cS, rfl, -⟩ := hT10.parts
  have hs10 := k10.size
  have X10 := (k10.blk hl9 hne0).trans HX9.out
  have SEAL := Lib.hid (FdOut.seal (x := ⟨s, t.kind, t.pkg, t.major, t.mod, t.name, An, t.names.length, cA, As, t.subs.length, cS⟩) (R := R) (Nat.le_refl _) X10 hs8 (HK9.out.trans k10) (hT10.move (S' := (· < w.heap.size + 1)) (Nat.le_refl _) fun b hb hS => ⟨fun e => hS (Nat.lt_of_lt_of_le (show b < w.heap.size + 1 from e) hl9), rfl⟩) (Nat.lt_succ_self _) h10 hc10 (by rw [← HR.out]; exact FA.out.res hres))
  unfold Nv.enc at SEAL
  clear hT10 k10 h10 hres HRE HX9 HK9
  go_wp2_with (first | ((with_reducible refine wpList_putRow 184 (w.heap.size) #[.string s, .int .i64 t.kind, .string t.pkg, .int .i64 t.major, .string t.mod, .string t.name, .slice An t.names.length cA, .slice As t.subs.length cS] _ _ X10 ?_ ?_ ?_ ?_ ?_ ?_); exact nmSize; rfl; exact nmOne; (focus (first | (go_simp; done) | rfl)); (focus (first | (go_simp; done) | rfl))))
  exact ret_agg1 (fn := Tryz.f155) (vs := [.string s, .int .i64 t.kind, .string t.pkg, .int .i64 t.major, .string t.mod, .string t.name, .slice An t.names.length cA, .slice As t.subs.length cS]) (b := w.heap.size) rfl rfl Tryz.underlying184 (by kernel_rfl) SEAL.out.1 rfl SEAL.out.2

end Go.Proofs.YtbknmokamcjgpaaGreatDoor
