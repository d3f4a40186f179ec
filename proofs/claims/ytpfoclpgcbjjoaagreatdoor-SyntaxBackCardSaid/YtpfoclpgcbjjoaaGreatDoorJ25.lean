/-
  Several texts in one: The text of a declaration: the code's. · The text of a module: the code's Print. · The text of a module: the code's Print of one that may be. · The text of a module: the reference's Print. · The walk of Plain (the reference of layer 4). · Walks of package kind's hasLocal, and of the library's IndexFunc, ContainsFunc at it. · Walks of package kind's alike, of the library's Equal and EqualFunc at it, and of Same and Plain. · '==' between two interface values of one integer type is as the numbers are: a law of the model, over any program. · The walk of the document's example, which stands at the head of every statement of layer 4: it answers true. · The walk of SyntaxPrints: whatever module is handed in. · The library's listed variables: what a row's list gives of the powers of ten, of errors.errorType, and of strconv's two errors; a world for the witnesses in which they lie as the program's text lays them.
-/
import Derived.Test.YtpfoclpgcbjjoaaGreatDoorJ21
import Derived.Test.YtpfoclpgcbjjoaaGreatDoorJ23
import Derived.Test.YtpfoclpgcbjjoaaGreatDoorJ24
import Derived.Test.YtpfoclpgcbjjoaaGreatDoorJ06
import Derived.Test.YtpfoclpgcbjjoaaGreatDoorJ19
import Derived.Test.YtpfoclpgcbjjoaaGreatDoorJ00
import Derived.Test.YtpfoclpgcbjjoaaGreatDoorJ18
import Derived.Test.YtpfoclpgcbjjoaaGreatDoorJ22
import Derived.LaidEql
import Derived.Test.YtpfoclpgcbjjoaaGreatDoorJ20
import Derived.Test.YtpfoclpgcbjjoaaGreatDoorRows
import Derived.Test.YtpfoclpgcbjjoaaGreatDoorJ05
import Derived.Deep.DeepHandedRow
import Derived.Lib.LaidTab
import Derived.LaidLaws
import Derived.LaidHandle
import Derived.Stop.LaidErr
import Derived.Stop.Joined
import Derived.ProofKit
/- The text of a declaration: the code's. -/
namespace Go.Proofs.YtpfoclpgcbjjoaaGreatDoor
open Go.RowKit
open Go.Sort
open M

/-- A declaration's line. -/
def txD (d : De) : ByteArray :=
  if d.kind = 1 then ⟨#[111, 112, 97, 113, 117, 101, 32]⟩ ++ d.name ++ ⟨#[10]⟩
  else if d.kind = 2 then ⟨#[104, 105, 100, 100, 101, 110, 32]⟩ ++ d.name ++ ⟨#[10]⟩
  else if d.kind = 3 then ⟨#[97, 108, 105, 97, 115, 32]⟩ ++ d.name ++ ⟨#[32, 61, 32]⟩ ++ tB d.typ ++ ⟨#[10]⟩
  else ⟨#[118, 97, 108, 32]⟩ ++ d.name ++ ⟨#[32, 58, 32]⟩ ++ tB d.typ ++ ⟨#[10]⟩
def textD : List De → List UInt8
  | [] => []
  | x :: xs => (txD x).data.toList ++ textD xs
theorem textD_snoc (xs : List De) (x : De) : textD (xs ++ [x]) = textD xs ++ (txD x).data.toList := by
  induction xs with
  | nil => simp [textD]
  | cons y ys ih => simp [textD, ih]
theorem textD_take (xs : List De) (k : Nat) (x : De) (h : xs[k]? = some x) : textD (xs.take (k + 1)) = textD (xs.take k) ++ (txD x).data.toList := by
  rw [List.take_add_one, h]; exact textD_snoc _ _
theorem mayT_bd {t : Ty} (h : mayT t = true) : allOk t = true ∧ many t ≤ 500 ∧ (tB t).size ≤ 62000 := by
  unfold mayT at h
  simp only [Bool.and_eq_true, decide_eq_true_eq] at h
  have h1 := text_len t h.1.1
  have h2 : (tB t).size = (textT t).length := by rw [← len_size]; unfold tB; simp
  exact ⟨h.1.1, h.1.2, by have := h.1.2; omega⟩
theorem mayD_bd {d : De} (h : mayD d = true) : d.name.size ≤ 20 ∧ ((d.kind = 1 ∨ d.kind = 2) ∧ d.typ = noT ∨ (d.kind = 3 ∨ d.kind = 4) ∧ mayT d.typ = true) := by
  unfold mayD at h
  split at h
  · rename_i hk
    simp only [Bool.and_eq_true] at h
    exact ⟨great_len h.1, .inl ⟨hk, (sameT_iff _ _).1 h.2⟩⟩
  · split at h
    · rename_i hk
      simp only [Bool.and_eq_true] at h
      exact ⟨great_len h.1, .inr ⟨.inl hk, h.2⟩⟩
    · split at h
      · rename_i hk
        simp only [Bool.and_eq_true] at h
        exact ⟨small_len h.1, .inr ⟨.inr hk, h.2⟩⟩
      · cases h

set_option maxRecDepth 100000 in
set_option maxHeartbeats 4000000 in
theorem line_any (k : Int) (s : ByteArray) (t : Ty) (An As : Option Addr) (cA cS : Nat) (w : World) (hT : TyAt w [.int .i64 t.kind, .string t.pkg, .int .i64 t.major, .string t.mod, .string t.name, .slice An t.names.length cA, .slice As t.subs.length cS] t) (hM : mayD ⟨k, s, t⟩ = true) (hp : Pow w) :
    Calls Tryz.prog 29 #[.agg #[.int .i64 k, .string s, .int .i64 t.kind, .string t.pkg, .int .i64 t.major, .string t.mod, .string t.name, .slice An t.names.length cA, .slice As t.subs.length cS]] w fun e w' => e = .returned (.string (txD ⟨k, s, t⟩)) ∧ Below w.heap.size w w' := by
  obtain ⟨w0, hw0⟩ : ∃ w0, w0 = w.alloc (.cells #[.int .i64 k, .string s, .int .i64 t.kind, .string t.pkg, .int .i64 t.major, .string t.mod, .string t.name, .slice An t.names.length cA, .slice As t.subs.length cS] 52) := ⟨_, rfl⟩
  have B0 : Below w.heap.size w w0 := by rw [hw0]; exact below_new (Below.refl _ _) _
  have O0 : w0.heap[w.heap.size]? = some (.cells #[.int .i64 k, .string s, .int .i64 t.kind, .string t.pkg, .int .i64 t.major, .string t.mod, .string t.name, .slice An t.names.length cA, .slice As t.subs.length cS] 52 (0, 0)) := by rw [hw0]; exact heap_alloc_new w _
  have hl0 : w.heap.size < w0.heap.size := by rw [hw0]; simp
  obtain ⟨zs, hk⟩ := mayD_bd hM
  have hk : (k = 1 ∨ k = 2) ∧ t = noT ∨ (k = 3 ∨ k = 4) ∧ mayT t = true := hk
  have zs : s.size ≤ 20 := zs
  have KP : Hid (Calls Tryz.prog 71 #[.agg #[.int .i64 t.kind, .string t.pkg, .int .i64 t.major, .string t.mod, .string t.name, .slice An t.names.length cA, .slice As t.subs.length cS]] w0 fun e w'' => ∃ (sv : ByteArray) (ev : Value), e = .returned (.tuple #[.string sv, ev]) ∧ (mayT t = true → sv = tB t) ∧ Below w0.heap.size w0 w'') := Lib.hid (by
    by_cases h : mayT t = true
    · exact (printK_yes t h (by have := (mayT_bd h).2.1; omega) _ w0 ⟨_, rfl, hT.keep B0⟩ (hp.on B0)).mono fun e w'' ⟨h1, h2⟩ => ⟨_, _, h1, fun _ => rfl, h2⟩
    · exact (printK_no t (by simpa using h) _ w0 ⟨_, rfl, hT.keep B0⟩).mono fun e w'' ⟨h1, h2⟩ => ⟨_, _, h1, fun h' => absurd h' h, h2⟩)
  obtain ⟨V, hV⟩ : ∃ V, txD ⟨k, s, t⟩ = V := ⟨_, rfl⟩
  rw [hV]
  have HV : Hid ((if k = 1 then ⟨#[111, 112, 97, 113, 117, 101, 32]⟩ ++ s ++ ⟨#[10]⟩
    else if k = 2 then ⟨#[104, 105, 100, 100, 101, 110, 32]⟩ ++ s ++ ⟨#[10]⟩
    else if k = 3 then ⟨#[97, 108, 105, 97, 115, 32]⟩ ++ s ++ ⟨#[32, 61, 32]⟩ ++ tB t ++ ⟨#[10]⟩
    else ⟨#[118, 97, 108, 32]⟩ ++ s ++ ⟨#[32, 58, 32]⟩ ++ tB t ++ ⟨#[10]⟩ : ByteArray) = V) := Lib.hid hV
  have y0 := Lib.cell_of_heap O0 0
  have y1 := Lib.cell_of_heap O0 1
  have y2 := Lib.cell_of_heap O0 2
  have y3 := Lib.cell_of_heap O0 3
  have y4 := Lib.cell_of_heap O0 4
  have y5 := Lib.cell_of_heap O0 5
  have y6 := Lib.cell_of_heap O0 6
  have y7 := Lib.cell_of_heap O0 7
  have y8 := Lib.cell_of_heap O0 8
  simp at y0 y1 y2 y3 y4 y5 y6 y7 y8
  have HO := Lib.hid O0
  have HB := Lib.hid B0
  have HW0 := Lib.hid hw0
  have HK := Lib.hid hk
  clear hw0 B0 O0 hT hM hp hV hk
  go_enter Tryz.func29, Tryz.ntmps29
  go_upto_region 1 with fail
  rw [← HW0.out]
  clear HW0
  go_wp2_with fail
  refine KP.out.mono ?_; rintro e w1 ⟨sv, ev, rfl, hsv, hb1⟩
  have O1 := (hb1.block _ hl0).trans HO.out
  have HB1 := Lib.hid (below_over HB.out hb1)
  clear y0 y1 y2 y3 y4 y5 y6 y7 y8
  have y0 := Lib.cell_of_heap O1 0
  have y1 := Lib.cell_of_heap O1 1
  simp at y0 y1
  have HSV := Lib.hid hsv
  clear O1 hb1 HO HB KP hsv hl0
  by_cases h1 : k = 1
  · subst h1
    have n1 : ¬ (7 + s.size > 9223372036854775807) := by omega
    have n2 : ¬ (7 + s.size + 1 > 9223372036854775807) := by omega
    go_wp2_with fail
    go_ret
    exact ⟨by rw [← HV.out]; rfl, HB1.out⟩
  by_cases h2 : k = 2
  · subst h2
    have n1 : ¬ (7 + s.size > 9223372036854775807) := by omega
    have n2 : ¬ (7 + s.size + 1 > 9223372036854775807) := by omega
    go_wp2_with fail
    go_ret
    exact ⟨by rw [← HV.out]; rfl, HB1.out⟩
  have hk : (k = 3 ∨ k = 4) ∧ mayT t = true := by
    rcases HK.out with h | h
    · exact absurd h.1 (by simp [h1, h2])
    · exact h
  obtain ⟨hk, hmt⟩ := hk
  have hsv := HSV.out hmt
  subst hsv
  have zt := (mayT_bd hmt).2.2
  clear hmt HK HSV
  have e1 : (k == 1) = false := by simpa using h1
  have e2 : (k == 2) = false := by simpa using h2
  by_cases h3 : k = 3
  · subst h3
    clear h1 h2 e1 e2 hk
    have n1 : ¬ (6 + s.size > 9223372036854775807) := by omega
    have n2 : ¬ (6 + s.size + 3 > 9223372036854775807) := by omega
    have n3 : ¬ (6 + s.size + 3 + (tB t).size > 9223372036854775807) := by omega
    have n4 : ¬ (6 + s.size + 3 + (tB t).size + 1 > 9223372036854775807) := by omega
    go_wp2_with fail
    go_ret
    exact ⟨by rw [← HV.out]; rfl, HB1.out⟩
  have e3 : (k == 3) = false := by simpa using h3
  by_cases h4 : k = 4
  · subst h4
    clear h1 h2 e1 e2 hk h3 e3
    have n1 : ¬ (4 + s.size > 9223372036854775807) := by omega
    have n2 : ¬ (4 + s.size + 3 > 9223372036854775807) := by omega
    have n3 : ¬ (4 + s.size + 3 + (tB t).size > 9223372036854775807) := by omega
    have n4 : ¬ (4 + s.size + 3 + (tB t).size + 1 > 9223372036854775807) := by omega
    go_wp2_with fail
    go_ret
    exact ⟨by rw [← HV.out]; rfl, HB1.out⟩
  exact absurd hk (by simp [h3, h4])

end Go.Proofs.YtpfoclpgcbjjoaaGreatDoor

/- The text of a module: the code's Print. -/
namespace Go.Proofs.YtpfoclpgcbjjoaaGreatDoor
open Go.RowKit
open Go.Sort
open M

/-- A module's text. -/
def headM (m : Mo) : List UInt8 := [109, 111, 100, 117, 108, 101, 32] ++ m.name.data.toList ++ [10] ++ textI m.imps
def textM (m : Mo) : List UInt8 := headM m ++ textD m.decs
theorem textI_len (xs : List Im) (h : ∀ x ∈ xs, mayI x = true) : (textI xs).length ≤ 120 * xs.length := by
  induction xs with
  | nil => simp [textI]
  | cons x xs ih =>
    have h1 := txI_size (h x (by simp))
    have h2 := ih (fun y hy => h y (by simp [hy]))
    simp only [textI, List.length_append, List.length_cons, len_size]
    omega
theorem txD_size {d : De} (h : mayD d = true) : (txD d).size ≤ 62030 := by
  obtain ⟨h1, h2⟩ := mayD_bd h
  have q1 : (⟨#[111, 112, 97, 113, 117, 101, 32]⟩ : ByteArray).size = 7 := rfl
  have q2 : (⟨#[104, 105, 100, 100, 101, 110, 32]⟩ : ByteArray).size = 7 := rfl
  have q3 : (⟨#[97, 108, 105, 97, 115, 32]⟩ : ByteArray).size = 6 := rfl
  have q4 : (⟨#[118, 97, 108, 32]⟩ : ByteArray).size = 4 := rfl
  have q5 : (⟨#[32, 61, 32]⟩ : ByteArray).size = 3 := rfl
  have q6 : (⟨#[32, 58, 32]⟩ : ByteArray).size = 3 := rfl
  have q7 : (⟨#[10]⟩ : ByteArray).size = 1 := rfl
  unfold txD
  split
  · simp only [ByteArray.size_append, q1, q7]; omega
  · split
    · simp only [ByteArray.size_append, q2, q7]; omega
    · rename_i k1 k2
      have h3 : mayT d.typ = true := by
        rcases h2 with h | h
        · rcases h.1 with h | h
          · exact absurd h k1
          · exact absurd h k2
        · exact h.2
      have h4 := (mayT_bd h3).2.2
      split
      · simp only [ByteArray.size_append, q3, q5, q7]; omega
      · simp only [ByteArray.size_append, q4, q6, q7]; omega
theorem textD_len (xs : List De) (h : ∀ x ∈ xs, mayD x = true) : (textD xs).length ≤ 62030 * xs.length := by
  induction xs with
  | nil => simp [textD]
  | cons x xs ih =>
    have h1 := txD_size (h x (by simp))
    have h2 := ih (fun y hy => h y (by simp [hy]))
    simp only [textD, List.length_append, List.length_cons, len_size]
    omega
theorem mayM_bd {m : Mo} (h : mayM m = true) : m.name.size ≤ 20 ∧ m.imps.length ≤ 20 ∧ m.decs.length ≤ 60 ∧ (∀ x ∈ m.imps, mayI x = true) ∧ (∀ x ∈ m.decs, mayD x = true) := by
  unfold mayM at h
  simp only [Bool.and_eq_true, decide_eq_true_eq, List.all_eq_true] at h
  obtain ⟨h1, h2, h3, h4, h5⟩ := h
  exact ⟨small_len h1, h2, h3, h4, h5⟩

set_option maxRecDepth 100000 in
set_option maxHeartbeats 4000000 in
theorem cprint_no (m : Mo) (l : List Value) (w : World) (h : MoAt w l m) (hm : mayM m = false) : Calls Tryz.prog 10 #[.agg l.toArray] w fun e w' => e = .returned (.tuple #[.string ⟨#[]⟩, .iface 32 (.int .i64 1)]) ∧ Below w.heap.size w w' := by
  have HM := Lib.hid hm
  have HV := Lib.hid h
  obtain ⟨Ai, ci, Ad, cd, rfl, -, -, -, -, -⟩ := h
  clear hm
  go_enter Tryz.func10, Tryz.ntmps10
  go_wp2_with fail
  refine (cmay6_any m _ _ (HV.out.below (below_new (Below.refl _ _) _))).mono ?_; rintro e w1 ⟨rfl, hb1⟩; rw [HM.out]
  go_wp2_with fail
  go_ret2
  exact ⟨rfl, (below_new (Below.refl _ _) _).trans (hb1.mono (by simp))⟩

end Go.Proofs.YtpfoclpgcbjjoaaGreatDoor

/- The text of a module: the code's Print of one that may be. -/
namespace Go.Proofs.YtpfoclpgcbjjoaaGreatDoor
open Go.RowKit
open Go.Sort
open M

def tI (xs : List Im) : ByteArray := ⟨(textI xs).toArray⟩
theorem tI_eq {s : ByteArray} {xs : List Im} (h : s.data.toList = textI xs) : s = tI xs := bytes_ext' (by rw [h]; unfold tI; simp)
theorem textIB_any (A : Option Addr) (c n : Nat) (xs : List Im) (w : World) (hn : xs.length = n) (hz : n ≤ 1000) (hS : RowIn imR w A xs) (hM : ∀ x ∈ xs, mayI x = true) (hp : Pow w) :
    Calls Tryz.prog 28 #[.slice A n c] w fun e w' => e = .returned (.string (tI xs)) ∧ Below w.heap.size w w' :=
  (textI_any A c n xs w hn hz hS hM hp).mono fun e w' ⟨s, he, hs, _, hb⟩ => ⟨by rw [he, tI_eq hs], hb⟩

set_option maxRecDepth 100000 in
set_option maxHeartbeats 8000000 in
theorem cprint_yes (m : Mo) (l : List Value) (w : World) (h : MoAt w l m) (hm : mayM m = true) (hp : Pow w) : Calls Tryz.prog 10 #[.agg l.toArray] w fun e w' => e = .returned (.tuple #[.string ⟨(textM m).toArray⟩, .nilIface]) ∧ Below w.heap.size w w' := by
  have HM := Lib.hid hm
  have HV := Lib.hid h
  have HP := Lib.hid hp
  obtain ⟨zn, zi, zd, mi, md⟩ := mayM_bd hm
  have li := textI_len _ mi
  have HMD := Lib.hid md
  have HMI := Lib.hid mi
  obtain ⟨Ai, ci, Ad, cd, rfl, -, -, -, hI, hD⟩ := h
  have HI := Lib.hid hI
  have HD := Lib.hid hD
  clear hm hp hI hD md mi
  obtain ⟨w0, hw0⟩ : ∃ w0, w0 = w.alloc (.cells #[.string m.name, .slice Ai m.imps.length ci, .slice Ad m.decs.length cd] 25) := ⟨_, rfl⟩
  have HB0 : Hid (Below w.heap.size w w0) := Lib.hid (by rw [hw0]; exact below_new (Below.refl _ _) _)
  have HO0 : Hid (w0.heap[w.heap.size]? = some (.cells #[.string m.name, .slice Ai m.imps.length ci, .slice Ad m.decs.length cd] 25 (0, 0))) := Lib.hid (by rw [hw0]; exact heap_alloc_new w _)
  have HW0 := Lib.hid hw0
  have hl0 : w.heap.size < w0.heap.size := by rw [hw0]; simp
  clear hw0
  go_enter Tryz.func10, Tryz.ntmps10
  go_wp2_with fail
  rw [← HW0.out]
  refine (cmay6_any m _ _ (HV.out.below HB0.out)).mono ?_; rintro e w1 ⟨rfl, hb1⟩; rw [HM.out]
  have HB1 : Hid (Below w.heap.size w w1) := Lib.hid (below_over HB0.out hb1)
  have HO1 : Hid (w1.heap[w.heap.size]? = some (.cells #[.string m.name, .slice Ai m.imps.length ci, .slice Ad m.decs.length cd] 25 (0, 0))) := Lib.hid ((hb1.block _ hl0).trans HO0.out)
  have hl1 : w.heap.size < w1.heap.size := Nat.lt_of_lt_of_le hl0 hb1.size
  clear hb1 HB0 HO0 HW0 hl0
  obtain ⟨wb, hwb⟩ : ∃ wb, wb = w1.alloc (.cells #[.pointer none, .slice none 0 0] 58) := ⟨_, rfl⟩
  have HBB : Hid (Below w1.heap.size w1 wb) := Lib.hid (by rw [hwb]; exact below_new (Below.refl _ _) _)
  have H0 : Hid (Wr w1.heap.size w1.heap.size wb [] wb) := Lib.hid (by rw [hwb]; exact ⟨Lib.fresh_isBuilder 58 5 w1, Below.refl _ _, Lib.OthersKept.refl _ _ _⟩)
  have HOb : Hid (wb.heap[w.heap.size]? = some (.cells #[.string m.name, .slice Ai m.imps.length ci, .slice Ad m.decs.length cd] 25 (0, 0))) := Lib.hid ((HBB.out.block _ hl1).trans HO1.out)
  have HWB := Lib.hid hwb
  have HXw : Hid (Below w.heap.size w wb) := Lib.hid (below_over HB1.out HBB.out)
  clear hwb
  go_upto_region 4 with fail
  rw [← HWB.out]
  have zt : (tI m.imps).size = (textI m.imps).length := by rw [← len_size]; unfold tI; simp
  have n1 : ¬ (7 + m.name.size > 9223372036854775807) := by omega
  have n2 : ¬ (7 + m.name.size + 1 > 9223372036854775807) := by omega
  have n3 : ¬ (7 + m.name.size + 1 + (tI m.imps).size > 9223372036854775807) := by omega
  have HJ : Hid ((⟨#[109, 111, 100, 117, 108, 101, 32]⟩ ++ m.name ++ ⟨#[10]⟩ ++ tI m.imps : ByteArray).data.toList = headM m) := Lib.hid (by unfold headM tI; simp)
  have HZ : Hid ((⟨#[109, 111, 100, 117, 108, 101, 32]⟩ ++ m.name ++ ⟨#[10]⟩ ++ tI m.imps : ByteArray).size = (headM m).length) := Lib.hid (by rw [← HJ.out, len_size])
  have HZ2 : Hid ((headM m).length ≤ 2428) := Lib.hid (by unfold headM; simp only [List.length_append, len_size, List.length_cons, List.length_nil]; omega)
  have cD : ∀ dd os, Calls Tryz.prog 28 #[.slice Ai m.imps.length ci] (Sort.grow (redrawn wb dd) os) fun e w'' => e = .returned (.string (tI m.imps)) ∧ ∃ pp : Regrown, w'' = Sort.grow (redrawn wb pp.d) pp.os := fun dd os => Calls.regrown_of (textIB_any Ai ci _ m.imps _ rfl (by omega) ((HI.out.below HXw.out).below (below_regrown _ dd os)) HMI.out ((HP.out.on HXw.out).on (below_regrown _ dd os)))
  have y0 := Lib.cell_of_heap HOb.out 0
  have y1 := Lib.cell_of_heap HOb.out 1
  simp at y0 y1
  have p0 := cell_regrown y0
  have p1 := cell_regrown y1
  refine wp_region_last (C := fun w' => ∃ p : Regrown, w' = Sort.grow (redrawn wb p.d) p.os) (by kernel_rfl) rfl rfl (by kernel_rfl) (by intro cs b h; cases h) (by kernel_rfl) (by kernel_rfl) (by kernel_rfl) ⟨⟨wb.drawn + 1, #[]⟩, by rw [grow_empty]; rfl⟩ ?_
  unfold tameLast
  simp only [List.dropLast, List.cons_append, List.nil_append]
  repeat (any_goals (first | go_big_quiet_step (with_reducible exact cD _ _) | quiet_step (with_reducible exact cD _ _)))
  refine wpQuiet_nil ?_
  intro w' hw'
  obtain ⟨⟨dq, osq⟩, hw''⟩ := hw'
  subst hw''
  have g1 := H0.out.below (below_regrown wb dq osq)
  refine ⟨27, #[.pointer (some ⟨w1.heap.size, 0, none⟩), .string (⟨#[109, 111, 100, 117, 108, 101, 32]⟩ ++ m.name ++ ⟨#[10]⟩ ++ tI m.imps : ByteArray)], by go_simp, ?_⟩
  refine (wr_str g1 _ ?_).mono ?_
  · rw [HZ.out]; have := HZ2.out; simp; omega
  rintro e w3 ⟨rfl, g3⟩
  refine ⟨_, rfl, ?_⟩
  rw [HJ.out, List.nil_append] at g3
  have HG := Lib.hid g3
  have hne : w.heap.size ≠ w1.heap.size := by omega
  have yu : w3.cell? ⟨w.heap.size, 2, none⟩ = some (.slice Ad m.decs.length cd) := kept_cell g3.2.2 HOb.out hne (by decide) 2
  clear g1 g3 p0 p1 y0 y1 n1 n2 n3 cD
  obtain ⟨nd, hnd⟩ : ∃ nd, nd = m.decs.length := ⟨_, rfl⟩
  rw [← hnd] at yu zd
  have HND := Lib.hid hnd
  clear hnd
  go_wp2_with fail
  go_loopw [23] (fun iv wr => ∃ k : Nat, k ≤ nd ∧ iv = .int .i64 k ∧ Hid (Wr w1.heap.size w1.heap.size wb (headM m ++ textD (m.decs.take k)) wr)) (fun iv _ => nd - (intOf iv).toNat)
  case atStart => exact ⟨0, by omega, rfl, Lib.hid (HG.out.eq (by simp [textD]))⟩
  case round =>
    obtain ⟨k, hk, rfl, HK⟩ := hrel
    obtain ⟨wo, rfl⟩ : ∃ wo : World, wo = wr := ⟨_, rfl⟩
    have HBo : Hid (Below w.heap.size w wo) := Lib.hid (HXw.out.trans (HK.out.2.1.mono HB1.out.size))
    by_cases hlt : k < nd
    · obtain ⟨x, hx⟩ : ∃ x, m.decs[k]? = some x := ⟨_, List.getElem?_eq_getElem (by rw [← HND.out]; exact hlt)⟩
      have hmx := HMD.out x (List.mem_of_getElem? hx)
      obtain ⟨g, o, v0, v1, v2, v3, v4, v5, v6, rfl, -, a0, a1, u0, u1, u2, u3, u4, u5, u6, us, -⟩ := (HD.out.below HBo.out).de hx
      obtain ⟨An, cA, As, cS, ev, -⟩ := us.parts
      simp only [List.cons.injEq, and_true] at ev
      obtain ⟨rfl, rfl, rfl, rfl, rfl, rfl, rfl⟩ := ev
      obtain ⟨w8, hw8⟩ : ∃ w8, w8 = wo.alloc (.cells #[.int .i64 x.kind, .string x.name, .int .i64 x.typ.kind, .string x.typ.pkg, .int .i64 x.typ.major, .string x.typ.mod, .string x.typ.name, .slice An x.typ.names.length cA, .slice As x.typ.subs.length cS] 52) := ⟨_, rfl⟩
      have B8 : Below wo.heap.size wo w8 := by rw [hw8]; exact below_new (Below.refl _ _) _
      have LN := Lib.hid (line_any x.kind x.name x.typ An As cA cS w8 (us.keep B8) hmx ((HP.out.on HBo.out).on B8))
      have G8 : Hid (Wr w1.heap.size w1.heap.size wb (headM m ++ textD (m.decs.take k)) w8) := Lib.hid (by rw [hw8]; exact HK.out.alloc _)
      have HW8 := Lib.hid hw8
      have HX := Lib.hid hx
      have HL : Hid ((headM m ++ textD (m.decs.take k)).length + (txD x).size ≤ 4000000) := Lib.hid (by
        have h1 := HZ2.out
        have h2 := textD_len (m.decs.take k) (fun y hy => HMD.out y (List.mem_of_mem_take hy))
        have h3 := txD_size hmx
        rw [List.length_take] at h2
        have h4 : min k m.decs.length ≤ k := Nat.min_le_left _ _
        rw [List.length_append]
        omega)
      clear hx hmx us B8 hw8
      go_wp2_with fail
      rw [← HW8.out]
      refine LN.out.mono ?_; rintro e w4 ⟨rfl, hb4⟩
      have G4 := Lib.hid (G8.out.below hb4)
      clear a0 a1 u0 u1 u2 u3 u4 u5 u6 hb4 LN HW8
      go_wp2_with fail
      refine (wr_str G4.out (txD x) HL.out).mono ?_; rintro e w5 ⟨rfl, g5⟩
      have G5 := Lib.hid g5
      clear g5
      go_wp2_with fail
      go_roundw
      case rel => exact ⟨k + 1, by omega, by go_num, Lib.hid (G5.out.eq (by rw [textD_take _ _ _ HX.out]; simp [List.append_assoc]))⟩
      case measure => simp [intOf]; omega
    · have GF : Hid (Wr w1.heap.size w1.heap.size wb (textM m) wo) := Lib.hid (HK.out.eq (by
        rw [List.take_of_length_le (by rw [← HND.out]; omega)]; rfl))
      have hsz : w1.heap.size ≤ wo.heap.size := by have := GF.out.lt; omega
      go_wp2_with fail
      refine (Tryz.Builder_String_any w1.heap.size w1.heap.size (textM m) _ GF.out.1 hsz).mono ?_; rintro e w6 ⟨rfl, hb6⟩
      go_wp2_with fail
      go_ret2
      exact ⟨rfl, HBo.out.trans (hb6.mono HB1.out.size)⟩

end Go.Proofs.YtpfoclpgcbjjoaaGreatDoor

/- The text of a module: the reference's Print. -/
namespace Go.Proofs.YtpfoclpgcbjjoaaGreatDoor
open Go.RowKit
open Go.Sort
open M

set_option maxRecDepth 100000 in
set_option maxHeartbeats 8000000 in
theorem rprint6_any (m : Mo) (l : List Value) (w : World) (h : MoAt w l m) (hm : mayM m = true) : Calls Tryz.prog 13 #[.agg l.toArray] w fun e w' => e = .returned (.string ⟨(textM m).toArray⟩) ∧ Below w.heap.size w w' := by
  obtain ⟨zn, zi, zd, mi, md⟩ := mayM_bd hm
  have HMD := Lib.hid md
  have HMI := Lib.hid mi
  obtain ⟨Ai, ci, Ad, cd, rfl, -, -, -, hI, hD⟩ := h
  have HI := Lib.hid hI
  have HD := Lib.hid hD
  clear hm hI hD md mi
  obtain ⟨ni, hni⟩ : ∃ ni, ni = m.imps.length := ⟨_, rfl⟩
  obtain ⟨nd, hnd⟩ : ∃ nd, nd = m.decs.length := ⟨_, rfl⟩
  rw [← hni] at zi
  rw [← hnd] at zd
  rw [← hni, ← hnd]
  have HNI := Lib.hid hni
  have HND := Lib.hid hnd
  clear hni hnd
  obtain ⟨w0, hw0⟩ : ∃ w0, w0 = w.alloc (.cells #[.string m.name, .slice Ai ni ci, .slice Ad nd cd] 25) := ⟨_, rfl⟩
  have HB0 : Hid (Below w.heap.size w w0) := Lib.hid (by rw [hw0]; exact below_new (Below.refl _ _) _)
  have HO0 : Hid (w0.heap[w.heap.size]? = some (.cells #[.string m.name, .slice Ai ni ci, .slice Ad nd cd] 25 (0, 0))) := Lib.hid (by rw [hw0]; exact heap_alloc_new w _)
  have HW0 := Lib.hid hw0
  have hl0 : w.heap.size < w0.heap.size := by rw [hw0]; simp
  clear hw0
  have n1 : ¬ (7 + m.name.size > 9223372036854775807) := by omega
  have n2 : ¬ (7 + m.name.size + 1 > 9223372036854775807) := by omega
  have y0 := Lib.cell_of_heap HO0.out 0
  simp at y0
  go_enter Tryz.func13, Tryz.ntmps13
  go_upto_region 1 with fail
  rw [← HW0.out]
  go_wp2_with fail
  clear n1 n2 y0 HW0
  go_loopw [3, 4] (fun sv iv wr => ∃ (k : Nat) (acc : ByteArray), k ≤ ni ∧ iv = .int .i64 k ∧ sv = .string acc ∧ Hid (acc.data.toList = [109, 111, 100, 117, 108, 101, 32] ++ m.name.data.toList ++ [10] ++ textI (m.imps.take k)) ∧ acc.size ≤ 28 + 120 * k ∧ Below w0.heap.size w0 wr) (fun _ iv _ => ni - (intOf iv).toNat)
  case atStart =>
    refine ⟨0, _, by omega, rfl, rfl, Lib.hid (by simp [textI]), ?_, Below.refl _ _⟩
    simp only [ByteArray.size_append, show (⟨#[109, 111, 100, 117, 108, 101, 32]⟩ : ByteArray).size = 7 from rfl, show (⟨#[10]⟩ : ByteArray).size = 1 from rfl]
    omega
  case round =>
    obtain ⟨k, acc, hk, rfl, rfl, HA, ha, hb⟩ := hrel
    obtain ⟨wo, rfl⟩ : ∃ wo : World, wo = wr := ⟨_, rfl⟩
    have O := (hb.block _ hl0).trans HO0.out
    have y1 := Lib.cell_of_heap O 1
    simp at y1
    by_cases hlt : k < ni
    · obtain ⟨x, hx⟩ : ∃ x, m.imps[k]? = some x := ⟨_, List.getElem?_eq_getElem (by rw [← HNI.out]; exact hlt)⟩
      obtain ⟨g, o, rfl, -, a0, a1, a2, a3, -, -, -⟩ := (HI.out.below (below_over HB0.out hb)).im hx
      have hmx := HMI.out x (List.mem_of_getElem? hx)
      have HZ := Lib.hid (txI_size hmx)
      obtain ⟨z0, z1, z2, m1, m2⟩ := mayI_bd hmx
      have zd := dec_size x.major (by omega) (by omega)
      have HX := Lib.hid hx
      obtain ⟨w8, hw8⟩ : ∃ w8, w8 = wo.alloc (.cells #[.string x.pkg, .int .i64 x.major, .string x.mod, .string x.asn] 67) := ⟨_, rfl⟩
      have HB8 : Hid (Below w0.heap.size w0 w8) := Lib.hid (by rw [hw8]; exact below_new hb _)
      have O8 : w8.heap[wo.heap.size]? = some (.cells #[.string x.pkg, .int .i64 x.major, .string x.mod, .string x.asn] 67 (0, 0)) := by rw [hw8]; exact heap_alloc_new wo _
      have x0 := Lib.cell_of_heap O8 0
      have x1 := Lib.cell_of_heap O8 1
      have x2 := Lib.cell_of_heap O8 2
      have x3 := Lib.cell_of_heap O8 3
      simp at x0 x1 x2 x3
      have p0 := cell_regrown x0
      have p1 := cell_regrown x1
      have p2 := cell_regrown x2
      have p3 := cell_regrown x3
      have cD : ∀ dd os, Calls Tryz.prog 38 #[.int .i64 x.major] (Sort.grow (redrawn w8 dd) os) fun e w'' => e = .returned (.string (dec x.major)) ∧ ∃ pp : Regrown, w'' = Sort.grow (redrawn w8 pp.d) pp.os := fun dd os => Calls.regrown_of (digits_any _ _ (by omega) (by omega))
      have HW8 := Lib.hid hw8
      have n1 : ¬ (acc.size + 7 > 9223372036854775807) := by omega
      have n2 : ¬ (acc.size + 7 + x.pkg.size > 9223372036854775807) := by omega
      have n3 : ¬ (acc.size + 7 + x.pkg.size + 1 > 9223372036854775807) := by omega
      have n4 : ¬ (acc.size + 7 + x.pkg.size + 1 + (dec x.major).size > 9223372036854775807) := by omega
      have n5 : ¬ (acc.size + 7 + x.pkg.size + 1 + (dec x.major).size + 1 > 9223372036854775807) := by omega
      have n6 : ¬ (acc.size + 7 + x.pkg.size + 1 + (dec x.major).size + 1 + x.mod.size > 9223372036854775807) := by omega
      have n7 : ¬ (acc.size + 7 + x.pkg.size + 1 + (dec x.major).size + 1 + x.mod.size + 4 > 9223372036854775807) := by omega
      have n8 : ¬ (acc.size + 7 + x.pkg.size + 1 + (dec x.major).size + 1 + x.mod.size + 4 + x.asn.size > 9223372036854775807) := by omega
      have n9 : ¬ (acc.size + 7 + x.pkg.size + 1 + (dec x.major).size + 1 + x.mod.size + 4 + x.asn.size + 1 > 9223372036854775807) := by omega
      have HE : Hid ((acc ++ ⟨#[105, 109, 112, 111, 114, 116, 32]⟩ ++ x.pkg ++ ⟨#[32]⟩ ++ dec x.major ++ ⟨#[32]⟩ ++ x.mod ++ ⟨#[32, 97, 115, 32]⟩ ++ x.asn ++ ⟨#[10]⟩ : ByteArray) = acc ++ txI x) := Lib.hid (bytes_ext' (by unfold txI; simp))
      clear hx hmx hw8 O8 hb O x0 x1 x2 x3
      go_wp2_with fail
      rw [← HW8.out]
      clear HW8 a0 a1 a2 a3 y1
      refine wp_region_quiet_below (by kernel_rfl) (by kernel_rfl) ?_
      repeat (any_goals (first | go_big_quiet_step (with_reducible exact cD _ _) | quiet_step (with_reducible exact cD _ _)))
      refine wpQuiet_nil ?_
      intro _ hw'
      obtain ⟨⟨dq, osq⟩, hw''⟩ := hw'
      subst hw''
      have HB9 := Lib.hid (below_over HB8.out (below_regrown w8 dq osq))
      clear n1 n2 n3 n4 n5 n6 n7 n8 n9 p0 p1 p2 p3 cD
      go_wp2_with fail
      go_roundw
      case rel =>
        refine ⟨k + 1, acc ++ txI x, by omega, by go_num, by rw [HE.out], Lib.hid (by rw [textI_take _ _ _ HX.out, ByteArray.data_append, Array.toList_append, HA.out]; simp [List.append_assoc]), by rw [ByteArray.size_append]; have := HZ.out; omega, HB9.out⟩
      case measure => simp [intOf]; omega
    · have R : Hid (acc.data.toList = headM m) := Lib.hid (by
        have h := HA.out
        rw [List.take_of_length_le (by rw [← HNI.out]; omega)] at h
        exact h)
      have ha2 : acc.size ≤ 2428 := by omega
      have HBo := Lib.hid hb
      clear HA ha
      go_wp2_with fail
      clear y1 O hb
      go_loopw [3, 6] (fun sv iv wr => ∃ (k : Nat) (acc : ByteArray), k ≤ nd ∧ iv = .int .i64 k ∧ sv = .string acc ∧ Hid (acc.data.toList = headM m ++ textD (m.decs.take k)) ∧ acc.size ≤ 2428 + 62030 * k ∧ Below w0.heap.size w0 wr) (fun _ iv _ => nd - (intOf iv).toNat)
      case atStart => exact ⟨0, acc, by omega, rfl, rfl, Lib.hid (by rw [R.out]; simp [textD]), by omega, HBo.out⟩
      case round =>
        obtain ⟨j, acc, hj, rfl, rfl, HA, ha, hb⟩ := hrel
        obtain ⟨wo, rfl⟩ : ∃ wo : World, wo = wr := ⟨_, rfl⟩
        have O := (hb.block _ hl0).trans HO0.out
        have y2 := Lib.cell_of_heap O 2
        simp at y2
        by_cases hlt : j < nd
        · obtain ⟨x, hx⟩ : ∃ x, m.decs[j]? = some x := ⟨_, List.getElem?_eq_getElem (by rw [← HND.out]; exact hlt)⟩
          have hmx := HMD.out x (List.mem_of_getElem? hx)
          obtain ⟨g, o, v0, v1, v2, v3, v4, v5, v6, rfl, -, a0, a1, u0, u1, u2, u3, u4, u5, u6, us, -⟩ := (HD.out.below (below_over HB0.out hb)).de hx
          obtain ⟨An, cA, As, cS, ev, -⟩ := us.parts
          simp only [List.cons.injEq, and_true] at ev
          obtain ⟨rfl, rfl, rfl, rfl, rfl, rfl, rfl⟩ := ev
          obtain ⟨zs, hK⟩ := mayD_bd hmx
          have HZ := Lib.hid (txD_size hmx)
          have HX := Lib.hid hx
          have HKK := Lib.hid hK
          obtain ⟨w8, hw8⟩ : ∃ w8, w8 = wo.alloc (.cells #[.int .i64 x.kind, .string x.name, .int .i64 x.typ.kind, .string x.typ.pkg, .int .i64 x.typ.major, .string x.typ.mod, .string x.typ.name, .slice An x.typ.names.length cA, .slice As x.typ.subs.length cS] 52) := ⟨_, rfl⟩
          have B8 : Below wo.heap.size wo w8 := by rw [hw8]; exact below_new (Below.refl _ _) _
          have HB8 : Hid (Below w0.heap.size w0 w8) := Lib.hid (below_over hb B8)
          have HU := Lib.hid (us.keep B8)
          have O8 : w8.heap[wo.heap.size]? = some (.cells #[.int .i64 x.kind, .string x.name, .int .i64 x.typ.kind, .string x.typ.pkg, .int .i64 x.typ.major, .string x.typ.mod, .string x.typ.name, .slice An x.typ.names.length cA, .slice As x.typ.subs.length cS] 52 (0, 0)) := by rw [hw8]; exact heap_alloc_new wo _
          have HW8 := Lib.hid hw8
          have x0 := Lib.cell_of_heap O8 0
          have x1 := Lib.cell_of_heap O8 1
          have x2 := Lib.cell_of_heap O8 2
          have x3 := Lib.cell_of_heap O8 3
          have x4 := Lib.cell_of_heap O8 4
          have x5 := Lib.cell_of_heap O8 5
          have x6 := Lib.cell_of_heap O8 6
          have x7 := Lib.cell_of_heap O8 7
          have x8 := Lib.cell_of_heap O8 8
          simp at x0 x1 x2 x3 x4 x5 x6 x7 x8
          clear hx hmx us B8 hw8 hK O hb O8
          go_upto_region 11 with fail
          rw [← HW8.out]
          clear HW8 a0 a1 u0 u1 u2 u3 u4 u5 u6 y2
          by_cases h1 : x.kind = 1
          · have HE : Hid ((acc ++ ⟨#[111, 112, 97, 113, 117, 101, 32]⟩ ++ x.name ++ ⟨#[10]⟩ : ByteArray) = acc ++ txD x) := Lib.hid (bytes_ext' (by unfold txD; rw [if_pos h1]; simp))
            have b1 : (x.kind == 1) = true := by rw [h1]; rfl
            have b2 : (x.kind == 2) = false := by rw [h1]; rfl
            have b3 : (x.kind == 3) = false := by rw [h1]; rfl
            have b4 : (x.kind == 4) = false := by rw [h1]; rfl
            clear h1
            have n1 : ¬ (acc.size + 7 > 9223372036854775807) := by omega
            have n2 : ¬ (acc.size + 7 + x.name.size > 9223372036854775807) := by omega
            have n3 : ¬ (acc.size + 7 + x.name.size + 1 > 9223372036854775807) := by omega
            go_wp2_with fail
            go_roundw
            case rel => exact ⟨j + 1, acc ++ txD x, by omega, by go_num, by rw [HE.out], Lib.hid (by rw [textD_take _ _ _ HX.out, ByteArray.data_append, Array.toList_append, HA.out]; simp [List.append_assoc]), by rw [ByteArray.size_append]; have := HZ.out; omega, HB8.out⟩
            case measure => simp [intOf]; omega
          by_cases h2 : x.kind = 2
          · have HE : Hid ((acc ++ ⟨#[104, 105, 100, 100, 101, 110, 32]⟩ ++ x.name ++ ⟨#[10]⟩ : ByteArray) = acc ++ txD x) := Lib.hid (bytes_ext' (by unfold txD; rw [if_neg h1, if_pos h2]; simp))
            have b1 : (x.kind == 1) = false := by simpa using h1
            have b2 : (x.kind == 2) = true := by rw [h2]; rfl
            have b3 : (x.kind == 3) = false := by rw [h2]; rfl
            have b4 : (x.kind == 4) = false := by rw [h2]; rfl
            clear h2 h1
            have n1 : ¬ (acc.size + 7 > 9223372036854775807) := by omega
            have n2 : ¬ (acc.size + 7 + x.name.size > 9223372036854775807) := by omega
            have n3 : ¬ (acc.size + 7 + x.name.size + 1 > 9223372036854775807) := by omega
            go_wp2_with fail
            go_roundw
            case rel => exact ⟨j + 1, acc ++ txD x, by omega, by go_num, by rw [HE.out], Lib.hid (by rw [textD_take _ _ _ HX.out, ByteArray.data_append, Array.toList_append, HA.out]; simp [List.append_assoc]), by rw [ByteArray.size_append]; have := HZ.out; omega, HB8.out⟩
            case measure => simp [intOf]; omega
          have hmt : mayT x.typ = true := by
            rcases HKK.out with h | h
            · exact absurd h.1 (by simp [h1, h2])
            · exact h.2
          have hk34 : x.kind = 3 ∨ x.kind = 4 := by
            rcases HKK.out with h | h
            · exact absurd h.1 (by simp [h1, h2])
            · exact h.1
          obtain ⟨hok, hmany, zt⟩ := mayT_bd hmt
          have cP : ∀ dd os, Calls Tryz.prog 39 #[.agg #[.int .i64 x.typ.kind, .string x.typ.pkg, .int .i64 x.typ.major, .string x.typ.mod, .string x.typ.name, .slice An x.typ.names.length cA, .slice As x.typ.subs.length cS]] (Sort.grow (redrawn w8 dd) os) fun e w'' => e = .returned (.string (tB x.typ)) ∧ ∃ pp : Regrown, w'' = Sort.grow (redrawn w8 pp.d) pp.os := fun dd os => Calls.regrown_of (print_any _ x.typ (Nat.le_refl _) (by omega) hok _ _ ⟨_, rfl, HU.out.keep (below_regrown w8 dd os)⟩)
          have p1 := cell_regrown x1
          have p2 := cell_regrown x2
          have p3 := cell_regrown x3
          have p4 := cell_regrown x4
          have p5 := cell_regrown x5
          have p6 := cell_regrown x6
          have p7 := cell_regrown x7
          have p8 := cell_regrown x8
          clear hmt hok hmany
          by_cases h3 : x.kind = 3
          · have HE : Hid ((acc ++ ⟨#[97, 108, 105, 97, 115, 32]⟩ ++ x.name ++ ⟨#[32, 61, 32]⟩ ++ tB x.typ ++ ⟨#[10]⟩ : ByteArray) = acc ++ txD x) := Lib.hid (bytes_ext' (by unfold txD; rw [if_neg h1, if_neg h2, if_pos h3]; simp))
            have b1 : (x.kind == 1) = false := by simpa using h1
            have b2 : (x.kind == 2) = false := by simpa using h2
            have b3 : (x.kind == 3) = true := by rw [h3]; rfl
            have b4 : (x.kind == 4) = false := by rw [h3]; rfl
            clear h1 h2 h3 hk34
            have n1 : ¬ (acc.size + 6  > 9223372036854775807) := by omega
            have n2 : ¬ (acc.size + 6 + x.name.size > 9223372036854775807) := by omega
            have n3 : ¬ (acc.size + 6 + x.name.size + 3 > 9223372036854775807) := by omega
            have n4 : ¬ (acc.size + 6 + x.name.size + 3 + (tB x.typ).size > 9223372036854775807) := by omega
            have n5 : ¬ (acc.size + 6 + x.name.size + 3 + (tB x.typ).size + 1 > 9223372036854775807) := by omega
            go_wp2_with fail
            refine wp_region_quiet_below (by kernel_rfl) (by kernel_rfl) ?_
            repeat (any_goals (first | go_big_quiet_step (with_reducible exact cP _ _) | quiet_step (with_reducible exact cP _ _)))
            refine wpQuiet_nil ?_
            intro _ hw'
            obtain ⟨⟨dq, osq⟩, hw''⟩ := hw'
            subst hw''
            have HB9 := Lib.hid (below_over HB8.out (below_regrown w8 dq osq))
            clear p1 p2 p3 p4 p5 p6 p7 p8 x0 x1 x2 x3 x4 x5 x6 x7 x8 cP
            go_wp2_with fail
            go_roundw
            case rel => exact ⟨j + 1, acc ++ txD x, by omega, by go_num, by rw [HE.out], Lib.hid (by rw [textD_take _ _ _ HX.out, ByteArray.data_append, Array.toList_append, HA.out]; simp [List.append_assoc]), by rw [ByteArray.size_append]; have := HZ.out; omega, HB9.out⟩
            case measure => simp [intOf]; omega
          have h4 : x.kind = 4 := by omega
          have HE : Hid ((acc ++ ⟨#[118, 97, 108, 32]⟩ ++ x.name ++ ⟨#[32, 58, 32]⟩ ++ tB x.typ ++ ⟨#[10]⟩ : ByteArray) = acc ++ txD x) := Lib.hid (bytes_ext' (by unfold txD; rw [if_neg h1, if_neg h2, if_neg h3]; simp))
          have b1 : (x.kind == 1) = false := by simpa using h1
          have b2 : (x.kind == 2) = false := by simpa using h2
          have b3 : (x.kind == 3) = false := by simpa using h3
          have b4 : (x.kind == 4) = true := by rw [h4]; rfl
          clear h1 h2 h3 hk34 h4
          have n1 : ¬ (acc.size + 4  > 9223372036854775807) := by omega
          have n2 : ¬ (acc.size + 4 + x.name.size > 9223372036854775807) := by omega
          have n3 : ¬ (acc.size + 4 + x.name.size + 3 > 9223372036854775807) := by omega
          have n4 : ¬ (acc.size + 4 + x.name.size + 3 + (tB x.typ).size > 9223372036854775807) := by omega
          have n5 : ¬ (acc.size + 4 + x.name.size + 3 + (tB x.typ).size + 1 > 9223372036854775807) := by omega
          go_wp2_with fail
          refine wp_region_quiet_below (by kernel_rfl) (by kernel_rfl) ?_
          repeat (any_goals (first | go_big_quiet_step (with_reducible exact cP _ _) | quiet_step (with_reducible exact cP _ _)))
          refine wpQuiet_nil ?_
          intro _ hw'
          obtain ⟨⟨dq, osq⟩, hw''⟩ := hw'
          subst hw''
          have HB9 := Lib.hid (below_over HB8.out (below_regrown w8 dq osq))
          clear p1 p2 p3 p4 p5 p6 p7 p8 x0 x1 x2 x3 x4 x5 x6 x7 x8 cP
          go_wp2_with fail
          go_roundw
          case rel => exact ⟨j + 1, acc ++ txD x, by omega, by go_num, by rw [HE.out], Lib.hid (by rw [textD_take _ _ _ HX.out, ByteArray.data_append, Array.toList_append, HA.out]; simp [List.append_assoc]), by rw [ByteArray.size_append]; have := HZ.out; omega, HB9.out⟩
          case measure => simp [intOf]; omega
        · have R2 : Hid (acc = ⟨(textM m).toArray⟩) := Lib.hid (bytes_ext' (by
            have h := HA.out
            rw [List.take_of_length_le (by rw [← HND.out]; omega)] at h
            rw [h]; simp [textM]))
          have HBf := Lib.hid (below_over HB0.out hb)
          go_wp2_with fail
          go_ret
          exact ⟨by rw [R2.out]; rfl, HBf.out⟩

end Go.Proofs.YtpfoclpgcbjjoaaGreatDoor

/- The walk of Plain (the reference of layer 4). -/
namespace Go.Proofs.YtpfoclpgcbjjoaaGreatDoor
open Go.RowKit
open M

end Go.Proofs.YtpfoclpgcbjjoaaGreatDoor

/- Walks of package kind's hasLocal, and of the library's IndexFunc, ContainsFunc at it. -/
namespace Go.Proofs.YtpfoclpgcbjjoaaGreatDoor
open Go.RowKit
open M

end Go.Proofs.YtpfoclpgcbjjoaaGreatDoor

/- Walks of package kind's alike, of the library's Equal and EqualFunc at it, and of Same and Plain. -/
namespace Go.Proofs.YtpfoclpgcbjjoaaGreatDoor
open Go.RowKit
open Go.Sort
open M

theorem sameL_no {a b : List Ty} (h : a ≠ b) : sameL a b = false := by
  rw [Bool.eq_false_iff, ne_eq, sameL_iff]; exact h

end Go.Proofs.YtpfoclpgcbjjoaaGreatDoor

/- '==' between two interface values of one integer type is as the numbers are: a law of the model, over any program. -/
namespace Go.Proofs.YtpfoclpgcbjjoaaGreatDoor
section
variable {P : Program} (w : World)

theorem run_equalIn_iface_int (d : Nat) {ti tn : TypeId} {ms : Array (String × TypeId)} {i : TypeInfo} {k : IntKind} (a b : Int)
    (hi : P.underlying ti = some (.interface ms)) (hn : P.underlying tn = some (.int k)) (hinfo : P.info? tn = some i) (hcomp : i.comparable = true) :
    (Op.equalIn (d + 2) ti (.iface tn (.int k a)) (.iface tn (.int k b))).run P w = .ok (a == b) w := by
  simp [Op.equalIn, run_underlying hi, run_underlying hn, typeInfo, hinfo, hcomp]

/-- x == y, both interface values of ONE integer type: as the numbers are. -/
theorem run_eql_iface_int {ti tn : TypeId} {ms : Array (String × TypeId)} {i : TypeInfo} {k : IntKind} (a b : Int)
    (hi : P.underlying ti = some (.interface ms)) (hn : P.underlying tn = some (.int k)) (hinfo : P.info? tn = some i) (hcomp : i.comparable = true) :
    (binOp .eql ti (.iface tn (.int k a)) (.iface tn (.int k b))).run P w = .ok (.bool (a == b)) w := by
  simp only [binOp]
  simp [Op.equal, Op.maxDepth, run_equalIn_iface_int w 9998 a b hi hn hinfo hcomp]
end
end Go.Proofs.YtpfoclpgcbjjoaaGreatDoor

/- The walk of the document's example, which stands at the head of every statement of layer 4: it answers true. -/
namespace Go.Proofs.YtpfoclpgcbjjoaaGreatDoor
open Go.RowKit
open M

theorem code_comparable : (Tryz.prog.info? 32).map (·.comparable) = some true := by kernel_rfl
/-- '==' between two errors of package api. -/
theorem eqErr (a b : Int) (w : World) : (binOp .eql 29 (.iface 32 (.int .i64 a)) (.iface 32 (.int .i64 b))).run Tryz.prog w = .ok (.bool (a == b)) w := by
  obtain ⟨i, hi, hc⟩ := Option.map_eq_some_iff.1 code_comparable
  exact run_eql_iface_int w a b Tryz.underlying29 Tryz.underlying32 hi hc

def leafT (k : Int) : Ty := .mk k ⟨#[]⟩ 0 ⟨#[]⟩ ⟨#[]⟩ [] []
def leafC (k : Int) : List Value := [.int .i64 k, .string ⟨#[]⟩, .int .i64 0, .string ⟨#[]⟩, .string ⟨#[]⟩, .slice none 0 0, .slice none 0 0]
theorem leaf_at (w : World) (k : Int) : TyAt w (leafC k) (leafT k) :=
  .mk k ⟨#[]⟩ 0 ⟨#[]⟩ ⟨#[]⟩ [] [] none 0 none 0 (fun _ => leafC 0) (by decide) (by decide) (by decide) (by decide) (by decide) (by decide) (fun i s h => by simp at h) (fun _ => rfl) (fun i t h => by simp at h) (fun i t h => by simp at h)
/-- The document's example: a function of Int and Bool. -/
def exT : Ty := .mk 7 ⟨#[]⟩ 0 ⟨#[]⟩ ⟨#[]⟩ [] [leafT 1, leafT 3]
theorem ex_may : mayT exT = true := by decide +kernel
theorem ex_many : many exT = 3 := by decide +kernel
theorem ex_size : sizeT exT = 3 := by unfold sizeT; rw [if_pos ex_may, ex_many]
theorem ex_plain : plainT exT = true := by decide +kernel
theorem ex_text : tB exT = ⟨#[40, 73, 110, 116, 41, 32, 45, 62, 32, 66, 111, 111, 108]⟩ := by decide +kernel
theorem no_may : mayT (leafT 0) = false := by decide +kernel

theorem ex_tree (w : World) (g : Nat) (hc : w.heap[g]? = some (.cells (leafC 1 ++ leafC 3).toArray 42 (0, 0))) :
    TyV w (.agg #[.int .i64 7, .string ⟨#[]⟩, .int .i64 0, .string ⟨#[]⟩, .string ⟨#[]⟩, .slice none 0 0, .slice (some ⟨g, 0, none⟩) 2 2]) exT := by
  refine ⟨_, rfl, .mk 7 ⟨#[]⟩ 0 ⟨#[]⟩ ⟨#[]⟩ [] [leafT 1, leafT 3] none 0 (some ⟨g, 0, none⟩) 2 (fun i => if i = 0 then leafC 1 else leafC 3) (by decide) (by decide) (by decide) (by decide) (by decide) (by decide) (fun i s h => by simp at h) (fun i => by split <;> rfl) (fun i t h => ?_) (fun i t h => ?_)⟩
  · refine ⟨g, 0, rfl, (Array.getElem?_eq_some_iff.1 hc).1, fun j v hv => ?_⟩
    rw [Lib.cell_of_heap hc]
    match i, h with
    | 0, _ =>
      have hj : j < 7 := (List.getElem?_eq_some_iff.1 hv).1
      simp only [if_true] at hv
      rw [List.getElem?_toArray, List.getElem?_append_left (by simpa [leafC] using hj)]
      simpa using hv
    | 1, _ =>
      have hj : j < 7 := (List.getElem?_eq_some_iff.1 hv).1
      simp only [Nat.succ_ne_zero, if_false] at hv
      rw [List.getElem?_toArray, List.getElem?_append_right (by simp [leafC])]
      have e : 0 + 1 * 7 + j - (leafC 1).length = j := by simp [leafC]
      rw [e]
      simpa using hv
    | i + 2, h => simp at h
  · match i, h with
    | 0, h => simp at h; subst h; exact leaf_at w 1
    | 1, h => simp at h; subst h; exact leaf_at w 3
    | i + 2, h => simp at h

end Go.Proofs.YtpfoclpgcbjjoaaGreatDoor

/- The walk of SyntaxPrints: whatever module is handed in. -/
namespace Go.Proofs.YtpfoclpgcbjjoaaGreatDoor
open Go.RowKit
open Go.Sort
open M

theorem few_decs {m : Mo} (h : fewM m = true) : ∀ d ∈ m.decs, many d.typ ≤ 9000 := by
  unfold fewM at h
  simp only [Bool.and_eq_true, List.all_eq_true] at h
  intro d hd
  have := h.2.2.2 d hd
  unfold fewD at this
  simp only [Bool.and_eq_true] at this
  have := few_small this.1
  omega

set_option maxRecDepth 100000 in
set_option maxHeartbeats 8000000 in
theorem syntaxPrints_any (m : Mo) (l : List Value) (w : World) (hv : MoAt w l m) (he : CEnv w) (hg : ErrT w) :
    Calls Tryz.prog 3 #[.agg l.toArray] w fun e w' => e = .returned (.bool true) ∧ Below w.heap.size w w' := by
  have HV := Lib.hid hv
  have HE := Lib.hid he
  have HG := Lib.hid hg
  obtain ⟨Ai, ci, Ad, cd, rfl, -, -, -, -, -⟩ := hv
  clear he hg
  obtain ⟨wb, hwb⟩ : ∃ wb, wb = w.alloc (.cells #[.string m.name, .slice Ai m.imps.length ci, .slice Ad m.decs.length cd] 25) := ⟨_, rfl⟩
  have HBB : Hid (Below w.heap.size w wb) := Lib.hid (by rw [hwb]; exact below_new (Below.refl _ _) _)
  have HX : Hid (∀ w', Below wb.heap.size wb w' → ∀ i v, (#[.string m.name, .slice Ai m.imps.length ci, .slice Ad m.decs.length cd] : Array Value)[i]? = some v → w'.cell? ⟨w.heap.size, i, none⟩ = some v) := Lib.hid (fun w' hb i v hv => by
    have h1 : wb.heap[w.heap.size]? = some (.cells #[.string m.name, .slice Ai m.imps.length ci, .slice Ad m.decs.length cd] 25 (0, 0)) := by rw [hwb]; exact heap_alloc_new w _
    rw [(bcell hb).1 _ _ (Array.getElem?_eq_some_iff.1 h1).1, Lib.cell_of_heap h1]; exact hv)
  have HV0 : Hid (∀ w', Below wb.heap.size wb w' → MoAt w' [.string m.name, .slice Ai m.imps.length ci, .slice Ad m.decs.length cd] m) := Lib.hid (fun w' hb => HV.out.below (below_over HBB.out hb))
  have HE0 : Hid (∀ w', Below wb.heap.size wb w' → CEnv w') := Lib.hid (fun w' hb => HE.out.on (below_over HBB.out hb))
  have HG0 : Hid (∀ w', Below wb.heap.size wb w' → ErrT w') := Lib.hid (fun w' hb => HG.out.on (below_over HBB.out hb))
  have HWB := Lib.hid hwb
  clear hwb HV HE HG
  go_enter Tryz.func3, Tryz.ntmps3
  go_wp2_with fail
  rw [← HWB.out]
  refine (up6_any _ (HE0.out _ (Below.refl _ _)) (HG0.out _ (Below.refl _ _))).mono ?_; rintro e w1 ⟨rfl, hb1⟩
  have HB1 := Lib.hid hb1
  clear hb1
  have x0 := HX.out w1 HB1.out 0 _ rfl
  have x1 := HX.out w1 HB1.out 1 _ rfl
  have x2 := HX.out w1 HB1.out 2 _ rfl
  go_wp2_with fail
  refine (rfew6_any m _ _ (HV0.out _ HB1.out)).mono ?_; rintro e w2 ⟨rfl, hb2⟩
  have HB2 := Lib.hid (below_over HB1.out hb2)
  clear x0 x1 x2 hb2
  rcases hid_or (fewM m) with hf | hf
  · rw [hf.out]
    go_wp2_with fail
    go_ret
    exact ⟨rfl, below_over HBB.out HB2.out⟩
  have HD := Lib.hid (few_decs hf.out)
  rw [hf.out]
  rcases hid_or (mayM m) with hm | hm
  · have x0 := HX.out w2 HB2.out 0 _ rfl
    have x1 := HX.out w2 HB2.out 1 _ rfl
    have x2 := HX.out w2 HB2.out 2 _ rfl
    go_wp2_with fail
    refine (cprint_no m _ _ (HV0.out _ HB2.out) hm.out).mono ?_; rintro e w3 ⟨rfl, hb3⟩
    have HB3 := Lib.hid (below_over HB2.out hb3)
    clear x0 x1 x2 hb3
    have x0 := HX.out w3 HB3.out 0 _ rfl
    have x1 := HX.out w3 HB3.out 1 _ rfl
    have x2 := HX.out w3 HB3.out 2 _ rfl
    go_wp2_with fail
    refine (rmay6_any m _ _ (HV0.out _ HB3.out) HD.out).mono ?_; rintro e w4 ⟨rfl, hb4⟩; rw [hm.out]
    have HB4 := Lib.hid (below_over HB3.out hb4)
    clear x0 x1 x2 hb4
    have x0 := HX.out w4 HB4.out 0 _ rfl
    have x1 := HX.out w4 HB4.out 1 _ rfl
    have x2 := HX.out w4 HB4.out 2 _ rfl
    have he := eqErr 1 1
    go_wp2_with fail
    refine (cmay6_any m _ _ (HV0.out _ HB4.out)).mono ?_; rintro e w5 ⟨rfl, hb5⟩; rw [hm.out]
    have HB5 := Lib.hid (below_over HB4.out hb5)
    clear x0 x1 x2 hb5
    go_wp2_with fail
    go_ret
    exact ⟨rfl, below_over HBB.out HB5.out⟩
  · have x0 := HX.out w2 HB2.out 0 _ rfl
    have x1 := HX.out w2 HB2.out 1 _ rfl
    have x2 := HX.out w2 HB2.out 2 _ rfl
    go_wp2_with fail
    refine (cprint_yes m _ _ (HV0.out _ HB2.out) hm.out (HE0.out _ HB2.out).pow).mono ?_; rintro e w3 ⟨rfl, hb3⟩
    have HB3 := Lib.hid (below_over HB2.out hb3)
    clear x0 x1 x2 hb3
    have x0 := HX.out w3 HB3.out 0 _ rfl
    have x1 := HX.out w3 HB3.out 1 _ rfl
    have x2 := HX.out w3 HB3.out 2 _ rfl
    go_wp2_with fail
    refine (rmay6_any m _ _ (HV0.out _ HB3.out) HD.out).mono ?_; rintro e w4 ⟨rfl, hb4⟩; rw [hm.out]
    have HB4 := Lib.hid (below_over HB3.out hb4)
    clear x0 x1 x2 hb4
    have x0 := HX.out w4 HB4.out 0 _ rfl
    have x1 := HX.out w4 HB4.out 1 _ rfl
    have x2 := HX.out w4 HB4.out 2 _ rfl
    go_wp2_with fail
    refine (cmay6_any m _ _ (HV0.out _ HB4.out)).mono ?_; rintro e w5 ⟨rfl, hb5⟩; rw [hm.out]
    have HB5 := Lib.hid (below_over HB4.out hb5)
    clear x0 x1 x2 hb5
    have x0 := HX.out w5 HB5.out 0 _ rfl
    have x1 := HX.out w5 HB5.out 1 _ rfl
    have x2 := HX.out w5 HB5.out 2 _ rfl
    go_wp2_with fail
    refine (rprint6_any m _ _ (HV0.out _ HB5.out) hm.out).mono ?_; rintro e w6 ⟨rfl, hb6⟩
    have HB6 := Lib.hid (below_over HB5.out hb6)
    clear x0 x1 x2 hb6
    go_wp2_with fail
    go_ret
    exact ⟨rfl, below_over HBB.out HB6.out⟩

end Go.Proofs.YtpfoclpgcbjjoaaGreatDoor

/- The library's listed variables: what a row's list gives of the powers of ten, of errors.errorType, and of strconv's two errors; a world for the witnesses in which they lie as the program's text lays them. -/
namespace Go.Proofs.YtpfoclpgcbjjoaaGreatDoor
open Go Go.ChangeShapes Go.WideShapes Go.ChangeAt Go.RowKit

theorem own : ownKnob Tryz.prog.godebug = none := by kernel_rfl
theorem laidOut : laidOutB Tryz.prog = true := by kernel_rfl
theorem gPow : Tryz.prog.globalNamed "internal/strconv.uint64pow10" = some 1 := by kernel_rfl
theorem gPowType : (Tryz.prog.globals[1]?).map (·.type) = some 223 := by kernel_rfl
theorem cellsPow : Tryz.prog.cellsOf 223 = 20 := by kernel_rfl
theorem cellsU64 : Tryz.prog.cellsOf 180 = 1 := by kernel_rfl
theorem powData : (Rows.laid_internal_strconv_uint64pow10 : DataW Unit) = Lib.tabData .u64 Lib.pow10Tab := by kernel_rfl
theorem errVar : Tryz.prog.globalNamed "errors.errorType" = some 0 := by kernel_rfl
theorem errRt : (Tryz.prog.cutTypes.find? (·.1 == "internal/reflectlite.rtype")).map (·.2) = some 182 := by kernel_rfl
theorem errRow : ((List.range 292).filter fun t => Tryz.prog.rowNamed t [101, 114, 114, 111, 114]) = [29] := by kernel_rfl
theorem typesSize : Tryz.prog.types.size = 292 := by kernel_rfl
theorem gSyn : Tryz.prog.globalNamed "strconv.ErrSyntax" = some 5 := by kernel_rfl
theorem gSynType : (Tryz.prog.globals[5]?).map (·.type) = some 29 := by kernel_rfl
theorem gRng : Tryz.prog.globalNamed "strconv.ErrRange" = some 6 := by kernel_rfl
theorem gRngType : (Tryz.prog.globals[6]?).map (·.type) = some 29 := by kernel_rfl
theorem cellsES : Tryz.prog.cellsOf 256 = 1 := by kernel_rfl
theorem cellsStr : Tryz.prog.cellsOf 9 = 1 := by kernel_rfl

/-- The list of the laws' rows. -/
def laidL : List (String × DataW Unit) := [("math/bits.deBruijn32tab", Rows.laid_math_bits_deBruijn32tab), ("math/bits.deBruijn64tab", Rows.laid_math_bits_deBruijn64tab), ("internal/strconv.uint64pow10", Rows.laid_internal_strconv_uint64pow10), ("errors.errorType", Rows.laid_errors_errorType), ("strconv.ErrRange", Rows.laid_strconv_ErrRange), ("strconv.ErrSyntax", Rows.laid_strconv_ErrSyntax)]
theorem parts_of {W : World} (h : laidMetH Tryz.prog laidL W) :
    laidMet Tryz.prog [("math/bits.deBruijn32tab", Rows.laid_math_bits_deBruijn32tab), ("math/bits.deBruijn64tab", Rows.laid_math_bits_deBruijn64tab), ("internal/strconv.uint64pow10", Rows.laid_internal_strconv_uint64pow10), ("strconv.ErrRange", Rows.laid_strconv_ErrRange), ("strconv.ErrSyntax", Rows.laid_strconv_ErrSyntax)] W ∧ handlesMet Tryz.prog [("errors.errorType", Rows.laid_errors_errorType)] W := h

/-- What the list gives a walk. -/
theorem errT_of {W : World} (h : laidMetH Tryz.prog laidL W) : ErrT W := by
  obtain ⟨name, u, ty, e1, e2, e3, e4, e5⟩ := (parts_of h).2 _ (List.mem_singleton.2 rfl)
  have en : name = [101, 114, 114, 111, 114] := (Option.some.inj e1).symm
  subst en
  obtain rfl := Option.some.inj (errRt.symm.trans e2)
  have hm : ty ∈ (List.range 292).filter fun t => Tryz.prog.rowNamed t [101, 114, 114, 111, 114] := List.mem_filter.2 ⟨List.mem_range.2 (by rw [← typesSize]; exact e3), e4⟩
  rw [errRow] at hm
  obtain rfl := List.mem_singleton.1 hm
  have hh : typeHandle Tryz.prog 29 = .pointer (some ⟨7, 29, none⟩) := by kernel_rfl
  rw [hh] at e5
  unfold ErrT
  simpa using World.var?_cell errVar e5 0
theorem rowES (u : TypeId) (s : String) (hs : "*" ++ "errors.errorString" = s) (h : Tryz.prog.typeName? 3 u = some s) : u = 254 := by
  subst hs
  exact typeName_ptr_named (nm := "errors.errorString") (by kernel_rfl) (by kernel_rfl) (by decide) u h
theorem cenv_of {W : World} (h : laidMetH Tryz.prog laidL W) : CEnv W := by
  have h3 := (parts_of h).1.tail.tail
  have h4 := h3.tail
  have h5 := h4.tail
  have h3' := h3
  rw [powData] at h3'
  obtain ⟨a4, s4, v4, -⟩ := laid_sentinel h4 gRng gRngType Tryz.underlying29 (fun u hu => rowES u _ (by kernel_rfl) hu) Tryz.underlying254 Tryz.underlying256 rfl rfl Tryz.underlying9 cellsES cellsStr
  obtain ⟨a5, s5, v5, -⟩ := laid_sentinel h5 gSyn gSynType Tryz.underlying29 (fun u hu => rowES u _ (by kernel_rfl) hu) Tryz.underlying254 Tryz.underlying256 rfl rfl Tryz.underlying9 cellsES cellsStr
  exact ⟨Lib.tabIs_of_head gPow gPowType Tryz.underlying223 Tryz.underlying180 cellsU64 cellsPow h3', ⟨_, _, by simpa using World.var?_cell gSyn v5 0⟩, ⟨_, _, by simpa using World.var?_cell gRng v4 0⟩⟩

/-- A table's cells, laid. -/
def putTab (g : Nat) (k : IntKind) (zs : List Int) (h : Array Obj) : Array Obj := h.modify g fun o =>
  match o with
  | .cells _ t frozen => .cells (zs.map fun z => Value.int k z).toArray t frozen
  | o => o
def putOne (g : Nat) (v : Value) (h : Array Obj) : Array Obj := h.modify g fun o =>
  match o with
  | .cells _ t frozen => .cells #[v] t frozen
  | o => o
def tab32 : List Int := [0, 1, 28, 2, 29, 14, 24, 3, 30, 22, 20, 15, 25, 17, 4, 8, 31, 27, 13, 23, 21, 19, 16, 7, 26, 12, 18, 6, 11, 5, 10, 9]
def tab64 : List Int := [0, 1, 56, 2, 57, 49, 28, 3, 61, 58, 42, 50, 38, 29, 17, 4, 62, 47, 59, 36, 45, 43, 51, 22, 53, 39, 33, 30, 24, 18, 12, 5, 63, 55, 48, 27, 60, 41, 37, 16, 46, 35, 44, 21, 52, 32, 23, 11, 54, 26, 40, 15, 34, 20, 31, 10, 25, 14, 19, 9, 13, 8, 7, 6]
def txtRng : ByteArray := ⟨#[118, 97, 108, 117, 101, 32, 111, 117, 116, 32, 111, 102, 32, 114, 97, 110, 103, 101]⟩
def txtSyn : ByteArray := ⟨#[105, 110, 118, 97, 108, 105, 100, 32, 115, 121, 110, 116, 97, 120]⟩
/-- A world for the witness: the settled one, the listed variables laid. -/
noncomputable def laidWorld (os : Os) : World :=
  let w0 := World.holding Tryz.prog os ⟨#[], #[], []⟩
  let n := w0.heap.size
  { w0 with heap := putOne 6 (.iface 254 (.pointer (some ⟨n, 0, none⟩))) (putOne 5 (.iface 254 (.pointer (some ⟨n + 1, 0, none⟩)))
      (putOne 0 (.iface 182 (.agg #[.pointer (some ⟨7, 29, none⟩)]))
        (putTab 4 .u8 tab64 (putTab 3 .u8 tab32 (putTab 1 .u64 Lib.pow10Tab
          ((w0.heap.push (.cells #[.string txtRng] 256 (0, 0))).push (.cells #[.string txtSyn] 256 (0, 0)))))))) }
theorem laidWorld_met (os : Os) (args : Array Value) (h : laidMet Tryz.prog [("math/bits.deBruijn32tab", Rows.laid_math_bits_deBruijn32tab), ("math/bits.deBruijn64tab", Rows.laid_math_bits_deBruijn64tab), ("internal/strconv.uint64pow10", Rows.laid_internal_strconv_uint64pow10), ("strconv.ErrRange", Rows.laid_strconv_ErrRange), ("strconv.ErrSyntax", Rows.laid_strconv_ErrSyntax)] ((laidWorld os).forCall (fun _ _ => 0) ⟨#[], args, []⟩).memory) :
    laidMetH Tryz.prog laidL ((laidWorld os).forCall (fun _ _ => 0) ⟨#[], args, []⟩).memory :=
  laidMetH_of_parts h (by kernel_rfl)

end Go.Proofs.YtpfoclpgcbjjoaaGreatDoor
