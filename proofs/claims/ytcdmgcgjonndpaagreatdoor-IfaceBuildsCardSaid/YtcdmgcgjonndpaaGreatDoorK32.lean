/-
  Several texts in one.
-/
import Derived.Test.YtcdmgcgjonndpaaGreatDoorK31
set_option maxRecDepth 100000
set_option maxHeartbeats 4000000
namespace Go.Proofs.YtcdmgcgjonndpaaGreatDoor
open Go Go.RowKit Go.Shelf
open Go.Sort
open M
theorem open10_any (p : ByteArray) (j : Int) (d n : ByteArray) (w : World) : Calls Tryz.prog 15 #[.string p, .int .i64 j, .string d, .string n] w fun e w' => e = .returned (.agg #[.int .i64 9, .string p, .int .i64 j, .string d, .string n, .slice none 0 0, .slice none 0 0]) /\ Below w.heap.size w w' := by
  obtain ⟨W2, hW2⟩ : ∃ W2, W2 = w.alloc (.cells #[.int .i64 0, .string ⟨#[]⟩, .int .i64 0, .string ⟨#[]⟩, .string ⟨#[]⟩, .slice none 0 0, .slice none 0 0] 45) := ⟨_, rfl⟩;have B2 : Below w.heap.size w W2 := by rw [hW2]; exact below_new (Below.refl _ _) _
  have X2 : W2.heap[w.heap.size]? = some (.cells #[.int .i64 0, .string ⟨#[]⟩, .int .i64 0, .string ⟨#[]⟩, .string ⟨#[]⟩, .slice none 0 0, .slice none 0 0] 45 (0, 0)) := by rw [hW2]; exact heap_alloc_new w _
  have HX := hZ X2;have FIN := hZ (setRow_below (b := w.heap.size) B2 (Nat.le_refl _) #[.int .i64 9, .string p, .int .i64 j, .string d, .string n, .slice none 0 0, .slice none 0 0]);have HW := hZ hW2;clear hW2 B2;go_enter Tryz.func15, Tryz.ntmps15
  go_upto_region 1 with fail
  rw [<- HW.out];go_wp2_with (first | ((with_reducible refine wpList_putRow 45 (w.heap.size) #[.int .i64 9, .string p, .int .i64 j, .string d, .string n, .slice none 0 0, .slice none 0 0] _ _ X2 ?_ ?_ ?_ ?_ ?_ ?_); exact tySize; rfl; exact tyOne; (focus (first | (go_simp; done) | rfl)); (focus (first | (go_simp; done) | rfl))))
  exact ret_agg1 (fn := Tryz.f15) (vs := [.int .i64 9, .string p, .int .i64 j, .string d, .string n, .slice none 0 0, .slice none 0 0]) (b := w.heap.size) rfl rfl Tryz.underlying45 (by kernel_rfl) (cell7 (setRow_heap W2 (w.heap.size) _ _ _ _ HX.out)) rfl ⟨rfl, FIN.out⟩
theorem opV (p : ByteArray) (j : Int) (d n : ByteArray) (w : World) (hp : p.size <= 9223372036854775807) (hd : d.size <= 9223372036854775807) (hn : n.size <= 9223372036854775807) : TyV w (.agg #[.int .i64 9, .string p, .int .i64 j, .string d, .string n, .slice none 0 0, .slice none 0 0]) (opT p j d n) := ⟨_, rfl, openTy_at p j d n w hp hd hn⟩
theorem great10_any (n : ByteArray) (w : World) (hn : n.size <= 9223372036854775807) : Calls Tryz.prog 30 #[.string n] w fun e w' => e = .returned (.bool (nameOk true n)) /\ Below w.heap.size w w' := by
  have e : nameOk true n = mayT (opT ⟨#[112]⟩ 1 ⟨#[109]⟩ n) := (great_may n).symm;rw [e];go_enter Tryz.func30, Tryz.ntmps30
  go_wp2_with fail
  refine (open10_any _ _ _ _ _).mono ?_; rintro e w2 ⟨rfl, hb2⟩
  go_wp2_with fail
  refine (mayK_any _ _ _ (opV ⟨#[112]⟩ 1 ⟨#[109]⟩ n w2 (by decide) (by decide) hn)).mono ?_; rintro e w3 ⟨rfl, hb3⟩
  go_wp2_with fail
  go_ret;exact ⟨rfl, below_over hb2 hb3⟩
theorem small10_any (n : ByteArray) (w : World) (hn : n.size <= 9223372036854775807) : Calls Tryz.prog 31 #[.string n] w fun e w' => e = .returned (.bool (nameOk false n)) /\ Below w.heap.size w w' := by
  have e : nameOk false n = mayT (opT ⟨#[112]⟩ 1 n ⟨#[84]⟩) := (small_may n).symm;rw [e];go_enter Tryz.func31, Tryz.ntmps31
  go_wp2_with fail
  refine (open10_any _ _ _ _ _).mono ?_; rintro e w2 ⟨rfl, hb2⟩
  go_wp2_with fail
  refine (mayK_any _ _ _ (opV ⟨#[112]⟩ 1 n ⟨#[84]⟩ w2 (by decide) hn (by decide))).mono ?_; rintro e w3 ⟨rfl, hb3⟩
  go_wp2_with fail
  go_ret;exact ⟨rfl, below_over hb2 hb3⟩
end Go.Proofs.YtcdmgcgjonndpaaGreatDoor
