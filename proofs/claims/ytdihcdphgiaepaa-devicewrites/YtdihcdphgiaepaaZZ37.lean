/- The developers' deed. -/
import Derived.Deep.Cut
import Derived.Test.YtdihcdphgiaepaaZZ24
namespace Go.Proofs.Ytdihcdphgiaepaa
open Go.RowKit
theorem set_new (w : World) (c : Array Value) (t : TypeId) (i : Nat) (v : Value) : (w.alloc (.cells c t)).setCell ⟨w.heap.size, i, none⟩ v = w.alloc (.cells (c.setIfInBounds i v) t) := by
 simp only [World.setCell, World.alloc]
 congr 1
 apply Array.ext_getElem?
 intro k
 rw [Array.getElem?_modify]
 by_cases h : w.heap.size = k
 ·
  subst h
  simp
 ·
  have h' : ¬ k = w.heap.size := fun e => h e.symm
  simp [h, h', Array.getElem?_push]
theorem st_new (P : Program) (w : World) (c : Array Value) (t : TypeId) (i : Nat) (v : Value) (hi : i < c.size) (hv : v.oneCell' = true) : (store ⟨w.heap.size, i, none⟩ v).run P (w.alloc (.cells c t)) = .ok () (w.alloc (.cells (c.setIfInBounds i v) t)) := by
 have h1 : (w.alloc (.cells c t)).cell? ⟨w.heap.size, i, none⟩ = some c[i] := by
  have hb : (w.alloc (.cells c t)).heap[w.heap.size]? = some (.cells c t (0, 0)) := heap_alloc_new w _
  rw [cell_of_row _ _ i c t (0, 0) hb, Array.getElem?_eq_getElem hi]
 have h2 : (w.alloc (.cells c t)).frozen? ⟨w.heap.size, i, none⟩ = false := (Blk.new w t c.toList).frozen i
 rw [run_store P _ _ _ _ hv]
 simp only [h1, h2]
 rw [set_new]
 rfl
theorem st_nil (P : Program) (w : World) (c : Array Value) (t : TypeId) (i : Nat) (hi : i < c.size) : (store ⟨w.heap.size, i, none⟩ .nilFunc).run P (w.alloc (.cells c t)) = .ok () (w.alloc (.cells (c.setIfInBounds i .nilFunc) t)) := st_new P w c t i _ hi rfl
theorem st_fun (P : Program) (w : World) (c : Array Value) (t : TypeId) (i : Nat) (fn : Fn) (x y : Array Value) (hi : i < c.size) : (store ⟨w.heap.size, i, none⟩ (.func fn x y)).run P (w.alloc (.cells c t)) = .ok () (w.alloc (.cells (c.setIfInBounds i (.func fn x y)) t)) := st_new P w c t i _ hi rfl
set_option maxRecDepth 100000 in
set_option maxHeartbeats 1000000 in
theorem deed_1 (w : World) : Calls Try.prog 17 #[.int .i64 1] w fun e w' => e = .returned (.func (.func 30) #[] #[]) ∧ Below w.heap.size w w' := by
 have W0 := hidden (fun o => (Below.refl w.heap.size w).alloc (Nat.le_refl _) o)
 go_enter Try.func17, Try.ntmps17
 go_wp2
 simp (config := { decide := true }) only [st_nil, st_fun, List.size_toArray, List.length_cons, List.length_nil, Result.andThen, List.setIfInBounds_toArray, List.set_cons_zero, List.set_cons_succ]
 go_wp2
 go_ret
 exact ⟨rfl, W0.out _⟩
set_option maxRecDepth 100000 in
set_option maxHeartbeats 1000000 in
theorem deed_2 (w : World) : Calls Try.prog 17 #[.int .i64 2] w fun e w' => e = .returned (.func (.func 31) #[] #[]) ∧ Below w.heap.size w w' := by
 have W0 := hidden (fun o => (Below.refl w.heap.size w).alloc (Nat.le_refl _) o)
 go_enter Try.func17, Try.ntmps17
 go_wp2
 simp (config := { decide := true }) only [st_nil, st_fun, List.size_toArray, List.length_cons, List.length_nil, Result.andThen, List.setIfInBounds_toArray, List.set_cons_zero, List.set_cons_succ]
 go_wp2
 go_ret
 exact ⟨rfl, W0.out _⟩
set_option maxRecDepth 100000 in
set_option maxHeartbeats 1000000 in
theorem deed_3 (w : World) : Calls Try.prog 17 #[.int .i64 3] w fun e w' => e = .returned (.func (.func 32) #[] #[]) ∧ Below w.heap.size w w' := by
 have W0 := hidden (fun o => (Below.refl w.heap.size w).alloc (Nat.le_refl _) o)
 go_enter Try.func17, Try.ntmps17
 go_wp2
 simp (config := { decide := true }) only [st_nil, st_fun, List.size_toArray, List.length_cons, List.length_nil, Result.andThen, List.setIfInBounds_toArray, List.set_cons_zero, List.set_cons_succ]
 go_wp2
 go_ret
 exact ⟨rfl, W0.out _⟩
set_option maxRecDepth 100000 in
set_option maxHeartbeats 1000000 in
theorem deed_4 (w : World) : Calls Try.prog 17 #[.int .i64 4] w fun e w' => e = .returned (.func (.func 33) #[] #[]) ∧ Below w.heap.size w w' := by
 have W0 := hidden (fun o => (Below.refl w.heap.size w).alloc (Nat.le_refl _) o)
 go_enter Try.func17, Try.ntmps17
 go_wp2
 simp (config := { decide := true }) only [st_nil, st_fun, List.size_toArray, List.length_cons, List.length_nil, Result.andThen, List.setIfInBounds_toArray, List.set_cons_zero, List.set_cons_succ]
 go_wp2
 go_ret
 exact ⟨rfl, W0.out _⟩
set_option maxRecDepth 100000 in
set_option maxHeartbeats 1000000 in
theorem deed_5 (w : World) : Calls Try.prog 17 #[.int .i64 5] w fun e w' => e = .returned (.func (.func 34) #[] #[]) ∧ Below w.heap.size w w' := by
 have W0 := hidden (fun o => (Below.refl w.heap.size w).alloc (Nat.le_refl _) o)
 go_enter Try.func17, Try.ntmps17
 go_wp2
 simp (config := { decide := true }) only [st_nil, st_fun, List.size_toArray, List.length_cons, List.length_nil, Result.andThen, List.setIfInBounds_toArray, List.set_cons_zero, List.set_cons_succ]
 go_wp2
 go_ret
 exact ⟨rfl, W0.out _⟩
set_option maxRecDepth 100000 in
set_option maxHeartbeats 1000000 in
theorem deed_6 (w : World) : Calls Try.prog 17 #[.int .i64 6] w fun e w' => e = .returned (.func (.func 35) #[] #[]) ∧ Below w.heap.size w w' := by
 have W0 := hidden (fun o => (Below.refl w.heap.size w).alloc (Nat.le_refl _) o)
 go_enter Try.func17, Try.ntmps17
 go_wp2
 simp (config := { decide := true }) only [st_nil, st_fun, List.size_toArray, List.length_cons, List.length_nil, Result.andThen, List.setIfInBounds_toArray, List.set_cons_zero, List.set_cons_succ]
 go_wp2
 go_ret
 exact ⟨rfl, W0.out _⟩
set_option maxRecDepth 100000 in
set_option maxHeartbeats 1000000 in
theorem deed_8 (w : World) : Calls Try.prog 17 #[.int .i64 8] w fun e w' => e = .returned (.func (.func 36) #[] #[]) ∧ Below w.heap.size w w' := by
 have W0 := hidden (fun o => (Below.refl w.heap.size w).alloc (Nat.le_refl _) o)
 go_enter Try.func17, Try.ntmps17
 go_wp2
 simp (config := { decide := true }) only [st_nil, st_fun, List.size_toArray, List.length_cons, List.length_nil, Result.andThen, List.setIfInBounds_toArray, List.set_cons_zero, List.set_cons_succ]
 go_wp2
 go_ret
 exact ⟨rfl, W0.out _⟩
set_option maxRecDepth 100000 in
set_option maxHeartbeats 1000000 in
theorem deed_15 (w : World) : Calls Try.prog 17 #[.int .i64 15] w fun e w' => e = .returned (.func (.func 37) #[] #[]) ∧ Below w.heap.size w w' := by
 have W0 := hidden (fun o => (Below.refl w.heap.size w).alloc (Nat.le_refl _) o)
 go_enter Try.func17, Try.ntmps17
 go_wp2
 simp (config := { decide := true }) only [st_nil, st_fun, List.size_toArray, List.length_cons, List.length_nil, Result.andThen, List.setIfInBounds_toArray, List.set_cons_zero, List.set_cons_succ]
 go_wp2
 go_ret
 exact ⟨rfl, W0.out _⟩
set_option maxRecDepth 100000 in
set_option maxHeartbeats 1000000 in
theorem deed_16 (w : World) : Calls Try.prog 17 #[.int .i64 16] w fun e w' => e = .returned (.func (.func 38) #[] #[]) ∧ Below w.heap.size w w' := by
 have W0 := hidden (fun o => (Below.refl w.heap.size w).alloc (Nat.le_refl _) o)
 go_enter Try.func17, Try.ntmps17
 go_wp2
 simp (config := { decide := true }) only [st_nil, st_fun, List.size_toArray, List.length_cons, List.length_nil, Result.andThen, List.setIfInBounds_toArray, List.set_cons_zero, List.set_cons_succ]
 go_wp2
 go_ret
 exact ⟨rfl, W0.out _⟩
set_option maxRecDepth 100000 in
set_option maxHeartbeats 1000000 in
theorem deed_17 (w : World) : Calls Try.prog 17 #[.int .i64 17] w fun e w' => e = .returned (.func (.func 39) #[] #[]) ∧ Below w.heap.size w w' := by
 have W0 := hidden (fun o => (Below.refl w.heap.size w).alloc (Nat.le_refl _) o)
 go_enter Try.func17, Try.ntmps17
 go_wp2
 simp (config := { decide := true }) only [st_nil, st_fun, List.size_toArray, List.length_cons, List.length_nil, Result.andThen, List.setIfInBounds_toArray, List.set_cons_zero, List.set_cons_succ]
 go_wp2
 go_ret
 exact ⟨rfl, W0.out _⟩
set_option maxRecDepth 100000 in
set_option maxHeartbeats 1000000 in
theorem deed_22 (w : World) : Calls Try.prog 17 #[.int .i64 22] w fun e w' => e = .returned (.func (.func 40) #[] #[]) ∧ Below w.heap.size w w' := by
 have W0 := hidden (fun o => (Below.refl w.heap.size w).alloc (Nat.le_refl _) o)
 go_enter Try.func17, Try.ntmps17
 go_wp2
 simp (config := { decide := true }) only [st_nil, st_fun, List.size_toArray, List.length_cons, List.length_nil, Result.andThen, List.setIfInBounds_toArray, List.set_cons_zero, List.set_cons_succ]
 go_wp2
 go_ret
 exact ⟨rfl, W0.out _⟩
set_option maxRecDepth 100000 in
set_option maxHeartbeats 1000000 in
theorem deed_23 (w : World) : Calls Try.prog 17 #[.int .i64 23] w fun e w' => e = .returned (.func (.func 41) #[] #[]) ∧ Below w.heap.size w w' := by
 have W0 := hidden (fun o => (Below.refl w.heap.size w).alloc (Nat.le_refl _) o)
 go_enter Try.func17, Try.ntmps17
 go_wp2
 simp (config := { decide := true }) only [st_nil, st_fun, List.size_toArray, List.length_cons, List.length_nil, Result.andThen, List.setIfInBounds_toArray, List.set_cons_zero, List.set_cons_succ]
 go_wp2
 go_ret
 exact ⟨rfl, W0.out _⟩
end Go.Proofs.Ytdihcdphgiaepaa
