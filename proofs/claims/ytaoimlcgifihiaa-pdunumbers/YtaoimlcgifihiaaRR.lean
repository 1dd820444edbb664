/- Contract of burgageref3.Right, by function. -/
import Derived.Test.YtaoimlcgifihiaaS9
import Derived.Test.YtaoimlcgifihiaaK7
import Derived.Deep.Cut
namespace Go.Proofs.Ytaoimlcgifihiaa
open Go.RowKit

def inI (l : List UInt8) (x : Int) : Bool := l.any fun y => (y.toNat : Int) == x
theorem in_at (l : List UInt8) (x : Int) (w : World) (hx : 0 ≤ x ∧ x < 256) (hl : l.length ≤ 100) : Calls Try.prog 49 #[.string ⟨l.toArray⟩, .int .u8 x] w fun e w' => e = .returned (.bool (inI l x)) ∧ w = w' := by
  have e : ((UInt8.ofNat x.toNat).toNat : Int) = x := by rw [UInt8.toNat_ofNat']; omega
  have h := in_ref l (UInt8.ofNat x.toNat) w hl
  rw [e] at h
  refine h.mono ?_
  rintro e' w' ⟨rfl, rfl⟩
  refine ⟨ret_bool ?_, rfl⟩
  rw [Bool.eq_iff_iff]
  simp only [inI, List.contains_iff_mem, List.any_eq_true, beq_iff_eq]
  constructor
  · intro h; exact ⟨_, h, e⟩
  · rintro ⟨y, hy, h2⟩
    have : y = UInt8.ofNat x.toNat := UInt8.toNat_inj.1 (by omega)
    rw [← this]; exact hy
end Go.Proofs.Ytaoimlcgifihiaa
