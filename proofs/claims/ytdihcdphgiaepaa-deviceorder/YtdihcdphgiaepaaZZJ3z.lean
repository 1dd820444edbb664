/- burgagelaw9.DeviceOrder. -/
import Derived.Test.YtdihcdphgiaepaaZZJ3f1
import Derived.Test.YtdihcdphgiaepaaZZJ3f2
import Derived.Test.YtdihcdphgiaepaaZZJ3f3
import Derived.Test.YtdihcdphgiaepaaZZJ3f4
namespace Go.Proofs.Ytdihcdphgiaepaa
open Go.RowKit
theorem order_law (fn at_ n : Int) (w : World) : Calls Try.prog 5 #[.int .i64 fn, .int .i64 at_, .int .i64 n] w fun e w' => e = .returned (.bool true) ∧ Below w.heap.size w w' := by
 have e2 := and4095 n
 have e3 := and65535 at_
 have a1 : 0 ≤ at_ % 65536 := by omega
 have a2 : at_ % 65536 ≤ 65535 := by omega
 have c1 : 0 ≤ n % 4096 := by omega
 have c2 : n % 4096 ≤ 4095 := by omega
 rcases (show fn % 4 = 0 ∨ fn % 4 = 1 ∨ fn % 4 = 2 ∨ fn % 4 = 3 by omega) with e | e | e | e
 ·
  have e1 : bits BinOp.and IntKind.i64 fn 3 = 0 := (and3 fn).trans e
  by_cases h : n % 4096 < 1
  ·
   exact order_1_1 fn at_ n _ _ w e1 e2 e3 a1 a2 c1 c2 h
  by_cases h2 : 2000 < n % 4096
  ·
   exact order_1_2 fn at_ n _ _ w e1 e2 e3 a1 a2 c1 c2 h2
  by_cases h3 : 50 < at_ % 65536 + n % 4096
  ·
   exact order_1_3 fn at_ n _ _ w e1 e2 e3 a1 a2 c1 c2 (by omega) (by omega) h3
  ·
   exact order_1_4 fn at_ n _ _ w e1 e2 e3 a1 a2 c1 c2 (by omega) (by omega) (by omega)
 ·
  have e1 : bits BinOp.and IntKind.i64 fn 3 = 1 := (and3 fn).trans e
  by_cases h : n % 4096 < 1
  ·
   exact order_2_1 fn at_ n _ _ w e1 e2 e3 a1 a2 c1 c2 h
  by_cases h2 : 2000 < n % 4096
  ·
   exact order_2_2 fn at_ n _ _ w e1 e2 e3 a1 a2 c1 c2 h2
  by_cases h3 : 50 < at_ % 65536 + n % 4096
  ·
   exact order_2_3 fn at_ n _ _ w e1 e2 e3 a1 a2 c1 c2 (by omega) (by omega) h3
  ·
   exact order_2_4 fn at_ n _ _ w e1 e2 e3 a1 a2 c1 c2 (by omega) (by omega) (by omega)
 ·
  have e1 : bits BinOp.and IntKind.i64 fn 3 = 2 := (and3 fn).trans e
  by_cases h : n % 4096 < 1
  ·
   exact order_3_1 fn at_ n _ _ w e1 e2 e3 a1 a2 c1 c2 h
  by_cases h2 : 125 < n % 4096
  ·
   exact order_3_2 fn at_ n _ _ w e1 e2 e3 a1 a2 c1 c2 h2
  by_cases h3 : 50 < at_ % 65536 + n % 4096
  ·
   exact order_3_3 fn at_ n _ _ w e1 e2 e3 a1 a2 c1 c2 (by omega) (by omega) h3
  ·
   exact order_3_4 fn at_ n _ _ w e1 e2 e3 a1 a2 c1 c2 (by omega) (by omega) (by omega)
 ·
  have e1 : bits BinOp.and IntKind.i64 fn 3 = 3 := (and3 fn).trans e
  by_cases h : n % 4096 < 1
  ·
   exact order_4_1 fn at_ n _ _ w e1 e2 e3 a1 a2 c1 c2 h
  by_cases h2 : 125 < n % 4096
  ·
   exact order_4_2 fn at_ n _ _ w e1 e2 e3 a1 a2 c1 c2 h2
  by_cases h3 : 50 < at_ % 65536 + n % 4096
  ·
   exact order_4_3 fn at_ n _ _ w e1 e2 e3 a1 a2 c1 c2 (by omega) (by omega) h3
  ·
   exact order_4_4 fn at_ n _ _ w e1 e2 e3 a1 a2 c1 c2 (by omega) (by omega) (by omega)
end Go.Proofs.Ytdihcdphgiaepaa
