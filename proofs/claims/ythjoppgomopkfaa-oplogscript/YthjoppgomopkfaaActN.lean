import Derived.Test.YthjoppgomopkfaaAct0
import Derived.Test.YthjoppgomopkfaaAct1
import Derived.Test.YthjoppgomopkfaaAct2
import Derived.Test.YthjoppgomopkfaaAct3
import Derived.Test.YthjoppgomopkfaaAct4
import Derived.Test.YthjoppgomopkfaaAct5
import Derived.Test.YthjoppgomopkfaaAct6
import Derived.Test.YthjoppgomopkfaaAct7
namespace Go.Proofs.Ythjoppgomopkfaa
open Go.RowKit
set_option linter.unusedVariables false

theorem act_any {n D k i : Nat} {va vb vm : Value} {T : List Tw} {M : List Mk} {cs : List Comp} {w : World} {x : Act0} (hA : All (deskL n D va vb vm T M ++ cs) w) (hF : DF n T M i) (hk : k < T.length) (hx : ∀ W, All cs W → x.good W) (hi : i ≤ 1099511627776) : Calls Try.prog 9 #[.pointer (some ⟨D, 0, none⟩), .int .i64 (k : Int), .int .i64 (i : Int), x.V] w fun e w' => e = .returned (.bool true) ∧ DeskI n D T.length (i + 1) cs w' := by
  have h8 := amN_lt x.kd (n := 8) (by decide)
  obtain ⟨m, hm⟩ : ∃ m, amN x.kd 8 = m := ⟨_, rfl⟩
  rw [hm] at h8
  rcases m with _ | _ | _ | _ | _ | _ | _ | _ | m
  · exact act_0 hA hF hk hx hi hm
  · exact act_1 hA hF hk hx hi hm
  · exact act_2 hA hF hk hx hi hm
  · exact act_3 hA hF hk hx hi hm
  · exact act_4 hA hF hk hx hi hm
  · exact act_5 hA hF hk hx hi hm
  · exact act_6 hA hF hk hx hi hm
  · exact act_7 hA hF hk hx hi hm
  · omega
end Go.Proofs.Ythjoppgomopkfaa
