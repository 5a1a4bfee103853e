/- What package rice answers, in one. -/
import Derived.Test.YtkmedbdaobficaaRicE
import Derived.Test.YtkmedbdaobficaaRicF
import Derived.Test.YtkmedbdaobficaaRicG
import Derived.Test.YtkmedbdaobficaaRicU
import Derived.Test.YtkmedbdaobficaaRicT
import Derived.Test.YtkmedbdaobficaaRicP
namespace Go.Proofs.Ytkmedbdaobficaa
open Go.RowKit
set_option linter.unusedVariables false

set_option maxRecDepth 100000 in
theorem riceOk : RiceOk BWx BRx where
  size := fun W p n h1 _ _ => rsize_calls W p n h1
  putB := fun W w S l p n _ h1 _ _ h2 => rputB_calls W w p n h1 h2
  put := fun W w S l p n h0 h1 _ _ h2 h3 => rput_calls bitOk W w S l p n h0 h1 h2 h3
  get := by
    rintro W base r S l p m ⟨A, c, b, j, h, rfl, hb, hS⟩ hl h1 h2 h3 h4
    refine (rget_calls W r A c b j h p m h4).mono ?_
    rintro e w' ⟨j', rfl, hr, he, hf⟩
    obtain ⟨S', k1, k2, k3⟩ := br_to (base := base) hS hb hr he hf
    exact ⟨S', rfl, k1, k2, k3⟩
  steps := fun W A n c N p h1 _ _ h2 _ _ h3 => rsteps_calls bitOk W A n c N p h1 h2 h3
end Go.Proofs.Ytkmedbdaobficaa
