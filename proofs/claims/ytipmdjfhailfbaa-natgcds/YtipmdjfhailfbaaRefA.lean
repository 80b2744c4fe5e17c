/- What the reference's order, sum and difference of lists of bits answer. -/
import Derived.Test.YtipmdjfhailfbaaRefL
namespace Go.Proofs.Ytipmdjfhailfbaa.RefA
open Go.RowKit Mem LimbNum Limb1 RefL

end Go.Proofs.Ytipmdjfhailfbaa.RefA
