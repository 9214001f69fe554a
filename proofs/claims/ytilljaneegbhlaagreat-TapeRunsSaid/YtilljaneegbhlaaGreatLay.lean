import Derived.Shelf.SlIterI.Nil
import Derived.Shelf.SortM.Plain
import Derived.Shelf.SortM.SortNone
import Derived.Ground.GgzProg
import Derived.Ground.SlgmProg
import Derived.Shelf.Lay
import Derived.Shelf.LaySoft
import Derived.Test.YtilljaneegbhlaaGreatProg
namespace Go.Proofs
open Go.Shelf
shelf_try shelf_lay_g SlLaysZI.n7 Ggz 7 at Tryz 79 as Tryz.keysA
shelf_try shelf_lay_g SlLaysZI.n6 Ggz 6 at Tryz 78 as Tryz.sortedA
shelf_try shelf_lay_g SlLaysM.n5 Slgm 5 at Tryz 102 as Tryz.sortA
shelf_tried
end Go.Proofs
