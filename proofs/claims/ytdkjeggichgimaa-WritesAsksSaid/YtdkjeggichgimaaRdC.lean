/-
  THE CONTRACTS of package reads, but for those that make or write.
-/
import Derived.Test.YtdkjeggichgimaaRdP
import Derived.Test.YtdkjeggichgimaaStage
import Derived.Test.YtdkjeggichgimaaLater
import Derived.Deep.DeepCutAuto
import Derived.BigQuiet
namespace Go.Proofs.Ytdkjeggichgimaa
open Go.RowKit
attribute [local go_sem] Later.cell Later.frozen

end Go.Proofs.Ytdkjeggichgimaa
