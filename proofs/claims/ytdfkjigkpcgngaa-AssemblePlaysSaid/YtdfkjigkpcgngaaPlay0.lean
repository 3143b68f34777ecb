/-
  The document's answer: within (stage 13's place for it).
-/
import Derived.Test.YtdfkjigkpcgngaaWithin
namespace Go.Proofs.Ytdfkjigkpcgngaa
end Go.Proofs.Ytdfkjigkpcgngaa
