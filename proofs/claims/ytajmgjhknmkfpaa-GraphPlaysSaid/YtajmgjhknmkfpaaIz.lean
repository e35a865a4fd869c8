/-
  The id of twenty zeros.
-/
namespace Go.Proofs.Ytajmgjhknmkfpaa

def idZ : List UInt8 := List.replicate 20 0
end Go.Proofs.Ytajmgjhknmkfpaa
