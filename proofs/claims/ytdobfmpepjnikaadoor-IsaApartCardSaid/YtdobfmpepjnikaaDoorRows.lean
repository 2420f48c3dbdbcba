/-
  NARROWER THAN 'FOR EVERY INPUT', by the rows' own cells (each row's printed sentence says how): IsaEncodes: laid · IsaDecodes: laid · IsaInverts: laid · IsaUnique: laid · IsaSizes: laid · IsaPrefix: laid · IsaTargets: laid · IsaReaches: laid · IsaLines: laid · IsaApart: laid · IsaStream: laid · IsaForms: laid.
  DERIVED. THE GIVEN ROWS OF THIS SEAT. 12 by the template 'for every input the law returns true; each argument reads behind the call as it read before'; 0 by the template 'total and deterministic' (their statements: YtdobfmpepjnikaaDoorTotals.lean).
  GIVEN WITH THE SEED: the statements are not yours to turn. If you find one false, say at which input.
  Laid BY PROGRAM, IN A SANDBOX (cutbox-rows.mjs): the forced cells as the released guide's own fill.sh prints them over the translation 65bdf4d4a79a7cc0… (all of the seat's roots in one cut). By AI agents, Wed Nov 11 2026. No macro, syntax, notation, axiom, sorry.
-/
import Derived.Test.YtdobfmpepjnikaaDoorChecked
import GoSem.Claim
import GoSem.ClaimJoined
import GoSem.ClaimMapViews
import Derived.JoinedTies
import Derived.KernelRfl
namespace Go.Proofs.YtdobfmpepjnikaaDoor
/- THE CELL 'sum', in the pinned program and in every row, IS THE sha256 OF THE DUMP (.gsa) THAT YtdobfmpepjnikaaDoorProg.lean LOADS. Nothing in Lean hashes anything: it is a label: what it is worth is what the hold of that sum in a sandbox is worth. -/
noncomputable def Tryd.pinned : Pinned := { name := "ytdobfmpepjnikaadoor", sum := "65bdf4d4a79a7cc0200e8f537267e990443a14ca22238f8b6295f03994e08675", checked := Tryd.checked }
namespace Rows
def none {H : Type} : Left H := { results := [], args := [] }

/- WHAT THE LISTED PACKAGE-LEVEL VARIABLES READ AS WHEN THE CALL BEGINS. Each datum BY PROGRAM (the guide's laid-datum.mjs) off the statement by which the dump's own 'gosem.cut.vars' lays the variable. In a bare row this is a premise. The card (YtdobfmpepjnikaaDoorCards.lean) ties it to the program's text. -/
def laid_math_bits_deBruijn32tab {H : Type} : DataW H := .agg [.lit (.int .u8 0), .lit (.int .u8 1), .lit (.int .u8 28), .lit (.int .u8 2), .lit (.int .u8 29), .lit (.int .u8 14), .lit (.int .u8 24), .lit (.int .u8 3), .lit (.int .u8 30), .lit (.int .u8 22), .lit (.int .u8 20), .lit (.int .u8 15), .lit (.int .u8 25), .lit (.int .u8 17), .lit (.int .u8 4), .lit (.int .u8 8), .lit (.int .u8 31), .lit (.int .u8 27), .lit (.int .u8 13), .lit (.int .u8 23), .lit (.int .u8 21), .lit (.int .u8 19), .lit (.int .u8 16), .lit (.int .u8 7), .lit (.int .u8 26), .lit (.int .u8 12), .lit (.int .u8 18), .lit (.int .u8 6), .lit (.int .u8 11), .lit (.int .u8 5), .lit (.int .u8 10), .lit (.int .u8 9)]
def laid_math_bits_deBruijn64tab {H : Type} : DataW H := .agg [.lit (.int .u8 0), .lit (.int .u8 1), .lit (.int .u8 56), .lit (.int .u8 2), .lit (.int .u8 57), .lit (.int .u8 49), .lit (.int .u8 28), .lit (.int .u8 3), .lit (.int .u8 61), .lit (.int .u8 58), .lit (.int .u8 42), .lit (.int .u8 50), .lit (.int .u8 38), .lit (.int .u8 29), .lit (.int .u8 17), .lit (.int .u8 4), .lit (.int .u8 62), .lit (.int .u8 47), .lit (.int .u8 59), .lit (.int .u8 36), .lit (.int .u8 45), .lit (.int .u8 43), .lit (.int .u8 51), .lit (.int .u8 22), .lit (.int .u8 53), .lit (.int .u8 39), .lit (.int .u8 33), .lit (.int .u8 30), .lit (.int .u8 24), .lit (.int .u8 18), .lit (.int .u8 12), .lit (.int .u8 5), .lit (.int .u8 63), .lit (.int .u8 55), .lit (.int .u8 48), .lit (.int .u8 27), .lit (.int .u8 60), .lit (.int .u8 41), .lit (.int .u8 37), .lit (.int .u8 16), .lit (.int .u8 46), .lit (.int .u8 35), .lit (.int .u8 44), .lit (.int .u8 21), .lit (.int .u8 52), .lit (.int .u8 32), .lit (.int .u8 23), .lit (.int .u8 11), .lit (.int .u8 54), .lit (.int .u8 26), .lit (.int .u8 40), .lit (.int .u8 15), .lit (.int .u8 34), .lit (.int .u8 20), .lit (.int .u8 31), .lit (.int .u8 10), .lit (.int .u8 25), .lit (.int .u8 14), .lit (.int .u8 19), .lit (.int .u8 9), .lit (.int .u8 13), .lit (.int .u8 8), .lit (.int .u8 7), .lit (.int .u8 6)]
def laid_internal_strconv_uint64pow10 {H : Type} : DataW H := .agg [.lit (.int .u64 1), .lit (.int .u64 10), .lit (.int .u64 100), .lit (.int .u64 1000), .lit (.int .u64 10000), .lit (.int .u64 100000), .lit (.int .u64 1000000), .lit (.int .u64 10000000), .lit (.int .u64 100000000), .lit (.int .u64 1000000000), .lit (.int .u64 10000000000), .lit (.int .u64 100000000000), .lit (.int .u64 1000000000000), .lit (.int .u64 10000000000000), .lit (.int .u64 100000000000000), .lit (.int .u64 1000000000000000), .lit (.int .u64 10000000000000000), .lit (.int .u64 100000000000000000), .lit (.int .u64 1000000000000000000), .lit (.int .u64 10000000000000000000)]
def laid_vellum_isa_formats {H : Type} : DataW H := .agg [.agg [.lit (.int .u8 0), .lit (.int .u8 5), .lit (.int .u8 0), .lit (.int .u8 1), .agg [.lit (.int .u8 0), .lit (.int .u8 0), .lit (.int .u8 0), .lit (.int .u8 0)], .lit (.string []), .lit (.string [])], .agg [.lit (.int .u8 16), .lit (.int .u8 19), .lit (.int .u8 0), .lit (.int .u8 2), .agg [.lit (.int .u8 1), .lit (.int .u8 0), .lit (.int .u8 0), .lit (.int .u8 0)], .lit (.string []), .lit (.string [68])], .agg [.lit (.int .u8 20), .lit (.int .u8 21), .lit (.int .u8 0), .lit (.int .u8 2), .agg [.lit (.int .u8 5), .lit (.int .u8 0), .lit (.int .u8 0), .lit (.int .u8 0)], .lit (.string []), .lit (.string [110])], .agg [.lit (.int .u8 32), .lit (.int .u8 46), .lit (.int .u8 0), .lit (.int .u8 2), .agg [.lit (.int .u8 3), .lit (.int .u8 0), .lit (.int .u8 0), .lit (.int .u8 0)], .lit (.string []), .lit (.string [68, 44, 32, 83])], .agg [.lit (.int .u8 32), .lit (.int .u8 46), .lit (.int .u8 16), .lit (.int .u8 3), .agg [.lit (.int .u8 1), .lit (.int .u8 4), .lit (.int .u8 0), .lit (.int .u8 0)], .lit (.string [46, 98]), .lit (.string [68, 44, 32, 105])], .agg [.lit (.int .u8 32), .lit (.int .u8 46), .lit (.int .u8 32), .lit (.int .u8 4), .agg [.lit (.int .u8 1), .lit (.int .u8 6), .lit (.int .u8 0), .lit (.int .u8 0)], .lit (.string [46, 119]), .lit (.string [68, 44, 32, 105])], .agg [.lit (.int .u8 80), .lit (.int .u8 83), .lit (.int .u8 0), .lit (.int .u8 3), .agg [.lit (.int .u8 3), .lit (.int .u8 4), .lit (.int .u8 0), .lit (.int .u8 0)], .lit (.string []), .lit (.string [68, 44, 32, 91, 83, 111, 93])], .agg [.lit (.int .u8 80), .lit (.int .u8 83), .lit (.int .u8 8), .lit (.int .u8 4), .agg [.lit (.int .u8 3), .lit (.int .u8 6), .lit (.int .u8 0), .lit (.int .u8 0)], .lit (.string [46, 119]), .lit (.string [68, 44, 32, 91, 83, 111, 93])], .agg [.lit (.int .u8 84), .lit (.int .u8 87), .lit (.int .u8 0), .lit (.int .u8 4), .agg [.lit (.int .u8 1), .lit (.int .u8 6), .lit (.int .u8 0), .lit (.int .u8 0)], .lit (.string []), .lit (.string [68, 44, 32, 91, 97, 93])], .agg [.lit (.int .u8 96), .lit (.int .u8 109), .lit (.int .u8 0), .lit (.int .u8 2), .agg [.lit (.int .u8 4), .lit (.int .u8 0), .lit (.int .u8 0), .lit (.int .u8 0)], .lit (.string []), .lit (.string [116])], .agg [.lit (.int .u8 96), .lit (.int .u8 109), .lit (.int .u8 16), .lit (.int .u8 3), .agg [.lit (.int .u8 6), .lit (.int .u8 0), .lit (.int .u8 0), .lit (.int .u8 0)], .lit (.string [46, 119]), .lit (.string [116])], .agg [.lit (.int .u8 128), .lit (.int .u8 128), .lit (.int .u8 0), .lit (.int .u8 2), .agg [.lit (.int .u8 4), .lit (.int .u8 0), .lit (.int .u8 0), .lit (.int .u8 0)], .lit (.string []), .lit (.string [116])], .agg [.lit (.int .u8 129), .lit (.int .u8 130), .lit (.int .u8 0), .lit (.int .u8 3), .agg [.lit (.int .u8 6), .lit (.int .u8 0), .lit (.int .u8 0), .lit (.int .u8 0)], .lit (.string []), .lit (.string [116])], .agg [.lit (.int .u8 131), .lit (.int .u8 132), .lit (.int .u8 0), .lit (.int .u8 4), .agg [.lit (.int .u8 8), .lit (.int .u8 6), .lit (.int .u8 0), .lit (.int .u8 0)], .lit (.string []), .lit (.string [98, 58, 97])], .agg [.lit (.int .u8 133), .lit (.int .u8 133), .lit (.int .u8 0), .lit (.int .u8 7), .agg [.lit (.int .u8 1), .lit (.int .u8 9), .lit (.int .u8 6), .lit (.int .u8 7)], .lit (.string []), .lit (.string [68, 44, 32, 98, 44, 32, 116, 44, 32, 120])], .agg [.lit (.int .u8 134), .lit (.int .u8 134), .lit (.int .u8 0), .lit (.int .u8 4), .agg [.lit (.int .u8 1), .lit (.int .u8 6), .lit (.int .u8 0), .lit (.int .u8 0)], .lit (.string []), .lit (.string [68, 44, 32, 97])], .agg [.lit (.int .u8 144), .lit (.int .u8 144), .lit (.int .u8 0), .lit (.int .u8 3), .agg [.lit (.int .u8 1), .lit (.int .u8 5), .lit (.int .u8 0), .lit (.int .u8 0)], .lit (.string []), .lit (.string [68, 44, 32, 110])], .agg [.lit (.int .u8 145), .lit (.int .u8 145), .lit (.int .u8 0), .lit (.int .u8 3), .agg [.lit (.int .u8 1), .lit (.int .u8 5), .lit (.int .u8 0), .lit (.int .u8 0)], .lit (.string []), .lit (.string [110, 44, 32, 68])], .agg [.lit (.int .u8 146), .lit (.int .u8 147), .lit (.int .u8 0), .lit (.int .u8 5), .agg [.lit (.int .u8 3), .lit (.int .u8 8), .lit (.int .u8 6), .lit (.int .u8 0)], .lit (.string []), .lit (.string [68, 44, 32, 98, 58, 91, 83, 43, 97, 93])], .agg [.lit (.int .u8 150), .lit (.int .u8 150), .lit (.int .u8 0), .lit (.int .u8 6), .agg [.lit (.int .u8 2), .lit (.int .u8 6), .lit (.int .u8 7), .lit (.int .u8 0)], .lit (.string []), .lit (.string [91, 83, 111, 93, 44, 32, 121])], .agg [.lit (.int .u8 160), .lit (.int .u8 161), .lit (.int .u8 0), .lit (.int .u8 3), .agg [.lit (.int .u8 1), .lit (.int .u8 5), .lit (.int .u8 0), .lit (.int .u8 0)], .lit (.string []), .lit (.string [68, 44, 32, 110])], .agg [.lit (.int .u8 162), .lit (.int .u8 163), .lit (.int .u8 0), .lit (.int .u8 3), .agg [.lit (.int .u8 1), .lit (.int .u8 4), .lit (.int .u8 0), .lit (.int .u8 0)], .lit (.string []), .lit (.string [68, 44, 32, 105])]]
def laid_vellum_isa_conditionNames {H : Type} : DataW H := .agg [.lit (.string [101, 113]), .lit (.string [110, 101]), .lit (.string [99, 115]), .lit (.string [99, 99]), .lit (.string [109, 105]), .lit (.string [112, 108]), .lit (.string [118, 115]), .lit (.string [118, 99]), .lit (.string [104, 105]), .lit (.string [108, 115]), .lit (.string [103, 101]), .lit (.string [108, 116]), .lit (.string [103, 116]), .lit (.string [108, 101])]

/-- 'vellumlaw02.IsaEncodes': WHATEVER THE INPUT: true; the input reads as it did. -/
def isaEncodesSpec : ChangeSpec := { name := "isaEncodes", fn := fun _ => fun
  | [d1, d2, d3] => { results := [.lit (.bool true)], args := [d1, d2, d3] }
  | _ => none }
def isaEncodesRow : OpenClaim := { program := "ytdobfmpepjnikaadoor", sum := "65bdf4d4a79a7cc0200e8f537267e990443a14ca22238f8b6295f03994e08675", func := "vellum/vellumlaw02.IsaEncodes", spec := "isaEncodes", inPlace := ["internal/abi.NoEscape", "internal/bytealg.MakeNoZero"], unfollowed := true, recurses := true, named := ["vellum/isa.formats", "vellum/isa.conditionNames", "internal/strconv.uint64pow10", "math/bits.deBruijn32tab", "math/bits.deBruijn64tab"], apart := false, laid := [("math/bits.deBruijn32tab", laid_math_bits_deBruijn32tab), ("math/bits.deBruijn64tab", laid_math_bits_deBruijn64tab), ("internal/strconv.uint64pow10", laid_internal_strconv_uint64pow10), ("vellum/isa.formats", laid_vellum_isa_formats), ("vellum/isa.conditionNames", laid_vellum_isa_conditionNames)] }
def IsaEncodesSaid : Prop := isaEncodesRow.holds Tryd.pinned (OpenSpec.ofChange isaEncodesSpec)

/-- ITS FALSE NEIGHBOUR: 'it returns false'. Refute it at one input. -/
def isaEncodesWrong : ChangeSpec := { name := "isaEncodes", fn := fun _ => fun
  | [d1, d2, d3] => { results := [.lit (.bool false)], args := [d1, d2, d3] }
  | _ => none }
def IsaEncodesWrongFalsely : Prop := isaEncodesRow.holds Tryd.pinned (OpenSpec.ofChange isaEncodesWrong)

/-- 'vellumlaw02.IsaDecodes': WHATEVER THE INPUT: true; the input reads as it did. -/
def isaDecodesSpec : ChangeSpec := { name := "isaDecodes", fn := fun _ => fun
  | [d1, d2] => { results := [.lit (.bool true)], args := [d1, d2] }
  | _ => none }
def isaDecodesRow : OpenClaim := { program := "ytdobfmpepjnikaadoor", sum := "65bdf4d4a79a7cc0200e8f537267e990443a14ca22238f8b6295f03994e08675", func := "vellum/vellumlaw02.IsaDecodes", spec := "isaDecodes", inPlace := ["internal/abi.NoEscape", "internal/bytealg.MakeNoZero"], unfollowed := true, recurses := true, named := ["vellum/isa.formats", "vellum/isa.conditionNames", "internal/strconv.uint64pow10", "math/bits.deBruijn32tab", "math/bits.deBruijn64tab"], apart := false, laid := [("math/bits.deBruijn32tab", laid_math_bits_deBruijn32tab), ("math/bits.deBruijn64tab", laid_math_bits_deBruijn64tab), ("internal/strconv.uint64pow10", laid_internal_strconv_uint64pow10), ("vellum/isa.formats", laid_vellum_isa_formats), ("vellum/isa.conditionNames", laid_vellum_isa_conditionNames)] }
def IsaDecodesSaid : Prop := isaDecodesRow.holds Tryd.pinned (OpenSpec.ofChange isaDecodesSpec)

/-- ITS FALSE NEIGHBOUR: 'it returns false'. Refute it at one input. -/
def isaDecodesWrong : ChangeSpec := { name := "isaDecodes", fn := fun _ => fun
  | [d1, d2] => { results := [.lit (.bool false)], args := [d1, d2] }
  | _ => none }
def IsaDecodesWrongFalsely : Prop := isaDecodesRow.holds Tryd.pinned (OpenSpec.ofChange isaDecodesWrong)

/-- 'vellumlaw02.IsaInverts': WHATEVER THE INPUT: true; the input reads as it did. -/
def isaInvertsSpec : ChangeSpec := { name := "isaInverts", fn := fun _ => fun
  | [d1, d2] => { results := [.lit (.bool true)], args := [d1, d2] }
  | _ => none }
def isaInvertsRow : OpenClaim := { program := "ytdobfmpepjnikaadoor", sum := "65bdf4d4a79a7cc0200e8f537267e990443a14ca22238f8b6295f03994e08675", func := "vellum/vellumlaw02.IsaInverts", spec := "isaInverts", inPlace := ["internal/abi.NoEscape", "internal/bytealg.MakeNoZero"], unfollowed := true, recurses := true, named := ["vellum/isa.formats", "vellum/isa.conditionNames", "internal/strconv.uint64pow10", "math/bits.deBruijn32tab", "math/bits.deBruijn64tab"], apart := false, laid := [("math/bits.deBruijn32tab", laid_math_bits_deBruijn32tab), ("math/bits.deBruijn64tab", laid_math_bits_deBruijn64tab), ("internal/strconv.uint64pow10", laid_internal_strconv_uint64pow10), ("vellum/isa.formats", laid_vellum_isa_formats), ("vellum/isa.conditionNames", laid_vellum_isa_conditionNames)] }
def IsaInvertsSaid : Prop := isaInvertsRow.holds Tryd.pinned (OpenSpec.ofChange isaInvertsSpec)

/-- ITS FALSE NEIGHBOUR: 'it returns false'. Refute it at one input. -/
def isaInvertsWrong : ChangeSpec := { name := "isaInverts", fn := fun _ => fun
  | [d1, d2] => { results := [.lit (.bool false)], args := [d1, d2] }
  | _ => none }
def IsaInvertsWrongFalsely : Prop := isaInvertsRow.holds Tryd.pinned (OpenSpec.ofChange isaInvertsWrong)

/-- 'vellumlaw02.IsaUnique': WHATEVER THE INPUT: true; the input reads as it did. -/
def isaUniqueSpec : ChangeSpec := { name := "isaUnique", fn := fun _ => fun
  | [d1, d2] => { results := [.lit (.bool true)], args := [d1, d2] }
  | _ => none }
def isaUniqueRow : OpenClaim := { program := "ytdobfmpepjnikaadoor", sum := "65bdf4d4a79a7cc0200e8f537267e990443a14ca22238f8b6295f03994e08675", func := "vellum/vellumlaw02.IsaUnique", spec := "isaUnique", inPlace := ["internal/abi.NoEscape", "internal/bytealg.MakeNoZero"], unfollowed := true, recurses := true, named := ["vellum/isa.formats", "vellum/isa.conditionNames", "internal/strconv.uint64pow10", "math/bits.deBruijn32tab", "math/bits.deBruijn64tab"], apart := false, laid := [("math/bits.deBruijn32tab", laid_math_bits_deBruijn32tab), ("math/bits.deBruijn64tab", laid_math_bits_deBruijn64tab), ("internal/strconv.uint64pow10", laid_internal_strconv_uint64pow10), ("vellum/isa.formats", laid_vellum_isa_formats), ("vellum/isa.conditionNames", laid_vellum_isa_conditionNames)] }
def IsaUniqueSaid : Prop := isaUniqueRow.holds Tryd.pinned (OpenSpec.ofChange isaUniqueSpec)

/-- ITS FALSE NEIGHBOUR: 'it returns false'. Refute it at one input. -/
def isaUniqueWrong : ChangeSpec := { name := "isaUnique", fn := fun _ => fun
  | [d1, d2] => { results := [.lit (.bool false)], args := [d1, d2] }
  | _ => none }
def IsaUniqueWrongFalsely : Prop := isaUniqueRow.holds Tryd.pinned (OpenSpec.ofChange isaUniqueWrong)

/-- 'vellumlaw02.IsaSizes': WHATEVER THE INPUT: true; the input reads as it did. -/
def isaSizesSpec : ChangeSpec := { name := "isaSizes", fn := fun _ => fun
  | [d] => { results := [.lit (.bool true)], args := [d] }
  | _ => none }
def isaSizesRow : OpenClaim := { program := "ytdobfmpepjnikaadoor", sum := "65bdf4d4a79a7cc0200e8f537267e990443a14ca22238f8b6295f03994e08675", func := "vellum/vellumlaw02.IsaSizes", spec := "isaSizes", inPlace := ["internal/abi.NoEscape", "internal/bytealg.MakeNoZero"], unfollowed := true, recurses := true, named := ["vellum/isa.formats", "vellum/isa.conditionNames", "internal/strconv.uint64pow10", "math/bits.deBruijn32tab", "math/bits.deBruijn64tab"], apart := false, laid := [("math/bits.deBruijn32tab", laid_math_bits_deBruijn32tab), ("math/bits.deBruijn64tab", laid_math_bits_deBruijn64tab), ("internal/strconv.uint64pow10", laid_internal_strconv_uint64pow10), ("vellum/isa.formats", laid_vellum_isa_formats), ("vellum/isa.conditionNames", laid_vellum_isa_conditionNames)] }
def IsaSizesSaid : Prop := isaSizesRow.holds Tryd.pinned (OpenSpec.ofChange isaSizesSpec)

/-- ITS FALSE NEIGHBOUR: 'it returns false'. Refute it at one input. -/
def isaSizesWrong : ChangeSpec := { name := "isaSizes", fn := fun _ => fun
  | [d] => { results := [.lit (.bool false)], args := [d] }
  | _ => none }
def IsaSizesWrongFalsely : Prop := isaSizesRow.holds Tryd.pinned (OpenSpec.ofChange isaSizesWrong)

/-- 'vellumlaw02.IsaPrefix': WHATEVER THE INPUT: true; the input reads as it did. -/
def isaPrefixSpec : ChangeSpec := { name := "isaPrefix", fn := fun _ => fun
  | [d1, d2] => { results := [.lit (.bool true)], args := [d1, d2] }
  | _ => none }
def isaPrefixRow : OpenClaim := { program := "ytdobfmpepjnikaadoor", sum := "65bdf4d4a79a7cc0200e8f537267e990443a14ca22238f8b6295f03994e08675", func := "vellum/vellumlaw02.IsaPrefix", spec := "isaPrefix", inPlace := ["internal/abi.NoEscape", "internal/bytealg.MakeNoZero"], unfollowed := true, recurses := true, named := ["vellum/isa.formats", "vellum/isa.conditionNames", "internal/strconv.uint64pow10", "math/bits.deBruijn32tab", "math/bits.deBruijn64tab"], apart := false, laid := [("math/bits.deBruijn32tab", laid_math_bits_deBruijn32tab), ("math/bits.deBruijn64tab", laid_math_bits_deBruijn64tab), ("internal/strconv.uint64pow10", laid_internal_strconv_uint64pow10), ("vellum/isa.formats", laid_vellum_isa_formats), ("vellum/isa.conditionNames", laid_vellum_isa_conditionNames)] }
def IsaPrefixSaid : Prop := isaPrefixRow.holds Tryd.pinned (OpenSpec.ofChange isaPrefixSpec)

/-- ITS FALSE NEIGHBOUR: 'it returns false'. Refute it at one input. -/
def isaPrefixWrong : ChangeSpec := { name := "isaPrefix", fn := fun _ => fun
  | [d1, d2] => { results := [.lit (.bool false)], args := [d1, d2] }
  | _ => none }
def IsaPrefixWrongFalsely : Prop := isaPrefixRow.holds Tryd.pinned (OpenSpec.ofChange isaPrefixWrong)

/-- 'vellumlaw02.IsaTargets': WHATEVER THE INPUT: true; the input reads as it did. -/
def isaTargetsSpec : ChangeSpec := { name := "isaTargets", fn := fun _ => fun
  | [d1, d2, d3] => { results := [.lit (.bool true)], args := [d1, d2, d3] }
  | _ => none }
def isaTargetsRow : OpenClaim := { program := "ytdobfmpepjnikaadoor", sum := "65bdf4d4a79a7cc0200e8f537267e990443a14ca22238f8b6295f03994e08675", func := "vellum/vellumlaw02.IsaTargets", spec := "isaTargets", inPlace := ["internal/abi.NoEscape", "internal/bytealg.MakeNoZero"], unfollowed := true, recurses := true, named := ["vellum/isa.formats", "vellum/isa.conditionNames", "internal/strconv.uint64pow10", "math/bits.deBruijn32tab", "math/bits.deBruijn64tab"], apart := false, laid := [("math/bits.deBruijn32tab", laid_math_bits_deBruijn32tab), ("math/bits.deBruijn64tab", laid_math_bits_deBruijn64tab), ("internal/strconv.uint64pow10", laid_internal_strconv_uint64pow10), ("vellum/isa.formats", laid_vellum_isa_formats), ("vellum/isa.conditionNames", laid_vellum_isa_conditionNames)] }
def IsaTargetsSaid : Prop := isaTargetsRow.holds Tryd.pinned (OpenSpec.ofChange isaTargetsSpec)

/-- ITS FALSE NEIGHBOUR: 'it returns false'. Refute it at one input. -/
def isaTargetsWrong : ChangeSpec := { name := "isaTargets", fn := fun _ => fun
  | [d1, d2, d3] => { results := [.lit (.bool false)], args := [d1, d2, d3] }
  | _ => none }
def IsaTargetsWrongFalsely : Prop := isaTargetsRow.holds Tryd.pinned (OpenSpec.ofChange isaTargetsWrong)

/-- 'vellumlaw02.IsaReaches': WHATEVER THE INPUT: true; the input reads as it did. -/
def isaReachesSpec : ChangeSpec := { name := "isaReaches", fn := fun _ => fun
  | [d1, d2, d3] => { results := [.lit (.bool true)], args := [d1, d2, d3] }
  | _ => none }
def isaReachesRow : OpenClaim := { program := "ytdobfmpepjnikaadoor", sum := "65bdf4d4a79a7cc0200e8f537267e990443a14ca22238f8b6295f03994e08675", func := "vellum/vellumlaw02.IsaReaches", spec := "isaReaches", inPlace := ["internal/abi.NoEscape", "internal/bytealg.MakeNoZero"], unfollowed := true, recurses := true, named := ["vellum/isa.formats", "vellum/isa.conditionNames", "internal/strconv.uint64pow10", "math/bits.deBruijn32tab", "math/bits.deBruijn64tab"], apart := false, laid := [("math/bits.deBruijn32tab", laid_math_bits_deBruijn32tab), ("math/bits.deBruijn64tab", laid_math_bits_deBruijn64tab), ("internal/strconv.uint64pow10", laid_internal_strconv_uint64pow10), ("vellum/isa.formats", laid_vellum_isa_formats), ("vellum/isa.conditionNames", laid_vellum_isa_conditionNames)] }
def IsaReachesSaid : Prop := isaReachesRow.holds Tryd.pinned (OpenSpec.ofChange isaReachesSpec)

/-- ITS FALSE NEIGHBOUR: 'it returns false'. Refute it at one input. -/
def isaReachesWrong : ChangeSpec := { name := "isaReaches", fn := fun _ => fun
  | [d1, d2, d3] => { results := [.lit (.bool false)], args := [d1, d2, d3] }
  | _ => none }
def IsaReachesWrongFalsely : Prop := isaReachesRow.holds Tryd.pinned (OpenSpec.ofChange isaReachesWrong)

/-- 'vellumlaw02.IsaLines': WHATEVER THE INPUT: true; the input reads as it did. -/
def isaLinesSpec : ChangeSpec := { name := "isaLines", fn := fun _ => fun
  | [d1, d2, d3] => { results := [.lit (.bool true)], args := [d1, d2, d3] }
  | _ => none }
def isaLinesRow : OpenClaim := { program := "ytdobfmpepjnikaadoor", sum := "65bdf4d4a79a7cc0200e8f537267e990443a14ca22238f8b6295f03994e08675", func := "vellum/vellumlaw02.IsaLines", spec := "isaLines", inPlace := ["internal/abi.NoEscape", "internal/bytealg.MakeNoZero"], unfollowed := true, recurses := true, named := ["vellum/isa.formats", "vellum/isa.conditionNames", "internal/strconv.uint64pow10", "math/bits.deBruijn32tab", "math/bits.deBruijn64tab"], apart := false, laid := [("math/bits.deBruijn32tab", laid_math_bits_deBruijn32tab), ("math/bits.deBruijn64tab", laid_math_bits_deBruijn64tab), ("internal/strconv.uint64pow10", laid_internal_strconv_uint64pow10), ("vellum/isa.formats", laid_vellum_isa_formats), ("vellum/isa.conditionNames", laid_vellum_isa_conditionNames)] }
def IsaLinesSaid : Prop := isaLinesRow.holds Tryd.pinned (OpenSpec.ofChange isaLinesSpec)

/-- ITS FALSE NEIGHBOUR: 'it returns false'. Refute it at one input. -/
def isaLinesWrong : ChangeSpec := { name := "isaLines", fn := fun _ => fun
  | [d1, d2, d3] => { results := [.lit (.bool false)], args := [d1, d2, d3] }
  | _ => none }
def IsaLinesWrongFalsely : Prop := isaLinesRow.holds Tryd.pinned (OpenSpec.ofChange isaLinesWrong)

/-- 'vellumlaw02.IsaApart': WHATEVER THE INPUT: true; the input reads as it did. -/
def isaApartSpec : ChangeSpec := { name := "isaApart", fn := fun _ => fun
  | [d1, d2, d3] => { results := [.lit (.bool true)], args := [d1, d2, d3] }
  | _ => none }
def isaApartRow : OpenClaim := { program := "ytdobfmpepjnikaadoor", sum := "65bdf4d4a79a7cc0200e8f537267e990443a14ca22238f8b6295f03994e08675", func := "vellum/vellumlaw02.IsaApart", spec := "isaApart", inPlace := ["internal/abi.NoEscape", "internal/bytealg.MakeNoZero"], unfollowed := true, recurses := true, named := ["vellum/isa.formats", "vellum/isa.conditionNames", "internal/strconv.uint64pow10", "math/bits.deBruijn32tab", "math/bits.deBruijn64tab"], apart := false, laid := [("math/bits.deBruijn32tab", laid_math_bits_deBruijn32tab), ("math/bits.deBruijn64tab", laid_math_bits_deBruijn64tab), ("internal/strconv.uint64pow10", laid_internal_strconv_uint64pow10), ("vellum/isa.formats", laid_vellum_isa_formats), ("vellum/isa.conditionNames", laid_vellum_isa_conditionNames)] }
def IsaApartSaid : Prop := isaApartRow.holds Tryd.pinned (OpenSpec.ofChange isaApartSpec)

/-- ITS FALSE NEIGHBOUR: 'it returns false'. Refute it at one input. -/
def isaApartWrong : ChangeSpec := { name := "isaApart", fn := fun _ => fun
  | [d1, d2, d3] => { results := [.lit (.bool false)], args := [d1, d2, d3] }
  | _ => none }
def IsaApartWrongFalsely : Prop := isaApartRow.holds Tryd.pinned (OpenSpec.ofChange isaApartWrong)

/-- 'vellumlaw02.IsaStream': WHATEVER THE INPUT: true; the input reads as it did. -/
def isaStreamSpec : ChangeSpec := { name := "isaStream", fn := fun _ => fun
  | [d] => { results := [.lit (.bool true)], args := [d] }
  | _ => none }
def isaStreamRow : OpenClaim := { program := "ytdobfmpepjnikaadoor", sum := "65bdf4d4a79a7cc0200e8f537267e990443a14ca22238f8b6295f03994e08675", func := "vellum/vellumlaw02.IsaStream", spec := "isaStream", inPlace := ["internal/abi.NoEscape", "internal/bytealg.MakeNoZero"], unfollowed := true, recurses := true, named := ["vellum/isa.formats", "vellum/isa.conditionNames", "internal/strconv.uint64pow10", "math/bits.deBruijn32tab", "math/bits.deBruijn64tab"], apart := false, laid := [("math/bits.deBruijn32tab", laid_math_bits_deBruijn32tab), ("math/bits.deBruijn64tab", laid_math_bits_deBruijn64tab), ("internal/strconv.uint64pow10", laid_internal_strconv_uint64pow10), ("vellum/isa.formats", laid_vellum_isa_formats), ("vellum/isa.conditionNames", laid_vellum_isa_conditionNames)] }
def IsaStreamSaid : Prop := isaStreamRow.holds Tryd.pinned (OpenSpec.ofChange isaStreamSpec)

/-- ITS FALSE NEIGHBOUR: 'it returns false'. Refute it at one input. -/
def isaStreamWrong : ChangeSpec := { name := "isaStream", fn := fun _ => fun
  | [d] => { results := [.lit (.bool false)], args := [d] }
  | _ => none }
def IsaStreamWrongFalsely : Prop := isaStreamRow.holds Tryd.pinned (OpenSpec.ofChange isaStreamWrong)

/-- 'vellumlaw02.IsaForms': WHATEVER THE INPUT: true; the input reads as it did. -/
def isaFormsSpec : ChangeSpec := { name := "isaForms", fn := fun _ => fun
  | [d1, d2, d3] => { results := [.lit (.bool true)], args := [d1, d2, d3] }
  | _ => none }
def isaFormsRow : OpenClaim := { program := "ytdobfmpepjnikaadoor", sum := "65bdf4d4a79a7cc0200e8f537267e990443a14ca22238f8b6295f03994e08675", func := "vellum/vellumlaw02.IsaForms", spec := "isaForms", inPlace := ["internal/abi.NoEscape", "internal/bytealg.MakeNoZero"], unfollowed := true, recurses := true, named := ["vellum/isa.formats", "vellum/isa.conditionNames", "internal/strconv.uint64pow10", "math/bits.deBruijn32tab", "math/bits.deBruijn64tab"], apart := false, laid := [("math/bits.deBruijn32tab", laid_math_bits_deBruijn32tab), ("math/bits.deBruijn64tab", laid_math_bits_deBruijn64tab), ("internal/strconv.uint64pow10", laid_internal_strconv_uint64pow10), ("vellum/isa.formats", laid_vellum_isa_formats), ("vellum/isa.conditionNames", laid_vellum_isa_conditionNames)] }
def IsaFormsSaid : Prop := isaFormsRow.holds Tryd.pinned (OpenSpec.ofChange isaFormsSpec)

/-- ITS FALSE NEIGHBOUR: 'it returns false'. Refute it at one input. -/
def isaFormsWrong : ChangeSpec := { name := "isaForms", fn := fun _ => fun
  | [d1, d2, d3] => { results := [.lit (.bool false)], args := [d1, d2, d3] }
  | _ => none }
def IsaFormsWrongFalsely : Prop := isaFormsRow.holds Tryd.pinned (OpenSpec.ofChange isaFormsWrong)

/- THE SECOND FORM. 'bulk': how many values and letters a reading holds, each counted each time it is reached (what is shared counts as often as it is met; a slice's spare places count too). A statement '..UptoSaid' is the law's where the arguments, and the package variables that the reading takes, are together of bulk at most 1048576: NARROWER than '..Said'. Prove '..Said' where nothing that the law and all that it calls make is longer than what came in: it says more and counts as full. Else prove '..UptoSaid'. A law counts once. -/
mutual
def uptoBulk {H : Type} : DataW H → Nat
  | .lit (.string bytes) => bytes.length + 1
  | .lit _ => 1
  | .nil => 1
  | .ptr d => uptoBulk d + 1
  | .slice elems spare => uptoBulkAll elems + uptoBulkAll spare + 1
  | .agg parts => uptoBulkAll parts + 1
  | .iface _ d => uptoBulk d + 1
  | .map entries => uptoBulkEntries entries + 1
  | .held _ => 1
def uptoBulkAll {H : Type} : List (DataW H) → Nat
  | [] => 0
  | d :: r => uptoBulk d + uptoBulkAll r
def uptoBulkEntries {H : Type} : List (Lit × DataW H) → Nat
  | [] => 0
  | x :: r => uptoBulkEntry x + uptoBulkEntries r
def uptoBulkEntry {H : Type} : Lit × DataW H → Nat
  | (.string bytes, d) => bytes.length + uptoBulk d + 1
  | (_, d) => uptoBulk d + 1
 end
def uptoSmall : (H : Type) → List (DataW H) → Bool := fun _ ds => decide (uptoBulkAll ds ≤ 1048576)
def OpenSpec.upto (s : _root_.Go.ChangeSpec) : _root_.Go.OpenSpec := { _root_.Go.OpenSpec.ofChange s with cond := some uptoSmall }

/-- 'vellumlaw02.IsaEncodes', WHERE WHAT IT READS IS OF BULK AT MOST 1048576: true; the input reads as it did. -/
def isaEncodesUptoRow : OpenClaim := { program := "ytdobfmpepjnikaadoor", sum := "65bdf4d4a79a7cc0200e8f537267e990443a14ca22238f8b6295f03994e08675", func := "vellum/vellumlaw02.IsaEncodes", spec := "isaEncodes", inPlace := ["internal/abi.NoEscape", "internal/bytealg.MakeNoZero"], unfollowed := true, recurses := true, named := ["vellum/isa.formats", "vellum/isa.conditionNames", "internal/strconv.uint64pow10", "math/bits.deBruijn32tab", "math/bits.deBruijn64tab"], apart := false, laid := [("math/bits.deBruijn32tab", laid_math_bits_deBruijn32tab), ("math/bits.deBruijn64tab", laid_math_bits_deBruijn64tab), ("internal/strconv.uint64pow10", laid_internal_strconv_uint64pow10), ("vellum/isa.formats", laid_vellum_isa_formats), ("vellum/isa.conditionNames", laid_vellum_isa_conditionNames)], narrowed := true }
def IsaEncodesUptoSaid : Prop := isaEncodesUptoRow.holds Tryd.pinned (OpenSpec.upto isaEncodesSpec)

/-- 'vellumlaw02.IsaDecodes', WHERE WHAT IT READS IS OF BULK AT MOST 1048576: true; the input reads as it did. -/
def isaDecodesUptoRow : OpenClaim := { program := "ytdobfmpepjnikaadoor", sum := "65bdf4d4a79a7cc0200e8f537267e990443a14ca22238f8b6295f03994e08675", func := "vellum/vellumlaw02.IsaDecodes", spec := "isaDecodes", inPlace := ["internal/abi.NoEscape", "internal/bytealg.MakeNoZero"], unfollowed := true, recurses := true, named := ["vellum/isa.formats", "vellum/isa.conditionNames", "internal/strconv.uint64pow10", "math/bits.deBruijn32tab", "math/bits.deBruijn64tab"], apart := false, laid := [("math/bits.deBruijn32tab", laid_math_bits_deBruijn32tab), ("math/bits.deBruijn64tab", laid_math_bits_deBruijn64tab), ("internal/strconv.uint64pow10", laid_internal_strconv_uint64pow10), ("vellum/isa.formats", laid_vellum_isa_formats), ("vellum/isa.conditionNames", laid_vellum_isa_conditionNames)], narrowed := true }
def IsaDecodesUptoSaid : Prop := isaDecodesUptoRow.holds Tryd.pinned (OpenSpec.upto isaDecodesSpec)

/-- 'vellumlaw02.IsaInverts', WHERE WHAT IT READS IS OF BULK AT MOST 1048576: true; the input reads as it did. -/
def isaInvertsUptoRow : OpenClaim := { program := "ytdobfmpepjnikaadoor", sum := "65bdf4d4a79a7cc0200e8f537267e990443a14ca22238f8b6295f03994e08675", func := "vellum/vellumlaw02.IsaInverts", spec := "isaInverts", inPlace := ["internal/abi.NoEscape", "internal/bytealg.MakeNoZero"], unfollowed := true, recurses := true, named := ["vellum/isa.formats", "vellum/isa.conditionNames", "internal/strconv.uint64pow10", "math/bits.deBruijn32tab", "math/bits.deBruijn64tab"], apart := false, laid := [("math/bits.deBruijn32tab", laid_math_bits_deBruijn32tab), ("math/bits.deBruijn64tab", laid_math_bits_deBruijn64tab), ("internal/strconv.uint64pow10", laid_internal_strconv_uint64pow10), ("vellum/isa.formats", laid_vellum_isa_formats), ("vellum/isa.conditionNames", laid_vellum_isa_conditionNames)], narrowed := true }
def IsaInvertsUptoSaid : Prop := isaInvertsUptoRow.holds Tryd.pinned (OpenSpec.upto isaInvertsSpec)

/-- 'vellumlaw02.IsaUnique', WHERE WHAT IT READS IS OF BULK AT MOST 1048576: true; the input reads as it did. -/
def isaUniqueUptoRow : OpenClaim := { program := "ytdobfmpepjnikaadoor", sum := "65bdf4d4a79a7cc0200e8f537267e990443a14ca22238f8b6295f03994e08675", func := "vellum/vellumlaw02.IsaUnique", spec := "isaUnique", inPlace := ["internal/abi.NoEscape", "internal/bytealg.MakeNoZero"], unfollowed := true, recurses := true, named := ["vellum/isa.formats", "vellum/isa.conditionNames", "internal/strconv.uint64pow10", "math/bits.deBruijn32tab", "math/bits.deBruijn64tab"], apart := false, laid := [("math/bits.deBruijn32tab", laid_math_bits_deBruijn32tab), ("math/bits.deBruijn64tab", laid_math_bits_deBruijn64tab), ("internal/strconv.uint64pow10", laid_internal_strconv_uint64pow10), ("vellum/isa.formats", laid_vellum_isa_formats), ("vellum/isa.conditionNames", laid_vellum_isa_conditionNames)], narrowed := true }
def IsaUniqueUptoSaid : Prop := isaUniqueUptoRow.holds Tryd.pinned (OpenSpec.upto isaUniqueSpec)

/-- 'vellumlaw02.IsaSizes', WHERE WHAT IT READS IS OF BULK AT MOST 1048576: true; the input reads as it did. -/
def isaSizesUptoRow : OpenClaim := { program := "ytdobfmpepjnikaadoor", sum := "65bdf4d4a79a7cc0200e8f537267e990443a14ca22238f8b6295f03994e08675", func := "vellum/vellumlaw02.IsaSizes", spec := "isaSizes", inPlace := ["internal/abi.NoEscape", "internal/bytealg.MakeNoZero"], unfollowed := true, recurses := true, named := ["vellum/isa.formats", "vellum/isa.conditionNames", "internal/strconv.uint64pow10", "math/bits.deBruijn32tab", "math/bits.deBruijn64tab"], apart := false, laid := [("math/bits.deBruijn32tab", laid_math_bits_deBruijn32tab), ("math/bits.deBruijn64tab", laid_math_bits_deBruijn64tab), ("internal/strconv.uint64pow10", laid_internal_strconv_uint64pow10), ("vellum/isa.formats", laid_vellum_isa_formats), ("vellum/isa.conditionNames", laid_vellum_isa_conditionNames)], narrowed := true }
def IsaSizesUptoSaid : Prop := isaSizesUptoRow.holds Tryd.pinned (OpenSpec.upto isaSizesSpec)

/-- 'vellumlaw02.IsaPrefix', WHERE WHAT IT READS IS OF BULK AT MOST 1048576: true; the input reads as it did. -/
def isaPrefixUptoRow : OpenClaim := { program := "ytdobfmpepjnikaadoor", sum := "65bdf4d4a79a7cc0200e8f537267e990443a14ca22238f8b6295f03994e08675", func := "vellum/vellumlaw02.IsaPrefix", spec := "isaPrefix", inPlace := ["internal/abi.NoEscape", "internal/bytealg.MakeNoZero"], unfollowed := true, recurses := true, named := ["vellum/isa.formats", "vellum/isa.conditionNames", "internal/strconv.uint64pow10", "math/bits.deBruijn32tab", "math/bits.deBruijn64tab"], apart := false, laid := [("math/bits.deBruijn32tab", laid_math_bits_deBruijn32tab), ("math/bits.deBruijn64tab", laid_math_bits_deBruijn64tab), ("internal/strconv.uint64pow10", laid_internal_strconv_uint64pow10), ("vellum/isa.formats", laid_vellum_isa_formats), ("vellum/isa.conditionNames", laid_vellum_isa_conditionNames)], narrowed := true }
def IsaPrefixUptoSaid : Prop := isaPrefixUptoRow.holds Tryd.pinned (OpenSpec.upto isaPrefixSpec)

/-- 'vellumlaw02.IsaTargets', WHERE WHAT IT READS IS OF BULK AT MOST 1048576: true; the input reads as it did. -/
def isaTargetsUptoRow : OpenClaim := { program := "ytdobfmpepjnikaadoor", sum := "65bdf4d4a79a7cc0200e8f537267e990443a14ca22238f8b6295f03994e08675", func := "vellum/vellumlaw02.IsaTargets", spec := "isaTargets", inPlace := ["internal/abi.NoEscape", "internal/bytealg.MakeNoZero"], unfollowed := true, recurses := true, named := ["vellum/isa.formats", "vellum/isa.conditionNames", "internal/strconv.uint64pow10", "math/bits.deBruijn32tab", "math/bits.deBruijn64tab"], apart := false, laid := [("math/bits.deBruijn32tab", laid_math_bits_deBruijn32tab), ("math/bits.deBruijn64tab", laid_math_bits_deBruijn64tab), ("internal/strconv.uint64pow10", laid_internal_strconv_uint64pow10), ("vellum/isa.formats", laid_vellum_isa_formats), ("vellum/isa.conditionNames", laid_vellum_isa_conditionNames)], narrowed := true }
def IsaTargetsUptoSaid : Prop := isaTargetsUptoRow.holds Tryd.pinned (OpenSpec.upto isaTargetsSpec)

/-- 'vellumlaw02.IsaReaches', WHERE WHAT IT READS IS OF BULK AT MOST 1048576: true; the input reads as it did. -/
def isaReachesUptoRow : OpenClaim := { program := "ytdobfmpepjnikaadoor", sum := "65bdf4d4a79a7cc0200e8f537267e990443a14ca22238f8b6295f03994e08675", func := "vellum/vellumlaw02.IsaReaches", spec := "isaReaches", inPlace := ["internal/abi.NoEscape", "internal/bytealg.MakeNoZero"], unfollowed := true, recurses := true, named := ["vellum/isa.formats", "vellum/isa.conditionNames", "internal/strconv.uint64pow10", "math/bits.deBruijn32tab", "math/bits.deBruijn64tab"], apart := false, laid := [("math/bits.deBruijn32tab", laid_math_bits_deBruijn32tab), ("math/bits.deBruijn64tab", laid_math_bits_deBruijn64tab), ("internal/strconv.uint64pow10", laid_internal_strconv_uint64pow10), ("vellum/isa.formats", laid_vellum_isa_formats), ("vellum/isa.conditionNames", laid_vellum_isa_conditionNames)], narrowed := true }
def IsaReachesUptoSaid : Prop := isaReachesUptoRow.holds Tryd.pinned (OpenSpec.upto isaReachesSpec)

/-- 'vellumlaw02.IsaLines', WHERE WHAT IT READS IS OF BULK AT MOST 1048576: true; the input reads as it did. -/
def isaLinesUptoRow : OpenClaim := { program := "ytdobfmpepjnikaadoor", sum := "65bdf4d4a79a7cc0200e8f537267e990443a14ca22238f8b6295f03994e08675", func := "vellum/vellumlaw02.IsaLines", spec := "isaLines", inPlace := ["internal/abi.NoEscape", "internal/bytealg.MakeNoZero"], unfollowed := true, recurses := true, named := ["vellum/isa.formats", "vellum/isa.conditionNames", "internal/strconv.uint64pow10", "math/bits.deBruijn32tab", "math/bits.deBruijn64tab"], apart := false, laid := [("math/bits.deBruijn32tab", laid_math_bits_deBruijn32tab), ("math/bits.deBruijn64tab", laid_math_bits_deBruijn64tab), ("internal/strconv.uint64pow10", laid_internal_strconv_uint64pow10), ("vellum/isa.formats", laid_vellum_isa_formats), ("vellum/isa.conditionNames", laid_vellum_isa_conditionNames)], narrowed := true }
def IsaLinesUptoSaid : Prop := isaLinesUptoRow.holds Tryd.pinned (OpenSpec.upto isaLinesSpec)

/-- 'vellumlaw02.IsaApart', WHERE WHAT IT READS IS OF BULK AT MOST 1048576: true; the input reads as it did. -/
def isaApartUptoRow : OpenClaim := { program := "ytdobfmpepjnikaadoor", sum := "65bdf4d4a79a7cc0200e8f537267e990443a14ca22238f8b6295f03994e08675", func := "vellum/vellumlaw02.IsaApart", spec := "isaApart", inPlace := ["internal/abi.NoEscape", "internal/bytealg.MakeNoZero"], unfollowed := true, recurses := true, named := ["vellum/isa.formats", "vellum/isa.conditionNames", "internal/strconv.uint64pow10", "math/bits.deBruijn32tab", "math/bits.deBruijn64tab"], apart := false, laid := [("math/bits.deBruijn32tab", laid_math_bits_deBruijn32tab), ("math/bits.deBruijn64tab", laid_math_bits_deBruijn64tab), ("internal/strconv.uint64pow10", laid_internal_strconv_uint64pow10), ("vellum/isa.formats", laid_vellum_isa_formats), ("vellum/isa.conditionNames", laid_vellum_isa_conditionNames)], narrowed := true }
def IsaApartUptoSaid : Prop := isaApartUptoRow.holds Tryd.pinned (OpenSpec.upto isaApartSpec)

/-- 'vellumlaw02.IsaStream', WHERE WHAT IT READS IS OF BULK AT MOST 1048576: true; the input reads as it did. -/
def isaStreamUptoRow : OpenClaim := { program := "ytdobfmpepjnikaadoor", sum := "65bdf4d4a79a7cc0200e8f537267e990443a14ca22238f8b6295f03994e08675", func := "vellum/vellumlaw02.IsaStream", spec := "isaStream", inPlace := ["internal/abi.NoEscape", "internal/bytealg.MakeNoZero"], unfollowed := true, recurses := true, named := ["vellum/isa.formats", "vellum/isa.conditionNames", "internal/strconv.uint64pow10", "math/bits.deBruijn32tab", "math/bits.deBruijn64tab"], apart := false, laid := [("math/bits.deBruijn32tab", laid_math_bits_deBruijn32tab), ("math/bits.deBruijn64tab", laid_math_bits_deBruijn64tab), ("internal/strconv.uint64pow10", laid_internal_strconv_uint64pow10), ("vellum/isa.formats", laid_vellum_isa_formats), ("vellum/isa.conditionNames", laid_vellum_isa_conditionNames)], narrowed := true }
def IsaStreamUptoSaid : Prop := isaStreamUptoRow.holds Tryd.pinned (OpenSpec.upto isaStreamSpec)

/-- 'vellumlaw02.IsaForms', WHERE WHAT IT READS IS OF BULK AT MOST 1048576: true; the input reads as it did. -/
def isaFormsUptoRow : OpenClaim := { program := "ytdobfmpepjnikaadoor", sum := "65bdf4d4a79a7cc0200e8f537267e990443a14ca22238f8b6295f03994e08675", func := "vellum/vellumlaw02.IsaForms", spec := "isaForms", inPlace := ["internal/abi.NoEscape", "internal/bytealg.MakeNoZero"], unfollowed := true, recurses := true, named := ["vellum/isa.formats", "vellum/isa.conditionNames", "internal/strconv.uint64pow10", "math/bits.deBruijn32tab", "math/bits.deBruijn64tab"], apart := false, laid := [("math/bits.deBruijn32tab", laid_math_bits_deBruijn32tab), ("math/bits.deBruijn64tab", laid_math_bits_deBruijn64tab), ("internal/strconv.uint64pow10", laid_internal_strconv_uint64pow10), ("vellum/isa.formats", laid_vellum_isa_formats), ("vellum/isa.conditionNames", laid_vellum_isa_conditionNames)], narrowed := true }
def IsaFormsUptoSaid : Prop := isaFormsUptoRow.holds Tryd.pinned (OpenSpec.upto isaFormsSpec)

end Rows
end Go.Proofs.YtdobfmpepjnikaaDoor
