/-
  NARROWER THAN 'FOR EVERY INPUT', by the rows' own cells (each row's printed sentence says how): SigningKeySpec: laid · SigningSignSpec: laid · SigningVerifySpec: laid · SigningVerifies: laid · SigningOrder: laid · SigningAntichain: laid · SigningChains: laid · SigningShape: laid.
  DERIVED. THE GIVEN ROWS OF THIS SEAT. 8 by the template 'for every input the law returns true; each argument reads behind the call as it read before'; 0 by the template 'total and deterministic' (their statements: YtiloaheaglcpbaaDoorTotals.lean).
  GIVEN WITH THE SEED: the statements are not yours to turn. If you find one false, say at which input.
  Laid BY PROGRAM, IN A SANDBOX (cutbox-rows.mjs): the forced cells as the released guide's own fill.sh prints them over the translation 0ebb9118a22403de… (all of the seat's roots in one cut). By AI agents, Wed Nov 11 2026. No macro, syntax, notation, axiom, sorry.
-/
import Derived.Test.YtiloaheaglcpbaaDoorChecked
import GoSem.Claim
import GoSem.ClaimJoined
import GoSem.ClaimMapViews
import Derived.JoinedTies
import Derived.KernelRfl
namespace Go.Proofs.YtiloaheaglcpbaaDoor
/- THE CELL 'sum', in the pinned program and in every row, IS THE sha256 OF THE DUMP (.gsa) THAT YtiloaheaglcpbaaDoorProg.lean LOADS. Nothing in Lean hashes anything: it is a label: what it is worth is what the hold of that sum in a sandbox is worth. -/
noncomputable def Tryd.pinned : Pinned := { name := "ytiloaheaglcpbaadoor", sum := "0ebb9118a22403deb3e56923f5f27e5a8478995c25045d6efcbb6d74a359a12f", checked := Tryd.checked }
namespace Rows
def none {H : Type} : Left H := { results := [], args := [] }

/- WHAT THE LISTED PACKAGE-LEVEL VARIABLES READ AS WHEN THE CALL BEGINS. Each datum BY PROGRAM (the guide's laid-datum.mjs) off the statement by which the dump's own 'gosem.cut.vars' lays the variable. In a bare row this is a premise. The card (YtiloaheaglcpbaaDoorCards.lean) ties it to the program's text. -/
def laid_veilstone_digest_constants {H : Type} : DataW H := .agg [.lit (.int .u32 1116352408), .lit (.int .u32 1899447441), .lit (.int .u32 3049323471), .lit (.int .u32 3921009573), .lit (.int .u32 961987163), .lit (.int .u32 1508970993), .lit (.int .u32 2453635748), .lit (.int .u32 2870763221), .lit (.int .u32 3624381080), .lit (.int .u32 310598401), .lit (.int .u32 607225278), .lit (.int .u32 1426881987), .lit (.int .u32 1925078388), .lit (.int .u32 2162078206), .lit (.int .u32 2614888103), .lit (.int .u32 3248222580), .lit (.int .u32 3835390401), .lit (.int .u32 4022224774), .lit (.int .u32 264347078), .lit (.int .u32 604807628), .lit (.int .u32 770255983), .lit (.int .u32 1249150122), .lit (.int .u32 1555081692), .lit (.int .u32 1996064986), .lit (.int .u32 2554220882), .lit (.int .u32 2821834349), .lit (.int .u32 2952996808), .lit (.int .u32 3210313671), .lit (.int .u32 3336571891), .lit (.int .u32 3584528711), .lit (.int .u32 113926993), .lit (.int .u32 338241895), .lit (.int .u32 666307205), .lit (.int .u32 773529912), .lit (.int .u32 1294757372), .lit (.int .u32 1396182291), .lit (.int .u32 1695183700), .lit (.int .u32 1986661051), .lit (.int .u32 2177026350), .lit (.int .u32 2456956037), .lit (.int .u32 2730485921), .lit (.int .u32 2820302411), .lit (.int .u32 3259730800), .lit (.int .u32 3345764771), .lit (.int .u32 3516065817), .lit (.int .u32 3600352804), .lit (.int .u32 4094571909), .lit (.int .u32 275423344), .lit (.int .u32 430227734), .lit (.int .u32 506948616), .lit (.int .u32 659060556), .lit (.int .u32 883997877), .lit (.int .u32 958139571), .lit (.int .u32 1322822218), .lit (.int .u32 1537002063), .lit (.int .u32 1747873779), .lit (.int .u32 1955562222), .lit (.int .u32 2024104815), .lit (.int .u32 2227730452), .lit (.int .u32 2361852424), .lit (.int .u32 2428436474), .lit (.int .u32 2756734187), .lit (.int .u32 3204031479), .lit (.int .u32 3329325298)]
def laid_veilstone_digest_initial {H : Type} : DataW H := .agg [.lit (.int .u32 1779033703), .lit (.int .u32 3144134277), .lit (.int .u32 1013904242), .lit (.int .u32 2773480762), .lit (.int .u32 1359893119), .lit (.int .u32 2600822924), .lit (.int .u32 528734635), .lit (.int .u32 1541459225)]

/-- 'veilstonelaw32.SigningKeySpec': WHATEVER THE INPUT: true; the input reads as it did. -/
def signingKeySpecSpec : ChangeSpec := { name := "signingKeySpec", fn := fun _ => fun
  | [d1, d2, d3, d4] => { results := [.lit (.bool true)], args := [d1, d2, d3, d4] }
  | _ => none }
def signingKeySpecRow : OpenClaim := { program := "ytiloaheaglcpbaadoor", sum := "0ebb9118a22403deb3e56923f5f27e5a8478995c25045d6efcbb6d74a359a12f", func := "veilstone/veilstonelaw32.SigningKeySpec", spec := "signingKeySpec", unfollowed := true, recurses := true, named := ["veilstone/digest.initial", "veilstone/digest.constants"], apart := false, laid := [("veilstone/digest.constants", laid_veilstone_digest_constants), ("veilstone/digest.initial", laid_veilstone_digest_initial)] }
def SigningKeySpecSaid : Prop := signingKeySpecRow.holds Tryd.pinned (OpenSpec.ofChange signingKeySpecSpec)

/-- ITS FALSE NEIGHBOUR: 'it returns false'. Refute it at one input. -/
def signingKeySpecWrong : ChangeSpec := { name := "signingKeySpec", fn := fun _ => fun
  | [d1, d2, d3, d4] => { results := [.lit (.bool false)], args := [d1, d2, d3, d4] }
  | _ => none }
def SigningKeySpecWrongFalsely : Prop := signingKeySpecRow.holds Tryd.pinned (OpenSpec.ofChange signingKeySpecWrong)

/-- 'veilstonelaw32.SigningSignSpec': WHATEVER THE INPUT: true; the input reads as it did. -/
def signingSignSpecSpec : ChangeSpec := { name := "signingSignSpec", fn := fun _ => fun
  | [d1, d2] => { results := [.lit (.bool true)], args := [d1, d2] }
  | _ => none }
def signingSignSpecRow : OpenClaim := { program := "ytiloaheaglcpbaadoor", sum := "0ebb9118a22403deb3e56923f5f27e5a8478995c25045d6efcbb6d74a359a12f", func := "veilstone/veilstonelaw32.SigningSignSpec", spec := "signingSignSpec", unfollowed := true, recurses := true, named := ["veilstone/digest.initial", "veilstone/digest.constants"], apart := false, laid := [("veilstone/digest.constants", laid_veilstone_digest_constants), ("veilstone/digest.initial", laid_veilstone_digest_initial)] }
def SigningSignSpecSaid : Prop := signingSignSpecRow.holds Tryd.pinned (OpenSpec.ofChange signingSignSpecSpec)

/-- ITS FALSE NEIGHBOUR: 'it returns false'. Refute it at one input. -/
def signingSignSpecWrong : ChangeSpec := { name := "signingSignSpec", fn := fun _ => fun
  | [d1, d2] => { results := [.lit (.bool false)], args := [d1, d2] }
  | _ => none }
def SigningSignSpecWrongFalsely : Prop := signingSignSpecRow.holds Tryd.pinned (OpenSpec.ofChange signingSignSpecWrong)

/-- 'veilstonelaw32.SigningVerifySpec': WHATEVER THE INPUT: true; the input reads as it did. -/
def signingVerifySpecSpec : ChangeSpec := { name := "signingVerifySpec", fn := fun _ => fun
  | [d1, d2, d3, d4] => { results := [.lit (.bool true)], args := [d1, d2, d3, d4] }
  | _ => none }
def signingVerifySpecRow : OpenClaim := { program := "ytiloaheaglcpbaadoor", sum := "0ebb9118a22403deb3e56923f5f27e5a8478995c25045d6efcbb6d74a359a12f", func := "veilstone/veilstonelaw32.SigningVerifySpec", spec := "signingVerifySpec", unfollowed := true, recurses := true, named := ["veilstone/digest.initial", "veilstone/digest.constants"], apart := false, laid := [("veilstone/digest.constants", laid_veilstone_digest_constants), ("veilstone/digest.initial", laid_veilstone_digest_initial)] }
def SigningVerifySpecSaid : Prop := signingVerifySpecRow.holds Tryd.pinned (OpenSpec.ofChange signingVerifySpecSpec)

/-- ITS FALSE NEIGHBOUR: 'it returns false'. Refute it at one input. -/
def signingVerifySpecWrong : ChangeSpec := { name := "signingVerifySpec", fn := fun _ => fun
  | [d1, d2, d3, d4] => { results := [.lit (.bool false)], args := [d1, d2, d3, d4] }
  | _ => none }
def SigningVerifySpecWrongFalsely : Prop := signingVerifySpecRow.holds Tryd.pinned (OpenSpec.ofChange signingVerifySpecWrong)

/-- 'veilstonelaw32.SigningVerifies': WHATEVER THE INPUT: true; the input reads as it did. -/
def signingVerifiesSpec : ChangeSpec := { name := "signingVerifies", fn := fun _ => fun
  | [d1, d2] => { results := [.lit (.bool true)], args := [d1, d2] }
  | _ => none }
def signingVerifiesRow : OpenClaim := { program := "ytiloaheaglcpbaadoor", sum := "0ebb9118a22403deb3e56923f5f27e5a8478995c25045d6efcbb6d74a359a12f", func := "veilstone/veilstonelaw32.SigningVerifies", spec := "signingVerifies", unfollowed := true, recurses := true, named := ["veilstone/digest.initial", "veilstone/digest.constants"], apart := false, laid := [("veilstone/digest.constants", laid_veilstone_digest_constants), ("veilstone/digest.initial", laid_veilstone_digest_initial)] }
def SigningVerifiesSaid : Prop := signingVerifiesRow.holds Tryd.pinned (OpenSpec.ofChange signingVerifiesSpec)

/-- ITS FALSE NEIGHBOUR: 'it returns false'. Refute it at one input. -/
def signingVerifiesWrong : ChangeSpec := { name := "signingVerifies", fn := fun _ => fun
  | [d1, d2] => { results := [.lit (.bool false)], args := [d1, d2] }
  | _ => none }
def SigningVerifiesWrongFalsely : Prop := signingVerifiesRow.holds Tryd.pinned (OpenSpec.ofChange signingVerifiesWrong)

/-- 'veilstonelaw32.SigningOrder': WHATEVER THE INPUT: true; the input reads as it did. -/
def signingOrderSpec : ChangeSpec := { name := "signingOrder", fn := fun _ => fun
  | [d1, d2, d3] => { results := [.lit (.bool true)], args := [d1, d2, d3] }
  | _ => none }
def signingOrderRow : OpenClaim := { program := "ytiloaheaglcpbaadoor", sum := "0ebb9118a22403deb3e56923f5f27e5a8478995c25045d6efcbb6d74a359a12f", func := "veilstone/veilstonelaw32.SigningOrder", spec := "signingOrder", unfollowed := true, recurses := true, named := ["veilstone/digest.initial", "veilstone/digest.constants"], apart := false, laid := [("veilstone/digest.constants", laid_veilstone_digest_constants), ("veilstone/digest.initial", laid_veilstone_digest_initial)] }
def SigningOrderSaid : Prop := signingOrderRow.holds Tryd.pinned (OpenSpec.ofChange signingOrderSpec)

/-- ITS FALSE NEIGHBOUR: 'it returns false'. Refute it at one input. -/
def signingOrderWrong : ChangeSpec := { name := "signingOrder", fn := fun _ => fun
  | [d1, d2, d3] => { results := [.lit (.bool false)], args := [d1, d2, d3] }
  | _ => none }
def SigningOrderWrongFalsely : Prop := signingOrderRow.holds Tryd.pinned (OpenSpec.ofChange signingOrderWrong)

/-- 'veilstonelaw32.SigningAntichain': WHATEVER THE INPUT: true; the input reads as it did. -/
def signingAntichainSpec : ChangeSpec := { name := "signingAntichain", fn := fun _ => fun
  | [d1, d2] => { results := [.lit (.bool true)], args := [d1, d2] }
  | _ => none }
def signingAntichainRow : OpenClaim := { program := "ytiloaheaglcpbaadoor", sum := "0ebb9118a22403deb3e56923f5f27e5a8478995c25045d6efcbb6d74a359a12f", func := "veilstone/veilstonelaw32.SigningAntichain", spec := "signingAntichain", unfollowed := true, recurses := true, named := ["veilstone/digest.initial", "veilstone/digest.constants"], apart := false, laid := [("veilstone/digest.constants", laid_veilstone_digest_constants), ("veilstone/digest.initial", laid_veilstone_digest_initial)] }
def SigningAntichainSaid : Prop := signingAntichainRow.holds Tryd.pinned (OpenSpec.ofChange signingAntichainSpec)

/-- ITS FALSE NEIGHBOUR: 'it returns false'. Refute it at one input. -/
def signingAntichainWrong : ChangeSpec := { name := "signingAntichain", fn := fun _ => fun
  | [d1, d2] => { results := [.lit (.bool false)], args := [d1, d2] }
  | _ => none }
def SigningAntichainWrongFalsely : Prop := signingAntichainRow.holds Tryd.pinned (OpenSpec.ofChange signingAntichainWrong)

/-- 'veilstonelaw32.SigningChains': WHATEVER THE INPUT: true; the input reads as it did. -/
def signingChainsSpec : ChangeSpec := { name := "signingChains", fn := fun _ => fun
  | [d1, d2, d3] => { results := [.lit (.bool true)], args := [d1, d2, d3] }
  | _ => none }
def signingChainsRow : OpenClaim := { program := "ytiloaheaglcpbaadoor", sum := "0ebb9118a22403deb3e56923f5f27e5a8478995c25045d6efcbb6d74a359a12f", func := "veilstone/veilstonelaw32.SigningChains", spec := "signingChains", unfollowed := true, recurses := true, named := ["veilstone/digest.initial", "veilstone/digest.constants"], apart := false, laid := [("veilstone/digest.constants", laid_veilstone_digest_constants), ("veilstone/digest.initial", laid_veilstone_digest_initial)] }
def SigningChainsSaid : Prop := signingChainsRow.holds Tryd.pinned (OpenSpec.ofChange signingChainsSpec)

/-- ITS FALSE NEIGHBOUR: 'it returns false'. Refute it at one input. -/
def signingChainsWrong : ChangeSpec := { name := "signingChains", fn := fun _ => fun
  | [d1, d2, d3] => { results := [.lit (.bool false)], args := [d1, d2, d3] }
  | _ => none }
def SigningChainsWrongFalsely : Prop := signingChainsRow.holds Tryd.pinned (OpenSpec.ofChange signingChainsWrong)

/-- 'veilstonelaw32.SigningShape': WHATEVER THE INPUT: true; the input reads as it did. -/
def signingShapeSpec : ChangeSpec := { name := "signingShape", fn := fun _ => fun
  | [d1, d2, d3, d4] => { results := [.lit (.bool true)], args := [d1, d2, d3, d4] }
  | _ => none }
def signingShapeRow : OpenClaim := { program := "ytiloaheaglcpbaadoor", sum := "0ebb9118a22403deb3e56923f5f27e5a8478995c25045d6efcbb6d74a359a12f", func := "veilstone/veilstonelaw32.SigningShape", spec := "signingShape", unfollowed := true, recurses := true, named := ["veilstone/digest.initial", "veilstone/digest.constants"], apart := false, laid := [("veilstone/digest.constants", laid_veilstone_digest_constants), ("veilstone/digest.initial", laid_veilstone_digest_initial)] }
def SigningShapeSaid : Prop := signingShapeRow.holds Tryd.pinned (OpenSpec.ofChange signingShapeSpec)

/-- ITS FALSE NEIGHBOUR: 'it returns false'. Refute it at one input. -/
def signingShapeWrong : ChangeSpec := { name := "signingShape", fn := fun _ => fun
  | [d1, d2, d3, d4] => { results := [.lit (.bool false)], args := [d1, d2, d3, d4] }
  | _ => none }
def SigningShapeWrongFalsely : Prop := signingShapeRow.holds Tryd.pinned (OpenSpec.ofChange signingShapeWrong)

/- THE SECOND FORM. 'bulk': how many values and letters a reading holds, each counted each time it is reached (what is shared counts as often as it is met; a slice's spare places count too). A statement '..UptoSaid' is the law's where the arguments, and the package variables that the reading takes, are together of bulk at most 1048576: NARROWER than '..Said'. Prove '..Said' where nothing that the law and all that it calls make is longer than what came in: it says more and counts as full. Else prove '..UptoSaid'. A law counts once. -/
mutual
def uptoBulk {H : Type} : DataW H → Nat
  | .lit (.string bytes) => bytes.length + 1
  | .lit _ => 1
  | .nil => 1
  | .ptr d => uptoBulk d + 1
  | .slice elems spare => uptoBulkAll elems + uptoBulkAll spare + 1
  | .agg parts => uptoBulkAll parts + 1
  | .iface _ d => uptoBulk d + 1
  | .map entries => uptoBulkEntries entries + 1
  | .held _ => 1
def uptoBulkAll {H : Type} : List (DataW H) → Nat
  | [] => 0
  | d :: r => uptoBulk d + uptoBulkAll r
def uptoBulkEntries {H : Type} : List (Lit × DataW H) → Nat
  | [] => 0
  | x :: r => uptoBulkEntry x + uptoBulkEntries r
def uptoBulkEntry {H : Type} : Lit × DataW H → Nat
  | (.string bytes, d) => bytes.length + uptoBulk d + 1
  | (_, d) => uptoBulk d + 1
 end
def uptoSmall : (H : Type) → List (DataW H) → Bool := fun _ ds => decide (uptoBulkAll ds ≤ 1048576)
def OpenSpec.upto (s : _root_.Go.ChangeSpec) : _root_.Go.OpenSpec := { _root_.Go.OpenSpec.ofChange s with cond := some uptoSmall }

/-- 'veilstonelaw32.SigningKeySpec', WHERE WHAT IT READS IS OF BULK AT MOST 1048576: true; the input reads as it did. -/
def signingKeySpecUptoRow : OpenClaim := { program := "ytiloaheaglcpbaadoor", sum := "0ebb9118a22403deb3e56923f5f27e5a8478995c25045d6efcbb6d74a359a12f", func := "veilstone/veilstonelaw32.SigningKeySpec", spec := "signingKeySpec", unfollowed := true, recurses := true, named := ["veilstone/digest.initial", "veilstone/digest.constants"], apart := false, laid := [("veilstone/digest.constants", laid_veilstone_digest_constants), ("veilstone/digest.initial", laid_veilstone_digest_initial)], narrowed := true }
def SigningKeySpecUptoSaid : Prop := signingKeySpecUptoRow.holds Tryd.pinned (OpenSpec.upto signingKeySpecSpec)

/-- 'veilstonelaw32.SigningSignSpec', WHERE WHAT IT READS IS OF BULK AT MOST 1048576: true; the input reads as it did. -/
def signingSignSpecUptoRow : OpenClaim := { program := "ytiloaheaglcpbaadoor", sum := "0ebb9118a22403deb3e56923f5f27e5a8478995c25045d6efcbb6d74a359a12f", func := "veilstone/veilstonelaw32.SigningSignSpec", spec := "signingSignSpec", unfollowed := true, recurses := true, named := ["veilstone/digest.initial", "veilstone/digest.constants"], apart := false, laid := [("veilstone/digest.constants", laid_veilstone_digest_constants), ("veilstone/digest.initial", laid_veilstone_digest_initial)], narrowed := true }
def SigningSignSpecUptoSaid : Prop := signingSignSpecUptoRow.holds Tryd.pinned (OpenSpec.upto signingSignSpecSpec)

/-- 'veilstonelaw32.SigningVerifySpec', WHERE WHAT IT READS IS OF BULK AT MOST 1048576: true; the input reads as it did. -/
def signingVerifySpecUptoRow : OpenClaim := { program := "ytiloaheaglcpbaadoor", sum := "0ebb9118a22403deb3e56923f5f27e5a8478995c25045d6efcbb6d74a359a12f", func := "veilstone/veilstonelaw32.SigningVerifySpec", spec := "signingVerifySpec", unfollowed := true, recurses := true, named := ["veilstone/digest.initial", "veilstone/digest.constants"], apart := false, laid := [("veilstone/digest.constants", laid_veilstone_digest_constants), ("veilstone/digest.initial", laid_veilstone_digest_initial)], narrowed := true }
def SigningVerifySpecUptoSaid : Prop := signingVerifySpecUptoRow.holds Tryd.pinned (OpenSpec.upto signingVerifySpecSpec)

/-- 'veilstonelaw32.SigningVerifies', WHERE WHAT IT READS IS OF BULK AT MOST 1048576: true; the input reads as it did. -/
def signingVerifiesUptoRow : OpenClaim := { program := "ytiloaheaglcpbaadoor", sum := "0ebb9118a22403deb3e56923f5f27e5a8478995c25045d6efcbb6d74a359a12f", func := "veilstone/veilstonelaw32.SigningVerifies", spec := "signingVerifies", unfollowed := true, recurses := true, named := ["veilstone/digest.initial", "veilstone/digest.constants"], apart := false, laid := [("veilstone/digest.constants", laid_veilstone_digest_constants), ("veilstone/digest.initial", laid_veilstone_digest_initial)], narrowed := true }
def SigningVerifiesUptoSaid : Prop := signingVerifiesUptoRow.holds Tryd.pinned (OpenSpec.upto signingVerifiesSpec)

/-- 'veilstonelaw32.SigningOrder', WHERE WHAT IT READS IS OF BULK AT MOST 1048576: true; the input reads as it did. -/
def signingOrderUptoRow : OpenClaim := { program := "ytiloaheaglcpbaadoor", sum := "0ebb9118a22403deb3e56923f5f27e5a8478995c25045d6efcbb6d74a359a12f", func := "veilstone/veilstonelaw32.SigningOrder", spec := "signingOrder", unfollowed := true, recurses := true, named := ["veilstone/digest.initial", "veilstone/digest.constants"], apart := false, laid := [("veilstone/digest.constants", laid_veilstone_digest_constants), ("veilstone/digest.initial", laid_veilstone_digest_initial)], narrowed := true }
def SigningOrderUptoSaid : Prop := signingOrderUptoRow.holds Tryd.pinned (OpenSpec.upto signingOrderSpec)

/-- 'veilstonelaw32.SigningAntichain', WHERE WHAT IT READS IS OF BULK AT MOST 1048576: true; the input reads as it did. -/
def signingAntichainUptoRow : OpenClaim := { program := "ytiloaheaglcpbaadoor", sum := "0ebb9118a22403deb3e56923f5f27e5a8478995c25045d6efcbb6d74a359a12f", func := "veilstone/veilstonelaw32.SigningAntichain", spec := "signingAntichain", unfollowed := true, recurses := true, named := ["veilstone/digest.initial", "veilstone/digest.constants"], apart := false, laid := [("veilstone/digest.constants", laid_veilstone_digest_constants), ("veilstone/digest.initial", laid_veilstone_digest_initial)], narrowed := true }
def SigningAntichainUptoSaid : Prop := signingAntichainUptoRow.holds Tryd.pinned (OpenSpec.upto signingAntichainSpec)

/-- 'veilstonelaw32.SigningChains', WHERE WHAT IT READS IS OF BULK AT MOST 1048576: true; the input reads as it did. -/
def signingChainsUptoRow : OpenClaim := { program := "ytiloaheaglcpbaadoor", sum := "0ebb9118a22403deb3e56923f5f27e5a8478995c25045d6efcbb6d74a359a12f", func := "veilstone/veilstonelaw32.SigningChains", spec := "signingChains", unfollowed := true, recurses := true, named := ["veilstone/digest.initial", "veilstone/digest.constants"], apart := false, laid := [("veilstone/digest.constants", laid_veilstone_digest_constants), ("veilstone/digest.initial", laid_veilstone_digest_initial)], narrowed := true }
def SigningChainsUptoSaid : Prop := signingChainsUptoRow.holds Tryd.pinned (OpenSpec.upto signingChainsSpec)

/-- 'veilstonelaw32.SigningShape', WHERE WHAT IT READS IS OF BULK AT MOST 1048576: true; the input reads as it did. -/
def signingShapeUptoRow : OpenClaim := { program := "ytiloaheaglcpbaadoor", sum := "0ebb9118a22403deb3e56923f5f27e5a8478995c25045d6efcbb6d74a359a12f", func := "veilstone/veilstonelaw32.SigningShape", spec := "signingShape", unfollowed := true, recurses := true, named := ["veilstone/digest.initial", "veilstone/digest.constants"], apart := false, laid := [("veilstone/digest.constants", laid_veilstone_digest_constants), ("veilstone/digest.initial", laid_veilstone_digest_initial)], narrowed := true }
def SigningShapeUptoSaid : Prop := signingShapeUptoRow.holds Tryd.pinned (OpenSpec.upto signingShapeSpec)

end Rows
end Go.Proofs.YtiloaheaglcpbaaDoor
