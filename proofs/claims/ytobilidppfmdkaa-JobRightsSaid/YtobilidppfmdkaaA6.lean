/- AES: blocks encrypted and decrypted by the program. -/
import Derived.Test.YtobilidppfmdkaaA5
namespace Go.Proofs.Ytobilidppfmdkaa
open Go.RowKit
set_option maxRecDepth 100000
set_option maxHeartbeats 20000000
attribute [local irreducible] xt rol8 aff pw lg sbx isx gm sbN isN xtN at32 mkB shB suB miB
def C_aes_Key_Encrypt : SpecP := fun A K => ∃ nr w f, A [kyA nr w, arr8 16 f] ∧ 1 ≤ nr ∧ nr ≤ 14 ∧ K (arr8 16 (enc nr w f))
def C_aes_Key_Encrypt_n : SpecP := fun A K => ∃ w f, A [kyA 0 w, arr8 16 f] ∧ K (arr8 16 f)
def C_aes_Key_Decrypt : SpecP := fun A K => ∃ nr w f, A [kyA nr w, arr8 16 f] ∧ 1 ≤ nr ∧ nr ≤ 14 ∧ K (arr8 16 (dec nr w f))
def C_aes_Key_Decrypt_n : SpecP := fun A K => ∃ w f, A [kyA 0 w, arr8 16 f] ∧ K (arr8 16 f)
end Go.Proofs.Ytobilidppfmdkaa
