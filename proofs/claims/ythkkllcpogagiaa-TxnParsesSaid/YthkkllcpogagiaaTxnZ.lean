/- Package txn's Bytes and Parse. -/
import Derived.Test.YthkkllcpogagiaaTxnU
import Derived.Test.YthkkllcpogagiaaTxnV
namespace Go.Proofs.Ythkkllcpogagiaa
set_option maxRecDepth 100000 in
theorem txnOk : TxnOk where
  bytes := fun W s A n c O _ hr _ _ hn hO => gtbytes_calls s A n c O W hr (by omega) (fun o ho => Nat.le_trans (hO o ho) (by omega))
  parse := fun W A n c b hr _ _ hn => gtparse_calls A n c b W hr (by omega)
end Go.Proofs.Ythkkllcpogagiaa
