/- One edit, whatever it is. -/
import Derived.Test.YtbbadncdkiganaaKapv2
import Derived.Test.YtbbadncdkiganaaKasv2
import Derived.Test.YtbbadncdkiganaaKapd
import Derived.Test.YtbbadncdkiganaaKasd
import Derived.Test.YtbbadncdkiganaaKris2
namespace Go.Proofs.Ytbbadncdkiganaa
open Go.RowKit
set_option linter.unusedVariables false
set_option maxRecDepth 4000

theorem apply_any (base g : Nat) (c : Cfg) (e : Ed) (k : Nat) (w : World) (hW : Way c k) (hk : k ≤ 80) (hC : Ced w base g c) :
    Calls Try.prog 38 #[.pointer (some ⟨g, 0, none⟩), .agg #[.int .i64 e.kind, .int .i64 e.port, .int .i64 e.n, .int .i64 e.vlan, .int .u8 e.member, .int .u8 e.tagged, .int .u64 e.mac]] w fun x w' => x = .returned (.int .i64 (applyE c e).1) ∧ Ced w' base g (applyE c e).2 ∧ Below base w w' := by
  have hv := hW.lv
  have hs := hW.ls
  have hp := hW.lp
  by_cases h7 : e.kind = 7
  · exact apply_vset base g c e w (by omega) hW.rv hC h7
  by_cases h9 : e.kind = 9
  · exact apply_sset base g c e w (by omega) hW.rs hC h9
  by_cases h8 : e.kind = 8
  · cases hh : hasL ltV eqV (e.vlan, 0, 0) c.vlans with
    | true => exact apply_vdel_yes base g c e w (by omega) hW.rv hC h8 hh
    | false => exact apply_vdel_no base g c e w (by omega) hW.rv hC h8 hh
  by_cases h10 : e.kind = 10
  · cases hh : hasL ltS eqS (e.mac, e.vlan, 0) c.stats with
    | true => exact apply_sdel_yes base g c e w (by omega) hW.rs hC h10 hh
    | false => exact apply_sdel_no base g c e w (by omega) hW.rs hC h10 hh
  by_cases h4 : e.kind = 4 ∨ e.kind = 5 ∨ e.kind = 6
  · exact apply_port base g c e w (by omega) hC h4
  · exact apply_num base g c e w hC (by omega)
end Go.Proofs.Ytbbadncdkiganaa
