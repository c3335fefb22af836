/- Items of several texts. -/
import Derived.Laws.BitsAllLaws
import Derived.KernelRfl
namespace Go.Proofs.YthjbnpaghiojlaaGreat
theorem x32 {a b:Nat} (ha:a < 4294967296) (hb:b < 4294967296):a ^^^ b < 4294967296:=Nat.xor_lt_two_pow (n:=32) ha hb
def sh (y:Nat):Nat:=if y % 2=1 then (y / 2) ^^^ 3988292384 else y / 2
def shn:Nat→Nat→Nat
 | 0,y=>y
 | n + 1,y=>sh (shn n y)
def entry (x:Nat):Nat:=shn 8 x
theorem sh_lt {y:Nat} (h:y < 4294967296):sh y < 4294967296:=by
 unfold sh
 split
 ·exact x32 (by omega) (by omega)
 ·omega
theorem shn_lt (n:Nat) {y:Nat} (h:y < 4294967296):shn n y < 4294967296:=by
 induction n with
 | zero=>exact h
 | succ n ih=>exact sh_lt ih
theorem entry_lt {x:Nat} (h:x < 4294967296):entry x < 4294967296:=shn_lt 8 h
def crcst (T B:Nat→Nat):Nat→Nat
 | 0=>4294967295
 | n + 1=>T (crcst T B n % 256 ^^^ B n) ^^^ (crcst T B n / 256)
def crc (T B:Nat→Nat) (n:Nat):Nat:=4294967295 ^^^ crcst T B n
theorem byte_lt {a b:Nat} (hb:b < 256):a % 256 ^^^ b < 256:=Nat.xor_lt_two_pow (n:=8) (by omega) (by omega)
theorem crcst_lt {T B:Nat→Nat} (hT:∀ x,x < 256→T x < 4294967296) (n:Nat) (hB:∀ i,i < n→B i < 256):crcst T B n < 4294967296:=by
 induction n with
 | zero=>simp [crcst]
 | succ n ih=>exact x32 (hT _ (byte_lt (hB n (by omega)))) (by have:=ih (fun i hi=>hB i (by omega)); omega)
theorem crc_lt {T B:Nat→Nat} (hT:∀ x,x < 256→T x < 4294967296) (n:Nat) (hB:∀ i,i < n→B i < 256):crc T B n < 4294967296:=x32 (by decide) (crcst_lt hT n hB)
theorem bits_xor {a b:Nat} (ha:a < 4294967296) (hb:b < 4294967296):bits .xor .u32 (a:Int) (b:Int)=((a ^^^ b:Nat):Int):=u32_xor_nat a b ha hb
end Go.Proofs.YthjbnpaghiojlaaGreat
