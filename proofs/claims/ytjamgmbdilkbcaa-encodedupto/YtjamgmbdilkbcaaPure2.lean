/- Plain functions: what a module may be; its bytes. -/
import Derived.Test.YtjamgmbdilkbcaaPure
namespace Go.Proofs.Ytjamgmbdilkbcaa
namespace Pu

def isList (l : List Int) (most hi : Int) : Bool := decide ((l.length : Int) ≤ most) && l.all fun x => decide (0 ≤ x) && decide (x ≤ hi)

def isInstr (kinds funcs places n : Int) (x : Int × Int) : Bool :=
  decide (0 ≤ x.1) && decide (x.1 ≤ 18) && decide (argLo x.1 ≤ x.2) && decide (x.2 ≤ argHi kinds funcs places n x.1)

def isCode (l : List (Int × Int)) (kinds funcs places n : Int) : Bool := l.all (isInstr kinds funcs places n)

def isFn (f : Fn) (kinds funcs : Int) : Bool :=
  isList f.params 4 kinds && (isList f.results 3 kinds && (isList f.locals 4 kinds && (decide (1 ≤ f.code.length) && (decide (f.code.length ≤ 100) &&
    isCode f.code kinds funcs ((f.params.length : Int) + (f.locals.length : Int)) f.code.length))))

def isMd (m : Md) : Bool :=
  isList m.kinds 6 3 && (decide (1 ≤ m.funcs.length) && (decide (m.funcs.length ≤ 8) && m.funcs.all fun f => isFn f m.kinds.length m.funcs.length))

/-- a number as a byte. -/
def byte (n : Int) : UInt8 := UInt8.ofNat (n % 256).toNat

def wList (l : List Int) : List UInt8 := byte l.length :: l.map byte
def wCode (l : List (Int × Int)) : List UInt8 := l.flatMap fun x => [byte x.1, byte x.2]
def wFn (f : Fn) : List UInt8 := wList f.params ++ (wList f.results ++ (wList f.locals ++ (byte f.code.length :: wCode f.code)))
def wFns (fs : List Fn) : List UInt8 := fs.flatMap wFn
def wMd (m : Md) : List UInt8 := 67 :: 70 :: (wList m.kinds ++ (byte m.funcs.length :: wFns m.funcs))

/-- Encode: the bytes, the error. -/
def encode (m : Md) : List UInt8 × Int :=
  if isMd m = true then (if 1500 < (wMd m).length then ([], 1) else (wMd m, 0)) else ([], 2)

end Pu
end Go.Proofs.Ytjamgmbdilkbcaa
