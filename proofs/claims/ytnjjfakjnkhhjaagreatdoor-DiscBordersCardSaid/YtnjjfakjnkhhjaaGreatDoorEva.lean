import Derived.Orders
import Derived.Below
import Derived.Laws.CopyRow
import Derived.Laws.Cells
import Derived.Laws.BytesArg
import Derived.Laws.FloatArith
import Derived.Laws.Tables
import Derived.Laws.Rows
import Derived.Laws.MakeOwn
import Derived.Laws.Append
import Derived.Laws.Externs
set_option maxHeartbeats 1000000
set_option linter.all false
namespace Go.Proofs.YtnjjfakjnkhhjaaGreatDoor.Ev
open Go Go.RowKit
inductive D where
 | undef
 | bool (b : Bool) | kb (b : Bool) | int (k : IntKind) (n : Int) | flt (k : FloatKind) (bits : Nat) | cpx (k : FloatKind) (re im : Nat) | str (s : ByteArray)
 | sl (n : Nat) (cs : List D)
 | slx (n : Nat) (cs : List D)
 | osl (k s o n : Nat)
 | ptr (k off : Nat)
 | gptr (g off : Nat)
 | gsym (g off : Nat)
 | eptr (cs : List D) (off : Nat)
 | agg (cs : List D)
 | tup (ds : List D)
 | fn (f : Nat) (cs : List D)
inductive TK where | basic | intk (k : IntKind) | struct (fs : List (Nat × Nat)) | array (n e : Nat) | slice (e : Nat) | str | boolk | fltk (k : FloatKind) | other
structure TI where
 size : Nat
 zv : Value
 k : TK
 bytes : Nat := 0
def TI.agg (i : TI) : Bool := match i.k with | .struct _ | .array _ _ => true | _ => false
inductive EK where | var | arr | gone
structure Ent where
 t : Nat
 cs : List D
 fz : Bool
 k : EK
def EK.live : EK → Bool | .gone => false | _ => true
structure Eff where
 wr : Option (Nat × (Ent → Ent))
 nw : Option Ent
def patch (cs : List D) (off : Nat) (ds : List D) : List D := cs.take off ++ ds ++ cs.drop (off + ds.length)
def Eff.none : Eff := ⟨Option.none, Option.none⟩
def Eff.new (e : Ent) : Eff := ⟨Option.none, some e⟩
def Eff.store (k off : Nat) (cs : List D) : Eff := ⟨some (k, fun e => ⟨e.t, patch e.cs off cs, e.fz, e.k⟩), Option.none⟩
def Eff.put (k : Nat) (cs : List D) : Eff := ⟨some (k, fun e => ⟨e.t, cs, e.fz, e.k⟩), Option.none⟩
def Eff.freeze (k : Nat) : Eff := ⟨some (k, fun e => ⟨e.t, e.cs, true, e.k⟩), Option.none⟩
def Eff.app (k : Nat) (e : Ent) : Eff := ⟨some (k, fun e => ⟨e.t, [], e.fz, .gone⟩), some e⟩
def onB (o : Oper) : List Nat := o.after.toList.filterMap fun e => if Region.binds .any e then some e.on else none
def isStore : Op → Bool | .store _ _ _ => true | .makeFunc _ _ _ => true | .call c => (match c.callee with | .builtin .copy => true | .builtin .append => true | _ => false) | _ => false
def tmpOf : Operand → Option Nat | .tmp t => some t | _ => none
def readsOf (all : List Oper) (o : Oper) : List Nat := o.op.operands.toList.filterMap tmpOf ++ (match o.guard with | some (j, _) => ((all[j]?).bind (·.dst)).toList | none => [])
def pairOk (all : List Oper) (o : Oper) (i : Nat) (q : Oper) (j : Nat) : Bool :=
 i == j || ((match q.dst with | some t => (!(readsOf all o).contains t || (onB o).contains j || (onB q).contains i) && (o.dst != some t) | none => true))
def safe (all : List Oper) (nt : Nat) : Bool :=
 all.zipIdx.all fun p => ((onB p.1).all fun j => decide (j < p.2)) && (match p.1.dst with | some t => decide (t < nt) | none => true) && all.zipIdx.all fun q => pairOk all p.1 p.2 q.1 q.2
def anyStore (all : List Oper) : Bool := all.any fun q => isStore q.op
def D.one : D → Bool
 | .bool _ | .kb _ | .flt _ _ | .cpx _ _ _ | .str _ | .sl _ _ | .osl _ _ _ _ | .ptr _ _ | .gptr _ _ | .gsym _ _ | .eptr _ _ => true
 | .int k _ => match k with | .u32 => false | _ => true
 | _ => false
def D.frz : D → Bool
 | .bool _ | .kb _ | .flt _ _ | .cpx _ _ _ | .str _ | .int _ _ | .sl _ _ | .gptr _ _ | .gsym _ _ | .eptr _ _ => true
 | _ => false
def D.isU8 : D → Bool | .int k _ => (match k with | .u8 => true | _ => false) | _ => false
def D.num : D → Int | .int _ z => z | _ => 0
structure Alg where
 add : IntKind → Int → Int → Int
 sub : IntKind → Int → Int → Int
 mul : IntKind → Int → Int → Int
 quo : IntKind → Int → Int → Int
 rem : IntKind → Int → Int → Int
 eq : Int → Int → Bool
 lt : Int → Int → Bool
 le : Int → Int → Bool
 nz : Int → Prop
 cv : IntKind → Int → Int
 of : Nat → Int
 min : Int → Int → Int
 max : Int → Int → Int
 not : Bool → Bool
 beq : Bool → Bool → Bool
 and : IntKind → Int → Int → Int
 inS : Int → Nat → List D → Prop
 cellOk : IntKind → List D → Nat → Prop
 cellV : List D → Nat → Int
 pick : Bool → Bool → Bool → Bool
 tru : Bool → Prop
 fls : Bool → Prop
 idx : Nat → Int → Nat → Nat
 inr : Int → Nat → Prop
 inb : Nat → Nat → Prop
 nth : List Int → Nat → Int
 upto : Int → Nat → List D → Prop
 less : Nat → Int → Nat
 drop : Int → List D → List D
 safe : List Oper → Nat → Bool
 toN : Int → Nat
 zeros : Nat → List D → List D
 app : List D → List D → List D
 takeL : Nat → List D → List D
 putL : List D → Nat → List D → List D
 fits : Nat → Nat → Prop
 same : Int → Int → Prop
 lenOk : List D → Nat → Prop
 roomL : List D → Nat → Prop
 oneL : Bool → List D → Prop
 upto2 : Int → Int → Nat → List D → Prop
 len2 : Int → Int → Nat
 minN : Nat → Nat → Nat
 mulN : Nat → Nat → Nat
 addN : Nat → Nat → Nat
 cut : Int → Int → List D → List D
 nn : Int → Prop
 shr : IntKind → Int → Int → Int
 shl : IntKind → Int → Int → Int
 cat : ByteArray → ByteArray → ByteArray
 catOk : ByteArray → ByteArray → Prop
 seq : ByteArray → ByteArray → Bool
 slen : ByteArray → Nat
 sget : ByteArray → Int → Int
 sinr : Int → ByteArray → Prop
 scut : ByteArray → Int → Int → ByteArray
 scutOk : Int → Int → ByteArray → Prop
 strL : List D → ByteArray
 u8L : List D → Nat → Prop
 bits : BinOp → IntKind → Int → Int → Int
 fop : BinOp → FloatKind → Nat → Nat → Nat
 fok : BinOp → FloatKind → Nat → Nat → Prop
 fcmp : BinOp → FloatKind → Nat → Nat → Bool
 fneg : FloatKind → Nat → Nat
 fint : FloatKind → Int → Nat
 fti : FloatKind → Nat → IntKind → Int
 ftiOk : FloatKind → Nat → IntKind → Prop
 fmin : FloatKind → Nat → Nat → Nat
 fmax : FloatKind → Nat → Nat → Nat
 fmmOk : FloatKind → Nat → Nat → Prop
 ceq : FloatKind → Nat → Nat → Nat → Nat → Bool
def fcmpV (op : BinOp) (k : FloatKind) (x y : Nat) : Bool := match op with
 | .eql => k.format.order x y == some .eq
 | .neq => k.format.order x y != some .eq
 | .lss => k.format.order x y == some .lt
 | .leq => k.format.order x y == some .lt || k.format.order x y == some .eq
 | .gtr => k.format.order x y == some .gt
 | _ => k.format.order x y == some .gt || k.format.order x y == some .eq
def fminV (k : FloatKind) (x y : Nat) : Nat := match k.format.order x y with | some .lt => x | some .gt => y | _ => if (k.decode x).neg then x else y
def fmaxV (k : FloatKind) (x y : Nat) : Nat := match k.format.order x y with | some .lt => y | some .gt => x | _ => if (k.decode x).neg then y else x
def bitsV (op : BinOp) (k : IntKind) (a b : Int) : Int := k.wrap (match op with
 | .or => BitVec.ofInt k.bits a ||| BitVec.ofInt k.bits b
 | .xor => BitVec.ofInt k.bits a ^^^ BitVec.ofInt k.bits b
 | _ => BitVec.ofInt k.bits a &&& ~~~BitVec.ofInt k.bits b).toNat
def std : Alg where
 add k a b := k.wrap (a + b)
 sub k a b := k.wrap (a - b)
 mul k a b := k.wrap (a * b)
 quo k a b := k.wrap (a.tdiv b)
 rem _ a b := a.tmod b
 eq a b := a == b
 lt a b := decide (a < b)
 le a b := decide (a ≤ b)
 nz a := a ≠ 0
 cv k a := k.wrap a
 of n := n
 min a b := if b < a then b else a
 max a b := if b > a then b else a
 not b := !b
 beq a b := a == b
 and k a b := k.wrap (BitVec.ofInt k.bits a &&& BitVec.ofInt k.bits b).toNat
 inS i n cs := 0 ≤ i ∧ i < n ∧ cs.length = n
 cellOk k cs i := ∃ z, cs[i]? = some (.int k z)
 cellV cs i := match cs[i]? with | some (.int _ z) => z | _ => 0
 pick t x y := if t then x else y
 tru t := t = true
 fls t := t = false
 idx o i s := o + i.toNat * s
 inr i n := 0 ≤ i ∧ i < n
 inb i n := i < n
 nth l i := l.getD i 0
 upto i n cs := 0 ≤ i ∧ i ≤ n ∧ cs.length = n
 less n i := n - i.toNat
 drop i cs := cs.drop i.toNat
 safe := Ev.safe
 toN z := z.toNat
 zeros n cs := (List.replicate n cs).flatten
 app a b := a ++ b
 takeL n cs := cs.take n
 putL cs o ds := patch cs o ds
 fits n b := n * b ≤ 140737488355328 ∧ n ≤ 9223372036854775807
 same a b := a = b
 lenOk cs n := cs.length = n
 roomL cs n := n ≤ cs.length
 oneL own cs := ((own || cs.all D.one) && cs.all D.frz) = true
 upto2 l h n cs := 0 ≤ l ∧ l ≤ h ∧ h ≤ n ∧ cs.length = n
 len2 l h := (h - l).toNat
 minN a b := min a b
 mulN a b := a * b
 addN a b := a + b
 cut l h cs := (cs.take h.toNat).drop l.toNat
 nn a := 0 ≤ a
 shr k a b := a.fdiv (2 ^ min b.toNat k.bits)
 shl k a b := k.wrap (a * 2 ^ min b.toNat k.bits)
 cat a b := a ++ b
 catOk a b := ((a.size + b.size : Nat) : Int) ≤ IntKind.i64.max
 seq a b := a.toList == b.toList
 slen a := a.size
 sget s i := ((s.data.toList.getD i.toNat 0).toNat : Nat)
 sinr i s := 0 ≤ i ∧ i < (s.size : Nat)
 scut s l h := s.extract l.toNat h.toNat
 scutOk l h s := 0 ≤ l ∧ l ≤ h ∧ h ≤ (s.size : Nat)
 strL cs := strOfNums (cs.map D.num)
 u8L cs n := cs.length = n ∧ cs.all D.isU8 = true
 bits := bitsV
 fop op k a b := (floatBits op k a b).getD 0
 fok op k a b := (floatBits op k a b).isSome = true
 fcmp := fcmpV
 fneg := Op.negFloat
 fint k n := k.nearest n
 fti s b k := (floatToIntVal s b k).getD 0
 ftiOk s b k := (floatToIntVal s b k).isSome = true
 fmin := fminV
 fmax := fmaxV
 fmmOk k x y := (k.format.order x y).isSome = true
 ceq k a b c d := fcmpV .eql k a c && fcmpV .eql k b d
inductive Xt where | f64bits | f64from
def Xt.step (A : Alg) : Xt → List D → Option (Prop × D × Eff)
 | .f64bits, [.flt .f64 b] => some (True, .int .u64 (A.of b), .none)
 | .f64from, [.int .u64 n] => some (True, .flt .f64 (A.toN n), .none)
 | _, _ => none
structure Ctx where
 ti : Nat → Option TI
 gt : Nat → Option (List D)
 call : Nat → List D → Option (Prop × D)
 A : Alg
 own : Bool := false
 arr : Bool := false
 strong : Nat → Bool := fun _ => false
 ext : Nat → Option Xt := fun _ => none
def D.cells : D → List D | .agg cs => cs | d => [d]
def ofConst : Value → D
 | .bool b => .kb b | .int k n => .int k n | .string s => .str s | .slice none 0 0 => .sl 0 [] | .float k b => .flt k b | .complex k a b => .cpx k a b | _ => .undef
def D.cell : D → Bool
 | .bool _ | .kb _ | .flt _ _ | .cpx _ _ _ | .str _ | .sl _ _ | .slx _ _ | .osl _ _ _ _ | .ptr _ _ | .gptr _ _ | .gsym _ _ | .eptr _ _ | .int _ _ => true
 | _ => false
def D.pure : D → Bool
 | .bool _ | .kb _ | .flt _ _ | .cpx _ _ _ | .str _ | .int _ _ | .sl _ _ | .gptr _ _ | .gsym _ _ | .eptr _ _ | .fn _ _ => true
 | .agg cs => cs.all fun d => match d with | .bool _ | .kb _ | .flt _ _ | .cpx _ _ _ | .str _ | .int _ _ | .sl _ _ | .gptr _ _ | .gsym _ _ | .eptr _ _ | .fn _ _ => true | _ => false
 | _ => false
def asB : D → Option Bool | .bool b => some b | .kb b => some b | _ => none
def D.nrm1 : D → D | .kb b => .bool b | .slx n cs => .sl n cs | d => d
def D.nrm : D → D | .kb b => .bool b | .slx n cs => .sl n cs | .agg cs => .agg (cs.map D.nrm1) | d => d
def mk (i : TI) (cs : List D) : Option D := if i.agg then some (.agg cs) else match cs with | [c] => some c | _ => none
def fillD (place : Nat → Option (Nat × Nat)) (cells : List D) : List (Nat × D) → Option (List D)
 | [] => some cells
 | (i, v) :: rest => match place i with
  | none => none
  | some (off, size) => if v.cells.length = size ∧ off + size ≤ cells.length then fillD place (cells.take off ++ v.cells ++ cells.drop (off + size)) rest else none
def rep (n : Nat) (cs : List D) : List D := match n with | 0 => [] | n + 1 => rep n cs ++ cs
def bin (A : Alg) (bt : Bool) (op : BinOp) (x y : D) : Option (Prop × D) :=
 match x, y with
 | .int k a, .int k' b => match op with
  | .shr => some (A.nn b, .int k (A.shr k a b))
  | .shl => some (A.nn b, .int k (A.shl k a b))
  | _ => if k = k' then match op with
   | .add => some (True, .int k (A.add k a b)) | .sub => some (True, .int k (A.sub k a b)) | .mul => some (True, .int k (A.mul k a b))
   | .quo => some (A.nz b, .int k (A.quo k a b)) | .rem => some (A.nz b, .int k (A.rem k a b))
   | .and => some (True, .int k (A.and k a b))
   | .or | .xor | .andNot => some (True, .int k (A.bits op k a b))
   | .eql => some (True, .bool (A.eq a b)) | .neq => some (True, .bool (A.not (A.eq a b)))
   | .lss => some (True, .bool (A.lt a b)) | .leq => some (True, .bool (A.le a b)) | .gtr => some (True, .bool (A.lt b a)) | .geq => some (True, .bool (A.le b a))
   | _ => none else none
 | .flt k a, .flt k' b => if k = k' then match op with
   | .add | .sub | .mul | .quo => some (A.fok op k a b, .flt k (A.fop op k a b))
   | .eql | .neq | .lss | .leq | .gtr | .geq => some (True, .bool (A.fcmp op k a b))
   | _ => none else none
 | .cpx k a b, .cpx k' c d => if k = k' then match op with
   | .eql => some (True, .bool (A.ceq k a b c d)) | .neq => some (True, .bool (A.not (A.ceq k a b c d)))
   | _ => none else none
 | .str a, .str b => match op with | .add => some (A.catOk a b, .str (A.cat a b)) | .eql => some (True, .bool (A.seq a b)) | .neq => some (True, .bool (A.not (A.seq a b))) | _ => none
 | x, y => match asB x, asB y with
  | some a, some b => if bt = false then none else match op with | .eql => some (True, .bool (A.beq a b)) | .neq => some (True, .bool (A.not (A.beq a b))) | _ => none
  | _, _ => none
def intsOf : List D → Option (IntKind × List Int)
 | [.int k z] => some (k, [z])
 | .int k z :: cs => match intsOf cs with | some (k', l) => if k = k' then some (k, z :: l) else none | none => none
 | _ => none
def cellsAt (C : Ctx) (h : Nat → Option Ent) : D → Option (List D × Nat)
 | .ptr k off => (h k).bind fun e => match e.k with | .var => some (e.cs, off) | _ => none
 | .gptr g off => (C.gt g).map fun cs => (cs, off)
 | .eptr cs off => some (cs, off)
 | _ => none
def ntab (A : Alg) (k : IntKind) (l : List Int) (off : Nat) : Nat → List D
 | 0 => []
 | n + 1 => ntab A k l off n ++ [.int k (A.nth l (A.addN off n))]
def move : D → Nat → Option D
 | .ptr k o, n => some (.ptr k (o + n))
 | .gptr g o, n => some (.gptr g (o + n))
 | _, _ => none
def TI.zero (i : TI) : List D := i.zv.cells.toList.map ofConst
def places (C : Ctx) (fs : List (Nat × Nat)) (j : Nat) : Option (Nat × Nat) := (fs[j]?).bind fun f => (C.ti f.2).map fun i => (f.1, i.size)
def isB (C : Ctx) (t : Nat) : Bool := match C.ti t with | some i => (match i.k with | .boolk => true | _ => false) | none => false
def step (C : Ctx) (ev : Operand → D) (h : Nat → Option Ent) (nm : Nat) (o : Oper) : Option (Prop × D × Eff) :=
 match o.op with
 | .move x | .assign x => some (True, ev x, .none)
 | .pick c a b => match ev c with
  | .kb t => some (True, match t with | true => ev a | false => ev b, .none)
  | .bool t => match asB (ev a), asB (ev b) with
   | some x, some y => some (True, .bool (C.A.pick t x y), .none)
   | _, _ => none
  | _ => none
 | .alloc t => (C.ti t).bind fun i => if i.zero.all D.one then some (True, .ptr nm 0, .new ⟨t, i.zero, false, .var⟩) else none
 | .box t x => if (ev x).cells.all D.one then some (True, .ptr nm 0, .new ⟨t, (ev x).cells, false, .var⟩) else none
 | .build t ps => (C.ti t).bind fun i => match i.k with
  | .struct fs => if (fs.all fun f => (C.ti f.2).isSome) = true ∧ (ps.toList.all fun p => (ev p.2).cells.all D.one) = true then (fillD (places C fs) i.zero (ps.toList.map fun p => (p.1, ev p.2))).map fun cs => (True, .agg cs, .none) else none
  | .array _ e => (C.ti e).bind fun j => if (ps.toList.all fun p => (ev p.2).cells.all D.one) = true then (fillD (fun k => some (k * j.size, j.size)) i.zero (ps.toList.map fun p => (p.1, ev p.2))).map fun cs => (True, .agg cs, .none) else none
  | _ => none
 | .buildSlice t n ps => (C.ti t).bind fun i => match i.k with
  | .slice e => (C.ti e).bind fun j => if n * j.size ≤ 16777216 ∧ (ps.toList.all fun p => (ev p.2).cells.all D.frz) = true ∧ (j.zero.all D.frz) = true ∧ j.zero.length = j.size then (fillD (fun k => some (k * j.size, j.size)) (rep n j.zero) (ps.toList.map fun p => (p.1, ev p.2))).map fun cs => (True, .sl n cs, .none) else none
  | _ => none
 | .load t a => (C.ti t).bind fun i => match ev a with
  | .gsym g off => (C.gt g).bind fun cs => match intsOf cs with
   | some (k, l) => if i.size = 1 ∧ i.agg = false then some (C.A.inb off l.length, .int k (C.A.nth l off), .none) else if 0 < i.size then (mk i (ntab C.A k l off i.size)).map fun d => (C.A.inb (C.A.addN off (i.size - 1)) l.length, d, .none) else none
   | none => match (off + i.size).ble cs.length with | true => (mk i ((cs.drop off).take i.size)).map fun d => (True, d, .none) | false => none
  | .eptr cs off => (match i.zv with
   | .int kk _ => if i.size = 1 ∧ i.agg = false then some (C.A.cellOk kk cs off, .int kk (C.A.cellV cs off), .none) else none
   | _ => if off + i.size ≤ cs.length then (mk i ((cs.drop off).take i.size)).map fun d => (True, d, .none) else none)
  | .ptr k off => (h k).bind fun e => match e.k with
   | .arr => (match i.zv with
    | .int kk _ => if i.size = 1 ∧ i.agg = false then some (C.A.cellOk kk e.cs off, .int kk (C.A.cellV e.cs off), .none) else none
    | _ => none)
   | .var => if off + i.size ≤ e.cs.length then (mk i ((e.cs.drop off).take i.size)).map fun d => (True, d, .none) else none
   | .gone => none
  | _ => (cellsAt C h (ev a)).bind fun c => if c.2 + i.size ≤ c.1.length then (mk i ((c.1.drop c.2).take i.size)).map fun d => (True, d, .none) else none
 | .store t a x => (C.ti t).bind fun i => match ev a with
  | .ptr k off => (h k).bind fun e => match e.k with
   | .var => if (ev x).cells.length = i.size ∧ off + i.size ≤ e.cs.length ∧ e.fz = false ∧ (ev x).cells.all D.one then some (True, .tup [], .store k off (ev x).cells) else none
   | .arr => if (ev x).cells.length = i.size ∧ e.fz = false ∧ ((ev x).cells.all D.frz) = true ∧ (C.own || (ev x).cells.all D.one) = true then some (C.A.roomL e.cs (C.A.addN off i.size), .tup [], .put k (C.A.putL e.cs off (ev x).cells)) else none
   | .gone => none
  | _ => none
 | .binOp op t x y _ => (bin C.A (isB C t) op (ev x) (ev y)).map fun p => (p.1, p.2, .none)
 | .unOp op _ x => match op, ev x with
  | .not, .kb b => some (True, .kb (!b), .none)
  | .not, .bool b => some (True, .bool (C.A.not b), .none)
  | .neg, .int k n => some (True, .int k (C.A.sub k 0 n), .none)
  | .neg, .flt k b => some (True, .flt k (C.A.fneg k b), .none)
  | _, _ => none
 | .convert s t x => (C.ti s).bind fun q => (C.ti t).bind fun i => match i.k, ev x with
  | .intk k, .int _ n => some (True, .int k (C.A.cv k n), .none)
  | .fltk k, .int _ n => some (True, .flt k (C.A.fint k n), .none)
  | .intk k, .flt s b => some (C.A.ftiOk s b k, .int k (C.A.fti s b k), .none)
  | .str, .sl n cs => match q.k with
   | .slice e => (C.ti e).bind fun j => match j.k with
    | .intk .u8 => some (C.A.u8L cs n, .str (C.A.strL cs), .none)
    | _ => none
   | _ => none
  | .str, .osl p _ 0 n => match q.k with
   | .slice e => (C.ti e).bind fun j => match j.k with
    | .intk .u8 => (h p).bind fun en => match en.k with
     | .arr => some (C.A.u8L (C.A.takeL n en.cs) n, .str (C.A.strL (C.A.takeL n en.cs)), .none)
     | _ => none
    | _ => none
   | _ => none
  | _, _ => none
 | .index t x ix => (C.ti t).bind fun i => match i.k, ev x, ev ix with
  | .str, .str s, .int _ k => some (C.A.sinr k s, .int .u8 (C.A.sget s k), .none)
  | .array n e, .agg cs, .int _ (.ofNat m) => (C.ti e).bind fun j => if m < n then (mk j ((cs.drop (m * j.size)).take j.size)).map fun d => (True, d, .none) else none
  | _, _, _ => none
 | .fieldAddr t x f => (C.ti t).bind fun i => match i.k with
  | .struct fs => (fs[f]?).bind fun p => (C.ti p.2).bind fun j => if j.size = 0 then none else (move (ev x) p.1).map fun d => (True, d, .none)
  | _ => none
 | .makeSlice t l c => (C.ti t).bind fun i => match i.k, ev l, ev c with
  | .slice e, .int _ z, .int _ z2 => (C.ti e).bind fun j => if (j.zero.all D.frz) = true ∧ j.zero.length = j.size then (match C.arr with
   | true => if (C.own || j.zero.all D.one) = true then some ((C.A.same z z2 ∧ C.A.inr z 9000000000000000000) ∧ C.A.fits (C.A.toN z) j.bytes, .osl nm j.size 0 (C.A.toN z), .new ⟨e, C.A.zeros (C.A.toN z) j.zero, false, .arr⟩) else none
   | false => some ((C.A.same z z2 ∧ C.A.inr z 9000000000000000000) ∧ C.A.fits (C.A.toN z) j.bytes, .slx (C.A.toN z) (C.A.zeros (C.A.toN z) j.zero), .none)) else none
  | _, _, _ => none
 | .indexAddr t x ix => (C.ti t).bind fun i => match i.k, (ev x).nrm1, ev ix with
  | .array n e, .gptr g o, .int _ k => (C.ti e).bind fun j => some (C.A.inr k n, .gsym g (C.A.idx o k j.size), .none)
  | .array n e, .gsym g o, .int _ k => (C.ti e).bind fun j => some (C.A.inr k n, .gsym g (C.A.idx o k j.size), .none)
  | .slice e, .sl n cs, .int _ k => (C.ti e).bind fun j => if j.size = 1 then some (C.A.inS k n cs, .eptr cs (C.A.idx 0 k 1), .none) else none
  | .slice e, .osl q s o n, .int _ k => (C.ti e).bind fun j => if j.size = s then some (C.A.inr k n, .ptr q (C.A.idx o k s), .none) else none
  | .array n e, _, .int _ (.ofNat m) => (C.ti e).bind fun j => if m < n then (move (ev x) (m * j.size)).map fun d => (True, d, .none) else none
  | _, _, _ => none
 | .slice t x lo hi mx => (C.ti t).bind fun i => match i.k, (ev x).nrm1, lo, hi, mx with
  | .slice e, .sl n cs, some l, none, none => (C.ti e).bind fun j => match ev l with
   | .int _ k => if j.size = 1 then some (C.A.upto k n cs, .sl (C.A.less n k) (C.A.drop k cs), .none) else none
   | _ => none
  | .slice e, .sl n cs, some l, some u, none => (C.ti e).bind fun j => match ev l, ev u with
   | .int _ k, .int _ m => if j.size = 1 then some (C.A.upto2 k m n cs, .sl (C.A.len2 k m) (C.A.cut k m cs), .none) else none
   | _, _ => none
  | .slice e, .sl n cs, none, some u, none => (C.ti e).bind fun j => match ev u with
   | .int _ m => if j.size = 1 then some (C.A.upto2 0 m n cs, .sl (C.A.len2 0 m) (C.A.cut 0 m cs), .none) else none
   | _ => none
  | .str, .str s, some l, none, none => match ev l with
   | .int _ k => some (C.A.scutOk k (C.A.of (C.A.slen s)) s, .str (C.A.scut s k (C.A.of (C.A.slen s))), .none)
   | _ => none
  | .str, .str s, some l, some u, none => match ev l, ev u with
   | .int _ k, .int _ m => some (C.A.scutOk k m s, .str (C.A.scut s k m), .none)
   | _, _ => none
  | .slice e, .osl q s o n, some l, none, none => (C.ti e).bind fun j => match ev l with
   | .int _ k => if j.size = s then some (C.A.inr k (C.A.addN n 1), .osl q s (C.A.idx o k s) (C.A.less n k), .none) else none
   | _ => none
  | _, _, _, _, _ => none
 | .field t x f => (C.ti t).bind fun i => match i.k, ev x with
  | .struct fs, .agg cs => (fs[f]?).bind fun p => (C.ti p.2).bind fun j => if p.1 + j.size ≤ cs.length then (mk j ((cs.drop p.1).take j.size)).map fun d => (True, d, .none) else none
  | _, _ => none
 | .extract x i => match ev x with
  | .tup ds => (ds[i]?).map fun d => (True, d, .none)
  | _ => none
 | .makeFunc fn fs cps => match fn, fs.toList, cps.toList.map ev with
  | .func f, [], [] => some (True, .fn f [], .none)
  | .func f, [], [.ptr k off] => (h k).bind fun e => match e.k with
   | .var => if e.cs.all D.frz = true then some (True, .fn f [.eptr e.cs off], .freeze k) else none
   | _ => none
  | _, _, _ => none
 | .call c => match c.callee, c.args.toList.map fun x => (ev x).nrm with
  | .value (.func f), ds => match C.ext f with
   | some x => x.step C.A ds
   | none => if ds.all D.pure = true ∧ (!C.own || C.strong f) = true then (C.call f ds).map fun p => (p.1, p.2, .none) else none
  | .value (.tmp t), ds => match ev (.tmp t) with
   | .fn f cs => match C.ext f with
    | some _ => none
    | none => if (ds ++ cs).all D.pure = true ∧ (!C.own || C.strong f) = true then (C.call f (ds ++ cs)).map fun p => (p.1, p.2, .none) else none
   | _ => none
  | .builtin .copy, [.osl k s o n, .sl m ds] => (h k).bind fun e => (c.argTypes[0]?).bind fun t => (C.ti t).bind fun i => match e.k, i.k with
   | .arr, .slice et => (C.ti et).bind fun j => if j.size = 1 ∧ s = 1 ∧ e.fz = false then some ((C.A.lenOk ds m ∧ C.A.roomL e.cs (C.A.addN o n)) ∧ C.A.oneL C.own ds, .int .i64 (C.A.of (C.A.minN m n)), .put k (C.A.putL e.cs o (C.A.takeL (C.A.minN m n) ds))) else none
   | _, _ => none
  | .builtin .append, [.sl n cs, .sl m ds] => match (c.args[0]?).map ev with
   | some (.slx _ _) => (c.argTypes[0]?).bind fun t => (c.argTypes[1]?).bind fun t2 => (C.ti t).bind fun i => (C.ti t2).bind fun i2 => match i.k, i2.k with
    | .slice et, .slice _ => (C.ti et).bind fun j => if 0 < j.size ∧ j.zero.length = j.size then some ((C.A.lenOk ds (C.A.mulN m j.size) ∧ C.A.lenOk cs (C.A.mulN n j.size)) ∧ (C.A.oneL true cs ∧ C.A.oneL true ds) ∧ C.A.fits (C.A.addN n m) j.bytes, .sl (C.A.addN n m) (C.A.app cs ds), .none) else none
    | _, _ => none
   | _ => none
  | .builtin .min, [.int k a, .int k' b] => if k = k' then some (True, .int k (C.A.min a b), .none) else none
  | .builtin .max, [.int k a, .int k' b] => if k = k' then some (True, .int k (C.A.max a b), .none) else none
  | .builtin .min, [.flt k a, .flt k' b] => if k = k' then some (C.A.fmmOk k a b, .flt k (C.A.fmin k a b), .none) else none
  | .builtin .max, [.flt k a, .flt k' b] => if k = k' then some (C.A.fmmOk k a b, .flt k (C.A.fmax k a b), .none) else none
  | .builtin .complex, [.flt k a, .flt k' b] => if k = k' then some (True, .cpx k a b, .none) else none
  | .builtin .real, [.cpx k a _] => some (True, .flt k a, .none)
  | .builtin .imag, [.cpx k _ b] => some (True, .flt k b, .none)
  | .builtin .len, [.sl n _] => (match c.argTypes[0]? with
   | some t => (C.ti t).bind fun i => match i.k with | .slice _ => some (True, .int .i64 (C.A.of n), .none) | _ => none
   | none => none)
  | .builtin .len, [.str s] => (match c.argTypes[0]? with
   | some t => (C.ti t).bind fun i => match i.k with | .str => some (True, .int .i64 (C.A.of (C.A.slen s)), .none) | _ => none
   | none => none)
  | .builtin .len, [.osl _ _ _ n] => (match c.argTypes[0]? with
   | some t => (C.ti t).bind fun i => match i.k with | .slice _ => some (True, .int .i64 (C.A.of n), .none) | _ => none
   | none => none)
  | _, _ => none
 | _ => none
structure Env where
 w : World
 X : Nat → Prop
 ρ : Nat → Option Nat
mutual
def den : Env → D → Value → Prop
 | _, .undef, _ => True
 | _, .bool b, v => v = .bool b
 | _, .kb b, v => v = .bool b
 | _, .int k n, v => v = .int k n
 | _, .flt k b, v => v = .float k b
 | _, .cpx k a b, v => v = .complex k a b
 | _, .str s, v => v = .string s
 | E, .sl n cs, v => ∃ A c, v = .slice A n c ∧ n ≤ c ∧ (0 < cs.length → ∃ b o, A = some ⟨b, o, none⟩ ∧ b < E.w.heap.size ∧ ¬ E.X b ∧ denC E.w E.X b o cs)
 | E, .slx n cs, v => ∃ A, v = .slice A n n ∧ (0 < cs.length → ∃ b o, A = some ⟨b, o, none⟩ ∧ b < E.w.heap.size ∧ ¬ E.X b ∧ denC E.w E.X b o cs)
 | E, .osl k s o n, v => ∃ b o' c, v = .slice (some ⟨b, o', none⟩) n c ∧ n ≤ c ∧ (0 < c → o' = o) ∧ E.ρ k = some b ∧ ∃ vs t, E.w.heap[b]? = some (.cells vs t (0, 0)) ∧ (0 < c → o + c * s ≤ vs.size)
 | E, .ptr k off, v => ∃ b, v = .pointer (some ⟨b, off, none⟩) ∧ E.ρ k = some b
 | _, .gptr g off, v => v = .pointer (some ⟨g, off, none⟩)
 | _, .gsym g off, v => v = .pointer (some ⟨g, off, none⟩)
 | E, .eptr cs off, v => ∃ b o, v = .pointer (some ⟨b, o + off, none⟩) ∧ b < E.w.heap.size ∧ ¬ E.X b ∧ denC E.w E.X b o cs
 | E, .agg cs, v => ∃ vs, v = .agg vs ∧ denL E cs vs.toList
 | E, .tup ds, v => ∃ vs, v = .tuple vs ∧ denL E ds vs.toList
 | E, .fn f cs, v => ∃ vs, v = .func (.func f) #[] vs ∧ denL ⟨E.w, E.X, fun _ => none⟩ cs vs.toList
def denL : Env → List D → List Value → Prop
 | _, [], vs => vs = []
 | E, d :: ds, vs => ∃ v us, vs = v :: us ∧ den E d v ∧ denL E ds us
def denC : World → (Nat → Prop) → Nat → Nat → List D → Prop
 | _, _, _, _, [] => True
 | w, X, b, o, d :: ds => (∃ v, w.cell? ⟨b, o, none⟩ = some v ∧ v.oneCell' = true ∧ den ⟨w, X, fun _ => none⟩ d v) ∧ denC w X b (o + 1) ds
end
theorem den_agg {E : Env} {cs : List D} {v : Value} : den E (.agg cs) v = ∃ vs, v = .agg vs ∧ denL E cs vs.toList := by simp only [den]
theorem den_bool {E : Env} {b : Bool} {v : Value} : den E (.bool b) v = (v = .bool b) := by simp only [den]
structure Le (E E' : Env) : Prop where
 size : E.w.heap.size ≤ E'.w.heap.size
 keep : ∀ b, b < E.w.heap.size → ¬ E.X b → E'.w.heap[b]? = E.w.heap[b]? ∧ ¬ E'.X b
 rho : ∀ k b, E.ρ k = some b → E'.ρ k = some b
 bsz : ∀ (b : Nat) (vs : Array Value) (t : TypeId), E.w.heap[b]? = some (.cells vs t (0, 0)) → ∃ vs', E'.w.heap[b]? = some (.cells vs' t (0, 0)) ∧ vs'.size = vs.size
theorem Le.refl (E : Env) : Le E E := ⟨Nat.le_refl _, fun _ _ h => ⟨rfl, h⟩, fun _ _ h => h, fun _ vs _ h => ⟨vs, h, rfl⟩⟩
theorem Le.trans {E F G : Env} (h : Le E F) (k : Le F G) : Le E G :=
 ⟨Nat.le_trans h.size k.size, fun b hb hX => by
  obtain ⟨h1, h2⟩ := h.keep b hb hX
  obtain ⟨h3, h4⟩ := k.keep b (Nat.lt_of_lt_of_le hb h.size) h2
  exact ⟨h3.trans h1, h4⟩, fun k' b hk => k.rho k' b (h.rho k' b hk), fun b vs t hb => by
  obtain ⟨vs1, h1, h2⟩ := h.bsz b vs t hb
  obtain ⟨vs2, h3, h4⟩ := k.bsz b vs1 t h1
  exact ⟨vs2, h3, h4.trans h2⟩⟩
theorem Le.cell {E E' : Env} (h : Le E E') {b : Nat} (hb : b < E.w.heap.size) (hX : ¬ E.X b) (o : Nat) : E'.w.cell? ⟨b, o, none⟩ = E.w.cell? ⟨b, o, none⟩ :=
 World.cell?_of_block (w := E.w) (h.keep b hb hX).1
mutual
theorem den_mono : ∀ {E E' : Env} (_ : Le E E') (d : D) (v : Value), den E d v → den E' d v
 | _, _, h, .undef, _, _ => by simp only [den]
 | _, _, h, .bool b, v, hv => by simpa only [den] using hv
 | _, _, h, .kb b, v, hv => by simpa only [den] using hv
 | _, _, h, .int k n, v, hv => by simpa only [den] using hv
 | _, _, h, .flt k b, v, hv => by simpa only [den] using hv
 | _, _, h, .cpx k a b, v, hv => by simpa only [den] using hv
 | _, _, h, .str s, v, hv => by simpa only [den] using hv
 | _, _, h, .sl n cs, v, hv => by
  simp only [den] at hv ⊢
  obtain ⟨A, c, rfl, hn, hb⟩ := hv
  refine ⟨A, c, rfl, hn, fun h0 => ?_⟩
  obtain ⟨b, o, rfl, h1, h2, h3⟩ := hb h0
  exact ⟨b, o, rfl, Nat.lt_of_lt_of_le h1 h.size, (h.keep b h1 h2).2, denC_mono h b h1 h2 cs o h3⟩
 | _, _, h, .slx n cs, v, hv => by
  simp only [den] at hv ⊢
  obtain ⟨A, rfl, hb⟩ := hv
  refine ⟨A, rfl, fun h0 => ?_⟩
  obtain ⟨b, o, rfl, h1, h2, h3⟩ := hb h0
  exact ⟨b, o, rfl, Nat.lt_of_lt_of_le h1 h.size, (h.keep b h1 h2).2, denC_mono h b h1 h2 cs o h3⟩
 | _, _, h, .osl k s o n, v, hv => by
  simp only [den] at hv ⊢
  obtain ⟨b, o', c, rfl, hn, ho, hb, vs, t, h1, h2⟩ := hv
  obtain ⟨vs', h3, h4⟩ := h.bsz b vs t h1
  exact ⟨b, o', c, rfl, hn, ho, h.rho _ _ hb, vs', t, h3, fun hc => by rw [h4]; exact h2 hc⟩
 | _, _, h, .ptr k off, v, hv => by
  simp only [den] at hv ⊢
  obtain ⟨b, rfl, hb⟩ := hv
  exact ⟨b, rfl, h.rho _ _ hb⟩
 | _, _, h, .gptr g off, v, hv => by simpa only [den] using hv
 | _, _, h, .gsym g off, v, hv => by simpa only [den] using hv
 | _, _, h, .eptr cs off, v, hv => by
  simp only [den] at hv ⊢
  obtain ⟨b, o, rfl, h1, h2, h3⟩ := hv
  exact ⟨b, o, rfl, Nat.lt_of_lt_of_le h1 h.size, (h.keep b h1 h2).2, denC_mono h b h1 h2 cs o h3⟩
 | _, _, h, .agg cs, v, hv => by
  simp only [den] at hv ⊢
  obtain ⟨vs, rfl, hd⟩ := hv
  exact ⟨vs, rfl, denL_mono h cs _ hd⟩
 | _, _, h, .tup cs, v, hv => by
  simp only [den] at hv ⊢
  obtain ⟨vs, rfl, hd⟩ := hv
  exact ⟨vs, rfl, denL_mono h cs _ hd⟩
 | E, E', h, .fn f cs, v, hv => by
  simp only [den] at hv ⊢
  obtain ⟨vs, rfl, hd⟩ := hv
  exact ⟨vs, rfl, denL_mono (E := ⟨E.w, E.X, fun _ => none⟩) (E' := ⟨E'.w, E'.X, fun _ => none⟩) ⟨h.size, h.keep, fun _ _ hk => (by cases hk), h.bsz⟩ cs _ hd⟩
theorem denL_mono : ∀ {E E' : Env} (_ : Le E E') (ds : List D) (vs : List Value), denL E ds vs → denL E' ds vs
 | _, _, _, [], vs, hv => by simpa only [denL] using hv
 | _, _, h, d :: ds, vs, hv => by
  simp only [denL] at hv ⊢
  obtain ⟨v, us, rfl, h1, h2⟩ := hv
  exact ⟨v, us, rfl, den_mono h d v h1, denL_mono h ds us h2⟩
theorem denC_mono : ∀ {E E' : Env} (_ : Le E E') (b : Nat) (_ : b < E.w.heap.size) (_ : ¬ E.X b) (ds : List D) (o : Nat), denC E.w E.X b o ds → denC E'.w E'.X b o ds
 | _, _, _, _, _, _, [], o, hv => by simp only [denC]
 | E, E', h, b, hb, hX, d :: ds, o, hv => by
  simp only [denC] at hv ⊢
  obtain ⟨⟨v, hc, h1, hd⟩, h2⟩ := hv
  exact ⟨⟨v, by rw [h.cell hb hX]; exact hc, h1, den_mono (E := ⟨E.w, E.X, fun _ => none⟩) (E' := ⟨E'.w, E'.X, fun _ => none⟩) ⟨h.size, h.keep, fun _ _ hk => (by cases hk), h.bsz⟩ d v hd⟩, denC_mono h b hb hX ds (o + 1) h2⟩
end
theorem denL_len {E : Env} : ∀ {ds : List D} {vs : List Value}, denL E ds vs → vs.length = ds.length
 | [], _, h => by simp only [denL] at h; subst h; rfl
 | _ :: ds, _, h => by
  simp only [denL] at h
  obtain ⟨v, us, rfl, _, h2⟩ := h
  simp [denL_len h2]
theorem denL_get {E : Env} : ∀ {ds : List D} {vs : List Value}, denL E ds vs → ∀ {i : Nat} {d : D}, ds[i]? = some d → ∃ v, vs[i]? = some v ∧ den E d v
 | [], _, _, i, d, hd => by simp at hd
 | e :: ds, _, h, i, d, hd => by
  simp only [denL] at h
  obtain ⟨v, us, rfl, h1, h2⟩ := h
  cases i with
  | zero => simp at hd; subst hd; exact ⟨v, rfl, h1⟩
  | succ i => simp at hd ⊢; exact denL_get h2 hd
theorem denL_take {E : Env} : ∀ {ds : List D} {vs : List Value}, denL E ds vs → ∀ n, denL E (ds.take n) (vs.take n)
 | [], _, h, n => by simp only [denL] at h; subst h; simp [denL]
 | e :: ds, _, h, n => by
  simp only [denL] at h
  obtain ⟨v, us, rfl, h1, h2⟩ := h
  cases n with
  | zero => simp [denL]
  | succ n => simp only [List.take_succ_cons, denL]; exact ⟨v, _, rfl, h1, denL_take h2 n⟩
theorem denL_drop {E : Env} : ∀ {ds : List D} {vs : List Value}, denL E ds vs → ∀ n, denL E (ds.drop n) (vs.drop n)
 | [], _, h, n => by simp only [denL] at h; subst h; simp [denL]
 | e :: ds, _, h, n => by
  cases n with
  | zero => exact h
  | succ n =>
   simp only [denL] at h
   obtain ⟨v, us, rfl, h1, h2⟩ := h
   simp only [List.drop_succ_cons]; exact denL_drop h2 n
theorem denL_append {E : Env} : ∀ {ds es : List D} {vs us : List Value}, denL E ds vs → denL E es us → denL E (ds ++ es) (vs ++ us)
 | [], _, _, _, h, k => by simp only [denL] at h; subst h; exact k
 | e :: ds, es, _, us, h, k => by
  simp only [denL] at h
  obtain ⟨v, us', rfl, h1, h2⟩ := h
  simp only [List.cons_append, denL]
  exact ⟨v, _, rfl, h1, denL_append h2 k⟩
theorem denC_drop {w : World} {X : Nat → Prop} {b : Nat} : ∀ {ds : List D} {o : Nat} (n : Nat), denC w X b o ds → denC w X b (o + n) (ds.drop n)
 | ds, o, 0, h => h
 | [], o, n + 1, h => by simp [denC]
 | d :: ds, o, n + 1, h => by
  simp only [denC] at h
  have := denC_drop n h.2
  rw [List.drop_succ_cons, show o + (n + 1) = o + 1 + n by omega]; exact this
theorem den_one {E : Env} {d : D} {v : Value} (h1 : d.one = true) (h : den E d v) : v.oneCell' = true ∧ ∀ n, v ≠ .int .u32 n := by
 cases d with
 | int k n =>
  simp only [den] at h
  subst h
  refine ⟨rfl, fun m => ?_⟩
  cases k <;> first | (simp [D.one] at h1; done) | simp
 | undef => simp [D.one] at h1
 | agg => simp [D.one] at h1
 | tup => simp [D.one] at h1
 | fn => simp [D.one] at h1
 | sl => simp only [den] at h; obtain ⟨A, c, rfl, _⟩ := h; exact ⟨rfl, fun n => by simp⟩
 | osl => simp only [den] at h; obtain ⟨b, o', c, rfl, _⟩ := h; exact ⟨rfl, fun n => by simp⟩
 | slx => simp [D.one] at h1
 | ptr => simp only [den] at h; obtain ⟨b, rfl, _⟩ := h; exact ⟨rfl, fun n => by simp⟩
 | eptr => simp only [den] at h; obtain ⟨b, o, rfl, _⟩ := h; exact ⟨rfl, fun n => by simp⟩
 | _ => simp only [den] at h; subst h; exact ⟨rfl, fun n => by simp⟩
theorem den_cell {E : Env} {d : D} {v : Value} (h1 : d.cell = true) (h : den E d v) : v.oneCell' = true := by
 cases d with
 | int k n => simp only [den] at h; subst h; rfl
 | undef => simp [D.cell] at h1
 | agg => simp [D.cell] at h1
 | tup => simp [D.cell] at h1
 | fn => simp [D.cell] at h1
 | sl => simp only [den] at h; obtain ⟨A, c, rfl, _⟩ := h; rfl
 | osl => simp only [den] at h; obtain ⟨b, o', c, rfl, _⟩ := h; rfl
 | slx => simp only [den] at h; obtain ⟨A, rfl, _⟩ := h; rfl
 | ptr => simp only [den] at h; obtain ⟨b, rfl, _⟩ := h; rfl
 | eptr => simp only [den] at h; obtain ⟨b, o, rfl, _⟩ := h; rfl
 | _ => simp only [den] at h; subst h; rfl
theorem one_cell {d : D} (h : d.one = true) : d.cell = true := by cases d <;> first | rfl | (simp [D.one] at h)
theorem all_cell {l : List D} (h : l.all D.one = true) : l.all D.cell = true := List.all_eq_true.2 fun d hd => one_cell (List.all_eq_true.1 h d hd)
theorem frz_cell {d : D} (h : d.frz = true) : d.cell = true := by cases d <;> first | rfl | (simp [D.frz] at h)
theorem frz_all {l : List D} (h : l.all D.frz = true) : l.all D.cell = true := List.all_eq_true.2 fun d hd => frz_cell (List.all_eq_true.1 h d hd)
theorem denL_one {E : Env} : ∀ {ds : List D} {vs : List Value}, ds.all D.one = true → denL E ds vs → ∀ v ∈ vs, v.oneCell' = true ∧ ∀ n, v ≠ .int .u32 n
 | [], _, _, h, v, hv => by simp only [denL] at h; subst h; simp at hv
 | e :: ds, _, h1, h, v, hv => by
  simp only [denL] at h
  obtain ⟨u, us, rfl, h2, h3⟩ := h
  simp only [List.all_cons, Bool.and_eq_true] at h1
  rcases List.mem_cons.1 hv with rfl | hv
  ·exact den_one h1.1 h2
  ·exact denL_one h1.2 h3 v hv
theorem den_pure1 {w : World} {X : Nat → Prop} {ρ ρ' : Nat → Option Nat} : ∀ {d : D} {v : Value}, (match d with | .bool _ | .kb _ | .flt _ _ | .cpx _ _ _ | .str _ | .int _ _ | .sl _ _ | .gptr _ _ | .gsym _ _ | .eptr _ _ | .fn _ _ => true | _ => false) = true → den ⟨w, X, ρ⟩ d v → den ⟨w, X, ρ'⟩ d v := by
 intro d v hp h
 cases d <;> simp at hp <;> simpa only [den] using h
theorem denL_pure1 {w : World} {X : Nat → Prop} {ρ ρ' : Nat → Option Nat} : ∀ {ds : List D} {vs : List Value}, (ds.all fun d => match d with | .bool _ | .kb _ | .flt _ _ | .cpx _ _ _ | .str _ | .int _ _ | .sl _ _ | .gptr _ _ | .gsym _ _ | .eptr _ _ | .fn _ _ => true | _ => false) = true → denL ⟨w, X, ρ⟩ ds vs → denL ⟨w, X, ρ'⟩ ds vs
 | [], _, _, h => by simpa only [denL] using h
 | d :: ds, _, hp, h => by
  simp only [denL] at h ⊢
  obtain ⟨v, us, rfl, h1, h2⟩ := h
  rw [List.all_cons, Bool.and_eq_true] at hp
  exact ⟨v, us, rfl, den_pure1 hp.1 h1, denL_pure1 hp.2 h2⟩
theorem den_pure {w : World} {X : Nat → Prop} {ρ ρ' : Nat → Option Nat} {d : D} {v : Value} (hp : d.pure = true) (h : den ⟨w, X, ρ⟩ d v) : den ⟨w, X, ρ'⟩ d v := by
 cases d <;> (try (simp [D.pure] at hp; done)) <;> (try (exact den_pure1 rfl h))
 case agg cs =>
  simp only [den] at h ⊢
  obtain ⟨vs, rfl, h⟩ := h
  exact ⟨vs, rfl, denL_pure1 hp h⟩
theorem denL_pure {w : World} {X : Nat → Prop} {ρ ρ' : Nat → Option Nat} : ∀ {ds : List D} {vs : List Value}, ds.all D.pure = true → denL ⟨w, X, ρ⟩ ds vs → denL ⟨w, X, ρ'⟩ ds vs
 | [], _, _, h => by simpa only [denL] using h
 | d :: ds, _, hp, h => by
  simp only [denL] at h ⊢
  obtain ⟨v, us, rfl, h1, h2⟩ := h
  rw [List.all_cons, Bool.and_eq_true] at hp
  exact ⟨v, us, rfl, den_pure hp.1 h1, denL_pure hp.2 h2⟩
theorem den_slx {E : Env} {n : Nat} {cs : List D} {v : Value} (h : den E (.slx n cs) v) : den E (.sl n cs) v := by
 simp only [den] at h ⊢
 obtain ⟨A, rfl, h1⟩ := h
 exact ⟨A, n, rfl, Nat.le_refl _, h1⟩
theorem den_nrm1 {E : Env} {d : D} {v : Value} (h : den E d v) : den E d.nrm1 v := by
 cases d <;> first | exact h | exact den_slx h | (simp only [D.nrm1, den] at h ⊢; exact h)
theorem denL_nrm1 {E : Env} : ∀ {ds : List D} {vs : List Value}, denL E ds vs → denL E (ds.map D.nrm1) vs
 | [], _, h => h
 | d :: ds, _, h => by
  simp only [denL] at h
  obtain ⟨v, us, rfl, h1, h2⟩ := h
  simp only [List.map_cons, denL]
  exact ⟨v, us, rfl, den_nrm1 h1, denL_nrm1 h2⟩
theorem den_nrm {E : Env} {d : D} {v : Value} (h : den E d v) : den E d.nrm v := by
 cases d with
 | agg cs =>
  simp only [den] at h
  obtain ⟨vs, rfl, h⟩ := h
  simp only [D.nrm, den]
  exact ⟨vs, rfl, denL_nrm1 h⟩
 | kb b => simp only [D.nrm, den] at h ⊢; exact h
 | slx n cs => exact den_slx h
 | _ => exact h
def shapeOf (P : Program) (t : Nat) : TK := match P.underlying t with
 | some (.struct fs) => .struct (fs.toList.map fun f => (f.offset, f.type))
 | some (.array n e) => .array n e
 | some (.slice e) => .slice e
 | some .string => .str
 | some .bool => .boolk
 | some (.int k) => .intk k
 | some (.float k) => .fltk k
 | some _ => .basic
 | none => .other
structure TI.ok (P : Program) (t : Nat) (i : TI) : Prop where
 inf : (P.info? t).map (fun j => (j.size, j.zero)) = some (i.size, some i.zv)
 shape : shapeOf P t = i.k
 known : i.k ≠ .other
 bytes : (P.info? t).map (·.bytes) = some i.bytes
section
variable {P : Program} {t : Nat} {i : TI} {w : World}
theorem TI.ok.info (h : TI.ok P t i) : ∃ j, P.info? t = some j ∧ j.size = i.size ∧ j.zero = some i.zv := by
 have := h.inf
 cases hj : P.info? t with
 | none => rw [hj] at this; cases this
 | some j => rw [hj] at this; simp at this; exact ⟨j, rfl, this.1, this.2⟩
theorem TI.ok.sizeOf (h : TI.ok P t i) (w : World) : (Go.sizeOf t).run P w = .ok i.size w := by
 obtain ⟨j, hj, hs, _⟩ := h.info
 simp [Go.sizeOf, Go.typeInfo, program, Sem.run, hj, hs, Pure.pure, Bind.bind, Sem.bind]
theorem TI.ok.zeroValue (h : TI.ok P t i) (w : World) : (Go.zeroValue t).run P w = .ok i.zv w := by
 obtain ⟨j, hj, _, hz⟩ := h.info
 simp [Go.zeroValue, Go.typeInfo, program, Sem.run, hj, hz, Pure.pure, Bind.bind, Sem.bind]
theorem TI.ok.und (h : TI.ok P t i) : ∃ d, P.underlying t = some d := by
 cases hu : P.underlying t with
 | none => exact absurd (by rw [← h.shape]; simp [shapeOf, hu]) h.known
 | some d => exact ⟨d, rfl⟩
theorem run_und {d : TypeDesc} (h : P.underlying t = some d) (w : World) : (Go.underlying t).run P w = .ok d w := by
 simp [Go.underlying, program, Sem.run, h, Pure.pure, Bind.bind, Sem.bind]
theorem TI.ok.struct (h : TI.ok P t i) {fs : List (Nat × Nat)} (hk : i.k = .struct fs) : ∃ fields, P.underlying t = some (.struct fields) ∧ fields.toList.map (fun f => (f.offset, f.type)) = fs := by
 have hs := h.shape
 unfold shapeOf at hs
 rw [hk] at hs
 split at hs <;> simp_all
theorem TI.ok.isAgg (h : TI.ok P t i) (w : World) : (Go.isAgg t).run P w = .ok i.agg w := by
 obtain ⟨d, hd⟩ := h.und
 have hs := h.shape
 unfold shapeOf at hs
 rw [hd] at hs
 have hr := run_und hd w
 unfold Go.isAgg TI.agg
 simp only [Sem.run_bind, hr, Result.andThen_ok]
 cases d <;> simp at hs <;> rw [← hs] <;> rfl
theorem TI.ok.slice (h : TI.ok P t i) {e : Nat} (hk : i.k = .slice e) : P.underlying t = some (.slice e) := by
 have hs := h.shape
 unfold shapeOf at hs
 rw [hk] at hs
 split at hs <;> simp_all
theorem TI.ok.array (h : TI.ok P t i) {n e : Nat} (hk : i.k = .array n e) : P.underlying t = some (.array n e) := by
 have hs := h.shape
 unfold shapeOf at hs
 rw [hk] at hs
 split at hs <;> simp_all
theorem TI.ok.intk (h : TI.ok P t i) {k : IntKind} (hk : i.k = .intk k) : P.underlying t = some (.int k) := by
 have hs := h.shape
 unfold shapeOf at hs
 rw [hk] at hs
 split at hs <;> simp_all
theorem TI.ok.fltk (h : TI.ok P t i) {k : FloatKind} (hk : i.k = .fltk k) : P.underlying t = some (.float k) := by
 have hs := h.shape
 unfold shapeOf at hs
 rw [hk] at hs
 split at hs <;> simp_all
theorem TI.ok.strk (h : TI.ok P t i) (hk : i.k = .str) : P.underlying t = some .string := by
 have hs := h.shape
 unfold shapeOf at hs
 rw [hk] at hs
 split at hs <;> simp_all
theorem TI.ok.boolk (h : TI.ok P t i) (hk : i.k = .boolk) : P.underlying t = some .bool := by
 have hs := h.shape
 unfold shapeOf at hs
 rw [hk] at hs
 split at hs <;> simp_all
end
def envr (X0 : Nat → Prop) (h : Nat → Option Ent) (w : World) (ρ : Nat → Option Nat) : Env :=
 ⟨w, fun b => X0 b ∨ ∃ k e, h k = some e ∧ e.fz = false ∧ e.k.live = true ∧ ρ k = some b, ρ⟩
def OwnOk (w : World) (X : Nat → Prop) : Prop := ∀ b, X b → b < w.heap.size ∧ ∀ o n, w.cell? ⟨b, o, none⟩ ≠ some (.int .u32 n)
def ShutOk (s : Bool) (w : World) (X : Nat → Prop) : Prop := ∀ b, X b → b < w.heap.size ∧ (s = false → ∀ o n, w.cell? ⟨b, o, none⟩ ≠ some (.int .u32 n))
def NoU (vs : List Value) : Prop := ∀ u ∈ vs, ∀ n, u ≠ .int .u32 n
structure RelH (G : World → Prop) (s : Bool) (w0 : World) (X0 : Nat → Prop) (h : Nat → Option Ent) (w : World) (ρ : Nat → Option Nat) : Prop where
 below : Below w0.heap.size w0 w
 x0 : ShutOk s w0 X0
 g : G w0
 dom : ∀ k b, ρ k = some b → (∃ e, h k = some e) ∧ b < w.heap.size
 blk : ∀ k e, h k = some e → e.k.live = true → ∃ b vs, ρ k = some b ∧ w0.heap.size ≤ b ∧ w.heap[b]? = some (.cells vs e.t (0, 0)) ∧ (s = false → NoU vs.toList) ∧ (e.k = .arr → e.cs.all D.frz = true) ∧ e.cs.length ≤ vs.size ∧ denL (envr X0 h w ρ) e.cs (vs.toList.take e.cs.length)
 inj : ∀ k l e f b, h k = some e → e.k.live = true → h l = some f → f.k.live = true → ρ k = some b → ρ l = some b → k = l
def upd {α : Type} (h : Nat → Option α) (k : Nat) (e : Option α) : Nat → Option α := fun j => if j = k then e else h j
theorem upd_same {α : Type} (h : Nat → Option α) (k : Nat) (e : Option α) : upd h k e k = e := if_pos rfl
theorem upd_ne {α : Type} (h : Nat → Option α) {j k : Nat} (e : Option α) (hj : j ≠ k) : upd h k e j = h j := if_neg hj
def wrH (h : Nat → Option Ent) : Option (Nat × (Ent → Ent)) → Nat → Option Ent
 | some p => upd h p.1 ((h p.1).map p.2)
 | none => h
def nwH (h : Nat → Option Ent) (nm : Nat) : Option Ent → Nat → Option Ent
 | some e => upd h nm (some e)
 | none => h
def effH (h : Nat → Option Ent) (nm : Nat) (e : Eff) : Nat → Option Ent := nwH (wrH h e.wr) nm e.nw
section
variable {G : World → Prop} {w0 w : World} {X0 : Nat → Prop} {h : Nat → Option Ent} {ρ : Nat → Option Nat} {sM : Bool}
theorem lt_of_heap {w : World} {b : Nat} {o : Obj} (h : w.heap[b]? = some o) : b < w.heap.size := by
 rcases Nat.lt_or_ge b w.heap.size with h1 | h1
 ·exact h1
 ·rw [Array.getElem?_eq_none h1] at h; cases h
theorem RelH.x_lt (R : RelH G sM w0 X0 h w ρ) {b : Nat} (hb : (envr X0 h w ρ).X b) : b < w.heap.size := by
 rcases hb with hb | ⟨k, e, hk, _, _, hr⟩
 ·exact Nat.lt_of_lt_of_le (R.x0 b hb).1 R.below.size
 ·exact (R.dom k b hr).2
theorem RelH.new (R : RelH G sM w0 X0 h w ρ) {nm : Nat} (hn : h nm = none) {w' : World} (hb : Below w.heap.size w w') {B : Nat} (hB : w.heap.size ≤ B) {e : Ent} (hl : e.k.live = true) {vs : Array Value} (hc : w'.heap[B]? = some (.cells vs e.t (0, 0)))
  (h1 : sM = false → NoU vs.toList) (h2 : e.k = .arr → e.cs.all D.frz = true) (h3 : e.cs.length ≤ vs.size) (hv : denL (envr X0 h w ρ) e.cs (vs.toList.take e.cs.length)) :
  RelH G sM w0 X0 (upd h nm (some e)) w' (upd ρ nm (some B)) ∧
  Le (envr X0 h w ρ) (envr X0 (upd h nm (some e)) w' (upd ρ nm (some B))) := by
 have hBlt := lt_of_heap hc
 have hρ : ρ nm = none := by
  cases hr : ρ nm with
  | none => rfl
  | some b => obtain ⟨⟨e', he⟩, _⟩ := R.dom nm b hr; rw [hn] at he; cases he
 have hle : Le (envr X0 h w ρ) (envr X0 (upd h nm (some e)) w' (upd ρ nm (some B))) := by
  refine ⟨hb.size, fun b hb' hX => ⟨hb.block b hb', ?_⟩, fun k b hk => ?_, fun b vs t hv => ⟨vs, by rw [← hv]; exact hb.block b (lt_of_heap hv), rfl⟩⟩
  ·rintro (hx | ⟨k, e', hk, hz', hlv, hr⟩)
   ·exact hX (.inl hx)
   ·by_cases hkn : k = nm
    ·subst hkn; rw [upd_same] at hr; cases hr
     have : B < w.heap.size := hb'
     omega
    ·rw [upd_ne _ _ hkn] at hk hr; exact hX (.inr ⟨k, e', hk, hz', hlv, hr⟩)
  ·have hkn : k ≠ nm := fun hk' => by subst hk'; simp only [envr] at hk; rw [hρ] at hk; cases hk
   show upd ρ nm _ k = some b
   rw [upd_ne _ _ hkn]; exact hk
 have hlt : ∀ k b, ρ k = some b → b < w.heap.size := fun k b hk => (R.dom k b hk).2
 refine ⟨⟨R.below.trans (hb.mono R.below.size), R.x0, R.g, fun k b hk => ?_, fun k e' hk hlv => ?_, fun k l e1 e2 b hk1 hl1 hk2 hl2 hk hl => ?_⟩, hle⟩
 ·by_cases hkn : k = nm
  ·subst hkn; rw [upd_same] at hk; cases hk; exact ⟨⟨e, upd_same _ _ _⟩, hBlt⟩
  ·rw [upd_ne _ _ hkn] at hk ⊢; exact ⟨(R.dom k b hk).1, Nat.lt_of_lt_of_le (hlt k b hk) hb.size⟩
 ·by_cases hkn : k = nm
  ·subst hkn
   rw [upd_same] at hk; cases hk
   exact ⟨B, vs, upd_same _ _ _, Nat.le_trans R.below.size hB, hc, h1, h2, h3, denL_mono hle _ _ hv⟩
  ·rw [upd_ne _ _ hkn] at hk
   obtain ⟨b, us, a1, a2, a3, a4, a5, a6, a7⟩ := R.blk k e' hk hlv
   refine ⟨b, us, by rw [upd_ne _ _ hkn]; exact a1, a2, ?_, a4, a5, a6, denL_mono hle _ _ a7⟩
   rw [hb.block b (lt_of_heap a3)]; exact a3
 ·by_cases hkn : k = nm <;> by_cases hln : l = nm
  ·rw [hkn, hln]
  ·subst hkn; rw [upd_same] at hk; rw [upd_ne _ _ hln] at hl; cases hk; have := hlt l _ hl; omega
  ·subst hln; rw [upd_same] at hl; rw [upd_ne _ _ hkn] at hk; cases hl; have := hlt k _ hk; omega
  ·rw [upd_ne _ _ hkn] at hk hk1; rw [upd_ne _ _ hln] at hl hk2; exact R.inj k l e1 e2 b hk1 hl1 hk2 hl2 hk hl
theorem RelH.store (R : RelH G sM w0 X0 h w ρ) {k : Nat} {e e' : Ent} (hk : h k = some e) (hz : e.fz = false) (hlv : e.k.live = true) (het : e'.t = e.t) {b : Nat} (hb : ρ k = some b) {vs old : Array Value}
  (ho : w.heap[b]? = some (.cells old e.t (0, 0))) (hsz : vs.size = old.size) (h1 : sM = false → NoU vs.toList) (h2 : e'.k = .arr → e'.cs.all D.frz = true) (h3 : e'.cs.length ≤ vs.size) (hv : denL (envr X0 h w ρ) e'.cs (vs.toList.take e'.cs.length)) :
  RelH G sM w0 X0 (upd h k (some e')) (w.setRow b vs) ρ ∧
  Le (envr X0 h w ρ) (envr X0 (upd h k (some e')) (w.setRow b vs) ρ) := by
 have hset : (w.setRow b vs).heap[b]? = some (.cells vs e.t (0, 0)) := setRow_heap w b old _ e.t _ ho
 have hother : ∀ c, c ≠ b → (w.setRow b vs).heap[c]? = w.heap[c]? := fun c hc => by
  simp only [World.setRow, Array.getElem?_modify]; rw [if_neg (fun h => hc h.symm)]
 have hsize : (w.setRow b vs).heap.size = w.heap.size := by simp [World.setRow]
 have hB : w0.heap.size ≤ b := by obtain ⟨b', _, h4, h5, _⟩ := R.blk k e hk hlv; rw [hb] at h4; cases h4; exact h5
 have hX : ∀ c, (envr X0 (upd h k (some e')) (w.setRow b vs) ρ).X c → (envr X0 h w ρ).X c := by
  rintro c (hx | ⟨l, f, hl', hz', hlf, hr⟩)
  ·exact .inl hx
  ·by_cases hlk : l = k
   ·subst hlk; exact .inr ⟨l, e, hk, hz, hlv, hr⟩
   ·rw [upd_ne _ _ hlk] at hl'; exact .inr ⟨l, f, hl', hz', hlf, hr⟩
 have hle : Le (envr X0 h w ρ) (envr X0 (upd h k (some e')) (w.setRow b vs) ρ) := by
  refine ⟨by show w.heap.size ≤ _; rw [show (envr X0 (upd h k (some e')) (w.setRow b vs) ρ).w = w.setRow b vs from rfl, hsize]; exact Nat.le_refl _, fun c hc hXc => ⟨?_, fun hx => hXc (hX c hx)⟩, fun _ _ hr => hr, fun c us t hc => ?_⟩
  ·exact hother c (fun hcb => hXc (by subst hcb; exact .inr ⟨k, e, hk, hz, hlv, hb⟩))
  ·by_cases hcb : c = b
   ·subst hcb
    have hc' : w.heap[c]? = some (.cells us t (0, 0)) := hc
    rw [ho] at hc'; cases hc'
    exact ⟨vs, hset, hsz⟩
   ·exact ⟨us, (hother c hcb).trans hc, rfl⟩
 refine ⟨⟨?_, R.x0, R.g, fun l c hl' => ?_, fun l f hl' hlf => ?_, fun i j e1 e2 c hi1 hi2 hj1 hj2 hi hj => ?_⟩, hle⟩
 ·refine ⟨R.below.os, R.below.tape, R.below.output, by rw [hsize]; exact R.below.size, fun c hc => ?_⟩
  rw [hother c (by omega)]; exact R.below.block c hc
 ·rw [hsize]
  obtain ⟨⟨f, he⟩, h6⟩ := R.dom l c hl'
  by_cases hlk : l = k
  ·subst hlk; exact ⟨⟨_, upd_same _ _ _⟩, h6⟩
  ·exact ⟨⟨f, by rw [upd_ne _ _ hlk]; exact he⟩, h6⟩
 ·by_cases hlk : l = k
  ·subst hlk
   rw [upd_same] at hl'; cases hl'
   exact ⟨b, vs, hb, hB, by rw [het]; exact hset, h1, h2, h3, denL_mono hle _ _ hv⟩
  ·rw [upd_ne _ _ hlk] at hl'
   obtain ⟨c, us', a1, a2, a3, a4, a5, a6, a7⟩ := R.blk l f hl' hlf
   refine ⟨c, us', a1, a2, ?_, a4, a5, a6, denL_mono hle _ _ a7⟩
   rw [hother c (fun hcb => hlk (R.inj l k f e b hl' hlf hk hlv (hcb ▸ a1) hb))]; exact a3
 ·have key : ∀ i e1, upd h k (some e') i = some e1 → e1.k.live = true → ∃ e2, h i = some e2 ∧ e2.k.live = true := fun i e1 hi hl => by
   by_cases hik : i = k
   ·subst hik; exact ⟨e, hk, hlv⟩
   ·rw [upd_ne _ _ hik] at hi; exact ⟨e1, hi, hl⟩
  obtain ⟨f1, a1, a2⟩ := key i e1 hi1 hi2
  obtain ⟨f2, a3, a4⟩ := key j e2 hj1 hj2
  exact R.inj i j f1 f2 c a1 a2 a3 a4 hi hj
theorem RelH.freeze (R : RelH G sM w0 X0 h w ρ) {k : Nat} {e : Ent} (hk : h k = some e) :
  RelH G sM w0 X0 (upd h k (some ⟨e.t, e.cs, true, e.k⟩)) w ρ ∧ Le (envr X0 h w ρ) (envr X0 (upd h k (some ⟨e.t, e.cs, true, e.k⟩)) w ρ) := by
 have hX : ∀ c, (envr X0 (upd h k (some ⟨e.t, e.cs, true, e.k⟩)) w ρ).X c → (envr X0 h w ρ).X c := by
  rintro c (hx | ⟨l, f, hl', hz', hlf, hr⟩)
  ·exact .inl hx
  ·by_cases hlk : l = k
   ·subst hlk; rw [upd_same] at hl'; cases hl'; cases hz'
   ·rw [upd_ne _ _ hlk] at hl'; exact .inr ⟨l, f, hl', hz', hlf, hr⟩
 have hle : Le (envr X0 h w ρ) (envr X0 (upd h k (some ⟨e.t, e.cs, true, e.k⟩)) w ρ) := ⟨Nat.le_refl _, fun c _ hXc => ⟨rfl, fun hx => hXc (hX c hx)⟩, fun _ _ hr => hr, fun c us t hc => ⟨us, hc, rfl⟩⟩
 have key : ∀ i e1, upd h k (some ⟨e.t, e.cs, true, e.k⟩) i = some e1 → ∃ e2, h i = some e2 ∧ e2.k = e1.k ∧ e2.t = e1.t ∧ e2.cs = e1.cs := fun i e1 hi => by
  by_cases hik : i = k
  ·subst hik; rw [upd_same] at hi; cases hi; exact ⟨e, hk, rfl, rfl, rfl⟩
  ·rw [upd_ne _ _ hik] at hi; exact ⟨e1, hi, rfl, rfl, rfl⟩
 refine ⟨⟨R.below, R.x0, R.g, fun l c hl' => ?_, fun l f hl' hlf => ?_, fun i j e1 e2 c hi1 hi2 hj1 hj2 hi hj => ?_⟩, hle⟩
 ·obtain ⟨⟨f, he⟩, h6⟩ := R.dom l c hl'
  by_cases hlk : l = k
  ·subst hlk; exact ⟨⟨_, upd_same _ _ _⟩, h6⟩
  ·exact ⟨⟨f, by rw [upd_ne _ _ hlk]; exact he⟩, h6⟩
 ·obtain ⟨f2, b1, b2, b3, b4⟩ := key l f hl'
  obtain ⟨c, us', a1, a2, a3, a4, a5, a6, a7⟩ := R.blk l f2 b1 (by rw [b2]; exact hlf)
  rw [b3] at a3; rw [b2, b4] at a5; rw [b4] at a6 a7
  exact ⟨c, us', a1, a2, a3, a4, a5, a6, denL_mono hle _ _ a7⟩
 ·obtain ⟨f1, b1, b2, _⟩ := key i e1 hi1
  obtain ⟨f2, c1, c2, _⟩ := key j e2 hj1
  exact R.inj i j f1 f2 c b1 (by rw [b2]; exact hi2) c1 (by rw [c2]; exact hj2) hi hj
theorem RelH.bel (R : RelH G sM w0 X0 h w ρ) {w' : World} (hb : Below w.heap.size w w') :
  RelH G sM w0 X0 h w' ρ ∧ Le (envr X0 h w ρ) (envr X0 h w' ρ) := by
 have hle : Le (envr X0 h w ρ) (envr X0 h w' ρ) := ⟨hb.size, fun b hb' hX => ⟨hb.block b hb', hX⟩, fun _ _ h => h, fun b vs t hv => ⟨vs, by rw [← hv]; exact hb.block b (lt_of_heap hv), rfl⟩⟩
 refine ⟨⟨R.below.trans (hb.mono R.below.size), R.x0, R.g, fun k b hk => ⟨(R.dom k b hk).1, Nat.lt_of_lt_of_le (R.dom k b hk).2 hb.size⟩, fun k e hk hl => ?_, R.inj⟩, hle⟩
 obtain ⟨b, vs, a1, a2, a3, a4, a5, a6, a7⟩ := R.blk k e hk hl
 exact ⟨b, vs, a1, a2, by rw [hb.block b (lt_of_heap a3)]; exact a3, a4, a5, a6, denL_mono hle _ _ a7⟩
theorem RelH.own (R : RelH G sM w0 X0 h w ρ) : ShutOk sM w (envr X0 h w ρ).X := by
 rintro b (hb | ⟨k, e, hk, hz, hl, hr⟩)
 ·obtain ⟨h1, h2⟩ := R.x0 b hb
  refine ⟨Nat.lt_of_lt_of_le h1 R.below.size, fun hs o n => ?_⟩
  rw [R.below.cell (p := ⟨b, o, none⟩) h1]; exact h2 hs o n
 ·obtain ⟨b', vs, a1, a2, a3, a4, _⟩ := R.blk k e hk hl
  rw [hr] at a1; cases a1
  refine ⟨lt_of_heap a3, fun hs o n hc => ?_⟩
  simp only [World.cell?, a3] at hc
  have hm : Value.int .u32 n ∈ vs.toList := by
   simp at hc
   exact Array.mem_toList_iff.2 (Array.mem_of_getElem? hc)
  exact a4 hs _ hm n rfl
end
theorem den_const (E : Env) (v : Value) : den E (ofConst v) v := by
 unfold ofConst
 split <;> simp [den]
theorem den_consts (E : Env) : ∀ vs : List Value, denL E (vs.map ofConst) vs
 | [] => by simp [denL]
 | v :: vs => by simp only [List.map_cons, denL]; exact ⟨v, vs, rfl, den_const E v, den_consts E vs⟩
theorem den_cells {E : Env} {d : D} {v : Value} (h1 : d.cells.all D.cell = true) (h : den E d v) : denL E d.cells v.cells.toList := by
 have single : d.cell = true → d.cells = [d] → denL E d.cells v.cells.toList := fun ho hc => by
  have hv := den_cell ho h
  have : v.cells = #[v] := by cases v <;> simp [Value.oneCell'] at hv <;> rfl
  rw [hc, this]
  simp only [denL]
  exact ⟨v, [], rfl, h, rfl⟩
 cases d with
 | agg cs =>
  simp only [den] at h
  obtain ⟨vs, rfl, hv⟩ := h
  exact hv
 | undef => simp [D.cells, D.cell] at h1
 | tup => simp [D.cells, D.cell] at h1
 | fn => simp [D.cells, D.cell] at h1
 | _ => exact single (by simpa [D.cells] using h1) rfl
theorem load_run {P : Program} {C : Nat → Option TI} (hC : ∀ t i, C t = some i → TI.ok P t i) {E : Env} {t : Nat} {i : TI} (ht : C t = some i) {b o : Nat} {cs : List D} {vs : List Value}
  (hl : cs.length = i.size) (hv : denL E cs vs) (hc : ∀ j v, vs[j]? = some v → E.w.cell? ⟨b, o + j, none⟩ = some v) {d : D} (hd : mk i cs = some d) :
  ∃ v, (Instr.loadAt t (.pointer (some ⟨b, o, none⟩))).run P E.w = .ok v E.w ∧ den E d v := by
 have hi := hC t i ht
 have hlen := denL_len hv
 have hadd : ∀ j, (⟨b, o, none⟩ : Addr).add j = ⟨b, o + j, none⟩ := fun j => by unfold Addr.add; split <;> simp_all
 unfold Instr.loadAt Instr.sureAddr loadVar
 simp only [Sem.run_bind, hi.isAgg, Result.andThen_ok, Pure.pure, Sem.run]
 unfold mk at hd
 split at hd
 ·rename_i ha
  cases hd
  simp only [ha, if_true, Sem.run_bind, hi.sizeOf, Result.andThen_ok]
  rw [← hl, ← hlen, run_loadCells_list E.w ⟨b, o, none⟩ vs (fun j v hj => by rw [hadd]; exact hc j v hj)]
  refine ⟨.agg vs.toArray, by simp [Result.andThen_ok, Sem.run], ?_⟩
  simp only [den]
  exact ⟨vs.toArray, rfl, by simpa using hv⟩
 ·rename_i ha
  split at hd
  ·rename_i c
   cases hd
   simp only [denL] at hv
   obtain ⟨v, us, rfl, h1, rfl⟩ := hv
   have := hc 0 v rfl
   simp only [Nat.add_zero] at this
   refine ⟨v, ?_, h1⟩
   simp [ha, load, Sem.run, this]
  ·cases hd
theorem denC_get {w : World} {X : Nat → Prop} {b : Nat} : ∀ {cs : List D} {o : Nat}, denC w X b o cs → ∃ vs, denL ⟨w, X, fun _ => none⟩ cs vs ∧ ∀ j v, vs[j]? = some v → w.cell? ⟨b, o + j, none⟩ = some v
 | [], o, _ => ⟨[], by simp [denL], fun j v h => by simp at h⟩
 | d :: cs, o, h => by
  simp only [denC] at h
  obtain ⟨⟨v, hc, _, hd⟩, h2⟩ := h
  obtain ⟨vs, h3, h4⟩ := denC_get h2
  refine ⟨v :: vs, by simp only [denL]; exact ⟨v, vs, rfl, hd, h3⟩, fun j u hj => ?_⟩
  cases j with
  | zero => simp at hj; subst hj; exact hc
  | succ j => simp at hj; have := h4 j u hj; rwa [show o + 1 + j = o + (j + 1) by omega] at this
theorem Le.rho_none {w : World} {X : Nat → Prop} {ρ : Nat → Option Nat} : Le ⟨w, X, fun _ => none⟩ ⟨w, X, ρ⟩ := ⟨Nat.le_refl _, fun _ _ h => ⟨rfl, h⟩, fun _ _ h => (by cases h), fun _ vs _ h => ⟨vs, h, rfl⟩⟩
theorem made_list (z : Array Value) : ∀ n : Nat, ((Array.range (n * z.size)).map fun k => z[k % z.size]!).toList = (List.replicate n z.toList).flatten
 | 0 => by simp
 | n + 1 => by
  have ih := made_list z n
  simp only [Array.toList_map, Array.toList_range] at ih ⊢
  rw [Nat.succ_mul, List.range_add, List.map_append, ih, List.replicate_succ', List.flatten_append, List.map_map]
  congr 1
  simp only [List.flatten_cons, List.flatten_nil, List.append_nil]
  apply List.ext_getElem (by simp)
  intro i h1 h2
  simp only [List.length_map, List.length_range] at h1
  have : (n * z.size + i) % z.size = i := by rw [Nat.add_comm, Nat.add_mul_mod_self_right, Nat.mod_eq_of_lt h1]
  simp [this, h1]
theorem rep_den {E : Env} {cs : List D} {vs : List Value} (h : denL E cs vs) : ∀ n : Nat, denL E (rep n cs) (List.replicate n vs).flatten
 | 0 => by simp [rep, denL]
 | n + 1 => by
  rw [List.replicate_succ', List.flatten_append]
  simp only [rep, List.flatten_cons, List.flatten_nil, List.append_nil]
  exact denL_append (rep_den h n) h
theorem rep_frz {cs : List D} (h : cs.all D.frz = true) : ∀ n : Nat, (rep n cs).all D.frz = true
 | 0 => rfl
 | n + 1 => by simp only [rep, List.all_append, Bool.and_eq_true]; exact ⟨rep_frz h n, h⟩
theorem frz_rho {w : World} {X : Nat → Prop} {ρ ρ' : Nat → Option Nat} {d : D} {v : Value} (hp : d.frz = true) (h : den ⟨w, X, ρ⟩ d v) : den ⟨w, X, ρ'⟩ d v := by
 cases d <;> (try (simp [D.frz] at hp; done)) <;> simpa only [den] using h
theorem denC_of {w : World} {X : Nat → Prop} {ρ : Nat → Option Nat} {b : Nat} : ∀ {cs : List D} {vs : List Value} {o : Nat}, cs.all D.frz = true → denL ⟨w, X, ρ⟩ cs vs → (∀ j v, vs[j]? = some v → w.cell? ⟨b, o + j, none⟩ = some v) → denC w X b o cs
 | [], _, _, _, _, _ => by simp only [denC]
 | d :: cs, vs, o, h1, h2, h3 => by
  simp only [denL] at h2
  obtain ⟨v, us, rfl, h4, h5⟩ := h2
  simp only [List.all_cons, Bool.and_eq_true] at h1
  simp only [denC]
  refine ⟨⟨v, h3 0 v rfl, den_cell (frz_cell h1.1) h4, frz_rho h1.1 h4⟩, denC_of h1.2 h5 fun j u hj => ?_⟩
  have := h3 (j + 1) u (by simpa using hj)
  rwa [show o + (j + 1) = o + 1 + j by omega] at this
theorem fillD_frz {pl : Nat → Option (Nat × Nat)} : ∀ {ps : List (Nat × D)} {cells out : List D}, cells.all D.frz = true → (ps.all fun p => p.2.cells.all D.frz) = true → fillD pl cells ps = some out → out.all D.frz = true
 | [], cells, out, h, _, hf => by simp only [fillD, Option.some.injEq] at hf; subst hf; exact h
 | (i, d) :: ps, cells, out, h, hp, hf => by
  simp only [List.all_cons, Bool.and_eq_true] at hp
  simp only [fillD] at hf
  split at hf
  ·cases hf
  ·split at hf
   ·refine fillD_frz ?_ hp.2 hf
    simp only [List.all_append, Bool.and_eq_true]
    exact ⟨⟨List.all_eq_true.2 fun x hx => List.all_eq_true.1 h x (List.mem_of_mem_take hx), hp.1⟩, List.all_eq_true.2 fun x hx => List.all_eq_true.1 h x (List.mem_of_mem_drop hx)⟩
   ·cases hf
theorem foldl_set (vs : List Value) : ∀ (k off : Nat) (cells : Array Value), off + k + vs.length ≤ cells.size →
  ((vs.zipIdx k).foldl (fun cs p => cs.setIfInBounds (off + p.2) p.1) cells).toList = cells.toList.take (off + k) ++ vs ++ cells.toList.drop (off + k + vs.length) := by
 induction vs with
 | nil => intro k off cells _; simp
 | cons v vs ih =>
  intro k off cells hl
  simp only [List.length_cons] at hl
  simp only [List.zipIdx_cons, List.foldl_cons]
  rw [ih (k + 1) off _ (by simp; omega)]
  simp only [Array.toList_setIfInBounds, List.length_cons]
  have e := list_seg_step cells.toList (off + k) v vs (by simp; omega)
  rw [show off + (k + 1) = off + k + 1 by omega, show off + k + (vs.length + 1) = off + k + vs.length + 1 by omega]
  simpa [Nat.add_assoc, Nat.add_comm, Nat.add_left_comm] using e
theorem fill_den {E : Env} {pl : Nat → Option (Nat × Nat)} : ∀ {ps : List (Nat × D)} {qs : List (Nat × Value)} {cells : List D} {vs : Array Value} {out : List D},
  denL E cells vs.toList → ps.map (·.1) = qs.map (·.1) → (∀ (j : Nat) (p : Nat × D) (q : Nat × Value), ps[j]? = some p → qs[j]? = some q → den E p.2 q.2 ∧ p.2.cells.all D.cell = true) → fillD pl cells ps = some out →
  ∃ us, Instr.fill pl vs qs = some us ∧ denL E out us.toList
 | [], qs, cells, vs, out, hv, hm, _, hf => by
  cases qs with
  | nil => simp only [fillD, Option.some.injEq] at hf; subst hf; exact ⟨vs, rfl, hv⟩
  | cons => simp at hm
 | (i, d) :: ps, qs, cells, vs, out, hv, hm, hd, hf => by
  cases qs with
  | nil => simp at hm
  | cons q qs =>
   obtain ⟨j, v⟩ := q
   simp only [List.map_cons, List.cons.injEq] at hm
   obtain ⟨hij, hm⟩ := hm
   subst hij
   obtain ⟨h1, h2⟩ := hd 0 _ _ rfl rfl
   have hcv := den_cells h2 h1
   have hlen : v.cells.size = d.cells.length := by have := denL_len hcv; simpa using this
   have hvl : vs.size = cells.length := by have := denL_len hv; simpa using this
   simp only [fillD] at hf
   cases hp : pl i with
   | none => simp [hp] at hf
   | some os =>
    obtain ⟨off, size⟩ := os
    simp only [hp] at hf
    split at hf
    ·rename_i hc
     unfold Instr.fill
     simp only [hp]
     rw [if_neg (by simp only [Bool.or_eq_true, decide_eq_true_eq]; omega)]
     have hfold := foldl_set v.cells.toList 0 off vs (by simp; omega)
     refine fill_den (ps := ps) (qs := qs) (cells := cells.take off ++ d.cells ++ cells.drop (off + size)) (out := out) ?_ hm (fun j p q hj hq => hd (j + 1) p q hj hq) hf
     have : (v.cells.zipIdx.foldl (fun cs p => cs.setIfInBounds (off + p.2) p.1) vs).toList = vs.toList.take off ++ v.cells.toList ++ vs.toList.drop (off + size) := by
      rw [← Array.foldl_toList, Array.toList_zipIdx]
      simpa [hlen, hc.1] using hfold
     rw [this]
     exact denL_append (denL_append (denL_take hv off) hcv) (denL_drop hv _)
    ·cases hf
def Sound (P : Program) (G : World → Prop) (f : Nat) (ds : List D) (R : D → Prop) : Prop :=
 ∀ X w vs, G w → OwnOk w X → denL ⟨w, X, fun _ => none⟩ ds vs →
  Calls P f vs.toArray w fun e w' => ∃ v d, e = .returned v ∧ R d ∧ den ⟨w', X, fun _ => none⟩ d v ∧ Below w.heap.size w w'
def SoundF (s : Bool) (P : Program) (G : World → Prop) (f : Nat) (ds : List D) (R : D → Prop) : Prop :=
 ∀ X w vs, G w → ShutOk s w X → denL ⟨w, X, fun _ => none⟩ ds vs →
  Calls P f vs.toArray w fun e w' => ∃ v d, e = .returned v ∧ R d ∧ den ⟨w', X, fun _ => none⟩ d v ∧ Below w.heap.size w w'
theorem shut_own {w : World} {X : Nat → Prop} : ShutOk false w X ↔ OwnOk w X := ⟨fun h b hb => ⟨(h b hb).1, (h b hb).2 rfl⟩, fun h b hb => ⟨(h b hb).1, fun _ => (h b hb).2⟩⟩
theorem sound_iff {P : Program} {G : World → Prop} {f : Nat} {ds : List D} {R : D → Prop} : SoundF false P G f ds R ↔ Sound P G f ds R :=
 ⟨fun h X w vs hG hX hd => h X w vs hG (shut_own.2 hX) hd, fun h X w vs hG hX hd => h X w vs hG (shut_own.1 hX) hd⟩
theorem ShutOk.weak {w : World} {X : Nat → Prop} {s t : Bool} (h : ShutOk s w X) (hst : s = true → t = true) : ShutOk t w X := fun b hb => ⟨(h b hb).1, fun ht => (h b hb).2 (by cases s with | false => rfl | true => rw [hst rfl] at ht; cases ht)⟩
def Callable (P : Program) (f : Nat) : Prop := ∃ fn c, P.funcs[f]? = some fn ∧ (fn.name == "runtime.NumGoroutine") = false ∧ fn.body = some c
theorem enter_run {P : Program} {f : Nat} {fn : Func} {c : Code} (hf : P.funcs[f]? = some fn) (hname : (fn.name == "runtime.NumGoroutine") = false) (hb : fn.body = some c) (args : Array Value) (w : World) :
  (callFunc f args).run P w = .ok (.enter f args) w := by
 have h1 : fn.name ≠ "runtime.NumGoroutine" := by simpa using hname
 simp [callFunc, hf, h1, hb]
theorem addr_add (b o n : Nat) : (⟨b, o, none⟩ : Addr).add n = ⟨b, o + n, none⟩ := by unfold Addr.add; split <;> simp_all
def GT (w : World) (g : Nat) (cs : List D) : Prop := ∃ vs, (∀ E, denL E cs vs) ∧ ∀ j v, vs[j]? = some v → w.cell? ⟨g, j, none⟩ = some v
def Xt.entry : Xt → Array Value → Sem Value
 | .f64bits => Extern.MathFloatBits.float64bits
 | .f64from => Extern.MathFloatBits.float64frombits
def ExtOk (P : Program) (f : Nat) (x : Xt) : Prop := ∃ fn, P.funcs[f]? = some fn ∧ (fn.name == "runtime.NumGoroutine") = false ∧ fn.body.isNone = true ∧ Extern.findNext fn = none ∧ Extern.find fn = some x.entry
structure Ctx.ok (P : Program) (G : World → Prop) (C : Ctx) : Prop where
 ti : ∀ t i, C.ti t = some i → TI.ok P t i
 alg : C.A = std
 mono : ∀ w w', Below w.heap.size w w' → G w → G w'
 gt : ∀ w, G w → ∀ g cs, C.gt g = some cs → GT w g cs
 call : ∀ f ds p d, C.call f ds = some (p, d) → Callable P f ∧ (p → SoundF (C.strong f) P G f ds (· = d))
 ext : ∀ f x, C.ext f = some x → ExtOk P f x
section
variable {P : Program} {G : World → Prop} {C : Ctx} {w0 w : World} {X0 : Nat → Prop} {h : Nat → Option Ent} {ρ : Nat → Option Nat}
def Made (G : World → Prop) (s : Bool) (w0 : World) (X0 : Nat → Prop) (h : Nat → Option Ent) (ρ : Nat → Option Nat) (nm : Nat) (w : World) (r : Result Next) (d : D) (e : Eff) : Prop :=
 ∃ n v w' ρ', r = .ok n w' ∧ (n = .value v ∨ (n = .skip ∧ v = undef)) ∧ RelH G s w0 X0 (effH h nm e) w' ρ' ∧ Le (envr X0 h w ρ) (envr X0 (effH h nm e) w' ρ') ∧ den (envr X0 (effH h nm e) w' ρ') d v
theorem alloc_at (w : World) (o : Obj) : (w.alloc o).heap[w.heap.size]? = some o := by
 show (w.heap.push _)[w.heap.size]? = _
 rw [Array.getElem?_push_size]
theorem noU_one {E : Env} {ds : List D} {vs : List Value} (h : ds.all D.one = true) (hd : denL E ds vs) : NoU vs := fun u hu n => (denL_one h hd u hu).2 n
theorem denL_cell {E : Env} : ∀ {ds : List D} {vs : List Value}, ds.all D.cell = true → denL E ds vs → ∀ v ∈ vs, v.oneCell' = true
 | [], _, _, h, v, hv => by simp only [denL] at h; subst h; simp at hv
 | e :: ds, _, h1, h, v, hv => by
  simp only [denL] at h
  obtain ⟨u, us, rfl, h2, h3⟩ := h
  simp only [List.all_cons, Bool.and_eq_true] at h1
  rcases List.mem_cons.1 hv with rfl | hv
  ·exact den_cell h1.1 h2
  ·exact denL_cell h1.2 h3 v hv
theorem patch_take {α : Type} {l ms : List α} {o n : Nat} (h : o + ms.length ≤ n) (hn : n ≤ l.length) : (l.take o ++ ms ++ l.drop (o + ms.length)).take n = (l.take n).take o ++ ms ++ (l.take n).drop (o + ms.length) := by
 rw [List.take_append, List.take_append]
 simp only [List.length_append, List.length_take]
 rw [List.take_of_length_le (show (l.take o).length ≤ n by rw [List.length_take]; omega), List.take_of_length_le (show ms.length ≤ n - min o l.length by omega), List.take_take, show min o n = o by omega, List.drop_take]
 congr 2
 omega
theorem denC_take {w : World} {X : Nat → Prop} {b : Nat} : ∀ {ds : List D} {o : Nat} (n : Nat), denC w X b o ds → denC w X b o (ds.take n)
 | ds, o, 0, h => by simp [denC]
 | [], o, n + 1, h => by simp [denC]
 | d :: ds, o, n + 1, h => by
  simp only [denC] at h
  rw [List.take_succ_cons]
  simp only [denC]
  exact ⟨h.1, denC_take n h.2⟩
theorem copy_run (w : World) {dT ty elem : TypeId} {argTypes : Array TypeId} (hat : argTypes[0]? = some dT) (hu : P.underlying dT = some (.slice elem)) {i : TypeInfo} (hq : P.info? elem = some i) (hi : i.size = 1) {g o o' dLen dCap m sCap : Nat} {A : Option Addr} {cur : Array Value} {t : TypeId} {us : List Value}
  (hg : w.heap[g]? = some (.cells cur t (0, 0))) (hn : us.length = min m dLen) (hx : 0 < us.length → ∃ x, A = some x ∧ ∀ j u, us[j]? = some u → w.cell? (x.add j) = some u) (ho : 0 < us.length → o' = o) (hfit : o + us.length ≤ cur.size) (h1 : ∀ v ∈ us, v.oneCell' = true) :
  (Builtin.copy_ argTypes ty #[.slice (some ⟨g, o', none⟩) dLen dCap, .slice A m sCap]).run P w = .ok (goInt us.length) (w.setRow g (cur.toList.take o ++ us ++ cur.toList.drop (o + us.length)).toArray) := by
 have hmin : Nat.min m dLen = us.length := hn.symm
 have hfc : (Builtin.firstCells i.size us.length (.slice A m sCap)).run P w = .ok us.toArray w := by
  by_cases h0 : 0 < us.length
  ·obtain ⟨x, rfl, hc⟩ := hx h0
   exact run_firstCells_some (P := P) w i.size us.length x m sCap us (by rw [hi, Nat.mul_one]) hc
  ·have h2 : us = [] := List.eq_nil_of_length_eq_zero (by omega)
   subst h2
   cases A with
   | none => simp [Builtin.firstCells]
   | some x => exact run_firstCells_some (P := P) w i.size 0 x m sCap [] (by simp) (by simp)
 have hst : (storeCells ⟨g, o', none⟩ us 0).run P w = .ok () (w.setRow g (cur.toList.take o ++ us ++ cur.toList.drop (o + us.length)).toArray) := by
  by_cases h0 : 0 < us.length
  ·rw [ho h0]
   have := run_storeCells_at P g o t us 0 cur w hg (by simpa using hfit) h1
   simpa only [Nat.add_zero] using this
  ·have h2 : us = [] := List.eq_nil_of_length_eq_zero (by omega)
   subst h2
   simp only [storeCells, List.append_nil, List.length_nil, Nat.add_zero, List.take_append_drop, Array.toArray_toList]
   rw [setRow_self w g cur t (0, 0) hg]; rfl
 simp [Builtin.copy_, hat, run_underlying hu, Builtin.lenOf, sizeOf, typeInfo, hq, hmin, hfc, hst]
theorem zeros_den {E : Env} {cs : List D} {vs : List Value} (h : denL E cs vs) : ∀ n : Nat, denL E (List.replicate n cs).flatten (List.replicate n vs).flatten
 | 0 => by simp [denL]
 | n + 1 => by
  rw [List.replicate_succ, List.replicate_succ, List.flatten_cons, List.flatten_cons]
  exact denL_append h (zeros_den h n)
theorem zeros_all {cs : List D} {p : D → Bool} (h : cs.all p = true) : ∀ n : Nat, ((List.replicate n cs).flatten).all p = true
 | 0 => rfl
 | n + 1 => by
  rw [List.replicate_succ, List.flatten_cons, List.all_append, Bool.and_eq_true]
  exact ⟨h, zeros_all h n⟩
theorem append_none (w : World) {t t2 ty e e2 : TypeId} {argTypes : Array TypeId} (h0 : argTypes[0]? = some t) (h1 : argTypes[1]? = some t2) (ht : P.underlying t = some (.slice e)) (ht2 : P.underlying t2 = some (.slice e2)) {i : TypeInfo} (hi : P.info? e = some i) {A A2 : Option Addr} {n c2 : Nat} :
  (Builtin.append_ argTypes ty #[.slice A n n, .slice A2 0 c2]).run P w = .ok (.slice A n n) w := by
 have hf : (Builtin.firstCells i.size 0 (.slice A2 0 c2)).run P w = .ok #[] w := by
  cases A2 with
  | none => simp [Builtin.firstCells]
  | some x => exact run_firstCells_some (P := P) w i.size 0 x 0 c2 [] (by simp) (by simp)
 cases A <;> simp [Builtin.append_, h0, h1, run_underlying ht, run_underlying ht2, sizeOf, typeInfo, hi, Builtin.lenOf, hf, storeCells]
theorem append_more (w : World) {t t2 ty e e2 : TypeId} {argTypes : Array TypeId} (h0 : argTypes[0]? = some t) (h1 : argTypes[1]? = some t2) (ht : P.underlying t = some (.slice e)) (ht2 : P.underlying t2 = some (.slice e2)) {i : TypeInfo} (hi : P.info? e = some i) {z : Value} (hz : i.zero = some z) {A : Option Addr} {n m c2 : Nat} {y : Addr} {us0 us1 : List Value}
  (hl0 : us0.length = n * i.size) (hl1 : us1.length = m * i.size) (hc0 : 0 < n → ∃ x, A = some x ∧ ∀ j u, us0[j]? = some u → w.cell? (x.add j) = some u) (hc1 : ∀ j u, us1[j]? = some u → w.cell? (y.add j) = some u) (hm : 0 < m) (h63 : n + m ≤ 9223372036854775807) (hb : (n + m) * i.bytes ≤ 140737488355328) :
  ∃ cap rest, (Builtin.append_ argTypes ty #[.slice A n n, .slice (some y) m c2]).run P w = .ok (.slice (some ⟨w.heap.size, 0, none⟩) (n + m) cap) (w.drew.alloc (.cells (us0.toArray ++ us1.toArray ++ rest) e)) ∧ n + m ≤ cap := by
 refine ⟨grownCap w (n + m) n e, Builtin.zeroCells z.cells (grownCap w (n + m) n e - (n + m)), ?_, grownCap_ge w (n + m) n e⟩
 have hn : ¬ (n + m ≤ n) := by omega
 have h63' : ¬ (9223372036854775807 < ((n : Int) + (m : Int))) := by omega
 have hfit := growslice_fits (need := n + m) (old := n) (by omega) hb
 have h48' : ¬ (281474976710656 < Builtin.nextslicecap (n + m) n * i.bytes) := by omega
 have hf := run_firstCells_some (P := P) w.drew i.size m y m c2 us1 hl1 (by simpa using hc1)
 have hfo : (Builtin.firstCells i.size n (.slice A n n)).run P w.drew = .ok us0.toArray w.drew := by
  by_cases h9 : 0 < n
  ·obtain ⟨x, rfl, hc⟩ := hc0 h9
   exact run_firstCells_some (P := P) w.drew i.size n x n n us0 hl0 (by simpa using hc)
  ·have h10 : n = 0 := by omega
   subst h10
   have h11 : us0 = [] := List.eq_nil_of_length_eq_zero (by omega)
   subst h11
   cases A with
   | none => simp [Builtin.firstCells]
   | some x => exact run_firstCells_some (P := P) w.drew i.size 0 x 0 0 [] (by simp) (by simp)
 simp [Builtin.append_, h0, h1, run_underlying ht, run_underlying ht2, sizeOf, typeInfo, zeroValue, hi, hz, Builtin.lenOf, hn, h63', h48', Question.forced, hf, hfo, newRow, grownCap]
 congr 2
 apply Array.ext'
 simp [List.append_assoc]
theorem Made.pure (R : RelH G C.own w0 X0 h w ρ) {nm : Nat} {r : Result Next} {d : D} {v : Value} (hr : r = .ok (.value v) w) (hd : den (envr X0 h w ρ) d v) : Made G C.own w0 X0 h ρ nm w r d .none :=
 ⟨.value v, v, w, ρ, hr, .inl rfl, R, Le.refl _, hd⟩
theorem cells_at (hC : C.ok P G) (R : RelH G C.own w0 X0 h w ρ) {x : D} {v : Value} {cs : List D} {off : Nat} (hx : den (envr X0 h w ρ) x v) (hc : cellsAt C h x = some (cs, off)) :
  ∃ b o vs, v = .pointer (some ⟨b, o + off, none⟩) ∧ denL (envr X0 h w ρ) cs vs ∧ ∀ j u, vs[j]? = some u → w.cell? ⟨b, o + j, none⟩ = some u := by
 unfold cellsAt at hc
 split at hc
 ·rename_i k off'
  simp only [den] at hx
  obtain ⟨b, rfl, hb⟩ := hx
  cases he : h k with
  | none => rw [he] at hc; cases hc
  | some e =>
   rw [he] at hc; simp only [Option.bind_some] at hc
   split at hc
   ·rename_i hek
    simp only [Option.some.injEq, Prod.mk.injEq] at hc
    obtain ⟨rfl, rfl⟩ := hc
    obtain ⟨b', vs, h1, _, h3, _, _, _, h5⟩ := R.blk k e he (by rw [hek]; rfl)
    have : b' = b := by have hb2 : ρ k = some b := hb; rw [hb2] at h1; cases h1; rfl
    subst this
    exact ⟨b', 0, vs.toList.take e.cs.length, by simp, h5, fun j u hj => by
     simp only [Nat.zero_add, World.cell?, h3]
     rw [List.getElem?_take] at hj
     split at hj
     ·simpa using hj
     ·cases hj⟩
   ·cases hc
 ·rename_i g off'
  simp only [den] at hx
  subst hx
  cases hg : C.gt g with
  | none => rw [hg] at hc; cases hc
  | some cs' =>
   rw [hg] at hc; simp only [Option.map_some, Option.some.injEq, Prod.mk.injEq] at hc
   obtain ⟨rfl, rfl⟩ := hc
   obtain ⟨vs, h1, h2⟩ := hC.gt w (hC.mono w0 w R.below R.g) g _ hg
   exact ⟨g, 0, vs, by simp, h1 _, fun j u hj => by simp only [Nat.zero_add]; exact h2 j u hj⟩
 ·rename_i cs' off'
  simp only [Option.some.injEq, Prod.mk.injEq] at hc
  obtain ⟨rfl, rfl⟩ := hc
  simp only [den] at hx
  obtain ⟨b, o, rfl, _, _, h3⟩ := hx
  obtain ⟨vs, h4, h5⟩ := denC_get h3
  exact ⟨b, o, vs, rfl, denL_mono Le.rho_none _ _ h4, h5⟩
 ·cases hc
theorem move_den {E : Env} {x d : D} {v : Value} {n : Nat} (hx : den E x v) (hm : move x n = some d) : ∃ b o, v = .pointer (some ⟨b, o, none⟩) ∧ den E d (.pointer (some ⟨b, o + n, none⟩)) := by
 unfold move at hm
 split at hm <;> cases hm
 ·simp only [den] at hx ⊢; obtain ⟨b, rfl, hb⟩ := hx; exact ⟨b, _, rfl, b, rfl, hb⟩
 ·simp only [den] at hx ⊢; subst hx; exact ⟨_, _, rfl, rfl⟩
theorem take_drop_get {vs : List Value} {off n j : Nat} {v : Value} (h : ((vs.drop off).take n)[j]? = some v) : vs[off + j]? = some v := by
 rw [List.getElem?_take] at h
 split at h
 ·simpa [List.getElem?_drop] using h
 ·cases h
theorem parts_run (hC : C.ok P G) {fields : Array Field} (hf : ((fields.toList.map fun f => (f.offset, f.type)).all fun f => (C.ti f.2).isSome) = true) :
  (fields.mapM (m := Sem) fun f => do pure (f.offset, ← sizeOf f.type)).run P w = .ok (fields.map fun f => (f.offset, ((C.ti f.type).map (·.size)).getD 0)) w := by
 have key : ∀ l : List Field, ((l.map fun f => (f.offset, f.type)).all fun f => (C.ti f.2).isSome) = true → (l.mapM (m := Sem) fun f => do pure (f.offset, ← sizeOf f.type)).run P w = .ok (l.map fun f => (f.offset, ((C.ti f.type).map (·.size)).getD 0)) w := by
  intro l
  induction l with
  | nil => intro _; rfl
  | cons f l ih =>
   intro hl
   simp only [List.map_cons, List.all_cons, Bool.and_eq_true] at hl
   cases ht : C.ti f.type with
   | none => rw [ht] at hl; simp at hl
   | some i =>
    have := ih hl.2
    simp only [List.mapM_cons, Sem.run_bind, (hC.ti _ _ ht).sizeOf, Result.andThen_ok, Pure.pure, Sem.run]
    simp only [Pure.pure] at this
    rw [this]
    simp [ht, Result.andThen_ok]
 rw [← Array.toArray_toList (xs := fields), List.mapM_toArray]
 simp only [Sem.run_map, key _ hf, Result.andThen_ok]
 congr 1
 apply Array.ext'
 simp
theorem store_run (hC : C.ok P G) {t : Nat} {i : TI} (ht : C.ti t = some i) {b off : Nat} {old : Array Value} {T : Nat} {v : Value} (ho : w.heap[b]? = some (.cells old T (0, 0)))
  (hl : v.cells.size = i.size) (hf : off + i.size ≤ old.size) (h1 : ∀ u ∈ v.cells.toList, u.oneCell' = true) :
  (Instr.storeAt t (.pointer (some ⟨b, off, none⟩)) v).run P w = .ok () (w.setRow b (old.toList.take off ++ v.cells.toList ++ old.toList.drop (off + v.cells.toList.length)).toArray) := by
 unfold Instr.storeAt Instr.sureAddr storeVar
 simp only [Sem.run_bind, (hC.ti t i ht).sizeOf, Result.andThen_ok, Pure.pure, Sem.run]
 rw [if_neg (by omega)]
 have := run_storeCells_at P b off T v.cells.toList 0 old w ho (by simp; omega) h1
 simpa [Sem.run, Bind.bind, Sem.bind] using this
theorem map_one {ev : Operand → D} {l : List Operand} {d : D} (h : l.map ev = [d]) : ∃ x, l = [x] ∧ ev x = d := by
 cases l with
 | nil => cases h
 | cons x l =>
  cases l with
  | nil => simp only [List.map_cons, List.map_nil, List.cons.injEq, and_true] at h; exact ⟨x, rfl, h⟩
  | cons y l => simp at h
theorem denL_map {E : Env} {ev : Operand → D} {ea : Operand → Value} : ∀ (l : List Operand), (∀ x ∈ l, den E (ev x) (ea x)) → denL E (l.map ev) (l.map ea)
 | [], _ => by simp [denL]
 | x :: l, h => by
  simp only [List.map_cons, denL]
  exact ⟨_, _, rfl, h x (by simp), denL_map l (fun y hy => h y (by simp [hy]))⟩
theorem asB_den {E : Env} {d : D} {b : Bool} {v : Value} (h : asB d = some b) (hd : den E d v) : v = .bool b := by
 unfold asB at h
 split at h
 ·cases h; simpa only [den] using hd
 ·cases h; simpa only [den] using hd
 ·cases h
theorem ints_get : ∀ {cs : List D} {k : IntKind} {l : List Int}, intsOf cs = some (k, l) → ∀ (i : Nat), i < l.length → cs[i]? = some (.int k (l.getD i 0))
 | [], _, _, h => by simp [intsOf] at h
 | [c], k, l, h => by
  intro i hi
  cases c <;> simp [intsOf] at h
  obtain ⟨rfl, rfl⟩ := h
  cases i with
  | zero => rfl
  | succ i => simp at hi
 | c :: c' :: cs, k, l, h => by
  intro i hi
  cases c <;> simp only [intsOf] at h <;> (try (cases h; done))
  split at h
  ·rename_i k' l' h'
   split at h
   ·rename_i hk
    cases h
    subst hk
    cases i with
    | zero => rfl
    | succ i => simp only [List.length_cons] at hi; exact ints_get h' i (by omega)
   ·cases h
  ·cases h
theorem ints_len : ∀ {cs : List D} {k : IntKind} {l : List Int}, intsOf cs = some (k, l) → cs.length = l.length
 | [], _, _, h => by simp [intsOf] at h
 | [c], k, l, h => by
  cases c <;> simp [intsOf] at h
  obtain ⟨rfl, rfl⟩ := h
  rfl
 | c :: c' :: cs, k, l, h => by
  cases c <;> simp only [intsOf] at h <;> (try (cases h; done))
  split at h
  ·rename_i k' l' h'
   split at h
   ·cases h
    have := ints_len h'
    simp only [List.length_cons] at this ⊢; omega
   ·cases h
  ·cases h
theorem ntab_std {cs : List D} {k : IntKind} {l : List Int} (h : intsOf cs = some (k, l)) {off : Nat} : ∀ n, off + n ≤ l.length → ntab std k l off n = (cs.drop off).take n
 | 0, _ => by simp [ntab]
 | n + 1, hn => by
  have ih := ntab_std (off := off) h n (by omega)
  have hg := ints_get h (off + n) (by omega)
  have hl := ints_len h
  show ntab std k l off n ++ [.int k (l.getD (off + n) 0)] = _
  rw [ih, List.take_add_one]
  congr 1
  rw [List.getElem?_drop, hg]; rfl
theorem part_run {t : Nat} {i : TI} (hi : TI.ok P t i) {E : Env} {cs : List D} {vs : Array Value} {off : Nat} (hv : denL E cs vs.toList) {d : D} (hd : mk i ((cs.drop off).take i.size) = some d) :
  ∃ v, (part t vs off).run P w = .ok v w ∧ den E d v := by
 unfold part
 unfold mk at hd
 simp only [Sem.run_bind, hi.isAgg, Result.andThen_ok]
 split at hd
 ·rename_i ha
  cases hd
  simp only [ha, if_true, Sem.run_bind, hi.sizeOf, Result.andThen_ok]
  refine ⟨_, rfl, ?_⟩
  simp only [den]
  refine ⟨_, rfl, ?_⟩
  rw [Array.toList_extract]
  have := denL_take (denL_drop hv off) i.size
  simpa [List.extract_eq_take_drop] using this
 ·rename_i ha
  split at hd
  ·rename_i c hc
   cases hd
   have h1 := denL_take (denL_drop hv off) i.size
   rw [hc] at h1
   simp only [denL] at h1
   obtain ⟨v, us, he, h2, rfl⟩ := h1
   have h3 : ((vs.toList.drop off).take i.size)[0]? = some v := by rw [he]; rfl
   have h4 := take_drop_get h3
   simp only [Nat.add_zero, Array.getElem?_toList] at h4
   refine ⟨v, ?_, h2⟩
   simp [ha, h4, Pure.pure]
  ·cases hd
theorem equal_bool {t : Nat} (hun : P.underlying t = some .bool) (a b : Bool) : (Op.equal t (.bool a) (.bool b)).run P w = .ok (a == b) w := by
 have key : ∀ n, (Op.equalIn (n + 1) t (.bool a) (.bool b)).run P w = .ok (a == b) w := fun n => by
  simp only [Op.equalIn, Sem.run_bind, run_und hun, Result.andThen_ok]; rfl
 exact key 9999
theorem u8_cell {w : World} {X : Nat → Prop} {b : Nat} : ∀ {cs : List D} {o : Nat}, denC w X b o cs → cs.all D.isU8 = true → ∀ {i : Nat}, i < cs.length → w.cell? ⟨b, o + i, none⟩ = some (.int .u8 ((cs.map D.num).getD i 0))
 | [], _, _, _, _, h => by simp at h
 | d :: ds, o, h, hall, i, hi => by
  simp only [denC] at h
  obtain ⟨⟨v, hc, _, hd⟩, h2⟩ := h
  rw [List.all_cons, Bool.and_eq_true] at hall
  cases i with
  | zero =>
   cases d with
   | int k z =>
    cases k <;> first | (simp [D.isU8] at hall; done) | skip
    simp only [den] at hd
    subst hd
    exact hc
   | _ => simp [D.isU8] at hall
  | succ i =>
   have := u8_cell h2 hall.2 (i := i) (by simpa using hi)
   rw [show o + (i + 1) = o + 1 + i by omega, this]
   simp
theorem loadCells_zero (a : Addr) : (loadCells a 0).run P w = .ok #[] w := by
 have := run_loadCells_list (P := P) w a [] (fun j v hj => by simp at hj)
 simpa using this
theorem bin_run (hC : C.ok P G) {E : Env} {op : BinOp} {x y d : D} {v u : Value} {p : Prop} (xt : Nat) (h1 : den E x v) (h2 : den E y u) (hb : bin C.A (isB C xt) op x y = some (p, d)) (hp : p) :
  ∃ r, (binOp op xt v u).run P w = .ok r w ∧ den E d r := by
 rw [hC.alg] at hb
 unfold bin at hb
 split at hb
 ·rename_i k m k' n
  simp only [den] at h1 h2
  subst h1 h2
  split at hb
  ·simp only [Option.some.injEq, Prod.mk.injEq] at hb
   obtain ⟨rfl, rfl⟩ := hb
   exact ⟨.int k (m.fdiv (2 ^ min n.toNat k.bits)), by simp [binOp, Op.shift, show ¬ n < 0 from Int.not_lt.2 hp, Pure.pure], by simp only [den]; rfl⟩
  ·simp only [Option.some.injEq, Prod.mk.injEq] at hb
   obtain ⟨rfl, rfl⟩ := hb
   exact ⟨.int k (k.wrap (m * 2 ^ min n.toNat k.bits)), by simp [binOp, Op.shift, show ¬ n < 0 from Int.not_lt.2 hp, Pure.pure], by simp only [den]; rfl⟩
  rename_i hns1 hns2
  split at hb
  ·rename_i hk
   subst hk
   cases op <;> simp only [reduceCtorEq, Option.some.injEq, Prod.mk.injEq] at hb <;> (try (first | exact absurd rfl hns1 | exact absurd rfl hns2)) <;> obtain ⟨rfl, rfl⟩ := hb
   case quo => exact ⟨.int k (k.wrap (m.tdiv n)), by simp [binOp, Op.intDiv, show n ≠ 0 from hp, Pure.pure], by simp only [den]; rfl⟩
   case rem => exact ⟨.int k (m.tmod n), by simp [binOp, Op.intDiv, show n ≠ 0 from hp, Pure.pure], by simp only [den]; rfl⟩
   case add => exact ⟨.int k (k.wrap (m + n)), by simp [binOp, Op.intArith, Pure.pure], by simp only [den]; rfl⟩
   case sub => exact ⟨.int k (k.wrap (m - n)), by simp [binOp, Op.intArith, Pure.pure], by simp only [den]; rfl⟩
   case mul => exact ⟨.int k (k.wrap (m * n)), by simp [binOp, Op.intArith, Pure.pure], by simp only [den]; rfl⟩
   case and => exact ⟨.int k (k.wrap (BitVec.ofInt k.bits m &&& BitVec.ofInt k.bits n).toNat), by simp [binOp, Op.intBits, Pure.pure], by simp only [den]; rfl⟩
   case or => exact ⟨.int k (bitsV .or k m n), by simp [binOp, Op.intBits, Pure.pure, bitsV], by simp only [den]; rfl⟩
   case xor => exact ⟨.int k (bitsV .xor k m n), by simp [binOp, Op.intBits, Pure.pure, bitsV], by simp only [den]; rfl⟩
   case andNot => exact ⟨.int k (bitsV .andNot k m n), by simp [binOp, Op.intBits, Pure.pure, bitsV], by simp only [den]; rfl⟩
   case eql => exact ⟨.bool (m == n), by simp [binOp, Op.intCmp, Pure.pure], by simp only [den]; rfl⟩
   case neq => exact ⟨.bool (m != n), by simp [binOp, Op.intCmp, Pure.pure], by simp only [den]; rfl⟩
   case lss => exact ⟨.bool (m < n), by simp [binOp, Op.intCmp, Pure.pure], by simp only [den]; rfl⟩
   case leq => exact ⟨.bool (m ≤ n), by simp [binOp, Op.intCmp, Pure.pure], by simp only [den]; rfl⟩
   case gtr => exact ⟨.bool (n < m), by simp [binOp, Op.intCmp, Pure.pure], by simp only [den]; rfl⟩
   case geq => exact ⟨.bool (n ≤ m), by simp [binOp, Op.intCmp, Pure.pure], by simp only [den]; rfl⟩
  ·cases hb
 ·rename_i k a k' b
  simp only [den] at h1 h2
  subst h1 h2
  split at hb
  ·rename_i hk
   subst hk
   cases op <;> simp only [reduceCtorEq, Option.some.injEq, Prod.mk.injEq] at hb <;> obtain ⟨rfl, rfl⟩ := hb
   case eql => exact ⟨.bool (k.format.order a b == some .eq), by simp [binOp, Op.floatCmp, Pure.pure], by simp only [den]; rfl⟩
   case neq => exact ⟨.bool (k.format.order a b != some .eq), by simp [binOp, Op.floatCmp, Pure.pure], by simp only [den]; rfl⟩
   case lss => exact ⟨.bool (k.format.order a b == some .lt), by simp [binOp, Op.floatCmp, Pure.pure], by simp only [den]; rfl⟩
   case leq => exact ⟨.bool (k.format.order a b == some .lt || k.format.order a b == some .eq), by simp [binOp, Op.floatCmp, Pure.pure], by simp only [den]; rfl⟩
   case gtr => exact ⟨.bool (k.format.order a b == some .gt), by simp [binOp, Op.floatCmp, Pure.pure], by simp only [den]; rfl⟩
   case geq => exact ⟨.bool (k.format.order a b == some .gt || k.format.order a b == some .eq), by simp [binOp, Op.floatCmp, Pure.pure], by simp only [den]; rfl⟩
   all_goals
    obtain ⟨r, hr⟩ := Option.isSome_iff_exists.1 (show (floatBits _ k a b).isSome = true from hp)
    exact ⟨.float k r, run_float_arith w _ xt k a b r hr, by simp only [den]; show _ = Value.float k ((floatBits _ k a b).getD 0); rw [hr]; rfl⟩
  ·cases hb
 ·rename_i k a b k' c d'
  simp only [den] at h1 h2
  subst h1 h2
  split at hb
  ·rename_i hk
   subst hk
   cases op <;> simp only [reduceCtorEq, Option.some.injEq, Prod.mk.injEq] at hb <;> obtain ⟨rfl, rfl⟩ := hb
   case eql => exact ⟨.bool (fcmpV .eql k a c && fcmpV .eql k b d'), by simp [binOp, Op.complexOp, Op.Complex.cmp, Op.floatCmp, asBool, fcmpV, Pure.pure], by simp only [den]; rfl⟩
   case neq => exact ⟨.bool (!(fcmpV .eql k a c && fcmpV .eql k b d')), by simp [binOp, Op.complexOp, Op.Complex.cmp, Op.floatCmp, asBool, fcmpV, Pure.pure], by simp only [den]; rfl⟩
  ·cases hb
 ·rename_i a b
  simp only [den] at h1 h2
  subst h1 h2
  cases op <;> simp only [reduceCtorEq, Option.some.injEq, Prod.mk.injEq] at hb <;> obtain ⟨rfl, rfl⟩ := hb
  case add => exact ⟨.string (a ++ b), by
   have hp' : ¬ ((a.size + b.size : Nat) : Int) > IntKind.i64.max := Int.not_lt.2 hp
   simp only [binOp, Op.stringOp, if_neg hp']; rfl, by simp only [den]; rfl⟩
  case eql => exact ⟨.bool (a.toList == b.toList), by simp only [binOp, Op.stringOp]; rfl, by simp only [den]; rfl⟩
  case neq => exact ⟨.bool (!(a.toList == b.toList)), by simp only [binOp, Op.stringOp]; rfl, by simp only [den]; rfl⟩
 ·split at hb
  ·rename_i a b ea eb
   have h1 := asB_den ea h1
   have h2 := asB_den eb h2
   subst h1 h2
   split at hb
   ·cases hb
   rename_i hbt
   have hun : P.underlying xt = some .bool := by
    unfold isB at hbt
    split at hbt
    ·rename_i i hi
     split at hbt
     ·rename_i hk; exact (hC.ti _ _ hi).boolk hk
     ·simp at hbt
    ·simp at hbt
   cases op <;> simp only [reduceCtorEq, Option.some.injEq, Prod.mk.injEq] at hb <;> obtain ⟨rfl, rfl⟩ := hb
   case eql => exact ⟨.bool (a == b), by simp only [binOp, Sem.run_bind, equal_bool hun a b, Result.andThen_ok]; rfl, by simp only [den]; rfl⟩
   case neq => exact ⟨.bool (!(a == b)), by simp only [binOp, Sem.run_bind, equal_bool hun a b, Result.andThen_ok]; rfl, by simp only [den]; rfl⟩
  ·cases hb
theorem step_run (hC : C.ok P G) (R : RelH G C.own w0 X0 h w ρ) {ev : Operand → D} {a : Act} {nm : Nat} {o : Oper}
  (hx : ∀ x ∈ o.op.operands.toList, den (envr X0 h w ρ) (ev x) (a.eval x)) {p : Prop} {d : D} {e : Eff} (hs : step C ev h nm o = some (p, d, e)) (hn : (∃ en, e.nw = some en) → h nm = none) (hp : p)
  (hnc : ∀ c f, o.op = .call c → c.callee = .value (.func f) → ∃ x, C.ext f = some x) (hnt : ∀ c t, o.op = .call c → c.callee ≠ .value (.tmp t)) : Made G C.own w0 X0 h ρ nm w ((execOp a.eval o).run P w) d e := by
 obtain ⟨dst, op, ty, pos, after, guard⟩ := o
 cases op <;> simp only [step] at hs <;> (try (cases hs; done)) <;> simp only [Op.operands] at hx
 case move x =>
  simp only [Option.some.injEq, Prod.mk.injEq] at hs; obtain ⟨_, rfl, rfl⟩ := hs
  exact Made.pure R (v := a.eval x) rfl (hx x (by simp))
 case assign x =>
  simp only [Option.some.injEq, Prod.mk.injEq] at hs; obtain ⟨_, rfl, rfl⟩ := hs
  exact Made.pure R (v := a.eval x) rfl (hx x (by simp))
 case pick c x y =>
  have hc := hx c (by simp)
  have h1 := hx x (by simp)
  have h2 := hx y (by simp)
  split at hs
  ·rename_i t ec
   simp only [Option.some.injEq, Prod.mk.injEq] at hs; obtain ⟨_, rfl, rfl⟩ := hs
   rw [ec] at hc
   simp only [den] at hc
   cases t with
   | true => exact Made.pure R (v := a.eval x) (by simp only [execOp, hc, asBool, Sem.run_bind, Pure.pure, Sem.run, Result.andThen_ok]; rfl) h1
   | false => exact Made.pure R (v := a.eval y) (by simp only [execOp, hc, asBool, Sem.run_bind, Pure.pure, Sem.run, Result.andThen_ok]; rfl) h2
  ·rename_i t ec
   rw [ec] at hc
   simp only [den] at hc
   split at hs
   ·rename_i x' y' ex ey
    simp only [Option.some.injEq, Prod.mk.injEq] at hs; obtain ⟨_, rfl, rfl⟩ := hs
    have h1 := asB_den ex h1
    have h2 := asB_den ey h2
    refine Made.pure R (v := .bool (if t then x' else y')) ?_ (by rw [hC.alg]; simp only [den]; rfl)
    simp only [execOp, hc, h1, h2, asBool, Sem.run_bind, Pure.pure, Sem.run, Result.andThen_ok]
    cases t <;> rfl
   ·cases hs
  ·cases hs
 case alloc t =>
  cases ht : C.ti t with
  | none => simp [ht] at hs
  | some i =>
   simp only [ht, Option.bind_some] at hs
   split at hs
   ·rename_i h1
    simp only [Option.some.injEq, Prod.mk.injEq] at hs; obtain ⟨_, rfl, rfl⟩ := hs
    have hi := hC.ti t i ht
    have hzl : i.zero.length = i.zv.cells.size := by simp [TI.zero]
    have hdz := den_consts (envr X0 h w ρ) i.zv.cells.toList
    obtain ⟨R', hle⟩ := R.new (hn ⟨_, rfl⟩) (w' := w.alloc (.cells i.zv.cells t)) (Below.alloc (Below.refl _ _) (Nat.le_refl _) _) (Nat.le_refl _) (e := ⟨t, i.zero, false, .var⟩) rfl (vs := i.zv.cells) (alloc_at _ _) (fun _ => noU_one h1 hdz) (fun hk => by cases hk) (by rw [hzl]; exact Nat.le_refl _) (by rw [List.take_of_length_le (by rw [hzl]; simp)]; exact hdz)
    refine ⟨.value (.pointer (some ⟨w.heap.size, 0, none⟩)), _, _, _, ?_, .inl rfl, R', hle, ?_⟩
    ·simp [execOp, Instr.alloc, hi.zeroValue, newVar, newRow, newObj, Sem.run, Pure.pure]
    ·simp only [den]; exact ⟨_, rfl, upd_same _ _ _⟩
   ·cases hs
 case box t x =>
  split at hs
  ·rename_i h1
   simp only [Option.some.injEq, Prod.mk.injEq] at hs; obtain ⟨_, rfl, rfl⟩ := hs
   have hdx := den_cells (all_cell h1) (hx x (by simp))
   have hdl : (a.eval x).cells.size = (ev x).cells.length := by have := denL_len hdx; simpa using this
   obtain ⟨R', hle⟩ := R.new (hn ⟨_, rfl⟩) (w' := w.alloc (.cells (a.eval x).cells t)) (Below.alloc (Below.refl _ _) (Nat.le_refl _) _) (Nat.le_refl _) (e := ⟨t, (ev x).cells, false, .var⟩) rfl (vs := (a.eval x).cells) (alloc_at _ _) (fun _ => noU_one h1 hdx) (fun hk => by cases hk) (by rw [hdl]; exact Nat.le_refl _) (by rw [List.take_of_length_le (by rw [← hdl]; simp)]; exact hdx)
   refine ⟨.value (.pointer (some ⟨w.heap.size, 0, none⟩)), _, _, _, ?_, .inl rfl, R', hle, ?_⟩
   ·simp [execOp, Instr.box, newVar, newRow, newObj, Sem.run, Pure.pure]
   ·simp only [den]; exact ⟨_, rfl, upd_same _ _ _⟩
  ·cases hs
 case build t ps =>
  cases ht : C.ti t with
  | none => simp [ht] at hs
  | some i =>
   simp only [ht, Option.bind_some] at hs
   split at hs
   ·rename_i fs hk
    split at hs
    ·rename_i hc
     obtain ⟨hc1, hc2⟩ := hc
     cases hf : fillD (places C fs) i.zero (ps.toList.map fun p => (p.1, ev p.2)) with
     | none => simp [hf] at hs
     | some cs =>
      simp only [hf, Option.map_some, Option.some.injEq, Prod.mk.injEq] at hs; obtain ⟨_, rfl, rfl⟩ := hs
      have hi := hC.ti t i ht
      obtain ⟨fields, hu, hfs⟩ := hi.struct hk
      subst hfs
      have hplaces : ∀ j, ((fields.map fun f => (f.offset, ((C.ti f.type).map (·.size)).getD 0))[j]? : Option (Nat × Nat)) = places C (fields.toList.map fun f => (f.offset, f.type)) j := fun j => by
       simp only [Array.getElem?_map, places, List.getElem?_map, Array.getElem?_toList]
       cases hj : fields[j]? with
       | none => rfl
       | some f =>
        simp only [Option.map_some, Option.bind_some]
        have := List.all_eq_true.1 hc1 (f.offset, f.type) (List.mem_map.2 ⟨f, Array.mem_toList_iff.2 (Array.mem_of_getElem? hj), rfl⟩)
        cases hq : C.ti f.type with
        | none => simp [hq] at this
        | some q => rfl
      obtain ⟨us, hu1, hu2⟩ := fill_den (E := envr X0 h w ρ) (pl := places C (fields.toList.map fun f => (f.offset, f.type))) (qs := ps.toList.map fun p => (p.1, a.eval p.2)) (vs := i.zv.cells) (den_consts _ _) (by simp) (fun j p q hj hq => by
       simp only [List.getElem?_map, Option.map_eq_some_iff] at hj hq
       obtain ⟨r, hr, rfl⟩ := hj
       obtain ⟨r', hr', rfl⟩ := hq
       rw [hr] at hr'; cases hr'
       have hm : r ∈ ps.toList := List.mem_of_getElem? hr
       exact ⟨hx r.2 (by simpa using ⟨r.1, by simpa using hm⟩), all_cell (List.all_eq_true.1 hc2 r hm)⟩) hf
      refine Made.pure R (v := .agg us) ?_ (by simp only [den]; exact ⟨us, rfl, hu2⟩)
      have hrun := parts_run (w := w) hC hc1
      simp only [execOp, Instr.build, Sem.run_bind, hi.zeroValue, Result.andThen_ok, run_und hu, hrun]
      have : (fun x => (fields.map fun f => (f.offset, ((C.ti f.type).map (·.size)).getD 0))[x]?) = places C (fields.toList.map fun f => (f.offset, f.type)) := funext hplaces
      rw [this]
      have h2 : (Array.map (fun p => (p.1, a.eval p.2)) ps).toList = ps.toList.map fun p => (p.1, a.eval p.2) := by simp
      simp only [Array.toList_map, hu1]
      simp [Pure.pure, Result.andThen_ok]
    ·cases hs
   ·rename_i n0 e' hk
    cases hu : C.ti e' with
    | none => simp [hu] at hs
    | some j =>
     simp only [hu, Option.bind_some] at hs
     split at hs
     ·rename_i hc2
      cases hf : fillD (fun k => some (k * j.size, j.size)) i.zero (ps.toList.map fun p => (p.1, ev p.2)) with
      | none => simp [hf] at hs
      | some cs =>
       simp only [hf, Option.map_some, Option.some.injEq, Prod.mk.injEq] at hs; obtain ⟨_, rfl, rfl⟩ := hs
       have hi := hC.ti t i ht
       have hun := hi.array hk
       have hj := hC.ti _ _ hu
       obtain ⟨us, hu1, hu2⟩ := fill_den (E := envr X0 h w ρ) (pl := fun k => some (k * j.size, j.size)) (qs := ps.toList.map fun p => (p.1, a.eval p.2)) (vs := i.zv.cells) (den_consts _ _) (by simp) (fun j p q hj hq => by
        simp only [List.getElem?_map, Option.map_eq_some_iff] at hj hq
        obtain ⟨r, hr, rfl⟩ := hj
        obtain ⟨r', hr', rfl⟩ := hq
        rw [hr] at hr'; cases hr'
        have hm : r ∈ ps.toList := List.mem_of_getElem? hr
        exact ⟨hx r.2 (by simpa using ⟨r.1, by simpa using hm⟩), all_cell (List.all_eq_true.1 hc2 r hm)⟩) hf
       refine Made.pure R (v := .agg us) ?_ (by simp only [den]; exact ⟨us, rfl, hu2⟩)
       simp only [execOp, Instr.build, Sem.run_bind, hi.zeroValue, Result.andThen_ok, run_und hun, hj.sizeOf, Array.toList_map, hu1]
       simp [Pure.pure, Result.andThen_ok]
     ·cases hs
   ·cases hs
 case buildSlice t n ps =>
  cases ht : C.ti t with
  | none => simp [ht] at hs
  | some i =>
   simp only [ht, Option.bind_some] at hs
   split at hs
   ·rename_i e' hk
    cases hu : C.ti e' with
    | none => simp [hu] at hs
    | some j =>
     simp only [hu, Option.bind_some] at hs
     split at hs
     ·rename_i hc
      obtain ⟨hc1, hc2, hc3, hc4⟩ := hc
      cases hf : fillD (fun k => some (k * j.size, j.size)) (rep n j.zero) (ps.toList.map fun p => (p.1, ev p.2)) with
      | none => simp [hf] at hs
      | some cs =>
       simp only [hf, Option.map_some, Option.some.injEq, Prod.mk.injEq] at hs; obtain ⟨_, rfl, rfl⟩ := hs
       have hun := (hC.ti t i ht).slice hk
       have hj := hC.ti _ _ hu
       have hzs : j.zv.cells.size = j.size := by have : j.zero.length = j.zv.cells.size := by simp [TI.zero]
                                                 omega
       have hden0 : denL (envr X0 h w ρ) (rep n j.zero) (((Array.range (n * j.size)).map fun k => j.zv.cells[k % j.zv.cells.size]!).toList) := by
        rw [← hzs, made_list]
        exact rep_den (den_consts _ _) n
       obtain ⟨us, hu1, hu2⟩ := fill_den (E := envr X0 h w ρ) (pl := fun k => some (k * j.size, j.size)) (qs := ps.toList.map fun p => (p.1, a.eval p.2)) (vs := (Array.range (n * j.size)).map fun k => j.zv.cells[k % j.zv.cells.size]!) hden0 (by simp) (fun jj p q hj hq => by
        simp only [List.getElem?_map, Option.map_eq_some_iff] at hj hq
        obtain ⟨r, hr, rfl⟩ := hj
        obtain ⟨r', hr', rfl⟩ := hq
        rw [hr] at hr'; cases hr'
        have hm : r ∈ ps.toList := List.mem_of_getElem? hr
        exact ⟨hx r.2 (by simpa using ⟨r.1, by simpa using hm⟩), frz_all (List.all_eq_true.1 hc2 r hm)⟩) hf
       have hall := fillD_frz (rep_frz hc3 n) (by simpa [List.all_map] using hc2) hf
       obtain ⟨R', hle⟩ := R.bel (w' := w.alloc (.cells us e')) (Below.alloc (Below.refl _ _) (Nat.le_refl _) _)
       refine ⟨.value (.slice (some ⟨w.heap.size, 0, none⟩) n n), _, w.alloc (.cells us e'), ρ, ?_, .inl rfl, R', hle, ?_⟩
       ·have h2 : (Array.map (fun p => (p.1, a.eval p.2)) ps).toList = ps.toList.map fun p => (p.1, a.eval p.2) := by simp
        have h3 : ¬ n * j.size > 2 ^ 24 := by omega
        simp only [execOp, Instr.buildSlice, Sem.run_bind, run_und hun, Result.andThen_ok, hj.sizeOf, if_neg h3]
        by_cases h0 : n * j.size = 0
        ·rw [h0] at hu1
         simp only [h0, Pure.pure, Sem.run, Array.toList_map]
         simp only [show (Array.range 0) = #[] from rfl, List.map_toArray, List.map_nil] at hu1 ⊢
         rw [hu1]; rfl
        ·simp only [if_neg h0, Sem.run_bind, hj.zeroValue, Result.andThen_ok, Pure.pure, Sem.run, Array.toList_map]
         rw [hu1]; rfl
       ·simp only [effH, den]
        refine ⟨_, _, rfl, Nat.le_refl _, fun _ => ⟨w.heap.size, 0, rfl, ?_, ?_, ?_⟩⟩
        ·show w.heap.size < (w.heap.push _).size; simp
        ·intro hX
         exact absurd (R.x_lt (show (envr X0 h w ρ).X w.heap.size from hX)) (Nat.lt_irrefl _)
        ·refine denC_of (ρ := ρ) hall (denL_mono hle _ _ hu2) fun jj v hj => ?_
         have hcell : (w.alloc (.cells us e')).heap[w.heap.size]? = some (.cells us e' (0, 0)) := by
          show (w.heap.push _)[w.heap.size]? = _
          rw [Array.getElem?_push_size]
         show World.cell? (w.alloc (.cells us e')) ⟨w.heap.size, 0 + jj, none⟩ = some v
         simp only [Nat.zero_add, World.cell?, hcell]; simpa using hj
     ·cases hs
   ·cases hs
 case makeSlice t l c =>
  cases ht : C.ti t with
  | none => simp [ht] at hs
  | some i =>
   simp only [ht, Option.bind_some] at hs
   split at hs
   ·rename_i e' kl z kc z2 hk hl hc
    cases hu : C.ti e' with
    | none => simp [hu] at hs
    | some j =>
     simp only [hu, Option.bind_some] at hs
     split at hs
     ·rename_i hcnd
      obtain ⟨hz1, hz2⟩ := hcnd
      have hun := (hC.ti t i ht).slice hk
      obtain ⟨jj, hjj, hjs, hjz⟩ := (hC.ti e' j hu).info
      have hjb : jj.bytes = j.bytes := by have := (hC.ti e' j hu).bytes; rw [hjj] at this; simpa using this
      have h3 := hx l (by simp)
      rw [hl] at h3; simp only [den] at h3
      have h4 := hx c (by simp)
      rw [hc] at h4; simp only [den] at h4
      have hzl : j.zero.length = j.zv.cells.size := by simp [TI.zero]
      have hrunz : ∀ (n : Nat), (z.toNat = n) → z = z2 → 0 ≤ z → z < 9000000000000000000 → (n * j.bytes ≤ 140737488355328) → (Instr.makeSlice t (a.eval l) (a.eval c)).run P w = .ok (.slice (some ⟨w.heap.size, 0, none⟩) n n) (w.alloc (.cells (madeCells j.zv.cells (n * j.size)) e')) := by
       intro n hn hzz h0 h1 hb
       subst hzz
       rw [h3, h4]
       have := run_make (P := P) w t e' jj j.zv hun hjj hjz kl kc z z h0 (Int.le_refl _) (by
        rw [hjb]
        have h9 : (z.toNat : Int) = z := Int.toNat_of_nonneg h0
        rw [← h9, hn, ← Int.natCast_mul, Nat.mul_comm]; omega) (by omega)
       rw [this, hn, hjs]
      have hmade : ∀ n : Nat, (madeCells j.zv.cells (n * j.size)).toList = (List.replicate n j.zv.cells.toList).flatten := fun n => by
       unfold madeCells
       rw [show j.size = j.zv.cells.size by omega]
       exact made_list j.zv.cells n
      have hdz : ∀ (E : Env) (n : Nat), denL E (std.zeros n j.zero) (madeCells j.zv.cells (n * j.size)).toList := fun E n => by
       rw [hmade]; exact zeros_den (den_consts E j.zv.cells.toList) n
      have hdf : ∀ n, (std.zeros n j.zero).all D.frz = true := fun n => zeros_all hz1 n
      split at hs
      ·rename_i harr
       split at hs
       ·rename_i hown
        simp only [Option.some.injEq, Prod.mk.injEq] at hs; obtain ⟨rfl, rfl, rfl⟩ := hs
        rw [hC.alg] at hp ⊢
        obtain ⟨⟨hzz, h0, h1⟩, hb, _⟩ : (z = z2 ∧ 0 ≤ z ∧ z < ((9000000000000000000 : Nat) : Int)) ∧ z.toNat * j.bytes ≤ 140737488355328 ∧ z.toNat ≤ 9223372036854775807 := hp
        have hr := hrunz z.toNat rfl hzz h0 (by omega) hb
        have hlenz : (std.zeros z.toNat j.zero).length = (madeCells j.zv.cells (z.toNat * j.size)).size := by have := denL_len (hdz (envr X0 h w ρ) z.toNat); simpa using this.symm
        obtain ⟨R', hle⟩ := R.new (hn ⟨_, rfl⟩) (w' := w.alloc (.cells (madeCells j.zv.cells (z.toNat * j.size)) e')) (Below.alloc (Below.refl _ _) (Nat.le_refl _) _) (Nat.le_refl _) (e := ⟨e', std.zeros z.toNat j.zero, false, .arr⟩) rfl (vs := madeCells j.zv.cells (z.toNat * j.size)) (alloc_at _ _)
         (fun hs0 => noU_one (zeros_all (by rw [hs0] at hown; simpa using hown) z.toNat) (hdz (envr X0 h w ρ) z.toNat)) (fun _ => hdf z.toNat) (by rw [hlenz]; exact Nat.le_refl _) (by
          show denL _ (std.zeros z.toNat j.zero) (List.take (std.zeros z.toNat j.zero).length _)
          rw [List.take_of_length_le (by rw [hlenz]; simp)]; exact hdz _ _)
        refine ⟨.value (.slice (some ⟨w.heap.size, 0, none⟩) z.toNat z.toNat), _, _, _, ?_, .inl rfl, R', hle, ?_⟩
        ·simp only [execOp, Sem.run_bind, hr, Result.andThen_ok]; rfl
        ·simp only [den]
         refine ⟨w.heap.size, 0, z.toNat, rfl, Nat.le_refl _, fun _ => rfl, upd_same _ _ _, _, _, alloc_at _ _, fun _ => ?_⟩
         rw [size_madeCells]
         show 0 + z.toNat * j.size ≤ _
         omega
       ·cases hs
      ·rename_i harr
       simp only [Option.some.injEq, Prod.mk.injEq] at hs; obtain ⟨rfl, rfl, rfl⟩ := hs
       rw [hC.alg] at hp ⊢
       obtain ⟨⟨hzz, h0, h1⟩, hb, _⟩ : (z = z2 ∧ 0 ≤ z ∧ z < ((9000000000000000000 : Nat) : Int)) ∧ z.toNat * j.bytes ≤ 140737488355328 ∧ z.toNat ≤ 9223372036854775807 := hp
       have hr := hrunz z.toNat rfl hzz h0 (by omega) hb
       obtain ⟨R', hle⟩ := R.bel (w' := w.alloc (.cells (madeCells j.zv.cells (z.toNat * j.size)) e')) (Below.alloc (Below.refl _ _) (Nat.le_refl _) _)
       refine ⟨.value (.slice (some ⟨w.heap.size, 0, none⟩) z.toNat z.toNat), _, _, ρ, ?_, .inl rfl, R', hle, ?_⟩
       ·simp only [execOp, Sem.run_bind, hr, Result.andThen_ok]; rfl
       ·show den (envr X0 h _ ρ) (.slx _ _) _
        simp only [den]
        refine ⟨_, rfl, fun _ => ⟨w.heap.size, 0, rfl, ?_, ?_, ?_⟩⟩
        ·show w.heap.size < (w.heap.push _).size; simp
        ·intro hX
         exact absurd (R.x_lt (show (envr X0 h w ρ).X w.heap.size from hX)) (Nat.lt_irrefl _)
        ·refine denC_of (ρ := ρ) (hdf z.toNat) (hdz _ _) fun jj v hj => ?_
         show World.cell? (w.alloc _) ⟨w.heap.size, 0 + jj, none⟩ = some v
         have hj' : (madeCells j.zv.cells (z.toNat * j.size)).toList[jj]? = some v := hj
         simp only [Nat.zero_add, World.cell?, alloc_at]; simpa using hj'
     ·cases hs
   ·cases hs
 case load t x =>
  cases ht : C.ti t with
  | none => simp [ht] at hs
  | some i =>
   simp only [ht, Option.bind_some] at hs
   split at hs
   ·rename_i g off hxe
    cases hg : C.gt g with
    | none => simp [hg] at hs
    | some cs =>
     simp only [hg, Option.bind_some] at hs
     split at hs
     ·rename_i k l hints
      split at hs
      ·rename_i hsz
       simp only [Option.some.injEq, Prod.mk.injEq] at hs; obtain ⟨rfl, rfl, rfl⟩ := hs
       rw [hC.alg] at hp ⊢
       have hlt : off < l.length := hp
       have h1 := hx x (by simp)
       rw [hxe] at h1; simp only [den] at h1
       obtain ⟨vs, h2, h3⟩ := hC.gt w (hC.mono w0 w R.below R.g) g _ hg
       obtain ⟨v, hv1, hv2⟩ := denL_get (h2 (envr X0 h w ρ)) (ints_get hints off hlt)
       have hcell := h3 off v hv1
       simp only [den] at hv2
       refine Made.pure R (v := .int k (l.getD off 0)) ?_ (by simp only [den]; rfl)
       simp [execOp, h1, Instr.loadAt, Instr.sureAddr, loadVar, (hC.ti t i ht).isAgg, hsz.2, load, Sem.run, hcell, hv2, Pure.pure]
      ·split at hs
       ·rename_i hpos
        rw [hC.alg] at hs
        cases hm : mk i (ntab std k l off i.size) with
        | none => simp [hm] at hs
        | some d' =>
         simp only [hm, Option.map_some, Option.some.injEq, Prod.mk.injEq] at hs; obtain ⟨rfl, rfl, rfl⟩ := hs
         have hlt : off + (i.size - 1) < l.length := hp
         have hle : off + i.size ≤ cs.length := by rw [ints_len hints]; omega
         have h1 := hx x (by simp)
         rw [hxe] at h1; simp only [den] at h1
         obtain ⟨vs, h2, h3⟩ := hC.gt w (hC.mono w0 w R.below R.g) g _ hg
         rw [ntab_std hints i.size (by omega)] at hm
         obtain ⟨v, hr, hdv⟩ := load_run hC.ti (E := envr X0 h w ρ) ht (b := g) (o := off) (cs := (cs.drop off).take i.size) (vs := (vs.drop off).take i.size) (by simp; omega) (denL_take (denL_drop (h2 (envr X0 h w ρ)) _) _) (fun j u hj => h3 (off + j) u (take_drop_get hj)) hm
         refine Made.pure R (v := v) ?_ hdv
         have hr' : (Instr.loadAt t (.pointer (some ⟨g, off, none⟩))).run P w = .ok v w := hr
         simp [execOp, h1, hr', Pure.pure, Sem.run]
       ·cases hs
     ·split at hs
      ·rename_i hble
       have hle := Nat.le_of_ble_eq_true hble
       cases hm : mk i ((cs.drop off).take i.size) with
       | none => simp [hm] at hs
       | some d' =>
        simp only [hm, Option.map_some, Option.some.injEq, Prod.mk.injEq] at hs; obtain ⟨_, rfl, rfl⟩ := hs
        have h1 := hx x (by simp)
        rw [hxe] at h1; simp only [den] at h1
        obtain ⟨vs, h2, h3⟩ := hC.gt w (hC.mono w0 w R.below R.g) g _ hg
        obtain ⟨v, hr, hdv⟩ := load_run hC.ti (E := envr X0 h w ρ) ht (b := g) (o := off) (cs := (cs.drop off).take i.size) (vs := (vs.drop off).take i.size) (by simp; omega) (denL_take (denL_drop (h2 (envr X0 h w ρ)) _) _) (fun j u hj => by
         exact h3 (off + j) u (take_drop_get hj)) hm
        refine Made.pure R (v := v) ?_ hdv
        have hr' : (Instr.loadAt t (.pointer (some ⟨g, off, none⟩))).run P w = .ok v w := hr
        simp [execOp, h1, hr', Pure.pure, Sem.run]
      ·cases hs
   ·rename_i cs off hxe
    have h1 := hx x (by simp)
    rw [hxe] at h1; simp only [den] at h1
    obtain ⟨b, o', hv, _, _, h3⟩ := h1
    obtain ⟨vs, h4, h5⟩ := denC_get h3
    split at hs
    ·rename_i kk z0 hzv
     split at hs
     ·rename_i hsz
      simp only [Option.some.injEq, Prod.mk.injEq] at hs; obtain ⟨rfl, rfl, rfl⟩ := hs
      rw [hC.alg] at hp ⊢
      obtain ⟨z, hz⟩ : ∃ z, cs[off]? = some (.int kk z) := hp
      obtain ⟨v, hv1, hv2⟩ := denL_get h4 hz
      have hcell : w.cell? ⟨b, o' + off, none⟩ = some v := h5 off v hv1
      simp only [den] at hv2
      have hstd : std.cellV cs off = z := by show (match cs[off]? with | some (.int _ z) => z | _ => 0) = z; rw [hz]
      refine Made.pure R (v := .int kk z) ?_ (by simp only [den]; rw [hstd])
      simp [execOp, hv, Instr.loadAt, Instr.sureAddr, loadVar, (hC.ti t i ht).isAgg, hsz.2, load, Sem.run, hcell, hv2, Pure.pure]
     ·cases hs
    ·split at hs
     ·rename_i hle
      cases hm : mk i ((cs.drop off).take i.size) with
      | none => simp [hm] at hs
      | some d' =>
       simp only [hm, Option.map_some, Option.some.injEq, Prod.mk.injEq] at hs; obtain ⟨_, rfl, rfl⟩ := hs
       obtain ⟨v, hr, hdv⟩ := load_run hC.ti (E := envr X0 h w ρ) ht (b := b) (o := o' + off) (cs := (cs.drop off).take i.size) (vs := (vs.drop off).take i.size) (by simp; omega) (denL_take (denL_drop (denL_mono Le.rho_none _ _ h4) _) _) (fun j u hj => by
        have := h5 (off + j) u (take_drop_get hj); rwa [← Nat.add_assoc] at this) hm
       refine Made.pure R (v := v) ?_ hdv
       have hr' : (Instr.loadAt t (.pointer (some ⟨b, o' + off, none⟩))).run P w = .ok v w := hr
       simp [execOp, hv, hr', Pure.pure, Sem.run]
     ·cases hs
   ·rename_i k off hxe
    have h1 := hx x (by simp)
    rw [hxe] at h1; simp only [den] at h1
    obtain ⟨b, hv, hb⟩ := h1
    cases he : h k with
    | none => simp [he] at hs
    | some e' =>
     simp only [he, Option.bind_some] at hs
     split at hs
     ·rename_i hek
      obtain ⟨b', vs, a1, _, a3, _, _, _, a7⟩ := R.blk k e' he (by rw [hek]; rfl)
      have hbb : b' = b := by have hb2 : ρ k = some b := hb; rw [hb2] at a1; cases a1; rfl
      subst hbb
      split at hs
      ·rename_i kk z0 hzv
       split at hs
       ·rename_i hsz
        simp only [Option.some.injEq, Prod.mk.injEq] at hs; obtain ⟨rfl, rfl, rfl⟩ := hs
        rw [hC.alg] at hp ⊢
        obtain ⟨z, hz⟩ : ∃ z, e'.cs[off]? = some (.int kk z) := hp
        obtain ⟨v, hv1, hv2⟩ := denL_get a7 hz
        have hv1' : vs[off]? = some v := by
         rw [List.getElem?_take] at hv1
         split at hv1
         ·simpa using hv1
         ·cases hv1
        have hcell : w.cell? ⟨b', off, none⟩ = some v := by simp only [World.cell?, a3]; simpa using hv1'
        simp only [den] at hv2
        have hstd : std.cellV e'.cs off = z := by show (match e'.cs[off]? with | some (.int _ z) => z | _ => 0) = z; rw [hz]
        refine Made.pure R (v := .int kk z) ?_ (by simp only [den]; rw [hstd])
        simp [execOp, hv, Instr.loadAt, Instr.sureAddr, loadVar, (hC.ti t i ht).isAgg, hsz.2, load, Sem.run, hcell, hv2, Pure.pure]
       ·cases hs
      ·cases hs
     ·rename_i hek
      obtain ⟨b', vs, a1, _, a3, _, _, _, a7⟩ := R.blk k e' he (by rw [hek]; rfl)
      have hbb : b' = b := by have hb2 : ρ k = some b := hb; rw [hb2] at a1; cases a1; rfl
      subst hbb
      split at hs
      ·rename_i hle
       cases hm : mk i ((e'.cs.drop off).take i.size) with
       | none => simp [hm] at hs
       | some d' =>
        simp only [hm, Option.map_some, Option.some.injEq, Prod.mk.injEq] at hs; obtain ⟨_, rfl, rfl⟩ := hs
        obtain ⟨v, hr, hdv⟩ := load_run hC.ti (E := envr X0 h w ρ) ht (b := b') (o := off) (cs := (e'.cs.drop off).take i.size) (vs := ((vs.toList.take e'.cs.length).drop off).take i.size) (by simp; omega) (denL_take (denL_drop a7 _) _) (fun j u hj => by
         have h5 := take_drop_get hj
         rw [List.getElem?_take] at h5
         split at h5
         ·show w.cell? ⟨b', off + j, none⟩ = some u
          simp only [World.cell?, a3]; simpa using h5
         ·cases h5) hm
        refine Made.pure R (v := v) ?_ hdv
        have hr' : (Instr.loadAt t (.pointer (some ⟨b', off, none⟩))).run P w = .ok v w := hr
        simp [execOp, hv, hr', Pure.pure, Sem.run]
      ·cases hs
     ·cases hs
   rename_i hns _ _
   cases hc : cellsAt C h (ev x) with
   | none => simp [hc] at hs
   | some c =>
    obtain ⟨cs, off⟩ := c
    simp only [hc, Option.bind_some] at hs
    split at hs
    ·rename_i hle
     cases hm : mk i ((cs.drop off).take i.size) with
     | none => simp [hm] at hs
     | some d' =>
      simp only [hm, Option.map_some, Option.some.injEq, Prod.mk.injEq] at hs; obtain ⟨_, rfl, rfl⟩ := hs
      obtain ⟨b, o', vs, hv, hd, hg⟩ := cells_at hC R (hx x (by simp)) hc
      obtain ⟨v, hr, hdv⟩ := load_run hC.ti (E := envr X0 h w ρ) ht (b := b) (o := o' + off) (cs := (cs.drop off).take i.size) (vs := (vs.drop off).take i.size) (by simp; omega) (denL_take (denL_drop hd _) _) (fun j u hj => by
       have := hg (off + j) u (take_drop_get hj); rwa [← Nat.add_assoc] at this) hm
      refine Made.pure R (v := v) ?_ hdv
      have hr' : (Instr.loadAt t (.pointer (some ⟨b, o' + off, none⟩))).run P w = .ok v w := hr
      simp [execOp, hv, hr', Pure.pure, Sem.run]
    ·cases hs
 case store t x y =>
  cases ht : C.ti t with
  | none => simp [ht] at hs
  | some i =>
   simp only [ht, Option.bind_some] at hs
   split at hs
   ·rename_i k off hk
    cases he : h k with
    | none => simp [he] at hs
    | some e' =>
     simp only [he, Option.bind_some] at hs
     have hxx := hx x (by simp)
     rw [hk] at hxx
     simp only [den] at hxx
     obtain ⟨b, hxv, hb⟩ := hxx
     have go : e'.k.live = true → ∀ (ds : List D), (ev y).cells = ds → ds.length = i.size → ds.all D.cell = true → e'.fz = false → (C.own = false → ds.all D.one = true) → (e'.k = .arr → ds.all D.frz = true) → off + i.size ≤ e'.cs.length →
       ∀ e2 : Ent, e2 = ⟨e'.t, patch e'.cs off ds, e'.fz, e'.k⟩ → ∀ eff : Eff, effH h nm eff = upd h k (some e2) → Made G C.own w0 X0 h ρ nm w ((execOp a.eval ⟨dst, .store t x y, ty, pos, after, guard⟩).run P w) (.tup []) eff := by
      intro hlv ds hds hl hcell hfz hone hfrz hroom e2 he2 eff heff
      subst hds
      obtain ⟨b', vs, h1, h2, h3, h4, h5, h6, h7⟩ := R.blk k e' he hlv
      have hbb : b' = b := by have hb2 : ρ k = some b := hb; rw [hb2] at h1; cases h1; rfl
      subst hbb
      have hyv := den_cells hcell (hx y (by simp))
      have hyl := denL_len hyv
      have hvs : off + i.size ≤ vs.size := by omega
      have hst := store_run (w := w) hC ht (b := b') (off := off) h3 (v := a.eval y) (by simp at hyl; omega) hvs (fun u hu => denL_cell hcell hyv u hu)
      have hlen : (patch e'.cs off (ev y).cells).length = e'.cs.length := by
       unfold patch; simp only [List.length_append, List.length_take, List.length_drop]; omega
      have htk : (vs.toList.take off ++ (a.eval y).cells.toList ++ vs.toList.drop (off + (a.eval y).cells.toList.length)).take e'.cs.length = (vs.toList.take e'.cs.length).take off ++ (a.eval y).cells.toList ++ (vs.toList.take e'.cs.length).drop (off + (ev y).cells.length) := by
       rw [patch_take (by rw [hyl]; omega) (by simpa using h6), hyl]
      have hv : denL (envr X0 h w ρ) e2.cs ((vs.toList.take off ++ (a.eval y).cells.toList ++ vs.toList.drop (off + (a.eval y).cells.toList.length)).toArray.toList.take e2.cs.length) := by
       subst he2
       show denL _ (patch e'.cs off (ev y).cells) (List.take (patch e'.cs off (ev y).cells).length _)
       rw [hlen, List.toList_toArray, htk]
       exact denL_append (denL_append (denL_take h7 off) hyv) (denL_drop h7 _)
      obtain ⟨R', hle⟩ := R.store he hfz hlv (e' := e2) (by subst he2; rfl) h1 h3 (vs := (vs.toList.take off ++ (a.eval y).cells.toList ++ vs.toList.drop (off + (a.eval y).cells.toList.length)).toArray) (by
        simp only [List.size_toArray, List.length_append, List.length_take, List.length_drop, Array.length_toList] at *; omega)
       (fun hs0 u hu n => by
         simp only [List.mem_append] at hu
         rcases hu with (hu | hu) | hu
         ·exact h4 hs0 u (List.mem_of_mem_take hu) n
         ·exact (denL_one (hone hs0) hyv u hu).2 n
         ·exact h4 hs0 u (List.mem_of_mem_drop hu) n)
       (fun hk2 => by
         subst he2
         show (patch e'.cs off (ev y).cells).all D.frz = true
         unfold patch
         simp only [List.all_append, Bool.and_eq_true]
         exact ⟨⟨List.all_eq_true.2 fun d hd => List.all_eq_true.1 (h5 hk2) d (List.mem_of_mem_take hd), hfrz hk2⟩, List.all_eq_true.2 fun d hd => List.all_eq_true.1 (h5 hk2) d (List.mem_of_mem_drop hd)⟩)
       (by subst he2
           show (patch e'.cs off (ev y).cells).length ≤ _
           rw [hlen]; simp only [List.size_toArray, List.length_append, List.length_take, List.length_drop, Array.length_toList] at *; omega) hv
      refine ⟨.skip, undef, w.setRow b' (vs.toList.take off ++ (a.eval y).cells.toList ++ vs.toList.drop (off + (a.eval y).cells.toList.length)).toArray, ρ, ?_, .inr ⟨rfl, rfl⟩, ?_, ?_, ?_⟩
      ·simp only [execOp, hxv, Sem.run_bind, hst, Result.andThen_ok]; rfl
      ·rw [heff]; exact R'
      ·rw [heff]; exact hle
      ·simp only [den]; exact ⟨#[], rfl, by simp [denL]⟩
     split at hs
     ·rename_i hek
      split at hs
      ·rename_i hc
       obtain ⟨c1, c2, c3, c4⟩ := hc
       simp only [Option.some.injEq, Prod.mk.injEq] at hs; obtain ⟨_, rfl, rfl⟩ := hs
       exact go (by rw [hek]; rfl) _ rfl c1 (all_cell c4) c3 (fun _ => c4) (fun h0 => by rw [hek] at h0; cases h0) c2 _ rfl _ (by simp only [effH, Eff.store, wrH, nwH, he, Option.map_some])
      ·cases hs
     ·rename_i hek
      split at hs
      ·rename_i hc
       obtain ⟨c1, c2, c3, c4⟩ := hc
       simp only [Option.some.injEq, Prod.mk.injEq] at hs; obtain ⟨rfl, rfl, rfl⟩ := hs
       have hp' : off + i.size ≤ e'.cs.length := by rw [hC.alg] at hp; exact hp
       refine go (by rw [hek]; rfl) _ rfl c1 (frz_all c3) c2 (fun h0 => by rw [h0] at c4; simpa using c4) (fun _ => c3) hp' _ rfl _ ?_
       rw [hC.alg]
       simp only [effH, Eff.put, wrH, nwH, he, Option.map_some]; rfl
      ·cases hs
     ·cases hs
   ·cases hs
 case binOp op xt x y yt =>
  cases hb : bin C.A (isB C xt) op (ev x) (ev y) with
  | none => simp [hb] at hs
  | some r =>
   obtain ⟨p', d'⟩ := r
   simp only [hb, Option.map_some, Option.some.injEq, Prod.mk.injEq] at hs; obtain ⟨rfl, rfl, rfl⟩ := hs
   have h1 := hx x (by simp)
   have h2 := hx y (by simp)
   obtain ⟨v, hr, hv⟩ := bin_run (P := P) (E := envr X0 h w ρ) (w := w) hC xt h1 h2 hb hp
   refine Made.pure R (v := v) ?_ hv
   have hg : (eqGuard op xt x y (a.eval x) (a.eval y)).run P w = .ok () w := by
    unfold bin at hb
    split at hb
    ·rename_i e1 e2; rw [e1] at h1; rw [e2] at h2; simp only [den] at h1 h2; rw [h1, h2]; cases op <;> simp [eqGuard, Pure.pure]
    ·rename_i e1 e2; rw [e1] at h1; rw [e2] at h2; simp only [den] at h1 h2; rw [h1, h2]; cases op <;> simp [eqGuard, Pure.pure]
    ·rename_i e1 e2; rw [e1] at h1; rw [e2] at h2; simp only [den] at h1 h2; rw [h1, h2]; cases op <;> simp [eqGuard, Pure.pure]
    ·rename_i e1 e2; rw [e1] at h1; rw [e2] at h2; simp only [den] at h1 h2; rw [h1, h2]; cases op <;> simp [eqGuard, Pure.pure]
    ·split at hb
     ·rename_i e1 e2; rw [asB_den e1 h1, asB_den e2 h2]; cases op <;> simp [eqGuard, Pure.pure]
     ·cases hb
   simp only [execOp, Sem.run_bind, hg, hr, Result.andThen_ok]; rfl
 case convert s t x =>
  cases hts : C.ti s with
  | none => simp [hts] at hs
  | some i =>
   cases ht : C.ti t with
   | none => simp [hts, ht] at hs
   | some j =>
    simp only [hts, ht, Option.bind_some] at hs
    split at hs
    ·rename_i k m n hk hxe
     simp only [Option.some.injEq, Prod.mk.injEq] at hs; obtain ⟨_, rfl, rfl⟩ := hs
     have h1 := hx x (by simp)
     rw [hxe] at h1; simp only [den] at h1
     obtain ⟨du, hdu⟩ := (hC.ti s i hts).und
     have hun := (hC.ti t j ht).intk hk
     refine Made.pure R (v := .int k (k.wrap n)) ?_ (by rw [hC.alg]; simp only [den]; rfl)
     simp [execOp, convert, h1, run_und hdu, run_und hun, Conv.intToInt, Pure.pure, Sem.run]
    ·rename_i k m n hk hxe
     simp only [Option.some.injEq, Prod.mk.injEq] at hs; obtain ⟨_, rfl, rfl⟩ := hs
     have h1 := hx x (by simp)
     rw [hxe] at h1; simp only [den] at h1
     obtain ⟨du, hdu⟩ := (hC.ti s i hts).und
     have hun := (hC.ti t j ht).fltk hk
     have hr := run_convert_int_float (P := P) w s t m k n (by rw [hdu]; rfl) hun
     refine Made.pure R (v := .float k (k.nearest n)) ?_ (by rw [hC.alg]; simp only [den]; rfl)
     simp only [execOp, h1, Sem.run_bind, hr, Result.andThen_ok]; rfl
    ·rename_i k sk b hk hxe
     simp only [Option.some.injEq, Prod.mk.injEq] at hs; obtain ⟨rfl, rfl, rfl⟩ := hs
     rw [hC.alg] at hp ⊢
     have h1 := hx x (by simp)
     rw [hxe] at h1; simp only [den] at h1
     obtain ⟨du, hdu⟩ := (hC.ti s i hts).und
     have hun := (hC.ti t j ht).intk hk
     obtain ⟨r, hr⟩ := Option.isSome_iff_exists.1 (show (floatToIntVal sk b k).isSome = true from hp)
     have hrun := run_convert_float_int (P := P) w s t sk k b r (by rw [hdu]; rfl) hun hr
     refine Made.pure R (v := .int k r) ?_ (by simp only [den]; show _ = Value.int k ((floatToIntVal sk b k).getD 0); rw [hr]; rfl)
     simp only [execOp, h1, Sem.run_bind, hrun, Result.andThen_ok]; rfl
    ·rename_i n cs hk hxe
     split at hs
     ·rename_i e' hq
      cases hu : C.ti e' with
      | none => simp [hu] at hs
      | some q =>
       simp only [hu, Option.bind_some] at hs
       split at hs
       ·rename_i hqk
        simp only [Option.some.injEq, Prod.mk.injEq] at hs; obtain ⟨rfl, rfl, rfl⟩ := hs
        rw [hC.alg] at hp ⊢
        obtain ⟨hlen, hall⟩ : cs.length = n ∧ cs.all D.isU8 = true := hp
        have h1 := hx x (by simp)
        rw [hxe] at h1; simp only [den] at h1
        obtain ⟨A, c, hv, hnc, hdat⟩ := h1
        have hsl := (hC.ti s i hts).slice hq
        have hst := (hC.ti t j ht).strk hk
        have hel := (hC.ti e' q hu).intk hqk
        refine Made.pure R (v := .string (strOfNums (cs.map D.num))) ?_ (by simp only [den]; rfl)
        simp only [execOp, hv, Sem.run_bind]
        by_cases h0 : 0 < cs.length
        ·obtain ⟨b, o, rfl, hlt, hnX, hd⟩ := hdat h0
         rw [run_convert_bytes_arg w s e' hsl hel b o n c (cs.map D.num) (by rw [List.length_map]; exact hlen) (fun k hkn => u8_cell hd hall (by rw [hlen]; exact hkn)) t hst]
         rfl
        ·have hc0 : cs = [] := List.length_eq_zero_iff.1 (by omega)
         subst hc0
         have hn0 : n = 0 := by simpa using hlen.symm
         subst hn0
         cases A with
         | none => rw [run_convert_bytes_nil w s e' hsl hel 0 c t hst]; rfl
         | some ad =>
          have := run_convert_bytes_string (P := P) w s t e' (some ad) 0 c hsl hel hst
          rw [this, run_bytesToString w ad 0 c [] (by simp [loadCells_zero])]
          rfl
       ·cases hs
     ·cases hs
    ·rename_i p0 s0 n hk hxe
     split at hs
     ·rename_i e' hq
      cases hu : C.ti e' with
      | none => simp [hu] at hs
      | some q =>
       simp only [hu, Option.bind_some] at hs
       split at hs
       ·rename_i hqk
        cases hen : h p0 with
        | none => simp [hen] at hs
        | some en =>
         simp only [hen, Option.bind_some] at hs
         split at hs
         ·rename_i hek
          simp only [Option.some.injEq, Prod.mk.injEq] at hs; obtain ⟨rfl, rfl, rfl⟩ := hs
          rw [hC.alg] at hp ⊢
          obtain ⟨hlen, hall⟩ : (en.cs.take n).length = n ∧ (en.cs.take n).all D.isU8 = true := hp
          have h1 := hx x (by simp)
          rw [hxe] at h1; simp only [den] at h1
          obtain ⟨b, o', c, hv, hnc, ho, hb, _⟩ := h1
          obtain ⟨b', vs, g1, g2, g3, _, g5, g6, g7⟩ := R.blk p0 en hen (by rw [hek]; rfl)
          have hbb : b' = b := by have hb2 : ρ p0 = some b := hb; rw [hb2] at g1; cases g1; rfl
          subst hbb
          have hsl := (hC.ti s i hts).slice hq
          have hst := (hC.ti t j ht).strk hk
          have hel := (hC.ti e' q hu).intk hqk
          refine Made.pure R (v := .string (strOfNums ((en.cs.take n).map D.num))) ?_ (by simp only [den]; rfl)
          simp only [execOp, hv, Sem.run_bind]
          have hdt := denL_take g7 n
          by_cases h0 : 0 < n
          ·have hoo := ho (by omega)
           subst hoo
           rw [run_convert_bytes_arg w s e' hsl hel b' 0 n c ((en.cs.take n).map D.num) (by rw [List.length_map]; exact hlen) (fun k hkn => by
            have hk2 : k < (en.cs.take n).length := by omega
            obtain ⟨v, hv1, hv2⟩ := denL_get hdt (List.getElem?_eq_getElem hk2)
            have hu8 := List.all_eq_true.1 hall _ (List.getElem_mem hk2)
            have hgk : ((en.cs.take n).map D.num).getD k 0 = ((en.cs.take n)[k]).num := by rw [List.getD_eq_getElem?_getD, List.getElem?_map, List.getElem?_eq_getElem hk2]; rfl
            rw [hgk]
            have hvk : vs[k]? = some v := by
             have hk3 : k < en.cs.length := by rw [List.length_take] at hk2; omega
             rw [List.getElem?_take_of_lt hkn, List.getElem?_take_of_lt hk3] at hv1
             simpa using hv1
            have hd1 : v = .int .u8 ((en.cs.take n)[k]).num := by
             generalize (en.cs.take n)[k] = dd at hv2 hu8
             cases dd <;> (try (simp [D.isU8] at hu8; done))
             rename_i kk z
             cases kk <;> (try (simp [D.isU8] at hu8; done))
             simp only [den] at hv2
             exact hv2
            simp only [Nat.zero_add, World.cell?, g3]
            rw [← hd1]; simpa using hvk) t hst]
           rfl
          ·have hn0 : n = 0 := by omega
           subst hn0
           have := run_convert_bytes_string (P := P) w s t e' (some ⟨b', o', none⟩) 0 c hsl hel hst
           rw [this, run_bytesToString w ⟨b', o', none⟩ 0 c [] (by simp [loadCells_zero])]
           rfl
         ·cases hs
       ·cases hs
     ·cases hs
    ·cases hs
 case index t x ix =>
  cases ht : C.ti t with
  | none => simp [ht] at hs
  | some i =>
   simp only [ht, Option.bind_some] at hs
   split at hs
   ·rename_i sb kk k hk hxe hix
    simp only [Option.some.injEq, Prod.mk.injEq] at hs; obtain ⟨rfl, rfl, rfl⟩ := hs
    rw [hC.alg] at hp ⊢
    obtain ⟨h0, hlt⟩ : 0 ≤ k ∧ k < ((sb.size : Nat) : Int) := hp
    have h1 := hx x (by simp)
    rw [hxe] at h1; simp only [den] at h1
    have h2 := hx ix (by simp)
    rw [hix] at h2; simp only [den] at h2
    have hst := (hC.ti t i ht).strk hk
    have hl : k.toNat < sb.data.toList.length := by rw [Array.length_toList]; show k.toNat < sb.size; omega
    have hg : sb[k.toNat]? = some (sb.data.toList.getD k.toNat 0) := by
     rw [List.getD_eq_getElem?_getD, List.getElem?_eq_getElem hl]
     show (if h : k.toNat < sb.size then some sb[k.toNat] else none) = _
     rw [dif_pos (by omega)]
     rfl
    refine Made.pure R (v := .int .u8 ((sb.data.toList.getD k.toNat 0).toNat : Nat)) ?_ (by simp only [den]; rfl)
    simp only [execOp, Instr.index, h1, h2, asIntOf, Sem.run_bind, Pure.pure, Sem.run, Result.andThen_ok, run_und hst, if_pos h0, hg]
   ·rename_i n u cs kk m hk hxe hix
    cases hu : C.ti u with
    | none => simp [hu] at hs
    | some j =>
     simp only [hu, Option.bind_some] at hs
     split at hs
     ·rename_i hlt
      cases hm : mk j ((cs.drop (m * j.size)).take j.size) with
      | none => simp [hm] at hs
      | some d' =>
       simp only [hm, Option.map_some, Option.some.injEq, Prod.mk.injEq] at hs; obtain ⟨_, rfl, rfl⟩ := hs
       have h1 := hx x (by simp)
       rw [hxe] at h1; simp only [den] at h1
       obtain ⟨vs, hv, hd⟩ := h1
       have h2 := hx ix (by simp)
       rw [hix] at h2; simp only [den] at h2
       have hun := (hC.ti t i ht).array hk
       obtain ⟨v, hr, hdv⟩ := part_run (P := P) (w := w) (hC.ti _ _ hu) hd hm
       refine Made.pure R (v := v) ?_ hdv
       have hm0 : (0 : Int) ≤ Int.ofNat m ∧ Int.ofNat m < (n : Int) := ⟨Int.natCast_nonneg m, by show ((m : Nat) : Int) < n; omega⟩
       simp only [execOp, Instr.index, h2, hv, asIntOf, Sem.run_bind, Pure.pure, Sem.run, Result.andThen_ok, run_und hun, if_pos hm0, (hC.ti u j hu).sizeOf, Int.toNat, hr]
     ·cases hs
   ·cases hs
 case unOp op xt x =>
  split at hs
  ·rename_i b hb
   simp only [Option.some.injEq, Prod.mk.injEq] at hs; obtain ⟨_, rfl, rfl⟩ := hs
   have h1 := hx x (by simp)
   rw [hb] at h1; simp only [den] at h1
   exact Made.pure R (v := .bool !b) (by simp only [execOp, h1]; rfl) (by simp only [den])
  ·rename_i b hb
   simp only [Option.some.injEq, Prod.mk.injEq] at hs; obtain ⟨_, rfl, rfl⟩ := hs
   have h1 := hx x (by simp)
   rw [hb] at h1; simp only [den] at h1
   exact Made.pure R (v := .bool !b) (by simp only [execOp, h1]; rfl) (by rw [hC.alg]; simp only [den]; rfl)
  ·rename_i k n hb
   simp only [Option.some.injEq, Prod.mk.injEq] at hs; obtain ⟨_, rfl, rfl⟩ := hs
   have h1 := hx x (by simp)
   rw [hb] at h1; simp only [den] at h1
   exact Made.pure R (v := .int k (k.wrap (0 - n))) (by simp only [execOp, h1]; rfl) (by rw [hC.alg]; simp only [den]; rfl)
  ·rename_i k b hb
   simp only [Option.some.injEq, Prod.mk.injEq] at hs; obtain ⟨_, rfl, rfl⟩ := hs
   have h1 := hx x (by simp)
   rw [hb] at h1; simp only [den] at h1
   exact Made.pure R (v := .float k (Op.negFloat k b)) (by simp only [execOp, h1]; rfl) (by rw [hC.alg]; simp only [den]; rfl)
  ·cases hs
 case fieldAddr t x f =>
  cases ht : C.ti t with
  | none => simp [ht] at hs
  | some i =>
   simp only [ht, Option.bind_some] at hs
   split at hs
   ·rename_i fs hk
    cases hf : fs[f]? with
    | none => simp [hf] at hs
    | some q =>
     obtain ⟨off, u⟩ := q
     simp only [hf, Option.bind_some] at hs
     cases hu : C.ti u with
     | none => simp [hu] at hs
     | some j =>
      simp only [hu, Option.bind_some] at hs
      split at hs
      ·cases hs
      ·rename_i hz
       cases hm : move (ev x) off with
       | none => simp [hm] at hs
       | some d' =>
        simp only [hm, Option.map_some, Option.some.injEq, Prod.mk.injEq] at hs; obtain ⟨_, rfl, rfl⟩ := hs
        obtain ⟨b, o', hv, hd⟩ := move_den (hx x (by simp)) hm
        obtain ⟨fields, hun, hfs⟩ := (hC.ti t i ht).struct hk
        subst hfs
        simp only [List.getElem?_map, Array.getElem?_toList, Option.map_eq_some_iff] at hf
        obtain ⟨fl, hfl, hq⟩ := hf
        simp only [Prod.mk.injEq] at hq
        obtain ⟨rfl, rfl⟩ := hq
        refine Made.pure R ?_ hd
        have hadd := addr_add b o' fl.offset
        simp [execOp, Instr.fieldAt, run_und hun, hfl, hv, Instr.sureAddr, fieldPlace, (hC.ti _ _ hu).sizeOf, hz, hadd, Pure.pure, Sem.run]
   ·cases hs
 case indexAddr t x ix =>
  cases ht : C.ti t with
  | none => simp [ht] at hs
  | some i =>
   simp only [ht, Option.bind_some] at hs
   have glob : ∀ (g o' n e' : Nat) (k : Int) (kk : IntKind), i.k = .array n e' → den (envr X0 h w ρ) (ev x) (a.eval x) → (a.eval x = .pointer (some ⟨g, o', none⟩)) → ev ix = .int kk k → (C.ti e').bind (fun j => some (C.A.inr k n, D.gsym g (C.A.idx o' k j.size), Eff.none)) = some (p, d, e) →
     Made G C.own w0 X0 h ρ nm w ((execOp a.eval ⟨dst, .indexAddr t x ix, ty, pos, after, guard⟩).run P w) d e := by
    intro g o' n e' k kk hk _ hv hix hs
    cases hu : C.ti e' with
    | none => simp [hu] at hs
    | some j =>
     simp only [hu, Option.bind_some, Option.some.injEq, Prod.mk.injEq] at hs; obtain ⟨rfl, rfl, rfl⟩ := hs
     have h2 := hx ix (by simp)
     rw [hix] at h2; simp only [den] at h2
     have hun := (hC.ti t i ht).array hk
     rw [hC.alg] at hp ⊢
     have hlt : 0 ≤ k ∧ k < (n : Int) := hp
     refine Made.pure R (v := .pointer (some ⟨g, o' + k.toNat * j.size, none⟩)) ?_ (by simp only [den]; rfl)
     have hadd := addr_add g o' (k.toNat * j.size)
     simp only [execOp, Instr.indexAt, Sem.run_bind, h2, hv, asIntOf, Pure.pure, Sem.run, Result.andThen_ok, run_und hun, Instr.sureAddr, if_pos hlt, (hC.ti _ _ hu).sizeOf]
     rw [hadd]
   split at hs
   ·rename_i n e' g o' kk k hk hxe hix
    have h1 := hx x (by simp)
    have h1' := den_nrm1 h1
    rw [hxe] at h1'; simp only [den] at h1'
    exact glob g o' n e' k kk hk h1 h1' hix hs
   ·rename_i n e' g o' kk k hk hxe hix
    have h1 := hx x (by simp)
    have h1' := den_nrm1 h1
    rw [hxe] at h1'; simp only [den] at h1'
    exact glob g o' n e' k kk hk h1 h1' hix hs
   ·rename_i e' n cs kk k hk hxe hix
    cases hu : C.ti e' with
    | none => simp [hu] at hs
    | some j =>
     simp only [hu, Option.bind_some] at hs
     split at hs
     ·rename_i hsz
      simp only [Option.some.injEq, Prod.mk.injEq] at hs; obtain ⟨rfl, rfl, rfl⟩ := hs
      rw [hC.alg] at hp ⊢
      obtain ⟨h0, h1, hcl⟩ : 0 ≤ k ∧ k < (n : Int) ∧ cs.length = n := hp
      have h2 := den_nrm1 (hx x (by simp))
      rw [hxe] at h2; simp only [den] at h2
      obtain ⟨A, c, hv, hnc, hdat⟩ := h2
      have h3 := hx ix (by simp)
      rw [hix] at h3; simp only [den] at h3
      have hun := (hC.ti t i ht).slice hk
      obtain ⟨b, o', rfl, hlt, hnX, hd⟩ := hdat (by rw [hcl]; exact Int.ofNat_lt.1 (Int.lt_of_le_of_lt h0 h1))
      refine Made.pure R (v := .pointer (some ⟨b, o' + k.toNat * 1, none⟩)) ?_ (by simp only [den]; exact ⟨b, o', by simp [std], hlt, hnX, hd⟩)
      have hadd := addr_add b o' (k.toNat * 1)
      simp only [execOp, Instr.indexAt, Sem.run_bind, h3, hv, asIntOf, Pure.pure, Sem.run, Result.andThen_ok, run_und hun, if_pos (show 0 ≤ k ∧ k < (n : Int) from ⟨h0, h1⟩), (hC.ti _ _ hu).sizeOf, hsz]
      rw [hadd]
     ·cases hs
   ·rename_i e' q s0 o n kk k hk hxe hix
    cases hu : C.ti e' with
    | none => simp [hu] at hs
    | some j =>
     simp only [hu, Option.bind_some] at hs
     split at hs
     ·rename_i hsz
      simp only [Option.some.injEq, Prod.mk.injEq] at hs; obtain ⟨rfl, rfl, rfl⟩ := hs
      rw [hC.alg] at hp ⊢
      obtain ⟨h0, h1⟩ : 0 ≤ k ∧ k < (n : Int) := hp
      have h2 := den_nrm1 (hx x (by simp))
      rw [hxe] at h2; simp only [den] at h2
      obtain ⟨b, o', c, hv, hnc, ho, hb, _⟩ := h2
      have h3 := hx ix (by simp)
      rw [hix] at h3; simp only [den] at h3
      have hun := (hC.ti t i ht).slice hk
      have hoo := ho (by omega)
      subst hoo
      refine Made.pure R (v := .pointer (some ⟨b, o' + k.toNat * s0, none⟩)) ?_ (by simp only [den]; exact ⟨b, rfl, hb⟩)
      have hadd := addr_add b o' (k.toNat * s0)
      simp only [execOp, Instr.indexAt, Sem.run_bind, h3, hv, asIntOf, Pure.pure, Sem.run, Result.andThen_ok, run_und hun, if_pos (show 0 ≤ k ∧ k < (n : Int) from ⟨h0, h1⟩), (hC.ti _ _ hu).sizeOf, hsz]
      rw [hadd]
     ·cases hs
   ·rename_i n e' k m hk hix _ _
    cases hu : C.ti e' with
    | none => simp [hu] at hs
    | some j =>
     simp only [hu, Option.bind_some] at hs
     split at hs
     ·rename_i hmn
      cases hm : move (ev x) (m * j.size) with
      | none => simp [hm] at hs
      | some d' =>
       simp only [hm, Option.map_some, Option.some.injEq, Prod.mk.injEq] at hs; obtain ⟨_, rfl, rfl⟩ := hs
       obtain ⟨b, o', hv, hd⟩ := move_den (hx x (by simp)) hm
       have h2 := hx ix (by simp)
       rw [hix] at h2; simp only [den] at h2
       have hun := (hC.ti t i ht).array hk
       refine Made.pure R ?_ hd
       have hadd := addr_add b o' (m * j.size)
       have hlt : (0 : Int) ≤ Int.ofNat m ∧ Int.ofNat m < n := ⟨Int.natCast_nonneg m, Int.ofNat_lt.2 hmn⟩
       simp only [execOp, Instr.indexAt, Sem.run_bind, h2, hv, asIntOf, Pure.pure, Sem.run, Result.andThen_ok, run_und hun, Instr.sureAddr, if_pos hlt, (hC.ti _ _ hu).sizeOf]
       rw [show (Int.ofNat m).toNat = m from rfl, hadd]
     ·cases hs
   ·cases hs
 case slice t x lo hi mx =>
  cases ht : C.ti t with
  | none => simp [ht] at hs
  | some i =>
   simp only [ht, Option.bind_some] at hs
   split at hs
   ·rename_i e' n cs l hk hxe
    cases hu : C.ti e' with
    | none => simp [hu] at hs
    | some j =>
     simp only [hu, Option.bind_some] at hs
     split at hs
     ·rename_i k hl
      split at hs
      ·rename_i hsz
       simp only [Option.some.injEq, Prod.mk.injEq] at hs; obtain ⟨rfl, rfl, rfl⟩ := hs
       rw [hC.alg] at hp ⊢
       obtain ⟨h0, h1, hcl⟩ : 0 ≤ k ∧ k ≤ (n : Int) ∧ cs.length = n := hp
       have h2 := den_nrm1 (hx x (by simp))
       rw [hxe] at h2; simp only [den] at h2
       obtain ⟨A, c, hv, hnc, hdat⟩ := h2
       have h3 := hx l (by simp)
       rw [hl] at h3; simp only [den] at h3
       have hun := (hC.ti t i ht).slice hk
       refine Made.pure R (v := .slice (if c = k.toNat then A else A.map (·.add (k.toNat * 1))) (n - k.toNat) (c - k.toNat)) ?_ ?_
       ·simp only [execOp, Instr.sliceAt, Instr.slice, Instr.sliceBounds, Instr.sliceBound, Option.map_some, Option.map_none, Sem.run_bind, hv, h3, asIntOf, Pure.pure, Sem.run, Result.andThen_ok, run_und hun, if_pos (show 0 ≤ k ∧ k ≤ (n : Int) from ⟨h0, h1⟩), (hC.ti _ _ hu).sizeOf, hsz, Option.isSome_none]
       ·simp only [den]
        refine ⟨_, _, rfl, Nat.sub_le_sub_right hnc _, fun hlen => ?_⟩
        have hlen' : 0 < cs.length - k.toNat := by
         have : (std.drop k cs) = cs.drop k.toNat := rfl
         rw [this, List.length_drop] at hlen; exact hlen
        obtain ⟨b, o', rfl, hlt, hnX, hd⟩ := hdat (Nat.lt_of_lt_of_le hlen' (Nat.sub_le _ _))
        refine ⟨b, o' + k.toNat, ?_, hlt, hnX, denC_drop _ hd⟩
        rw [if_neg (fun hck => by rw [← hck, hcl, Nat.sub_eq_zero_of_le hnc] at hlen'; exact absurd hlen' (Nat.lt_irrefl 0)), Option.map_some, Nat.mul_one, addr_add]
      ·cases hs
     ·cases hs
   ·rename_i e' n cs l u hk hxe
    cases hu : C.ti e' with
    | none => simp [hu] at hs
    | some j =>
     simp only [hu, Option.bind_some] at hs
     split at hs
     ·rename_i _ k _ m hl hm
      split at hs
      ·rename_i hsz
       simp only [Option.some.injEq, Prod.mk.injEq] at hs; obtain ⟨rfl, rfl, rfl⟩ := hs
       rw [hC.alg] at hp ⊢
       obtain ⟨h0, h1, h1', hcl⟩ : 0 ≤ k ∧ k ≤ m ∧ m ≤ (n : Int) ∧ cs.length = n := hp
       have h2 := den_nrm1 (hx x (by simp))
       rw [hxe] at h2
       have h3 := hx l (by simp)
       rw [hl] at h3; simp only [den] at h3
       have h4 := hx u (by simp)
       rw [hm] at h4; simp only [den] at h4
       simp only [den] at h2
       obtain ⟨A, c, hv, hnc, hdat⟩ := h2
       have hun := (hC.ti t i ht).slice hk
       have hmc : 0 ≤ m ∧ m ≤ (c : Int) := ⟨by omega, by omega⟩
       have hkm : 0 ≤ k ∧ k ≤ (m.toNat : Int) := ⟨h0, by omega⟩
       refine Made.pure R (v := .slice (if c = k.toNat then A else A.map (·.add (k.toNat * 1))) (m.toNat - k.toNat) (c - k.toNat)) ?_ ?_
       ·simp only [execOp, Instr.sliceAt, Instr.slice, Instr.sliceBounds, Instr.sliceBound, Option.map_some, Option.map_none, Sem.run_bind, hv, h3, h4, asIntOf, Pure.pure, Sem.run, Result.andThen_ok, run_und hun, if_pos hkm, if_pos hmc, (hC.ti _ _ hu).sizeOf, hsz, Option.isSome_none]
       ·simp only [den]
        refine ⟨_, _, by rw [show std.len2 k m = m.toNat - k.toNat from by show (m - k).toNat = _; omega], by show (m - k).toNat ≤ _; omega, fun hlen => ?_⟩
        have hlen' : 0 < m.toNat - k.toNat := by
         have : (std.cut k m cs) = (cs.take m.toNat).drop k.toNat := rfl
         rw [this, List.length_drop, List.length_take] at hlen; omega
        have hck : ¬ c = k.toNat := by omega
        obtain ⟨b, o', rfl, hlt, hnX, hd⟩ := hdat (by omega)
        refine ⟨b, o' + k.toNat, ?_, hlt, hnX, denC_drop _ (denC_take _ hd)⟩
        rw [if_neg hck, Option.map_some, Nat.mul_one, addr_add]
      ·cases hs
     ·cases hs
   ·rename_i e' n cs u hk hxe
    cases hu : C.ti e' with
    | none => simp [hu] at hs
    | some j =>
     simp only [hu, Option.bind_some] at hs
     split at hs
     ·rename_i _ m hm
      split at hs
      ·rename_i hsz
       simp only [Option.some.injEq, Prod.mk.injEq] at hs; obtain ⟨rfl, rfl, rfl⟩ := hs
       rw [hC.alg] at hp ⊢
       obtain ⟨_, h1, h1', hcl⟩ : (0 : Int) ≤ 0 ∧ 0 ≤ m ∧ m ≤ (n : Int) ∧ cs.length = n := hp
       have h2 := den_nrm1 (hx x (by simp))
       rw [hxe] at h2
       have h4 := hx u (by simp)
       rw [hm] at h4; simp only [den] at h4
       simp only [den] at h2
       obtain ⟨A, c, hv, hnc, hdat⟩ := h2
       have hun := (hC.ti t i ht).slice hk
       have hmc : 0 ≤ m ∧ m ≤ (c : Int) := ⟨by omega, by omega⟩
       refine Made.pure R (v := .slice (if c = 0 then A else A.map (·.add (0 * 1))) (m.toNat - 0) (c - 0)) ?_ ?_
       ·simp only [execOp, Instr.sliceAt, Instr.slice, Instr.sliceBounds, Instr.sliceBound, Option.map_some, Option.map_none, Sem.run_bind, hv, h4, asIntOf, Pure.pure, Sem.run, Result.andThen_ok, run_und hun, if_pos hmc, (hC.ti _ _ hu).sizeOf, hsz, Option.isSome_none]
       ·simp only [den]
        refine ⟨_, _, by rw [show std.len2 0 m = m.toNat - 0 from by show (m - 0).toNat = _; omega], by show (m - 0).toNat ≤ _; omega, fun hlen => ?_⟩
        have hlen' : 0 < m.toNat := by
         have : (std.cut 0 m cs) = (cs.take m.toNat).drop 0 := rfl
         rw [this, List.length_drop, List.length_take] at hlen; omega
        obtain ⟨b, o', rfl, hlt, hnX, hd⟩ := hdat (by omega)
        refine ⟨b, o', ?_, hlt, hnX, denC_drop (o := o') 0 (denC_take _ hd)⟩
        rw [if_neg (show ¬ c = 0 by omega), Option.map_some, Nat.zero_mul, addr_add]; rfl
      ·cases hs
     ·cases hs
   ·rename_i sb l hk hxe
    split at hs
    ·rename_i k hl
     simp only [Option.some.injEq, Prod.mk.injEq] at hs; obtain ⟨rfl, rfl, rfl⟩ := hs
     rw [hC.alg] at hp ⊢
     obtain ⟨h0, h1, _⟩ : 0 ≤ k ∧ k ≤ ((sb.size : Nat) : Int) ∧ ((sb.size : Nat) : Int) ≤ ((sb.size : Nat) : Int) := hp
     have h2 := den_nrm1 (hx x (by simp))
     rw [hxe] at h2; simp only [den] at h2
     have h3 := hx l (by simp)
     rw [hl] at h3; simp only [den] at h3
     have hun := (hC.ti t i ht).strk hk
     refine Made.pure R (v := .string (sb.extract k.toNat sb.size)) ?_ (by simp only [den]; rfl)
     simp only [execOp, Instr.sliceAt, Instr.slice, Instr.sliceBounds, Instr.sliceBound, Option.map_some, Option.map_none, Sem.run_bind, h2, h3, asIntOf, Pure.pure, Sem.run, Result.andThen_ok, run_und hun, Option.isSome_none, Bool.false_eq_true, reduceIte, if_pos (show 0 ≤ k ∧ k ≤ ((sb.size : Nat) : Int) from ⟨h0, h1⟩)]
    ·cases hs
   ·rename_i sb l u hk hxe
    split at hs
    ·rename_i k _ m hl hm
     simp only [Option.some.injEq, Prod.mk.injEq] at hs; obtain ⟨rfl, rfl, rfl⟩ := hs
     rw [hC.alg] at hp ⊢
     obtain ⟨h0, h1, h1'⟩ : 0 ≤ k ∧ k ≤ m ∧ m ≤ ((sb.size : Nat) : Int) := hp
     have h2 := den_nrm1 (hx x (by simp))
     rw [hxe] at h2; simp only [den] at h2
     have h3 := hx l (by simp)
     rw [hl] at h3; simp only [den] at h3
     have h4 := hx u (by simp)
     rw [hm] at h4; simp only [den] at h4
     have hun := (hC.ti t i ht).strk hk
     have hkm : 0 ≤ k ∧ k ≤ ((m.toNat : Nat) : Int) := ⟨h0, by omega⟩
     refine Made.pure R (v := .string (sb.extract k.toNat m.toNat)) ?_ (by simp only [den]; rfl)
     simp only [execOp, Instr.sliceAt, Instr.slice, Instr.sliceBounds, Instr.sliceBound, Option.map_some, Option.map_none, Sem.run_bind, h2, h3, h4, asIntOf, Pure.pure, Sem.run, Result.andThen_ok, run_und hun, Option.isSome_none, Bool.false_eq_true, reduceIte, if_pos (show 0 ≤ m ∧ m ≤ ((sb.size : Nat) : Int) from ⟨by omega, h1'⟩), if_pos hkm]
    ·cases hs
   ·rename_i e' q s0 o n l hk hxe
    cases hu : C.ti e' with
    | none => simp [hu] at hs
    | some j =>
     simp only [hu, Option.bind_some] at hs
     split at hs
     ·rename_i _ k hl
      split at hs
      ·rename_i hsz
       simp only [Option.some.injEq, Prod.mk.injEq] at hs; obtain ⟨rfl, rfl, rfl⟩ := hs
       rw [hC.alg] at hp ⊢
       obtain ⟨h0, h1⟩ : 0 ≤ k ∧ k < ((n + 1 : Nat) : Int) := hp
       have h2 := den_nrm1 (hx x (by simp))
       rw [hxe] at h2; simp only [den] at h2
       obtain ⟨b, o', c, hv, hnc, ho, hb, vs, T, hcell, hroom⟩ := h2
       have h3 := hx l (by simp)
       rw [hl] at h3; simp only [den] at h3
       have hun := (hC.ti t i ht).slice hk
       have hkn : 0 ≤ k ∧ k ≤ (n : Int) := ⟨h0, by omega⟩
       refine Made.pure R (v := .slice (if c = k.toNat then some ⟨b, o', none⟩ else (some ⟨b, o', none⟩ : Option Addr).map (·.add (k.toNat * s0))) (n - k.toNat) (c - k.toNat)) ?_ ?_
       ·simp only [execOp, Instr.sliceAt, Instr.slice, Instr.sliceBounds, Instr.sliceBound, Option.map_some, Option.map_none, Sem.run_bind, hv, h3, asIntOf, Pure.pure, Sem.run, Result.andThen_ok, run_und hun, if_pos hkn, (hC.ti _ _ hu).sizeOf, hsz, Option.isSome_none]
       ·simp only [den]
        by_cases hck : c = k.toNat
        ·rw [if_pos hck]
         refine ⟨b, o', c - k.toNat, rfl, Nat.sub_le_sub_right hnc _, fun h5 => by omega, hb, vs, T, hcell, fun h5 => by omega⟩
        ·rw [if_neg hck]
         have hc0 : 0 < c := by omega
         refine ⟨b, o' + k.toNat * s0, c - k.toNat, by simp only [Option.map_some, addr_add]; rfl, Nat.sub_le_sub_right hnc _, fun _ => by rw [ho hc0]; rfl, hb, vs, T, hcell, fun _ => ?_⟩
         have h6 := hroom hc0
         have h7 : k.toNat * s0 + (c - k.toNat) * s0 = c * s0 := by rw [← Nat.add_mul]; congr 1; omega
         show o + k.toNat * s0 + (c - k.toNat) * s0 ≤ vs.size
         omega
      ·cases hs
     ·cases hs
   ·cases hs
 case field t x f =>
  cases ht : C.ti t with
  | none => simp [ht] at hs
  | some i =>
   simp only [ht, Option.bind_some] at hs
   split at hs
   ·rename_i fs cs hk hxe
    cases hf : fs[f]? with
    | none => simp [hf] at hs
    | some q =>
     obtain ⟨off, u⟩ := q
     simp only [hf, Option.bind_some] at hs
     cases hu : C.ti u with
     | none => simp [hu] at hs
     | some j =>
      simp only [hu, Option.bind_some] at hs
      split at hs
      ·rename_i hle
       cases hm : mk j ((cs.drop off).take j.size) with
       | none => simp [hm] at hs
       | some d' =>
        simp only [hm, Option.map_some, Option.some.injEq, Prod.mk.injEq] at hs; obtain ⟨_, rfl, rfl⟩ := hs
        have h1 := hx x (by simp)
        rw [hxe] at h1; simp only [den] at h1
        obtain ⟨vs, hv, hd⟩ := h1
        obtain ⟨fields, hun, hfs⟩ := (hC.ti t i ht).struct hk
        subst hfs
        simp only [List.getElem?_map, Array.getElem?_toList, Option.map_eq_some_iff] at hf
        obtain ⟨fl, hfl, hq⟩ := hf
        simp only [Prod.mk.injEq] at hq
        obtain ⟨rfl, rfl⟩ := hq
        obtain ⟨v, hr, hdv⟩ := part_run (P := P) (w := w) (hC.ti _ _ hu) hd hm
        refine Made.pure R ?_ hdv
        simp [execOp, Instr.field, run_und hun, hfl, hv, asAgg, hr, Pure.pure, Sem.run]
      ·cases hs
   ·cases hs
 case extract x i =>
  split at hs
  ·rename_i ds hxe
   cases hd : ds[i]? with
   | none => simp [hd] at hs
   | some d' =>
    simp only [hd, Option.map_some, Option.some.injEq, Prod.mk.injEq] at hs; obtain ⟨_, rfl, rfl⟩ := hs
    have h1 := hx x (by simp)
    rw [hxe] at h1; simp only [den] at h1
    obtain ⟨vs, hv, hdl⟩ := h1
    obtain ⟨v, hg, hdv⟩ := denL_get hdl hd
    refine Made.pure R (v := v) ?_ hdv
    simp only [Array.getElem?_toList] at hg
    simp [execOp, Instr.extract, hv, hg, Pure.pure, Sem.run]
  ·cases hs
 case makeFunc fn fs cps =>
  split at hs
  ·rename_i f hfs hcp
   simp only [Option.some.injEq, Prod.mk.injEq] at hs; obtain ⟨_, rfl, rfl⟩ := hs
   have h1 : fs = #[] := by apply Array.ext'; exact hfs
   have h2 : cps = #[] := by apply Array.ext'; exact List.map_eq_nil_iff.1 hcp
   subst h1 h2
   exact Made.pure R (v := .func (.func f) #[] #[]) (by simp [execOp, Instr.makeFunc, Pure.pure, Sem.run]) (by simp only [den]; exact ⟨#[], rfl, by simp [denL]⟩)
  ·rename_i f k off hfs hcp
   have h1 : fs = #[] := by apply Array.ext'; exact hfs
   subst h1
   obtain ⟨x, hcx, hxe⟩ : ∃ x, cps = #[x] ∧ ev x = .ptr k off := by
    obtain ⟨x, h9, h8⟩ := map_one hcp
    exact ⟨x, by apply Array.ext'; simpa using h9, h8⟩
   subst hcx
   cases he : h k with
   | none => simp [he] at hs
   | some e' =>
    simp only [he, Option.bind_some] at hs
    split at hs
    ·rename_i hek
     split at hs
     ·rename_i hfrz
      simp only [Option.some.injEq, Prod.mk.injEq] at hs; obtain ⟨_, rfl, rfl⟩ := hs
      have hd := hx x (by simp)
      rw [hxe] at hd
      simp only [den] at hd
      obtain ⟨b, hv, hb⟩ := hd
      obtain ⟨b', vs, a1, a2, a3, _, _, a6, a7⟩ := R.blk k e' he (by rw [hek]; rfl)
      have hb2 : ρ k = some b := hb
      have hbb : b' = b := by rw [hb2] at a1; cases a1; rfl
      subst hbb
      obtain ⟨R', hle⟩ := R.freeze he
      have heff : effH h nm (Eff.freeze k) = upd h k (some ⟨e'.t, e'.cs, true, e'.k⟩) := by
       simp only [effH, Eff.freeze, wrH, nwH, he, Option.map_some]
      refine ⟨_, .func (.func f) #[] #[.pointer (some ⟨b', off, none⟩)], w, ρ, ?_, .inl rfl, by rw [heff]; exact R', by rw [heff]; exact hle, ?_⟩
      ·simp [execOp, Instr.makeFunc, hv, Pure.pure, Sem.run]
      ·rw [heff]
       simp only [den, denL]
       refine ⟨_, rfl, .pointer (some ⟨b', off, none⟩), [], rfl, ⟨b', 0, by simp, lt_of_heap a3, ?_, ?_⟩, rfl⟩
       ·rintro (hx0 | ⟨l, f', hl, hz, hlv, hr⟩)
        ·have := (R.x0 b' hx0).1; omega
        ·have := R'.inj l k f' ⟨e'.t, e'.cs, true, e'.k⟩ b' hl hlv (upd_same _ _ _) (by simp only [hek]; rfl) hr hb2
         subst this
         rw [upd_same] at hl; cases hl; cases hz
       ·refine denC_of (ρ := ρ) hfrz (denL_mono hle _ _ a7) fun j u hj => ?_
        show w.cell? _ = _
        simp only [Nat.zero_add, World.cell?, a3]
        rw [List.getElem?_take] at hj
        split at hj
        ·simpa using hj
        ·cases hj
     ·cases hs
    ·cases hs
  ·cases hs
 case call c =>
  obtain ⟨callee, args, argTypes⟩ := c
  have hL : denL (envr X0 h w ρ) (args.toList.map fun x => (ev x).nrm) (args.toList.map a.eval) := denL_map (ev := fun x => (ev x).nrm) _ (fun x hm => den_nrm <| hx x (by
   simp only [Call.operands, Array.toList_append, List.mem_append]; exact .inr hm))
  split at hs
  ·rename_i f hcal
   simp only at hcal
   obtain ⟨x, hxt⟩ := hnc _ f rfl hcal
   subst hcal
   rw [hxt] at hs
   obtain ⟨fn, hfn, hname, hbody, hnx, hfind⟩ := hC.ext f x hxt
   have hev : a.eval (.func f) = .func (.func f) #[] #[] := rfl
   have hrun := fun as => run_callFunc_extern (P := P) hfn hname hbody hnx hfind as w
   simp only at hs
   unfold Xt.step at hs
   split at hs
   ·rename_i b hargs
    simp only [Option.some.injEq, Prod.mk.injEq] at hs; obtain ⟨_, rfl, rfl⟩ := hs
    rw [hargs] at hL
    simp only [denL, den] at hL
    obtain ⟨_, _, hl, rfl, rfl⟩ := hL
    have ha : Array.map a.eval args = #[.float .f64 b] := by apply Array.ext'; simpa using hl
    refine Made.pure R (v := .int .u64 b) ?_ (by rw [hC.alg]; simp only [den]; rfl)
    simp only [execOp, resolve, hev, Deferred.ofValue, ha, Sem.run_bind, Pure.pure, Sem.run, Result.andThen_ok, invoke]
    have h9 : (callFunc f #[.float .f64 b]).run P w = .ok (.value (.int .u64 b)) w := (hrun #[.float .f64 b]).trans rfl
    simpa using h9
   ·rename_i n hargs
    simp only [Option.some.injEq, Prod.mk.injEq] at hs; obtain ⟨_, rfl, rfl⟩ := hs
    rw [hargs] at hL
    simp only [denL, den] at hL
    obtain ⟨_, _, hl, rfl, rfl⟩ := hL
    have ha : Array.map a.eval args = #[.int .u64 n] := by apply Array.ext'; simpa using hl
    refine Made.pure R (v := .float .f64 n.toNat) ?_ (by rw [hC.alg]; simp only [den]; rfl)
    simp only [execOp, resolve, hev, Deferred.ofValue, ha, Sem.run_bind, Pure.pure, Sem.run, Result.andThen_ok, invoke]
    have h9 : (callFunc f #[.int .u64 n]).run P w = .ok (.value (.float .f64 n.toNat)) w := (hrun #[.int .u64 n]).trans rfl
    simpa using h9
   ·cases hs
  ·rename_i t hcal
   simp only at hcal
   exact absurd hcal (hnt _ t rfl)
  ·rename_i k s0 o n m ds hcal hargs
   simp only at hcal hargs
   subst hcal
   cases he : h k with
   | none => simp [he] at hs
   | some e' =>
    simp only [he, Option.bind_some] at hs
    cases hat : argTypes[0]? with
    | none => simp [hat] at hs
    | some t =>
     simp only [hat, Option.bind_some] at hs
     cases hti : C.ti t with
     | none => simp [hti] at hs
     | some i =>
      simp only [hti, Option.bind_some] at hs
      split at hs
      ·rename_i et hek hik
       cases hte : C.ti et with
       | none => simp [hte] at hs
       | some j =>
        simp only [hte, Option.bind_some] at hs
        split at hs
        ·rename_i hcnd
         obtain ⟨hj1, hs1, hfz⟩ := hcnd
         subst hs1
         simp only [Option.some.injEq, Prod.mk.injEq] at hs; obtain ⟨rfl, rfl, rfl⟩ := hs
         rw [hC.alg] at hp ⊢
         obtain ⟨⟨hlen, hroom⟩, hone⟩ : (ds.length = m ∧ o + n ≤ e'.cs.length) ∧ ((C.own || ds.all D.one) && ds.all D.frz) = true := hp
         rw [Bool.and_eq_true] at hone
         rw [hargs] at hL
         simp only [denL, den] at hL
         obtain ⟨v1, _, hl, ⟨b, o', c, rfl, hnc', ho, hb, _⟩, v2, _, rfl, ⟨A, c2, rfl, hmc, hdat⟩, rfl⟩ := hL
         obtain ⟨b', vs, h1, h2, h3, h4, h5, h6, h7⟩ := R.blk k e' he (by rw [hek]; rfl)
         have hbb : b' = b := by have hb2 : ρ k = some b := hb; rw [hb2] at h1; cases h1; rfl
         subst hbb
         have ha : Array.map a.eval args = #[.slice (some ⟨b', o', none⟩) n c, .slice A m c2] := by apply Array.ext'; simpa using hl
         have hun := (hC.ti t i hti).slice hik
         obtain ⟨jj, hjj, hjs, _⟩ := (hC.ti et j hte).info
         have hsz1 : (P.info? et).map (·.size) = some 1 := by rw [hjj, Option.map_some, hjs, hj1]
         have hmin : Nat.min m n = min m n := rfl
         have hsrc : ∃ us, denL (envr X0 h w ρ) (ds.take (min m n)) us ∧ us.length = min m n ∧ (0 < min m n → ∃ x, A = some x ∧ ∀ jx u, us[jx]? = some u → w.cell? (x.add jx) = some u) := by
          by_cases h0 : 0 < ds.length
          ·obtain ⟨b2, o2, rfl, _, _, hd⟩ := hdat h0
           obtain ⟨us, hus, hcell⟩ := denC_get hd
           refine ⟨us.take (min m n), denL_mono Le.rho_none _ _ (denL_take hus _), by have := denL_len hus; rw [List.length_take]; omega, fun _ => ⟨_, rfl, fun jx u hj => ?_⟩⟩
           rw [addr_add]
           rw [List.getElem?_take] at hj
           split at hj
           ·exact hcell jx u hj
           ·cases hj
          ·have : ds = [] := List.eq_nil_of_length_eq_zero (by omega)
           subst this
           exact ⟨[], by simp [denL], by simp only [List.length_nil] at hlen ⊢; omega, fun h8 => by simp only [List.length_nil] at hlen; omega⟩
         obtain ⟨us, hus, hul, hxs⟩ := hsrc
         have hfrz : ds.all D.frz = true := hone.2
         have hds : (ds.take (min m n)).all D.frz = true := List.all_eq_true.2 fun d hd => List.all_eq_true.1 hfrz d (List.mem_of_mem_take hd)
         have hdl := denL_len hus
         have hrun := copy_run (P := P) w (ty := ty) (elem := et) hat hun hjj (hjs.trans hj1) (g := b') (o := o) (o' := o') (dLen := n) (dCap := c) (A := A) (m := m) (sCap := c2) h3 (hul.trans rfl) (by rw [hul]; exact hxs) (fun h9 => ho (by omega)) (by omega) (denL_cell (frz_all hds) hus)
         have hlen2 : (patch e'.cs o (ds.take (min m n))).length = e'.cs.length := by
          unfold patch; simp only [List.length_append, List.length_take, List.length_drop]; omega
         have hpl : ∀ e2 : Ent, e2 = ⟨e'.t, patch e'.cs o (ds.take (min m n)), e'.fz, e'.k⟩ → denL (envr X0 h w ρ) e2.cs ((vs.toList.take o ++ us ++ vs.toList.drop (o + us.length)).toArray.toList.take e2.cs.length) := fun e2 he2 => by
          subst he2
          show denL _ (patch e'.cs o (ds.take (min m n))) (List.take (patch e'.cs o (ds.take (min m n))).length _)
          rw [hlen2, List.toList_toArray, patch_take (by omega) (by simpa using h6), hdl]
          exact denL_append (denL_append (denL_take h7 o) hus) (denL_drop h7 _)
         obtain ⟨R', hle⟩ := R.store he hfz (by rw [hek]; rfl) (e' := ⟨e'.t, patch e'.cs o (ds.take (min m n)), e'.fz, e'.k⟩) rfl h1 h3 (vs := (vs.toList.take o ++ us ++ vs.toList.drop (o + us.length)).toArray) (by
           simp only [List.size_toArray, List.length_append, List.length_take, List.length_drop, Array.length_toList] at *; omega)
          (fun hs0 u hu nn => by
            simp only [List.toList_toArray, List.mem_append] at hu
            rcases hu with (hu | hu) | hu
            ·exact h4 hs0 u (List.mem_of_mem_take hu) nn
            ·have h11 : ds.all D.one = true := by have := hone.1; rw [hs0] at this; simpa using this
             exact (denL_one (List.all_eq_true.2 fun d hd => List.all_eq_true.1 h11 d (List.mem_of_mem_take hd)) hus u hu).2 nn
            ·exact h4 hs0 u (List.mem_of_mem_drop hu) nn)
          (fun hk2 => by
            show (patch e'.cs o (ds.take (min m n))).all D.frz = true
            unfold patch
            simp only [List.all_append, Bool.and_eq_true]
            exact ⟨⟨List.all_eq_true.2 fun d hd => List.all_eq_true.1 (h5 hk2) d (List.mem_of_mem_take hd), hds⟩, List.all_eq_true.2 fun d hd => List.all_eq_true.1 (h5 hk2) d (List.mem_of_mem_drop hd)⟩)
          (by show (patch e'.cs o (ds.take (min m n))).length ≤ _
              rw [hlen2]; simp only [List.size_toArray, List.length_append, List.length_take, List.length_drop, Array.length_toList] at *; omega) (hpl _ rfl)
         have heff : effH h nm (Eff.put k (std.putL e'.cs o (std.takeL (std.minN m n) ds))) = upd h k (some ⟨e'.t, patch e'.cs o (ds.take (min m n)), e'.fz, e'.k⟩) := by
          simp only [effH, Eff.put, wrH, nwH, he, Option.map_some]; rfl
         refine ⟨.value (goInt us.length), goInt us.length, _, ρ, ?_, .inl rfl, by rw [heff]; exact R', by rw [heff]; exact hle, ?_⟩
         ·simp only [execOp, resolve, ha, Sem.run_bind, Pure.pure, Sem.run, Result.andThen_ok, invoke, builtin, hrun]
         ·rw [hul]; simp only [den]; rfl
        ·cases hs
      ·cases hs
  ·rename_i n cs m ds hcal hargs
   simp only at hcal hargs
   subst hcal
   split at hs
   ·rename_i n0 cs0 hx0
    cases hat : argTypes[0]? with
    | none => simp [hat] at hs
    | some t =>
     cases hat2 : argTypes[1]? with
     | none => simp [hat, hat2] at hs
     | some t2 =>
      simp only [hat, hat2, Option.bind_some] at hs
      cases hti : C.ti t with
      | none => simp [hti] at hs
      | some i =>
       cases hti2 : C.ti t2 with
       | none => simp [hti, hti2] at hs
       | some i2 =>
        simp only [hti, hti2, Option.bind_some] at hs
        split at hs
        ·rename_i et et2 hik hik2
         cases hte : C.ti et with
         | none => simp [hte] at hs
         | some j =>
          simp only [hte, Option.bind_some] at hs
          split at hs
          ·rename_i hcnd
           obtain ⟨hj1, hj2⟩ := hcnd
           simp only [Option.some.injEq, Prod.mk.injEq] at hs; obtain ⟨rfl, rfl, rfl⟩ := hs
           rw [hC.alg] at hp ⊢
           obtain ⟨⟨hlen, hlen0⟩, ⟨ho0, ho⟩, hb, hb2⟩ : (ds.length = m * j.size ∧ cs.length = n * j.size) ∧ (((true || cs.all D.one) && cs.all D.frz) = true ∧ ((true || ds.all D.one) && ds.all D.frz) = true) ∧ (n + m) * j.bytes ≤ 140737488355328 ∧ n + m ≤ 9223372036854775807 := hp
           have hf0 : cs.all D.frz = true := by simpa using ho0
           have hf1 : ds.all D.frz = true := by simpa using ho
           obtain ⟨x0, x1, hax⟩ : ∃ x0 x1, args.toList = [x0, x1] := by
            have := congrArg List.length hargs
            simp only [List.length_map, List.length_cons, List.length_nil] at this
            match h9 : args.toList, this with
            | [x0, x1], _ => exact ⟨x0, x1, rfl⟩
           have hax0 : args[0]? = some x0 := by rw [← Array.getElem?_toList, hax]; rfl
           simp only at hx0
           rw [hax0, Option.map_some, Option.some.injEq] at hx0
           rw [hax] at hargs
           simp only [List.map_cons, List.map_nil, List.cons.injEq, and_true] at hargs
           obtain ⟨hy0, hy1⟩ := hargs
           rw [hx0] at hy0
           simp only [D.nrm, D.sl.injEq] at hy0
           obtain ⟨rfl, rfl⟩ := hy0
           have hd0 := hx x0 (by simp only [Call.operands, Array.toList_append, List.mem_append, hax]; exact .inr (by simp))
           rw [hx0] at hd0
           have hd1 := den_nrm (hx x1 (by simp only [Call.operands, Array.toList_append, List.mem_append, hax]; exact .inr (by simp)))
           rw [hy1] at hd1
           simp only [den] at hd0 hd1
           obtain ⟨A, hv0, hdat0⟩ := hd0
           obtain ⟨A2, c2, hv1, hmc, hdat1⟩ := hd1
           have ha : Array.map a.eval args = #[.slice A n0 n0, .slice A2 m c2] := by apply Array.ext'; simp [hax, hv0, hv1]
           have hun := (hC.ti t i hti).slice hik
           have hun2 := (hC.ti t2 i2 hti2).slice hik2
           obtain ⟨jj, hjj, hjs, hjz⟩ := (hC.ti et j hte).info
           have hjb : jj.bytes = j.bytes := by have := (hC.ti et j hte).bytes; rw [hjj] at this; simpa using this
           have cells : ∀ (B : Option Addr) (es : List D), (0 < es.length → ∃ b o, B = some ⟨b, o, none⟩ ∧ b < w.heap.size ∧ ¬ (envr X0 h w ρ).X b ∧ denC w (envr X0 h w ρ).X b o es) → ∃ us, denL (envr X0 h w ρ) es us ∧ (0 < es.length → ∃ x, B = some x ∧ ∀ jx u, us[jx]? = some u → w.cell? (x.add jx) = some u) := by
            intro B es hdat
            by_cases h0 : 0 < es.length
            ·obtain ⟨b, o, rfl, _, _, hd⟩ := hdat h0
             obtain ⟨us, hus, hcell⟩ := denC_get hd
             exact ⟨us, denL_mono Le.rho_none _ _ hus, fun _ => ⟨_, rfl, fun jx u hj => by rw [addr_add]; exact hcell jx u hj⟩⟩
            ·have : es = [] := List.eq_nil_of_length_eq_zero (by omega)
             subst this
             exact ⟨[], by simp [denL], fun h9 => by simp at h9⟩
           obtain ⟨us0, hus0, hc0⟩ := cells A cs0 hdat0
           obtain ⟨us1, hus1, hc1⟩ := cells A2 ds hdat1
           have hl0 := denL_len hus0
           have hl1 := denL_len hus1
           have hpos : ∀ k : Nat, 0 < k → 0 < k * j.size := fun k hk => Nat.mul_pos hk hj1
           by_cases hm0 : m = 0
           ·subst hm0
            have hds : ds = [] := List.eq_nil_of_length_eq_zero (by rw [hlen]; omega)
            subst hds
            refine Made.pure R (v := .slice A n0 n0) ?_ ?_
            ·have hr := append_none (P := P) w (ty := ty) hat hat2 hun hun2 hjj (A := A) (n := n0) (A2 := A2) (c2 := c2)
             simp only [execOp, resolve, ha, Sem.run_bind, Pure.pure, Sem.run, Result.andThen_ok, invoke, builtin, hr]
            ·simp only [den]
             refine ⟨A, n0, rfl, Nat.le_refl _, fun h9 => ?_⟩
             have h10 : std.app cs0 [] = cs0 := List.append_nil _
             rw [h10] at h9 ⊢
             exact hdat0 h9
           ·have hm1 : 0 < ds.length := by rw [hlen]; exact hpos m (by omega)
            obtain ⟨y, rfl, hy⟩ := hc1 hm1
            obtain ⟨cap, rest, hr, hcap⟩ := append_more (P := P) w (ty := ty) hat hat2 hun hun2 hjj hjz (A := A) (n := n0) (m := m) (y := y) (c2 := c2) (us0 := us0) (us1 := us1) (by rw [hl0, hlen0, hjs]) (by rw [hl1, hlen, hjs]) (fun h9 => hc0 (by rw [hlen0]; exact hpos _ h9)) hy (by omega) (by omega) (by rw [hjb]; exact hb)
            obtain ⟨R', hle⟩ := R.bel (w' := w.drew.alloc (.cells (us0.toArray ++ us1.toArray ++ rest) et)) (Below.alloc (Below.refl _ w).drew (Nat.le_refl _) _)
            refine ⟨.value (.slice (some ⟨w.heap.size, 0, none⟩) (n0 + m) cap), _, _, ρ, ?_, .inl rfl, R', hle, ?_⟩
            ·simp only [execOp, resolve, ha, Sem.run_bind, Pure.pure, Sem.run, Result.andThen_ok, invoke, builtin, hr]
            ·show den (envr X0 h _ ρ) (.sl (n0 + m) (std.app cs0 ds)) _
             simp only [den]
             refine ⟨_, _, rfl, hcap, fun _ => ⟨w.heap.size, 0, rfl, ?_, ?_, ?_⟩⟩
             ·show w.heap.size < (w.heap.push _).size; simp
             ·intro hX
              exact absurd (R.x_lt (show (envr X0 h w ρ).X w.heap.size from hX)) (Nat.lt_irrefl _)
             ·refine denC_of (ρ := ρ) (by show (cs0 ++ ds).all D.frz = true; rw [List.all_append, hf0, hf1]; rfl) (denL_mono hle _ _ (denL_append hus0 hus1)) fun jx v hj => ?_
              show World.cell? (w.drew.alloc _) ⟨w.heap.size, 0 + jx, none⟩ = some v
              have h11 : (w.drew.alloc (.cells (us0.toArray ++ us1.toArray ++ rest) et)).heap[w.heap.size]? = some (.cells (us0.toArray ++ us1.toArray ++ rest) et (0, 0)) := alloc_at w.drew _
              simp only [Nat.zero_add, World.cell?, h11]
              have h12 : jx < (us0 ++ us1).length := by
               rcases Nat.lt_or_ge jx (us0 ++ us1).length with h13 | h13
               ·exact h13
               ·rw [List.getElem?_eq_none h13] at hj; cases hj
              rw [Array.getElem?_append_left (by simpa using h12)]
              simpa using hj
          ·cases hs
        ·cases hs
   ·cases hs
  ·rename_i k m k' n hcal hargs
   simp only at hcal hargs
   subst hcal
   split at hs
   ·rename_i hk
    subst hk
    simp only [Option.some.injEq, Prod.mk.injEq] at hs; obtain ⟨_, rfl, rfl⟩ := hs
    rw [hargs] at hL
    simp only [denL, den] at hL
    obtain ⟨_, _, hl, rfl, _, _, rfl, rfl, rfl⟩ := hL
    refine Made.pure R (v := .int k (if n < m then n else m)) ?_ (by rw [hC.alg]; simp only [den]; rfl)
    have ha : Array.map a.eval args = #[.int k m, .int k n] := by apply Array.ext'; simpa using hl
    simp only [execOp, resolve, ha, Sem.run_bind, Pure.pure, Sem.run, Result.andThen_ok, invoke, builtin, Builtin.min_]
    simp [Builtin.min2, Pure.pure]
   ·cases hs
  ·rename_i k m k' n hcal hargs
   simp only at hcal hargs
   subst hcal
   split at hs
   ·rename_i hk
    subst hk
    simp only [Option.some.injEq, Prod.mk.injEq] at hs; obtain ⟨_, rfl, rfl⟩ := hs
    rw [hargs] at hL
    simp only [denL, den] at hL
    obtain ⟨_, _, hl, rfl, _, _, rfl, rfl, rfl⟩ := hL
    refine Made.pure R (v := .int k (if n > m then n else m)) ?_ (by rw [hC.alg]; simp only [den]; rfl)
    have ha : Array.map a.eval args = #[.int k m, .int k n] := by apply Array.ext'; simpa using hl
    simp only [execOp, resolve, ha, Sem.run_bind, Pure.pure, Sem.run, Result.andThen_ok, invoke, builtin, Builtin.max_]
    simp [Builtin.max2, Pure.pure]
   ·cases hs
  ·rename_i k m k' n hcal hargs
   simp only at hcal hargs
   subst hcal
   split at hs
   ·rename_i hk
    subst hk
    simp only [Option.some.injEq, Prod.mk.injEq] at hs; obtain ⟨rfl, rfl, rfl⟩ := hs
    rw [hC.alg] at hp ⊢
    rw [hargs] at hL
    simp only [denL, den] at hL
    obtain ⟨_, _, hl, rfl, _, _, rfl, rfl, rfl⟩ := hL
    obtain ⟨r, hr⟩ := Option.isSome_iff_exists.1 (show (k.format.order m n).isSome = true from hp)
    refine Made.pure R (v := .float k (fminV k m n)) ?_ (by simp only [den]; rfl)
    have ha : Array.map a.eval args = #[.float k m, .float k n] := by apply Array.ext'; simpa using hl
    simp only [execOp, resolve, ha, Sem.run_bind, Pure.pure, Sem.run, Result.andThen_ok, invoke, builtin, Builtin.min_]
    cases r <;> simp [Builtin.min2, Pure.pure, hr, fminV]
   ·cases hs
  ·rename_i k m k' n hcal hargs
   simp only at hcal hargs
   subst hcal
   split at hs
   ·rename_i hk
    subst hk
    simp only [Option.some.injEq, Prod.mk.injEq] at hs; obtain ⟨rfl, rfl, rfl⟩ := hs
    rw [hC.alg] at hp ⊢
    rw [hargs] at hL
    simp only [denL, den] at hL
    obtain ⟨_, _, hl, rfl, _, _, rfl, rfl, rfl⟩ := hL
    obtain ⟨r, hr⟩ := Option.isSome_iff_exists.1 (show (k.format.order m n).isSome = true from hp)
    refine Made.pure R (v := .float k (fmaxV k m n)) ?_ (by simp only [den]; rfl)
    have ha : Array.map a.eval args = #[.float k m, .float k n] := by apply Array.ext'; simpa using hl
    simp only [execOp, resolve, ha, Sem.run_bind, Pure.pure, Sem.run, Result.andThen_ok, invoke, builtin, Builtin.max_]
    cases r <;> simp [Builtin.max2, Pure.pure, hr, fmaxV]
   ·cases hs
  ·rename_i k m k' n hcal hargs
   simp only at hcal hargs
   subst hcal
   split at hs
   ·rename_i hk
    subst hk
    simp only [Option.some.injEq, Prod.mk.injEq] at hs; obtain ⟨_, rfl, rfl⟩ := hs
    rw [hargs] at hL
    simp only [denL, den] at hL
    obtain ⟨_, _, hl, rfl, _, _, rfl, rfl, rfl⟩ := hL
    refine Made.pure R (v := .complex k m n) ?_ (by simp only [den])
    have ha : Array.map a.eval args = #[.float k m, .float k n] := by apply Array.ext'; simpa using hl
    have hb : ∀ at' ty', Builtin.complex_ at' ty' #[.float k m, .float k n] = Pure.pure (.complex k m n) := fun at' ty' => by
     show (if k = k then _ else _) = _
     rw [if_pos rfl]
    simp only [execOp, resolve, ha, Sem.run_bind, Pure.pure, Sem.run, Result.andThen_ok, invoke, builtin, hb]
   ·cases hs
  ·rename_i k m n hcal hargs
   simp only at hcal hargs
   subst hcal
   simp only [Option.some.injEq, Prod.mk.injEq] at hs; obtain ⟨_, rfl, rfl⟩ := hs
   rw [hargs] at hL
   simp only [denL, den] at hL
   obtain ⟨_, _, hl, rfl, rfl⟩ := hL
   refine Made.pure R (v := .float k m) ?_ (by simp only [den])
   have ha : Array.map a.eval args = #[.complex k m n] := by apply Array.ext'; simpa using hl
   have hb : ∀ at' ty', Builtin.real_ at' ty' #[.complex k m n] = Pure.pure (.float k m) := fun at' ty' => rfl
   simp only [execOp, resolve, ha, Sem.run_bind, Pure.pure, Sem.run, Result.andThen_ok, invoke, builtin, hb]
  ·rename_i k m n hcal hargs
   simp only at hcal hargs
   subst hcal
   simp only [Option.some.injEq, Prod.mk.injEq] at hs; obtain ⟨_, rfl, rfl⟩ := hs
   rw [hargs] at hL
   simp only [denL, den] at hL
   obtain ⟨_, _, hl, rfl, rfl⟩ := hL
   refine Made.pure R (v := .float k n) ?_ (by simp only [den])
   have ha : Array.map a.eval args = #[.complex k m n] := by apply Array.ext'; simpa using hl
   have hb : ∀ at' ty', Builtin.imag_ at' ty' #[.complex k m n] = Pure.pure (.float k n) := fun at' ty' => rfl
   simp only [execOp, resolve, ha, Sem.run_bind, Pure.pure, Sem.run, Result.andThen_ok, invoke, builtin, hb]
  ·rename_i n cs hcal hargs
   simp only at hcal hargs
   subst hcal
   split at hs
   ·rename_i t ht
    cases hi : C.ti t with
    | none => simp [hi] at hs
    | some i =>
     simp only [hi, Option.bind_some] at hs
     split at hs
     ·rename_i e' hk
      simp only [Option.some.injEq, Prod.mk.injEq] at hs; obtain ⟨_, rfl, rfl⟩ := hs
      rw [hargs] at hL
      simp only [denL, den] at hL
      obtain ⟨_, _, hl, ⟨A, c, rfl, _⟩, rfl⟩ := hL
      refine Made.pure R (v := .int .i64 n) ?_ (by rw [hC.alg]; simp only [den]; rfl)
      have ha : Array.map a.eval args = #[.slice A n c] := by apply Array.ext'; simpa using hl
      have hun := (hC.ti t i hi).slice hk
      simp only [execOp, resolve, ha, Sem.run_bind, Pure.pure, Sem.run, Result.andThen_ok, invoke, builtin, Builtin.len_]
      simp only at ht
      simp [ht, run_und hun, goInt]
     ·cases hs
   ·cases hs
  ·rename_i sb hcal hargs
   simp only at hcal hargs
   subst hcal
   split at hs
   ·rename_i t ht
    cases hi : C.ti t with
    | none => simp [hi] at hs
    | some i =>
     simp only [hi, Option.bind_some] at hs
     split at hs
     ·rename_i hk
      simp only [Option.some.injEq, Prod.mk.injEq] at hs; obtain ⟨_, rfl, rfl⟩ := hs
      rw [hargs] at hL
      simp only [denL, den] at hL
      obtain ⟨_, _, hl, rfl, rfl⟩ := hL
      refine Made.pure R (v := .int .i64 (sb.size : Nat)) ?_ (by rw [hC.alg]; simp only [den]; rfl)
      have ha : Array.map a.eval args = #[.string sb] := by apply Array.ext'; simpa using hl
      have hun := (hC.ti t i hi).strk hk
      simp only [execOp, resolve, ha, Sem.run_bind, Pure.pure, Sem.run, Result.andThen_ok, invoke, builtin, Builtin.len_]
      simp only at ht
      simp [ht, run_und hun, goInt]
     ·cases hs
   ·cases hs
  ·rename_i q0 s0 o0 n hcal hargs
   simp only at hcal hargs
   subst hcal
   split at hs
   ·rename_i t ht
    cases hi : C.ti t with
    | none => simp [hi] at hs
    | some i =>
     simp only [hi, Option.bind_some] at hs
     split at hs
     ·rename_i e' hk
      simp only [Option.some.injEq, Prod.mk.injEq] at hs; obtain ⟨_, rfl, rfl⟩ := hs
      rw [hargs] at hL
      simp only [denL, den] at hL
      obtain ⟨_, _, hl, ⟨b, o', c, rfl, _⟩, rfl⟩ := hL
      refine Made.pure R (v := .int .i64 n) ?_ (by rw [hC.alg]; simp only [den]; rfl)
      have ha : Array.map a.eval args = #[.slice (some ⟨b, o', none⟩) n c] := by apply Array.ext'; simpa using hl
      have hun := (hC.ti t i hi).slice hk
      simp only [execOp, resolve, ha, Sem.run_bind, Pure.pure, Sem.run, Result.andThen_ok, invoke, builtin, Builtin.len_]
      simp only at ht
      simp [ht, run_und hun, goInt]
     ·cases hs
   ·cases hs
  ·cases hs
theorem step_call (hC : C.ok P G) (R : RelH G C.own w0 X0 h w ρ) {ev : Operand → D} {a : Act} {nm : Nat} {o : Oper}
  (hx : ∀ x ∈ o.op.operands.toList, den (envr X0 h w ρ) (ev x) (a.eval x)) {p : Prop} {d : D} {e : Eff} (hs : step C ev h nm o = some (p, d, e)) (hp : p)
  {c : Call} {f : Nat} (hc : o.op = .call c) (hf : c.callee = .value (.func f)) (hnx : C.ext f = none) :
  e = .none ∧ ∃ args, (execOp a.eval o).run P w = .ok (.enter f args) w ∧
   Calls P f args w fun en w' => ∃ v, en = .returned v ∧ RelH G C.own w0 X0 h w' ρ ∧ Le (envr X0 h w ρ) (envr X0 h w' ρ) ∧ den (envr X0 h w' ρ) d v := by
 obtain ⟨dst, op, ty, pos, after, guard⟩ := o
 simp only at hc
 subst hc
 obtain ⟨callee, args, argTypes⟩ := c
 simp only at hf
 subst hf
 simp only [Op.operands] at hx
 have hL : denL (envr X0 h w ρ) (args.toList.map fun x => (ev x).nrm) (args.toList.map a.eval) := denL_map (ev := fun x => (ev x).nrm) _ (fun x hm => den_nrm <| hx x (by
  simp only [Call.operands, Array.toList_append, List.mem_append]; exact .inr hm))
 simp only [step] at hs
 rw [hnx] at hs
 simp only at hs
 split at hs
 ·rename_i hpure'
  obtain ⟨hpure, hstr⟩ := hpure'
  cases hcl : C.call f (args.toList.map fun x => (ev x).nrm) with
  | none => simp [hcl] at hs
  | some r =>
   obtain ⟨p', d'⟩ := r
   simp only [hcl, Option.map_some, Option.some.injEq, Prod.mk.injEq] at hs
   obtain ⟨rfl, rfl, rfl⟩ := hs
   obtain ⟨⟨fn, cd, hfn, hname, hbody⟩, hsound⟩ := hC.call _ _ _ _ hcl
   refine ⟨rfl, args.map a.eval, ?_, ?_⟩
   ·have hev : a.eval (.func f) = .func (.func f) #[] #[] := rfl
    have := enter_run (P := P) hfn hname hbody (args.map a.eval) w
    simp only [execOp, resolve, hev, Deferred.ofValue, Sem.run_bind, Pure.pure, Sem.run, Result.andThen_ok, invoke]
    simpa using this
   ·have hd := denL_pure (ρ' := fun _ => none) hpure hL
    have hcall := hsound hp _ w (args.toList.map a.eval) (hC.mono w0 w R.below R.g) (R.own.weak fun hw => by rw [hw] at hstr; simpa using hstr) hd
    have ha : (args.toList.map a.eval).toArray = args.map a.eval := by apply Array.ext'; simp only [Array.toList_map]
    rw [ha] at hcall
    refine hcall.mono fun en w' hh => ?_
    obtain ⟨v, d'', rfl, rfl, hdv, hb⟩ := hh
    obtain ⟨R', hle⟩ := R.bel hb
    exact ⟨v, rfl, R', hle, den_mono Le.rho_none _ _ hdv⟩
 ·cases hs
theorem step_callv (hC : C.ok P G) (R : RelH G C.own w0 X0 h w ρ) {ev : Operand → D} {a : Act} {nm : Nat} {o : Oper}
  (hx : ∀ x ∈ o.op.operands.toList, den (envr X0 h w ρ) (ev x) (a.eval x)) {p : Prop} {d : D} {e : Eff} (hs : step C ev h nm o = some (p, d, e)) (hp : p)
  {c : Call} {t : Nat} (hc : o.op = .call c) (hf : c.callee = .value (.tmp t)) :
  e = .none ∧ ∃ f args, (execOp a.eval o).run P w = .ok (.enter f args) w ∧
   Calls P f args w fun en w' => ∃ v, en = .returned v ∧ RelH G C.own w0 X0 h w' ρ ∧ Le (envr X0 h w ρ) (envr X0 h w' ρ) ∧ den (envr X0 h w' ρ) d v := by
 obtain ⟨dst, op, ty, pos, after, guard⟩ := o
 simp only at hc
 subst hc
 obtain ⟨callee, args, argTypes⟩ := c
 simp only at hf
 subst hf
 simp only [Op.operands] at hx
 have hL : denL (envr X0 h w ρ) (args.toList.map fun x => (ev x).nrm) (args.toList.map a.eval) := denL_map (ev := fun x => (ev x).nrm) _ (fun x hm => den_nrm <| hx x (by
  simp only [Call.operands, Array.toList_append, List.mem_append]; exact .inr hm))
 have hv := hx (.tmp t) (by simp only [Call.operands, Array.toList_append, List.mem_append]; exact .inl (by simp))
 simp only [step] at hs
 split at hs
 ·rename_i f cs hev
  rw [hev] at hv
  simp only [den] at hv
  obtain ⟨us, hv, hcs⟩ := hv
  split at hs
  ·cases hs
  ·rename_i hnx
   split at hs
   ·rename_i hpure'
    obtain ⟨hpure, hstr⟩ := hpure'
    cases hcl : C.call f ((args.toList.map fun x => (ev x).nrm) ++ cs) with
    | none => simp [hcl] at hs
    | some r =>
     obtain ⟨p', d'⟩ := r
     simp only [hcl, Option.map_some, Option.some.injEq, Prod.mk.injEq] at hs
     obtain ⟨rfl, rfl, rfl⟩ := hs
     obtain ⟨⟨fn, cd, hfn, hname, hbody⟩, hsound⟩ := hC.call _ _ _ _ hcl
     refine ⟨rfl, f, args.map a.eval ++ us, ?_, ?_⟩
     ·have := enter_run (P := P) hfn hname hbody (args.map a.eval ++ us) w
      simp only [execOp, resolve, hv, Deferred.ofValue, Sem.run_bind, Pure.pure, Sem.run, Result.andThen_ok, invoke]
      simpa using this
     ·rw [List.all_append, Bool.and_eq_true] at hpure
      have hd := denL_append (denL_pure (ρ' := fun _ => none) hpure.1 hL) hcs
      have hcall := hsound hp _ w ((args.toList.map a.eval) ++ us.toList) (hC.mono w0 w R.below R.g) (R.own.weak fun hw => by rw [hw] at hstr; simpa using hstr) hd
      have ha : ((args.toList.map a.eval) ++ us.toList).toArray = args.map a.eval ++ us := by apply Array.ext'; simp
      rw [ha] at hcall
      refine hcall.mono fun en w' hh => ?_
      obtain ⟨v, d'', rfl, rfl, hdv, hb⟩ := hh
      obtain ⟨R', hle⟩ := R.bel hb
      exact ⟨v, rfl, R', hle, den_mono Le.rho_none _ _ hdv⟩
   ·cases hs
 ·cases hs
end
end Go.Proofs.YtnjjfakjnkhhjaaGreatDoor.Ev
