/- Data without memory: what values of a world are, and the steps of code on them. -/
import Derived.Orders
import Derived.Below
import Derived.Laws.CopyRow
import Derived.Laws.Cells
import Derived.Laws.Tables
import Derived.Laws.Rows
namespace Go.Proofs.YtkijhcflomjdbaaDoor.Ev
open Go Go.RowKit
set_option linter.unusedSimpArgs false
set_option linter.unusedVariables false
/-- what a value is, wherever it lies. -/
inductive D where
  | undef
  | bool (b : Bool) | kb (b : Bool) | int (k : IntKind) (n : Int) | flt (k : FloatKind) (bits : Nat) | cpx (k : FloatKind) (re im : Nat) | str (s : ByteArray)
  | sl (n : Nat) (cs : List D)
  | osl (k n : Nat)
  | ptr (k off : Nat)
  | gptr (g off : Nat)
  | gsym (g off : Nat)
  | eptr (cs : List D) (off : Nat)
  | agg (cs : List D)
  | tup (ds : List D)
inductive TK where | basic | intk (k : IntKind) | struct (fs : List (Nat × Nat)) | array (n e : Nat) | slice (e : Nat) | str | boolk | other
structure TI where
  size : Nat
  zv : Value
  k : TK
def TI.agg (i : TI) : Bool := match i.k with | .struct _ | .array _ _ => true | _ => false
/-- an own variable or array: its type, its cells, whether nothing is written there any more. -/
structure Ent where
  t : Nat
  cs : List D
  fz : Bool
inductive Eff where | none | new (e : Ent) | store (k off : Nat) (cs : List D)
def onB (o : Oper) : List Nat := o.after.toList.filterMap fun e => if Region.binds .any e then some e.on else none
def isStore : Op → Bool | .store _ _ _ => true | _ => false
def tmpOf : Operand → Option Nat | .tmp t => some t | _ => none
def readsOf (all : List Oper) (o : Oper) : List Nat := o.op.operands.toList.filterMap tmpOf ++ (match o.guard with | some (j, _) => ((all[j]?).bind (·.dst)).toList | none => [])
def pairOk (all : List Oper) (o : Oper) (i : Nat) (q : Oper) (j : Nat) : Bool :=
  i == j || ((match q.dst with | some t => (!(readsOf all o).contains t || (onB o).contains j) && (o.dst != some t) | none => true))
/-- whatever order is drawn, the same is got: what an operation reads is there ahead of it. -/
def safe (all : List Oper) (nt : Nat) : Bool :=
  all.zipIdx.all fun p => ((onB p.1).all fun j => decide (j < p.2)) && (match p.1.dst with | some t => decide (t < nt) | none => true) && all.zipIdx.all fun q => pairOk all p.1 p.2 q.1 q.2
def anyStore (all : List Oper) : Bool := all.any fun q => isStore q.op
/-- sums of numbers, as letters. -/
structure Alg where
  add : IntKind → Int → Int → Int
  sub : IntKind → Int → Int → Int
  mul : IntKind → Int → Int → Int
  quo : IntKind → Int → Int → Int
  rem : IntKind → Int → Int → Int
  eq : Int → Int → Bool
  lt : Int → Int → Bool
  le : Int → Int → Bool
  nz : Int → Prop
  cv : IntKind → Int → Int
  of : Nat → Int
  min : Int → Int → Int
  max : Int → Int → Int
  not : Bool → Bool
  beq : Bool → Bool → Bool
  and : IntKind → Int → Int → Int
  inS : Int → Nat → List D → Prop
  cellOk : IntKind → List D → Nat → Prop
  cellV : List D → Nat → Int
  pick : Bool → Bool → Bool → Bool
  tru : Bool → Prop
  fls : Bool → Prop
  idx : Nat → Int → Nat → Nat
  inr : Int → Nat → Prop
  inb : Nat → Nat → Prop
  nth : List Int → Nat → Int
  upto : Int → Nat → List D → Prop
  less : Nat → Int → Nat
  drop : Int → List D → List D
  safe : List Oper → Nat → Bool
def std : Alg where
  add k a b := k.wrap (a + b)
  sub k a b := k.wrap (a - b)
  mul k a b := k.wrap (a * b)
  quo k a b := k.wrap (a.tdiv b)
  rem _ a b := a.tmod b
  eq a b := a == b
  lt a b := decide (a < b)
  le a b := decide (a ≤ b)
  nz a := a ≠ 0
  cv k a := k.wrap a
  of n := n
  min a b := if b < a then b else a
  max a b := if b > a then b else a
  not b := !b
  beq a b := a == b
  and k a b := k.wrap (BitVec.ofInt k.bits a &&& BitVec.ofInt k.bits b).toNat
  inS i n cs := 0 ≤ i ∧ i < n ∧ cs.length = n
  cellOk k cs i := ∃ z, cs[i]? = some (.int k z)
  cellV cs i := match cs[i]? with | some (.int _ z) => z | _ => 0
  pick t x y := if t then x else y
  tru t := t = true
  fls t := t = false
  idx o i s := o + i.toNat * s
  inr i n := 0 ≤ i ∧ i < n
  inb i n := i < n
  nth l i := l.getD i 0
  upto i n cs := 0 ≤ i ∧ i ≤ n ∧ cs.length = n
  less n i := n - i.toNat
  drop i cs := cs.drop i.toNat
  safe := Ev.safe
structure Ctx where
  ti : Nat → Option TI
  gt : Nat → Option (List D)
  call : Nat → List D → Option (Prop × D)
  A : Alg
def D.cells : D → List D | .agg cs => cs | d => [d]
def ofConst : Value → D
  | .bool b => .kb b | .int k n => .int k n | .string s => .str s | .slice none 0 0 => .sl 0 [] | .float k b => .flt k b | .complex k a b => .cpx k a b | _ => .undef
/-- a value of one cell that may lie in an own variable. -/
def D.one : D → Bool
  | .bool _ | .kb _ | .flt _ _ | .cpx _ _ _ | .str _ | .sl _ _ | .osl _ _ | .ptr _ _ | .gptr _ _ | .gsym _ _ | .eptr _ _ => true
  | .int k _ => match k with | .u32 => false | _ => true
  | _ => false
/-- a value of one cell. -/
def D.cell : D → Bool
  | .bool _ | .kb _ | .flt _ _ | .cpx _ _ _ | .str _ | .sl _ _ | .osl _ _ | .ptr _ _ | .gptr _ _ | .gsym _ _ | .eptr _ _ | .int _ _ => true
  | _ => false
/-- a value of one cell without own variables. -/
def D.frz : D → Bool
  | .bool _ | .kb _ | .flt _ _ | .cpx _ _ _ | .str _ | .int _ _ | .sl _ _ | .gptr _ _ | .gsym _ _ | .eptr _ _ => true
  | _ => false
/-- without own variables. -/
def D.pure : D → Bool
  | .bool _ | .kb _ | .flt _ _ | .cpx _ _ _ | .str _ | .int _ _ | .sl _ _ | .gptr _ _ | .gsym _ _ | .eptr _ _ => true
  | .agg cs => cs.all fun d => match d with | .bool _ | .kb _ | .flt _ _ | .cpx _ _ _ | .str _ | .int _ _ | .sl _ _ | .gptr _ _ | .gsym _ _ | .eptr _ _ => true | _ => false
  | _ => false
def asB : D → Option Bool | .bool b => some b | .kb b => some b | _ => none
def D.nrm1 : D → D | .kb b => .bool b | d => d
/-- what is known counts as what it is. -/
def D.nrm : D → D | .kb b => .bool b | .agg cs => .agg (cs.map D.nrm1) | d => d
def mk (i : TI) (cs : List D) : Option D := if i.agg then some (.agg cs) else match cs with | [c] => some c | _ => none
def fillD (place : Nat → Option (Nat × Nat)) (cells : List D) : List (Nat × D) → Option (List D)
  | [] => some cells
  | (i, v) :: rest => match place i with
    | none => none
    | some (off, size) => if v.cells.length = size ∧ off + size ≤ cells.length then fillD place (cells.take off ++ v.cells ++ cells.drop (off + size)) rest else none
def rep (n : Nat) (cs : List D) : List D := match n with | 0 => [] | n + 1 => rep n cs ++ cs
def bin (A : Alg) (bt : Bool) (op : BinOp) (x y : D) : Option (Prop × D) :=
  match x, y with
  | .int k a, .int k' b => if k = k' then match op with
      | .add => some (True, .int k (A.add k a b)) | .sub => some (True, .int k (A.sub k a b)) | .mul => some (True, .int k (A.mul k a b))
      | .quo => some (A.nz b, .int k (A.quo k a b)) | .rem => some (A.nz b, .int k (A.rem k a b))
      | .and => some (True, .int k (A.and k a b))
      | .eql => some (True, .bool (A.eq a b)) | .neq => some (True, .bool (A.not (A.eq a b)))
      | .lss => some (True, .bool (A.lt a b)) | .leq => some (True, .bool (A.le a b)) | .gtr => some (True, .bool (A.lt b a)) | .geq => some (True, .bool (A.le b a))
      | _ => none else none
  | x, y => match asB x, asB y with
    | some a, some b => if bt = false then none else match op with | .eql => some (True, .bool (A.beq a b)) | .neq => some (True, .bool (A.not (A.beq a b))) | _ => none
    | _, _ => none
/-- numbers of one kind. -/
def intsOf : List D → Option (IntKind × List Int)
  | [.int k z] => some (k, [z])
  | .int k z :: cs => match intsOf cs with | some (k', l) => if k = k' then some (k, z :: l) else none | none => none
  | _ => none
def cellsAt (C : Ctx) (h : Nat → Option Ent) : D → Option (List D × Nat)
  | .ptr k off => (h k).map fun e => (e.cs, off)
  | .gptr g off => (C.gt g).map fun cs => (cs, off)
  | .eptr cs off => some (cs, off)
  | _ => none
def move : D → Nat → Option D
  | .ptr k o, n => some (.ptr k (o + n))
  | .gptr g o, n => some (.gptr g (o + n))
  | _, _ => none
def TI.zero (i : TI) : List D := i.zv.cells.toList.map ofConst
def places (C : Ctx) (fs : List (Nat × Nat)) (j : Nat) : Option (Nat × Nat) := (fs[j]?).bind fun f => (C.ti f.2).map fun i => (f.1, i.size)
def isB (C : Ctx) (t : Nat) : Bool := match C.ti t with | some i => (match i.k with | .boolk => true | _ => false) | none => false
/-- one step: what must hold, what is got, what is done to own variables. 'nm' is the next new variable's name. -/
def step (C : Ctx) (ev : Operand → D) (h : Nat → Option Ent) (nm : Nat) (o : Oper) : Option (Prop × D × Eff) :=
  match o.op with
  | .move x | .assign x => some (True, ev x, .none)
  | .pick c a b => match ev c with
    | .kb t => some (True, match t with | true => ev a | false => ev b, .none)
    | .bool t => match asB (ev a), asB (ev b) with
      | some x, some y => some (True, .bool (C.A.pick t x y), .none)
      | _, _ => none
    | _ => none
  | .alloc t => (C.ti t).bind fun i => if i.zero.all D.one then some (True, .ptr nm 0, .new ⟨t, i.zero, false⟩) else none
  | .box t x => if (ev x).cells.all D.one then some (True, .ptr nm 0, .new ⟨t, (ev x).cells, false⟩) else none
  | .build t ps => (C.ti t).bind fun i => match i.k with
    | .struct fs => if (fs.all fun f => (C.ti f.2).isSome) = true ∧ (ps.toList.all fun p => (ev p.2).cells.all D.one) = true then (fillD (places C fs) i.zero (ps.toList.map fun p => (p.1, ev p.2))).map fun cs => (True, .agg cs, .none) else none
    | _ => none
  | .buildSlice t n ps => (C.ti t).bind fun i => match i.k with
    | .slice e => (C.ti e).bind fun j => if n * j.size ≤ 16777216 ∧ (ps.toList.all fun p => (ev p.2).cells.all D.frz) = true ∧ (j.zero.all D.frz) = true ∧ j.zero.length = j.size then (fillD (fun k => some (k * j.size, j.size)) (rep n j.zero) (ps.toList.map fun p => (p.1, ev p.2))).map fun cs => (True, .sl n cs, .none) else none
    | _ => none
  | .load t a => (C.ti t).bind fun i => match ev a with
   | .gsym g off => (C.gt g).bind fun cs => match intsOf cs with
    | some (k, l) => if i.size = 1 ∧ i.agg = false then some (C.A.inb off l.length, .int k (C.A.nth l off), .none) else none
    | none => none
   | .eptr cs off => (match i.zv with
    | .int kk _ => if i.size = 1 ∧ i.agg = false then some (C.A.cellOk kk cs off, .int kk (C.A.cellV cs off), .none) else none
    | _ => if off + i.size ≤ cs.length then (mk i ((cs.drop off).take i.size)).map fun d => (True, d, .none) else none)
   | _ => (cellsAt C h (ev a)).bind fun c => if c.2 + i.size ≤ c.1.length then (mk i ((c.1.drop c.2).take i.size)).map fun d => (True, d, .none) else none
  | .store t a x => (C.ti t).bind fun i => match ev a with
    | .ptr k off => (h k).bind fun e => if (ev x).cells.length = i.size ∧ off + i.size ≤ e.cs.length ∧ e.fz = false ∧ (ev x).cells.all D.one then some (True, .tup [], .store k off (ev x).cells) else none
    | _ => none
  | .binOp op t x y _ => (bin C.A (isB C t) op (ev x) (ev y)).map fun p => (p.1, p.2, .none)
  | .unOp op _ x => match op, ev x with
    | .not, .kb b => some (True, .kb (!b), .none)
    | .not, .bool b => some (True, .bool (C.A.not b), .none)
    | .neg, .int k n => some (True, .int k (C.A.sub k 0 n), .none)
    | _, _ => none
  | .convert s t x => (C.ti s).bind fun _ => (C.ti t).bind fun i => match i.k, ev x with
    | .intk k, .int _ n => some (True, .int k (C.A.cv k n), .none)
    | _, _ => none
  | .fieldAddr t x f => (C.ti t).bind fun i => match i.k with
    | .struct fs => (fs[f]?).bind fun p => (C.ti p.2).bind fun j => if j.size = 0 then none else (move (ev x) p.1).map fun d => (True, d, .none)
    | _ => none
  | .indexAddr t x ix => (C.ti t).bind fun i => match i.k, ev x, ev ix with
    | .array n e, .gptr g o, .int _ k => (C.ti e).bind fun j => some (C.A.inr k n, .gsym g (C.A.idx o k j.size), .none)
    | .array n e, .gsym g o, .int _ k => (C.ti e).bind fun j => some (C.A.inr k n, .gsym g (C.A.idx o k j.size), .none)
    | .slice e, .sl n cs, .int _ k => (C.ti e).bind fun j => if j.size = 1 then some (C.A.inS k n cs, .eptr cs (C.A.idx 0 k 1), .none) else none
    | .array n e, _, .int _ (.ofNat m) => (C.ti e).bind fun j => if m < n then (move (ev x) (m * j.size)).map fun d => (True, d, .none) else none
    | _, _, _ => none
  | .slice t x lo hi mx => (C.ti t).bind fun i => match i.k, ev x, lo, hi, mx with
    | .slice e, .sl n cs, some l, none, none => (C.ti e).bind fun j => match ev l with
      | .int _ k => if j.size = 1 then some (C.A.upto k n cs, .sl (C.A.less n k) (C.A.drop k cs), .none) else none
      | _ => none
    | _, _, _, _, _ => none
  | .field t x f => (C.ti t).bind fun i => match i.k, ev x with
    | .struct fs, .agg cs => (fs[f]?).bind fun p => (C.ti p.2).bind fun j => if p.1 + j.size ≤ cs.length then (mk j ((cs.drop p.1).take j.size)).map fun d => (True, d, .none) else none
    | _, _ => none
  | .extract x i => match ev x with
    | .tup ds => (ds[i]?).map fun d => (True, d, .none)
    | _ => none
  | .call c => match c.callee, c.args.toList.map fun x => (ev x).nrm with
    | .value (.func f), ds => if ds.all D.pure then (C.call f ds).map fun p => (p.1, p.2, .none) else none
    | .builtin .min, [.int k a, .int k' b] => if k = k' then some (True, .int k (C.A.min a b), .none) else none
    | .builtin .max, [.int k a, .int k' b] => if k = k' then some (True, .int k (C.A.max a b), .none) else none
    | .builtin .len, [.sl n _] => match c.argTypes[0]? with
      | some t => (C.ti t).bind fun i => match i.k with | .slice _ => some (True, .int .i64 (C.A.of n), .none) | _ => none
      | none => none
    | _, _ => none
  | _ => none
structure Env where
  w : World
  X : Nat → Prop
  ρ : Nat → Option Nat
mutual
/-- in this world, where the blocks of X are shut out and the own variables lie at ρ, the datum is told by the value. -/
def den : Env → D → Value → Prop
  | _, .undef, _ => True
  | _, .bool b, v => v = .bool b
  | _, .kb b, v => v = .bool b
  | _, .int k n, v => v = .int k n
  | _, .flt k b, v => v = .float k b
  | _, .cpx k a b, v => v = .complex k a b
  | _, .str s, v => v = .string s
  | E, .sl n cs, v => ∃ A c, v = .slice A n c ∧ n ≤ c ∧ (0 < cs.length → ∃ b o, A = some ⟨b, o, none⟩ ∧ b < E.w.heap.size ∧ ¬ E.X b ∧ denC E.w E.X b o cs)
  | E, .osl k n, v => ∃ b c, v = .slice (some ⟨b, 0, none⟩) n c ∧ n ≤ c ∧ E.ρ k = some b
  | E, .ptr k off, v => ∃ b, v = .pointer (some ⟨b, off, none⟩) ∧ E.ρ k = some b
  | _, .gptr g off, v => v = .pointer (some ⟨g, off, none⟩)
  | _, .gsym g off, v => v = .pointer (some ⟨g, off, none⟩)
  | E, .eptr cs off, v => ∃ b o, v = .pointer (some ⟨b, o + off, none⟩) ∧ b < E.w.heap.size ∧ ¬ E.X b ∧ denC E.w E.X b o cs
  | E, .agg cs, v => ∃ vs, v = .agg vs ∧ denL E cs vs.toList
  | E, .tup ds, v => ∃ vs, v = .tuple vs ∧ denL E ds vs.toList
def denL : Env → List D → List Value → Prop
  | _, [], vs => vs = []
  | E, d :: ds, vs => ∃ v us, vs = v :: us ∧ den E d v ∧ denL E ds us
def denC : World → (Nat → Prop) → Nat → Nat → List D → Prop
  | _, _, _, _, [] => True
  | w, X, b, o, d :: ds => (∃ v, w.cell? ⟨b, o, none⟩ = some v ∧ v.oneCell' = true ∧ den ⟨w, X, fun _ => none⟩ d v) ∧ denC w X b (o + 1) ds
end
theorem den_agg {E : Env} {cs : List D} {v : Value} : den E (.agg cs) v = ∃ vs, v = .agg vs ∧ denL E cs vs.toList := by simp only [den]
theorem den_bool {E : Env} {b : Bool} {v : Value} : den E (.bool b) v = (v = .bool b) := by simp only [den]
/-- from one world to a later one: what is not shut out stays. -/
structure Le (E E' : Env) : Prop where
  size : E.w.heap.size ≤ E'.w.heap.size
  keep : ∀ b, b < E.w.heap.size → ¬ E.X b → E'.w.heap[b]? = E.w.heap[b]? ∧ ¬ E'.X b
  rho : ∀ k b, E.ρ k = some b → E'.ρ k = some b
theorem Le.refl (E : Env) : Le E E := ⟨Nat.le_refl _, fun _ _ h => ⟨rfl, h⟩, fun _ _ h => h⟩
theorem Le.trans {E F G : Env} (h : Le E F) (k : Le F G) : Le E G :=
  ⟨Nat.le_trans h.size k.size, fun b hb hX => by
    obtain ⟨h1, h2⟩ := h.keep b hb hX
    obtain ⟨h3, h4⟩ := k.keep b (Nat.lt_of_lt_of_le hb h.size) h2
    exact ⟨h3.trans h1, h4⟩, fun k' b hk => k.rho k' b (h.rho k' b hk)⟩
theorem Le.cell {E E' : Env} (h : Le E E') {b : Nat} (hb : b < E.w.heap.size) (hX : ¬ E.X b) (o : Nat) : E'.w.cell? ⟨b, o, none⟩ = E.w.cell? ⟨b, o, none⟩ :=
  World.cell?_of_block (w := E.w) (h.keep b hb hX).1
mutual
theorem den_mono : ∀ {E E' : Env} (_ : Le E E') (d : D) (v : Value), den E d v → den E' d v
  | _, _, h, .undef, _, _ => by simp only [den]
  | _, _, h, .bool b, v, hv => by simpa only [den] using hv
  | _, _, h, .kb b, v, hv => by simpa only [den] using hv
  | _, _, h, .int k n, v, hv => by simpa only [den] using hv
  | _, _, h, .flt k b, v, hv => by simpa only [den] using hv
  | _, _, h, .cpx k a b, v, hv => by simpa only [den] using hv
  | _, _, h, .str s, v, hv => by simpa only [den] using hv
  | _, _, h, .sl n cs, v, hv => by
    simp only [den] at hv ⊢
    obtain ⟨A, c, rfl, hn, hb⟩ := hv
    refine ⟨A, c, rfl, hn, fun h0 => ?_⟩
    obtain ⟨b, o, rfl, h1, h2, h3⟩ := hb h0
    exact ⟨b, o, rfl, Nat.lt_of_lt_of_le h1 h.size, (h.keep b h1 h2).2, denC_mono h b h1 h2 cs o h3⟩
  | _, _, h, .osl k n, v, hv => by
    simp only [den] at hv ⊢
    obtain ⟨b, c, rfl, hn, hb⟩ := hv
    exact ⟨b, c, rfl, hn, h.rho _ _ hb⟩
  | _, _, h, .ptr k off, v, hv => by
    simp only [den] at hv ⊢
    obtain ⟨b, rfl, hb⟩ := hv
    exact ⟨b, rfl, h.rho _ _ hb⟩
  | _, _, h, .gptr g off, v, hv => by simpa only [den] using hv
  | _, _, h, .gsym g off, v, hv => by simpa only [den] using hv
  | _, _, h, .eptr cs off, v, hv => by
    simp only [den] at hv ⊢
    obtain ⟨b, o, rfl, h1, h2, h3⟩ := hv
    exact ⟨b, o, rfl, Nat.lt_of_lt_of_le h1 h.size, (h.keep b h1 h2).2, denC_mono h b h1 h2 cs o h3⟩
  | _, _, h, .agg cs, v, hv => by
    simp only [den] at hv ⊢
    obtain ⟨vs, rfl, hd⟩ := hv
    exact ⟨vs, rfl, denL_mono h cs _ hd⟩
  | _, _, h, .tup cs, v, hv => by
    simp only [den] at hv ⊢
    obtain ⟨vs, rfl, hd⟩ := hv
    exact ⟨vs, rfl, denL_mono h cs _ hd⟩
theorem denL_mono : ∀ {E E' : Env} (_ : Le E E') (ds : List D) (vs : List Value), denL E ds vs → denL E' ds vs
  | _, _, _, [], vs, hv => by simpa only [denL] using hv
  | _, _, h, d :: ds, vs, hv => by
    simp only [denL] at hv ⊢
    obtain ⟨v, us, rfl, h1, h2⟩ := hv
    exact ⟨v, us, rfl, den_mono h d v h1, denL_mono h ds us h2⟩
theorem denC_mono : ∀ {E E' : Env} (_ : Le E E') (b : Nat) (_ : b < E.w.heap.size) (_ : ¬ E.X b) (ds : List D) (o : Nat), denC E.w E.X b o ds → denC E'.w E'.X b o ds
  | _, _, _, _, _, _, [], o, hv => by simp only [denC]
  | E, E', h, b, hb, hX, d :: ds, o, hv => by
    simp only [denC] at hv ⊢
    obtain ⟨⟨v, hc, h1, hd⟩, h2⟩ := hv
    exact ⟨⟨v, by rw [h.cell hb hX]; exact hc, h1, den_mono (E := ⟨E.w, E.X, fun _ => none⟩) (E' := ⟨E'.w, E'.X, fun _ => none⟩) ⟨h.size, h.keep, fun _ _ hk => by cases hk⟩ d v hd⟩, denC_mono h b hb hX ds (o + 1) h2⟩
end
theorem denL_len {E : Env} : ∀ {ds : List D} {vs : List Value}, denL E ds vs → vs.length = ds.length
  | [], _, h => by simp only [denL] at h; subst h; rfl
  | _ :: ds, _, h => by
    simp only [denL] at h
    obtain ⟨v, us, rfl, _, h2⟩ := h
    simp [denL_len h2]
theorem denL_get {E : Env} : ∀ {ds : List D} {vs : List Value}, denL E ds vs → ∀ {i : Nat} {d : D}, ds[i]? = some d → ∃ v, vs[i]? = some v ∧ den E d v
  | [], _, _, i, d, hd => by simp at hd
  | e :: ds, _, h, i, d, hd => by
    simp only [denL] at h
    obtain ⟨v, us, rfl, h1, h2⟩ := h
    cases i with
    | zero => simp at hd; subst hd; exact ⟨v, rfl, h1⟩
    | succ i => simp at hd ⊢; exact denL_get h2 hd
theorem denL_take {E : Env} : ∀ {ds : List D} {vs : List Value}, denL E ds vs → ∀ n, denL E (ds.take n) (vs.take n)
  | [], _, h, n => by simp only [denL] at h; subst h; simp [denL]
  | e :: ds, _, h, n => by
    simp only [denL] at h
    obtain ⟨v, us, rfl, h1, h2⟩ := h
    cases n with
    | zero => simp [denL]
    | succ n => simp only [List.take_succ_cons, denL]; exact ⟨v, _, rfl, h1, denL_take h2 n⟩
theorem denL_drop {E : Env} : ∀ {ds : List D} {vs : List Value}, denL E ds vs → ∀ n, denL E (ds.drop n) (vs.drop n)
  | [], _, h, n => by simp only [denL] at h; subst h; simp [denL]
  | e :: ds, _, h, n => by
    cases n with
    | zero => exact h
    | succ n =>
      simp only [denL] at h
      obtain ⟨v, us, rfl, h1, h2⟩ := h
      simp only [List.drop_succ_cons]; exact denL_drop h2 n
theorem denL_append {E : Env} : ∀ {ds es : List D} {vs us : List Value}, denL E ds vs → denL E es us → denL E (ds ++ es) (vs ++ us)
  | [], _, _, _, h, k => by simp only [denL] at h; subst h; exact k
  | e :: ds, es, _, us, h, k => by
    simp only [denL] at h
    obtain ⟨v, us', rfl, h1, h2⟩ := h
    simp only [List.cons_append, denL]
    exact ⟨v, _, rfl, h1, denL_append h2 k⟩
theorem denC_drop {w : World} {X : Nat → Prop} {b : Nat} : ∀ {ds : List D} {o : Nat} (n : Nat), denC w X b o ds → denC w X b (o + n) (ds.drop n)
  | ds, o, 0, h => h
  | [], o, n + 1, h => by simp [denC]
  | d :: ds, o, n + 1, h => by
    simp only [denC] at h
    have := denC_drop n h.2
    rw [List.drop_succ_cons, show o + (n + 1) = o + 1 + n by omega]; exact this
theorem den_one {E : Env} {d : D} {v : Value} (h1 : d.one = true) (h : den E d v) : v.oneCell' = true ∧ ∀ n, v ≠ .int .u32 n := by
  cases d with
  | int k n =>
    simp only [den] at h
    subst h
    refine ⟨rfl, fun m => ?_⟩
    cases k <;> first | (simp [D.one] at h1; done) | simp
  | undef => simp [D.one] at h1
  | agg => simp [D.one] at h1
  | tup => simp [D.one] at h1
  | sl => simp only [den] at h; obtain ⟨A, c, rfl, _⟩ := h; exact ⟨rfl, fun n => by simp⟩
  | osl => simp only [den] at h; obtain ⟨A, c, rfl, _⟩ := h; exact ⟨rfl, fun n => by simp⟩
  | ptr => simp only [den] at h; obtain ⟨b, rfl, _⟩ := h; exact ⟨rfl, fun n => by simp⟩
  | eptr => simp only [den] at h; obtain ⟨b, o, rfl, _⟩ := h; exact ⟨rfl, fun n => by simp⟩
  | _ => simp only [den] at h; subst h; exact ⟨rfl, fun n => by simp⟩
theorem den_cell {E : Env} {d : D} {v : Value} (h1 : d.cell = true) (h : den E d v) : v.oneCell' = true := by
  cases d with
  | int k n => simp only [den] at h; subst h; rfl
  | undef => simp [D.cell] at h1
  | agg => simp [D.cell] at h1
  | tup => simp [D.cell] at h1
  | sl => simp only [den] at h; obtain ⟨A, c, rfl, _⟩ := h; rfl
  | osl => simp only [den] at h; obtain ⟨A, c, rfl, _⟩ := h; rfl
  | ptr => simp only [den] at h; obtain ⟨b, rfl, _⟩ := h; rfl
  | eptr => simp only [den] at h; obtain ⟨b, o, rfl, _⟩ := h; rfl
  | _ => simp only [den] at h; subst h; rfl
theorem one_cell {d : D} (h : d.one = true) : d.cell = true := by cases d <;> first | rfl | (simp [D.one] at h)
theorem all_cell {l : List D} (h : l.all D.one = true) : l.all D.cell = true := List.all_eq_true.2 fun d hd => one_cell (List.all_eq_true.1 h d hd)
theorem frz_cell {d : D} (h : d.frz = true) : d.cell = true := by cases d <;> first | rfl | (simp [D.frz] at h)
theorem frz_all {l : List D} (h : l.all D.frz = true) : l.all D.cell = true := List.all_eq_true.2 fun d hd => frz_cell (List.all_eq_true.1 h d hd)
theorem denL_one {E : Env} : ∀ {ds : List D} {vs : List Value}, ds.all D.one = true → denL E ds vs → ∀ v ∈ vs, v.oneCell' = true ∧ ∀ n, v ≠ .int .u32 n
  | [], _, _, h, v, hv => by simp only [denL] at h; subst h; simp at hv
  | e :: ds, _, h1, h, v, hv => by
    simp only [denL] at h
    obtain ⟨u, us, rfl, h2, h3⟩ := h
    simp only [List.all_cons, Bool.and_eq_true] at h1
    rcases List.mem_cons.1 hv with rfl | hv
    · exact den_one h1.1 h2
    · exact denL_one h1.2 h3 v hv
/-- without own variables a datum is told wherever they lie. -/
theorem den_pure1 {w : World} {X : Nat → Prop} {ρ ρ' : Nat → Option Nat} : ∀ {d : D} {v : Value}, (match d with | .bool _ | .kb _ | .flt _ _ | .cpx _ _ _ | .str _ | .int _ _ | .sl _ _ | .gptr _ _ | .gsym _ _ | .eptr _ _ => true | _ => false) = true → den ⟨w, X, ρ⟩ d v → den ⟨w, X, ρ'⟩ d v := by
  intro d v hp h
  cases d <;> simp at hp <;> simpa only [den] using h
theorem denL_pure1 {w : World} {X : Nat → Prop} {ρ ρ' : Nat → Option Nat} : ∀ {ds : List D} {vs : List Value}, (ds.all fun d => match d with | .bool _ | .kb _ | .flt _ _ | .cpx _ _ _ | .str _ | .int _ _ | .sl _ _ | .gptr _ _ | .gsym _ _ | .eptr _ _ => true | _ => false) = true → denL ⟨w, X, ρ⟩ ds vs → denL ⟨w, X, ρ'⟩ ds vs
  | [], _, _, h => by simpa only [denL] using h
  | d :: ds, _, hp, h => by
    simp only [denL] at h ⊢
    obtain ⟨v, us, rfl, h1, h2⟩ := h
    rw [List.all_cons, Bool.and_eq_true] at hp
    exact ⟨v, us, rfl, den_pure1 hp.1 h1, denL_pure1 hp.2 h2⟩
theorem den_pure {w : World} {X : Nat → Prop} {ρ ρ' : Nat → Option Nat} {d : D} {v : Value} (hp : d.pure = true) (h : den ⟨w, X, ρ⟩ d v) : den ⟨w, X, ρ'⟩ d v := by
  cases d <;> (try (simp [D.pure] at hp; done)) <;> (try (exact den_pure1 rfl h))
  case agg cs =>
    simp only [den] at h ⊢
    obtain ⟨vs, rfl, h⟩ := h
    exact ⟨vs, rfl, denL_pure1 hp h⟩
theorem denL_pure {w : World} {X : Nat → Prop} {ρ ρ' : Nat → Option Nat} : ∀ {ds : List D} {vs : List Value}, ds.all D.pure = true → denL ⟨w, X, ρ⟩ ds vs → denL ⟨w, X, ρ'⟩ ds vs
  | [], _, _, h => by simpa only [denL] using h
  | d :: ds, _, hp, h => by
    simp only [denL] at h ⊢
    obtain ⟨v, us, rfl, h1, h2⟩ := h
    rw [List.all_cons, Bool.and_eq_true] at hp
    exact ⟨v, us, rfl, den_pure hp.1 h1, denL_pure hp.2 h2⟩
theorem den_nrm1 {E : Env} {d : D} {v : Value} (h : den E d v) : den E d.nrm1 v := by
  cases d <;> first | exact h | (simp only [D.nrm1, den] at h ⊢; exact h)
theorem denL_nrm1 {E : Env} : ∀ {ds : List D} {vs : List Value}, denL E ds vs → denL E (ds.map D.nrm1) vs
  | [], _, h => h
  | d :: ds, _, h => by
    simp only [denL] at h
    obtain ⟨v, us, rfl, h1, h2⟩ := h
    simp only [List.map_cons, denL]
    exact ⟨v, us, rfl, den_nrm1 h1, denL_nrm1 h2⟩
theorem den_nrm {E : Env} {d : D} {v : Value} (h : den E d v) : den E d.nrm v := by
  cases d with
  | agg cs =>
    simp only [den] at h
    obtain ⟨vs, rfl, h⟩ := h
    simp only [D.nrm, den]
    exact ⟨vs, rfl, denL_nrm1 h⟩
  | kb b => simp only [D.nrm, den] at h ⊢; exact h
  | _ => exact h
def shapeOf (P : Program) (t : Nat) : TK := match P.underlying t with
  | some (.struct fs) => .struct (fs.toList.map fun f => (f.offset, f.type))
  | some (.array n e) => .array n e
  | some (.slice e) => .slice e
  | some .string => .str
  | some .bool => .boolk
  | some (.int k) => .intk k
  | some _ => .basic
  | none => .other
structure TI.ok (P : Program) (t : Nat) (i : TI) : Prop where
  inf : (P.info? t).map (fun j => (j.size, j.zero)) = some (i.size, some i.zv)
  shape : shapeOf P t = i.k
  known : i.k ≠ .other
section
variable {P : Program} {t : Nat} {i : TI} {w : World}
theorem TI.ok.info (h : TI.ok P t i) : ∃ j, P.info? t = some j ∧ j.size = i.size ∧ j.zero = some i.zv := by
  have := h.inf
  cases hj : P.info? t with
  | none => rw [hj] at this; cases this
  | some j => rw [hj] at this; simp at this; exact ⟨j, rfl, this.1, this.2⟩
theorem TI.ok.sizeOf (h : TI.ok P t i) (w : World) : (Go.sizeOf t).run P w = .ok i.size w := by
  obtain ⟨j, hj, hs, _⟩ := h.info
  simp [Go.sizeOf, Go.typeInfo, program, Sem.run, hj, hs, Pure.pure, Bind.bind, Sem.bind]
theorem TI.ok.zeroValue (h : TI.ok P t i) (w : World) : (Go.zeroValue t).run P w = .ok i.zv w := by
  obtain ⟨j, hj, _, hz⟩ := h.info
  simp [Go.zeroValue, Go.typeInfo, program, Sem.run, hj, hz, Pure.pure, Bind.bind, Sem.bind]
theorem TI.ok.und (h : TI.ok P t i) : ∃ d, P.underlying t = some d := by
  cases hu : P.underlying t with
  | none => exact absurd (by rw [← h.shape]; simp [shapeOf, hu]) h.known
  | some d => exact ⟨d, rfl⟩
theorem run_und {d : TypeDesc} (h : P.underlying t = some d) (w : World) : (Go.underlying t).run P w = .ok d w := by
  simp [Go.underlying, program, Sem.run, h, Pure.pure, Bind.bind, Sem.bind]
theorem TI.ok.struct (h : TI.ok P t i) {fs : List (Nat × Nat)} (hk : i.k = .struct fs) : ∃ fields, P.underlying t = some (.struct fields) ∧ fields.toList.map (fun f => (f.offset, f.type)) = fs := by
  have hs := h.shape
  unfold shapeOf at hs
  rw [hk] at hs
  split at hs <;> simp_all
theorem TI.ok.isAgg (h : TI.ok P t i) (w : World) : (Go.isAgg t).run P w = .ok i.agg w := by
  obtain ⟨d, hd⟩ := h.und
  have hs := h.shape
  unfold shapeOf at hs
  rw [hd] at hs
  have hr := run_und hd w
  unfold Go.isAgg TI.agg
  simp only [Sem.run_bind, hr, Result.andThen_ok]
  cases d <;> simp at hs <;> rw [← hs] <;> rfl
theorem TI.ok.slice (h : TI.ok P t i) {e : Nat} (hk : i.k = .slice e) : P.underlying t = some (.slice e) := by
  have hs := h.shape
  unfold shapeOf at hs
  rw [hk] at hs
  split at hs <;> simp_all
theorem TI.ok.array (h : TI.ok P t i) {n e : Nat} (hk : i.k = .array n e) : P.underlying t = some (.array n e) := by
  have hs := h.shape
  unfold shapeOf at hs
  rw [hk] at hs
  split at hs <;> simp_all
theorem TI.ok.intk (h : TI.ok P t i) {k : IntKind} (hk : i.k = .intk k) : P.underlying t = some (.int k) := by
  have hs := h.shape
  unfold shapeOf at hs
  rw [hk] at hs
  split at hs <;> simp_all
theorem TI.ok.boolk (h : TI.ok P t i) (hk : i.k = .boolk) : P.underlying t = some .bool := by
  have hs := h.shape
  unfold shapeOf at hs
  rw [hk] at hs
  split at hs <;> simp_all
end
/-- own variables shut out, and what a caller shuts out. -/
def envr (X0 : Nat → Prop) (h : Nat → Option Ent) (w : World) (ρ : Nat → Option Nat) : Env :=
  ⟨w, fun b => X0 b ∨ ∃ k e, h k = some e ∧ e.fz = false ∧ ρ k = some b, ρ⟩
def OwnOk (w : World) (X : Nat → Prop) : Prop := ∀ b, X b → b < w.heap.size ∧ ∀ o n, w.cell? ⟨b, o, none⟩ ≠ some (.int .u32 n)
structure RelH (G : World → Prop) (w0 : World) (X0 : Nat → Prop) (h : Nat → Option Ent) (w : World) (ρ : Nat → Option Nat) : Prop where
  below : Below w0.heap.size w0 w
  x0 : OwnOk w0 X0
  g : G w0
  dom : ∀ k b, ρ k = some b → ∃ e, h k = some e
  blk : ∀ k e, h k = some e → ∃ b vs, ρ k = some b ∧ w0.heap.size ≤ b ∧ w.heap[b]? = some (.cells vs e.t (0, 0)) ∧ e.cs.all D.one = true ∧ denL (envr X0 h w ρ) e.cs vs.toList
  inj : ∀ k l b, ρ k = some b → ρ l = some b → k = l
def upd {α : Type} (h : Nat → Option α) (k : Nat) (e : Option α) : Nat → Option α := fun j => if j = k then e else h j
theorem upd_same {α : Type} (h : Nat → Option α) (k : Nat) (e : Option α) : upd h k e k = e := if_pos rfl
theorem upd_ne {α : Type} (h : Nat → Option α) {j k : Nat} (e : Option α) (hj : j ≠ k) : upd h k e j = h j := if_neg hj
def patch (cs : List D) (off : Nat) (ds : List D) : List D := cs.take off ++ ds ++ cs.drop (off + ds.length)
def effH (h : Nat → Option Ent) (nm : Nat) : Eff → Nat → Option Ent
  | .none => h
  | .new e => upd h nm (some e)
  | .store k off cs => match h k with | some e => upd h k (some { e with cs := patch e.cs off cs }) | none => h
section
variable {G : World → Prop} {w0 w : World} {X0 : Nat → Prop} {h : Nat → Option Ent} {ρ : Nat → Option Nat}
theorem lt_of_heap {w : World} {b : Nat} {o : Obj} (h : w.heap[b]? = some o) : b < w.heap.size := by
  rcases Nat.lt_or_ge b w.heap.size with h1 | h1
  · exact h1
  · rw [Array.getElem?_eq_none h1] at h; cases h
theorem RelH.x_lt (R : RelH G w0 X0 h w ρ) {b : Nat} (hb : (envr X0 h w ρ).X b) : b < w.heap.size := by
  rcases hb with hb | ⟨k, e, hk, _, hr⟩
  · exact Nat.lt_of_lt_of_le (R.x0 b hb).1 R.below.size
  · obtain ⟨b', vs, h1, _, h3, _⟩ := R.blk k e hk
    rw [hr] at h1; cases h1
    exact lt_of_heap h3
/-- a new own variable. -/
theorem RelH.new (R : RelH G w0 X0 h w ρ) {nm : Nat} (hn : h nm = none) {e : Ent} {vs : Array Value} (h1 : e.cs.all D.one = true) (hv : denL (envr X0 h w ρ) e.cs vs.toList) :
    RelH G w0 X0 (upd h nm (some e)) (w.alloc (.cells vs e.t)) (upd ρ nm (some w.heap.size)) ∧
    Le (envr X0 h w ρ) (envr X0 (upd h nm (some e)) (w.alloc (.cells vs e.t)) (upd ρ nm (some w.heap.size))) := by
  have hρ : ρ nm = none := by
    cases hr : ρ nm with
    | none => rfl
    | some b => obtain ⟨e', he⟩ := R.dom nm b hr; rw [hn] at he; cases he
  have hle : Le (envr X0 h w ρ) (envr X0 (upd h nm (some e)) (w.alloc (.cells vs e.t)) (upd ρ nm (some w.heap.size))) := by
    refine ⟨?_, fun b hb hX => ⟨Below.heap_alloc w _ b hb, ?_⟩, fun k b hk => ?_⟩
    · show w.heap.size ≤ (w.heap.push _).size; simp
    · rintro (hx | ⟨k, e', hk, hz', hr⟩)
      · exact hX (.inl hx)
      · by_cases hkn : k = nm
        · subst hkn; rw [upd_same] at hr; cases hr; exact absurd hb (Nat.lt_irrefl _)
        · rw [upd_ne _ _ hkn] at hk hr; exact hX (.inr ⟨k, e', hk, hz', hr⟩)
    · have hkn : k ≠ nm := fun hk' => by subst hk'; simp only [envr] at hk; rw [hρ] at hk; cases hk
      show upd ρ nm _ k = some b
      rw [upd_ne _ _ hkn]; exact hk
  refine ⟨⟨R.below.alloc (R.below.size) _, R.x0, R.g, fun k b hk => ?_, fun k e' hk => ?_, fun k l b hk hl => ?_⟩, hle⟩
  · by_cases hkn : k = nm
    · subst hkn; exact ⟨e, upd_same _ _ _⟩
    · rw [upd_ne _ _ hkn] at hk ⊢; exact R.dom k b hk
  · by_cases hkn : k = nm
    · subst hkn
      rw [upd_same] at hk; cases hk
      refine ⟨w.heap.size, vs, upd_same _ _ _, R.below.size, ?_, h1, denL_mono hle _ _ hv⟩
      show (w.heap.push _)[w.heap.size]? = _
      rw [Array.getElem?_push_size]
    · rw [upd_ne _ _ hkn] at hk
      obtain ⟨b, us, h2, h3, h4, h5, h6⟩ := R.blk k e' hk
      refine ⟨b, us, by rw [upd_ne _ _ hkn]; exact h2, h3, ?_, h5, denL_mono hle _ _ h6⟩
      rw [Below.heap_alloc w _ b (lt_of_heap h4)]; exact h4
  · have hlt : ∀ k b, ρ k = some b → b < w.heap.size := fun k b hk => by
      obtain ⟨e', he⟩ := R.dom k b hk
      obtain ⟨b', us, h2, _, h4, _⟩ := R.blk k e' he
      rw [hk] at h2; cases h2; exact lt_of_heap h4
    by_cases hkn : k = nm <;> by_cases hln : l = nm
    · rw [hkn, hln]
    · subst hkn; rw [upd_same] at hk; rw [upd_ne _ _ hln] at hl; cases hk; exact absurd (hlt l _ hl) (Nat.lt_irrefl _)
    · subst hln; rw [upd_same] at hl; rw [upd_ne _ _ hkn] at hk; cases hl; exact absurd (hlt k _ hk) (Nat.lt_irrefl _)
    · rw [upd_ne _ _ hkn] at hk; rw [upd_ne _ _ hln] at hl; exact R.inj k l b hk hl
/-- a store into an own variable. -/
theorem RelH.store (R : RelH G w0 X0 h w ρ) {k : Nat} {e : Ent} (hk : h k = some e) (hz : e.fz = false) {b : Nat} (hb : ρ k = some b) {off : Nat} {ds : List D} {us vs : List Value} {old : Array Value}
    (ho : w.heap[b]? = some (.cells old e.t (0, 0))) (h1 : ds.all D.one = true) (hv : denL (envr X0 h w ρ) ds us) (hvs : vs = old.toList.take off ++ us ++ old.toList.drop (off + us.length)) :
    RelH G w0 X0 (upd h k (some { e with cs := patch e.cs off ds })) (w.setRow b vs.toArray) ρ ∧
    Le (envr X0 h w ρ) (envr X0 (upd h k (some { e with cs := patch e.cs off ds })) (w.setRow b vs.toArray) ρ) := by
  obtain ⟨b', old', hb', hB, ho', hone, hden⟩ := R.blk k e hk
  rw [hb] at hb'; cases hb'
  rw [ho] at ho'; cases ho'
  have hus : us.length = ds.length := denL_len hv
  have hset : (w.setRow b vs.toArray).heap[b]? = some (.cells vs.toArray e.t (0, 0)) := setRow_heap w b old _ e.t _ ho
  have hother : ∀ c, c ≠ b → (w.setRow b vs.toArray).heap[c]? = w.heap[c]? := fun c hc => by
    simp only [World.setRow, Array.getElem?_modify]; rw [if_neg (fun h => hc h.symm)]
  have hsize : (w.setRow b vs.toArray).heap.size = w.heap.size := by simp [World.setRow]
  have hX : ∀ c, (envr X0 (upd h k (some { e with cs := patch e.cs off ds })) (w.setRow b vs.toArray) ρ).X c → (envr X0 h w ρ).X c := by
    rintro c (hx | ⟨l, e', hl', hz', hr⟩)
    · exact .inl hx
    · by_cases hlk : l = k
      · subst hlk; exact .inr ⟨l, e, hk, hz, hr⟩
      · rw [upd_ne _ _ hlk] at hl'; exact .inr ⟨l, e', hl', hz', hr⟩
  have hle : Le (envr X0 h w ρ) (envr X0 (upd h k (some { e with cs := patch e.cs off ds })) (w.setRow b vs.toArray) ρ) := by
    refine ⟨by show w.heap.size ≤ _; rw [show (envr X0 (upd h k (some { e with cs := patch e.cs off ds })) (w.setRow b vs.toArray) ρ).w = w.setRow b vs.toArray from rfl, hsize]; exact Nat.le_refl _, fun c hc hXc => ⟨?_, fun hx => hXc (hX c hx)⟩, fun _ _ hr => hr⟩
    exact hother c (fun hcb => hXc (by subst hcb; exact .inr ⟨k, e, hk, hz, hb⟩))
  refine ⟨⟨?_, R.x0, R.g, fun l c hl' => ?_, fun l e' hl' => ?_, R.inj⟩, hle⟩
  · refine ⟨R.below.os, R.below.tape, R.below.output, by rw [hsize]; exact R.below.size, fun c hc => ?_⟩
    rw [hother c (by omega)]; exact R.below.block c hc
  · by_cases hlk : l = k
    · subst hlk; exact ⟨_, upd_same _ _ _⟩
    · obtain ⟨e', he⟩ := R.dom l c hl'; exact ⟨e', by rw [upd_ne _ _ hlk]; exact he⟩
  · by_cases hlk : l = k
    · subst hlk
      rw [upd_same] at hl'; cases hl'
      refine ⟨b, vs.toArray, hb, hB, hset, ?_, ?_⟩
      · unfold patch
        simp only [List.all_append, Bool.and_eq_true]
        refine ⟨⟨List.all_eq_true.2 fun d hd => List.all_eq_true.1 hone d (List.mem_of_mem_take hd), h1⟩, List.all_eq_true.2 fun d hd => List.all_eq_true.1 hone d (List.mem_of_mem_drop hd)⟩
      · have key : ∀ E, denL E e.cs old.toList → denL E ds us → denL E (patch e.cs off ds) vs := fun E h2 h3 => by
          rw [hvs, hus]
          exact denL_append (denL_append (denL_take h2 off) h3) (denL_drop h2 _)
        exact key _ (denL_mono hle _ _ hden) (denL_mono hle _ _ hv)
    · rw [upd_ne _ _ hlk] at hl'
      obtain ⟨c, us', h2, h3, h4, h5, h6⟩ := R.blk l e' hl'
      refine ⟨c, us', h2, h3, ?_, h5, denL_mono hle _ _ h6⟩
      rw [hother c (fun hcb => hlk (R.inj l k b (hcb ▸ h2) hb))]; exact h4
/-- behind a call: nothing that was there has turned. -/
theorem RelH.bel (R : RelH G w0 X0 h w ρ) {w' : World} (hb : Below w.heap.size w w') :
    RelH G w0 X0 h w' ρ ∧ Le (envr X0 h w ρ) (envr X0 h w' ρ) := by
  have hle : Le (envr X0 h w ρ) (envr X0 h w' ρ) := ⟨hb.size, fun b hb' hX => ⟨hb.block b hb', hX⟩, fun _ _ h => h⟩
  refine ⟨⟨R.below.trans (hb.mono R.below.size), R.x0, R.g, R.dom, fun k e hk => ?_, R.inj⟩, hle⟩
  obtain ⟨b, vs, h1, h2, h3, h4, h5⟩ := R.blk k e hk
  exact ⟨b, vs, h1, h2, by rw [hb.block b (lt_of_heap h3)]; exact h3, h4, denL_mono hle _ _ h5⟩
theorem RelH.own (R : RelH G w0 X0 h w ρ) : OwnOk w (envr X0 h w ρ).X := by
  rintro b (hb | ⟨k, e, hk, hz, hr⟩)
  · obtain ⟨h1, h2⟩ := R.x0 b hb
    refine ⟨Nat.lt_of_lt_of_le h1 R.below.size, fun o n => ?_⟩
    rw [R.below.cell (p := ⟨b, o, none⟩) h1]; exact h2 o n
  · obtain ⟨b', vs, h1, h2, h3, h4, h5⟩ := R.blk k e hk
    rw [hr] at h1; cases h1
    refine ⟨lt_of_heap h3, fun o n hc => ?_⟩
    simp only [World.cell?, h3] at hc
    have hm : Value.int .u32 n ∈ vs.toList := by
      simp at hc
      exact Array.mem_toList_iff.2 (Array.mem_of_getElem? hc)
    exact (denL_one h4 h5 _ hm).2 n rfl
end
theorem den_const (E : Env) (v : Value) : den E (ofConst v) v := by
  unfold ofConst
  split <;> simp [den]
theorem den_consts (E : Env) : ∀ vs : List Value, denL E (vs.map ofConst) vs
  | [] => by simp [denL]
  | v :: vs => by simp only [List.map_cons, denL]; exact ⟨v, vs, rfl, den_const E v, den_consts E vs⟩
theorem den_cells {E : Env} {d : D} {v : Value} (h1 : d.cells.all D.cell = true) (h : den E d v) : denL E d.cells v.cells.toList := by
  have single : d.cell = true → d.cells = [d] → denL E d.cells v.cells.toList := fun ho hc => by
    have hv := den_cell ho h
    have : v.cells = #[v] := by cases v <;> simp [Value.oneCell'] at hv <;> rfl
    rw [hc, this]
    simp only [denL]
    exact ⟨v, [], rfl, h, rfl⟩
  cases d with
  | agg cs =>
    simp only [den] at h
    obtain ⟨vs, rfl, hv⟩ := h
    exact hv
  | undef => simp [D.cells, D.cell] at h1
  | tup => simp [D.cells, D.cell] at h1
  | _ => exact single (by simpa [D.cells] using h1) rfl
/-- what is loaded from cells that are told. -/
theorem load_run {P : Program} {C : Nat → Option TI} (hC : ∀ t i, C t = some i → TI.ok P t i) {E : Env} {t : Nat} {i : TI} (ht : C t = some i) {b o : Nat} {cs : List D} {vs : List Value}
    (hl : cs.length = i.size) (hv : denL E cs vs) (hc : ∀ j v, vs[j]? = some v → E.w.cell? ⟨b, o + j, none⟩ = some v) {d : D} (hd : mk i cs = some d) :
    ∃ v, (Instr.loadAt t (.pointer (some ⟨b, o, none⟩))).run P E.w = .ok v E.w ∧ den E d v := by
  have hi := hC t i ht
  have hlen := denL_len hv
  have hadd : ∀ j, (⟨b, o, none⟩ : Addr).add j = ⟨b, o + j, none⟩ := fun j => by unfold Addr.add; split <;> simp_all
  unfold Instr.loadAt Instr.sureAddr loadVar
  simp only [Sem.run_bind, hi.isAgg, Result.andThen_ok, Pure.pure, Sem.run]
  unfold mk at hd
  split at hd
  · rename_i ha
    cases hd
    simp only [ha, if_true, Sem.run_bind, hi.sizeOf, Result.andThen_ok]
    rw [← hl, ← hlen, run_loadCells_list E.w ⟨b, o, none⟩ vs (fun j v hj => by rw [hadd]; exact hc j v hj)]
    refine ⟨.agg vs.toArray, by simp [Result.andThen_ok, Sem.run], ?_⟩
    simp only [den]
    exact ⟨vs.toArray, rfl, by simpa using hv⟩
  · rename_i ha
    split at hd
    · rename_i c
      cases hd
      simp only [denL] at hv
      obtain ⟨v, us, rfl, h1, rfl⟩ := hv
      have := hc 0 v rfl
      simp only [Nat.add_zero] at this
      refine ⟨v, ?_, h1⟩
      simp [ha, load, Sem.run, this]
    · cases hd
theorem denC_get {w : World} {X : Nat → Prop} {b : Nat} : ∀ {cs : List D} {o : Nat}, denC w X b o cs → ∃ vs, denL ⟨w, X, fun _ => none⟩ cs vs ∧ ∀ j v, vs[j]? = some v → w.cell? ⟨b, o + j, none⟩ = some v
  | [], o, _ => ⟨[], by simp [denL], fun j v h => by simp at h⟩
  | d :: cs, o, h => by
    simp only [denC] at h
    obtain ⟨⟨v, hc, _, hd⟩, h2⟩ := h
    obtain ⟨vs, h3, h4⟩ := denC_get h2
    refine ⟨v :: vs, by simp only [denL]; exact ⟨v, vs, rfl, hd, h3⟩, fun j u hj => ?_⟩
    cases j with
    | zero => simp at hj; subst hj; exact hc
    | succ j => simp at hj; have := h4 j u hj; rwa [show o + 1 + j = o + (j + 1) by omega] at this
theorem Le.rho_none {w : World} {X : Nat → Prop} {ρ : Nat → Option Nat} : Le ⟨w, X, fun _ => none⟩ ⟨w, X, ρ⟩ := ⟨Nat.le_refl _, fun _ _ h => ⟨rfl, h⟩, fun _ _ h => by cases h⟩
/-- noughts in a row. -/
theorem made_list (z : Array Value) : ∀ n : Nat, ((Array.range (n * z.size)).map fun k => z[k % z.size]!).toList = (List.replicate n z.toList).flatten
  | 0 => by simp
  | n + 1 => by
    have ih := made_list z n
    simp only [Array.toList_map, Array.toList_range] at ih ⊢
    rw [Nat.succ_mul, List.range_add, List.map_append, ih, List.replicate_succ', List.flatten_append, List.map_map]
    congr 1
    simp only [List.flatten_cons, List.flatten_nil, List.append_nil]
    apply List.ext_getElem (by simp)
    intro i h1 h2
    simp only [List.length_map, List.length_range] at h1
    have : (n * z.size + i) % z.size = i := by rw [Nat.add_comm, Nat.add_mul_mod_self_right, Nat.mod_eq_of_lt h1]
    simp [this, h1]
theorem rep_den {E : Env} {cs : List D} {vs : List Value} (h : denL E cs vs) : ∀ n : Nat, denL E (rep n cs) (List.replicate n vs).flatten
  | 0 => by simp [rep, denL]
  | n + 1 => by
    rw [List.replicate_succ', List.flatten_append]
    simp only [rep, List.flatten_cons, List.flatten_nil, List.append_nil]
    exact denL_append (rep_den h n) h
theorem rep_frz {cs : List D} (h : cs.all D.frz = true) : ∀ n : Nat, (rep n cs).all D.frz = true
  | 0 => rfl
  | n + 1 => by simp only [rep, List.all_append, Bool.and_eq_true]; exact ⟨rep_frz h n, h⟩
theorem frz_rho {w : World} {X : Nat → Prop} {ρ ρ' : Nat → Option Nat} {d : D} {v : Value} (hp : d.frz = true) (h : den ⟨w, X, ρ⟩ d v) : den ⟨w, X, ρ'⟩ d v := by
  cases d <;> (try (simp [D.frz] at hp; done)) <;> simpa only [den] using h
/-- cells that are laid, from an offset on. -/
theorem denC_of {w : World} {X : Nat → Prop} {ρ : Nat → Option Nat} {b : Nat} : ∀ {cs : List D} {vs : List Value} {o : Nat}, cs.all D.frz = true → denL ⟨w, X, ρ⟩ cs vs → (∀ j v, vs[j]? = some v → w.cell? ⟨b, o + j, none⟩ = some v) → denC w X b o cs
  | [], _, _, _, _, _ => by simp only [denC]
  | d :: cs, vs, o, h1, h2, h3 => by
    simp only [denL] at h2
    obtain ⟨v, us, rfl, h4, h5⟩ := h2
    simp only [List.all_cons, Bool.and_eq_true] at h1
    simp only [denC]
    refine ⟨⟨v, h3 0 v rfl, den_cell (frz_cell h1.1) h4, frz_rho h1.1 h4⟩, denC_of h1.2 h5 fun j u hj => ?_⟩
    have := h3 (j + 1) u (by simpa using hj)
    rwa [show o + (j + 1) = o + 1 + j by omega] at this
theorem fillD_frz {pl : Nat → Option (Nat × Nat)} : ∀ {ps : List (Nat × D)} {cells out : List D}, cells.all D.frz = true → (ps.all fun p => p.2.cells.all D.frz) = true → fillD pl cells ps = some out → out.all D.frz = true
  | [], cells, out, h, _, hf => by simp only [fillD, Option.some.injEq] at hf; subst hf; exact h
  | (i, d) :: ps, cells, out, h, hp, hf => by
    simp only [List.all_cons, Bool.and_eq_true] at hp
    simp only [fillD] at hf
    split at hf
    · cases hf
    · split at hf
      · refine fillD_frz ?_ hp.2 hf
        simp only [List.all_append, Bool.and_eq_true]
        exact ⟨⟨List.all_eq_true.2 fun x hx => List.all_eq_true.1 h x (List.mem_of_mem_take hx), hp.1⟩, List.all_eq_true.2 fun x hx => List.all_eq_true.1 h x (List.mem_of_mem_drop hx)⟩
      · cases hf
/-- filling the cells of a struct. -/
theorem foldl_set (vs : List Value) : ∀ (k off : Nat) (cells : Array Value), off + k + vs.length ≤ cells.size →
    ((vs.zipIdx k).foldl (fun cs p => cs.setIfInBounds (off + p.2) p.1) cells).toList = cells.toList.take (off + k) ++ vs ++ cells.toList.drop (off + k + vs.length) := by
  induction vs with
  | nil => intro k off cells _; simp
  | cons v vs ih =>
    intro k off cells hl
    simp only [List.length_cons] at hl
    simp only [List.zipIdx_cons, List.foldl_cons]
    rw [ih (k + 1) off _ (by simp; omega)]
    simp only [Array.toList_setIfInBounds, List.length_cons]
    have e := list_seg_step cells.toList (off + k) v vs (by simp; omega)
    rw [show off + (k + 1) = off + k + 1 by omega, show off + k + (vs.length + 1) = off + k + vs.length + 1 by omega]
    simpa [Nat.add_assoc, Nat.add_comm, Nat.add_left_comm] using e
theorem fill_den {E : Env} {pl : Nat → Option (Nat × Nat)} : ∀ {ps : List (Nat × D)} {qs : List (Nat × Value)} {cells : List D} {vs : Array Value} {out : List D},
    denL E cells vs.toList → ps.map (·.1) = qs.map (·.1) → (∀ (j : Nat) (p : Nat × D) (q : Nat × Value), ps[j]? = some p → qs[j]? = some q → den E p.2 q.2 ∧ p.2.cells.all D.cell = true) → fillD pl cells ps = some out →
    ∃ us, Instr.fill pl vs qs = some us ∧ denL E out us.toList
  | [], qs, cells, vs, out, hv, hm, _, hf => by
    cases qs with
    | nil => simp only [fillD, Option.some.injEq] at hf; subst hf; exact ⟨vs, rfl, hv⟩
    | cons => simp at hm
  | (i, d) :: ps, qs, cells, vs, out, hv, hm, hd, hf => by
    cases qs with
    | nil => simp at hm
    | cons q qs =>
      obtain ⟨j, v⟩ := q
      simp only [List.map_cons, List.cons.injEq] at hm
      obtain ⟨hij, hm⟩ := hm
      subst hij
      obtain ⟨h1, h2⟩ := hd 0 _ _ rfl rfl
      have hcv := den_cells h2 h1
      have hlen : v.cells.size = d.cells.length := by have := denL_len hcv; simpa using this
      have hvl : vs.size = cells.length := by have := denL_len hv; simpa using this
      simp only [fillD] at hf
      cases hp : pl i with
      | none => simp [hp] at hf
      | some os =>
        obtain ⟨off, size⟩ := os
        simp only [hp] at hf
        split at hf
        · rename_i hc
          unfold Instr.fill
          simp only [hp]
          rw [if_neg (by simp only [Bool.or_eq_true, decide_eq_true_eq]; omega)]
          have hfold := foldl_set v.cells.toList 0 off vs (by simp; omega)
          refine fill_den (ps := ps) (qs := qs) (cells := cells.take off ++ d.cells ++ cells.drop (off + size)) (out := out) ?_ hm (fun j p q hj hq => hd (j + 1) p q hj hq) hf
          have : (v.cells.zipIdx.foldl (fun cs p => cs.setIfInBounds (off + p.2) p.1) vs).toList = vs.toList.take off ++ v.cells.toList ++ vs.toList.drop (off + size) := by
            rw [← Array.foldl_toList, Array.toList_zipIdx]
            simpa [hlen, hc.1] using hfold
          rw [this]
          exact denL_append (denL_append (denL_take hv off) hcv) (denL_drop hv _)
        · cases hf
/-- what is told of a call: from data that mean ds a datum that meets R; nothing that was there turns. -/
def Sound (P : Program) (G : World → Prop) (f : Nat) (ds : List D) (R : D → Prop) : Prop :=
  ∀ X w vs, G w → OwnOk w X → denL ⟨w, X, fun _ => none⟩ ds vs →
    Calls P f vs.toArray w fun e w' => ∃ v d, e = .returned v ∧ R d ∧ den ⟨w', X, fun _ => none⟩ d v ∧ Below w.heap.size w w'
def Callable (P : Program) (f : Nat) : Prop := ∃ fn c, P.funcs[f]? = some fn ∧ (fn.name == "runtime.NumGoroutine") = false ∧ fn.body = some c
theorem enter_run {P : Program} {f : Nat} {fn : Func} {c : Code} (hf : P.funcs[f]? = some fn) (hname : (fn.name == "runtime.NumGoroutine") = false) (hb : fn.body = some c) (args : Array Value) (w : World) :
    (callFunc f args).run P w = .ok (.enter f args) w := by
  have h1 : fn.name ≠ "runtime.NumGoroutine" := by simpa using hname
  simp [callFunc, hf, h1, hb]
theorem addr_add (b o n : Nat) : (⟨b, o, none⟩ : Addr).add n = ⟨b, o + n, none⟩ := by unfold Addr.add; split <;> simp_all
def GT (w : World) (g : Nat) (cs : List D) : Prop := ∃ vs, (∀ E, denL E cs vs) ∧ ∀ j v, vs[j]? = some v → w.cell? ⟨g, j, none⟩ = some v
structure Ctx.ok (P : Program) (G : World → Prop) (C : Ctx) : Prop where
  ti : ∀ t i, C.ti t = some i → TI.ok P t i
  alg : C.A = std
  mono : ∀ w w', Below w.heap.size w w' → G w → G w'
  gt : ∀ w, G w → ∀ g cs, C.gt g = some cs → GT w g cs
  call : ∀ f ds p d, C.call f ds = some (p, d) → Callable P f ∧ (p → Sound P G f ds (· = d))
section
variable {P : Program} {G : World → Prop} {C : Ctx} {w0 w : World} {X0 : Nat → Prop} {h : Nat → Option Ent} {ρ : Nat → Option Nat}
/-- the step is made, and tells what it must. -/
def Made (G : World → Prop) (w0 : World) (X0 : Nat → Prop) (h : Nat → Option Ent) (ρ : Nat → Option Nat) (nm : Nat) (w : World) (r : Result Next) (d : D) (e : Eff) : Prop :=
  ∃ n v w' ρ', r = .ok n w' ∧ (n = .value v ∨ (n = .skip ∧ v = undef)) ∧ RelH G w0 X0 (effH h nm e) w' ρ' ∧ Le (envr X0 h w ρ) (envr X0 (effH h nm e) w' ρ') ∧ den (envr X0 (effH h nm e) w' ρ') d v
theorem Made.pure (R : RelH G w0 X0 h w ρ) {nm : Nat} {r : Result Next} {d : D} {v : Value} (hr : r = .ok (.value v) w) (hd : den (envr X0 h w ρ) d v) : Made G w0 X0 h ρ nm w r d .none :=
  ⟨.value v, v, w, ρ, hr, .inl rfl, R, Le.refl _, hd⟩
/-- cells that are told at a place. -/
theorem cells_at (hC : C.ok P G) (R : RelH G w0 X0 h w ρ) {x : D} {v : Value} {cs : List D} {off : Nat} (hx : den (envr X0 h w ρ) x v) (hc : cellsAt C h x = some (cs, off)) :
    ∃ b o vs, v = .pointer (some ⟨b, o + off, none⟩) ∧ denL (envr X0 h w ρ) cs vs ∧ ∀ j u, vs[j]? = some u → w.cell? ⟨b, o + j, none⟩ = some u := by
  unfold cellsAt at hc
  split at hc
  · rename_i k off'
    simp only [den] at hx
    obtain ⟨b, rfl, hb⟩ := hx
    cases he : h k with
    | none => rw [he] at hc; cases hc
    | some e =>
      rw [he] at hc; simp only [Option.map_some, Option.some.injEq, Prod.mk.injEq] at hc
      obtain ⟨rfl, rfl⟩ := hc
      obtain ⟨b', vs, h1, _, h3, _, h5⟩ := R.blk k e he
      have : b' = b := by have hb2 : ρ k = some b := hb; rw [hb2] at h1; cases h1; rfl
      subst this
      exact ⟨b', 0, vs.toList, by simp, h5, fun j u hj => by simp only [Nat.zero_add, World.cell?, h3]; simpa using hj⟩
  · rename_i g off'
    simp only [den] at hx
    subst hx
    cases hg : C.gt g with
    | none => rw [hg] at hc; cases hc
    | some cs' =>
      rw [hg] at hc; simp only [Option.map_some, Option.some.injEq, Prod.mk.injEq] at hc
      obtain ⟨rfl, rfl⟩ := hc
      obtain ⟨vs, h1, h2⟩ := hC.gt w (hC.mono w0 w R.below R.g) g _ hg
      exact ⟨g, 0, vs, by simp, h1 _, fun j u hj => by simp only [Nat.zero_add]; exact h2 j u hj⟩
  · rename_i cs' off'
    simp only [Option.some.injEq, Prod.mk.injEq] at hc
    obtain ⟨rfl, rfl⟩ := hc
    simp only [den] at hx
    obtain ⟨b, o, rfl, _, _, h3⟩ := hx
    obtain ⟨vs, h4, h5⟩ := denC_get h3
    exact ⟨b, o, vs, rfl, denL_mono Le.rho_none _ _ h4, h5⟩
  · cases hc
theorem move_den {E : Env} {x d : D} {v : Value} {n : Nat} (hx : den E x v) (hm : move x n = some d) : ∃ b o, v = .pointer (some ⟨b, o, none⟩) ∧ den E d (.pointer (some ⟨b, o + n, none⟩)) := by
  unfold move at hm
  split at hm <;> cases hm
  · simp only [den] at hx ⊢; obtain ⟨b, rfl, hb⟩ := hx; exact ⟨b, _, rfl, b, rfl, hb⟩
  · simp only [den] at hx ⊢; subst hx; exact ⟨_, _, rfl, rfl⟩
theorem take_drop_get {vs : List Value} {off n j : Nat} {v : Value} (h : ((vs.drop off).take n)[j]? = some v) : vs[off + j]? = some v := by
  rw [List.getElem?_take] at h
  split at h
  · simpa [List.getElem?_drop] using h
  · cases h
theorem parts_run (hC : C.ok P G) {fields : Array Field} (hf : ((fields.toList.map fun f => (f.offset, f.type)).all fun f => (C.ti f.2).isSome) = true) :
    (fields.mapM (m := Sem) fun f => do pure (f.offset, ← sizeOf f.type)).run P w = .ok (fields.map fun f => (f.offset, ((C.ti f.type).map (·.size)).getD 0)) w := by
  have key : ∀ l : List Field, ((l.map fun f => (f.offset, f.type)).all fun f => (C.ti f.2).isSome) = true → (l.mapM (m := Sem) fun f => do pure (f.offset, ← sizeOf f.type)).run P w = .ok (l.map fun f => (f.offset, ((C.ti f.type).map (·.size)).getD 0)) w := by
    intro l
    induction l with
    | nil => intro _; rfl
    | cons f l ih =>
      intro hl
      simp only [List.map_cons, List.all_cons, Bool.and_eq_true] at hl
      cases ht : C.ti f.type with
      | none => rw [ht] at hl; simp at hl
      | some i =>
        have := ih hl.2
        simp only [List.mapM_cons, Sem.run_bind, (hC.ti _ _ ht).sizeOf, Result.andThen_ok, Pure.pure, Sem.run]
        simp only [Pure.pure] at this
        rw [this]
        simp [ht, Result.andThen_ok]
  rw [← Array.toArray_toList (xs := fields), List.mapM_toArray]
  simp only [Sem.run_map, key _ hf, Result.andThen_ok]
  congr 1
  apply Array.ext'
  simp
theorem store_run (hC : C.ok P G) {t : Nat} {i : TI} (ht : C.ti t = some i) {b off : Nat} {old : Array Value} {T : Nat} {v : Value} (ho : w.heap[b]? = some (.cells old T (0, 0)))
    (hl : v.cells.size = i.size) (hf : off + i.size ≤ old.size) (h1 : ∀ u ∈ v.cells.toList, u.oneCell' = true) :
    (Instr.storeAt t (.pointer (some ⟨b, off, none⟩)) v).run P w = .ok () (w.setRow b (old.toList.take off ++ v.cells.toList ++ old.toList.drop (off + v.cells.toList.length)).toArray) := by
  unfold Instr.storeAt Instr.sureAddr storeVar
  simp only [Sem.run_bind, (hC.ti t i ht).sizeOf, Result.andThen_ok, Pure.pure, Sem.run]
  rw [if_neg (by omega)]
  have := run_storeCells_at P b off T v.cells.toList 0 old w ho (by simp; omega) h1
  simpa [Sem.run, Bind.bind, Sem.bind] using this
theorem denL_map {E : Env} {ev : Operand → D} {ea : Operand → Value} : ∀ (l : List Operand), (∀ x ∈ l, den E (ev x) (ea x)) → denL E (l.map ev) (l.map ea)
  | [], _ => by simp [denL]
  | x :: l, h => by
    simp only [List.map_cons, denL]
    exact ⟨_, _, rfl, h x (by simp), denL_map l (fun y hy => h y (by simp [hy]))⟩
theorem asB_den {E : Env} {d : D} {b : Bool} {v : Value} (h : asB d = some b) (hd : den E d v) : v = .bool b := by
  unfold asB at h
  split at h
  · cases h; simpa only [den] using hd
  · cases h; simpa only [den] using hd
  · cases h
theorem ints_get : ∀ {cs : List D} {k : IntKind} {l : List Int}, intsOf cs = some (k, l) → ∀ (i : Nat), i < l.length → cs[i]? = some (.int k (l.getD i 0))
  | [], _, _, h => by simp [intsOf] at h
  | [c], k, l, h => by
    intro i hi
    cases c <;> simp [intsOf] at h
    obtain ⟨rfl, rfl⟩ := h
    cases i with
    | zero => rfl
    | succ i => simp at hi
  | c :: c' :: cs, k, l, h => by
    intro i hi
    cases c <;> simp only [intsOf] at h <;> (try (cases h; done))
    split at h
    · rename_i k' l' h'
      split at h
      · rename_i hk
        cases h
        subst hk
        cases i with
        | zero => rfl
        | succ i => simp only [List.length_cons] at hi; exact ints_get h' i (by omega)
      · cases h
    · cases h
theorem part_run {t : Nat} {i : TI} (hi : TI.ok P t i) {E : Env} {cs : List D} {vs : Array Value} {off : Nat} (hv : denL E cs vs.toList) {d : D} (hd : mk i ((cs.drop off).take i.size) = some d) :
    ∃ v, (part t vs off).run P w = .ok v w ∧ den E d v := by
  unfold part
  unfold mk at hd
  simp only [Sem.run_bind, hi.isAgg, Result.andThen_ok]
  split at hd
  · rename_i ha
    cases hd
    simp only [ha, if_true, Sem.run_bind, hi.sizeOf, Result.andThen_ok]
    refine ⟨_, rfl, ?_⟩
    simp only [den]
    refine ⟨_, rfl, ?_⟩
    rw [Array.toList_extract]
    have := denL_take (denL_drop hv off) i.size
    simpa [List.extract_eq_take_drop] using this
  · rename_i ha
    split at hd
    · rename_i c hc
      cases hd
      have h1 := denL_take (denL_drop hv off) i.size
      rw [hc] at h1
      simp only [denL] at h1
      obtain ⟨v, us, he, h2, rfl⟩ := h1
      have h3 : ((vs.toList.drop off).take i.size)[0]? = some v := by rw [he]; rfl
      have h4 := take_drop_get h3
      simp only [Nat.add_zero, Array.getElem?_toList] at h4
      refine ⟨v, ?_, h2⟩
      simp [ha, h4, Pure.pure]
    · cases hd
theorem equal_bool {t : Nat} (hun : P.underlying t = some .bool) (a b : Bool) : (Op.equal t (.bool a) (.bool b)).run P w = .ok (a == b) w := by
  have key : ∀ n, (Op.equalIn (n + 1) t (.bool a) (.bool b)).run P w = .ok (a == b) w := fun n => by
    simp only [Op.equalIn, Sem.run_bind, run_und hun, Result.andThen_ok]; rfl
  exact key 9999
theorem bin_run (hC : C.ok P G) {E : Env} {op : BinOp} {x y d : D} {v u : Value} {p : Prop} (xt : Nat) (h1 : den E x v) (h2 : den E y u) (hb : bin C.A (isB C xt) op x y = some (p, d)) (hp : p) :
    ∃ r, (binOp op xt v u).run P w = .ok r w ∧ den E d r := by
  rw [hC.alg] at hb
  unfold bin at hb
  split at hb
  · rename_i k m k' n
    simp only [den] at h1 h2
    subst h1 h2
    split at hb
    · rename_i hk
      subst hk
      cases op <;> simp only [reduceCtorEq, Option.some.injEq, Prod.mk.injEq] at hb <;> obtain ⟨rfl, rfl⟩ := hb
      case quo => exact ⟨.int k (k.wrap (m.tdiv n)), by simp [binOp, Op.intDiv, show n ≠ 0 from hp, Pure.pure], by simp only [den]; rfl⟩
      case rem => exact ⟨.int k (m.tmod n), by simp [binOp, Op.intDiv, show n ≠ 0 from hp, Pure.pure], by simp only [den]; rfl⟩
      case add => exact ⟨.int k (k.wrap (m + n)), by simp [binOp, Op.intArith, Pure.pure], by simp only [den]; rfl⟩
      case sub => exact ⟨.int k (k.wrap (m - n)), by simp [binOp, Op.intArith, Pure.pure], by simp only [den]; rfl⟩
      case mul => exact ⟨.int k (k.wrap (m * n)), by simp [binOp, Op.intArith, Pure.pure], by simp only [den]; rfl⟩
      case and => exact ⟨.int k (k.wrap (BitVec.ofInt k.bits m &&& BitVec.ofInt k.bits n).toNat), by simp [binOp, Op.intBits, Pure.pure], by simp only [den]; rfl⟩
      case eql => exact ⟨.bool (m == n), by simp [binOp, Op.intCmp, Pure.pure], by simp only [den]; rfl⟩
      case neq => exact ⟨.bool (m != n), by simp [binOp, Op.intCmp, Pure.pure], by simp only [den]; rfl⟩
      case lss => exact ⟨.bool (m < n), by simp [binOp, Op.intCmp, Pure.pure], by simp only [den]; rfl⟩
      case leq => exact ⟨.bool (m ≤ n), by simp [binOp, Op.intCmp, Pure.pure], by simp only [den]; rfl⟩
      case gtr => exact ⟨.bool (n < m), by simp [binOp, Op.intCmp, Pure.pure], by simp only [den]; rfl⟩
      case geq => exact ⟨.bool (n ≤ m), by simp [binOp, Op.intCmp, Pure.pure], by simp only [den]; rfl⟩
    · cases hb
  · split at hb
    · rename_i a b ea eb
      have h1 := asB_den ea h1
      have h2 := asB_den eb h2
      subst h1 h2
      split at hb
      · cases hb
      rename_i hbt
      have hun : P.underlying xt = some .bool := by
        unfold isB at hbt
        split at hbt
        · rename_i i hi
          split at hbt
          · rename_i hk; exact (hC.ti _ _ hi).boolk hk
          · simp at hbt
        · simp at hbt
      cases op <;> simp only [reduceCtorEq, Option.some.injEq, Prod.mk.injEq] at hb <;> obtain ⟨rfl, rfl⟩ := hb
      case eql => exact ⟨.bool (a == b), by simp only [binOp, Sem.run_bind, equal_bool hun a b, Result.andThen_ok]; rfl, by simp only [den]; rfl⟩
      case neq => exact ⟨.bool (!(a == b)), by simp only [binOp, Sem.run_bind, equal_bool hun a b, Result.andThen_ok]; rfl, by simp only [den]; rfl⟩
    · cases hb
set_option maxHeartbeats 1000000 in
theorem step_run (hC : C.ok P G) (R : RelH G w0 X0 h w ρ) {ev : Operand → D} {a : Act} {nm : Nat} {o : Oper}
    (hx : ∀ x ∈ o.op.operands.toList, den (envr X0 h w ρ) (ev x) (a.eval x)) {p : Prop} {d : D} {e : Eff} (hs : step C ev h nm o = some (p, d, e)) (hn : (∃ en, e = .new en) → h nm = none) (hp : p)
    (hnc : ∀ c f, o.op = .call c → c.callee ≠ .value (.func f)) : Made G w0 X0 h ρ nm w ((execOp a.eval o).run P w) d e := by
  obtain ⟨dst, op, ty, pos, after, guard⟩ := o
  cases op <;> simp only [step] at hs <;> (try (cases hs; done)) <;> simp only [Op.operands] at hx
  case move x =>
    simp only [Option.some.injEq, Prod.mk.injEq] at hs; obtain ⟨_, rfl, rfl⟩ := hs
    exact Made.pure R (v := a.eval x) rfl (hx x (by simp))
  case assign x =>
    simp only [Option.some.injEq, Prod.mk.injEq] at hs; obtain ⟨_, rfl, rfl⟩ := hs
    exact Made.pure R (v := a.eval x) rfl (hx x (by simp))
  case pick c x y =>
    have hc := hx c (by simp)
    have h1 := hx x (by simp)
    have h2 := hx y (by simp)
    split at hs
    · rename_i t ec
      simp only [Option.some.injEq, Prod.mk.injEq] at hs; obtain ⟨_, rfl, rfl⟩ := hs
      rw [ec] at hc
      simp only [den] at hc
      cases t with
      | true => exact Made.pure R (v := a.eval x) (by simp only [execOp, hc, asBool, Sem.run_bind, Pure.pure, Sem.run, Result.andThen_ok]; rfl) h1
      | false => exact Made.pure R (v := a.eval y) (by simp only [execOp, hc, asBool, Sem.run_bind, Pure.pure, Sem.run, Result.andThen_ok]; rfl) h2
    · rename_i t ec
      rw [ec] at hc
      simp only [den] at hc
      split at hs
      · rename_i x' y' ex ey
        simp only [Option.some.injEq, Prod.mk.injEq] at hs; obtain ⟨_, rfl, rfl⟩ := hs
        have h1 := asB_den ex h1
        have h2 := asB_den ey h2
        refine Made.pure R (v := .bool (if t then x' else y')) ?_ (by rw [hC.alg]; simp only [den]; rfl)
        simp only [execOp, hc, h1, h2, asBool, Sem.run_bind, Pure.pure, Sem.run, Result.andThen_ok]
        cases t <;> rfl
      · cases hs
    · cases hs
  case alloc t =>
    cases ht : C.ti t with
    | none => simp [ht] at hs
    | some i =>
      simp only [ht, Option.bind_some] at hs
      split at hs
      · rename_i h1
        simp only [Option.some.injEq, Prod.mk.injEq] at hs; obtain ⟨_, rfl, rfl⟩ := hs
        have hi := hC.ti t i ht
        obtain ⟨R', hle⟩ := R.new (hn ⟨_, rfl⟩) (e := ⟨t, i.zero, false⟩) (vs := i.zv.cells) h1 (den_consts _ _)
        refine ⟨.value (.pointer (some ⟨w.heap.size, 0, none⟩)), _, _, _, ?_, .inl rfl, R', hle, ?_⟩
        · simp [execOp, Instr.alloc, hi.zeroValue, newVar, newRow, newObj, Sem.run, Pure.pure]
        · simp only [den]; exact ⟨_, rfl, upd_same _ _ _⟩
      · cases hs
  case box t x =>
    split at hs
    · rename_i h1
      simp only [Option.some.injEq, Prod.mk.injEq] at hs; obtain ⟨_, rfl, rfl⟩ := hs
      obtain ⟨R', hle⟩ := R.new (hn ⟨_, rfl⟩) (e := ⟨t, (ev x).cells, false⟩) (vs := (a.eval x).cells) h1 (den_cells (all_cell h1) (hx x (by simp)))
      refine ⟨.value (.pointer (some ⟨w.heap.size, 0, none⟩)), _, _, _, ?_, .inl rfl, R', hle, ?_⟩
      · simp [execOp, Instr.box, newVar, newRow, newObj, Sem.run, Pure.pure]
      · simp only [den]; exact ⟨_, rfl, upd_same _ _ _⟩
    · cases hs
  case build t ps =>
    cases ht : C.ti t with
    | none => simp [ht] at hs
    | some i =>
      simp only [ht, Option.bind_some] at hs
      split at hs
      · rename_i fs hk
        split at hs
        · rename_i hc
          obtain ⟨hc1, hc2⟩ := hc
          cases hf : fillD (places C fs) i.zero (ps.toList.map fun p => (p.1, ev p.2)) with
          | none => simp [hf] at hs
          | some cs =>
            simp only [hf, Option.map_some, Option.some.injEq, Prod.mk.injEq] at hs; obtain ⟨_, rfl, rfl⟩ := hs
            have hi := hC.ti t i ht
            obtain ⟨fields, hu, hfs⟩ := hi.struct hk
            subst hfs
            have hplaces : ∀ j, ((fields.map fun f => (f.offset, ((C.ti f.type).map (·.size)).getD 0))[j]? : Option (Nat × Nat)) = places C (fields.toList.map fun f => (f.offset, f.type)) j := fun j => by
              simp only [Array.getElem?_map, places, List.getElem?_map, Array.getElem?_toList]
              cases hj : fields[j]? with
              | none => rfl
              | some f =>
                simp only [Option.map_some, Option.bind_some]
                have := List.all_eq_true.1 hc1 (f.offset, f.type) (List.mem_map.2 ⟨f, Array.mem_toList_iff.2 (Array.mem_of_getElem? hj), rfl⟩)
                cases hq : C.ti f.type with
                | none => simp [hq] at this
                | some q => rfl
            obtain ⟨us, hu1, hu2⟩ := fill_den (E := envr X0 h w ρ) (pl := places C (fields.toList.map fun f => (f.offset, f.type))) (qs := ps.toList.map fun p => (p.1, a.eval p.2)) (vs := i.zv.cells) (den_consts _ _) (by simp) (fun j p q hj hq => by
              simp only [List.getElem?_map, Option.map_eq_some_iff] at hj hq
              obtain ⟨r, hr, rfl⟩ := hj
              obtain ⟨r', hr', rfl⟩ := hq
              rw [hr] at hr'; cases hr'
              have hm : r ∈ ps.toList := List.mem_of_getElem? hr
              exact ⟨hx r.2 (by simpa using ⟨r.1, by simpa using hm⟩), all_cell (List.all_eq_true.1 hc2 r hm)⟩) hf
            refine Made.pure R (v := .agg us) ?_ (by simp only [den]; exact ⟨us, rfl, hu2⟩)
            have hrun := parts_run (w := w) hC hc1
            simp only [execOp, Instr.build, Sem.run_bind, hi.zeroValue, Result.andThen_ok, run_und hu, hrun]
            have : (fun x => (fields.map fun f => (f.offset, ((C.ti f.type).map (·.size)).getD 0))[x]?) = places C (fields.toList.map fun f => (f.offset, f.type)) := funext hplaces
            rw [this]
            have h2 : (Array.map (fun p => (p.1, a.eval p.2)) ps).toList = ps.toList.map fun p => (p.1, a.eval p.2) := by simp
            simp only [Array.toList_map, hu1]
            simp [Pure.pure, Result.andThen_ok]
        · cases hs
      · cases hs
  case buildSlice t n ps =>
    cases ht : C.ti t with
    | none => simp [ht] at hs
    | some i =>
      simp only [ht, Option.bind_some] at hs
      split at hs
      · rename_i e' hk
        cases hu : C.ti e' with
        | none => simp [hu] at hs
        | some j =>
          simp only [hu, Option.bind_some] at hs
          split at hs
          · rename_i hc
            obtain ⟨hc1, hc2, hc3, hc4⟩ := hc
            cases hf : fillD (fun k => some (k * j.size, j.size)) (rep n j.zero) (ps.toList.map fun p => (p.1, ev p.2)) with
            | none => simp [hf] at hs
            | some cs =>
              simp only [hf, Option.map_some, Option.some.injEq, Prod.mk.injEq] at hs; obtain ⟨_, rfl, rfl⟩ := hs
              have hun := (hC.ti t i ht).slice hk
              have hj := hC.ti _ _ hu
              have hzs : j.zv.cells.size = j.size := by have : j.zero.length = j.zv.cells.size := by simp [TI.zero]
                                                        omega
              have hden0 : denL (envr X0 h w ρ) (rep n j.zero) (((Array.range (n * j.size)).map fun k => j.zv.cells[k % j.zv.cells.size]!).toList) := by
                rw [← hzs, made_list]
                exact rep_den (den_consts _ _) n
              obtain ⟨us, hu1, hu2⟩ := fill_den (E := envr X0 h w ρ) (pl := fun k => some (k * j.size, j.size)) (qs := ps.toList.map fun p => (p.1, a.eval p.2)) (vs := (Array.range (n * j.size)).map fun k => j.zv.cells[k % j.zv.cells.size]!) hden0 (by simp) (fun jj p q hj hq => by
                simp only [List.getElem?_map, Option.map_eq_some_iff] at hj hq
                obtain ⟨r, hr, rfl⟩ := hj
                obtain ⟨r', hr', rfl⟩ := hq
                rw [hr] at hr'; cases hr'
                have hm : r ∈ ps.toList := List.mem_of_getElem? hr
                exact ⟨hx r.2 (by simpa using ⟨r.1, by simpa using hm⟩), frz_all (List.all_eq_true.1 hc2 r hm)⟩) hf
              have hall := fillD_frz (rep_frz hc3 n) (by simpa [List.all_map] using hc2) hf
              obtain ⟨R', hle⟩ := R.bel (w' := w.alloc (.cells us e')) (Below.alloc (Below.refl _ _) (Nat.le_refl _) _)
              refine ⟨.value (.slice (some ⟨w.heap.size, 0, none⟩) n n), _, w.alloc (.cells us e'), ρ, ?_, .inl rfl, R', hle, ?_⟩
              · have h2 : (Array.map (fun p => (p.1, a.eval p.2)) ps).toList = ps.toList.map fun p => (p.1, a.eval p.2) := by simp
                have h3 : ¬ n * j.size > 2 ^ 24 := by omega
                simp only [execOp, Instr.buildSlice, Sem.run_bind, run_und hun, Result.andThen_ok, hj.sizeOf, if_neg h3]
                by_cases h0 : n * j.size = 0
                · rw [h0] at hu1
                  simp only [h0, if_pos rfl, Pure.pure, Sem.run, Result.andThen_ok, Array.toList_map]
                  simp only [show (Array.range 0) = #[] from rfl, List.map_toArray, List.map_nil, Array.toList_map, Array.map_empty] at hu1 ⊢
                  rw [hu1]; rfl
                · simp only [if_neg h0, Sem.run_bind, hj.zeroValue, Result.andThen_ok, Pure.pure, Sem.run, Array.toList_map]
                  rw [hu1]; rfl
              · simp only [effH, den]
                refine ⟨_, _, rfl, Nat.le_refl _, fun _ => ⟨w.heap.size, 0, rfl, ?_, ?_, ?_⟩⟩
                · show w.heap.size < (w.heap.push _).size; simp
                · intro hX
                  exact absurd (R.x_lt (show (envr X0 h w ρ).X w.heap.size from hX)) (Nat.lt_irrefl _)
                · refine denC_of (ρ := ρ) hall (denL_mono hle _ _ hu2) fun jj v hj => ?_
                  have hcell : (w.alloc (.cells us e')).heap[w.heap.size]? = some (.cells us e' (0, 0)) := by
                    show (w.heap.push _)[w.heap.size]? = _
                    rw [Array.getElem?_push_size]
                  show World.cell? (w.alloc (.cells us e')) ⟨w.heap.size, 0 + jj, none⟩ = some v
                  simp only [Nat.zero_add, World.cell?, hcell]; simpa using hj
          · cases hs
      · cases hs
  case load t x =>
    cases ht : C.ti t with
    | none => simp [ht] at hs
    | some i =>
      simp only [ht, Option.bind_some] at hs
      split at hs
      · rename_i g off hxe
        cases hg : C.gt g with
        | none => simp [hg] at hs
        | some cs =>
          simp only [hg, Option.bind_some] at hs
          split at hs
          · rename_i k l hints
            split at hs
            · rename_i hsz
              simp only [Option.some.injEq, Prod.mk.injEq] at hs; obtain ⟨rfl, rfl, rfl⟩ := hs
              rw [hC.alg] at hp ⊢
              have hlt : off < l.length := hp
              have h1 := hx x (by simp)
              rw [hxe] at h1; simp only [den] at h1
              obtain ⟨vs, h2, h3⟩ := hC.gt w (hC.mono w0 w R.below R.g) g _ hg
              obtain ⟨v, hv1, hv2⟩ := denL_get (h2 (envr X0 h w ρ)) (ints_get hints off hlt)
              have hcell := h3 off v hv1
              simp only [den] at hv2
              refine Made.pure R (v := .int k (l.getD off 0)) ?_ (by simp only [den]; rfl)
              simp [execOp, h1, Instr.loadAt, Instr.sureAddr, loadVar, (hC.ti t i ht).isAgg, hsz.2, load, Sem.run, hcell, hv2, Pure.pure]
            · cases hs
          · cases hs
      · rename_i cs off hxe
        have h1 := hx x (by simp)
        rw [hxe] at h1; simp only [den] at h1
        obtain ⟨b, o', hv, _, _, h3⟩ := h1
        obtain ⟨vs, h4, h5⟩ := denC_get h3
        split at hs
        · rename_i kk z0 hzv
          split at hs
          · rename_i hsz
            simp only [Option.some.injEq, Prod.mk.injEq] at hs; obtain ⟨rfl, rfl, rfl⟩ := hs
            rw [hC.alg] at hp ⊢
            obtain ⟨z, hz⟩ : ∃ z, cs[off]? = some (.int kk z) := hp
            obtain ⟨v, hv1, hv2⟩ := denL_get h4 hz
            have hcell : w.cell? ⟨b, o' + off, none⟩ = some v := h5 off v hv1
            simp only [den] at hv2
            have hstd : std.cellV cs off = z := by show (match cs[off]? with | some (.int _ z) => z | _ => 0) = z; rw [hz]
            refine Made.pure R (v := .int kk z) ?_ (by simp only [den]; rw [hstd])
            simp [execOp, hv, Instr.loadAt, Instr.sureAddr, loadVar, (hC.ti t i ht).isAgg, hsz.2, load, Sem.run, hcell, hv2, Pure.pure]
          · cases hs
        · split at hs
          · rename_i hle
            cases hm : mk i ((cs.drop off).take i.size) with
            | none => simp [hm] at hs
            | some d' =>
              simp only [hm, Option.map_some, Option.some.injEq, Prod.mk.injEq] at hs; obtain ⟨_, rfl, rfl⟩ := hs
              obtain ⟨v, hr, hdv⟩ := load_run hC.ti (E := envr X0 h w ρ) ht (b := b) (o := o' + off) (cs := (cs.drop off).take i.size) (vs := (vs.drop off).take i.size) (by simp; omega) (denL_take (denL_drop (denL_mono Le.rho_none _ _ h4) _) _) (fun j u hj => by
                have := h5 (off + j) u (take_drop_get hj); rwa [← Nat.add_assoc] at this) hm
              refine Made.pure R (v := v) ?_ hdv
              have hr' : (Instr.loadAt t (.pointer (some ⟨b, o' + off, none⟩))).run P w = .ok v w := hr
              simp [execOp, hv, hr', Pure.pure, Sem.run]
          · cases hs
      rename_i hns _
      cases hc : cellsAt C h (ev x) with
      | none => simp [hc] at hs
      | some c =>
        obtain ⟨cs, off⟩ := c
        simp only [hc, Option.bind_some] at hs
        split at hs
        · rename_i hle
          cases hm : mk i ((cs.drop off).take i.size) with
          | none => simp [hm] at hs
          | some d' =>
            simp only [hm, Option.map_some, Option.some.injEq, Prod.mk.injEq] at hs; obtain ⟨_, rfl, rfl⟩ := hs
            obtain ⟨b, o', vs, hv, hd, hg⟩ := cells_at hC R (hx x (by simp)) hc
            obtain ⟨v, hr, hdv⟩ := load_run hC.ti (E := envr X0 h w ρ) ht (b := b) (o := o' + off) (cs := (cs.drop off).take i.size) (vs := (vs.drop off).take i.size) (by simp; omega) (denL_take (denL_drop hd _) _) (fun j u hj => by
              have := hg (off + j) u (take_drop_get hj); rwa [← Nat.add_assoc] at this) hm
            refine Made.pure R (v := v) ?_ hdv
            have hr' : (Instr.loadAt t (.pointer (some ⟨b, o' + off, none⟩))).run P w = .ok v w := hr
            simp [execOp, hv, hr', Pure.pure, Sem.run]
        · cases hs
  case store t x y =>
    cases ht : C.ti t with
    | none => simp [ht] at hs
    | some i =>
      simp only [ht, Option.bind_some] at hs
      split at hs
      · rename_i k off hk
        cases he : h k with
        | none => simp [he] at hs
        | some e' =>
          simp only [he, Option.bind_some] at hs
          split at hs
          · rename_i hc
            obtain ⟨c1, c2, c3, c4⟩ := hc
            simp only [Option.some.injEq, Prod.mk.injEq] at hs; obtain ⟨_, rfl, rfl⟩ := hs
            have hxx := hx x (by simp)
            rw [hk] at hxx
            simp only [den] at hxx
            obtain ⟨b, hxv, hb⟩ := hxx
            obtain ⟨b', vs, h1, h2, h3, h4, h5⟩ := R.blk k e' he
            have : b' = b := by have hb2 : ρ k = some b := hb; rw [hb2] at h1; cases h1; rfl
            subst this
            have hyv := den_cells (all_cell c4) (hx y (by simp))
            have hyl := denL_len hyv
            have hvl := denL_len h5
            have hone := denL_one c4 hyv
            have hst := store_run (w := w) hC ht (b := b') (off := off) h3 (v := a.eval y) (by simp at hyl; omega) (by simp at hvl; omega) (fun u hu => (hone u hu).1)
            obtain ⟨R', hle⟩ := R.store he c3 h1 h3 (off := off) c4 hyv rfl
            refine ⟨.skip, undef, (w.setRow b' (vs.toList.take off ++ (a.eval y).cells.toList ++ vs.toList.drop (off + (a.eval y).cells.toList.length)).toArray), ρ, ?_, .inr ⟨rfl, rfl⟩, ?_, ?_, ?_⟩
            · simp only [execOp, hxv, Sem.run_bind, hst, Result.andThen_ok]; rfl
            · simp only [effH, he]; exact R'
            · simp only [effH, he]; exact hle
            · simp only [den]; exact ⟨#[], rfl, by simp [denL]⟩
          · cases hs
      · cases hs
  case binOp op xt x y yt =>
    cases hb : bin C.A (isB C xt) op (ev x) (ev y) with
    | none => simp [hb] at hs
    | some r =>
      obtain ⟨p', d'⟩ := r
      simp only [hb, Option.map_some, Option.some.injEq, Prod.mk.injEq] at hs; obtain ⟨rfl, rfl, rfl⟩ := hs
      have h1 := hx x (by simp)
      have h2 := hx y (by simp)
      obtain ⟨v, hr, hv⟩ := bin_run (P := P) (E := envr X0 h w ρ) (w := w) hC xt h1 h2 hb hp
      refine Made.pure R (v := v) ?_ hv
      have hg : (eqGuard op xt x y (a.eval x) (a.eval y)).run P w = .ok () w := by
        unfold bin at hb
        split at hb
        · rename_i e1 e2; rw [e1] at h1; rw [e2] at h2; simp only [den] at h1 h2; rw [h1, h2]; cases op <;> simp [eqGuard, Pure.pure]
        · split at hb
          · rename_i e1 e2; rw [asB_den e1 h1, asB_den e2 h2]; cases op <;> simp [eqGuard, Pure.pure]
          · cases hb
      simp only [execOp, Sem.run_bind, hg, hr, Result.andThen_ok]; rfl
  case convert s t x =>
    cases hts : C.ti s with
    | none => simp [hts] at hs
    | some i =>
      cases ht : C.ti t with
      | none => simp [hts, ht] at hs
      | some j =>
        simp only [hts, ht, Option.bind_some] at hs
        split at hs
        · rename_i k m n hk hxe
          simp only [Option.some.injEq, Prod.mk.injEq] at hs; obtain ⟨_, rfl, rfl⟩ := hs
          have h1 := hx x (by simp)
          rw [hxe] at h1; simp only [den] at h1
          obtain ⟨du, hdu⟩ := (hC.ti s i hts).und
          have hun := (hC.ti t j ht).intk hk
          refine Made.pure R (v := .int k (k.wrap n)) ?_ (by rw [hC.alg]; simp only [den]; rfl)
          simp [execOp, convert, h1, run_und hdu, run_und hun, Conv.intToInt, Pure.pure, Sem.run]
        · cases hs
  case unOp op xt x =>
    split at hs
    · rename_i b hb
      simp only [Option.some.injEq, Prod.mk.injEq] at hs; obtain ⟨_, rfl, rfl⟩ := hs
      have h1 := hx x (by simp)
      rw [hb] at h1; simp only [den] at h1
      exact Made.pure R (v := .bool !b) (by simp only [execOp, h1]; rfl) (by simp only [den])
    · rename_i b hb
      simp only [Option.some.injEq, Prod.mk.injEq] at hs; obtain ⟨_, rfl, rfl⟩ := hs
      have h1 := hx x (by simp)
      rw [hb] at h1; simp only [den] at h1
      exact Made.pure R (v := .bool !b) (by simp only [execOp, h1]; rfl) (by rw [hC.alg]; simp only [den]; rfl)
    · rename_i k n hb
      simp only [Option.some.injEq, Prod.mk.injEq] at hs; obtain ⟨_, rfl, rfl⟩ := hs
      have h1 := hx x (by simp)
      rw [hb] at h1; simp only [den] at h1
      exact Made.pure R (v := .int k (k.wrap (0 - n))) (by simp only [execOp, h1]; rfl) (by rw [hC.alg]; simp only [den]; rfl)
    · cases hs
  case fieldAddr t x f =>
    cases ht : C.ti t with
    | none => simp [ht] at hs
    | some i =>
      simp only [ht, Option.bind_some] at hs
      split at hs
      · rename_i fs hk
        cases hf : fs[f]? with
        | none => simp [hf] at hs
        | some q =>
          obtain ⟨off, u⟩ := q
          simp only [hf, Option.bind_some] at hs
          cases hu : C.ti u with
          | none => simp [hu] at hs
          | some j =>
            simp only [hu, Option.bind_some] at hs
            split at hs
            · cases hs
            · rename_i hz
              cases hm : move (ev x) off with
              | none => simp [hm] at hs
              | some d' =>
                simp only [hm, Option.map_some, Option.some.injEq, Prod.mk.injEq] at hs; obtain ⟨_, rfl, rfl⟩ := hs
                obtain ⟨b, o', hv, hd⟩ := move_den (hx x (by simp)) hm
                obtain ⟨fields, hun, hfs⟩ := (hC.ti t i ht).struct hk
                subst hfs
                simp only [List.getElem?_map, Array.getElem?_toList, Option.map_eq_some_iff] at hf
                obtain ⟨fl, hfl, hq⟩ := hf
                simp only [Prod.mk.injEq] at hq
                obtain ⟨rfl, rfl⟩ := hq
                refine Made.pure R ?_ hd
                have hadd := addr_add b o' fl.offset
                simp [execOp, Instr.fieldAt, run_und hun, hfl, hv, Instr.sureAddr, fieldPlace, (hC.ti _ _ hu).sizeOf, hz, hadd, Pure.pure, Sem.run]
      · cases hs
  case indexAddr t x ix =>
    cases ht : C.ti t with
    | none => simp [ht] at hs
    | some i =>
      simp only [ht, Option.bind_some] at hs
      have glob : ∀ (g o' n e' : Nat) (k : Int) (kk : IntKind), i.k = .array n e' → den (envr X0 h w ρ) (ev x) (a.eval x) → (a.eval x = .pointer (some ⟨g, o', none⟩)) → ev ix = .int kk k → (C.ti e').bind (fun j => some (C.A.inr k n, D.gsym g (C.A.idx o' k j.size), Eff.none)) = some (p, d, e) →
          Made G w0 X0 h ρ nm w ((execOp a.eval ⟨dst, .indexAddr t x ix, ty, pos, after, guard⟩).run P w) d e := by
        intro g o' n e' k kk hk _ hv hix hs
        cases hu : C.ti e' with
        | none => simp [hu] at hs
        | some j =>
          simp only [hu, Option.bind_some, Option.some.injEq, Prod.mk.injEq] at hs; obtain ⟨rfl, rfl, rfl⟩ := hs
          have h2 := hx ix (by simp)
          rw [hix] at h2; simp only [den] at h2
          have hun := (hC.ti t i ht).array hk
          rw [hC.alg] at hp ⊢
          have hlt : 0 ≤ k ∧ k < (n : Int) := hp
          refine Made.pure R (v := .pointer (some ⟨g, o' + k.toNat * j.size, none⟩)) ?_ (by simp only [den]; rfl)
          have hadd := addr_add g o' (k.toNat * j.size)
          simp only [execOp, Instr.indexAt, Sem.run_bind, h2, hv, asIntOf, Pure.pure, Sem.run, Result.andThen_ok, run_und hun, Instr.sureAddr, if_pos hlt, (hC.ti _ _ hu).sizeOf]
          rw [hadd]
      split at hs
      · rename_i n e' g o' kk k hk hxe hix
        have h1 := hx x (by simp)
        have h1' := h1
        rw [hxe] at h1'; simp only [den] at h1'
        exact glob g o' n e' k kk hk h1 h1' hix hs
      · rename_i n e' g o' kk k hk hxe hix
        have h1 := hx x (by simp)
        have h1' := h1
        rw [hxe] at h1'; simp only [den] at h1'
        exact glob g o' n e' k kk hk h1 h1' hix hs
      · rename_i e' n cs kk k hk hxe hix
        cases hu : C.ti e' with
        | none => simp [hu] at hs
        | some j =>
          simp only [hu, Option.bind_some] at hs
          split at hs
          · rename_i hsz
            simp only [Option.some.injEq, Prod.mk.injEq] at hs; obtain ⟨rfl, rfl, rfl⟩ := hs
            rw [hC.alg] at hp ⊢
            obtain ⟨h0, h1, hcl⟩ : 0 ≤ k ∧ k < (n : Int) ∧ cs.length = n := hp
            have h2 := hx x (by simp)
            rw [hxe] at h2; simp only [den] at h2
            obtain ⟨A, c, hv, hnc, hdat⟩ := h2
            have h3 := hx ix (by simp)
            rw [hix] at h3; simp only [den] at h3
            have hun := (hC.ti t i ht).slice hk
            obtain ⟨b, o', rfl, hlt, hnX, hd⟩ := hdat (by rw [hcl]; exact Int.ofNat_lt.1 (Int.lt_of_le_of_lt h0 h1))
            refine Made.pure R (v := .pointer (some ⟨b, o' + k.toNat * 1, none⟩)) ?_ (by simp only [den]; exact ⟨b, o', by simp [std], hlt, hnX, hd⟩)
            have hadd := addr_add b o' (k.toNat * 1)
            simp only [execOp, Instr.indexAt, Sem.run_bind, h3, hv, asIntOf, Pure.pure, Sem.run, Result.andThen_ok, run_und hun, if_pos (show 0 ≤ k ∧ k < (n : Int) from ⟨h0, h1⟩), (hC.ti _ _ hu).sizeOf, hsz]
            rw [hadd]
          · cases hs
      · rename_i n e' k m hk hix _ _
        cases hu : C.ti e' with
        | none => simp [hu] at hs
        | some j =>
          simp only [hu, Option.bind_some] at hs
          split at hs
          · rename_i hmn
            cases hm : move (ev x) (m * j.size) with
            | none => simp [hm] at hs
            | some d' =>
              simp only [hm, Option.map_some, Option.some.injEq, Prod.mk.injEq] at hs; obtain ⟨_, rfl, rfl⟩ := hs
              obtain ⟨b, o', hv, hd⟩ := move_den (hx x (by simp)) hm
              have h2 := hx ix (by simp)
              rw [hix] at h2; simp only [den] at h2
              have hun := (hC.ti t i ht).array hk
              refine Made.pure R ?_ hd
              have hadd := addr_add b o' (m * j.size)
              have hlt : (0 : Int) ≤ Int.ofNat m ∧ Int.ofNat m < n := ⟨Int.natCast_nonneg m, Int.ofNat_lt.2 hmn⟩
              simp only [execOp, Instr.indexAt, Sem.run_bind, h2, hv, asIntOf, Pure.pure, Sem.run, Result.andThen_ok, run_und hun, Instr.sureAddr, if_pos hlt, (hC.ti _ _ hu).sizeOf]
              rw [show (Int.ofNat m).toNat = m from rfl, hadd]
          · cases hs
      · cases hs
  case slice t x lo hi mx =>
    cases ht : C.ti t with
    | none => simp [ht] at hs
    | some i =>
      simp only [ht, Option.bind_some] at hs
      split at hs
      · rename_i e' n cs l hk hxe
        cases hu : C.ti e' with
        | none => simp [hu] at hs
        | some j =>
          simp only [hu, Option.bind_some] at hs
          split at hs
          · rename_i k hl
            split at hs
            · rename_i hsz
              simp only [Option.some.injEq, Prod.mk.injEq] at hs; obtain ⟨rfl, rfl, rfl⟩ := hs
              rw [hC.alg] at hp ⊢
              obtain ⟨h0, h1, hcl⟩ : 0 ≤ k ∧ k ≤ (n : Int) ∧ cs.length = n := hp
              have h2 := hx x (by simp)
              rw [hxe] at h2; simp only [den] at h2
              obtain ⟨A, c, hv, hnc, hdat⟩ := h2
              have h3 := hx l (by simp)
              rw [hl] at h3; simp only [den] at h3
              have hun := (hC.ti t i ht).slice hk
              refine Made.pure R (v := .slice (if c = k.toNat then A else A.map (·.add (k.toNat * 1))) (n - k.toNat) (c - k.toNat)) ?_ ?_
              · simp only [execOp, Instr.sliceAt, Instr.slice, Instr.sliceBounds, Instr.sliceBound, Option.map_some, Option.map_none, Sem.run_bind, hv, h3, asIntOf, Pure.pure, Sem.run, Result.andThen_ok, run_und hun, if_pos (show 0 ≤ k ∧ k ≤ (n : Int) from ⟨h0, h1⟩), (hC.ti _ _ hu).sizeOf, hsz, Option.isSome_none]
              · simp only [den]
                refine ⟨_, _, rfl, Nat.sub_le_sub_right hnc _, fun hlen => ?_⟩
                have hlen' : 0 < cs.length - k.toNat := by
                  have : (std.drop k cs) = cs.drop k.toNat := rfl
                  rw [this, List.length_drop] at hlen; exact hlen
                obtain ⟨b, o', rfl, hlt, hnX, hd⟩ := hdat (Nat.lt_of_lt_of_le hlen' (Nat.sub_le _ _))
                refine ⟨b, o' + k.toNat, ?_, hlt, hnX, denC_drop _ hd⟩
                rw [if_neg (fun hck => by rw [← hck, hcl, Nat.sub_eq_zero_of_le hnc] at hlen'; exact absurd hlen' (Nat.lt_irrefl 0)), Option.map_some, Nat.mul_one, addr_add]
            · cases hs
          · cases hs
      · cases hs
  case field t x f =>
    cases ht : C.ti t with
    | none => simp [ht] at hs
    | some i =>
      simp only [ht, Option.bind_some] at hs
      split at hs
      · rename_i fs cs hk hxe
        cases hf : fs[f]? with
        | none => simp [hf] at hs
        | some q =>
          obtain ⟨off, u⟩ := q
          simp only [hf, Option.bind_some] at hs
          cases hu : C.ti u with
          | none => simp [hu] at hs
          | some j =>
            simp only [hu, Option.bind_some] at hs
            split at hs
            · rename_i hle
              cases hm : mk j ((cs.drop off).take j.size) with
              | none => simp [hm] at hs
              | some d' =>
                simp only [hm, Option.map_some, Option.some.injEq, Prod.mk.injEq] at hs; obtain ⟨_, rfl, rfl⟩ := hs
                have h1 := hx x (by simp)
                rw [hxe] at h1; simp only [den] at h1
                obtain ⟨vs, hv, hd⟩ := h1
                obtain ⟨fields, hun, hfs⟩ := (hC.ti t i ht).struct hk
                subst hfs
                simp only [List.getElem?_map, Array.getElem?_toList, Option.map_eq_some_iff] at hf
                obtain ⟨fl, hfl, hq⟩ := hf
                simp only [Prod.mk.injEq] at hq
                obtain ⟨rfl, rfl⟩ := hq
                obtain ⟨v, hr, hdv⟩ := part_run (P := P) (w := w) (hC.ti _ _ hu) hd hm
                refine Made.pure R ?_ hdv
                simp [execOp, Instr.field, run_und hun, hfl, hv, asAgg, hr, Pure.pure, Sem.run]
            · cases hs
      · cases hs
  case extract x i =>
    split at hs
    · rename_i ds hxe
      cases hd : ds[i]? with
      | none => simp [hd] at hs
      | some d' =>
        simp only [hd, Option.map_some, Option.some.injEq, Prod.mk.injEq] at hs; obtain ⟨_, rfl, rfl⟩ := hs
        have h1 := hx x (by simp)
        rw [hxe] at h1; simp only [den] at h1
        obtain ⟨vs, hv, hdl⟩ := h1
        obtain ⟨v, hg, hdv⟩ := denL_get hdl hd
        refine Made.pure R (v := v) ?_ hdv
        simp only [Array.getElem?_toList] at hg
        simp [execOp, Instr.extract, hv, hg, Pure.pure, Sem.run]
    · cases hs
  case call c =>
    obtain ⟨callee, args, argTypes⟩ := c
    have hL : denL (envr X0 h w ρ) (args.toList.map fun x => (ev x).nrm) (args.toList.map a.eval) := denL_map (ev := fun x => (ev x).nrm) _ (fun x hm => den_nrm <| hx x (by
      simp only [Call.operands, Array.toList_append, List.mem_append]; exact .inr hm))
    split at hs
    · rename_i f ds hcal
      exact absurd hcal (hnc _ _ rfl)
    · rename_i k m k' n hcal hargs
      simp only at hcal hargs
      subst hcal
      split at hs
      · rename_i hk
        subst hk
        simp only [Option.some.injEq, Prod.mk.injEq] at hs; obtain ⟨_, rfl, rfl⟩ := hs
        rw [hargs] at hL
        simp only [denL, den] at hL
        obtain ⟨_, _, hl, rfl, _, _, rfl, rfl, rfl⟩ := hL
        refine Made.pure R (v := .int k (if n < m then n else m)) ?_ (by rw [hC.alg]; simp only [den]; rfl)
        have ha : Array.map a.eval args = #[.int k m, .int k n] := by apply Array.ext'; simpa using hl
        simp only [execOp, resolve, ha, Sem.run_bind, Pure.pure, Sem.run, Result.andThen_ok, invoke, builtin, Builtin.min_]
        simp [Builtin.min2, Pure.pure]
      · cases hs
    · rename_i k m k' n hcal hargs
      simp only at hcal hargs
      subst hcal
      split at hs
      · rename_i hk
        subst hk
        simp only [Option.some.injEq, Prod.mk.injEq] at hs; obtain ⟨_, rfl, rfl⟩ := hs
        rw [hargs] at hL
        simp only [denL, den] at hL
        obtain ⟨_, _, hl, rfl, _, _, rfl, rfl, rfl⟩ := hL
        refine Made.pure R (v := .int k (if n > m then n else m)) ?_ (by rw [hC.alg]; simp only [den]; rfl)
        have ha : Array.map a.eval args = #[.int k m, .int k n] := by apply Array.ext'; simpa using hl
        simp only [execOp, resolve, ha, Sem.run_bind, Pure.pure, Sem.run, Result.andThen_ok, invoke, builtin, Builtin.max_]
        simp [Builtin.max2, Pure.pure]
      · cases hs
    · rename_i n cs hcal hargs
      simp only at hcal hargs
      subst hcal
      split at hs
      · rename_i t ht
        cases hi : C.ti t with
        | none => simp [hi] at hs
        | some i =>
          simp only [hi, Option.bind_some] at hs
          split at hs
          · rename_i e' hk
            simp only [Option.some.injEq, Prod.mk.injEq] at hs; obtain ⟨_, rfl, rfl⟩ := hs
            rw [hargs] at hL
            simp only [denL, den] at hL
            obtain ⟨_, _, hl, ⟨A, c, rfl, _⟩, rfl⟩ := hL
            refine Made.pure R (v := .int .i64 n) ?_ (by rw [hC.alg]; simp only [den]; rfl)
            have ha : Array.map a.eval args = #[.slice A n c] := by apply Array.ext'; simpa using hl
            have hun := (hC.ti t i hi).slice hk
            simp only [execOp, resolve, ha, Sem.run_bind, Pure.pure, Sem.run, Result.andThen_ok, invoke, builtin, Builtin.len_]
            simp only at ht
            simp [ht, run_und hun, goInt]
          · cases hs
      · cases hs
    · cases hs
/-- a call of a function of ours. -/
theorem step_call (hC : C.ok P G) (R : RelH G w0 X0 h w ρ) {ev : Operand → D} {a : Act} {nm : Nat} {o : Oper}
    (hx : ∀ x ∈ o.op.operands.toList, den (envr X0 h w ρ) (ev x) (a.eval x)) {p : Prop} {d : D} {e : Eff} (hs : step C ev h nm o = some (p, d, e)) (hp : p)
    {c : Call} {f : Nat} (hc : o.op = .call c) (hf : c.callee = .value (.func f)) :
    e = .none ∧ ∃ args, (execOp a.eval o).run P w = .ok (.enter f args) w ∧
      Calls P f args w fun en w' => ∃ v, en = .returned v ∧ RelH G w0 X0 h w' ρ ∧ Le (envr X0 h w ρ) (envr X0 h w' ρ) ∧ den (envr X0 h w' ρ) d v := by
  obtain ⟨dst, op, ty, pos, after, guard⟩ := o
  simp only at hc
  subst hc
  obtain ⟨callee, args, argTypes⟩ := c
  simp only at hf
  subst hf
  simp only [Op.operands] at hx
  have hL : denL (envr X0 h w ρ) (args.toList.map fun x => (ev x).nrm) (args.toList.map a.eval) := denL_map (ev := fun x => (ev x).nrm) _ (fun x hm => den_nrm <| hx x (by
    simp only [Call.operands, Array.toList_append, List.mem_append]; exact .inr hm))
  simp only [step] at hs
  split at hs
  · rename_i hpure
    cases hcl : C.call f (args.toList.map fun x => (ev x).nrm) with
    | none => simp [hcl] at hs
    | some r =>
      obtain ⟨p', d'⟩ := r
      simp only [hcl, Option.map_some, Option.some.injEq, Prod.mk.injEq] at hs
      obtain ⟨rfl, rfl, rfl⟩ := hs
      obtain ⟨⟨fn, cd, hfn, hname, hbody⟩, hsound⟩ := hC.call _ _ _ _ hcl
      refine ⟨rfl, args.map a.eval, ?_, ?_⟩
      · have hev : a.eval (.func f) = .func (.func f) #[] #[] := rfl
        have := enter_run (P := P) hfn hname hbody (args.map a.eval) w
        simp only [execOp, resolve, hev, Deferred.ofValue, Sem.run_bind, Pure.pure, Sem.run, Result.andThen_ok, invoke]
        simpa using this
      · have hd := denL_pure (ρ' := fun _ => none) hpure hL
        have hcall := hsound hp _ w (args.toList.map a.eval) (hC.mono w0 w R.below R.g) R.own hd
        have ha : (args.toList.map a.eval).toArray = args.map a.eval := by apply Array.ext'; simp only [Array.toList_map]
        rw [ha] at hcall
        refine hcall.mono fun en w' hh => ?_
        obtain ⟨v, d'', rfl, rfl, hdv, hb⟩ := hh
        obtain ⟨R', hle⟩ := R.bel hb
        exact ⟨v, rfl, R', hle, den_mono Le.rho_none _ _ hdv⟩
  · cases hs
end
end Go.Proofs.YtkijhcflomjdbaaDoor.Ev
