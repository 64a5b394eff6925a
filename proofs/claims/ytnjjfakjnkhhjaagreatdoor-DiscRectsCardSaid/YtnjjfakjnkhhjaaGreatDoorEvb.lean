import Derived.Test.YtnjjfakjnkhhjaaGreatDoorEva
import Derived.ScopeJumps
set_option linter.all false
namespace Go.Proofs.YtnjjfakjnkhhjaaGreatDoor.Ev
open Go Go.RowKit
structure St where
 tmps : List D
 heap : List Ent
def St.ev (st : St) : Operand → D
 | .tmp t => st.tmps.getD t .undef
 | .const v => ofConst v
 | .global g => .gptr g 0
 | .func f => .fn f []
def St.h (st : St) (k : Nat) : Option Ent := st.heap[k]?
def St.put (st : St) (dst : Option Nat) (d : D) : St := match dst with | some t => ⟨st.tmps.set t d, st.heap⟩ | none => st
def St.wr (st : St) : Option (Nat × (Ent → Ent)) → St
 | some p => match st.heap[p.1]? with | some e => ⟨st.tmps, st.heap.set p.1 (p.2 e)⟩ | none => st
 | none => st
def St.nw (st : St) : Option Ent → St
 | some e => ⟨st.tmps, st.heap ++ [e]⟩
 | none => st
def St.eff (st : St) (e : Eff) : St := (st.wr e.wr).nw e.nw
theorem St.wr_len (st : St) (q : Option (Nat × (Ent → Ent))) : (st.wr q).heap.length = st.heap.length := by
 cases q with
 | none => rfl
 | some p => simp only [St.wr]; cases st.heap[p.1]? <;> simp
theorem St.wr_h (st : St) (q : Option (Nat × (Ent → Ent))) : (st.wr q).h = wrH st.h q := by
 cases q with
 | none => rfl
 | some p =>
  obtain ⟨k, f⟩ := p
  funext j
  simp only [St.wr, St.h, wrH]
  cases hk : st.heap[k]? with
  | none =>
   simp only [Option.map_none, upd]
   split
   ·rename_i hj; subst hj; exact hk
   ·rfl
  | some e =>
   simp only [Option.map_some, upd, List.getElem?_set]
   have hlt : k < st.heap.length := by
    rcases Nat.lt_or_ge k st.heap.length with h | h
    ·exact h
    ·rw [List.getElem?_eq_none h] at hk; cases hk
   by_cases hj : j = k
   ·subst hj; simp [hlt]
   ·rw [if_neg (fun h => hj h.symm), if_neg hj]; rfl
theorem St.nw_h (st : St) (q : Option Ent) : (st.nw q).h = nwH st.h st.heap.length q := by
 cases q with
 | none => rfl
 | some e =>
  funext j
  simp only [St.nw, St.h, nwH, upd]
  split
  ·rename_i hj; subst hj; simp
  ·rename_i hj
   rcases Nat.lt_or_ge j st.heap.length with h | h
   ·rw [List.getElem?_append_left h]
   ·rw [List.getElem?_eq_none (by simp; omega), List.getElem?_eq_none h]
theorem St.eff_h (st : St) (e : Eff) : (st.eff e).h = effH st.h st.heap.length e := by
 unfold St.eff effH
 rw [St.nw_h, St.wr_h, St.wr_len]
theorem St.put_h (st : St) (dst : Option Nat) (d : D) : (st.put dst d).h = st.h := by cases dst <;> rfl
theorem St.wr_tmps (st : St) (q : Option (Nat × (Ent → Ent))) : (st.wr q).tmps = st.tmps := by
 cases q with
 | none => rfl
 | some p => simp only [St.wr]; cases st.heap[p.1]? <;> rfl
theorem St.eff_tmps (st : St) (e : Eff) : (st.eff e).tmps = st.tmps := by
 unfold St.eff
 rw [← St.wr_tmps st e.wr]
 cases e.nw <;> rfl
def know (all : List Oper) (st : St) (j : Nat) (b : Bool) : St := match (all[j]?).bind (·.dst) with
 | some t => ⟨st.tmps.set t (.kb b), st.heap⟩
 | none => st
def wantD (all : List Oper) (st : St) (o : Oper) : Option (Bool × St) :=
 match o.guard with
 | none => some (true, st)
 | some (j, want) => match ((all[j]?).bind (·.dst)).bind (st.tmps[·]?) with
  | some (.bool b) => some (b == want, know all st j b)
  | some (.kb b) => some (b == want, st)
  | some (.tup _) => some (false, st)
  | _ => none
theorem want_sim {all : List Oper} {st s : St} {o : Oper} {b : Bool} (h : wantD all st o = some (b, s)) :
  s.heap = st.heap ∧ s.tmps.length = st.tmps.length ∧ ∀ (t : Nat) (x : D), s.tmps[t]? = some x → ∃ y, st.tmps[t]? = some y ∧ ∀ E v, den E y v → den E x v := by
 have same : ∀ (t : Nat) (x : D), st.tmps[t]? = some x → ∃ y, st.tmps[t]? = some y ∧ ∀ E v, den E y v → den E x v := fun t x h => ⟨x, h, fun _ _ h => h⟩
 unfold wantD at h
 split at h
 ·cases h; exact ⟨rfl, rfl, same⟩
 ·rename_i j want _
  split at h
  ·rename_i b' hb
   simp only [Option.some.injEq, Prod.mk.injEq] at h
   obtain ⟨_, rfl⟩ := h
   unfold know
   cases hd : (all[j]?).bind (·.dst) with
   | none => exact ⟨rfl, rfl, same⟩
   | some s =>
    rw [hd] at hb
    simp only [Option.bind_some] at hb
    refine ⟨rfl, by simp, fun t x hx => ?_⟩
    simp only [List.getElem?_set] at hx
    by_cases hst : s = t
    ·subst hst
     simp only [if_true] at hx
     split at hx
     ·cases hx; exact ⟨_, hb, fun E v h => by simp only [den] at h ⊢; exact h⟩
     ·cases hx
    ·rw [if_neg hst] at hx; exact same t x hx
  ·simp only [Option.some.injEq, Prod.mk.injEq] at h; obtain ⟨_, rfl⟩ := h; exact ⟨rfl, rfl, same⟩
  ·simp only [Option.some.injEq, Prod.mk.injEq] at h; obtain ⟨_, rfl⟩ := h; exact ⟨rfl, rfl, same⟩
  ·cases h
def accE (ev : Operand → D) (o : Oper) : Option (Bool × Nat) := match o.op with
 | .load _ x => match ev x with | .ptr k _ => some (false, k) | _ => none
 | .store _ x _ => match ev x with | .ptr k _ => some (true, k) | _ => none
 | .call c => match c.callee with
  | .builtin .copy => (match c.args.toList with | x :: _ => (match (ev x).nrm with | .osl k _ _ _ => some (true, k) | _ => none) | _ => none)
  | _ => none
 | .convert _ _ x => match ev x with | .osl k _ _ _ => some (false, k) | _ => none
 | .makeFunc _ _ cps => match cps.toList with
  | [x] => match ev x with | .ptr k _ => some (true, k) | _ => none
  | _ => none
 | _ => none
def accOf (st : St) (o : Oper) : Option (Bool × Nat) := accE st.ev o
def confHere (o : Oper) (a : Option (Bool × Nat)) (acc : List (Nat × Bool × Nat)) : Bool := match a with
 | none => true
 | some (s, k) => acc.all fun p => !(p.2.2 == k && (s || p.2.1)) || (onB o).contains p.1
def push (i : Nat) (a : Option (Bool × Nat)) (acc : List (Nat × Bool × Nat)) : List (Nat × Bool × Nat) := match a with
 | none => acc
 | some (s, k) => (i, s, k) :: acc
def runThen (st : St) (o : Oper) (r : Option (Prop × D × Eff)) (ok : Bool) (k : St → Option (Prop × St)) : Option (Prop × St) := match r with
 | some (p, d, e) => (k ((st.eff e).put o.dst d)).map fun q => ((p ∧ ok = true) ∧ q.1, q.2)
 | none => none
def vcThen (st : St) (o : Oper) (r : Option (Prop × D × Eff)) (ok : Bool) (k : St → Prop) : Prop := match r with
 | some (p, d, e) => p ∧ ok = true ∧ k ((st.eff e).put o.dst d)
 | none => False
def run (C : Ctx) (draw : Bool) (all : List Oper) : List Oper → Nat → List (Nat × Bool × Nat) → St → Option (Prop × St)
 | [], _, _, st => some (True, st)
 | o :: os, i, acc, st => match wantD all st o with
  | some (true, st) => runThen st o (step C st.ev st.h st.heap.length o) (!draw || confHere o (accOf st o) acc) (run C draw all os (i + 1) (push i (accOf st o) acc))
  | some (false, st) => run C draw all os (i + 1) acc (st.put o.dst (.tup []))
  | none => none
def vcOne (C : Ctx) (draw : Bool) (i : Nat) (o : Oper) (acc : List (Nat × Bool × Nat)) (st : St) (k : List (Nat × Bool × Nat) → St → Prop) : Prop :=
 vcThen st o (step C st.ev st.h st.heap.length o) (!draw || confHere o (accOf st o) acc) (k (push i (accOf st o) acc))
def at? (all : List (Option Nat)) (j : Nat) : Option Nat := match all[j]? with | some d => d | none => none
theorem at_map (all : List Oper) (j : Nat) : at? (all.map (·.dst)) j = (all[j]?).bind (·.dst) := by
 unfold at?
 rw [List.getElem?_map]
 cases all[j]? <;> rfl
def knowD (all : List (Option Nat)) (st : St) (j : Nat) (b : Bool) : St := match at? all j with
 | some t => ⟨st.tmps.set t (.kb b), st.heap⟩
 | none => st
theorem knowD_eq (all : List Oper) (st : St) (j : Nat) (b : Bool) : knowD (all.map (·.dst)) st j b = know all st j b := by
 unfold knowD know
 rw [at_map]
 cases (all[j]?).bind (·.dst) <;> rfl
def vc (C : Ctx) (draw : Bool) (all : List (Option Nat)) : List Oper → Nat → List (Nat × Bool × Nat) → St → (St → Prop) → Prop
 | [], _, _, st, K => K st
 | o :: os, i, acc, st, K => match o.guard with
  | none => vcOne C draw i o acc st fun acc' s => vc C draw all os (i + 1) acc' s K
  | some (j, want) => match (at? all j).bind (st.tmps[·]?) with
   | some (.bool b) => (b = want → vcOne C draw i o acc (knowD all st j want) fun acc' s => vc C draw all os (i + 1) acc' s K) ∧
     (b = !want → vc C draw all os (i + 1) acc ((knowD all st j !want).put o.dst (.tup [])) K)
   | some (.kb b) => match b == want with
    | true => vcOne C draw i o acc st fun acc' s => vc C draw all os (i + 1) acc' s K
    | false => vc C draw all os (i + 1) acc (st.put o.dst (.tup [])) K
   | some (.tup _) => vc C draw all os (i + 1) acc (st.put o.dst (.tup [])) K
   | _ => False
theorem vc_run {C : Ctx} {draw : Bool} {all : List Oper} : ∀ {os : List Oper} {i : Nat} {acc : List (Nat × Bool × Nat)} {st : St} {K : St → Prop}, vc C draw (all.map (·.dst)) os i acc st K → ∃ p st', run C draw all os i acc st = some (p, st') ∧ p ∧ K st'
 | [], i, acc, st, K, h => ⟨True, st, rfl, trivial, h⟩
 | o :: os, i, acc, st, K, h => by
  simp only [vc, at_map, knowD_eq] at h
  unfold run wantD
  have good : ∀ (st : St), (vcOne C draw i o acc st fun acc' s => vc C draw (all.map (·.dst)) os (i + 1) acc' s K) →
    ∃ p st', runThen st o (step C st.ev st.h st.heap.length o) (!draw || confHere o (accOf st o) acc) (run C draw all os (i + 1) (push i (accOf st o) acc)) = some (p, st') ∧ p ∧ K st' := by
   intro st hr
   unfold vcOne at hr
   cases hst : step C st.ev st.h st.heap.length o with
   | none => rw [hst] at hr; exact hr.elim
   | some r =>
    obtain ⟨p, d, e⟩ := r
    rw [hst] at hr
    obtain ⟨h1, h2, h3⟩ := hr
    obtain ⟨q, st', h4, h5, h6⟩ := vc_run h3
    exact ⟨(p ∧ (!draw || confHere o (accOf st o) acc) = true) ∧ q, st', by simp [runThen, h4], ⟨⟨h1, h2⟩, h5⟩, h6⟩
  cases hg : o.guard with
  | none => rw [hg] at h; exact good _ h
  | some jw =>
   obtain ⟨j, want⟩ := jw
   rw [hg] at h
   dsimp only at h ⊢
   generalize ((all[j]?).bind (·.dst)).bind (st.tmps[·]?) = q at h ⊢
   split at h
   ·rename_i b
    by_cases hbw : b = want
    ·subst hbw; simp only [beq_self_eq_true]; exact good _ (h.1 rfl)
    ·have : (b == want) = false := by simpa using hbw
     rw [this]
     have hb2 : b = !want := by cases b <;> cases want <;> simp_all
     rw [hb2]
     exact vc_run (h.2 hb2)
   ·rename_i b
    cases hbw : (b == want) with
    | true => rw [hbw] at h; exact good _ h
    | false => rw [hbw] at h; exact vc_run h
   ·exact vc_run h
   ·exact h.elim
structure Rel (G : World → Prop) (sM : Bool) (w0 : World) (X0 : Nat → Prop) (st : St) (a : Act) (w : World) : Prop where
 defers : a.defers = []
 size : a.tmps.size = st.tmps.length
 mem : ∃ ρ, RelH G sM w0 X0 st.h w ρ ∧ ∀ t d, st.tmps[t]? = some d → den (envr X0 st.h w ρ) d (a.tmps.getD t undef)
section
variable {P : Program} {G : World → Prop} {C : Ctx} {w0 : World} {X0 : Nat → Prop}
theorem ev_den {st : St} {a : Act} {E : Env} (h : ∀ t d, st.tmps[t]? = some d → den E d (a.tmps.getD t undef)) (x : Operand) : den E (st.ev x) (a.eval x) := by
 cases x with
 | tmp t =>
  simp only [St.ev, Act.eval, List.getD_eq_getElem?_getD]
  cases ht : st.tmps[t]? with
  | none => simp [den]
  | some d => exact h t d ht
 | const v => exact den_const E v
 | global g => simp only [St.ev, Act.eval, den]
 | func f => simp only [St.ev, den]; exact ⟨#[], rfl, by simp [denL]⟩
theorem put_den {tm : List D} {a : Act} {E E' : Env} (hle : Le E E') (h : ∀ t d, tm[t]? = some d → den E d (a.tmps.getD t undef)) (hs : a.tmps.size = tm.length) {dst : Option Nat} {d : D} {v : Value} (hv : den E' d v) :
  ∀ t d', (match dst with | some t => tm.set t d | none => tm)[t]? = some d' → den E' d' ((a.put dst v).tmps.getD t undef) := by
 intro t d' ht
 cases dst with
 | none => exact den_mono hle _ _ (h t d' ht)
 | some s =>
  simp only [List.getElem?_set] at ht
  simp only [Act.put, Array.getD_eq_getD_getElem?, Array.getElem?_setIfInBounds]
  by_cases hst : s = t
  ·subst hst
   simp only [if_true] at ht ⊢
   split at ht
   ·rename_i hl; cases ht; rw [if_pos (by omega)]; exact hv
   ·cases ht
  ·rw [if_neg hst] at ht ⊢
   have := den_mono hle _ _ (h t d' ht)
   rwa [Array.getD_eq_getD_getElem?] at this
theorem put_defers (a : Act) (dst : Option Nat) (v : Value) : (a.put dst v).defers = a.defers := by cases dst <;> rfl
theorem put_size (a : Act) (dst : Option Nat) (v : Value) : (a.put dst v).tmps.size = a.tmps.size := by cases dst <;> simp [Act.put]
theorem step_wp (hC : C.ok P G) {h : Nat → Option Ent} {ρ : Nat → Option Nat} {w : World} (R : RelH G C.own w0 X0 h w ρ) {ev : Operand → D} {a : Act} {nm : Nat} {o : Oper}
  (hx : ∀ x ∈ o.op.operands.toList, den (envr X0 h w ρ) (ev x) (a.eval x)) {p : Prop} {d : D} {e : Eff} (hs : step C ev h nm o = some (p, d, e)) (hn : (∃ en, e.nw = some en) → h nm = none) (hp : p) {K : Act → World → Prop} {Q : Exit → Act → World → Prop}
  (hK : ∀ v w' ρ', RelH G C.own w0 X0 (effH h nm e) w' ρ' → Le (envr X0 h w ρ) (envr X0 (effH h nm e) w' ρ') → den (envr X0 (effH h nm e) w' ρ') d v → K (a.put o.dst v) w') :
  o.wp P a w K Q := by
 by_cases hc : ∃ c f, o.op = .call c ∧ c.callee = .value (.func f) ∧ C.ext f = none
 ·obtain ⟨c, f, hc1, hc2, hc3⟩ := hc
  obtain ⟨rfl, args, hr, hcall⟩ := step_call hC R hx hs hp hc1 hc2 hc3
  unfold Oper.wp
  rw [hr, Oper.upon_enter]
  refine hcall.mono fun en w' hh => ?_
  obtain ⟨v, rfl, R', hle, hd⟩ := hh
  exact hK v w' ρ R' hle hd
 by_cases ht : ∃ c t, o.op = .call c ∧ c.callee = .value (.tmp t)
 ·obtain ⟨c, t, hc1, hc2⟩ := ht
  obtain ⟨rfl, f, args, hr, hcall⟩ := step_callv hC R hx hs hp hc1 hc2
  unfold Oper.wp
  rw [hr, Oper.upon_enter]
  refine hcall.mono fun en w' hh => ?_
  obtain ⟨v, rfl, R', hle, hd⟩ := hh
  exact hK v w' ρ R' hle hd
 ·obtain ⟨n, v, w', ρ', hr, hn', R', hle, hd⟩ := step_run hC R hx hs hn hp (fun c f h1 h2 => by
   cases h3 : C.ext f with
   | none => exact absurd ⟨c, f, h1, h2, h3⟩ hc
   | some x => exact ⟨x, rfl⟩) (fun c t h1 h2 => ht ⟨c, t, h1, h2⟩)
  unfold Oper.wp
  rw [hr]
  rcases hn' with rfl | ⟨rfl, rfl⟩
  ·rw [Oper.upon_value]; exact hK v w' ρ' R' hle hd
  ·rw [Oper.upon_skip]; exact hK undef w' ρ' R' hle hd
theorem wanted_eq {all : List Oper} {ops : Array Oper} (hall : all = ops.toList) {st s : St} {a : Act} {E : Env} {o : Oper} (h : ∀ t x, (∃ j w, o.guard = some (j, w) ∧ (all[j]?).bind (·.dst) = some t) → st.tmps[t]? = some x → den E x (a.tmps.getD t undef)) (hs : a.tmps.size = st.tmps.length) {b : Bool} (hw : wantD all st o = some (b, s)) :
  Region.wanted o (yielded ops a.tmps) = b := by
 subst hall
 unfold wantD at hw
 unfold Region.wanted
 cases hg : o.guard with
 | none => rw [hg] at hw; cases hw; rfl
 | some jw =>
  obtain ⟨j, want⟩ := jw
  rw [hg] at hw
  dsimp only at hw ⊢
  unfold yielded
  cases hd : (ops[j]?).bind (·.dst) with
  | none => simp only [Array.getElem?_toList] at hw; rw [hd] at hw; simp at hw
  | some t =>
   have hr := fun x (hx : st.tmps[t]? = some x) => h t x ⟨j, want, hg, by rw [Array.getElem?_toList]; exact hd⟩ hx
   simp only [Array.getElem?_toList] at hw
   rw [hd] at hw
   simp only [Option.bind_some] at hw ⊢
   cases ht : st.tmps[t]? with
   | none => rw [ht] at hw; cases hw
   | some x =>
    rw [ht] at hw
    have hden := hr x ht
    have hlt : t < st.tmps.length := by
     rcases Nat.lt_or_ge t st.tmps.length with h | h
     ·exact h
     ·rw [List.getElem?_eq_none h] at ht; cases ht
    have hlt2 : t < a.tmps.size := by rw [hs]; exact hlt
    have hget : a.tmps[t]? = some (a.tmps.getD t undef) := by
     rw [Array.getD_eq_getD_getElem?, Array.getElem?_eq_getElem hlt2]; rfl
    rw [hget]
    cases x <;> simp only [Option.some.injEq, Prod.mk.injEq] at hw <;> (try (cases hw; done))
    case bool b' =>
     simp only [den] at hden
     rw [hden]
     obtain ⟨rfl, _⟩ := hw
     cases b' <;> cases want <;> rfl
    case kb b' =>
     simp only [den] at hden
     rw [hden]
     obtain ⟨rfl, _⟩ := hw
     cases b' <;> cases want <;> rfl
    case tup ds =>
     simp only [den] at hden
     obtain ⟨vs, hv, _⟩ := hden
     rw [hv]
     obtain ⟨rfl, _⟩ := hw
     rfl
theorem want_rel {all : List Oper} {st s : St} {o : Oper} {b : Bool} (hw : wantD all st o = some (b, s)) {a : Act} {w : World} {ρ : Nat → Option Nat} (RH : RelH G C.own w0 X0 st.h w ρ) (ht : ∀ t d, st.tmps[t]? = some d → den (envr X0 st.h w ρ) d (a.tmps.getD t undef)) :
  RelH G C.own w0 X0 s.h w ρ ∧ ∀ t d, s.tmps[t]? = some d → den (envr X0 s.h w ρ) d (a.tmps.getD t undef) := by
 obtain ⟨h1, _, h3⟩ := want_sim hw
 have hh : s.h = st.h := by unfold St.h; rw [h1]
 rw [hh]
 refine ⟨RH, fun t d hd => ?_⟩
 obtain ⟨y, hy, hi⟩ := h3 t d hd
 exact hi _ _ (ht t y hy)
theorem ops_seq (hC : C.ok P G) {ops : Array Oper} {Q : Exit → Act → World → Prop} {st' : St} (hQ : ∀ a w, Rel G C.own w0 X0 st' a w → Q .normal a w) :
  ∀ (os : List Oper) (i : Nat) (acc : List (Nat × Bool × Nat)) (st : St) (a : Act) (w : World) (p : Prop), ops.toList.drop i = os → run C false ops.toList os i acc st = some (p, st') → p → Rel G C.own w0 X0 st a w → wpOps P ops Q (List.range' i os.length) a w
 | [], i, acc, st, a, w, p, _, hr, _, R => by
  simp only [run, Option.some.injEq, Prod.mk.injEq] at hr
  obtain ⟨_, rfl⟩ := hr
  exact hQ a w R
 | o :: os, i, acc, st, a, w, p, hd, hr, hp, R => by
  obtain ⟨hdef, hsz, ρ, RH, ht⟩ := R
  have ho : ops[i]? = some o := by
   have : (ops.toList.drop i)[0]? = some o := by rw [hd]; rfl
   simpa [List.getElem?_drop] using this
  have hd' : ops.toList.drop (i + 1) = os := by rw [← List.tail_drop, hd]; rfl
  simp only [List.length_cons, List.range'_succ, wpOps, ho]
  unfold run at hr
  split at hr
  ·rename_i s hw
   have hwe := wanted_eq rfl (fun t x _ hx => ht t x hx) hsz hw
   obtain ⟨RH, ht⟩ := want_rel hw RH ht
   have hsz : a.tmps.size = s.tmps.length := by rw [(want_sim hw).2.1]; exact hsz
   rw [if_pos hwe]
   unfold runThen at hr
   split at hr
   ·rename_i q d e hs
    cases hrun : run C false ops.toList os (i + 1) (push i (accOf s o) acc) ((s.eff e).put o.dst d) with
    | none => rw [hrun] at hr; simp at hr
    | some r =>
     obtain ⟨q', st''⟩ := r
     rw [hrun] at hr
     simp only [Option.map_some, Option.some.injEq, Prod.mk.injEq] at hr
     obtain ⟨rfl, rfl⟩ := hr
     refine .inl (step_wp hC RH (fun x _ => ev_den ht x) hs (fun _ => by simp [St.h]) hp.1.1 fun v w' ρ' R' hle hdv => ?_)
     refine ops_seq hC hQ os (i + 1) _ _ _ _ q' hd' hrun hp.2 ⟨by rw [put_defers]; exact hdef, ?_, ρ', ?_, ?_⟩
     ·rw [put_size, hsz]; cases o.dst <;> simp [St.put, St.eff_tmps]
     ·rw [St.put_h, St.eff_h]; exact R'
     ·rw [St.put_h, St.eff_h]
      have := put_den hle ht hsz (dst := o.dst) hdv
      intro t d' h'
      refine this t d' ?_
      cases hdst : o.dst <;> simp only [hdst, St.put, St.eff_tmps] at h' ⊢ <;> exact h'
   ·cases hr
  ·rename_i s hw
   have hwe := wanted_eq rfl (fun t x _ hx => ht t x hx) hsz hw
   obtain ⟨RH, ht⟩ := want_rel hw RH ht
   have hsz : a.tmps.size = s.tmps.length := by rw [(want_sim hw).2.1]; exact hsz
   rw [if_neg (by rw [hwe]; simp)]
   refine ops_seq hC hQ os (i + 1) _ _ _ _ p hd' hr hp ⟨by rw [put_defers]; exact hdef, ?_, ρ, ?_, ?_⟩
   ·rw [put_size, hsz]; cases o.dst <;> simp [St.put]
   ·rw [St.put_h]; exact RH
   ·rw [St.put_h]
    have := put_den (Le.refl _) ht hsz (dst := o.dst) (d := .tup []) (v := undef) (by simp only [den]; exact ⟨#[], rfl, by simp [denL]⟩)
    intro t d' h'
    refine this t d' ?_
    cases hdst : o.dst <;> simp only [hdst, St.put] at h' ⊢ <;> exact h'
  ·cases hr
end
structure SafeO (all : List Oper) (nt : Nat) : Prop where
 lt : ∀ (i : Nat) (o : Oper), all[i]? = some o → ∀ j ∈ onB o, j < i
 dst : ∀ (i : Nat) (o : Oper), all[i]? = some o → ∀ t, o.dst = some t → t < nt
 reads : ∀ (i : Nat) (o : Oper), all[i]? = some o → ∀ (j : Nat) (q : Oper), all[j]? = some q → i ≠ j → ∀ t, q.dst = some t → t ∈ readsOf all o → j ∈ onB o ∨ i ∈ onB q
 uniq : ∀ (i : Nat) (o : Oper), all[i]? = some o → ∀ (j : Nat) (q : Oper), all[j]? = some q → i ≠ j → ∀ t, q.dst = some t → o.dst ≠ some t
theorem safe_spec {all : List Oper} {nt : Nat} (h : safe all nt = true) : SafeO all nt := by
 have key : ∀ (i : Nat) (o : Oper), all[i]? = some o → (∀ j ∈ onB o, j < i) ∧ (∀ t, o.dst = some t → t < nt) ∧ ∀ (j : Nat) (q : Oper), all[j]? = some q → pairOk all o i q j = true := by
  intro i o ho
  have hm : ∀ (i : Nat) (o : Oper), all[i]? = some o → (o, i) ∈ all.zipIdx := fun i o ho => List.mem_zipIdx_iff_getElem?.2 ho
  have h1 := List.all_eq_true.1 h _ (hm i o ho)
  simp only [Bool.and_eq_true] at h1
  refine ⟨fun j hj => by simpa using List.all_eq_true.1 h1.1.1 j hj, fun t ht => by have := h1.1.2; rw [ht] at this; simpa using this, fun j q hq => List.all_eq_true.1 h1.2 _ (hm j q hq)⟩
 have pair : ∀ (i : Nat) (o : Oper), all[i]? = some o → ∀ (j : Nat) (q : Oper), all[j]? = some q → i ≠ j → ∀ t, q.dst = some t → (t ∈ readsOf all o → j ∈ onB o ∨ i ∈ onB q) ∧ o.dst ≠ some t := by
  intro i o ho j q hq hij t ht
  have := (key i o ho).2.2 j q hq
  unfold pairOk at this
  simp only [Bool.or_eq_true, beq_iff_eq] at this
  rcases this with h | h1
  ·exact absurd h hij
  ·rw [ht] at h1
   simp only [Bool.or_eq_true, Bool.and_eq_true, Bool.not_eq_true', bne_iff_ne] at h1
   refine ⟨fun hr => ?_, h1.2⟩
   rcases h1.1 with (h | h) | h
   ·exact absurd (List.contains_iff_mem.2 hr) (by rw [h]; simp)
   ·exact .inl (List.contains_iff_mem.1 h)
   ·exact .inr (List.contains_iff_mem.1 h)
 exact ⟨fun i o ho => (key i o ho).1, fun i o ho => (key i o ho).2.1, fun i o ho j q hq hij t ht => (pair i o ho j q hq hij t ht).1, fun i o ho j q hq hij t ht => (pair i o ho j q hq hij t ht).2⟩
def StepOk (C : Ctx) (draw : Bool) (all : List Oper) (o : Oper) (i : Nat) (s : St) (acc : List (Nat × Bool × Nat)) (d : D) (e : Eff) (s' : St) (acc' : List (Nat × Bool × Nat)) : Prop :=
 ∃ s1, ((wantD all s o = some (true, s1) ∧ (∃ p : Prop, step C s1.ev s1.h s1.heap.length o = some (p, d, e) ∧ p) ∧ (!draw || confHere o (accOf s1 o) acc) = true ∧ acc' = push i (accOf s1 o) acc) ∨ (wantD all s o = some (false, s1) ∧ d = .tup [] ∧ e = .none ∧ acc' = acc)) ∧ s' = (s1.eff e).put o.dst d
theorem run_trace {C : Ctx} {draw : Bool} {all : List Oper} : ∀ {os : List Oper} {n : Nat} {acc : List (Nat × Bool × Nat)} {st st' : St} {p : Prop}, run C draw all os n acc st = some (p, st') → p →
  ∃ (S : Nat → St) (AC : Nat → List (Nat × Bool × Nat)) (d : Nat → D) (e : Nat → Eff), S 0 = st ∧ AC 0 = acc ∧ S os.length = st' ∧ ∀ (i : Nat) (o : Oper), os[i]? = some o → StepOk C draw all o (n + i) (S i) (AC i) (d i) (e i) (S (i + 1)) (AC (i + 1))
 | [], n, acc, st, st', p, h, hp => by
  simp only [run, Option.some.injEq, Prod.mk.injEq] at h
  obtain ⟨_, rfl⟩ := h
  exact ⟨fun _ => st, fun _ => acc, fun _ => .undef, fun _ => .none, rfl, rfl, rfl, fun i o h => by simp at h⟩
 | o :: os, n, acc, st, st', p, h, hp => by
  have build : ∀ (d0 : D) (e0 : Eff) (acc1 : List (Nat × Bool × Nat)) (s2 : St) (q : Prop), StepOk C draw all o n st acc d0 e0 s2 acc1 → run C draw all os (n + 1) acc1 s2 = some (q, st') → q →
    ∃ (S : Nat → St) (AC : Nat → List (Nat × Bool × Nat)) (d : Nat → D) (e : Nat → Eff), S 0 = st ∧ AC 0 = acc ∧ S (o :: os).length = st' ∧ ∀ (i : Nat) (o' : Oper), (o :: os)[i]? = some o' → StepOk C draw all o' (n + i) (S i) (AC i) (d i) (e i) (S (i + 1)) (AC (i + 1)) := by
   intro d0 e0 acc1 s2 q h0 hr hq
   obtain ⟨S, AC, d, e, h1, h1', h2, h3⟩ := run_trace hr hq
   refine ⟨fun i => match i with | 0 => st | i + 1 => S i, fun i => match i with | 0 => acc | i + 1 => AC i, fun i => match i with | 0 => d0 | i + 1 => d i, fun i => match i with | 0 => e0 | i + 1 => e i, rfl, rfl, h2, fun i o' ho => ?_⟩
   cases i with
   | zero => simp at ho; subst ho; simp only [h1, h1']; exact h0
   | succ i => simp at ho; have := h3 i o' ho; rwa [show n + 1 + i = n + (i + 1) by omega] at this
  unfold run at h
  split at h
  ·rename_i s1 hw
   unfold runThen at h
   split at h
   ·rename_i q d e hs
    cases hrun : run C draw all os (n + 1) (push n (accOf s1 o) acc) ((s1.eff e).put o.dst d) with
    | none => rw [hrun] at h; simp at h
    | some r =>
     obtain ⟨q', st''⟩ := r
     rw [hrun] at h
     simp only [Option.map_some, Option.some.injEq, Prod.mk.injEq] at h
     obtain ⟨rfl, rfl⟩ := h
     exact build d e _ _ q' ⟨s1, .inl ⟨hw, ⟨q, hs, hp.1.1⟩, hp.1.2, rfl⟩, rfl⟩ hrun hp.2
   ·cases h
  ·rename_i s1 hw
   exact build (.tup []) .none acc _ p ⟨s1, .inr ⟨hw, rfl, rfl, rfl⟩, rfl⟩ h hp
  ·cases h
def Plain (r : Option (Prop × D × Eff)) : Prop := ∀ p d e, r = some (p, d, e) → e.wr = none
theorem plain_none : Plain none := fun _ _ _ h => by cases h
theorem plain_some {p : Prop} {d : D} : Plain (some (p, d, .none)) := fun _ _ _ h => by cases h; rfl
theorem plain_new {p : Prop} {d : D} {en : Ent} : Plain (some (p, d, .new en)) := fun _ _ _ h => by cases h; rfl
theorem plain_bind {α : Type} {o : Option α} {f : α → Option (Prop × D × Eff)} (h : ∀ x, Plain (f x)) : Plain (o.bind f) := by
 cases o with
 | none => exact plain_none
 | some x => exact h x
theorem plain_map {α : Type} {o : Option α} {f : α → Prop} {g : α → D} : Plain (o.map fun x => (f x, g x, Eff.none)) := by
 cases o with
 | none => exact plain_none
 | some x => exact plain_some
theorem plain_xt {x : Xt} {A : Alg} {ds : List D} : Plain (x.step A ds) := by
 unfold Xt.step
 split
 ·exact plain_some
 ·exact plain_some
 ·exact plain_none
theorem plain_out {r : Option (Prop × D × Eff)} (h : Plain r) {p : Prop} {d : D} {e : Eff} (hr : r = some (p, d, e)) : e.wr = none := h p d e hr
theorem step_eff {C : Ctx} {ev : Operand → D} {h : Nat → Option Ent} {nm : Nat} {o : Oper} {p : Prop} {d : D} {e : Eff} (hs : step C ev h nm o = some (p, d, e)) :
  e.wr = none ∨ ∃ k f, e.wr = some (k, f) ∧ accE ev o = some (true, k) ∧ (h k).isSome = true ∧ isStore o.op = true := by
 obtain ⟨dst, op, ty, pos, after, guard⟩ := o
 cases op <;> simp only [step] at hs <;> (try (cases hs; done))
 case store t a x =>
  right
  cases ht : C.ti t with
  | none => simp [ht] at hs
  | some i =>
   simp only [ht, Option.bind_some] at hs
   split at hs
   ·rename_i k off hk
    cases he : h k with
    | none => simp [he] at hs
    | some e' =>
     simp only [he, Option.bind_some] at hs
     have hacc : accE ev ⟨dst, .store t a x, ty, pos, after, guard⟩ = some (true, k) := by simp only [accE, hk]
     split at hs
     ·split at hs
      ·simp only [Option.some.injEq, Prod.mk.injEq] at hs; obtain ⟨_, rfl, rfl⟩ := hs
       exact ⟨k, _, rfl, hacc, by simp [he], rfl⟩
      ·cases hs
     ·split at hs
      ·simp only [Option.some.injEq, Prod.mk.injEq] at hs; obtain ⟨_, rfl, rfl⟩ := hs
       exact ⟨k, _, rfl, hacc, by simp [he], rfl⟩
      ·cases hs
     ·cases hs
   ·cases hs
 case makeFunc fn fs cps =>
  split at hs
  ·left
   refine plain_out ?_ hs
   exact plain_some
  ·rename_i f k off hfs hcp
   right
   obtain ⟨x, hcx, hxe⟩ := map_one hcp
   cases he : h k with
   | none => simp [he] at hs
   | some e' =>
    simp only [he, Option.bind_some] at hs
    split at hs
    ·split at hs
     ·simp only [Option.some.injEq, Prod.mk.injEq] at hs; obtain ⟨_, rfl, rfl⟩ := hs
      exact ⟨k, _, rfl, by simp only [accE, hcx, hxe], by simp [he], rfl⟩
     ·cases hs
    ·cases hs
  ·cases hs
 case call c =>
  obtain ⟨callee, args, argTypes⟩ := c
  split at hs
  rotate_left 2
  ·rename_i k s0 o n m ds hcal hargs
   simp only at hcal hargs
   subst hcal
   right
   cases he : h k with
   | none => simp [he] at hs
   | some e' =>
    simp only [he, Option.bind_some] at hs
    cases hat : argTypes[0]? with
    | none => simp [hat] at hs
    | some t =>
     simp only [hat, Option.bind_some] at hs
     cases hti : C.ti t with
     | none => simp [hti] at hs
     | some i =>
      simp only [hti, Option.bind_some] at hs
      split at hs
      ·rename_i et hek hik
       cases hte : C.ti et with
       | none => simp [hte] at hs
       | some j =>
        simp only [hte, Option.bind_some] at hs
        split at hs
        ·simp only [Option.some.injEq, Prod.mk.injEq] at hs; obtain ⟨_, rfl, rfl⟩ := hs
         refine ⟨k, _, rfl, ?_, by simp [he], rfl⟩
         unfold accE
         simp only
         match h9 : args.toList, hargs with
         | x :: _, hargs =>
          simp only [List.map_cons, List.cons.injEq] at hargs
          simp only [hargs.1]
        ·cases hs
      ·cases hs
  all_goals
   left
   refine plain_out ?_ hs
   repeat' (first | exact plain_none | exact plain_xt | exact plain_some | exact plain_new | refine plain_bind fun _ => ?_ | exact plain_map | split)
 all_goals (left; refine plain_out ?_ hs)
 all_goals repeat' (first | exact plain_none | exact plain_xt | exact plain_some | exact plain_new | refine plain_bind fun _ => ?_ | exact plain_map | split)
def hF (nm : Nat → Nat) (e : Nat → Eff) (done : Nat → Bool) (l : List Nat) (h : Nat → Option Ent) : Nat → Option Ent :=
 l.foldl (fun h j => if done j then effH h (nm j) (e j) else h) h
def tch (nm : Nat) (e : Eff) (k : Nat) : Prop := (∃ f, e.wr = some (k, f)) ∨ ((∃ en, e.nw = some en) ∧ nm = k)
def touch (nm : Nat → Nat) (e : Nat → Eff) (j k : Nat) : Prop := tch (nm j) (e j) k
theorem wrH_at {h h' : Nat → Option Ent} {k : Nat} {q : Option (Nat × (Ent → Ent))} (hk : h k = h' k) : wrH h q k = wrH h' q k := by
 cases q with
 | none => exact hk
 | some p =>
  simp only [wrH, upd]
  split
  ·rename_i hp; subst hp; rw [hk]
  ·exact hk
theorem nwH_at {h h' : Nat → Option Ent} {k nm : Nat} {q : Option Ent} (hk : h k = h' k) : nwH h nm q k = nwH h' nm q k := by
 cases q with
 | none => exact hk
 | some p =>
  simp only [nwH, upd]
  split
  ·rfl
  ·exact hk
theorem effH_at {h h' : Nat → Option Ent} {k nm : Nat} {e : Eff} (hk : h k = h' k) : effH h nm e k = effH h' nm e k := nwH_at (wrH_at hk)
theorem effH_far {h : Nat → Option Ent} {k nm : Nat} {e : Eff} (h1 : ¬tch nm e k) : effH h nm e k = h k := by
 have a1 : wrH h e.wr k = h k := by
  cases hq : e.wr with
  | none => rfl
  | some p =>
   obtain ⟨k', f⟩ := p
   exact upd_ne _ _ (fun hh => h1 (.inl ⟨f, by rw [hq, hh]⟩))
 unfold effH
 rw [← a1]
 cases hq : e.nw with
 | none => rfl
 | some en => exact upd_ne _ _ (fun hh => h1 (.inr ⟨⟨en, hq⟩, hh.symm⟩))
theorem effH_some {h : Nat → Option Ent} {k nm : Nat} {e : Eff} : (effH h nm e k).isSome = true ↔ ((h k).isSome = true ∨ ((∃ en, e.nw = some en) ∧ nm = k)) := by
 have a1 : (wrH h e.wr k).isSome = (h k).isSome := by
  cases e.wr with
  | none => rfl
  | some p =>
   simp only [wrH, upd]
   split
   ·rename_i hp; subst hp; cases h p.1 <;> rfl
   ·rfl
 unfold effH
 rw [← a1]
 cases e.nw with
 | none => simp [nwH]
 | some en =>
  simp only [nwH, upd]
  by_cases hk : k = nm
  ·subst hk; simp
  ·rw [if_neg hk]; simp; exact fun hh => absurd hh.symm hk
theorem effH_comm {h : Nat → Option Ent} {a b : Nat} {e f : Eff} (hc : ∀ k, tch a e k → ¬tch b f k) :
  effH (effH h a e) b f = effH (effH h b f) a e := by
 funext k
 by_cases hk : tch a e k
 ·rw [effH_far (hc k hk)]
  exact effH_at (effH_far (hc k hk)).symm
 ·rw [effH_far (h := effH h b f) hk]
  exact effH_at (effH_far hk)
section
variable {nm : Nat → Nat} {e : Nat → Eff}
theorem hF_nil {done : Nat → Bool} {h : Nat → Option Ent} : hF nm e done [] h = h := rfl
theorem hF_cons {done : Nat → Bool} {j : Nat} {l : List Nat} {h : Nat → Option Ent} : hF nm e done (j :: l) h = hF nm e done l (if done j then effH h (nm j) (e j) else h) := rfl
theorem hF_append {done : Nat → Bool} {l l' : List Nat} {h : Nat → Option Ent} : hF nm e done (l ++ l') h = hF nm e done l' (hF nm e done l h) := by unfold hF; rw [List.foldl_append]
theorem hF_congr {p q : Nat → Bool} {k : Nat} : ∀ {l : List Nat} {h h' : Nat → Option Ent}, h k = h' k → (∀ j ∈ l, touch nm e j k → p j = q j) → hF nm e p l h k = hF nm e q l h' k
 | [], _, _, hk, _ => hk
 | j :: l, h, h', hk, hpq => by
  rw [hF_cons, hF_cons]
  refine hF_congr ?_ (fun i hi => hpq i (by simp [hi]))
  by_cases ht : touch nm e j k
  ·rw [hpq j (by simp) ht]; split
   ·exact effH_at hk
   ·exact hk
  ·have hfar : ∀ g, effH g (nm j) (e j) k = g k := fun g => effH_far ht
   have h1 : (if p j = true then effH h (nm j) (e j) else h) k = h k := by split <;> first | exact hfar h | rfl
   have h2 : (if q j = true then effH h' (nm j) (e j) else h') k = h' k := by split <;> first | exact hfar h' | rfl
   rw [h1, h2]; exact hk
theorem hF_some {done : Nat → Bool} {k : Nat} : ∀ {l : List Nat} {h : Nat → Option Ent}, (hF nm e done l h k).isSome = true ↔ ((h k).isSome = true ∨ ∃ j ∈ l, done j = true ∧ (∃ en, (e j).nw = some en) ∧ nm j = k)
 | [], h => by simp [hF_nil]
 | j :: l, h => by
  rw [hF_cons, hF_some]
  by_cases hd : done j = true
  ·rw [if_pos hd, effH_some]
   constructor
   ·rintro ((h1 | h1) | ⟨i, hi, h2⟩)
    ·exact .inl h1
    ·exact .inr ⟨j, by simp, hd, h1⟩
    ·exact .inr ⟨i, by simp [hi], h2⟩
   ·rintro (h1 | ⟨i, hi, h2, h3⟩)
    ·exact .inl (.inl h1)
    ·rcases List.mem_cons.1 hi with rfl | hi
     ·exact .inl (.inr h3)
     ·exact .inr ⟨i, hi, h2, h3⟩
  ·rw [if_neg hd]
   constructor
   ·rintro (h1 | ⟨i, hi, h2⟩)
    ·exact .inl h1
    ·exact .inr ⟨i, by simp [hi], h2⟩
   ·rintro (h1 | ⟨i, hi, h2, h3⟩)
    ·exact .inl h1
    ·rcases List.mem_cons.1 hi with rfl | hi
     ·exact absurd h2 hd
     ·exact .inr ⟨i, hi, h2, h3⟩
theorem hF_late {done : Nat → Bool} {a : Nat} {f : Eff} : ∀ {l : List Nat} {h : Nat → Option Ent}, (∀ j ∈ l, done j = true → ∀ g, effH (effH g a f) (nm j) (e j) = effH (effH g (nm j) (e j)) a f) →
  hF nm e done l (effH h a f) = effH (hF nm e done l h) a f
 | [], _, _ => rfl
 | j :: l, h, hc => by
  rw [hF_cons, hF_cons]
  by_cases hd : done j = true
  ·rw [if_pos hd, if_pos hd, hc j (by simp) hd]
   exact hF_late (fun i hi => hc i (by simp [hi]))
  ·rw [if_neg hd, if_neg hd]
   exact hF_late (fun i hi => hc i (by simp [hi]))
theorem hF_same {p q : Nat → Bool} {l : List Nat} {h : Nat → Option Ent} (hpq : ∀ j ∈ l, p j = q j) : hF nm e p l h = hF nm e q l h := by
 funext k; exact hF_congr rfl (fun j hj _ => hpq j hj)
end
section
variable {P : Program} {G : World → Prop} {C : Ctx} {w0 : World} {X0 : Nat → Prop}
structure Trace (C : Ctx) (all : List Oper) (st st' : St) (S : Nat → St) (AC : Nat → List (Nat × Bool × Nat)) (d : Nat → D) (e : Nat → Eff) : Prop where
 zero : S 0 = st
 last : S all.length = st'
 ok : ∀ (i : Nat) (o : Oper), all[i]? = some o → StepOk C (anyStore all) all o i (S i) (AC i) (d i) (e i) (S (i + 1)) (AC (i + 1))
section
variable {all : List Oper} {st st' : St} {S : Nat → St} {AC : Nat → List (Nat × Bool × Nat)} {d : Nat → D} {e : Nat → Eff}
theorem Trace.h_next (T : Trace C all st st' S AC d e) {i : Nat} {o : Oper} (ho : all[i]? = some o) : (S (i + 1)).h = effH (S i).h (S i).heap.length (e i) ∧ (S (i + 1)).heap.length = (S i).heap.length + (match (e i).nw with | some _ => 1 | none => 0) ∧
  (S (i + 1)).tmps.length = (S i).tmps.length ∧ ∀ (t : Nat) (x : D), (S (i + 1)).tmps[t]? = some x → (o.dst = some t ∧ x = d i) ∨ (o.dst ≠ some t ∧ ∃ y, (S i).tmps[t]? = some y ∧ ∀ E v, den E y v → den E x v) := by
 obtain ⟨s1, hw, hS⟩ := T.ok i o ho
 obtain ⟨b, hb⟩ : ∃ b, wantD all (S i) o = some (b, s1) := by rcases hw with h | h <;> exact ⟨_, h.1⟩
 obtain ⟨h1, h2, h3⟩ := want_sim hb
 have hh : s1.h = (S i).h := by unfold St.h; rw [h1]
 have hlen : (s1.eff (e i)).heap.length = s1.heap.length + (match (e i).nw with | some _ => 1 | none => 0) := by
  unfold St.eff
  rw [← St.wr_len s1 (e i).wr]
  cases (e i).nw with
  | none => rfl
  | some en => simp [St.nw]
 have hput : ((s1.eff (e i)).put o.dst (d i)).heap = (s1.eff (e i)).heap := by cases o.dst <;> rfl
 rw [hS]
 refine ⟨by rw [St.put_h, St.eff_h, hh, h1], by rw [hput, hlen, h1], ?_, fun t x hx => ?_⟩
 ·rw [← h2]; cases o.dst <;> simp [St.put, St.eff_tmps]
 ·cases hd : o.dst with
  | none =>
   right
   refine ⟨by simp, ?_⟩
   rw [hd] at hx
   simp only [St.put, St.eff_tmps] at hx
   exact h3 t x hx
  | some s =>
   rw [hd] at hx
   simp only [St.put, St.eff_tmps, List.getElem?_set] at hx
   by_cases hst : s = t
   ·subst hst
    simp only [if_true] at hx
    split at hx
    ·cases hx; exact .inl ⟨rfl, rfl⟩
    ·cases hx
   ·rw [if_neg hst] at hx
    right
    exact ⟨fun hh => hst (Option.some.inj hh), h3 t x hx⟩
theorem get_lt {α : Type} {l : List α} {i : Nat} (h : i < l.length) : ∃ x, l[i]? = some x := ⟨l[i], List.getElem?_eq_getElem h⟩
theorem lt_get {α : Type} {l : List α} {i : Nat} {x : α} (h : l[i]? = some x) : i < l.length := by
 rcases Nat.lt_or_ge i l.length with h1 | h1
 ·exact h1
 ·rw [List.getElem?_eq_none h1] at h; cases h
theorem Trace.len_mono (T : Trace C all st st' S AC d e) {i : Nat} : ∀ {n : Nat}, i + n ≤ all.length → (S i).heap.length ≤ (S (i + n)).heap.length
 | 0, _ => Nat.le_refl _
 | n + 1, h => by
  obtain ⟨o, ho⟩ := get_lt (l := all) (i := i + n) (by omega)
  have h1 := T.len_mono (i := i) (n := n) (by omega)
  have h2 := (T.h_next ho).2.1
  show _ ≤ (S (i + n + 1)).heap.length
  omega
theorem Trace.new_lt (T : Trace C all st st' S AC d e) {i j : Nat} {en : Ent} (hn : (e i).nw = some en) (hij : i < j) (hj : j ≤ all.length) : (S i).heap.length < (S j).heap.length := by
 obtain ⟨o, ho⟩ := get_lt (l := all) (i := i) (by omega)
 have h3 := (T.h_next ho).2.1
 rw [hn] at h3
 have := T.len_mono (i := i + 1) (n := j - (i + 1)) (by omega)
 rw [show i + 1 + (j - (i + 1)) = j by omega] at this
 simp only at h3
 omega
theorem Trace.h_at (T : Trace C all st st' S AC d e) : ∀ {i : Nat}, i ≤ all.length → (S i).h = hF (fun i => (S i).heap.length) e (fun _ => true) (List.range i) st.h
 | 0, _ => by rw [T.zero]; rfl
 | i + 1, h => by
  obtain ⟨o, ho⟩ := get_lt (l := all) (i := i) (by omega)
  rw [List.range_succ, hF_append, ← T.h_at (by omega), (T.h_next ho).1]
  rfl
theorem Trace.tmps_none (T : Trace C all st st' S AC d e) {t : Nat} : ∀ {i : Nat}, i ≤ all.length → (∀ (j : Nat) (q : Oper), j < i → all[j]? = some q → q.dst ≠ some t) → ∀ x, (S i).tmps[t]? = some x → ∃ y, st.tmps[t]? = some y ∧ ∀ E v, den E y v → den E x v
 | 0, _, _, x, hx => by rw [T.zero] at hx; exact ⟨x, hx, fun _ _ h => h⟩
 | i + 1, h, hn, x, hx => by
  obtain ⟨o, ho⟩ := get_lt (l := all) (i := i) (by omega)
  rcases (T.h_next ho).2.2.2 t x hx with ⟨hd, _⟩ | ⟨_, y, hy, hi⟩
  ·exact absurd hd (hn i o (by omega) ho)
  ·obtain ⟨z, hz, hi2⟩ := T.tmps_none (i := i) (by omega) (fun j q hj => hn j q (by omega)) y hy
   exact ⟨z, hz, fun E v h => hi E v (hi2 E v h)⟩
theorem Trace.tmps_len (T : Trace C all st st' S AC d e) : ∀ {i : Nat}, i ≤ all.length → (S i).tmps.length = st.tmps.length
 | 0, _ => by rw [T.zero]
 | i + 1, h => by
  obtain ⟨o, ho⟩ := get_lt (l := all) (i := i) (by omega)
  rw [(T.h_next ho).2.2.1, T.tmps_len (i := i) (by omega)]
theorem Trace.tmps_some (T : Trace C all st st' S AC d e) {nt : Nat} (hs : SafeO all nt) {t j : Nat} {q : Oper} (hq : all[j]? = some q) (hd : q.dst = some t) : ∀ {i : Nat}, j < i → i ≤ all.length → ∀ x, (S i).tmps[t]? = some x → ∀ E v, den E (d j) v → den E x v
 | 0, h, _, _, _ => by omega
 | i + 1, hji, h, x, hx => by
  obtain ⟨o, ho⟩ := get_lt (l := all) (i := i) (by omega)
  rcases (T.h_next ho).2.2.2 t x hx with ⟨hd2, rfl⟩ | ⟨hd2, y, hy, hi⟩
  ·by_cases hij : i = j
   ·subst hij; exact fun _ _ h => h
   ·exact absurd hd2 (hs.uniq i o ho j q hq hij t hd)
  ·by_cases hij : i = j
   ·subst hij; rw [hq] at ho; cases ho; exact absurd hd hd2
   ·exact fun E v h => hi E v (T.tmps_some hs hq hd (i := i) (by omega) (by omega) y hy E v h)
theorem Trace.acc_mem (T : Trace C all st st' S AC d e) {j : Nat} {q : Oper} (hq : all[j]? = some q) {s1 : St} (hw : wantD all (S j) q = some (true, s1)) {s : Bool} {k : Nat} (ha : accOf s1 q = some (s, k)) : ∀ {i : Nat}, j < i → i ≤ all.length → (j, s, k) ∈ AC i
 | 0, h, _ => by omega
 | i + 1, hji, h => by
  obtain ⟨o, ho⟩ := get_lt (l := all) (i := i) (by omega)
  obtain ⟨s2, hok, _⟩ := T.ok i o ho
  by_cases hij : i = j
  ·subst hij
   rw [hq] at ho; cases ho
   rcases hok with ⟨hw', _, _, hacc⟩ | ⟨hw', _⟩
   ·rw [hw] at hw'; cases hw'
    rw [hacc]; unfold push; rw [ha]; simp
   ·rw [hw] at hw'; cases hw'
  ·have ih := T.acc_mem hq hw ha (i := i) (by omega) (by omega)
   rcases hok with ⟨_, _, _, hacc⟩ | ⟨_, _, _, hacc⟩
   ·rw [hacc]; unfold push; split
    ·exact ih
    ·exact List.mem_cons_of_mem _ ih
   ·rw [hacc]; exact ih
theorem acc_store {st : St} {o : Oper} {k : Nat} (h : accOf st o = some (true, k)) : isStore o.op = true := by
 obtain ⟨dst, op, ty, pos, after, guard⟩ := o
 unfold accOf at h
 cases op <;> simp only [accE, reduceCtorEq] at h
 case load t x => split at h <;> simp at h
 case store t x y => rfl
 case convert s t x => split at h <;> simp at h
 case makeFunc fn fs cps => rfl
 case call c =>
  split at h
  ·rename_i hc; unfold isStore; simp only [hc]
  ·cases h
theorem any_store {all : List Oper} {i : Nat} {o : Oper} (ho : all[i]? = some o) (h : isStore o.op = true) : anyStore all = true := List.any_eq_true.2 ⟨o, List.mem_of_getElem? ho, h⟩
theorem Trace.conf (T : Trace C all st st' S AC d e) {i j : Nat} {o q : Oper} (ho : all[i]? = some o) (hq : all[j]? = some q) (hji : j < i) {s1 s2 : St} (hwo : wantD all (S i) o = some (true, s1)) (hwq : wantD all (S j) q = some (true, s2))
  {s s' : Bool} {k : Nat} (hao : accOf s1 o = some (s, k)) (haq : accOf s2 q = some (s', k)) (hss : s = true ∨ s' = true) : j ∈ onB o := by
 have hm := T.acc_mem hq hwq haq hji (Nat.le_of_lt (lt_get ho))
 obtain ⟨s3, hok, _⟩ := T.ok i o ho
 rcases hok with ⟨hw', _, hc, _⟩ | ⟨hw', _⟩
 ·rw [hwo] at hw'; cases hw'
  have hany : anyStore all = true := by
   rcases hss with h1 | h1
   ·subst h1; exact any_store ho (acc_store hao)
   ·subst h1; exact any_store hq (acc_store haq)
  simp only [hany, Bool.not_true, Bool.false_or, hao, confHere] at hc
  have := List.all_eq_true.1 hc _ hm
  simp only [Bool.or_eq_true, Bool.not_eq_true', Bool.and_eq_false_iff] at this
  rcases this with h | h
  ·rcases h with h | h
   ·simp at h
   ·rcases hss with h1 | h1 <;> simp [h1] at h
  ·exact List.contains_iff_mem.1 h
 ·rw [hwo] at hw'; cases hw'
theorem Trace.store_acc (T : Trace C all st st' S AC d e) {j : Nat} {q : Oper} (hq : all[j]? = some q) {k : Nat} {f : Ent → Ent} (he : (e j).wr = some (k, f)) : ∃ s1, wantD all (S j) q = some (true, s1) ∧ accOf s1 q = some (true, k) ∧ ((S j).h k).isSome = true := by
 obtain ⟨s1, hok, _⟩ := T.ok j q hq
 rcases hok with ⟨hw, ⟨p, hst, _⟩, _, _⟩ | ⟨_, _, h0, _⟩
 ·refine ⟨s1, hw, ?_⟩
  rcases step_eff hst with h | ⟨k', f', h1, h2, h3, _⟩
  ·rw [he] at h; cases h
  ·rw [he] at h1; cases h1
   refine ⟨h2, ?_⟩
   have : s1.h = (S j).h := by unfold St.h; rw [(want_sim hw).1]
   rw [← this]; exact h3
 ·rw [h0] at he; cases he
end
structure Inv (G : World → Prop) (sM : Bool) (w0 : World) (X0 : Nat → Prop) (all : List Oper) (st : St) (S : Nat → St) (d : Nat → D) (e : Nat → Eff) (done : Nat → Bool) (a : Act) (w : World) : Prop where
 defers : a.defers = []
 size : a.tmps.size = st.tmps.length
 closed : ∀ (i : Nat) (o : Oper), all[i]? = some o → done i = true → ∀ j ∈ onB o, done j = true
 dom : ∀ j k f, j < all.length → done j = true → (e j).wr = some (k, f) → k < st.heap.length ∨ ∃ i, i < all.length ∧ done i = true ∧ (∃ en, (e i).nw = some en) ∧ (S i).heap.length = k
 mem : ∃ ρ, RelH G sM w0 X0 (hF (fun i => (S i).heap.length) e done (List.range all.length) st.h) w ρ ∧
  ∀ t, (∀ (j : Nat) (q : Oper), all[j]? = some q → q.dst = some t → done j = true → den (envr X0 (hF (fun i => (S i).heap.length) e done (List.range all.length) st.h) w ρ) (d j) (a.tmps.getD t undef)) ∧
   ((∀ (j : Nat) (q : Oper), all[j]? = some q → q.dst = some t → done j = false) → ∀ x, st.tmps[t]? = some x → den (envr X0 (hF (fun i => (S i).heap.length) e done (List.range all.length) st.h) w ρ) x (a.tmps.getD t undef))
theorem step_h {ev : Operand → D} {h h' : Nat → Option Ent} {nm : Nat} {o : Oper} (hh : ∀ s k, accE ev o = some (s, k) → h k = h' k) : step C ev h nm o = step C ev h' nm o := by
 obtain ⟨dst, op, ty, pos, after, guard⟩ := o
 cases op <;> simp only [step]
 case load t x =>
  have hk : ∀ k off, ev x = .ptr k off → h k = h' k := fun k off hx => hh false k (by simp only [accE, hx])
  have hc : cellsAt C h (ev x) = cellsAt C h' (ev x) := by
   unfold cellsAt
   split
   ·rename_i k off hx; rw [hk k off hx]
   ·rfl
   ·rfl
   ·rfl
  cases C.ti t with
  | none => rfl
  | some i =>
   simp only [Option.bind_some]
   split
   ·rfl
   ·rfl
   ·rename_i k off hx; rw [hk k off hx]
   ·rw [hc]
 case store t x y =>
  have hk : ∀ k off, ev x = .ptr k off → h k = h' k := fun k off hx => hh true k (by simp only [accE, hx])
  cases C.ti t with
  | none => rfl
  | some i =>
   simp only [Option.bind_some]
   split
   ·rename_i k off hx; rw [hk k off hx]
   ·rfl
 case convert s t x =>
  have hk : ∀ k s0 o0 n, ev x = .osl k s0 o0 n → h k = h' k := fun k s0 o0 n hx => hh false k (by simp only [accE, hx])
  cases C.ti s with
  | none => rfl
  | some q =>
   cases C.ti t with
   | none => rfl
   | some i =>
    simp only [Option.bind_some]
    split
    ·rfl
    ·rfl
    ·rfl
    ·rfl
    ·rename_i k s0 n _ hx; rw [hk k s0 0 n hx]
    ·rfl
 case makeFunc fn fs cps =>
  have hk : ∀ k off, (cps.toList.map ev) = [.ptr k off] → h k = h' k := fun k off hx => hh true k (by
   obtain ⟨x, h9, h8⟩ := map_one hx
   simp only [accE, h9, h8])
  split
  ·rfl
  ·rename_i f k off hfs hcp; rw [hk k off hcp]
  ·rfl
 case call c =>
  obtain ⟨callee, args, argTypes⟩ := c
  have hk : ∀ k s0 o0 n l, callee = .builtin .copy → (args.toList.map fun x => (ev x).nrm) = .osl k s0 o0 n :: l → h k = h' k := fun k s0 o0 n l hc hx => hh true k (by
   subst hc
   unfold accE
   simp only
   match h9 : args.toList, hx with
   | x :: _, hx =>
    simp only [List.map_cons, List.cons.injEq] at hx
    simp only [hx.1])
  simp only
  split
  ·rfl
  ·rfl
  ·rw [hk _ _ _ _ _ rfl (by assumption)]
  all_goals rfl
end
section
variable {P : Program} {G : World → Prop} {C : Ctx} {w0 : World} {X0 : Nat → Prop}
def set1 (done : Nat → Bool) (i : Nat) : Nat → Bool := fun j => if j = i then true else done j
theorem set1_same (done : Nat → Bool) (i : Nat) : set1 done i i = true := if_pos rfl
theorem set1_ne (done : Nat → Bool) {i j : Nat} (h : j ≠ i) : set1 done i j = done j := if_neg h
theorem range_split {i n : Nat} (h : i < n) : List.range n = List.range i ++ i :: List.range' (i + 1) (n - (i + 1)) := by
 rw [List.range_eq_range', show n = i + ((n - (i + 1)) + 1) by omega, ← List.range'_append_1, List.range'_succ, ← List.range_eq_range']
 simp
 omega
theorem acc_arg {ev : Operand → D} {o : Oper} {s : Bool} {k : Nat} (h : accE ev o = some (s, k)) : ∃ x ∈ o.op.operands.toList, (∃ off, ev x = .ptr k off) ∨ (∃ s0 o0 n0, (ev x).nrm = .osl k s0 o0 n0) := by
 obtain ⟨dst, op, ty, pos, after, guard⟩ := o
 cases op <;> simp only [accE, reduceCtorEq] at h
 case load t x =>
  split at h
  ·rename_i k' off hx; cases h; exact ⟨x, by simp [Op.operands], .inl ⟨off, hx⟩⟩
  ·cases h
 case store t x y =>
  split at h
  ·rename_i k' off hx; cases h; exact ⟨x, by simp [Op.operands], .inl ⟨off, hx⟩⟩
  ·cases h
 case convert s0 t x =>
  split at h
  ·rename_i k' s1 o1 n1 hx; cases h; exact ⟨x, by simp [Op.operands], .inr ⟨s1, o1, n1, by rw [hx]; rfl⟩⟩
  ·cases h
 case makeFunc fn fs cps =>
  split at h
  ·rename_i x hl
   split at h
   ·rename_i k' off hx; cases h
    exact ⟨x, by simp only [Op.operands, Array.toList_append, List.mem_append, hl]; exact .inr (by simp), .inl ⟨off, hx⟩⟩
   ·cases h
  ·cases h
 case call c =>
  split at h
  ·split at h
   ·rename_i x l hl
    split at h
    ·rename_i k' s0 o0 n0 hx; cases h
     refine ⟨x, ?_, .inr ⟨s0, o0, n0, hx⟩⟩
     simp only [Op.operands, Call.operands, Array.toList_append, List.mem_append, hl]
     exact .inr (by simp)
    ·cases h
   ·cases h
  ·cases h
theorem step_reads {ev : Operand → D} {h : Nat → Option Ent} {nm : Nat} {o : Oper} {p : Prop} {d : D} {e : Eff} (hs : step C ev h nm o = some (p, d, e)) {s : Bool} {k : Nat} (ha : accE ev o = some (s, k)) : (h k).isSome = true := by
 cases hk : h k with
 | some _ => rfl
 | none =>
  exfalso
  obtain ⟨dst, op, ty, pos, after, guard⟩ := o
  cases op <;> simp only [accE, reduceCtorEq] at ha
  case load t x =>
   split at ha
   ·rename_i k' off hx
    cases ha
    simp only [step] at hs
    cases hti : C.ti t with
    | none => simp [hti] at hs
    | some ii => simp [hti, hx, hk] at hs
   ·cases ha
  case store t x y =>
   split at ha
   ·rename_i k' off hx
    cases ha
    simp only [step] at hs
    cases hti : C.ti t with
    | none => simp [hti] at hs
    | some ii => simp [hti, hx, hk] at hs
   ·cases ha
  case convert s0 t x =>
   split at ha
   ·rename_i k' s1 o1 n1 hx
    cases ha
    simp only [step] at hs
    cases hts : C.ti s0 with
    | none => simp [hts] at hs
    | some q =>
     cases hti : C.ti t with
     | none => simp [hts, hti] at hs
     | some ii =>
      simp only [hts, hti, hx, Option.bind_some] at hs
      split at hs <;> first | (cases hs; done) | skip
      all_goals first
       | (rename_i hxx; simp only [reduceCtorEq] at hxx; done)
       | (rename_i hxx; simp only [D.osl.injEq] at hxx; obtain ⟨rfl, rfl, rfl, rfl⟩ := hxx)
      all_goals
       split at hs <;> first | (cases hs; done) | skip
       rename_i e' _
       cases hte : C.ti e' with
       | none => simp [hte] at hs
       | some jj =>
        simp only [hte, Option.bind_some] at hs
        split at hs <;> first | (cases hs; done) | skip
        simp [hk] at hs
   ·cases ha
  case makeFunc fn fs cps =>
   split at ha
   ·rename_i x hl
    split at ha
    ·rename_i k' off hx
     cases ha
     simp only [step, hl, List.map_cons, List.map_nil, hx] at hs
     split at hs
     ·rename_i hh; cases hh
     ·rename_i hh
      simp only [List.cons.injEq, D.ptr.injEq, and_true] at hh
      obtain ⟨rfl, rfl⟩ := hh
      simp [hk] at hs
     ·cases hs
    ·cases ha
   ·cases ha
  case call c =>
   obtain ⟨callee, args, argTypes⟩ := c
   simp only at ha
   split at ha
   ·split at ha
    ·rename_i x l hl
     split at ha
     ·rename_i k' s0 o0 n0 hx
      cases ha
      simp only [step, hl, List.map_cons, hx] at hs
      split at hs <;> simp_all
     ·cases ha
    ·cases ha
   ·cases ha
theorem inv_step (hC : C.ok P G) {ops : Array Oper} {all : List Oper} (hall : all = ops.toList) {st st' : St} {S : Nat → St} {AC : Nat → List (Nat × Bool × Nat)} {d : Nat → D} {e : Nat → Eff} (T : Trace C all st st' S AC d e) (hs : SafeO all st.tmps.length)
  {done : Nat → Bool} {a : Act} {w : World} (V : Inv G C.own w0 X0 all st S d e done a w) {i : Nat} {o : Oper} (ho : all[i]? = some o) (hi : done i = false) (hr : ∀ j ∈ onB o, done j = true)
  {Q : Exit → Act → World → Prop} {K : Act → World → Prop} (hK : ∀ a' w', Inv G C.own w0 X0 all st S d e (set1 done i) a' w' → K a' w') : wpOp P ops Q i K a w := by
 have hio : i < all.length := lt_get ho
 obtain ⟨ρ, RH, ht⟩ := V.mem
 have hlate : ∀ (j : Nat) (q : Oper), all[j]? = some q → done j = true → i ∉ onB q := fun j q hq hd hm => by
  have := V.closed j q hq hd i hm; rw [hi] at this; cases this
 have hev : ∀ t x, t ∈ readsOf all o → (S i).tmps[t]? = some x → den (envr X0 (hF (fun i => (S i).heap.length) e done (List.range all.length) st.h) w ρ) x (a.tmps.getD t undef) := by
  intro t x hm hx
  by_cases hex : ∃ (j : Nat) (q : Oper), all[j]? = some q ∧ q.dst = some t ∧ j ≠ i
  ·obtain ⟨j, q, hq, hd, hji⟩ := hex
   rcases hs.reads i o ho j q hq (Ne.symm hji) t hd hm with hon | hon
   ·have hjl := hs.lt i o ho j hon
    exact T.tmps_some hs hq hd hjl (Nat.le_of_lt hio) x hx _ _ ((ht t).1 j q hq hd (hr j hon))
   ·
    have hjl := hs.lt j q hq i hon
    obtain ⟨y, hy, himp⟩ := T.tmps_none (i := i) (Nat.le_of_lt hio) (fun j' q' hj' hq' hd' => hs.uniq j' q' hq' j q hq (by omega) t hd hd') x hx
    refine himp _ _ ((ht t).2 (fun j' q' hq' hd' => ?_) y hy)
    by_cases hjj : j' = j
    ·subst hjj
     rw [hq] at hq'; cases hq'
     cases hdj : done j' with
     | false => rfl
     | true => exact absurd hon (hlate j' q hq hdj)
    ·exact absurd hd' (hs.uniq j' q' hq' j q hq hjj t hd)
  ·have hno : ∀ (j : Nat) (q : Oper), j < i → all[j]? = some q → q.dst ≠ some t := fun j q hj hq hd => hex ⟨j, q, hq, hd, by omega⟩
   obtain ⟨y, hy, himp⟩ := T.tmps_none (i := i) (Nat.le_of_lt hio) hno x hx
   refine himp _ _ ((ht t).2 (fun j q hq hd => ?_) y hy)
   by_cases hji : j = i
   ·subst hji; exact hi
   ·exact absurd ⟨j, q, hq, hd, hji⟩ hex
 obtain ⟨s1, hok, _⟩ := T.ok i o ho
 obtain ⟨b0, hb0⟩ : ∃ b, wantD all (S i) o = some (b, s1) := by rcases hok with h | h <;> exact ⟨_, h.1⟩
 obtain ⟨hs1, _, hs3⟩ := want_sim hb0
 have hh : s1.h = (S i).h := by unfold St.h; rw [hs1]
 have hev1 : ∀ t x, t ∈ readsOf all o → s1.tmps[t]? = some x → den (envr X0 (hF (fun i => (S i).heap.length) e done (List.range all.length) st.h) w ρ) x (a.tmps.getD t undef) := fun t x hm hx => by
  obtain ⟨y, hy, himp⟩ := hs3 t x hx
  exact himp _ _ (hev t y hm hy)
 have hop : ∀ x ∈ o.op.operands.toList, den (envr X0 (hF (fun i => (S i).heap.length) e done (List.range all.length) st.h) w ρ) (s1.ev x) (a.eval x) := by
  intro x hx
  cases x with
  | tmp t =>
   simp only [St.ev, Act.eval, List.getD_eq_getElem?_getD]
   cases htt : s1.tmps[t]? with
   | none => simp [den]
   | some y => exact hev1 t y (by unfold readsOf; rw [List.mem_append]; exact .inl (List.mem_filterMap.2 ⟨_, hx, rfl⟩)) htt
  | const v => exact den_const _ v
  | global g => simp only [St.ev, Act.eval, den]
  | func f => simp only [St.ev, den]; exact ⟨#[], rfl, by simp [denL]⟩
 have hwant : ∀ b, wantD all (S i) o = some (b, s1) → Region.wanted o (yielded ops a.tmps) = b := fun b hb => wanted_eq hall (fun t x ⟨j, w, hg, hd⟩ hx => hev t x (by
  unfold readsOf; rw [hg]; simp only [hd, Option.toList_some, List.mem_append, List.mem_singleton, or_true]) hx) (by rw [V.size, T.tmps_len (Nat.le_of_lt hio)]) hb
 have hoo : ops[i]? = some o := by rw [hall] at ho; simpa using ho
 have hnew : hF (fun i => (S i).heap.length) e (set1 done i) (List.range all.length) st.h = effH (hF (fun i => (S i).heap.length) e done (List.range all.length) st.h) (S i).heap.length (e i) := by
  rw [range_split hio, hF_append, hF_append, hF_cons, hF_cons, set1_same, if_pos rfl, hi, if_neg (by simp)]
  rw [hF_same (p := set1 done i) (q := done) (l := List.range i) (fun j hj => set1_ne _ (by have := List.mem_range.1 hj; omega))]
  rw [hF_same (p := set1 done i) (q := done) (l := List.range' (i + 1) (all.length - (i + 1))) (fun j hj => set1_ne _ (by have := List.mem_range'_1.1 hj; omega))]
  refine hF_late fun j hj hd g => ?_
  have hj' := List.mem_range'_1.1 hj
  obtain ⟨q, hq⟩ := get_lt (l := all) (i := j) (by omega)
  refine effH_comm fun k h1 h2 => ?_
  rcases h1 with ⟨f1, h1⟩ | ⟨⟨en, h1⟩, hk1⟩ <;> rcases h2 with ⟨f2, h2⟩ | ⟨⟨en', h2⟩, hk2⟩
  ·
   obtain ⟨_, w1, a1, _⟩ := T.store_acc ho h1
   obtain ⟨_, w2, a2, _⟩ := T.store_acc hq h2
   exact hlate j q hq hd (T.conf hq ho (by omega) w2 w1 a2 a1 (.inl rfl))
  ·
   obtain ⟨_, _, _, h4⟩ := T.store_acc ho h1
   have hlt : k < (S i).heap.length := by
    unfold St.h at h4
    rcases Nat.lt_or_ge k (S i).heap.length with h | h
    ·exact h
    ·rw [List.getElem?_eq_none h] at h4; cases h4
   have := T.len_mono (i := i) (n := j - i) (by omega)
   rw [show i + (j - i) = j by omega] at this
   have hk2' : (S j).heap.length = k := hk2
   omega
  ·
   have hk1' : (S i).heap.length = k := hk1
   rcases V.dom j k f2 (by omega) hd h2 with hlt | ⟨i', hi', hd', ⟨en', he'⟩, hnm⟩
   ·have := T.len_mono (i := 0) (n := i) (by omega)
    rw [T.zero, Nat.zero_add] at this; omega
   ·rcases Nat.lt_trichotomy i i' with h | h | h
    ·have := T.new_lt h1 h (by omega); omega
    ·subst h; rw [hi] at hd'; cases hd'
    ·have := T.new_lt he' h (by omega); omega
  ·have hk1' : (S i).heap.length = k := hk1
   have hk2' : (S j).heap.length = k := hk2
   have := T.new_lt h1 (show i < j by omega) (by omega); omega
 have hclosed : ∀ (j : Nat) (q : Oper), all[j]? = some q → set1 done i j = true → ∀ k ∈ onB q, set1 done i k = true := fun j q hq hd k hk => by
  by_cases hki : k = i
  ·subst hki; exact set1_same _ _
  ·rw [set1_ne _ hki]
   by_cases hji : j = i
   ·subst hji; rw [ho] at hq; cases hq; exact hr k hk
   ·rw [set1_ne _ hji] at hd; exact V.closed j q hq hd k hk
 have hmem : ∀ (v : Value) (w' : World) (ρ' : Nat → Option Nat), RelH G C.own w0 X0 (effH (hF (fun i => (S i).heap.length) e done (List.range all.length) st.h) (S i).heap.length (e i)) w' ρ' →
   Le (envr X0 (hF (fun i => (S i).heap.length) e done (List.range all.length) st.h) w ρ) (envr X0 (effH (hF (fun i => (S i).heap.length) e done (List.range all.length) st.h) (S i).heap.length (e i)) w' ρ') →
   den (envr X0 (effH (hF (fun i => (S i).heap.length) e done (List.range all.length) st.h) (S i).heap.length (e i)) w' ρ') (d i) v →
   (∀ k f, (e i).wr = some (k, f) → k < st.heap.length ∨ ∃ i', i' < all.length ∧ done i' = true ∧ (∃ en, (e i').nw = some en) ∧ (S i').heap.length = k) → K (a.put o.dst v) w' := by
  intro v w' ρ' R' hle hdv hdom
  refine hK _ _ ⟨by rw [put_defers]; exact V.defers, by rw [put_size]; exact V.size, hclosed, fun j k f hj hd he => ?_, ρ', by rw [hnew]; exact R', fun t => ?_⟩
  ·by_cases hji : j = i
   ·subst hji
    rcases hdom k f he with h | ⟨i', h1, h2, h3⟩
    ·exact .inl h
    ·exact .inr ⟨i', h1, by rw [set1_ne _ (fun hh => by subst hh; rw [hi] at h2; cases h2)]; exact h2, h3⟩
   ·rw [set1_ne _ hji] at hd
    rcases V.dom j k f hj hd he with h | ⟨i', h1, h2, h3⟩
    ·exact .inl h
    ·exact .inr ⟨i', h1, by rw [set1_ne _ (fun hh => by subst hh; rw [hi] at h2; cases h2)]; exact h2, h3⟩
  ·rw [hnew]
   have hput : ∀ s, o.dst = some s → t = s → (a.put o.dst v).tmps.getD t undef = v := fun s hd hts => by
    subst hts
    have hlt := hs.dst i o ho _ hd
    simp only [hd, Act.put, Array.getD_eq_getD_getElem?, Array.getElem?_setIfInBounds, if_true]
    rw [if_pos (by rw [V.size]; exact hlt)]; rfl
   have hfar : o.dst ≠ some t → (a.put o.dst v).tmps.getD t undef = a.tmps.getD t undef := fun hne => by
    cases hd : o.dst with
    | none => rfl
    | some s =>
     simp only [Act.put, Array.getD_eq_getD_getElem?, Array.getElem?_setIfInBounds]
     rw [if_neg (fun hh => hne (by rw [hd, hh]))]
   refine ⟨fun j q hq hd hdj => ?_, fun hno x hx => ?_⟩
   ·by_cases hji : j = i
    ·subst hji; rw [ho] at hq; cases hq
     rw [hput t hd rfl]; exact hdv
    ·rw [set1_ne _ hji] at hdj
     have hne := hs.uniq i o ho j q hq (Ne.symm hji) t hd
     rw [hfar hne]
     exact den_mono hle _ _ ((ht t).1 j q hq hd hdj)
   ·have hne : o.dst ≠ some t := fun hd => by have := hno i o ho hd; rw [set1_same] at this; cases this
    rw [hfar hne]
    refine den_mono hle _ _ ((ht t).2 (fun j q hq hd => ?_) x hx)
    have := hno j q hq hd
    by_cases hji : j = i
    ·subst hji; exact hi
    ·rw [set1_ne _ hji] at this; exact this
 unfold wpOp
 simp only [hoo]
 rcases hok with ⟨hw, ⟨p, hst, hp⟩, _, _⟩ | ⟨hw, hd0, he0, _⟩
 ·rw [if_pos (hwant _ hw)]
  rw [hh, hs1] at hst
  have hsame : ∀ s k, accE s1.ev o = some (s, k) → (S i).h k = hF (fun i => (S i).heap.length) e done (List.range all.length) st.h k := by
   intro sI k haI
   obtain ⟨x, hxm, b, hb⟩ : ∃ x ∈ o.op.operands.toList, ∃ b, ρ k = some b := by
    obtain ⟨x, hxm, hx2⟩ := acc_arg haI
    have hdx := hop x hxm
    rcases hx2 with ⟨off, hx2⟩ | ⟨s0, o0, n0, hx2⟩
    ·rw [hx2] at hdx
     simp only [den] at hdx
     obtain ⟨b, _, hb⟩ := hdx
     exact ⟨x, hxm, b, hb⟩
    ·have hdx2 := den_nrm hdx
     rw [hx2] at hdx2
     simp only [den] at hdx2
     obtain ⟨b, _, _, _, _, _, hb, _⟩ := hdx2
     exact ⟨x, hxm, b, hb⟩
   obtain ⟨⟨en0, hen0⟩, _⟩ := RH.dom k b hb
   have hkd := (hF_some (k := k)).1 (by rw [hen0]; rfl)
   have haI : accOf s1 o = some (sI, k) := haI
   have hSk : ((S i).h k).isSome = true := step_reads hst haI
   have hSlt : k < (S i).heap.length := by
    rcases Nat.lt_or_ge k (S i).heap.length with h | h
    ·exact h
    ·unfold St.h at hSk; rw [List.getElem?_eq_none h] at hSk; cases hSk
   rw [T.h_at (Nat.le_of_lt hio), range_split hio, hF_append, hF_cons, hi, if_neg (by simp)]
   have hrest : ∀ h : Nat → Option Ent, hF (fun i => (S i).heap.length) e done (List.range' (i + 1) (all.length - (i + 1))) h k = h k := fun h => by
    rw [show h k = hF (fun i => (S i).heap.length) e (fun _ => false) (List.range' (i + 1) (all.length - (i + 1))) h k from ?_]
    ·refine hF_congr rfl fun j hj htch => ?_
     have hj' := List.mem_range'_1.1 hj
     obtain ⟨q, hq⟩ := get_lt (l := all) (i := j) (by omega)
     cases hdj : done j with
     | false => rfl
     | true =>
      rcases htch with ⟨f', he⟩ | ⟨⟨en, he⟩, hnm⟩
      ·obtain ⟨_, w2, a2, _⟩ := T.store_acc hq he
       exact absurd (T.conf hq ho (by omega) w2 hw a2 haI (.inl rfl)) (hlate j q hq hdj)
      ·have := T.len_mono (i := i) (n := j - i) (by omega)
       rw [show i + (j - i) = j by omega] at this
       simp only at hnm; omega
    ·have : ∀ (l : List Nat) (h : Nat → Option Ent), hF (fun i => (S i).heap.length) e (fun _ => false) l h = h := fun l => by
      induction l with
      | nil => intro h; rfl
      | cons x l ih => intro h; rw [hF_cons, if_neg (by simp), ih]
     rw [this]
   rw [hrest]
   refine hF_congr rfl fun j hj htch => ?_
   have hj' := List.mem_range.1 hj
   obtain ⟨q, hq⟩ := get_lt (l := all) (i := j) (by omega)
   symm
   rcases htch with ⟨f', he⟩ | ⟨⟨en, he⟩, hnm⟩
   ·obtain ⟨_, w2, a2, _⟩ := T.store_acc hq he
    exact hr j (T.conf ho hq hj' hw w2 haI a2 (.inr rfl))
   ·simp only at hnm
    rcases hkd with h0 | ⟨i', hi', hd', ⟨en', he'⟩, hnm'⟩
    ·have h1 : k < st.heap.length := by
      rcases Nat.lt_or_ge k st.heap.length with h | h
      ·exact h
      ·unfold St.h at h0; rw [List.getElem?_eq_none h] at h0; cases h0
     have := T.len_mono (i := 0) (n := j) (by omega)
     rw [T.zero, Nat.zero_add] at this; omega
    ·have hi2 := List.mem_range.1 hi'
     rcases Nat.lt_trichotomy j i' with h | h | h
     ·have := T.new_lt he h (by omega); omega
     ·subst h; exact hd'
     ·have := T.new_lt he' h (by omega); omega
  have hst2 := hst
  rw [step_h hsame] at hst2
  refine .inl (step_wp hC RH hop hst2 (fun ⟨en0, he0⟩ => ?_) hp fun v w' ρ' R' hle hdv => hmem v w' ρ' R' hle hdv ?_)
  ·
   cases hh : hF (fun i => (S i).heap.length) e done (List.range all.length) st.h (S i).heap.length with
   | none => rfl
   | some en =>
    rcases (hF_some (k := (S i).heap.length)).1 (show (hF (fun i => (S i).heap.length) e done (List.range all.length) st.h (S i).heap.length).isSome = true by rw [hh]; rfl) with h0 | ⟨i', hi', hd', ⟨en', he'⟩, hnm'⟩
    ·have h1 : (S i).heap.length < st.heap.length := by
      rcases Nat.lt_or_ge (S i).heap.length st.heap.length with h | h
      ·exact h
      ·unfold St.h at h0; rw [List.getElem?_eq_none h] at h0; cases h0
     have := T.len_mono (i := 0) (n := i) (by omega)
     rw [T.zero, Nat.zero_add] at this; omega
    ·have hi2 := List.mem_range.1 hi'
     rcases Nat.lt_trichotomy i i' with h | h | h
     ·have := T.new_lt he0 h (by omega); omega
     ·subst h; rw [hi] at hd'; cases hd'
     ·have := T.new_lt he' h (by omega); omega
  ·intro k f he
   rcases step_eff hst with h | ⟨k', f', h1, h2, h3, _⟩
   ·rw [he] at h; cases h
   ·rw [he] at h1; cases h1
    have hen1 := hsame true k h2
    rw [hen1] at h3
    rcases (hF_some (k := k)).1 h3 with h0 | ⟨i', hi', hd', he', hnm'⟩
    ·left
     rcases Nat.lt_or_ge k st.heap.length with h | h
     ·exact h
     ·unfold St.h at h0; rw [List.getElem?_eq_none h] at h0; cases h0
    ·exact .inr ⟨i', List.mem_range.1 hi', hd', he', hnm'⟩
 ·rw [if_neg (by rw [hwant _ hw]; simp)]
  refine hmem undef w ρ (by rw [he0]; exact RH) (by rw [he0]; exact Le.refl _) (by rw [hd0]; simp only [den]; exact ⟨#[], rfl, by simp [denL]⟩) (fun k f he => by rw [he0] at he; cases he)
theorem filter_less {done : Nat → Bool} {i : Nat} (hid : done i = false) : ∀ {l : List Nat}, i ∈ l → (l.filter fun j => !set1 done i j).length < (l.filter fun j => !done j).length := by
 have one : ∀ (p : Nat → Bool) (x : Nat) (l : List Nat), ((x :: l).filter p).length = (if p x = true then 1 else 0) + (l.filter p).length := fun p x l => by
  rw [List.filter_cons]; split <;> simp <;> omega
 have le : ∀ l : List Nat, (l.filter fun j => !set1 done i j).length ≤ (l.filter fun j => !done j).length := fun l => by
  induction l with
  | nil => exact Nat.le_refl _
  | cons x l ih =>
   rw [one, one]
   by_cases hx : x = i
   ·subst hx; rw [set1_same]; simp only [Bool.not_true, Bool.false_eq_true, if_false]; omega
   ·rw [set1_ne _ hx]; omega
 intro l
 induction l with
 | nil => intro h; cases h
 | cons x l ih =>
  intro h
  rw [one, one]
  by_cases hx : x = i
  ·subst hx; have := le l; rw [set1_same, hid]; simp only [Bool.not_true, Bool.false_eq_true, if_false, Bool.not_false, if_true]; omega
  ·rw [set1_ne _ hx]
   have := ih (by simpa [Ne.symm hx] using h)
   omega
theorem any_sound (hC : C.ok P G) {ops : Array Oper} {all : List Oper} (hall : all = ops.toList) {st st' : St} {S : Nat → St} {AC : Nat → List (Nat × Bool × Nat)} {d : Nat → D} {e : Nat → Eff} (T : Trace C all st st' S AC d e) (hs : SafeO all st.tmps.length)
  {Q : Exit → Act → World → Prop} (hQ : ∀ a w, Rel G C.own w0 X0 st' a w → Q .normal a w) :
  ∀ (fuel : Nat) (listed : Array Bool) (a : Act) (w : World), listed.size = all.length → ((List.range all.length).filter fun i => !listed.getD i false).length ≤ fuel → Inv G C.own w0 X0 all st S d e (fun i => listed.getD i false) a w → wpAny P .any ops Q fuel listed a w := by
 have hbind : ∀ (o : Oper) (j : Nat), j ∈ onB o ↔ ∃ x ∈ o.after, Region.binds .any x = true ∧ x.on = j := fun o j => by
  unfold onB
  simp only [List.mem_filterMap, Array.mem_toList_iff]
  constructor
  ·rintro ⟨x, hx, h⟩; split at h
   ·rename_i hb; cases h; exact ⟨x, hx, hb, rfl⟩
   ·cases h
  ·rintro ⟨x, hx, hb, rfl⟩; exact ⟨x, hx, by rw [if_pos hb]⟩
 have hdone : ∀ (listed : Array Bool) (i : Nat), listed.size = all.length → i < all.length → (listed.getD i true = listed.getD i false) := fun listed i h1 h2 => by
  simp only [Array.getD_eq_getD_getElem?, Array.getElem?_eq_getElem (show i < listed.size by omega), Option.getD_some]
 have hready : ∀ (listed : Array Bool) (i : Nat) (o : Oper), listed.size = all.length → all[i]? = some o → listed.getD i false = false → (∀ j ∈ onB o, listed.getD j false = true) → i ∈ Region.ready .any ops listed := fun listed i o h1 ho h2 h3 =>
  mem_ready.2 ⟨by rw [hdone listed i h1 (lt_get ho)]; exact h2, o, by rw [hall] at ho; simpa using ho, fun x hx hb => h3 x.on ((hbind o x.on).2 ⟨x, hx, hb, rfl⟩)⟩
 have hend : ∀ (listed : Array Bool) (a : Act) (w : World), listed.size = all.length → Region.ready .any ops listed = [] → Inv G C.own w0 X0 all st S d e (fun i => listed.getD i false) a w → Q .normal a w := by
  intro listed a w h1 hr V
  have hev : ∀ n i, i < n → i < all.length → listed.getD i false = true := by
   intro n
   induction n with
   | zero => intro i hi; omega
   | succ n ih =>
    intro i hi hil
    obtain ⟨o, ho⟩ := get_lt hil
    cases hd : listed.getD i false with
    | true => rfl
    | false =>
     have := hready listed i o h1 ho hd (fun j hj => ih j (by have := hs.lt i o ho j hj; omega) (by have := hs.lt i o ho j hj; omega))
     rw [hr] at this; cases this
  have hall2 : ∀ i, i < all.length → listed.getD i false = true := fun i hi => hev (i + 1) i (by omega) hi
  obtain ⟨ρ, R, ht⟩ := V.mem
  have hh : hF (fun i => (S i).heap.length) e (fun i => listed.getD i false) (List.range all.length) st.h = st'.h := by
   rw [← T.last, T.h_at (Nat.le_refl _)]
   exact hF_same fun j hj => hall2 j (List.mem_range.1 hj)
  rw [hh] at R ht
  refine hQ a w ⟨V.defers, by rw [V.size, ← T.last, T.tmps_len (Nat.le_refl _)], ρ, R, fun t x hx => ?_⟩
  rw [← T.last] at hx
  by_cases hex : ∃ (j : Nat) (q : Oper), all[j]? = some q ∧ q.dst = some t
  ·obtain ⟨j, q, hq, hd⟩ := hex
   exact T.tmps_some hs hq hd (lt_get hq) (Nat.le_refl _) x hx _ _ ((ht t).1 j q hq hd (hall2 j (lt_get hq)))
  ·obtain ⟨y, hy, himp⟩ := T.tmps_none (t := t) (Nat.le_refl _) (fun j q _ hq hd => hex ⟨j, q, hq, hd⟩) x hx
   exact himp _ _ ((ht t).2 (fun j q hq hd => absurd ⟨j, q, hq, hd⟩ hex) y hy)
 intro fuel
 induction fuel with
 | zero =>
  intro listed a w h1 hf V
  have hr : Region.ready .any ops listed = [] := by
   cases hr : Region.ready .any ops listed with
   | nil => rfl
   | cons i l =>
    have hi : i ∈ Region.ready .any ops listed := by rw [hr]; simp
    obtain ⟨h2, o, ho, _⟩ := mem_ready.1 hi
    have hil : i < all.length := by rw [hall]; have := lt_get (l := ops.toList) (i := i) (x := o) (by simpa using ho); exact this
    have hm : i ∈ (List.range all.length).filter fun i => !listed.getD i false := List.mem_filter.2 ⟨List.mem_range.2 hil, by rw [← hdone listed i h1 hil, h2]; rfl⟩
    rw [List.length_eq_zero_iff.1 (Nat.le_zero.1 hf)] at hm; cases hm
  exact ⟨hr, hend listed a w h1 hr V⟩
 | succ fuel ih =>
  intro listed a w h1 hf V
  refine ⟨fun hr => hend listed a w h1 hr V, fun i hi => ?_⟩
  obtain ⟨h2, o, ho, hafter⟩ := mem_ready.1 hi
  have hoa : all[i]? = some o := by rw [hall]; simpa using ho
  have hil := lt_get hoa
  have hid : listed.getD i false = false := by rw [← hdone listed i h1 hil]; exact h2
  refine inv_step hC hall T hs V hoa hid (fun j hj => ?_) fun a' w' V' => ?_
  ·obtain ⟨x, hx, hb, rfl⟩ := (hbind o j).1 hj
   exact hafter x hx hb
  ·have heq : (fun j => (listed.setIfInBounds i true).getD j false) = set1 (fun j => listed.getD j false) i := by
    funext j
    simp only [set1, Array.getD_eq_getD_getElem?, Array.getElem?_setIfInBounds]
    by_cases hji : j = i
    ·subst hji; rw [if_pos rfl, if_pos (show j < listed.size by omega), if_pos rfl]; rfl
    ·rw [if_neg (fun hh => hji hh.symm), if_neg hji]
   refine ih _ a' w' (by simp [h1]) ?_ (by rw [heq]; exact V')
   have hlt : ((List.range all.length).filter fun j => !(listed.setIfInBounds i true).getD j false).length < ((List.range all.length).filter fun j => !listed.getD j false).length := by
    have h3 : ∀ j, (!(listed.setIfInBounds i true).getD j false) = (!set1 (fun j => listed.getD j false) i j) := fun j => by rw [← heq]
    simp only [h3]
    exact filter_less (done := fun j => listed.getD j false) hid (List.mem_range.2 hil)
   omega
theorem region_wp (hC : C.ok P G) (hm : P.follows .mixedOrders = true) {id : Nat} {ops : Array Oper} {draw : Bool} {Q : Exit → Act → World → Prop} {st : St} {K : St → Prop} (hd : draw = true → safe ops.toList st.tmps.length = true)
  (hv : vc C (draw && anyStore ops.toList) (ops.toList.map (·.dst)) ops.toList 0 [] st K) (hQ : ∀ st' a w, K st' → Rel G C.own w0 X0 st' a w → Q .normal a w) {a : Act} {w : World} (R : Rel G C.own w0 X0 st a w) : (Code.region id ops draw).wp P Q a w := by
 obtain ⟨p, st', hr, hp, hk⟩ := vc_run hv
 cases draw with
 | false =>
  refine wp_region ?_
  have := ops_seq (P := P) (Q := Q) hC (ops := ops) (fun a w R' => hQ st' a w hk R') ops.toList 0 [] st a w p rfl hr hp R
  rwa [List.range_eq_range']
 | true =>
  refine wp_region_any hm ?_
  obtain ⟨S, AC, d, e, h0, _, h1, h2⟩ := run_trace hr hp
  have hsafe := safe_spec (hd rfl)
  obtain ⟨hdef, hsz, ρ, RH, ht⟩ := R
  have hnone : ∀ (l : List Nat) (h : Nat → Option Ent), hF (fun i => (S i).heap.length) e (fun i => (Array.replicate ops.size false).getD i false) l h = h := fun l => by
   have hrep : ∀ i, (Array.replicate ops.size false).getD i false = false := fun i => by
    simp only [Array.getD_eq_getD_getElem?, Array.getElem?_replicate]; split <;> rfl
   induction l with
   | nil => intro h; rfl
   | cons x l ih => intro h; rw [hF_cons, if_neg (by rw [hrep]; simp), ih]
  have hrep : ∀ i, (Array.replicate ops.size false).getD i false = false := fun i => by
   simp only [Array.getD_eq_getD_getElem?, Array.getElem?_replicate]; split <;> rfl
  refine any_sound hC rfl ⟨h0, h1, fun i o ho => by have := h2 i o ho; rwa [Nat.zero_add] at this⟩ hsafe (fun a w R' => hQ st' a w hk R') _ _ a _ (by simp) (by
   refine Nat.le_trans (List.length_filter_le _ _) ?_; simp) ⟨hdef, hsz, (fun i o ho hd => by rw [hrep] at hd; cases hd), (fun j k f hj hd => by rw [hrep] at hd; cases hd), ρ, ?_, ?_⟩
  ·rw [hnone]
   exact (RH.bel (w' := w.drew) ((Below.refl _ w).drew)).1
  ·rw [hnone]
   intro t
   exact ⟨(fun j q hq hd hdj => by rw [hrep] at hdj; cases hdj), fun _ x hx => den_mono (RH.bel (w' := w.drew) ((Below.refl _ w).drew)).2 _ _ (ht t x hx)⟩
end
inductive Ex where | normal | exit (id : Nat) | goto (l : Nat) | ret
def Ex.to : Ex → Exit | .normal => .normal | .exit i => .exit i | .goto l => .goto l | .ret => .ret
def leD : List D → List D → Prop
 | [], [] => True
 | .undef :: a, _ :: b => leD a b
 | .bool x :: a, .kb y :: b => x = y ∧ leD a b
 | x :: a, y :: b => x = y ∧ leD a b
 | _, _ => False
def eqD : List D → List D → Prop
 | [], [] => True
 | x :: a, y :: b => x = y ∧ eqD a b
 | _, _ => False
def eqC : EK → List D → List D → Prop
 | .arr, a, b => a = b
 | _, a, b => eqD a b
def D.pure1 : D → Bool
 | .bool _ | .kb _ | .flt _ _ | .cpx _ _ _ | .str _ | .int _ _ | .sl _ _ | .gptr _ _ | .gsym _ _ | .eptr _ _ | .fn _ _ => true
 | .agg cs => D.pure (.agg cs)
 | .tup ds => ds.all D.pure
 | _ => false
theorem den_pure2 {w : World} {X : Nat → Prop} {ρ ρ' : Nat → Option Nat} {d : D} {v : Value} (hp : d.pure1 = true) (h : den ⟨w, X, ρ⟩ d v) : den ⟨w, X, ρ'⟩ d v := by
 cases d <;> (try (simp [D.pure1] at hp; done)) <;> (try (exact den_pure rfl h))
 case agg cs => exact den_pure hp h
 case tup ds =>
  simp only [den] at h ⊢
  obtain ⟨vs, rfl, h⟩ := h
  exact ⟨vs, rfl, denL_pure hp h⟩
def D.low (n : Nat) : D → Bool
 | .undef => true
 | .slx _ _ => true
 | .ptr k _ => k.blt n
 | .osl k _ _ _ => k.blt n
 | d => d.pure1
def St.low (s : St) : Bool := s.tmps.all (D.low s.heap.length) && s.heap.all fun e => match e.k with | .var => e.cs.all (D.low s.heap.length) | _ => true
def eqE (p : Prop) : List Ent → List Ent → Prop
 | [], [] => True
 | [], _ :: _ => p
 | e :: a, f :: b => (e.t == f.t && e.fz == f.fz) = true ∧ e.k = f.k ∧ eqC e.k e.cs f.cs ∧ eqE p a b
 | _, _ => False
def St.le (s s' : St) : Prop := leD s'.tmps s.tmps ∧ eqE (match s'.low with | true => True | false => False) s'.heap s.heap
theorem leD_cons {x y : D} {a b : List D} (h : leD (x :: a) (y :: b)) : (x = .undef ∨ x = y ∨ ∃ c, x = .bool c ∧ y = .kb c) ∧ leD a b := by
 cases x <;> cases y <;> simp only [leD] at h <;> first | exact ⟨.inl rfl, h⟩ | exact ⟨.inr (.inl h.1), h.2⟩ | (obtain ⟨rfl, h2⟩ := h; exact ⟨.inr (.inr ⟨_, rfl, rfl⟩), h2⟩)
theorem leD_spec : ∀ {a b : List D}, leD a b → a.length = b.length ∧ ∀ (t : Nat) (d : D), a[t]? = some d → d = D.undef ∨ b[t]? = some d ∨ ∃ c, d = .bool c ∧ b[t]? = some (.kb c)
 | [], [], _ => ⟨rfl, fun t d h => by simp at h⟩
 | x :: a, y :: b, h => by
  have key := leD_cons h
  obtain ⟨h1, h2⟩ := leD_spec key.2
  refine ⟨by simp [h1], fun t d ht => ?_⟩
  cases t with
  | zero =>
   simp only [List.getElem?_cons_zero, Option.some.injEq] at ht ⊢
   subst ht
   rcases key.1 with h3 | h3 | ⟨c, h3, h4⟩
   ·exact .inl h3
   ·exact .inr (.inl h3.symm)
   ·exact .inr (.inr ⟨c, h3, h4⟩)
  | succ t => simp only [List.getElem?_cons_succ] at ht ⊢; exact h2 t d ht
 | [], _ :: _, h => by simp only [leD] at h
 | x :: _, [], h => by cases x <;> simp only [leD] at h
theorem eqD_spec : ∀ {a b : List D}, eqD a b → a = b
 | [], [], _ => rfl
 | x :: a, y :: b, h => by
  simp only [eqD] at h
  rw [h.1, eqD_spec h.2]
 | [], _ :: _, h => by simp only [eqD] at h
 | _ :: _, [], h => by simp only [eqD] at h
theorem eqC_spec : ∀ {k : EK} {a b : List D}, eqC k a b → a = b
 | .arr, _, _, h => h
 | .var, _, _, h => eqD_spec h
 | .gone, _, _, h => eqD_spec h
theorem eqE_spec {p : Prop} : ∀ {a b : List Ent}, eqE p a b → ∃ r, b = a ++ r ∧ (r ≠ [] → p)
 | [], [], _ => ⟨[], rfl, fun h => absurd rfl h⟩
 | [], f :: b, h => ⟨f :: b, rfl, fun _ => h⟩
 | e :: a, f :: b, h => by
  simp only [eqE, Bool.and_eq_true, beq_iff_eq] at h
  obtain ⟨⟨h1, h2⟩, h6, h3, h4⟩ := h
  have h5 := eqC_spec h3
  cases e; cases f
  dsimp only at h1 h2 h5 h6
  subst h1 h2 h5 h6
  obtain ⟨r, h7, h8⟩ := eqE_spec h4
  exact ⟨r, by rw [h7]; rfl, h8⟩
 | _ :: _, [], h => by simp only [eqE] at h
theorem den_low {w : World} {X X' : Nat → Prop} {ρ ρ' : Nat → Option Nat} {n : Nat} (hX : ∀ b, X' b → X b) (hr : ∀ k, k < n → ρ' k = ρ k) {d : D} {v : Value} (hd : d.low n = true) (h : den ⟨w, X, ρ⟩ d v) : den ⟨w, X', ρ'⟩ d v := by
 have h1 : den ⟨w, X', ρ⟩ d v := den_mono (E := ⟨w, X, ρ⟩) (E' := ⟨w, X', ρ⟩) ⟨Nat.le_refl _, fun b _ hx => ⟨rfl, fun h' => hx (hX b h')⟩, fun _ _ h => h, fun _ vs _ h => ⟨vs, h, rfl⟩⟩ d v h
 cases d
 case undef => simp only [den]
 case slx m cs => simpa only [den] using h1
 case ptr k o =>
  simp only [D.low, Nat.blt_eq] at hd
  simp only [den] at h1 ⊢
  rw [hr k hd]; exact h1
 case osl k s o m =>
  simp only [D.low, Nat.blt_eq] at hd
  simp only [den] at h1 ⊢
  rw [hr k hd]; exact h1
 all_goals exact den_pure2 hd h1
theorem den_frz {w : World} {X : Nat → Prop} {ρ ρ' : Nat → Option Nat} {d : D} {v : Value} (hd : d.frz = true) (h : den ⟨w, X, ρ⟩ d v) : den ⟨w, X, ρ'⟩ d v := by
 cases d <;> first | (simp [D.frz] at hd; done) | (simpa only [den] using h)
theorem denL_each {E E' : Env} : ∀ {ds : List D} {vs : List Value}, (∀ d ∈ ds, ∀ v, den E d v → den E' d v) → denL E ds vs → denL E' ds vs
 | [], vs, _, h => by simpa only [denL] using h
 | d :: ds, vs, hm, h => by
  simp only [denL] at h ⊢
  obtain ⟨v, us, rfl, h1, h2⟩ := h
  exact ⟨v, us, rfl, hm d (List.mem_cons_self ..) v h1, denL_each (fun d' hd => hm d' (List.mem_cons_of_mem _ hd)) h2⟩
theorem Rel_le {G : World → Prop} {sM : Bool} {w0 : World} {X0 : Nat → Prop} {s s' : St} {a : Act} {w : World} (R : Rel G sM w0 X0 s a w) (h : s.le s') : Rel G sM w0 X0 s' a w := by
 obtain ⟨h1, h2⟩ := leD_spec h.1
 obtain ⟨r, h3, hlow⟩ := eqE_spec h.2
 obtain ⟨ρ, RH, ht⟩ := R.mem
 by_cases hr : r = []
 ·subst hr
  rw [List.append_nil] at h3
  have h4 : s'.h = s.h := by funext k; unfold St.h; rw [h3]
  refine ⟨R.defers, by rw [R.size, h1], ρ, by rw [h4]; exact RH, fun t d htd => ?_⟩
  rw [h4]
  rcases h2 t d htd with h5 | h5 | ⟨c, rfl, h5⟩
  ·subst h5; simp only [den]
  ·exact ht t d h5
  ·have h6 := ht t _ h5
   simpa only [den] using h6
 ·have hp := hlow hr
  have hl : s'.low = true := by
   cases hb : s'.low with
   | true => rfl
   | false => rw [hb] at hp; exact hp.elim
  unfold St.low at hl
  rw [Bool.and_eq_true] at hl
  obtain ⟨l1, l2⟩ := hl
  have hk : ∀ k e, s'.h k = some e → k < s'.heap.length ∧ s.h k = some e := by
   intro k e he
   unfold St.h at he ⊢
   have hlt : k < s'.heap.length := by
    rcases Nat.lt_or_ge k s'.heap.length with h5 | h5
    ·exact h5
    ·rw [List.getElem?_eq_none h5] at he; cases he
   exact ⟨hlt, by rw [h3, List.getElem?_append_left hlt]; exact he⟩
  let ρ' : Nat → Option Nat := fun k => if k < s'.heap.length then ρ k else none
  have hr1 : ∀ k, k < s'.heap.length → ρ' k = ρ k := fun k h5 => if_pos h5
  have hr2 : ∀ k b, ρ' k = some b → k < s'.heap.length ∧ ρ k = some b := by
   intro k b hb
   by_cases h5 : k < s'.heap.length
   ·exact ⟨h5, by rw [← hr1 k h5]; exact hb⟩
   ·have : ρ' k = none := if_neg h5
    rw [this] at hb; cases hb
  have hX : ∀ b, (envr X0 s'.h w ρ').X b → (envr X0 s.h w ρ).X b := by
   rintro b (hb | ⟨k, e, h5, h6, h7, h8⟩)
   ·exact .inl hb
   ·exact .inr ⟨k, e, (hk k e h5).2, h6, h7, (hr2 k b h8).2⟩
  refine ⟨R.defers, by rw [R.size, h1], ρ', ⟨RH.below, RH.x0, RH.g, ?_, ?_, ?_⟩, fun t d htd => ?_⟩
  ·intro k b hb
   obtain ⟨h5, h6⟩ := hr2 k b hb
   exact ⟨⟨_, List.getElem?_eq_getElem h5⟩, (RH.dom k b h6).2⟩
  ·intro k e he hlive
   obtain ⟨h5, h6⟩ := hk k e he
   obtain ⟨b, vs, b1, b2, b3, b4, b5, b6, b7⟩ := RH.blk k e h6 hlive
   have hkk : e.k = .var ∨ e.k = .arr := by cases hek : e.k <;> simp_all [EK.live]
   have hmem : e ∈ s'.heap := List.mem_of_getElem? he
   refine ⟨b, vs, (hr1 k h5).trans b1, b2, b3, b4, b5, ?_⟩
   have hden : denL (envr X0 s'.h w ρ') e.cs (vs.toList.take e.cs.length) := by
    refine denL_each (fun d hd v hv => ?_) b7
    rcases hkk with h7 | h7
    ·have := List.all_eq_true.1 l2 e hmem
     rw [h7] at this
     exact den_low hX hr1 (List.all_eq_true.1 this d hd) hv
    ·have h8 := List.all_eq_true.1 (b5 h7) d hd
     exact den_frz (ρ := ρ) h8 (den_mono (E := envr X0 s.h w ρ) (E' := ⟨w, (envr X0 s'.h w ρ').X, ρ⟩) ⟨Nat.le_refl _, fun b _ hx => ⟨rfl, fun h' => hx (hX b h')⟩, fun _ _ h => h, fun _ vs _ h => ⟨vs, h, rfl⟩⟩ d v hv)
   exact ⟨b6, hden⟩
  ·intro k l e f b he hle hf hlf hk1 hl1
   exact RH.inj k l e f b (hk k e he).2 hle (hk l f hf).2 hlf (hr2 k b hk1).2 (hr2 l b hl1).2
  ·rcases h2 t d htd with h5 | h5 | ⟨c, rfl, h5⟩
   ·subst h5; simp only [den]
   ·exact den_low hX hr1 (List.all_eq_true.1 l1 d (List.mem_of_getElem? htd)) (ht t d h5)
   ·have h6 := ht t _ h5
    simpa only [den] using h6
def evS (C : Ctx) (sc : Code → St → (Ex → St → Prop) → Prop) : Code → St → (Ex → St → Prop) → Prop
 | .skip, st, K | .label _, st, K => K .normal st
 | .region _ ops draw, st, K => (!draw || C.A.safe ops.toList st.tmps.length) = true ∧ vc C (draw && anyStore ops.toList) (ops.toList.map (·.dst)) ops.toList 0 [] st (K .normal)
 | .seq a b, st, K => evS C sc a st fun e s => match e with | .normal => evS C sc b s K | e => K e s
 | .cond c a b, st, K => match st.ev c with
  | .bool t => (t = true → evS C sc a st K) ∧ (t = false → evS C sc b st K)
  | .kb t => (match t with | true => evS C sc a st K | false => evS C sc b st K)
  | _ => False
 | .block id c, st, K => evS C sc c st fun e s => match e with | .exit id' => if id' = id then K .normal s else K (.exit id') s | e => K e s
 | .loop c, st, K => ∃ (S : Nat → St) (n : Nat), st.le (S 0) ∧ ∀ i, i ≤ n → evS C sc c (S i) fun e s => match e with | .normal => i < n ∧ s.le (S (i + 1)) | e => K e s
 | .exit id, st, K => K (.exit id) st
 | .goto l, st, K => K (.goto l) st
 | .ret, st, K => K .ret st
 | .scope c, st, K => ∃ (l : Nat) (rest : Code) (S : Nat → St) (n : Nat), findLabel c l = some rest ∧ (evS C sc c st fun e s => match e with | .goto l' => l' = l ∧ s.le (S 0) | e => K e s) ∧
   ∀ i, i ≤ n → sc rest (S i) fun e s => match e with | .goto l' => l' = l ∧ i < n ∧ s.le (S (i + 1)) | e => K e s
 | _, _, _ => False
def ev (C : Ctx) : Nat → Code → St → (Ex → St → Prop) → Prop
 | 0 => evS C fun _ _ _ => False
 | fuel + 1 => evS C (ev C fuel)
def wrO (os : List Oper) : List Nat := os.filterMap (·.dst)
def wr : Code → List Nat
 | .region _ ops _ => wrO ops.toList
 | .seq a b => wr a ++ wr b
 | .cond _ a b => wr a ++ wr b
 | .block _ c => wr c
 | .loop c => wr c
 | _ => []
def setAll (d : D) : List Nat → List D → List D
 | [], l => l
 | t :: ts, l => setAll d ts (l.set t d)
def St.forget (st : St) (ts : List Nat) : St := ⟨setAll .undef ts st.tmps, st.heap⟩
def St.setT (st : St) (t : Nat) (d : D) : St := ⟨st.tmps.set t d, st.heap⟩
def St.setC (st : St) (k : Nat) (cs : List D) : St := ⟨st.tmps, match st.heap[k]? with | some e => st.heap.set k ⟨e.t, cs, e.fz, e.k⟩ | none => st.heap⟩
theorem loop_by {C : Ctx} {sc : Code → St → (Ex → St → Prop) → Prop} {c : Code} {st : St} {K : Ex → St → Prop} (g : Nat → St → St) (n : Nat) (h0 : st.le (g 0 (st.forget (wr c))))
  (h : ∀ i, i ≤ n → evS C sc c (g i (st.forget (wr c))) fun e s => match e with | .normal => i < n ∧ s.le (g (i + 1) (st.forget (wr c))) | e => K e s) :
  ∃ (S : Nat → St) (n : Nat), st.le (S 0) ∧ ∀ i, i ≤ n → evS C sc c (S i) fun e s => match e with | .normal => i < n ∧ s.le (S (i + 1)) | e => K e s :=
 ⟨fun i => g i (st.forget (wr c)), n, h0, h⟩
theorem scope_by {C : Ctx} {sc : Code → St → (Ex → St → Prop) → Prop} {c rest : Code} {st : St} {K : Ex → St → Prop} (l : Nat) (hf : findLabel c l = some rest) (g : Nat → St → St) (n : Nat)
  (h0 : evS C sc c st fun e s => match e with | .goto l' => l' = l ∧ s.le (g 0 (st.forget (wr c))) | e => K e s)
  (h : ∀ i, i ≤ n → sc rest (g i (st.forget (wr c))) fun e s => match e with | .goto l' => l' = l ∧ i < n ∧ s.le (g (i + 1) (st.forget (wr c))) | e => K e s) :
  ∃ (l : Nat) (rest : Code) (S : Nat → St) (n : Nat), findLabel c l = some rest ∧ (evS C sc c st fun e s => match e with | .goto l' => l' = l ∧ s.le (S 0) | e => K e s) ∧
   ∀ i, i ≤ n → sc rest (S i) fun e s => match e with | .goto l' => l' = l ∧ i < n ∧ s.le (S (i + 1)) | e => K e s :=
 ⟨l, rest, fun i => g i (st.forget (wr c)), n, hf, h0, h⟩
theorem wp_scope_fuel {P : Program} {Q : Exit → Act → World → Prop} {c rest : Code} (l : Nat) (I : Nat → Act → World → Prop) (hf : findLabel c l = some rest) {a : Act} {w : World}
  (first : c.wp P (Exit.jump l (fun a w => ∃ m, I m a w) Q) a w)
  (pass : ∀ n a w, I n a w → rest.wp P (Exit.jump l (fun a' w' => ∃ m, m < n ∧ I m a' w') Q) a w) : (Code.scope c).wp P Q a w := by
 intro b k cs
 have hg : gotoIn l (.inScope c :: k) = some (.code rest :: .inScope c :: k) := by simp [gotoIn, hf]
 have key : ∀ n a w, I n a w → ∃ e a' w', Q e a' w' ∧ Arrives P (lone (b.at a (.code rest :: .inScope c :: k)) cs w) b k cs e a' w' := by
  intro n
  induction n using Nat.strongRecOn with
  | _ n ih =>
   intro a w hJ
   obtain ⟨e, a₁, w₁, hq, harr⟩ := pass n a w hJ b (.inScope c :: k) cs
   cases e with
   | normal => exact ⟨.normal, a₁, w₁, hq, Steps.trans harr (.one step_inScope)⟩
   | exit id => exact ⟨.exit id, a₁, w₁, hq, fun k' hk => harr k' (by simp [exitTo, hk])⟩
   | goto l' =>
    obtain ⟨rfl, m, hlt, hJ'⟩ := hq
    obtain ⟨e₂, a₂, w₂, hq₂, harr₂⟩ := ih m hlt a₁ w₁ hJ'
    exact ⟨e₂, a₂, w₂, hq₂, .of_steps (harr _ hg) harr₂⟩
   | ret => exact ⟨_, a₁, w₁, hq, harr⟩
   | panic ch => exact ⟨_, a₁, w₁, hq, harr⟩
   | outgrown => exact ⟨_, a₁, w₁, hq, harr⟩
 obtain ⟨e, a₁, w₁, hq, harr⟩ := first b (.inScope c :: k) cs
 cases e with
 | normal => exact ⟨.normal, a₁, w₁, hq, .head step_scope (Steps.trans harr (.one step_inScope))⟩
 | exit id => exact ⟨.exit id, a₁, w₁, hq, fun k' hk => .head step_scope (harr k' (by simp [exitTo, hk]))⟩
 | goto l' =>
  obtain ⟨rfl, m, hJ'⟩ := hq
  obtain ⟨e₂, a₂, w₂, hq₂, harr₂⟩ := key m a₁ w₁ hJ'
  exact ⟨e₂, a₂, w₂, hq₂, .of_steps (.head step_scope (harr _ hg)) harr₂⟩
 | ret => exact ⟨_, a₁, w₁, hq, .of_steps (.one step_scope) harr⟩
 | panic ch => exact ⟨_, a₁, w₁, hq, .of_steps (.one step_scope) harr⟩
 | outgrown => exact ⟨_, a₁, w₁, hq, .of_steps (.one step_scope) harr⟩
theorem wp_loop_fuel {P : Program} {Q : Exit → Act → World → Prop} {c : Code} (I : Nat → Act → World → Prop)
  (round : ∀ n a w, I n a w → c.wp P (Exit.then (fun a' w' => ∃ m, m < n ∧ I m a' w') Q) a w) {n : Nat} {a : Act} {w : World} (h₀ : I n a w) : (Code.loop c).wp P Q a w := by
 intro b k cs
 have key : ∀ n a w, I n a w → ∃ e a' w', Q e a' w' ∧ Arrives P (lone (b.at a (.code c :: .inLoop c :: k)) cs w) b k cs e a' w' := by
  intro n
  induction n using Nat.strongRecOn with
  | _ n ih =>
   intro a w hI
   obtain ⟨e, a₁, w₁, hq, harr⟩ := round n a w hI b (.inLoop c :: k) cs
   cases e with
   | normal =>
    obtain ⟨m, hlt, hI₁⟩ := hq
    obtain ⟨e₂, a₂, w₂, hq₂, harr₂⟩ := ih m hlt a₁ w₁ hI₁
    exact ⟨e₂, a₂, w₂, hq₂, .of_steps (Steps.trans harr (.one step_inLoop)) harr₂⟩
   | exit id => exact ⟨_, a₁, w₁, hq, .pass (x := .inLoop c) rfl (fun _ _ => .inl (by simp)) harr⟩
   | goto l => exact ⟨_, a₁, w₁, hq, .pass (x := .inLoop c) rfl (fun _ _ => .inl (by simp)) harr⟩
   | ret => exact ⟨_, a₁, w₁, hq, .pass (x := .inLoop c) rfl (fun _ _ => .inl (by simp)) harr⟩
   | panic ch => exact ⟨_, a₁, w₁, hq, .pass (x := .inLoop c) rfl (fun _ _ => .inl (by simp)) harr⟩
   | outgrown => exact ⟨_, a₁, w₁, hq, .pass (x := .inLoop c) rfl (fun _ _ => .inl (by simp)) harr⟩
 obtain ⟨e, a', w', hq, harr⟩ := key n a w h₀
 exact ⟨e, a', w', hq, .of_steps (.one step_loop) harr⟩
section
variable {P : Program} {G : World → Prop} {C : Ctx} {w0 : World} {X0 : Nat → Prop}
theorem evS_wp (hC : C.ok P G) (hm : P.follows .mixedOrders = true) {sc : Code → St → (Ex → St → Prop) → Prop} (hsc : ∀ (c : Code) {st : St} {K : Ex → St → Prop} {Q : Exit → Act → World → Prop}, sc c st K → (∀ e st' a w, K e st' → Rel G C.own w0 X0 st' a w → Q e.to a w) → ∀ {a : Act} {w : World}, Rel G C.own w0 X0 st a w → c.wp P Q a w) : ∀ (c : Code) {st : St} {K : Ex → St → Prop} {Q : Exit → Act → World → Prop}, evS C sc c st K → (∀ e st' a w, K e st' → Rel G C.own w0 X0 st' a w → Q e.to a w) →
  ∀ {a : Act} {w : World}, Rel G C.own w0 X0 st a w → c.wp P Q a w
 | .skip, st, K, Q, h, hQ, a, w, R => wp_skip (hQ .normal st a w (by simpa only [evS] using h) R)
 | .label l, st, K, Q, h, hQ, a, w, R => wp_label (hQ .normal st a w (by simpa only [evS] using h) R)
 | .region id ops draw, st, K, Q, h, hQ, a, w, R => by
  simp only [evS] at h
  exact region_wp hC hm (fun hd => by have := h.1; rw [hd, hC.alg] at this; simpa [std] using this) h.2 (fun st' a w hk R' => hQ .normal st' a w hk R') R
 | .seq x y, st, K, Q, h, hQ, a, w, R => by
  simp only [evS] at h
  refine wp_seq (evS_wp hC hm hsc x h (fun e st' a' w' hk R' => ?_) R)
  cases e with
  | normal => exact evS_wp hC hm hsc y hk hQ R'
  | exit id => exact hQ (.exit id) st' a' w' hk R'
  | goto l => exact hQ (.goto l) st' a' w' hk R'
  | ret => exact hQ .ret st' a' w' hk R'
 | .cond c x y, st, K, Q, h, hQ, a, w, R => by
  simp only [evS] at h
  obtain ⟨ρ, RH, ht⟩ := R.mem
  have hd := ev_den ht c
  split at h
  ·rename_i t htc
   rw [htc] at hd
   simp only [den] at hd
   exact wp_cond_split hd (fun h1 => evS_wp hC hm hsc x (h.1 h1) hQ R) (fun h1 => evS_wp hC hm hsc y (h.2 h1) hQ R)
  ·rename_i t htc
   rw [htc] at hd
   simp only [den] at hd
   cases t with
   | true => exact wp_cond_true hd (evS_wp hC hm hsc x h hQ R)
   | false => exact wp_cond_false hd (evS_wp hC hm hsc y h hQ R)
  ·exact h.elim
 | .block id c, st, K, Q, h, hQ, a, w, R => by
  simp only [evS] at h
  refine wp_block (evS_wp hC hm hsc c h (fun e st' a' w' hk R' => ?_) R)
  cases e with
  | normal => exact hQ .normal st' a' w' hk R'
  | exit id' =>
   simp only [Ex.to, Exit.inBlock] at hk ⊢
   split
   ·rename_i hid; rw [if_pos hid] at hk; exact hQ .normal st' a' w' hk R'
   ·rename_i hid; rw [if_neg hid] at hk; exact hQ (.exit id') st' a' w' hk R'
  | goto l => exact hQ (.goto l) st' a' w' hk R'
  | ret => exact hQ .ret st' a' w' hk R'
 | .loop c, st, K, Q, h, hQ, a, w, R => by
  simp only [evS] at h
  obtain ⟨S, n, h0, hS⟩ := h
  refine wp_loop_fuel (fun m a w => ∃ i, m + i = n ∧ Rel G C.own w0 X0 (S i) a w) (fun m a w hI => ?_) (n := n) ⟨0, rfl, Rel_le R h0⟩
  obtain ⟨i, hi, R⟩ := hI
  refine evS_wp hC hm hsc c (hS i (by omega)) (fun e st' a' w' hk R' => ?_) R
  cases e with
  | normal => exact ⟨m - 1, by have := hk.1; omega, i + 1, by have := hk.1; omega, Rel_le R' hk.2⟩
  | exit id => exact hQ (.exit id) st' a' w' hk R'
  | goto l => exact hQ (.goto l) st' a' w' hk R'
  | ret => exact hQ .ret st' a' w' hk R'
 | .exit id, st, K, Q, h, hQ, a, w, R => wp_exit (hQ (.exit id) st a w (by simpa only [evS] using h) R)
 | .goto l, st, K, Q, h, hQ, a, w, R => wp_goto (hQ (.goto l) st a w (by simpa only [evS] using h) R)
 | .ret, st, K, Q, h, hQ, a, w, R => wp_ret (hQ .ret st a w (by simpa only [evS] using h) R)
 | .rangeFunc _ _ _ _, _, _, _, h, _, _, _, _ => by simp only [evS] at h
 | .scope c, st, K, Q, h, hQ, a, w, R => by
  simp only [evS] at h
  obtain ⟨l, rest, S, n, hf, h0, hS⟩ := h
  refine wp_scope_fuel l (fun m a w => ∃ i, m + i = n ∧ Rel G C.own w0 X0 (S i) a w) hf (evS_wp hC hm hsc c h0 (fun e st' a' w' hk R' => ?_) R) (fun m a w hI => ?_)
  ·cases e with
   | normal => exact hQ .normal st' a' w' hk R'
   | exit id => exact hQ (.exit id) st' a' w' hk R'
   | goto l' => exact ⟨hk.1, n, 0, rfl, Rel_le R' hk.2⟩
   | ret => exact hQ .ret st' a' w' hk R'
  ·obtain ⟨i, hi, R⟩ := hI
   refine hsc rest (hS i (by omega)) (fun e st' a' w' hk R' => ?_) R
   cases e with
   | normal => exact hQ .normal st' a' w' hk R'
   | exit id => exact hQ (.exit id) st' a' w' hk R'
   | goto l' => exact ⟨hk.1, m - 1, by have := hk.2.1; omega, i + 1, by have := hk.2.1; omega, Rel_le R' hk.2.2⟩
   | ret => exact hQ .ret st' a' w' hk R'
 | .refuse _, _, _, _, h, _, _, _, _ => by simp only [evS] at h
theorem ev_wp (hC : C.ok P G) (hm : P.follows .mixedOrders = true) : ∀ {fuel : Nat} (c : Code) {st : St} {K : Ex → St → Prop} {Q : Exit → Act → World → Prop}, ev C fuel c st K → (∀ e st' a w, K e st' → Rel G C.own w0 X0 st' a w → Q e.to a w) →
  ∀ {a : Act} {w : World}, Rel G C.own w0 X0 st a w → c.wp P Q a w
 | 0, c, _, _, _, h, hQ, _, _, R => evS_wp hC hm (fun _ _ _ _ h => h.elim) c h hQ R
 | fuel + 1, c, _, _, _, h, hQ, _, _, R => evS_wp hC hm (fun c _ _ _ h hQ _ _ R => ev_wp (fuel := fuel) hC hm c h hQ R) c h hQ R
def resOne (C : Ctx) (st : St) : ResultVar → Option D
 | .tmp t => match (st.tmps.getD t .undef).nrm with
  | .osl k sz 0 n => (st.h k).bind fun e => match e.k with | .arr => some (.sl n (C.A.takeL (C.A.mulN n sz) e.cs)) | _ => none
  | d => some d
 | .cell a t => (C.ti t).bind fun i => (cellsAt C st.h (st.tmps.getD a .undef)).bind fun c => if c.2 + i.size ≤ c.1.length then (mk i ((c.1.drop c.2).take i.size)).map D.nrm else none
def resAll (C : Ctx) (st : St) : List ResultVar → Option (List D)
 | [] => some []
 | r :: rs => (resOne C st r).bind fun d => (resAll C st rs).map fun ds => d :: ds
def res (C : Ctx) (st : St) (rs : List ResultVar) : Option D := (resAll C st rs).map fun ds => match ds with | [d] => d | ds => .tup ds
theorem resOne_run (hC : C.ok P G) {st : St} {a : Act} {w : World} {ρ : Nat → Option Nat} (RH : RelH G C.own w0 X0 st.h w ρ) (ht : ∀ t d, st.tmps[t]? = some d → den (envr X0 st.h w ρ) d (a.tmps.getD t undef)) {r : ResultVar} {d : D} (hr : resOne C st r = some d) :
  ∃ v, (match r with | .tmp t => (Pure.pure (a.tmps.getD t undef) : Sem Value) | .cell x t => do loadVar t (← asAddr (a.tmps.getD x undef))).run P w = .ok v w ∧ den ⟨w, X0, ρ⟩ d v := by
 have hout : Le (envr X0 st.h w ρ) ⟨w, X0, ρ⟩ := ⟨Nat.le_refl _, fun b _ hX' => ⟨rfl, fun hx => hX' (.inl hx)⟩, fun _ _ h => h, fun _ vs _ h => ⟨vs, h, rfl⟩⟩
 have hget : ∀ t, den (envr X0 st.h w ρ) (st.tmps.getD t .undef) (a.tmps.getD t undef) := fun t => ev_den ht (.tmp t)
 cases r with
 | tmp t =>
  have hd := den_nrm (hget t)
  simp only [resOne] at hr
  split at hr
  ·rename_i k sz n hx
   rw [hx] at hd
   simp only [den] at hd
   obtain ⟨b, o', c, hv, hnc, ho, hb, _⟩ := hd
   cases he : st.h k with
   | none => simp [he] at hr
   | some e =>
    simp only [he, Option.bind_some] at hr
    split at hr
    ·rename_i hek
     cases hr
     obtain ⟨b', vs, h1, h2, h3, _, h5, h6, h7⟩ := RH.blk k e he (by rw [hek]; rfl)
     have hbb : b' = b := by have hb2 : ρ k = some b := hb; rw [hb2] at h1; cases h1; rfl
     subst hbb
     refine ⟨_, rfl, ?_⟩
     rw [hv, hC.alg]
     simp only [den]
     refine ⟨_, c, rfl, hnc, fun h0 => ?_⟩
     have h8 : (std.takeL (std.mulN n sz) e.cs) = e.cs.take (n * sz) := rfl
     rw [h8] at h0 ⊢
     have hn0 : 0 < n := by
      rcases Nat.eq_zero_or_pos n with h9 | h9
      ·subst h9; simp at h0
      ·exact h9
     have hoo := ho (by omega)
     subst hoo
     refine ⟨b', 0, rfl, lt_of_heap h3, fun hx0 => ?_, ?_⟩
     ·have := (RH.x0 b' hx0).1; omega
     ·refine denC_of (ρ := ρ) (List.all_eq_true.2 fun d hd => List.all_eq_true.1 (h5 hek) d (List.mem_of_mem_take hd)) (denL_mono hout _ _ (denL_take h7 (n * sz))) fun j u hj => ?_
      rw [List.getElem?_take] at hj
      split at hj
      ·rw [List.getElem?_take] at hj
       split at hj
       ·simp only [Nat.zero_add, World.cell?, h3]; simpa using hj
       ·cases hj
      ·cases hj
    ·cases hr
  ·cases hr
   exact ⟨_, rfl, den_mono hout _ _ hd⟩
 | cell x t =>
  simp only [resOne] at hr
  cases hti : C.ti t with
  | none => simp [hti] at hr
  | some i =>
   simp only [hti, Option.bind_some] at hr
   cases hc : cellsAt C st.h (st.tmps.getD x .undef) with
   | none => rw [hc] at hr; cases hr
   | some c =>
    obtain ⟨cs, off⟩ := c
    rw [hc] at hr
    simp only [Option.bind_some] at hr
    split at hr
    ·rename_i hle
     simp only [Option.map_eq_some_iff] at hr
     obtain ⟨d', hr, rfl⟩ := hr
     obtain ⟨b, o', vs, hv, hd, hg⟩ := cells_at hC RH (hget x) hc
     obtain ⟨v, hrun, hdv⟩ := load_run hC.ti (E := envr X0 st.h w ρ) hti (b := b) (o := o' + off) (cs := (cs.drop off).take i.size) (vs := (vs.drop off).take i.size) (by simp; omega) (denL_take (denL_drop hd _) _) (fun j u hj => by
      have := hg (off + j) u (take_drop_get hj); rwa [← Nat.add_assoc] at this) hr
     refine ⟨v, ?_, den_mono hout _ _ (den_nrm hdv)⟩
     have hrun' : (Instr.loadAt t (.pointer (some ⟨b, o' + off, none⟩))).run P w = .ok v w := hrun
     dsimp only
     rw [hv]
     simpa [Instr.loadAt, Instr.sureAddr, asAddr] using hrun'
    ·cases hr
theorem resAll_run (hC : C.ok P G) {st : St} {a : Act} {w : World} {ρ : Nat → Option Nat} (RH : RelH G C.own w0 X0 st.h w ρ) (ht : ∀ t d, st.tmps[t]? = some d → den (envr X0 st.h w ρ) d (a.tmps.getD t undef)) : ∀ {rs : List ResultVar} {ds : List D}, resAll C st rs = some ds →
  ∃ vs, (rs.mapM (m := Sem) fun | .tmp t => pure (a.tmps.getD t undef) | .cell x t => do loadVar t (← asAddr (a.tmps.getD x undef))).run P w = .ok vs w ∧ denL ⟨w, X0, ρ⟩ ds vs
 | [], ds, h => by
  simp only [resAll, Option.some.injEq] at h; subst h
  exact ⟨[], rfl, by simp [denL]⟩
 | r :: rs, ds, h => by
  simp only [resAll] at h
  cases h1 : resOne C st r with
  | none => simp [h1] at h
  | some d =>
   cases h2 : resAll C st rs with
   | none => simp [h1, h2] at h
   | some ds' =>
    simp only [h1, h2, Option.bind_some, Option.map_some, Option.some.injEq] at h
    subst h
    obtain ⟨v, hr, hd⟩ := resOne_run hC RH ht h1
    obtain ⟨vs, hrs, hds⟩ := resAll_run hC RH ht h2
    refine ⟨v :: vs, ?_, by simp only [denL]; exact ⟨v, vs, rfl, hd, hds⟩⟩
    rw [List.mapM_cons, Sem.run_bind, hr, Result.andThen_ok, Sem.run_bind, hrs, Result.andThen_ok]; rfl
theorem res_run (hC : C.ok P G) {st : St} {a : Act} {w : World} {ρ : Nat → Option Nat} (RH : RelH G C.own w0 X0 st.h w ρ) (ht : ∀ t d, st.tmps[t]? = some d → den (envr X0 st.h w ρ) d (a.tmps.getD t undef)) {fn : Func} {d : D} (h : res C st fn.results.toList = some d) :
  ∃ v, (results fn a.tmps).run P w = .ok v w ∧ den ⟨w, X0, ρ⟩ d v := by
 unfold res at h
 cases hr : resAll C st fn.results.toList with
 | none => rw [hr] at h; cases h
 | some ds =>
  rw [hr] at h
  simp only [Option.map_some, Option.some.injEq] at h
  obtain ⟨vs, hrun, hd⟩ := resAll_run hC RH ht hr
  have hm : (fn.results.mapM (m := Sem) fun | .tmp t => pure (a.tmps.getD t undef) | .cell x t => do loadVar t (← asAddr (a.tmps.getD x undef))).run P w = .ok vs.toArray w := by
   rw [← Array.toArray_toList (xs := fn.results), List.mapM_toArray, Sem.run_map, hrun]; rfl
  have hlen := denL_len hd
  have hall : (results fn a.tmps).run P w = .ok (if h : vs.toArray.size = 1 then vs.toArray[0] else .tuple vs.toArray) w := by
   unfold results
   rw [Sem.run_bind]
   exact congrArg (fun r : Result (Array Value) => r.andThen fun vs w => (Pure.pure (if h : vs.size = 1 then vs[0] else .tuple vs) : Sem Value).run P w) hm
  rw [hall]
  split at h
  ·rename_i d'
   subst h
   simp only [denL] at hd
   obtain ⟨v, us, rfl, h1, rfl⟩ := hd
   exact ⟨v, by rw [dif_pos (by simp)]; rfl, h1⟩
  ·rename_i hne
   subst h
   refine ⟨.tuple vs.toArray, ?_, by simp only [den]; exact ⟨vs.toArray, rfl, by simpa using hd⟩⟩
   have : ¬ vs.toArray.size = 1 := fun h1 => by
    simp only [List.size_toArray, hlen] at h1
    match ds, h1 with
    | [x], _ => exact hne x rfl
   rw [dif_neg this]
def start (n : Nat) (ds : List D) : St := ⟨ds ++ List.replicate (n - ds.length) .undef, []⟩
def ends (C : Ctx) (rs : List ResultVar) (R : D → Prop) (e : Ex) (st : St) : Prop := match e with
 | .normal | .ret => match res C st rs with | some d => d.pure1 = true ∧ R d | none => False
 | _ => False
theorem sound (hC : C.ok P G) (hm : P.follows .mixedOrders = true) {f : Nat} {fn : Func} {c : Code} (hf : P.funcs[f]? = some fn) (hb : fn.body = some c) (fuel : Nat) {ds : List D} {R : D → Prop}
  (h : ev C fuel c (start fn.ntmps ds) (ends C fn.results.toList R)) : SoundF C.own P G f ds R := by
 intro X w vs hG hX hds
 have hlen := denL_len hds
 refine calls_of_wp hf hb (ev_wp (w0 := w) (X0 := X) hC hm c h (fun e st' a' w' hk R' => ?_) ⟨rfl, ?_, fun _ => none, ⟨Below.refl _ _, hX, hG, fun k b h => (by cases h), fun k e h => (by simp [start, St.h] at h), fun k l e f b h => (by simp [start, St.h] at h)⟩, fun t d ht => ?_⟩)
 ·have key : (match res C st' fn.results.toList with | some d => d.pure1 = true ∧ R d | none => False) → a'.defers = [] ∧ ∃ v, (results fn a'.tmps).run P w' = .ok v w' ∧ ∃ v' d, Ending.returned v = .returned v' ∧ R d ∧ den ⟨w', X, fun _ => none⟩ d v' ∧ Below w.heap.size w w' := by
   intro hk
   obtain ⟨hdef, _, ρ, RH, ht⟩ := R'
   split at hk
   ·rename_i d hd
    obtain ⟨v, hr, hdv⟩ := res_run hC RH ht hd
    refine ⟨hdef, v, hr, v, d, rfl, hk.2, ?_, RH.below⟩
    exact den_pure2 (ρ := ρ) hk.1 hdv
   ·exact hk.elim
  cases e with
  | normal => exact key hk
  | ret => exact key hk
  | exit id => exact hk.elim
  | goto l => exact hk.elim
 ·simp [start, hlen]
 ·have hle : Le ⟨w, X, fun _ => none⟩ (envr X (start fn.ntmps ds).h w fun _ => none) := ⟨Nat.le_refl _, fun b _ h => ⟨rfl, fun hx => by
   rcases hx with hx | ⟨k, e, hk, _⟩
   ·exact h hx
   ·simp [start, St.h] at hk⟩, fun _ _ h => h, fun _ vs _ h => ⟨vs, h, rfl⟩⟩
  refine den_mono hle _ _ ?_
  simp only [start] at ht
  rcases Nat.lt_or_ge t ds.length with hlt | hge
  ·rw [List.getElem?_append_left hlt] at ht
   obtain ⟨v, hv, hd⟩ := denL_get hds ht
   have : (vs.toArray ++ Array.replicate (fn.ntmps - vs.toArray.size) undef).getD t undef = v := by
    simp only [Array.getD_eq_getD_getElem?]
    rw [Array.getElem?_append_left (by simp; omega)]
    simp [hv]
   simp only [this]; exact hd
  ·rw [List.getElem?_append_right hge, List.getElem?_replicate] at ht
   split at ht
   ·cases ht; simp [den]
   ·cases ht
theorem law_true {f : Nat} {ds : List D} {w : World} {vs : List Value} (h : Sound P G f ds (· = .bool true)) (hG : G w) (hd : denL ⟨w, fun _ => False, fun _ => none⟩ ds vs) :
  Calls P f vs.toArray w fun e w' => e = .returned (.bool true) ∧ Below w.heap.size w w' :=
 (h (fun _ => False) w vs hG (fun _ h => h.elim) hd).mono fun e w' hh => by
  obtain ⟨v, d, rfl, rfl, hd, hb⟩ := hh
  simp only [den] at hd
  subst hd
  exact ⟨rfl, hb⟩
end
inductive Leaf where | I | L | R | S | T | i (k : IntKind) | b | f | c
inductive Shape where | one (l : Leaf) | agg (ls : List Leaf) | tup (ss : List (Bool × List Leaf))
structure Ltr where
 p : Nat → List D → Prop
 z : Nat → List D → Nat → Int
 b : Nat → List D → Nat → Bool
 n : Nat → List D → Nat → Nat
 c : Nat → List D → Nat → List D
 t : Nat → List D → Nat → ByteArray
 neg : Int → Bool
 ln : Int → Nat
 lm : Int → List D
structure Lets where
 z : Nat → Int
 b : Nat → Bool
 n : Nat → Nat
 c : Nat → List D
 t : Nat → ByteArray
 neg : Int → Bool
 ln : Int → Nat
 lm : Int → List D
def leafCells (L : Lets) (pos : Nat) : Leaf → List D
 | .I => [.bool (L.neg (L.z pos)), .sl (L.ln (L.z pos)) (L.lm (L.z pos))]
 | .L => [.sl (L.ln (L.z pos)) (L.lm (L.z pos))]
 | .R => [.bool (L.b pos), .sl (L.n pos) (L.c pos)]
 | .S => [.sl (L.n pos) (L.c pos)]
 | .T => [.str (L.t pos)]
 | .i k => [.int k (L.z pos)]
 | .b => [.bool (L.b pos)]
 | .f => [.flt .f64 (L.n pos)]
 | .c => [.cpx .f64 (L.n pos) (L.z pos).toNat]
def leafs (L : Lets) : Nat → List Leaf → List D
 | _, [] => []
 | pos, l :: ls => leafCells L pos l ++ leafs L (pos + 1) ls
def oneOf : List D → D
 | [d] => d
 | ds => .agg ds
def tups (L : Lets) : Nat → List (Bool × List Leaf) → List D
 | _, [] => []
 | pos, (a, ls) :: ss => (match a with | true => D.agg (leafs L pos ls) | false => oneOf (leafs L pos ls)) :: tups L (pos + ls.length) ss
def Shape.build (L : Lets) : Shape → D
 | .one l => oneOf (leafCells L 0 l)
 | .agg ls => .agg (leafs L 0 ls)
 | .tup ss => .tup (tups L 0 ss)
structure FnSpec where
 sh : Shape
 p : List D → Prop
 z : List D → Nat → Int
 b : List D → Nat → Bool
 n : List D → Nat → Nat
 c : List D → Nat → List D
def strOf : List D → ByteArray | [.str s] => s | _ => ByteArray.empty
def Ltr.lets (F : Ltr) (f : Nat) (ds : List D) : Lets := ⟨F.z f ds, F.b f ds, F.n f ds, F.c f ds, F.t f ds, F.neg, F.ln, F.lm⟩
structure Nums where
 neg : Int → Bool
 ln : Int → Nat
 lm : Int → List D
def FnSpec.out (s : FnSpec) (N : Nums) (ds : List D) : D := s.sh.build ⟨s.z ds, s.b ds, s.n ds, s.c ds, fun i => strOf (s.c ds i), N.neg, N.ln, N.lm⟩
def Good (P : Program) (G : World → Prop) (N : Nums) (f : Nat) (s : FnSpec) : Prop := Callable P f ∧ ∀ ds, s.p ds → Sound P G f ds (· = s.out N ds)
def Goods (P : Program) (G : World → Prop) (N : Nums) : List (Nat × FnSpec) → Prop
 | [] => True
 | p :: ps => Good P G N p.1 p.2 ∧ Goods P G N ps
def find (f : Nat) : List (Nat × FnSpec) → Option FnSpec
 | [] => none
 | p :: ps => if f = p.1 then some p.2 else find f ps
def findS (f : Nat) : List (Nat × Shape) → Option Shape
 | [] => none
 | p :: ps => if f = p.1 then some p.2 else findS f ps
theorem findS_map {f : Nat} : ∀ {tab : List (Nat × FnSpec)}, findS f (tab.map fun p => (p.1, p.2.sh)) = (find f tab).map (·.sh)
 | [] => rfl
 | p :: ps => by simp only [List.map_cons, findS, find]; split <;> first | rfl | exact findS_map
theorem Goods.find {P : Program} {G : World → Prop} {N : Nums} {f : Nat} {s : FnSpec} : ∀ {tab : List (Nat × FnSpec)}, Goods P G N tab → Ev.find f tab = some s → Good P G N f s
 | [], _, h => by cases h
 | p :: ps, hg, h => by
  simp only [Ev.find] at h
  split at h
  ·rename_i hf; subst hf; cases h; exact hg.1
  ·exact hg.2.find h
def fnOf (N : Nums) (tab : List (Nat × FnSpec)) : Ltr where
 p f ds := match find f tab with | some s => s.p ds | none => False
 z f ds i := match find f tab with | some s => s.z ds i | none => 0
 b f ds i := match find f tab with | some s => s.b ds i | none => false
 n f ds i := match find f tab with | some s => s.n ds i | none => 0
 c f ds i := match find f tab with | some s => s.c ds i | none => []
 t f ds i := match find f tab with | some s => strOf (s.c ds i) | none => ByteArray.empty
 neg := N.neg
 ln := N.ln
 lm := N.lm
def mkCtx (ti : Nat → Option TI) (gt : Nat → Option (List D)) (shs : List (Nat × Shape)) (F : Ltr) (A : Alg) : Ctx :=
 { ti := ti, gt := gt, call := fun f ds => (findS f shs).map fun sh => (F.p f ds, sh.build (F.lets f ds)), A := A }
def mkCtxO (ti : Nat → Option TI) (gt : Nat → Option (List D)) (shs : List (Nat × Shape)) (F : Ltr) (A : Alg) : Ctx :=
 { ti := ti, gt := gt, call := fun f ds => (findS f shs).map fun sh => (F.p f ds, sh.build (F.lets f ds)), A := A, own := true, arr := true, strong := fun _ => true }
structure Post where
 R : D → Prop
section
variable {P : Program} {G : World → Prop} {N : Nums}
theorem mkCtx_ok {ti : Nat → Option TI} {gt : Nat → Option (List D)} (hti : ∀ t i, ti t = some i → TI.ok P t i) (hgt : ∀ w, G w → ∀ g cs, gt g = some cs → GT w g cs) (hG : ∀ w w', Below w.heap.size w w' → G w → G w')
  {tab : List (Nat × FnSpec)} (hg : Goods P G N tab) {shs : List (Nat × Shape)} (hs : tab.map (fun p => (p.1, p.2.sh)) = shs) : (mkCtx ti gt shs (fnOf N tab) std).ok P G := by
 refine ⟨hti, rfl, hG, hgt, fun f ds p d h => ?_, fun f x h => by cases h⟩
 subst hs
 simp only [mkCtx, findS_map, Option.map_map, Option.map_eq_some_iff] at h
 obtain ⟨s, hf, he⟩ := h
 simp only [Function.comp, Prod.mk.injEq] at he
 obtain ⟨rfl, rfl⟩ := he
 have hgood := hg.find hf
 refine ⟨hgood.1, fun hp => ?_⟩
 have hp' : s.p ds := by simpa only [fnOf, hf] using hp
 have := hgood.2 ds hp'
 have he : (fnOf N tab).lets f ds = ⟨s.z ds, s.b ds, s.n ds, s.c ds, fun i => strOf (s.c ds i), N.neg, N.ln, N.lm⟩ := by simp only [Ltr.lets, fnOf, hf]
 rw [he]
 exact sound_iff.2 this
def GoodS (P : Program) (G : World → Prop) (N : Nums) (f : Nat) (s : FnSpec) : Prop := Callable P f ∧ ∀ ds, s.p ds → SoundF true P G f ds (· = s.out N ds)
theorem GoodS.weak {f : Nat} {s : FnSpec} (h : GoodS P G N f s) : Good P G N f s := ⟨h.1, fun ds hp X w vs hG hX hd => h.2 ds hp X w vs hG ((shut_own.2 hX).weak (by simp)) hd⟩
def GoodsS (P : Program) (G : World → Prop) (N : Nums) : List (Nat × FnSpec) → Prop
 | [] => True
 | p :: ps => GoodS P G N p.1 p.2 ∧ GoodsS P G N ps
theorem GoodsS.find {f : Nat} {s : FnSpec} : ∀ {tab : List (Nat × FnSpec)}, GoodsS P G N tab → Ev.find f tab = some s → GoodS P G N f s
 | [], _, h => by cases h
 | p :: ps, hg, h => by
  simp only [Ev.find] at h
  split at h
  ·rename_i hf; subst hf; cases h; exact hg.1
  ·exact hg.2.find h
theorem mkCtxO_ok {ti : Nat → Option TI} {gt : Nat → Option (List D)} (hti : ∀ t i, ti t = some i → TI.ok P t i) (hgt : ∀ w, G w → ∀ g cs, gt g = some cs → GT w g cs) (hG : ∀ w w', Below w.heap.size w w' → G w → G w')
  {tab : List (Nat × FnSpec)} (hg : GoodsS P G N tab) {shs : List (Nat × Shape)} (hs : tab.map (fun p => (p.1, p.2.sh)) = shs) : (mkCtxO ti gt shs (fnOf N tab) std).ok P G := by
 refine ⟨hti, rfl, hG, hgt, fun f ds p d h => ?_, fun f x h => by cases h⟩
 subst hs
 simp only [mkCtxO, findS_map, Option.map_map, Option.map_eq_some_iff] at h
 obtain ⟨s, hf, he⟩ := h
 simp only [Function.comp, Prod.mk.injEq] at he
 obtain ⟨rfl, rfl⟩ := he
 have hgood := hg.find hf
 refine ⟨hgood.1, fun hp => ?_⟩
 have hp' : s.p ds := by simpa only [fnOf, hf] using hp
 have := hgood.2 ds hp'
 have he : (fnOf N tab).lets f ds = ⟨s.z ds, s.b ds, s.n ds, s.c ds, fun i => strOf (s.c ds i), N.neg, N.ln, N.lm⟩ := by simp only [Ltr.lets, fnOf, hf]
 rw [he]
 exact this
theorem goodS_of {ti : Nat → Option TI} {gt : Nat → Option (List D)} (hti : ∀ t i, ti t = some i → TI.ok P t i) (hgt : ∀ w, G w → ∀ g cs, gt g = some cs → GT w g cs) (hG : ∀ w w', Below w.heap.size w w' → G w → G w') (hm : P.follows .mixedOrders = true)
  (tab : List (Nat × FnSpec)) (shs : List (Nat × Shape)) (hs : tab.map (fun p => (p.1, p.2.sh)) = shs) (hg : GoodsS P G N tab)
  {f : Nat} {fn : Func} {c : Code} (hf : P.funcs[f]? = some fn) (hn : (fn.name == "runtime.NumGoroutine") = false) (hb : fn.body = some c) {s : FnSpec} {nt : Nat} (hnt : fn.ntmps = nt) {rs : List ResultVar} (hrs : fn.results.toList = rs)
  (h : ∀ ds, s.p ds → ∀ (F : Ltr) (A : Alg) (Q : Post), F = fnOf N tab → A = std → Q.R (s.out N ds) → ∃ fuel, ev (mkCtxO ti gt shs F A) fuel c (start nt ds) (ends (mkCtxO ti gt shs F A) rs Q.R)) : GoodS P G N f s := by
 refine ⟨⟨fn, c, hf, hn, hb⟩, fun ds hp => ?_⟩
 obtain ⟨fuel, hv⟩ := h ds hp (fnOf N tab) std ⟨(· = s.out N ds)⟩ rfl rfl rfl
 exact sound (mkCtxO_ok hti hgt hG hg hs) hm hf hb fuel (by rw [hnt, hrs]; exact hv)
theorem good_of {ti : Nat → Option TI} {gt : Nat → Option (List D)} (hti : ∀ t i, ti t = some i → TI.ok P t i) (hgt : ∀ w, G w → ∀ g cs, gt g = some cs → GT w g cs) (hG : ∀ w w', Below w.heap.size w w' → G w → G w') (hm : P.follows .mixedOrders = true)
  (tab : List (Nat × FnSpec)) (shs : List (Nat × Shape)) (hs : tab.map (fun p => (p.1, p.2.sh)) = shs) (hg : Goods P G N tab)
  {f : Nat} {fn : Func} {c : Code} (hf : P.funcs[f]? = some fn) (hn : (fn.name == "runtime.NumGoroutine") = false) (hb : fn.body = some c) {s : FnSpec} {nt : Nat} (hnt : fn.ntmps = nt) {rs : List ResultVar} (hrs : fn.results.toList = rs)
  (h : ∀ ds, s.p ds → ∀ (F : Ltr) (A : Alg) (Q : Post), F = fnOf N tab → A = std → Q.R (s.out N ds) → ∃ fuel, ev (mkCtx ti gt shs F A) fuel c (start nt ds) (ends (mkCtx ti gt shs F A) rs Q.R)) : Good P G N f s := by
 refine ⟨⟨fn, c, hf, hn, hb⟩, fun ds hp => ?_⟩
 obtain ⟨fuel, hv⟩ := h ds hp (fnOf N tab) std ⟨(· = s.out N ds)⟩ rfl rfl rfl
 exact sound_iff.1 <| sound (mkCtx_ok hti hgt hG hg hs) hm hf hb fuel (by rw [hnt, hrs]; exact hv)
end
end Go.Proofs.YtnjjfakjnkhhjaaGreatDoor.Ev
