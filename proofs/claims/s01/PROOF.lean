import PyProof.Rows.All
import Wide.All
import OpenK.AllK
import Wide.FinOn
import KE.GoesEnum
import KE.KDictKeyed
import HandS.Base
import HandS.Call
import HandS.List
import HandS.Comp
import HandS.Ends
import HandS.Dict
import HandS.Iter
import HandS.Exc
import HandS.ExcOwn
import Open.SpecLaws
import KE.OsGo
import HandS.ForSpec
import HandS.Walk
import HandS.TryMany
import PyWideLaws
import PyKp410
import PySem.Challenge.RW_rollgrind_s01_answers
import KE.BitLaws
set_option Elab.async false
set_option linter.all false
set_option maxRecDepth 100000
set_option maxHeartbeats 4000000
/-! rules that the layer lacks: an own error without a text; enumerate over a tuple; a method of a call's value; dicts with nested tuple keys -/
namespace RgA
open PySem PySem.Spec PyProof.Rows L2

/-! ### an own error, made without a text -/
section
variable {X : Cx} {C : Addr} {bmB : List Value} {B newId initId : String}
theorem pmk_own0 {x : Str} {p pos : Pos} (F : ExcBaseFacts B newId initId bmB) (q : PySem.W.excIn X.K C bmB newId = true) (gC : X.mg x = some (.ref C)) (kC : PySem.W.keepIn X.K (.ref C) = true) (r : Raises X (.ref C)) (hg : Gl X x)
    (hdb : (x == ("__debug__" : Str)) = false := by decide) : PMk X (.Call (.Name x p) [] [] pos) (fun _ H Q => Q (.ref C) none H) := by
  intro pins s σ H Q I h
  refine wpAny_Call_Name_kw (ld_glob I hg gC ?_ hdb)
  refine PySem.W.callWith_K0 I.kIn kC ?_
  obtain ⟨bm, N, nm, qn, bs, hdct, sn, sub, ab, col, dd, k0, k1, k2, k3, k5, mN, hC, hN, hni, T⟩ := exc_obj I.kIn q
  refine wpAny_call_exc_subT F T hC hN hni (fun h' e hm => ?_) (by show 0 ≤ sizeLine; exact Nat.zero_le _)
  exact mk_of I hm r h (I.hok.gone hm.new)
end

/-! ### enumerate over a tuple -/
set_option maxHeartbeats 4000000 in
theorem meets_enumerate_newT {v : Value} {o : Obj} {H : Heap → Prop} (B : Begins v o H) :
    Meets (Builtin.«enumerate.__new__» ⟨[.type "enumerate", v], []⟩) (fun _ R s => H s.heap ∧
      R (.ok (.ret (.ref (s.heap.push o).objs.size))) { s with heap := (s.heap.push o).push { cls := .type "enumerate", data := .fields #[.none, .bool false, .ref s.heap.objs.size, rawInt 0, .none, .none] } }) :=
  .of_wp fun prog w A R s h => by
    obtain ⟨hp, g, d, tk, os⟩ := s; obtain ⟨h1, h⟩ := h
    have hsub := sub_enumerate
    have q1 : ∀ {A' : Around} {E : Value → Shared → Prop} {Q : Value → Shared → Prop}, Q (.ref hp.objs.size) ⟨hp.push o, g, d, tk, os⟩ → wpAny (model prog w) A' (pyIter v) Q E ⟨hp, g, d, tk, os⟩ :=
      fun q => B.iter prog w _ _ ⟨hp, g, d, tk, os⟩ _ h1 q
    wp_walk using q1
    refine wpAny_stack_any fun st => wpAny_pure ?_
    split
    · rename_i c _ _ _ _ _
      cases (c == Value.type "enumerate")
      · wp_walk using q1
        exact ⟨_, rfl, h⟩
      · wp_walk using q1
        exact ⟨_, rfl, h⟩
    · wp_walk using q1
      exact ⟨_, rfl, h⟩
section
variable {prog : Program} {w : World} {A : Around} {E : Value → Shared → Prop} {s : Shared}
theorem enum_begins1 {v : Value} {o : Obj} {H : Heap → Prop} {Q : Value → Shared → Prop} (B : Begins v o H) (h1 : H s.heap)
    (h : ∀ h', IsEnum h' (s.heap.objs.size + 1) s.heap.objs.size 0 .none → h'.get? s.heap.objs.size = some o → h'.objs.size = s.heap.objs.size + 2 →
      (∀ b o, s.heap.get? b = some o → h'.get? b = some o) → Q (.ref (s.heap.objs.size + 1)) { s with heap := h' }) :
    wpAny (model prog w) A (call (.type "enumerate") [v]) Q E s := by
  refine callType_new F.called_enumerate (by decide) (F.typeCall_enumerate_1 _) (F.newCall_enumerate_1 _) (fun obj => F.args_object_init_2 obj _) F.entry_enumerate_new
    (meets_enumerate_newT B) ⟨h1, ?_⟩
  have hz : (s.heap.push o).objs.size = s.heap.objs.size + 1 := Heap.size_push ..
  show _ ∧ _
  rw [hz]
  have he : IsEnum ((s.heap.push o).push { cls := .type "enumerate", data := .fields #[.none, .bool false, .ref s.heap.objs.size, rawInt 0, .none, .none] }) (s.heap.objs.size + 1) s.heap.objs.size 0 .none := by
    have := Heap.get?_push_size (s.heap.push o) (o := { cls := .type "enumerate", data := .fields #[.none, .bool false, .ref s.heap.objs.size, rawInt 0, .none, .none] }) rfl
    rw [hz] at this; exact this
  refine ⟨⟨_, he, rfl⟩, h _ he (Heap.get?_push_of_some _ (Heap.get?_push_size _ B.free)) (by rw [Heap.size_push, hz]) fun b o x => Heap.get?_push_of_some _ (Heap.get?_push_of_some _ x)⟩
end
/-- the tuple at a, each item in a new pair -/
def ItU (K : PySem.W.Frag) (a : Addr) : It :=
  ⟨fun i H => ∃ (xs : List V) (x : V), SqT K H a xs ∧ xs[i]? = some x, fun i H v H' => ∃ T x, v = .ref T ∧ H T = none ∧ H' = upd H T (.tup [.int (i : Nat), x]) ∧ ∀ xs, SqT K H a xs → xs[i]? = some x, fun i H => ∃ xs : List V, SqT K H a xs ∧ xs.length ≤ i⟩
theorem turn_enumU {P : Program} {w : World} {K : PySem.W.Frag} {elts : List Expr} {kk : Nat} {tpos : Pos} (a e it : Addr) :
    Turn P w K (.Tuple elts kk tpos) (ItU K a) [e, it] e (fun i h => (∃ old, IsEnum h e it ((i : Nat) : Int) old) ∧ h.IsTupleIter it a i ∧ e ≠ it) where
  mem := by simp
  obj := fun i h st b hb => by
    obtain ⟨⟨old, he⟩, ⟨o, ho, hc, hd⟩, _⟩ := st
    have e' : b = e ∨ b = it := by simpa using hb
    rcases e' with z | z
    · rw [z]; exact ⟨_, he, fun v q => nomatch q⟩
    · rw [z]; exact ⟨o, ho, fun v q => by rw [hd] at q; cases q⟩
  keep := fun i h h' st k => let ⟨⟨old, he⟩, hi, hne⟩ := st; ⟨⟨old, k e (by simp) _ he⟩, hi.at fun o q => k it (by simp) o q, hne⟩
  item := by
    intro X hP hw hK hc i pins s σ H E I hf st hg
    subst hP hw hK
    obtain ⟨⟨old, he⟩, hit, hne⟩ := st
    obtain ⟨xs, x, hq, hx⟩ := hg
    obtain ⟨its, rv, p, hz⟩ := I.tuple hq
    obtain ⟨u, hu, ru⟩ := rv.get hx
    have hel : e < s.heap.objs.size := Heap.lt_size he
    have hil : it < s.heap.objs.size := by obtain ⟨_, q, _⟩ := hit; exact Heap.lt_size q
    have hai : a ≠ it := by
      rintro rfl
      obtain ⟨o1, q1, c1, d1⟩ := hit
      obtain ⟨o2, q2, c2, _⟩ := p
      rw [q1] at q2; cases q2
      rw [c1] at c2
      exact absurd c2 (by decide)
    have hae : e ≠ a := by
      rintro rfl
      obtain ⟨o2, q2, c2, _⟩ := p
      rw [he] at q2; cases q2
      have c3 : Value.type "enumerate" = Value.type "tuple" := c2
      injection c3 with c4
      exact absurd c4 (by decide)
    have D := Draws.tuple (prog := X.prog) (w := X.w) (A := X.A.in1) (I.ok.hd hc) it a hai its.toArray
    have hlt : i < its.toArray.size := by
      have := (List.getElem?_eq_some_iff.mp hu).1
      simpa using this
    refine wpAny_pyNext_enum_itemD D he ⟨hit, p⟩ hlt hne (by
      intro z
      have e' : e = it ∨ e = a := by simpa using z
      exact e'.elim hne hae) fun u' h' tk hP ho hst hT hsz hk => ?_
    have eu : u' = u := by
      have hP' : its.toArray[i]? = some u' := hP
      have hu' : its.toArray[i]? = some u := by simpa using hu
      rw [hu'] at hP'
      exact (Option.some.inj hP').symm
    subst eu
    refine ⟨_, rfl, wpAny_letOwnedTupleGo_enum (s := { s with heap := h', toks := tk + 1 }) ho fun h'' he' sb => ?_⟩
    have hT2 : h''.get? s.heap.objs.size = some { cls := .type "tuple", data := .seq #[.int i tk, u'] } := (sb.2 _ (Nat.ne_of_gt hel)).trans hT
    have new : ObjOk X.prog X.w (upd H s.heap.objs.size (.tup [.int (i : Nat), x])) h'' s.heap.objs.size (.tup [.int (i : Nat), x]) :=
      ⟨by show 2 ≤ sizeLine; decide, [.int i tk, u'], .cons ⟨_, rfl⟩ (.cons ru .nil), ⟨_, hT2, rfl, _, rfl⟩⟩
    have I1 : Inv X pins σ (upd H s.heap.objs.size (.tup [.int (i : Nat), x])) { s with heap := h'', toks := tk + 1 } :=
      I.turnedNew (ch := [e, it]) (fun b ob hb q => (sb.2 b (fun z => hb (by simp [z]))).trans (hk b ob (fun z => hb (by simp [z])) (fun z => hb (by simp [z])) q)) hf (Nat.le_refl _) new
    refine ⟨.ref s.heap.objs.size, _, I1, rfl, ⟨_, x, rfl, I.hok.fresh (Nat.le_refl _), rfl, fun ys hy => by rw [I.tuple_inj hy hq]; exact hx⟩, ⟨⟨u', ?_⟩, hst.1.at fun o q => (sb.2 it (Ne.symm hne)).trans q, hne⟩, fun b hb => ?_⟩
    · have e1 : ((i + 1 : Nat) : Int) = (i : Int) + 1 := by omega
      rw [e1]; exact he'
    · have hb' : b < s.heap.objs.size := by
        have e' : b = e ∨ b = it := by simpa using hb
        rcases e' with z | z
        · rw [z]; exact hel
        · rw [z]; exact hil
      rw [upd_ne (Nat.ne_of_lt hb')]
      exact (hf b hb).1
  done := by
    intro X hP hw hK hc i pins s σ H E I hf st hg
    subst hP hw hK
    obtain ⟨⟨old, he⟩, hit, hne⟩ := st
    obtain ⟨xs, hq, hx⟩ := hg
    obtain ⟨its, rv, p, hz⟩ := I.tuple hq
    obtain ⟨f0, f1, f2, f3, f4, f5⟩ := hf it (by simp)
    have hl := rv.length
    have hT : s.TypeIs (.ref e) "enumerate" := ⟨_, he, rfl⟩
    unfold pyNext
    refine wpAny_bind (wpAny_attempt (wpAny_callSpecial?_slot (name := Str.ofString "__next__") hT F.slot_enumerate_next
      (wpAny_call_entry F.slot_enumerate_next hT F.entry_enumerate_next ?_ (F.args_enumerate_next_1 _))))
    show wpAny _ _ (field (.ref e) 2 >>= _) _ _ _
    refine wpAny_bind (wpAny_field he rfl (x := .ref it) rfl ?_)
    refine wpAny_bind (wpAny_nextOf_tuple_end (I.ok.hd hc) hit (show s.heap.IsTuple a its.toArray from p) (by simp; omega) fun h' x he' hx' => ?_)
    obtain ⟨o, ho, hc'⟩ := hx'
    refine wpAny_bind (wpAny_isInstance (T := "StopIteration") (b := true) ⟨o, ho, hc'⟩ isSubtype_stop ?_)
    exact wpAny_pure ⟨rfl, I.turned (t' := s.toks) (fun b o hb q => he' b o hb q) f0 f1 f3 f4 f5⟩
  self := fun A i s Q E st h => let ⟨⟨_, he⟩, _⟩ := st; wpAny_pyIter_enum he h
def iEnumU (K : PySem.W.Frag) (ta : TA) : TI := fun σ H R => ta σ H fun vs H1 => ∃ a xs, vs = [.ref a] ∧ SqT K H1 a xs ∧ R (ItU K a) H1
theorem pi_enumU {X : Cx} {e : Expr} {ta : TA} {p pos tpos : Pos} {elts : List Expr} {kk : Nat} (hg : Gl X "enumerate") (hm : X.mg "enumerate" = none) (ha : PA X [e] ta) (hs : starEach [e] X.env = [(false, eval e X.env)] := by rfl) :
    PI X (.Tuple elts kk tpos) (.Call (.Name "enumerate" p) [e] [] pos) (iEnumU X.K ta) := by
  refine ⟨fun pins s σ H R I h => ?_⟩
  refine Call_ (ld_blt I hg hm boot_enumerate (PyProof.Rows.callWith_type1 (thn (ha.run pos pins s σ H _ I h) fun us s1 ⟨vs, H1, I1, r1, q1⟩ => ?_) hs rfl))
  obtain ⟨a, xs, ex, hq, q⟩ := q1
  subst ex
  cases r1 with
  | cons r rr =>
    cases rr
    cases r
    obtain ⟨its, rv, p', hz⟩ := I1.tuple hq
    refine enum_begins1 (begins_tuple a its.toArray) (show s1.heap.IsTuple a its.toArray from p') fun h' he hit hsz hk => wpAny_pyIter_enum he ?_
    have I2 : Inv X pins σ H1 { s1 with heap := h' } := I1.kept (t' := s1.toks) hk
    refine ⟨s1.heap.objs.size + 1, [s1.heap.objs.size + 1, s1.heap.objs.size], _, _, H1, rfl, I2, turn_enumU a (s1.heap.objs.size + 1) s1.heap.objs.size, ⟨⟨.none, he⟩, ⟨_, hit, rfl, rfl⟩, Nat.succ_ne_self _⟩, fun b hb => ?_, q⟩
    have e' : b = s1.heap.objs.size + 1 ∨ b = s1.heap.objs.size := by simpa using hb
    have hle : s1.heap.objs.size ≤ b := by
      rcases e' with z | z
      · rw [z]; exact Nat.le_add_right _ _
      · rw [z]; exact Nat.le_refl _
    exact I1.fpOk hle (I1.hok.fresh hle)
end RgA

/-! a dict whose keys are pairs: a tuple of whole numbers, and a whole number -/
namespace RgB
open PySem PySem.Spec PyProof.Rows L2

abbrev NK := List Int × Int
def nk (k : NK) : NestedKey := .tup [.tup (k.1.map .num), .num k.2]
theorem num_inj : ∀ {a b : List Int}, a.map NestedKey.num = b.map NestedKey.num → a = b
  | [], [], _ => rfl
  | x :: a, y :: b, h => by
    rw [List.map_cons, List.map_cons] at h
    injection h with h1 h2
    injection h1 with h3
    rw [h3, num_inj h2]
  | [], _ :: _, h => by cases h
  | _ :: _, [], h => by cases h
theorem nk_inj {a b : NK} (h : nk a = nk b) : a = b := by
  unfold nk at h
  injection h with h
  injection h with h1 h2
  injection h1 with h1
  injection h2 with h2 _
  injection h2 with h2
  obtain ⟨x, y⟩ := a
  obtain ⟨x', y'⟩ := b
  have e1 : x = x' := num_inj h1
  have e2 : y = y' := h2
  rw [e1, e2]
theorem nk_iff {a b : NK} : nk a = nk b ↔ a = b := ⟨nk_inj, fun e => by rw [e]⟩
theorem depth_nums : ∀ l : List Int, NestedKey.depthAll (l.map .num) = 0
  | [] => rfl
  | x :: l => by
    show max (NestedKey.depth (.num x)) (NestedKey.depthAll (l.map .num)) = 0
    rw [depth_nums l]
    rfl
theorem depth_nk (k : NK) : (nk k).depth = 2 := by
  show max (NestedKey.depthAll (k.1.map .num) + 1) (max (NestedKey.depth (.num k.2)) 0) + 1 = 2
  rw [depth_nums]
  rfl
/-- the key k stands at b -/
def KeyAt (H : Hp) (k : NK) (b : Addr) : Prop := ∃ g, H b = some (.tup [.ref g, .int k.2]) ∧ H g = some (.tup (k.1.map V.int))
theorem nested_all {h : Heap} : ∀ {l : List Int} {us : List Value}, Vals (l.map V.int) us → NestedAll h (l.map .num) us
  | [], _, .nil => .nil
  | x :: l, _, .cons r t => by
    obtain ⟨tk, rfl⟩ := r
    exact .cons (.int x tk) (nested_all t)
theorem key_is {P : Program} {w : World} {H : Hp} {h : Heap} {k : NK} {b : Addr} (ok : HOk P w H h) (q : KeyAt H k b) : (nestedKind P w).is h (nk k) b := by
  obtain ⟨g, e1, e2⟩ := q
  obtain ⟨_, its, r, o, h1, h2, n, h3⟩ := (show ObjOk P w H h b (.tup [.ref g, .int k.2]) from ok b _ e1)
  obtain ⟨_, its2, r2, o2, g1, g2, n2, g3⟩ := (show ObjOk P w H h g (.tup (k.1.map V.int)) from ok g _ e2)
  refine ⟨.tup h1 h2 h3 ?_, by rw [depth_nk]; decide⟩
  cases r with
  | cons ra rr =>
    cases rr with
    | cons rb rr =>
      cases rr
      cases ra
      obtain ⟨tk, rfl⟩ := rb
      exact .cons (.tup g1 g2 g3 (by simpa using nested_all r2)) (.cons (.int k.2 tk) .nil)

abbrev NE := NK × Addr × V
abbrev NR := NestedKey × Addr × Value
def PN (p : NE) (q : NR) : Prop := nk p.1 = q.1 ∧ p.2.1 = q.2.1 ∧ RelV p.2.2 q.2.2
def hasN (kvs : List NE) (k : NK) : Bool := kvs.any fun p => decide (p.1 = k)
def putN (kvs : List NE) (k : NK) (b : Addr) (v : V) : List NE := if hasN kvs k = true then kvs.map (fun p => if p.1 = k then (p.1, p.2.1, v) else p) else kvs ++ [(k, b, v)]
theorem pn_has {kvs : List NE} {xs : List NR} (r : Paired PN kvs xs) (k : NK) : (atKey xs (nk k)).isSome = hasN kvs k := by
  induction r with
  | nil => rfl
  | @cons p q ps qs hq t ih =>
    unfold atKey hasN at ih ⊢
    rw [List.find?_cons, List.any_cons]
    by_cases e : p.1 = k
    · have e2 : q.1 = nk k := by rw [← hq.1, e]
      rw [decide_eq_true e, decide_eq_true e2]
      rfl
    · have e2 : ¬ q.1 = nk k := fun z => e (nk_inj (hq.1.trans z))
      rw [decide_eq_false e, decide_eq_false e2]
      simpa using ih
theorem pn_at {kvs : List NE} {xs : List NR} (r : Paired PN kvs xs) (k : NK) {z : Addr × Value} (h : atKey xs (nk k) = some z) : ∃ p ∈ kvs, p.1 = k ∧ RelV p.2.2 z.2 := by
  induction r with
  | nil => cases h
  | @cons p q ps qs hq t ih =>
    unfold atKey at ih h
    rw [List.find?_cons] at h
    by_cases e : q.1 = nk k
    · rw [decide_eq_true e] at h
      have e3 : q.2 = z := Option.some.inj h
      subst e3
      exact ⟨p, List.mem_cons_self, nk_inj (hq.1.trans e), hq.2.2⟩
    · rw [decide_eq_false e] at h
      obtain ⟨p', m, z1⟩ := ih h
      exact ⟨p', List.mem_cons_of_mem _ m, z1⟩
theorem pn_map {kvs : List NE} {xs : List NR} (r : Paired PN kvs xs) (k : NK) {v : V} {u : Value} (rv : RelV v u) :
    Paired PN (kvs.map (fun p => if p.1 = k then (p.1, p.2.1, v) else p)) (xs.map (putAt (nk k) u)) := by
  induction r with
  | nil => exact .nil
  | @cons p q ps qs hq t ih =>
    rw [List.map_cons, List.map_cons]
    refine .cons ?_ ih
    unfold putAt
    by_cases e : p.1 = k
    · have e2 : q.1 = nk k := by rw [← hq.1, e]
      rw [if_pos e, if_pos e2]
      exact ⟨hq.1, hq.2.1, rv⟩
    · have e2 : ¬ q.1 = nk k := fun z => e (nk_inj (hq.1.trans z))
      rw [if_neg e, if_neg e2]
      exact hq
theorem pn_snoc {kvs : List NE} {xs : List NR} {p : NE} {q : NR} (r : Paired PN kvs xs) (h : PN p q) : Paired PN (kvs ++ [p]) (xs ++ [q]) := by
  induction r with
  | nil => exact .cons h .nil
  | cons hq t ih => exact .cons hq ih
theorem pn_put {kvs : List NE} {xs : List NR} (r : Paired PN kvs xs) (k : NK) (b : Addr) {v : V} {u : Value} (rv : RelV v u) : Paired PN (putN kvs k b v) (storedH xs (nk k) b u) := by
  unfold putN storedH
  rw [pn_has r]
  by_cases e : hasN kvs k = true
  · rw [if_pos e, if_pos e]
    exact pn_map r k rv
  · rw [if_neg e, if_neg e]
    exact pn_snoc r ⟨rfl, rfl, rv⟩
theorem putN_len (kvs : List NE) (k : NK) (b : Addr) (v : V) : (putN kvs k b v).length ≤ kvs.length + 1 := by
  unfold putN
  split
  · rw [List.length_map]; omega
  · rw [List.length_append]; exact Nat.le_refl _
/-- an entry behind a store: an old one at another key, or one with the new value at a key's place that was there or is b -/
theorem putN_mem {kvs : List NE} {k : NK} {b : Addr} {v : V} {p : NE} (h : p ∈ putN kvs k b v) : (p ∈ kvs ∧ p.1 ≠ k) ∨ (p.1 = k ∧ p.2.2 = v ∧ (p.2.1 = b ∨ ∃ q ∈ kvs, q.1 = k ∧ q.2.1 = p.2.1)) := by
  unfold putN at h
  split at h
  · obtain ⟨q, m, e⟩ := List.mem_map.mp h
    by_cases c : q.1 = k
    · rw [if_pos c] at e
      subst e
      exact .inr ⟨c, rfl, .inr ⟨q, m, c, rfl⟩⟩
    · rw [if_neg c] at e
      subst e
      exact .inl ⟨m, c⟩
  · rename_i hn
    rcases List.mem_append.mp h with m | m
    · refine .inl ⟨m, fun c => hn ?_⟩
      exact List.any_eq_true.mpr ⟨p, m, decide_eq_true c⟩
    · have e := List.mem_singleton.mp m
      subst e
      exact .inr ⟨rfl, rfl, .inl rfl⟩
theorem putN_has (kvs : List NE) (k : NK) (b : Addr) (v : V) : hasN (putN kvs k b v) k = true := by
  unfold putN
  split
  · rename_i h
    obtain ⟨q, m, e⟩ := List.any_eq_true.mp h
    have c : q.1 = k := of_decide_eq_true e
    refine List.any_eq_true.mpr ⟨(q.1, q.2.1, v), List.mem_map.mpr ⟨q, m, by rw [if_pos c]⟩, decide_eq_true c⟩
  · exact List.any_eq_true.mpr ⟨(k, b, v), List.mem_append_right _ List.mem_cons_self, decide_eq_true rfl⟩

/-- what is true of the dict's own object -/
def Raw (P : Program) (w : World) (d : Addr) (kvs : List NE) (h : Heap) : Prop := kvs.length ≤ sizeLine ∧ (d == sysModules) = false ∧ ∃ xs : List NR, Paired PN kvs xs ∧
  ∃ o es ep, h.get? d = some o ∧ o.ExactDict ∧ o.data = .dict es ep ∧ es.toList = xs.map (entryOfKey (nestedKind P w)) ∧ (xs.map (·.1)).Nodup
/-- such a dict at d -/
def DN (P : Program) (w : World) (d : Addr) (kvs : List NE) : HO := .ext (Raw P w d kvs)
theorem Raw.stays {P : Program} {w : World} {d : Addr} {kvs : List NE} : ∀ h1 h2 : Heap, Raw P w d kvs h1 → (∀ o, h1.get? d = some o → h2.get? d = some o) → Raw P w d kvs h2 :=
  fun h1 h2 ⟨a, b, xs, r, o, es, ep, e, c⟩ k => ⟨a, b, xs, r, o, es, ep, k o e, c⟩
theorem dn_mk {P : Program} {w : World} {d : Addr} {kvs : List NE} {H : Hp} {h : Heap} (x : Raw P w d kvs h) : ObjOk P w H h d (DN P w d kvs) := by
  obtain ⟨_, _, xs, r, o, es, ep, e, c⟩ := id x
  exact ⟨x, ⟨o, e⟩, Raw.stays⟩
/-- the dict and its keys -/
structure NAt (P : Program) (w : World) (H : Hp) (d : Addr) (kvs : List NE) : Prop where
  at_ : H d = some (DN P w d kvs)
  keys : ∀ p ∈ kvs, KeyAt H p.1 p.2.1
theorem dn_of {P : Program} {w : World} {H : Hp} {h : Heap} {d : Addr} {kvs : List NE} (ok : HOk P w H h) (n : NAt P w H d kvs) : kvs.length ≤ sizeLine ∧ (d == sysModules) = false ∧
    ∃ xs : List NR, Paired PN kvs xs ∧ h.DictOfH (nestedKind P w) d xs := by
  obtain ⟨⟨z, y, xs, r, o, es, ep, h1, h2, h3, h4, h5⟩, _⟩ := (show ObjOk P w H h d (DN P w d kvs) from ok d _ n.at_)
  refine ⟨z, y, xs, r, o, es, ep, h1, h2, h3, h4, ?_, h5⟩
  have all : ∀ {l : List NE} {m : List NR}, Paired PN l m → (∀ p ∈ l, KeyAt H p.1 p.2.1) → ∀ x ∈ m, (nestedKind P w).is h x.1 x.2.1 := by
    intro l m q
    induction q with
    | nil => intro _ x hx; exact nomatch hx
    | @cons p q ps qs hq t ih =>
      intro hk x hx
      rcases List.mem_cons.mp hx with e | hx
      · subst e
        rw [← hq.1, ← hq.2.1]
        exact key_is ok (hk p List.mem_cons_self)
      · exact ih (fun p hp => hk p (List.mem_cons_of_mem _ hp)) x hx
  exact all r n.keys
section
variable {X : Cx} {pins : List (Addr × Obj)} {σ : L2.St} {H : Hp} {s : Shared} {a b : Addr} {k : NK} {kvs : List NE} {A : Around} {E : Value → Shared → Prop}
theorem room_of (hu : A.units + 64 < cLine) {P : Program} {w : World} : (nestedKind P w).room A.in1 := by
  show A.units + 1 + 8 < cLine
  omega
theorem n_getItem {Q : Value → Shared → Prop} (hu : A.units + 64 < cLine) (I : Inv X pins σ H s) (n : NAt X.prog X.w H a kvs) (hk : KeyAt H k b) (hh : hasN kvs k = true)
    (h : ∀ p ∈ kvs, p.1 = k → ∀ w' s', Inv X pins σ H s' → RelV p.2.2 w' → Q w' s') : wpAny (model X.prog X.w) A (getItem (.ref a) (.ref b)) Q E s := by
  obtain ⟨z, hd, xs, rel, dd⟩ := dn_of I.hok n
  have q := pn_has rel k
  rw [hh] at q
  obtain ⟨p, hp⟩ := Option.isSome_iff_exists.mp q
  obtain ⟨e, m, ek, rv⟩ := pn_at rel k hp
  exact wpAny_getItem_heap (room_of hu) (key_is I.hok hk) dd hp (h e m ek _ _ (I.tok _) rv)
theorem n_notIn {Q : Value → Shared → Prop} (hu : A.units + 64 < cLine) (I : Inv X pins σ H s) (n : NAt X.prog X.w H a kvs) (hk : KeyAt H k b)
    (h : ∀ s', Inv X pins σ H s' → Q (.bool (!hasN kvs k)) s') : wpAny (model X.prog X.w) A (compareOp .NotIn (.ref b) (.ref a)) Q E s := by
  obtain ⟨z, hd, xs, rel, dd⟩ := dn_of I.hok n
  show wpAny _ _ (do return .bool (!(← contains (.ref a) (.ref b)))) Q E s
  refine wpAny_bind (wpAny_contains_heap (room_of hu) (key_is I.hok hk) hd dd (wpAny_pure ?_))
  rw [pn_has rel k]
  exact h _ (I.tok _)
theorem n_setItem {v : V} {r : Value} {Q : Unit → Shared → Prop} (hu : A.units + 64 < cLine) (I : Inv X pins σ H s) (n : NAt X.prog X.w H a kvs) (hk : KeyAt H k b) (hl : kvs.length < sizeLine) (rv : RelV v r)
    (h : ∀ s', Inv X pins σ (upd H a (DN X.prog X.w a (putN kvs k b v))) s' → Q () s') : wpAny (model X.prog X.w) A (setItem (.ref a) (.ref b) r) Q E s := by
  obtain ⟨z, hd, xs, rel, dd⟩ := dn_of I.hok n
  have hz : xs.length ≤ sizeLine := by rw [← Paired.length rel]; exact z
  have hl2 : (putN kvs k b v).length ≤ sizeLine := by have := putN_len kvs k b v; omega
  refine wpAny_setItem_heap (hsz := hz) (room_of hu) (key_is I.hok hk) dd fun h' dd' hs => h _ ?_
  obtain ⟨q, es, ep, hq, h2, h3, h4, _, h5⟩ := dd'
  exact d_write I (by rw [n.at_]; exact True.intro) hs ⟨q, hq⟩ (dn_mk ⟨hl2, hd, _, pn_put rel k b rv, q, es, ep, hq, h2, h3, h4, h5⟩)
theorem n_typeIs (I : Inv X pins σ H s) (n : NAt X.prog X.w H a kvs) : s.TypeIs (.ref a) "dict" := by
  obtain ⟨_, _, xs, _, dd⟩ := dn_of I.hok n
  exact dd.typeIs
end

/-- d[y] -/
def tNGet (P : Program) (w : World) (td ty : TE) : TE := fun σ H Q => td σ H fun x H1 => ty σ H1 fun y H2 => ∃ a b kvs k, x = .ref a ∧ y = .ref b ∧ NAt P w H2 a kvs ∧ KeyAt H2 k b ∧ hasN kvs k = true ∧ ∀ p ∈ kvs, p.1 = k → Q p.2.2 H2
/-- y not in d -/
def tNNotIn (P : Program) (w : World) (ty td : TE) : TE := fun σ H Q => ty σ H fun y H1 => td σ H1 fun x H2 => ∃ a b kvs k, x = .ref a ∧ y = .ref b ∧ NAt P w H2 a kvs ∧ KeyAt H2 k b ∧ Q (.bl (!hasN kvs k)) H2
/-- d[y] = v -/
def sNPut (P : Program) (w : World) (td ty tv : TE) : TS := fun D σ H => tv σ H fun v H1 => td σ H1 fun x H2 => ty σ H2 fun y H3 => ∃ a b kvs k, x = .ref a ∧ y = .ref b ∧ NAt P w H3 a kvs ∧ KeyAt H3 k b ∧ kvs.length < sizeLine ∧
  D.nx σ (upd H3 a (DN P w a (putN kvs k b v)))
section
variable {X : Cx} {o i e value : Expr} {pos pos' tpos : Pos} {td ty tv : TE}
theorem pe_nget (hu : X.A.units + 64 < cLine) (ho : PE X o td) (hi : PE X i ty) (hs : NoSl i) : PE X (.Subscript o i pos) (tNGet X.prog X.w td ty) := by
  refine ⟨fun pins s σ H Q I h => ?_⟩
  refine subD_of PySem.F.slot_dict_getitem.lookup hs (thn (ho.run pins s σ H _ I h) fun u s1 ⟨x, H1, I1, rx, q1⟩ => thn (hi.run pins s1 σ H1 _ I1 q1) fun iv s2 ⟨y, H2, I2, ry, a, b, kvs, k, ex, ey, n, hk, hh, q2⟩ => ?_)
  subst ex ey
  obtain rfl : u = Value.ref a := rx
  obtain rfl : iv = Value.ref b := ry
  exact ⟨n_typeIs I2 n, n_getItem hu I2 n hk hh fun p m ek w' s3 I3 rw' => ⟨p.2.2, H2, I3, rw', q2 p m ek⟩⟩
theorem pc_nnotin (hu : X.A.units + 64 < cLine) (hi : PE X i ty) (ho : PE X o td) : PC X .NotIn i o (tNNotIn X.prog X.w ty td) := by
  refine ⟨fun pins s σ H Q I h => ?_⟩
  refine thn (hi.run pins s σ H _ I h) fun iv s1 ⟨y, H1, I1, ry, q1⟩ => thn (ho.run pins s1 σ H1 _ I1 q1) fun u s2 ⟨x, H2, I2, rx, a, b, kvs, k, ex, ey, n, hk, q2⟩ => ?_
  subst ex ey
  obtain rfl : u = Value.ref a := rx
  obtain rfl : iv = Value.ref b := ry
  exact n_notIn hu I2 n hk fun s3 I3 => ⟨.bl (!hasN kvs k), H2, I3, rfl, q2⟩
theorem ps_nput (hu : X.A.units + 64 < cLine) (ho : PE X o td) (hi : PE X i ty) (hv : PE X value tv) (hs : swapsWith value (some (.Subscript o i pos')) pos.line X.env = pure false) :
    PS X (.Assign [.Subscript o i pos'] value pos) (sNPut X.prog X.w td ty tv) := by
  refine ⟨fun pins s σ H D I h => ?_⟩
  refine wpAny_Assign_Subscript (thn (hv.run pins s σ H _ I h) fun r s1 ⟨v, H1, I1, rv, q1⟩ => thn (ho.run pins s1 σ H1 _ I1 q1) fun u s2 ⟨x, H2, I2, rx, q2⟩ => thn (hi.run pins s2 σ H2 _ I2 q2) fun iv s3 ⟨y, H3, I3, ry, a, b, kvs, k, ex, ey, n, hk, hl, q3⟩ => ?_) hs
  subst ex ey
  obtain rfl : u = Value.ref a := rx
  obtain rfl : iv = Value.ref b := ry
  exact n_setItem hu I3 n hk hl rv fun s4 I4 => ⟨σ, _, I4, q3⟩
end
/-- {}, to be such a dict -/
def tNNew (P : Program) (w : World) : TE := fun _ H Q => ∀ p, H p = none → Q (.ref p) (upd H p (DN P w p []))
section
variable {X : Cx} {pos : Pos}
theorem pe_nnew : PE X (.Dict [] [] pos) (tNNew X.prog X.w) := ⟨fun pins s σ H Q I h =>
  wpAny_Dict_empty ⟨.ref s.heap.objs.size, _, I.laid (a := s.heap.objs.size) (o := DN X.prog X.w s.heap.objs.size []) (t' := s.toks) (fun _ _ q => Heap.get?_push_of_some _ q) (Nat.le_refl _)
    (dn_mk ⟨Nat.zero_le _, beq_eq_false_iff_ne.mpr (Ne.symm (Nat.ne_of_lt I.big)), [], .nil, _, #[], 0, Heap.get?_push_size _ rfl, ⟨rfl, rfl, rfl⟩, rfl, rfl, List.nodup_nil⟩), rfl, h _ (I.hok.fresh (Nat.le_refl _))⟩⟩
end
end RgB

/-! short forms of calls, and words on heaps -/
namespace RgC
open PySem PySem.Spec PyProof.Rows L2

/-- a def that stands, called by its name -/
def Cal (P : Program) (w : World) (K : PySem.W.Frag) (mg : Str → Option Value) (base : Heap) (CX : CXT) (k : Nat) (x : Str) (ps : List Str) (sp : Sp) : Prop :=
  ∃ (f : Addr) (fd : FuncData), FnOk P w K mg base CX k f fd ps sp ∧ Binds K fd ps [] ∧ mg x = some (.ref f) ∧ PySem.W.keepIn K (.ref f) = true
/-- a method of the class at C -/
def Met (P : Program) (w : World) (K : PySem.W.Frag) (mg : Str → Option Value) (base : Heap) (k : Nat) (C : Addr) (m : Str) (ps : List Str) (sp : Sp) : Prop :=
  ∃ (f : Addr) (fd : FuncData), FnOk P w K mg base CX0 k f fd ps sp ∧ Binds K fd ps [] ∧ Meth K C m f ∧ Cls K C
/-- a class that is made by its __init__ -/
def Mak (P : Program) (w : World) (K : PySem.W.Frag) (mg : Str → Option Value) (base : Heap) (k : Nat) (x : Str) (C : Addr) (ps : List Str) (sp : Sp) : Prop :=
  ∃ (f : Addr) (fd : FuncData), FnOk P w K mg base CX0 k f fd ps sp ∧ Binds K fd ps [] ∧ Mk K C f ∧ mg x = some (.ref C)
section
variable {P : Program} {w : World} {K : PySem.W.Frag} {mg : Str → Option Value} {base : Heap} {CX : CXT} {j k : Nat} {x m : Str} {C : Addr} {ps : List Str} {sp sp' : Sp}
theorem Cal.mono (c : Cal P w K mg base CX j x ps sp) (h : j ≤ k) : Cal P w K mg base CX k x ps sp := let ⟨f, fd, F, r⟩ := c; ⟨f, fd, F.mono h, r⟩
theorem Cal.imp (c : Cal P w K mg base CX k x ps sp) (h : ∀ vs H Q E, sp' vs H Q E → sp vs H Q E) : Cal P w K mg base CX k x ps sp' := let ⟨f, fd, F, r⟩ := c; ⟨f, fd, F.imp h, r⟩
theorem Met.mono (c : Met P w K mg base j C m ps sp) (h : j ≤ k) : Met P w K mg base k C m ps sp := let ⟨f, fd, F, r⟩ := c; ⟨f, fd, F.mono h, r⟩
theorem Mak.mono (c : Mak P w K mg base j x C ps sp) (h : j ≤ k) : Mak P w K mg base k x C ps sp := let ⟨f, fd, F, r⟩ := c; ⟨f, fd, F.mono h, r⟩
end
section
variable {X : Cx} {k : Nat} {x m : Str} {C : Addr} {ps : List Str} {sp : Sp} {p pos apos : Pos} {e o : Expr} {es : List Expr} {ta : TE} {t : TA} {E : XK} {W : WX}
def tCl (sp : Sp) (E : XK) (t : TA) : TE := fun σ H Q => t σ H fun vs H1 => sp vs H1 Q E
/-- f(e, ..), nothing raised -/
theorem pe_c (c : Cal X.prog X.w X.K X.mg X.base CX0 k x ps sp) (hr : Room k X.A) (hg : Gl X x) (ha : PA X (e :: es) t) (hdb : (x == ("__debug__" : Str)) = false := by decide) (he : starEach (e :: es) X.env = (false, eval e X.env) :: starEach es X.env := by rfl) (hpl : (backTo pos (starEach es X.env)).any (·.1) = false := by rfl) :
    PE X (.Call (.Name x p) (e :: es) [] pos) (tCl sp E0 t) := by
  obtain ⟨f, fd, F, b, gm, kp⟩ := c
  exact pe_callS (E := fun _ => E0) F hr hg gm kp b (fun _ _ _ _ _ _ _ h => h.elim) ha hdb he hpl
/-- f(e, ..) that may raise, in a def that may -/
theorem pe_cE (tk : Takes X (fun cls d _ H => E cls d H)) (c : Cal X.prog X.w X.K X.mg X.base (L2.CX X.prog X.w) k x ps sp) (hr : Room k X.A) (hg : Gl X x) (ha : PA X (e :: es) t) (hdb : (x == ("__debug__" : Str)) = false := by decide) (he : starEach (e :: es) X.env = (false, eval e X.env) :: starEach es X.env := by rfl) (hpl : (backTo pos (starEach es X.env)).any (·.1) = false := by rfl) :
    PE X (.Call (.Name x p) (e :: es) [] pos) (tCl sp E t) := by
  obtain ⟨f, fd, F, b, gm, kp⟩ := c
  exact pe_callS (E := fun _ => E) F hr hg gm kp b (fun σ => passAt tk σ) ha hdb he hpl
/-- .. in a try -/
theorem pe_cS (tk : Takes X W) (c : Cal X.prog X.w X.K X.mg X.base (L2.CX X.prog X.w) k x ps sp) (hr : Room k X.A) (hg : Gl X x) (ha : PA X (e :: es) t) (hdb : (x == ("__debug__" : Str)) = false := by decide) (he : starEach (e :: es) X.env = (false, eval e X.env) :: starEach es X.env := by rfl) (hpl : (backTo pos (starEach es X.env)).any (·.1) = false := by rfl) :
    PE X (.Call (.Name x p) (e :: es) [] pos) (tCallS sp (WE W) t) := by
  obtain ⟨f, fd, F, b, gm, kp⟩ := c
  exact pe_callS F hr hg gm kp b (fun σ => passAt tk σ) ha hdb he hpl
/-- o.m(e, ..) -/
def tMt (C : Addr) (m : Str) (sp : Sp) (ta : TE) (t : TA) : TE := fun σ H Q => ta σ H fun x H1 => ∃ a dx fs, x = .ref a ∧ H1 a = some (.ins C dx fs) ∧ fs.lookup m = none ∧ t σ H1 fun vs H2 => sp (x :: vs) H2 Q E0
theorem pe_m {pl : Sem Bool} (c : Met X.prog X.w X.K X.mg X.base k C m ps sp) (hr : Room k X.A) (he : PE X o ta) (ha : PA X (e :: es) t)
    (hst : starEach (e :: es) X.env = (false, eval e X.env) :: starEach es X.env := by rfl) (hpl : (backTo pos (starEach es X.env)).any (·.1) = false := by rfl)
    (ht : eval (.Call (.Attribute o m apos) (e :: es) [] pos) X.env = (do
      let ov ← eval o X.env
      standAt apos.atName
      let (f, first) ← holding [ov] (getMethod ov m pl)
      callWith pos f first (backTo pos (starEach (e :: es) X.env)) (backToKw pos (keywordEach [] X.env))) := by rfl) :
    PE X (.Call (.Attribute o m apos) (e :: es) [] pos) (tMt C m sp ta t) := by
  obtain ⟨f, fd, F, b, hm, cl⟩ := c
  refine ⟨fun pins s σ H Q I h => ?_⟩
  refine PySem.W.methodCall_KW (pl := pl) (thn (he.run pins s σ H _ I h) fun u s1 ⟨x, H1, I1, rx, a, dx, fs, ex, ea, l, q⟩ => ?_) ht
  subst ex
  obtain rfl : u = Value.ref a := rx
  refine getmeth_ok I1 ea cl hm l ?_
  refine PySem.W.callWith_K (first := [.ref a]) (h₀ := X.base) I.ok.mod.kin hm.kp (thn (ha.run pos pins s1 σ H1 _ I1 q) fun us s2 ⟨vs, H2, I2, r, q2⟩ => ⟨I2.kIn, ?_⟩) hst hpl
  exact run_fnS (E := fun _ => E0) (us := .ref a :: us) (vs := .ref a :: vs) F hr b (fun _ _ _ _ _ _ h => h.elim) I2 (.cons rfl r) q2
/-- C(e, ..) -/
def tMk (C : Addr) (sp : Sp) (t : TA) : TE := fun σ H Q => t σ H fun vs H1 => ∀ x dx, H1 x = none → H1 dx = none → dx ≠ x →
  sp (.ref x :: vs) (upd (upd H1 dx (.own x)) x (.ins C dx [])) (fun v H2 => v = .non ∧ Q (.ref x) H2) E0
theorem pe_mk (c : Mak X.prog X.w X.K X.mg X.base k x C ps sp) (hr : Room (k + 1) X.A) (hg : Gl X x) (ha : PA X (e :: es) t) (hdb : (x == ("__debug__" : Str)) = false := by decide) (he : starEach (e :: es) X.env = (false, eval e X.env) :: starEach es X.env := by rfl) (hpl : (backTo pos (starEach es X.env)).any (·.1) = false := by rfl) :
    PE X (.Call (.Name x p) (e :: es) [] pos) (tMk C sp t) := by
  obtain ⟨f, fd, F, b, M, gm⟩ := c
  have h := pe_make (p := p) (pos := pos) M F hr hg gm b (dvs := []) .nil pass0 ha hdb he hpl
  refine ⟨fun pins s σ H Q I q => h.run pins s σ H Q I ?_⟩
  have e : tMake C sp [] E0 t = tMk C sp t := by
    unfold tMake tMk
    simp only [List.append_nil]
  rw [e]
  exact q
theorem pe_mk0 (c : Mak X.prog X.w X.K X.mg X.base k x C ps sp) (hr : Room (k + 1) X.A) (hg : Gl X x) (hdb : (x == ("__debug__" : Str)) = false := by decide) :
    PE X (.Call (.Name x p) [] [] pos) (tMk C sp tNil) := by
  obtain ⟨f, fd, F, b, M, gm⟩ := c
  have h := pe_make0 (p := p) (pos := pos) M F hr hg gm b (dvs := []) .nil pass0 hdb
  refine ⟨fun pins s σ H Q I q => h.run pins s σ H Q I ?_⟩
  have e : tMake C sp [] E0 tNil = tMk C sp tNil := by
    unfold tMake tMk
    simp only [List.append_nil]
  rw [e]
  exact q
/-- a module's number -/
theorem pe_k {v : Int} (hg : Gl X x) (h : ∃ t, X.mg x = some (.int v t)) (hd : (x == ("__debug__" : Str)) = false := by decide) : PE X (.Name x pos) (tC (.int v)) := by
  obtain ⟨t, h⟩ := h
  exact pe_glob hg h ⟨t, rfl⟩ hd
end
/-! ### what a raised error's class needs -/
structure Err (K : PySem.W.Frag) (mg : Str → Option Value) (x : Str) (C : Addr) : Prop where
  g : mg x = some (.ref C)
  x_ : PySem.W.excIn K C [.type "Exception", .type "BaseException", .type "object"] "Exception.__new__" = true
  k : PySem.W.keepIn K (.ref C) = true
  b : PySem.W.subIn K (.ref C) (.type "BaseException") = some true
  t : PySem.W.typeIn K (.ref C) = some (.type "type")
/-- raise X() -/
theorem ps_err {X : Cx} {W : WX} {x : Str} {C : Addr} {p pos pos' : Pos} (er : Err X.K X.mg x C) (hc : X.calm = true) (tk : Takes X W) (hg : Gl X x) (hdb : (x == ("__debug__" : Str)) = false := by decide) :
    PS X (.Raise (some (.Call (.Name x p) [] [] pos)) none pos') (fun _ σ H => W (.ref C) none σ H) :=
  ps_raise hc tk (RgA.pmk_own0 PySem.F.excBase_Exception er.x_ er.g er.k (raises_own er.b er.t) hg hdb)
/-! ### enumerate over a list or a tuple -/
def SqS (K : PySem.W.Frag) (H : Hp) (a : Addr) (xs : List V) : Prop := SqL K H a xs ∨ SqT K H a xs
theorem SqS.same {K : PySem.W.Frag} {H H' : Hp} {a : Addr} {xs : List V} (e : Same H H') (h : SqS K H a xs) : SqS K H' a xs := by
  rcases h with h | h
  · exact .inl (e.seq h)
  · rcases h with (h | ⟨o, h⟩) | h
    · exact .inr (.inl (.inl (e _ _ h)))
    · exact .inr (.inl (.inr ⟨o, e _ _ h⟩))
    · exact .inr (.inr h)
theorem SqT.same {K : PySem.W.Frag} {H H' : Hp} {a : Addr} {xs : List V} (e : Same H H') (h : SqT K H a xs) : SqT K H' a xs := by
  rcases h with (h | ⟨o, h⟩) | h
  · exact .inl (.inl (e _ _ h))
  · exact .inl (.inr ⟨o, e _ _ h⟩)
  · exact .inr h
/-- a walk of either -/
def iEnumS (K : PySem.W.Frag) (ta : TA) : TI := fun σ H R => ta σ H fun vs H1 => ∃ a xs, vs = [.ref a] ∧ ((SqL K H1 a xs ∧ R (Ite K a) H1) ∨ (SqT K H1 a xs ∧ R (RgA.ItU K a) H1))
theorem pi_enumS {X : Cx} {e : Expr} {ta : TA} {p pos tpos : Pos} {elts : List Expr} {kk : Nat} (hg : Gl X "enumerate") (hm : X.mg "enumerate" = none) (ha : PA X [e] ta) (hs : starEach [e] X.env = [(false, eval e X.env)] := by rfl) :
    PI X (.Tuple elts kk tpos) (.Call (.Name "enumerate" p) [e] [] pos) (iEnumS X.K ta) := by
  refine ⟨fun pins s σ H R I h => ?_⟩
  refine Call_ (ld_blt I hg hm boot_enumerate (PyProof.Rows.callWith_type1 (thn (ha.run pos pins s σ H _ I h) fun us s1 ⟨vs, H1, I1, r1, q1⟩ => ?_) hs rfl))
  obtain ⟨a, xs, ex, q⟩ := q1
  subst ex
  cases r1 with
  | cons r rr =>
    cases rr
    cases r
    rcases q with ⟨hq, q⟩ | ⟨hq, q⟩
    · obtain ⟨its, rv, p', hz⟩ := I1.list hq
      refine call_enumerate_list p'.isList fun h' he hit hsz hk => wpAny_pyIter_enum he ?_
      have I2 : Inv X pins σ H1 { s1 with heap := h' } := I1.kept (t' := s1.toks) hk
      refine ⟨s1.heap.objs.size + 1, [s1.heap.objs.size + 1, s1.heap.objs.size], _, _, H1, rfl, I2, turn_enum a (s1.heap.objs.size + 1) s1.heap.objs.size, ⟨⟨.none, he⟩, hit, Nat.succ_ne_self _⟩, fun b hb => ?_, q⟩
      have e' : b = s1.heap.objs.size + 1 ∨ b = s1.heap.objs.size := by simpa using hb
      have hle : s1.heap.objs.size ≤ b := by
        rcases e' with z | z
        · rw [z]; exact Nat.le_add_right _ _
        · rw [z]; exact Nat.le_refl _
      exact I1.fpOk hle (I1.hok.fresh hle)
    · obtain ⟨its, rv, p', hz⟩ := I1.tuple hq
      refine RgA.enum_begins1 (begins_tuple a its.toArray) (show s1.heap.IsTuple a its.toArray from p') fun h' he hit hsz hk => wpAny_pyIter_enum he ?_
      have I2 : Inv X pins σ H1 { s1 with heap := h' } := I1.kept (t' := s1.toks) hk
      refine ⟨s1.heap.objs.size + 1, [s1.heap.objs.size + 1, s1.heap.objs.size], _, _, H1, rfl, I2, RgA.turn_enumU a (s1.heap.objs.size + 1) s1.heap.objs.size, ⟨⟨.none, he⟩, ⟨_, hit, rfl, rfl⟩, Nat.succ_ne_self _⟩, fun b hb => ?_, q⟩
      have e' : b = s1.heap.objs.size + 1 ∨ b = s1.heap.objs.size := by simpa using hb
      have hle : s1.heap.objs.size ≤ b := by
        rcases e' with z | z
        · rw [z]; exact Nat.le_add_right _ _
        · rw [z]; exact Nat.le_refl _
      exact I1.fpOk hle (I1.hok.fresh hle)
theorem walk_enumU {K : PySem.W.Frag} {a : Addr} {xs : List V} : Walk (RgA.ItU K a) xs.length (fun H => SqT K H a xs) (YPair (fun i => some (.int (i : Nat))) (fun i => xs[i]?)) := by
  refine ⟨fun i _ hi q => ⟨xs, xs[i], q, by simp [hi]⟩, fun _ q => ⟨xs, q, Nat.le_refl _⟩, fun i H v H' _ q y => ?_⟩
  obtain ⟨T, x, h1, h2, h3, h4⟩ := y
  exact ⟨T, .int (i : Nat), x, h1, h2, h3, rfl, h4 xs q⟩
end RgC

/-! the mathematics: what the program reckons is the specification -/
namespace RgM
open Kp410

theorem take_sum {l : List Nat} {i x : Nat} (h : l[i]? = some x) : (l.take (i + 1)).sum = (l.take i).sum + x := by
  rw [List.take_add_one, h, List.sum_append]
  rfl

/-! ### weeks -/
/-- the rolls with other ages -/
def wa (rs : List Roll) (g : List Nat) : List Roll := List.zipWith (fun r a => { r with age := a }) rs g
def regr (g : List Nat) (c : Nat) : List Nat := g.zipIdx.map fun x => if contains c x.2 then 0 else x.1
def aft (g : List Nat) (c : Nat) : List Nat := (regr g c).map (· + 1)
theorem regr_length (g : List Nat) (c : Nat) : (regr g c).length = g.length := by simp [regr]
theorem aft_length (g : List Nat) (c : Nat) : (aft g c).length = g.length := by simp [aft, regr]
theorem regr_get {g : List Nat} {i a : Nat} (c : Nat) (h : g[i]? = some a) : (regr g c)[i]? = some (if contains c i then 0 else a) := by
  unfold regr
  rw [List.getElem?_map, List.getElem?_zipIdx, h]
  simp
theorem wa_length {rs : List Roll} {g : List Nat} (h : g.length = rs.length) : (wa rs g).length = rs.length := by
  unfold wa
  rw [List.length_zipWith, h, Nat.min_self]
theorem wa_get {rs : List Roll} {g : List Nat} {i a : Nat} {r : Roll} (h : rs[i]? = some r) (k : g[i]? = some a) : (wa rs g)[i]? = some { r with age := a } := by
  unfold wa
  rw [List.getElem?_zipWith, h, k]
theorem wa_self : ∀ rs : List Roll, wa rs (rs.map (·.age)) = rs
  | [] => rfl
  | r :: rs => by
    show { r with age := r.age } :: wa rs (rs.map (·.age)) = r :: rs
    rw [wa_self rs]
theorem wa_zip (c : Nat) : ∀ (rs : List Roll) (g : List Nat) (n : Nat), ((wa rs g).zipIdx n).map (fun x : Roll × Nat => { x.1 with age := (if contains c x.2 then 0 else x.1.age) + 1 }) = wa rs (((g.zipIdx n).map fun x => if contains c x.2 then 0 else x.1).map (· + 1))
  | [], g, n => by cases g <;> rfl
  | r :: rs, [], n => rfl
  | r :: rs, a :: g, n => by
    exact congrArg (List.cons _) (wa_zip c rs g (n + 1))
theorem afterWeek_wa (rs : List Roll) (g : List Nat) (c : Nat) : afterWeek (wa rs g) c = wa rs (aft g c) := wa_zip c rs g 0
theorem afterWeek_self (rs : List Roll) (c : Nat) : afterWeek rs c = wa rs (aft (rs.map (·.age)) c) := by
  have := afterWeek_wa rs (rs.map (·.age)) c
  rwa [wa_self] at this
theorem wa_ages {rs : List Roll} : ∀ {g : List Nat}, g.length = rs.length → (wa rs g).map (·.age) = g := by
  induction rs with
  | nil => intro g h; cases g with
    | nil => rfl
    | cons a g => cases h
  | cons r rs ih =>
    intro g h
    cases g with
    | nil => cases h
    | cons a g =>
      show a :: (wa rs g).map (·.age) = a :: g
      rw [ih (Nat.succ.inj h)]
theorem wa_wa : ∀ (rs : List Roll) (g g' : List Nat), g.length = rs.length → wa (wa rs g) g' = wa rs g'
  | [], _, _, _ => by simp [wa]
  | r :: rs, [], _, h => by cases h
  | r :: rs, a :: g, [], _ => rfl
  | r :: rs, a :: g, b :: g', h => by
    show _ :: wa (wa rs g) g' = _ :: wa rs g'
    rw [wa_wa rs g g' (Nat.succ.inj h)]

/-- what a roll costs in a week -/
def wt (c : Nat) (x : Roll × Nat) : Nat := if contains c x.2 then x.1.regrindCost + weekCost x.1 0 else weekCost x.1 x.1.age
theorem costOfWeek_eq (rs : List Roll) (v c : Nat) : costOfWeek rs v c = (if c = 0 then 0 else v) + (rs.zipIdx.map (wt c)).sum := rfl
/-- the cost so far, behind the first i rolls -/
def cwUp (rs : List Roll) (g : List Nat) (v c i : Nat) : Nat := (if c = 0 then 0 else v) + (((wa rs g).zipIdx.map (wt c)).take i).sum
theorem cwUp_zero (rs : List Roll) (g : List Nat) (v c : Nat) : cwUp rs g v c 0 = if c = 0 then 0 else v := by
  unfold cwUp
  simp
theorem cwUp_succ {rs : List Roll} {g : List Nat} {i a : Nat} {r : Roll} (v c : Nat) (h : rs[i]? = some r) (k : g[i]? = some a) :
    cwUp rs g v c (i + 1) = cwUp rs g v c i + (if contains c i then r.regrindCost else 0) + weekCost r (if contains c i then 0 else a) := by
  have e : ((wa rs g).zipIdx.map (wt c))[i]? = some ((if contains c i then r.regrindCost else 0) + weekCost r (if contains c i then 0 else a)) := by
    rw [List.getElem?_map, List.getElem?_zipIdx, wa_get h k]
    simp only [Option.map_some, Nat.zero_add]
    unfold wt
    split
    · rfl
    · simp only [Nat.zero_add]; rfl
  unfold cwUp
  rw [take_sum e]
  omega
theorem cwUp_end {rs : List Roll} {g : List Nat} (v c : Nat) (h : g.length = rs.length) : cwUp rs g v c rs.length = costOfWeek (wa rs g) v c := by
  unfold cwUp
  rw [List.take_of_length_le (by rw [List.length_map, List.length_zipIdx, wa_length h]; exact Nat.le_refl _)]
  rfl

/-! ### plans -/
theorem planCost_cons (v c : Nat) (p : List Nat) (rs : List Roll) : planCost v (c :: p) rs = costOfWeek rs v c + planCost v p (afterWeek rs c) := rfl
def cand (v w : Nat) (rs : List Roll) (c : Nat) : Nat × List Nat := (costOfWeek rs v c + (cheapestPlan v w (afterWeek rs c)).1, c :: (cheapestPlan v w (afterWeek rs c)).2)
def pick (b o : Nat × List Nat) : Nat × List Nat := if o.1 < b.1 then o else b
def bst (v w : Nat) (rs : List Roll) : Nat → Nat × List Nat
  | 0 => cand v w rs 0
  | k + 1 => pick (bst v w rs k) (cand v w rs (k + 1))
def stepC (v w : Nat) (rs : List Roll) (best : Option (Nat × List Nat)) (set : Nat) : Option (Nat × List Nat) :=
      let rest := cheapestPlan v w (afterWeek rs set)
      let cost := costOfWeek rs v set + rest.1
      match best with
      | none => some (cost, set :: rest.2)
      | some b => if cost < b.1 then some (cost, set :: rest.2) else best
theorem fold_bst (v w : Nat) (rs : List Roll) : ∀ n, (List.range (n + 1)).foldl (stepC v w rs) none = some (bst v w rs n)
  | 0 => rfl
  | n + 1 => by
    rw [List.range_succ, List.foldl_append, fold_bst v w rs n]
    show stepC v w rs (some (bst v w rs n)) (n + 1) = _
    unfold stepC
    show (if (cand v w rs (n + 1)).1 < (bst v w rs n).1 then some (cand v w rs (n + 1)) else some (bst v w rs n)) = some (pick (bst v w rs n) (cand v w rs (n + 1)))
    unfold pick
    split <;> rfl
theorem cheapest_zero (v : Nat) (rs : List Roll) : cheapestPlan v 0 rs = (0, []) := rfl
theorem cheapest_succ (v w : Nat) (rs : List Roll) : cheapestPlan v (w + 1) rs = bst v w rs (2 ^ rs.length - 1) := by
  have h : (List.range (2 ^ rs.length)).foldl (stepC v w rs) none = some (bst v w rs (2 ^ rs.length - 1)) := by
    have e : 2 ^ rs.length = (2 ^ rs.length - 1) + 1 := by have := Nat.two_pow_pos rs.length; omega
    rw [e, fold_bst]
    rfl
  show (match (List.range (2 ^ rs.length)).foldl (stepC v w rs) none with
    | none => (0, [])
    | some b => b) = _
  rw [h]
theorem bst_length (v w : Nat) (rs : List Roll) (h : ∀ rs : List Roll, (cheapestPlan v w rs).2.length = w) : ∀ k, (bst v w rs k).2.length = w + 1
  | 0 => by show (_ :: _).length = _; rw [List.length_cons, h]
  | k + 1 => by
    show (pick (bst v w rs k) (cand v w rs (k + 1))).2.length = w + 1
    unfold pick
    split
    · show (_ :: _).length = _
      rw [List.length_cons, h]
    · exact bst_length v w rs h k
theorem plan_length (v : Nat) : ∀ (w : Nat) (rs : List Roll), (cheapestPlan v w rs).2.length = w
  | 0, _ => rfl
  | w + 1, rs => by
    rw [cheapest_succ]
    exact bst_length v w rs (plan_length v w) _
theorem bst_le (v w : Nat) (rs : List Roll) : ∀ k c, c ≤ k → (bst v w rs k).1 ≤ (cand v w rs c).1
  | 0, c, h => by
    have e : c = 0 := by omega
    subst e
    exact Nat.le_refl _
  | k + 1, c, h => by
    show (pick (bst v w rs k) (cand v w rs (k + 1))).1 ≤ _
    unfold pick
    by_cases e : c = k + 1
    · subst e
      split
      · exact Nat.le_refl _
      · omega
    · have := bst_le v w rs k c (by omega)
      split
      · omega
      · exact this
theorem bst_is (v w : Nat) (rs : List Roll) : ∀ k, ∃ c, c ≤ k ∧ bst v w rs k = cand v w rs c
  | 0 => ⟨0, Nat.le_refl _, rfl⟩
  | k + 1 => by
    show ∃ c, c ≤ k + 1 ∧ pick (bst v w rs k) (cand v w rs (k + 1)) = cand v w rs c
    unfold pick
    split
    · exact ⟨k + 1, Nat.le_refl _, rfl⟩
    · obtain ⟨c, h, e⟩ := bst_is v w rs k
      exact ⟨c, by omega, e⟩
theorem cheapest_le (v w : Nat) (rs : List Roll) {c : Nat} (h : c < 2 ^ rs.length) : (cheapestPlan v (w + 1) rs).1 ≤ (cand v w rs c).1 := by
  rw [cheapest_succ]
  exact bst_le v w rs _ c (by omega)
theorem cheapest_is (v w : Nat) (rs : List Roll) : ∃ c, c < 2 ^ rs.length ∧ cheapestPlan v (w + 1) rs = cand v w rs c := by
  rw [cheapest_succ]
  obtain ⟨c, h, e⟩ := bst_is v w rs (2 ^ rs.length - 1)
  have := Nat.two_pow_pos rs.length
  exact ⟨c, by omega, e⟩

/-! ### all rolls together cost no more than each alone -/
theorem contains_zero (s d : Nat) (hs : s < 2) : contains (s + 2 * d) 0 = (s == 1) := by
  unfold contains
  rw [Nat.pow_zero, Nat.div_one]
  have : (s + 2 * d) % 2 = s := by omega
  rw [this]
theorem contains_succ (s d i : Nat) (hs : s < 2) : contains (s + 2 * d) (i + 1) = contains d i := by
  unfold contains
  have : (s + 2 * d) / 2 ^ (i + 1) = d / 2 ^ i := by
    rw [Nat.pow_succ, Nat.mul_comm (2 ^ i) 2, ← Nat.div_div_eq_div_mul]
    have : (s + 2 * d) / 2 = d := by omega
    rw [this]
  rw [this]
theorem contains_small (s : Nat) (hs : s < 2) : contains s 0 = (s == 1) := by
  have := contains_zero s 0 hs
  simpa using this
def wsum (c n : Nat) (rs : List Roll) : Nat := ((rs.zipIdx n).map (wt c)).sum
theorem wsum_shift (s d : Nat) (hs : s < 2) : ∀ (rs : List Roll) (n : Nat), wsum (s + 2 * d) (n + 1) rs = wsum d n rs
  | [], _ => rfl
  | r :: rs, n => by
    have e : wt (s + 2 * d) (r, n + 1) = wt d (r, n) := by
      unfold wt
      show (if contains (s + 2 * d) (n + 1) then _ else _) = _
      rw [contains_succ s d n hs]
    show wt (s + 2 * d) (r, n + 1) + wsum (s + 2 * d) (n + 2) rs = wt d (r, n) + wsum d (n + 1) rs
    rw [e, wsum_shift s d hs rs (n + 1)]
theorem wt_first (s d : Nat) (hs : s < 2) (r : Roll) : wt (s + 2 * d) (r, 0) = wt s (r, 0) := by
  unfold wt
  show (if contains (s + 2 * d) 0 then _ else _) = (if contains s 0 then _ else _)
  rw [contains_zero s d hs, contains_small s hs]
theorem after_shift (s d : Nat) (hs : s < 2) : ∀ (rs : List Roll) (n : Nat),
    ((rs.zipIdx (n + 1)).map fun x : Roll × Nat => { x.1 with age := (if contains (s + 2 * d) x.2 then 0 else x.1.age) + 1 }) = (rs.zipIdx n).map fun x : Roll × Nat => { x.1 with age := (if contains d x.2 then 0 else x.1.age) + 1 }
  | [], _ => rfl
  | r :: rs, n => by
    rw [List.zipIdx_cons, List.zipIdx_cons, List.map_cons, List.map_cons, after_shift s d hs rs (n + 1), contains_succ s d n hs]
theorem afterWeek_cons (s d : Nat) (hs : s < 2) (r : Roll) (rs : List Roll) : afterWeek (r :: rs) (s + 2 * d) = afterWeek [r] s ++ afterWeek rs d := by
  unfold afterWeek
  rw [List.zipIdx_cons, List.map_cons, after_shift s d hs rs 0, contains_zero s d hs]
  show _ = { r with age := (if contains s 0 then 0 else r.age) + 1 } :: _
  rw [contains_small s hs]
  rfl
theorem costOfWeek_cons (v s d : Nat) (hs : s < 2) (r : Roll) (rs : List Roll) : costOfWeek (r :: rs) v (s + 2 * d) ≤ costOfWeek [r] v s + costOfWeek rs v d := by
  rw [costOfWeek_eq, costOfWeek_eq, costOfWeek_eq]
  have e1 : ((r :: rs).zipIdx.map (wt (s + 2 * d))).sum = wt s (r, 0) + (rs.zipIdx.map (wt d)).sum := by
    show wt (s + 2 * d) (r, 0) + wsum (s + 2 * d) 1 rs = _
    rw [wt_first s d hs, wsum_shift s d hs rs 0]
    rfl
  have e2 : (([r] : List Roll).zipIdx.map (wt s)).sum = wt s (r, 0) := by
    show wt s (r, 0) + 0 = _
    rfl
  rw [e1, e2]
  by_cases h : s + 2 * d = 0
  · have h1 : s = 0 := by omega
    have h2 : d = 0 := by omega
    rw [if_pos h, if_pos h1, if_pos h2]
    omega
  · rw [if_neg h]
    by_cases h1 : s = 0
    · have h2 : ¬ d = 0 := by omega
      rw [if_pos h1, if_neg h2]
      omega
    · rw [if_neg h1]
      omega
/-- the sum of the costs of the rolls, each planned alone -/
def alone (v w : Nat) (rs : List Roll) : Nat := (rs.map fun r => (cheapestPlan v w [r]).1).sum
theorem afterWeek_one (s : Nat) (r : Roll) : ∃ r', afterWeek [r] s = [r'] := ⟨_, rfl⟩
/-- a set for all, made of one set each: its week and what follows cost no more than each alone -/
theorem joint (v : Nat) : ∀ (w : Nat) (rs : List Roll), (cheapestPlan v w rs).1 ≤ alone v w rs
  | 0, rs => Nat.zero_le _
  | w + 1, rs => by
    have key : ∀ rs : List Roll, ∃ c, c < 2 ^ rs.length ∧ costOfWeek rs v c + alone v w (afterWeek rs c) ≤ alone v (w + 1) rs := by
      intro rs
      induction rs with
      | nil => exact ⟨0, Nat.one_pos, Nat.le_refl _⟩
      | cons r rs ih =>
        obtain ⟨d, hd, hc⟩ := ih
        obtain ⟨s, hs, e⟩ := cheapest_is v w [r]
        have hs2 : s < 2 := by simpa using hs
        refine ⟨s + 2 * d, ?_, ?_⟩
        · rw [List.length_cons, Nat.pow_succ]
          omega
        · rw [afterWeek_cons s d hs2]
          have h1 := costOfWeek_cons v s d hs2 r rs
          obtain ⟨r', hr⟩ := afterWeek_one s r
          have h2 : alone v w (afterWeek [r] s ++ afterWeek rs d) = (cheapestPlan v w (afterWeek [r] s)).1 + alone v w (afterWeek rs d) := by
            rw [hr]
            rfl
          have h3 : alone v (w + 1) (r :: rs) = costOfWeek [r] v s + (cheapestPlan v w (afterWeek [r] s)).1 + alone v (w + 1) rs := by
            show (cheapestPlan v (w + 1) [r]).1 + alone v (w + 1) rs = _
            rw [e]
            rfl
          rw [h2, h3]
          omega
    obtain ⟨c, hc, hl⟩ := key rs
    have h1 := cheapest_le v w rs hc
    have h2 := joint v w (afterWeek rs c)
    have h3 : (cand v w rs c).1 = costOfWeek rs v c + (cheapestPlan v w (afterWeek rs c)).1 := rfl
    omega

/-! ### periods -/
def pb (r : Roll) (v : Nat) : Nat → Nat
  | 0 => 1
  | k + 1 => if periodCost r v (k + 2) * pb r v k < periodCost r v (pb r v k) * (k + 2) then k + 2 else pb r v k
theorem pb_range (r : Roll) (v : Nat) : ∀ k, 1 ≤ pb r v k ∧ pb r v k ≤ k + 1
  | 0 => ⟨Nat.le_refl _, Nat.le_refl _⟩
  | k + 1 => by
    have := pb_range r v k
    have e : pb r v (k + 1) = if periodCost r v (k + 2) * pb r v k < periodCost r v (pb r v k) * (k + 2) then k + 2 else pb r v k := rfl
    rw [e]
    split
    · exact ⟨by omega, Nat.le_refl _⟩
    · exact ⟨this.1, by omega⟩
theorem div_lt (a b p q : Nat) (hp : 0 < p) (hq : 0 < q) : ((a : Nat) : Rat) / ((p : Nat) : Rat) < ((b : Nat) : Rat) / ((q : Nat) : Rat) ↔ a * q < b * p := by
  have hp' : (0 : Rat) < ((p : Nat) : Rat) := by exact_mod_cast hp
  have hq' : (0 : Rat) < ((q : Nat) : Rat) := by exact_mod_cast hq
  rw [Rat.lt_div_iff hq']
  have e : ((a : Nat) : Rat) / ((p : Nat) : Rat) * ((q : Nat) : Rat) = ((a * q : Nat) : Rat) / ((p : Nat) : Rat) := by
    rw [Rat.div_def, Rat.div_def, Rat.mul_assoc, Rat.mul_comm (_ : Rat)⁻¹, ← Rat.mul_assoc]
    push_cast
    rfl
  rw [e, Rat.div_lt_iff hp']
  constructor
  · intro h
    exact_mod_cast h
  · intro h
    exact_mod_cast h
theorem bestPeriod_eq (r : Roll) (v : Nat) : bestPeriod r v = pb r v 23 := by
  have h : ∀ k, (List.range (k + 1)).foldl (fun (best i : Nat) => if meanWeeklyCost r v (i + 1) < meanWeeklyCost r v best then i + 1 else best) 1 = pb r v k := by
    intro k
    induction k with
    | zero =>
      show (if meanWeeklyCost r v (0 + 1) < meanWeeklyCost r v 1 then 0 + 1 else 1) = 1
      split <;> rfl
    | succ k ih =>
      rw [List.range_succ, List.foldl_append, ih]
      show (if meanWeeklyCost r v (k + 1 + 1) < meanWeeklyCost r v (pb r v k) then k + 1 + 1 else pb r v k) = if periodCost r v (k + 2) * pb r v k < periodCost r v (pb r v k) * (k + 2) then k + 2 else pb r v k
      have e : (meanWeeklyCost r v (k + 1 + 1) < meanWeeklyCost r v (pb r v k)) ↔ periodCost r v (k + 2) * pb r v k < periodCost r v (pb r v k) * (k + 2) :=
        div_lt _ _ _ _ (by omega) (pb_range r v k).1
      by_cases c : periodCost r v (k + 2) * pb r v k < periodCost r v (pb r v k) * (k + 2)
      · rw [if_pos c, if_pos (e.mpr c)]
      · rw [if_neg c, if_neg fun z => c (e.mp z)]
  exact h 23
theorem mean_terms (r : Roll) (v p : Nat) (hp : 0 < p) :
    (meanWeeklyCost r v p).num = ((periodCost r v p / Nat.gcd (periodCost r v p) p : Nat) : Int) ∧ (meanWeeklyCost r v p).den = p / Nat.gcd (periodCost r v p) p := by
  have e : meanWeeklyCost r v p = mkRat ((periodCost r v p : Nat) : Int) p := by
    rw [Rat.mkRat_eq_div]
    rfl
  rw [e, Rat.num_mkRat, Rat.den_mkRat, if_neg (by omega), if_neg (by omega)]
  rw [Int.natAbs_natCast, Nat.gcd_comm]
  exact ⟨rfl, rfl⟩
end RgM

/-! the operations as functions of the mill, and that they are the specification's steps -/
namespace RgN
open Kp410
inductive Er where
  | noMill | noRoll | limits | many | never
def Er.code : Er → Int
  | .noMill => -11 | .noRoll => -2 | .limits => -22 | .many => -28 | .never => -33
inductive Out where
  | bad (e : Er)
  | ok (M : Mill) (x : Nat) (l : List Nat)
/-- what the specification's step gives -/
def fin (M : Mill) : Out → State × Ans
  | .bad e => (some M, single e.code)
  | .ok M' x l => (some M', natResult x l)
theorem single_nat (x : Nat) : single (x : Int) = natResult x [] := rfl

def oAdd (M : Mill) (rc : Nat) (ws : List Nat) : Out :=
  if rc ≤ 999 then (if 1 ≤ ws.length ∧ ws.length ≤ 8 then (if ∀ x ∈ ws, x ≤ 99 then (if 3 ≤ M.rolls.length then .bad .many else .ok { M with rolls := M.rolls ++ [⟨0, rc, ws⟩] } M.rolls.length []) else .bad .limits) else .bad .limits) else .bad .limits
def oRemove (M : Mill) (i : Nat) : Out := if i < M.rolls.length then .ok { M with rolls := M.rolls.eraseIdx i } (M.rolls.length - 1) [] else .bad .noRoll
def oSetAge (M : Mill) (i g : Nat) : Out := if i < M.rolls.length then (if g ≤ 99 then .ok { M with rolls := M.rolls.set i { rollAt M i with age := g } } (rollAt M i).age [] else .bad .limits) else .bad .noRoll
def oSetVisit (M : Mill) (v : Nat) : Out := if v ≤ 999 then .ok { M with visitCost := v } M.visitCost [] else .bad .limits
def oGet (M : Mill) (i : Nat) : Out := if i < M.rolls.length then .ok M (rollAt M i).age ((rollAt M i).regrindCost :: (rollAt M i).weeklyCosts) else .bad .noRoll
def mt (r : Roll) (v k : Nat) : List Nat := [periodCost r v k / Nat.gcd (periodCost r v k) k, k / Nat.gcd (periodCost r v k) k]
def oMean (M : Mill) (i k : Nat) : Out := if i < M.rolls.length then (if 1 ≤ k ∧ k ≤ 24 then .ok M 0 (mt (rollAt M i) M.visitCost k) else .bad .limits) else .bad .noRoll
def oBest (M : Mill) (i : Nat) : Out := if i < M.rolls.length then .ok M (bestPeriod (rollAt M i) M.visitCost) (mt (rollAt M i) M.visitCost (bestPeriod (rollAt M i) M.visitCost)) else .bad .noRoll
def oPlan (M : Mill) (w : Nat) : Out := if w ≤ 5 then .ok M (cheapestPlan M.visitCost w M.rolls).1 (cheapestPlan M.visitCost w M.rolls).2 else .bad .limits
def oLowest (M : Mill) (w : Nat) : Out := if w ≤ 5 then .ok M (cheapestPlan M.visitCost w M.rolls).1 [] else .bad .limits
def oPlanCost (M : Mill) (p : List Nat) : Out := if p.length ≤ 5 then (if ∀ c ∈ p, c < 2 ^ M.rolls.length then .ok M (planCost M.visitCost p M.rolls) [] else .bad .limits) else .bad .limits
def oRun (M : Mill) (c : Nat) : Out := if c < 2 ^ M.rolls.length then .ok (withWeek M c) (costOfWeek M.rolls M.visitCost c) [] else .bad .limits
def oRunPlanned (M : Mill) (w : Nat) : Out := if 1 ≤ w ∧ w ≤ 5 then
    .ok (withWeek M ((cheapestPlan M.visitCost w M.rolls).2.headD 0)) ((cheapestPlan M.visitCost w M.rolls).2.headD 0) [costOfWeek M.rolls M.visitCost ((cheapestPlan M.visitCost w M.rolls).2.headD 0)] else .bad .limits
def oWithout (M : Mill) (w : Nat) : Out := if w ≤ 5 then .ok M (planCost M.visitCost (List.replicate w 0) M.rolls) [] else .bad .limits
def oSingle (M : Mill) (i w : Nat) : Out := if i < M.rolls.length then (if w ≤ 5 then .ok M (cheapestPlan M.visitCost w [rollAt M i]).1 [] else .bad .limits) else .bad .noRoll
def oVisit (M : Mill) (v w : Nat) : Out := if v ≤ 999 then (if w ≤ 5 then .ok M (cheapestPlan v w M.rolls).1 [] else .bad .limits) else .bad .limits
def oJoint (M : Mill) (w : Nat) : Out := if w ≤ 5 then .ok M (RgM.alone M.visitCost w M.rolls - (cheapestPlan M.visitCost w M.rolls).1) [] else .bad .limits
def oNext (M : Mill) (i w : Nat) : Out := if i < M.rolls.length then (if w ≤ 5 then (match (cheapestPlan M.visitCost w M.rolls).2.findIdx? fun set => contains set i with
    | none => .bad .never
    | some k => .ok M k []) else .bad .limits) else .bad .noRoll
def oRising (M : Mill) (i : Nat) : Out := if i < M.rolls.length then .ok M (if hasRisingCosts (rollAt M i) = true then 1 else 0) [] else .bad .noRoll
def oStatus (M : Mill) : Out := .ok M M.weeks [M.spent, M.visitCost, M.rolls.length]
def oOf (M : Mill) : Call → Out
  | .create _ => .bad .noMill
  | .addRoll rc ws => oAdd M rc ws
  | .removeRoll i => oRemove M i
  | .setAge i g => oSetAge M i g
  | .setVisitCost v => oSetVisit M v
  | .getRoll i => oGet M i
  | .meanWeeklyCost i k => oMean M i k
  | .bestPeriod i => oBest M i
  | .cheapestPlan w => oPlan M w
  | .lowestCost w => oLowest M w
  | .planCost p => oPlanCost M p
  | .runWeek c => oRun M c
  | .runPlannedWeek w => oRunPlanned M w
  | .costWithoutRegrinding w => oWithout M w
  | .costOfSingleRoll i w => oSingle M i w
  | .lowestCostForVisit v w => oVisit M v w
  | .jointSavings w => oJoint M w
  | .nextRegrind i w => oNext M i w
  | .hasRisingCosts i => oRising M i
  | .status => oStatus M
theorem valid_iff (v : Nat) : validCost v = decide (v ≤ 999) := rfl
theorem weeks_iff (w : Nat) : validWeeks w = decide (w ≤ 5) := rfl
theorem roll_iff (M : Mill) (i : Nat) : isRoll M i = decide (i < M.rolls.length) := rfl
theorem fraction_eq (z : Nat) (r : Roll) (v k : Nat) (hk : 0 < k) : withFraction z (meanWeeklyCost r v k) = natResult z (mt r v k) := by
  obtain ⟨h1, h2⟩ := RgM.mean_terms r v k hk
  unfold withFraction natResult mt
  rw [h1, h2]
  rfl
theorem step_eq (M : Mill) : ∀ c : Call, (∀ v, c ≠ .create v) → step (some M) c = fin M (oOf M c)
  | .create v, h => absurd rfl (h v)
  | .addRoll rc ws, _ => by
    show (if validCost rc = false ∨ validWeeklyCosts ws = false then (some M, single (-22)) else if maxRolls ≤ M.rolls.length then (some M, single (-28)) else (some { M with rolls := M.rolls ++ [⟨0, rc, ws⟩] }, single (M.rolls.length : Nat))) = fin M (oAdd M rc ws)
    have e : validWeeklyCosts ws = (decide (1 ≤ ws.length ∧ ws.length ≤ 8) && decide (∀ x ∈ ws, x ≤ 99)) := by
      unfold validWeeklyCosts
      rw [Bool.decide_and]
      congr 1
      by_cases h : ∀ x ∈ ws, x ≤ 99
      · rw [decide_eq_true h, List.all_eq_true]
        intro x hx
        exact decide_eq_true (h x hx)
      · rw [decide_eq_false h]
        cases z : ws.all fun x => decide (x ≤ 99) with
        | false => rfl
        | true =>
          rw [List.all_eq_true] at z
          exact absurd (fun x hx => of_decide_eq_true (z x hx)) h
    unfold oAdd
    rw [valid_iff, e]
    by_cases h1 : rc ≤ 999
    · by_cases h2 : 1 ≤ ws.length ∧ ws.length ≤ 8
      · by_cases h3 : ∀ x ∈ ws, x ≤ 99
        · rw [if_pos h1, if_pos h2, if_pos h3, if_neg (by rw [decide_eq_true h1, decide_eq_true h2, decide_eq_true h3]; simp)]
          by_cases h4 : 3 ≤ M.rolls.length
          · rw [if_pos h4, if_pos (show maxRolls ≤ M.rolls.length from h4)]
            rfl
          · rw [if_neg h4, if_neg (show ¬ maxRolls ≤ M.rolls.length from h4)]
            rfl
        · rw [if_pos h1, if_pos h2, if_neg h3, if_pos (.inr (by simp [h3]))]
          rfl
      · rw [if_pos h1, if_neg h2, if_pos (.inr (by rw [decide_eq_false h2]; rfl))]
        rfl
    · rw [if_neg h1, if_pos (.inl (decide_eq_false h1))]
      rfl
  | .removeRoll i, _ => by
    show (if isRoll M i then (some { M with rolls := M.rolls.eraseIdx i }, single (M.rolls.length - 1 : Nat)) else (some M, single (-2))) = fin M (oRemove M i)
    unfold oRemove
    rw [roll_iff]
    by_cases h : i < M.rolls.length
    · rw [if_pos h, if_pos (decide_eq_true h)]; rfl
    · rw [if_neg h, if_neg (by simp [h])]; rfl
  | .setAge i g, _ => by
    show (if isRoll M i = false then (some M, single (-2)) else if 99 < g then (some M, single (-22)) else (some { M with rolls := M.rolls.set i { rollAt M i with age := g } }, single ((rollAt M i).age : Nat))) = fin M (oSetAge M i g)
    unfold oSetAge
    rw [roll_iff]
    by_cases h : i < M.rolls.length
    · rw [if_pos h, if_neg (by simp [h])]
      by_cases h2 : g ≤ 99
      · rw [if_pos h2, if_neg (by omega)]; rfl
      · rw [if_neg h2, if_pos (by omega)]; rfl
    · rw [if_neg h, if_pos (by simp [h])]; rfl
  | .setVisitCost v, _ => by
    show (if validCost v then (some { M with visitCost := v }, single (M.visitCost : Nat)) else (some M, single (-22))) = fin M (oSetVisit M v)
    unfold oSetVisit
    rw [valid_iff]
    by_cases h : v ≤ 999
    · rw [if_pos h, if_pos (decide_eq_true h)]; rfl
    · rw [if_neg h, if_neg (by simp [h])]; rfl
  | .getRoll i, _ => by
    show (some M, if isRoll M i then natResult (rollAt M i).age ((rollAt M i).regrindCost :: (rollAt M i).weeklyCosts) else single (-2)) = fin M (oGet M i)
    unfold oGet
    rw [roll_iff]
    by_cases h : i < M.rolls.length
    · rw [if_pos h, if_pos (decide_eq_true h)]; rfl
    · rw [if_neg h, if_neg (by simp [h])]; rfl
  | .meanWeeklyCost i k, _ => by
    show (some M, if isRoll M i = false then single (-2) else if k < 1 ∨ 24 < k then single (-22) else withFraction 0 (Kp410.meanWeeklyCost (rollAt M i) M.visitCost k)) = fin M (oMean M i k)
    unfold oMean
    rw [roll_iff]
    by_cases h : i < M.rolls.length
    · rw [if_pos h, if_neg (by simp [h])]
      by_cases h2 : 1 ≤ k ∧ k ≤ 24
      · rw [if_pos h2, if_neg (by omega), fraction_eq _ _ _ _ (by omega)]; rfl
      · rw [if_neg h2, if_pos (by omega)]; rfl
    · rw [if_neg h, if_pos (by simp [h])]; rfl
  | .bestPeriod i, _ => by
    show (some M, if isRoll M i = false then single (-2) else withFraction (Kp410.bestPeriod (rollAt M i) M.visitCost) (Kp410.meanWeeklyCost (rollAt M i) M.visitCost (Kp410.bestPeriod (rollAt M i) M.visitCost))) = fin M (oBest M i)
    unfold oBest
    rw [roll_iff]
    by_cases h : i < M.rolls.length
    · rw [if_pos h, if_neg (by simp [h]), fraction_eq _ _ _ _ (by rw [RgM.bestPeriod_eq]; exact (RgM.pb_range _ _ _).1)]; rfl
    · rw [if_neg h, if_pos (by simp [h])]; rfl
  | .cheapestPlan w, _ => by
    show (some M, if validWeeks w then natResult (Kp410.cheapestPlan M.visitCost w M.rolls).1 (Kp410.cheapestPlan M.visitCost w M.rolls).2 else single (-22)) = fin M (oPlan M w)
    unfold oPlan
    rw [weeks_iff]
    by_cases h : w ≤ 5
    · rw [if_pos h, if_pos (decide_eq_true h)]; rfl
    · rw [if_neg h, if_neg (by simp; omega)]; rfl
  | .lowestCost w, _ => by
    show (some M, if validWeeks w then single (Kp410.lowestCost M w : Nat) else single (-22)) = fin M (oLowest M w)
    unfold oLowest
    rw [weeks_iff]
    by_cases h : w ≤ 5
    · rw [if_pos h, if_pos (decide_eq_true h)]; rfl
    · rw [if_neg h, if_neg (by simp; omega)]; rfl
  | .planCost p, _ => by
    show (some M, if validPlan M p then single (Kp410.planCost M.visitCost p M.rolls : Nat) else single (-22)) = fin M (oPlanCost M p)
    unfold oPlanCost
    have e : validPlan M p = (decide (p.length ≤ 5) && decide (∀ c ∈ p, c < 2 ^ M.rolls.length)) := by
      unfold validPlan
      congr 1
      by_cases h : ∀ c ∈ p, c < 2 ^ M.rolls.length
      · rw [decide_eq_true h, List.all_eq_true]
        intro x hx
        exact decide_eq_true (h x hx)
      · rw [decide_eq_false h]
        cases z : p.all fun set => decide (set < 2 ^ M.rolls.length) with
        | false => rfl
        | true =>
          rw [List.all_eq_true] at z
          exact absurd (fun x hx => of_decide_eq_true (z x hx)) h
    rw [e]
    by_cases h1 : p.length ≤ 5
    · by_cases h2 : ∀ c ∈ p, c < 2 ^ M.rolls.length
      · rw [if_pos h1, if_pos h2, if_pos (by rw [decide_eq_true h1, decide_eq_true h2]; rfl)]; rfl
      · rw [if_pos h1, if_neg h2, if_neg (by rw [decide_eq_false h2]; simp)]; rfl
    · rw [if_neg h1, if_neg (by rw [decide_eq_false h1]; simp)]; rfl
  | .runWeek c, _ => by
    show (if 2 ^ M.rolls.length ≤ c then (some M, single (-22)) else (some (withWeek M c), single (costOfWeek M.rolls M.visitCost c : Nat))) = fin M (oRun M c)
    unfold oRun
    by_cases h : c < 2 ^ M.rolls.length
    · rw [if_pos h, if_neg (by omega)]; rfl
    · rw [if_neg h, if_pos (by omega)]; rfl
  | .runPlannedWeek w, _ => by
    show (if validWeeks w = false ∨ w = 0 then (some M, single (-22)) else (some (withWeek M ((Kp410.cheapestPlan M.visitCost w M.rolls).2.headD 0)), natResult ((Kp410.cheapestPlan M.visitCost w M.rolls).2.headD 0) [costOfWeek M.rolls M.visitCost ((Kp410.cheapestPlan M.visitCost w M.rolls).2.headD 0)])) = fin M (oRunPlanned M w)
    unfold oRunPlanned
    rw [weeks_iff]
    by_cases h : 1 ≤ w ∧ w ≤ 5
    · rw [if_pos h, if_neg (by simp; omega)]; rfl
    · rw [if_neg h, if_pos (by simp; omega)]; rfl
  | .costWithoutRegrinding w, _ => by
    show (some M, if validWeeks w then single (Kp410.planCost M.visitCost (List.replicate w 0) M.rolls : Nat) else single (-22)) = fin M (oWithout M w)
    unfold oWithout
    rw [weeks_iff]
    by_cases h : w ≤ 5
    · rw [if_pos h, if_pos (decide_eq_true h)]; rfl
    · rw [if_neg h, if_neg (by simp; omega)]; rfl
  | .costOfSingleRoll i w, _ => by
    show (some M, if isRoll M i = false then single (-2) else if validWeeks w then single ((Kp410.cheapestPlan M.visitCost w [rollAt M i]).1 : Nat) else single (-22)) = fin M (oSingle M i w)
    unfold oSingle
    rw [roll_iff, weeks_iff]
    by_cases h : i < M.rolls.length
    · rw [if_pos h, if_neg (by simp [h])]
      by_cases h2 : w ≤ 5
      · rw [if_pos h2, if_pos (decide_eq_true h2)]; rfl
      · rw [if_neg h2, if_neg (by simp; omega)]; rfl
    · rw [if_neg h, if_pos (by simp [h])]; rfl
  | .lowestCostForVisit v w, _ => by
    show (some M, if validCost v && validWeeks w then single ((Kp410.cheapestPlan v w M.rolls).1 : Nat) else single (-22)) = fin M (oVisit M v w)
    unfold oVisit
    rw [valid_iff, weeks_iff]
    by_cases h : v ≤ 999
    · by_cases h2 : w ≤ 5
      · rw [if_pos h, if_pos h2, if_pos (by simp [h, h2])]; rfl
      · rw [if_pos h, if_neg h2, if_neg (by simp; omega)]; rfl
    · rw [if_neg h, if_neg (by simp [h])]; rfl
  | .jointSavings w, _ => by
    show (some M, if validWeeks w then single ((M.rolls.map fun r => (Kp410.cheapestPlan M.visitCost w [r]).1).sum - Kp410.lowestCost M w : Nat) else single (-22)) = fin M (oJoint M w)
    unfold oJoint
    rw [weeks_iff]
    by_cases h : w ≤ 5
    · rw [if_pos h, if_pos (decide_eq_true h)]; rfl
    · rw [if_neg h, if_neg (by simp; omega)]; rfl
  | .nextRegrind i w, _ => by
    show (some M, if isRoll M i = false then single (-2) else if validWeeks w = false then single (-22) else match (Kp410.cheapestPlan M.visitCost w M.rolls).2.findIdx? fun set => contains set i with
      | none => single (-33)
      | some week => single (week : Nat)) = fin M (oNext M i w)
    unfold oNext
    rw [roll_iff, weeks_iff]
    by_cases h : i < M.rolls.length
    · rw [if_pos h, if_neg (by simp [h])]
      by_cases h2 : w ≤ 5
      · rw [if_pos h2, if_neg (by simp; omega)]
        cases (Kp410.cheapestPlan M.visitCost w M.rolls).2.findIdx? fun set => contains set i with
        | none => rfl
        | some k => rfl
      · rw [if_neg h2, if_pos (by simp; omega)]; rfl
    · rw [if_neg h, if_pos (by simp [h])]; rfl
  | .hasRisingCosts i, _ => by
    show (some M, if isRoll M i then boolResult (Kp410.hasRisingCosts (rollAt M i)) else single (-2)) = fin M (oRising M i)
    unfold oRising
    rw [roll_iff]
    by_cases h : i < M.rolls.length
    · rw [if_pos h, if_pos (decide_eq_true h)]
      unfold boolResult
      cases Kp410.hasRisingCosts (rollAt M i) <;> rfl
    · rw [if_neg h, if_neg (by simp [h])]; rfl
  | .status, _ => rfl
theorem step_create_ok (s : State) (v : Nat) (h : v ≤ 999) : step s (.create v) = (some ⟨[], v, 0, 0⟩, natResult 0 []) := by
  show (if validCost v then (some ⟨[], v, 0, 0⟩, single 0) else (s, single (-22))) = _
  rw [valid_iff, if_pos (decide_eq_true h)]
  rfl
theorem step_create_no (s : State) (v : Nat) (h : ¬ v ≤ 999) : step s (.create v) = (s, single (-22)) := by
  show (if validCost v then (some ⟨[], v, 0, 0⟩, single 0) else (s, single (-22))) = _
  rw [if_neg (by rw [valid_iff]; simp [h])]
theorem step_none (c : Call) (h : ∀ v, c ≠ .create v) : step none c = (none, single (-11)) := by
  cases c <;> first | rfl | exact absurd rfl (h _)
theorem rollAt_eq {M : Mill} {i : Nat} {r : Roll} (h : M.rolls[i]? = some r) : rollAt M i = r := by
  unfold rollAt
  rw [List.getD_eq_getElem?_getD, h]
  rfl
end RgN

/-! requests: from the flat list to the calls, and the answers as one list -/
namespace RgR
open Kp410 (State)
/-- a call by its place and its numbers -/
inductive IsCall : Nat → List Nat → Kp410.Call → Prop
  | create (v : Nat) : IsCall 0 [v] (.create v)
  | addRoll (rc : Nat) (ws : List Nat) : IsCall 1 (rc :: ws) (.addRoll rc ws)
  | removeRoll (i : Nat) : IsCall 2 [i] (.removeRoll i)
  | setAge (i g : Nat) : IsCall 3 [i, g] (.setAge i g)
  | setVisitCost (v : Nat) : IsCall 4 [v] (.setVisitCost v)
  | getRoll (i : Nat) : IsCall 5 [i] (.getRoll i)
  | meanWeeklyCost (i k : Nat) : IsCall 6 [i, k] (.meanWeeklyCost i k)
  | bestPeriod (i : Nat) : IsCall 7 [i] (.bestPeriod i)
  | cheapestPlan (n : Nat) : IsCall 8 [n] (.cheapestPlan n)
  | lowestCost (n : Nat) : IsCall 9 [n] (.lowestCost n)
  | planCost (p : List Nat) : IsCall 10 p (.planCost p)
  | runWeek (c : Nat) : IsCall 11 [c] (.runWeek c)
  | runPlannedWeek (n : Nat) : IsCall 12 [n] (.runPlannedWeek n)
  | costWithoutRegrinding (n : Nat) : IsCall 13 [n] (.costWithoutRegrinding n)
  | costOfSingleRoll (i n : Nat) : IsCall 14 [i, n] (.costOfSingleRoll i n)
  | lowestCostForVisit (v n : Nat) : IsCall 15 [v, n] (.lowestCostForVisit v n)
  | jointSavings (n : Nat) : IsCall 16 [n] (.jointSavings n)
  | nextRegrind (i n : Nat) : IsCall 17 [i, n] (.nextRegrind i n)
  | hasRisingCosts (i : Nat) : IsCall 18 [i] (.hasRisingCosts i)
  | status : IsCall 19 [] .status
def flat : List (Nat × List Nat) → List Nat
  | [] => []
  | c :: cs => c.1 :: c.2.length :: (c.2 ++ 0 :: flat cs)
def cI (l : List Nat) : List Int := l.map fun (n : Nat) => (n : Int)
def ansL (y : Kp410.Ans) : List Int := y.num :: y.nums
def tellN : State → List Kp410.Call → List Int
  | _, [] => []
  | s, c :: l => ((ansL (Kp410.step s c).2).length : Int) :: (ansL (Kp410.step s c).2 ++ tellN (Kp410.step s c).1 l)
theorem nat_of {z : Int} (h : Kp410Neutral.natural z = true) : ∃ n : Nat, z = (n : Int) := by
  unfold Kp410Neutral.natural at h
  rw [Bool.and_eq_true] at h
  have := of_decide_eq_true h.1
  exact ⟨z.toNat, by omega⟩
theorem nats_of : ∀ {l : List Int}, l.all Kp410Neutral.natural = true → ∃ ns : List Nat, l = cI ns
  | [], _ => ⟨[], rfl⟩
  | z :: l, h => by
    rw [List.all_cons, Bool.and_eq_true] at h
    obtain ⟨n, hn⟩ := nat_of h.1
    obtain ⟨ns, hns⟩ := nats_of h.2
    exact ⟨n :: ns, by rw [hn, hns]; rfl⟩
theorem toNats (ns : List Nat) : (cI ns).map Int.toNat = ns := by
  unfold cI
  rw [List.map_map]
  have : (Int.toNat ∘ fun (n : Nat) => (n : Int)) = id := by
    funext n
    rfl
  rw [this, List.map_id]
theorem call_is {c : List (List Int)} (h : Kp410Neutral.asked1 c = true) : ∃ pl ns k, c = [((pl : Nat) : Int) :: cI ns] ∧ Kp410Neutral.callOf c = some k ∧ IsCall pl ns k := by
  unfold Kp410Neutral.asked1 at h
  split at h
  · obtain ⟨a, rfl⟩ := nat_of h
    exact ⟨0, [a], _, rfl, rfl, .create a⟩
  · rename_i a l
    rw [Bool.and_eq_true, Bool.and_eq_true] at h
    obtain ⟨n, rfl⟩ := nat_of h.1
    obtain ⟨ns, rfl⟩ := nats_of h.2.1
    refine ⟨1, n :: ns, _, rfl, rfl, ?_⟩
    rw [toNats]
    exact .addRoll n ns
  · obtain ⟨a, rfl⟩ := nat_of h
    exact ⟨2, [a], _, rfl, rfl, .removeRoll a⟩
  · rw [Bool.and_eq_true] at h
    obtain ⟨a, rfl⟩ := nat_of h.1
    obtain ⟨b, rfl⟩ := nat_of h.2
    exact ⟨3, [a, b], _, rfl, rfl, .setAge a b⟩
  · obtain ⟨a, rfl⟩ := nat_of h
    exact ⟨4, [a], _, rfl, rfl, .setVisitCost a⟩
  · obtain ⟨a, rfl⟩ := nat_of h
    exact ⟨5, [a], _, rfl, rfl, .getRoll a⟩
  · rw [Bool.and_eq_true] at h
    obtain ⟨a, rfl⟩ := nat_of h.1
    obtain ⟨b, rfl⟩ := nat_of h.2
    exact ⟨6, [a, b], _, rfl, rfl, .meanWeeklyCost a b⟩
  · obtain ⟨a, rfl⟩ := nat_of h
    exact ⟨7, [a], _, rfl, rfl, .bestPeriod a⟩
  · obtain ⟨a, rfl⟩ := nat_of h
    exact ⟨8, [a], _, rfl, rfl, .cheapestPlan a⟩
  · obtain ⟨a, rfl⟩ := nat_of h
    exact ⟨9, [a], _, rfl, rfl, .lowestCost a⟩
  · rename_i l
    rw [Bool.and_eq_true] at h
    obtain ⟨ns, rfl⟩ := nats_of h.1
    refine ⟨10, ns, _, rfl, rfl, ?_⟩
    rw [toNats]
    exact .planCost ns
  · obtain ⟨a, rfl⟩ := nat_of h
    exact ⟨11, [a], _, rfl, rfl, .runWeek a⟩
  · obtain ⟨a, rfl⟩ := nat_of h
    exact ⟨12, [a], _, rfl, rfl, .runPlannedWeek a⟩
  · obtain ⟨a, rfl⟩ := nat_of h
    exact ⟨13, [a], _, rfl, rfl, .costWithoutRegrinding a⟩
  · rw [Bool.and_eq_true] at h
    obtain ⟨a, rfl⟩ := nat_of h.1
    obtain ⟨b, rfl⟩ := nat_of h.2
    exact ⟨14, [a, b], _, rfl, rfl, .costOfSingleRoll a b⟩
  · rw [Bool.and_eq_true] at h
    obtain ⟨a, rfl⟩ := nat_of h.1
    obtain ⟨b, rfl⟩ := nat_of h.2
    exact ⟨15, [a, b], _, rfl, rfl, .lowestCostForVisit a b⟩
  · obtain ⟨a, rfl⟩ := nat_of h
    exact ⟨16, [a], _, rfl, rfl, .jointSavings a⟩
  · rw [Bool.and_eq_true] at h
    obtain ⟨a, rfl⟩ := nat_of h.1
    obtain ⟨b, rfl⟩ := nat_of h.2
    exact ⟨17, [a, b], _, rfl, rfl, .nextRegrind a b⟩
  · obtain ⟨a, rfl⟩ := nat_of h
    exact ⟨18, [a], _, rfl, rfl, .hasRisingCosts a⟩
  · exact ⟨19, [], _, rfl, rfl, .status⟩
  · cases h
/-- the calls of a request, one by one -/
inductive Calls : List (Nat × List Nat) → List Kp410.Call → Prop
  | nil : Calls [] []
  | cons {pl : Nat} {ns : List Nat} {k : Kp410.Call} {cs : List (Nat × List Nat)} {ks : List Kp410.Call} (h : IsCall pl ns k) (t : Calls cs ks) : Calls ((pl, ns) :: cs) (k :: ks)
theorem put_flat1 (pl : Nat) (ns : List Nat) (r : List Int) : PyWide.put1 [(pl : Int) :: cI ns] ++ r = (pl : Int) :: (ns.length : Int) :: (cI ns ++ (0 : Int) :: r) := by
  rw [PyWide.put1_append]
  show (pl : Int) :: (((cI ns).length : Int) :: (cI ns ++ ((0 : Int) :: r))) = _
  unfold cI
  rw [List.length_map]
theorem cI_cons (x : Nat) (l : List Nat) : cI (x :: l) = (x : Int) :: cI l := rfl
theorem cI_append (l m : List Nat) : cI (l ++ m) = cI l ++ cI m := by
  unfold cI
  rw [List.map_append]
theorem calls_are : ∀ (rows : List (List (List Int))), rows.all Kp410Neutral.asked1 = true → ∃ cs ks, PyWide.put rows = cI (flat cs) ∧ Calls cs ks ∧ cs.length = rows.length ∧
    ∀ s, PyFlat.told (PyFlat.played Kp410Neutral.step s rows) = tellN s ks
  | [], _ => ⟨[], [], rfl, .nil, rfl, fun _ => rfl⟩
  | c :: rows, h => by
    rw [List.all_cons, Bool.and_eq_true] at h
    obtain ⟨pl, ns, k, rfl, ek, hk⟩ := call_is h.1
    obtain ⟨cs, ks, e, hc, hl, ht⟩ := calls_are rows h.2
    refine ⟨(pl, ns) :: cs, k :: ks, ?_, .cons hk hc, by rw [List.length_cons, List.length_cons, hl], fun s => ?_⟩
    · show PyWide.put1 [(pl : Int) :: cI ns] ++ PyWide.put rows = _
      rw [put_flat1, e]
      show _ = cI (pl :: ns.length :: (ns ++ 0 :: flat cs))
      rw [cI_cons, cI_cons, cI_append, cI_cons]
      rfl
    · have es : Kp410Neutral.step s [(pl : Int) :: cI ns] = ((Kp410.step s k).1, ansL (Kp410.step s k).2) := by
        unfold Kp410Neutral.step
        rw [ek]
        rfl
      show PyFlat.told ((Kp410Neutral.step s [(pl : Int) :: cI ns]).2 :: PyFlat.played Kp410Neutral.step (Kp410Neutral.step s [(pl : Int) :: cI ns]).1 rows) = _
      rw [es]
      show ((ansL (Kp410.step s k).2).length : Int) :: (ansL (Kp410.step s k).2) ++ PyFlat.told (PyFlat.played Kp410Neutral.step (Kp410.step s k).1 rows) = _
      rw [ht]
      rfl
theorem asked_is {l : List Int} (h : PyKp410.answers_asked l = true) : ∃ cs ks, l = cI (flat cs) ∧ Calls cs ks ∧ cs.length ≤ 60 ∧ PyKp410.answers l = tellN none ks := by
  have hA : PyKp410.answers l = match PyKp410.calls l with
    | none => []
    | some cs => PyFlat.told (PyFlat.played Kp410Neutral.step Kp410Neutral.start cs) := rfl
  rw [hA]
  unfold PyKp410.answers_asked at h
  cases hc : PyKp410.calls l with
  | none => rw [hc] at h; cases h
  | some rows =>
    rw [hc] at h
    have h : (PyFlat.atMost 60 rows && Kp410Neutral.asked rows && PyFlat.short 10000000 (PyKp410.answers l)) = true := h
    rw [Bool.and_eq_true, Bool.and_eq_true] at h
    obtain ⟨⟨h1, h2⟩, _⟩ := h
    unfold Kp410Neutral.asked at h2
    rw [Bool.and_eq_true, Bool.and_eq_true] at h2
    obtain ⟨e, _⟩ := PyWide.put_calls l.length l rows hc
    obtain ⟨cs, ks, e2, hcs, hl, ht⟩ := calls_are rows h2.2.2
    exact ⟨cs, ks, e.trans e2, hcs, by rw [hl]; exact of_decide_eq_true h1, ht none⟩

/-! ### how long an answer is -/
theorem out_short (M : Kp410.Mill) (h : ∀ r ∈ M.rolls, r.weeklyCosts.length ≤ 8) : ∀ c M' x l, RgN.oOf M c = .ok M' x l → l.length ≤ 9 := by
  intro c M' x l e
  have g : ∀ i, i < M.rolls.length → (Kp410.rollAt M i).weeklyCosts.length ≤ 8 := fun i hi => by
    rw [RgN.rollAt_eq (List.getElem?_eq_getElem hi)]
    exact h _ (List.getElem_mem hi)
  cases c with
  | create v => cases e
  | addRoll rc ws =>
    have e : RgN.oAdd M rc ws = .ok M' x l := e
    unfold RgN.oAdd at e
    repeat' split at e
    all_goals cases e <;> decide
  | removeRoll i =>
    have e : RgN.oRemove M i = .ok M' x l := e
    unfold RgN.oRemove at e
    repeat' split at e
    all_goals cases e <;> decide
  | setAge i g =>
    have e : RgN.oSetAge M i g = .ok M' x l := e
    unfold RgN.oSetAge at e
    repeat' split at e
    all_goals cases e <;> decide
  | setVisitCost v =>
    have e : RgN.oSetVisit M v = .ok M' x l := e
    unfold RgN.oSetVisit at e
    repeat' split at e
    all_goals cases e <;> decide
  | getRoll i =>
    have e : RgN.oGet M i = .ok M' x l := e
    unfold RgN.oGet at e
    split at e
    · rename_i hi
      cases e
      have := g i hi
      rw [List.length_cons]
      omega
    · cases e
  | meanWeeklyCost i k =>
    have e : RgN.oMean M i k = .ok M' x l := e
    unfold RgN.oMean at e
    repeat' split at e
    all_goals cases e
    show 2 ≤ 9
    decide
  | bestPeriod i =>
    have e : RgN.oBest M i = .ok M' x l := e
    unfold RgN.oBest at e
    repeat' split at e
    all_goals cases e
    show 2 ≤ 9
    decide
  | cheapestPlan n =>
    have e : RgN.oPlan M n = .ok M' x l := e
    unfold RgN.oPlan at e
    split at e
    · cases e
      rw [RgM.plan_length]
      omega
    · cases e
  | lowestCost n =>
    have e : RgN.oLowest M n = .ok M' x l := e
    unfold RgN.oLowest at e
    repeat' split at e
    all_goals cases e <;> decide
  | planCost p =>
    have e : RgN.oPlanCost M p = .ok M' x l := e
    unfold RgN.oPlanCost at e
    repeat' split at e
    all_goals cases e <;> decide
  | runWeek c =>
    have e : RgN.oRun M c = .ok M' x l := e
    unfold RgN.oRun at e
    repeat' split at e
    all_goals cases e <;> decide
  | runPlannedWeek n =>
    have e : RgN.oRunPlanned M n = .ok M' x l := e
    unfold RgN.oRunPlanned at e
    repeat' split at e
    all_goals cases e
    show 1 ≤ 9
    decide
  | costWithoutRegrinding n =>
    have e : RgN.oWithout M n = .ok M' x l := e
    unfold RgN.oWithout at e
    repeat' split at e
    all_goals cases e <;> decide
  | costOfSingleRoll i n =>
    have e : RgN.oSingle M i n = .ok M' x l := e
    unfold RgN.oSingle at e
    repeat' split at e
    all_goals cases e <;> decide
  | lowestCostForVisit v n =>
    have e : RgN.oVisit M v n = .ok M' x l := e
    unfold RgN.oVisit at e
    repeat' split at e
    all_goals cases e <;> decide
  | jointSavings n =>
    have e : RgN.oJoint M n = .ok M' x l := e
    unfold RgN.oJoint at e
    repeat' split at e
    all_goals cases e <;> decide
  | nextRegrind i n =>
    have e : RgN.oNext M i n = .ok M' x l := e
    unfold RgN.oNext at e
    repeat' split at e
    all_goals cases e <;> decide
  | hasRisingCosts i =>
    have e : RgN.oRising M i = .ok M' x l := e
    unfold RgN.oRising at e
    split at e
    · injection e with _ _ e
      rw [← e]
      decide
    · cases e
  | status =>
    have e : RgN.oStatus M = .ok M' x l := e
    unfold RgN.oStatus at e
    cases e
    show 3 ≤ 9
    decide
theorem fin_short {M : Kp410.Mill} {o : RgN.Out} (h : ∀ M' x l, o = .ok M' x l → l.length ≤ 9) : (ansL (RgN.fin M o).2).length ≤ 10 := by
  cases o with
  | bad e => show 1 ≤ 10; decide
  | ok M' x l =>
    have := h M' x l rfl
    show (_ :: l.map _).length ≤ 10
    rw [List.length_cons, List.length_map]
    omega
theorem ans_short (s : State) (h : ∀ M, s = some M → ∀ r ∈ M.rolls, r.weeklyCosts.length ≤ 8) (c : Kp410.Call) : (ansL (Kp410.step s c).2).length ≤ 10 := by
  by_cases hc : ∃ v, c = .create v
  · obtain ⟨v, rfl⟩ := hc
    by_cases hv : v ≤ 999
    · rw [RgN.step_create_ok s v hv]
      show 1 ≤ 10
      decide
    · rw [RgN.step_create_no s v hv]
      show 1 ≤ 10
      decide
  · have hc : ∀ v, c ≠ .create v := fun v e => hc ⟨v, e⟩
    cases s with
    | none =>
      rw [RgN.step_none c hc]
      show 1 ≤ 10
      decide
    | some M =>
      rw [RgN.step_eq M c hc]
      exact fin_short (out_short M (h M rfl) c)
end RgR

/-! the text's places and what the top has written -/
namespace Rg
open PySem PySem.Spec PyProof.Rows L2 RgC
def top (i : Nat) : Stmt := PySem.Challenge.pw_rollgrind_s01_answers.main.body.getD i (.Pass ⟨0, 0, 0, 0⟩)
/-- where the classes stand -/
structure Ad where
  Roll : Addr
  Mill : Addr
  Request : Addr
  Planner : Addr
  NoMill : Addr
  NoRoll : Addr
  OutsideLimits : Addr
  TooManyRolls : Addr
  NeverReground : Addr
structure Txt (K : PySem.W.Frag) (mg : Str → Option Value) (a : Ad) : Prop where
  cRoll : Cls K a.Roll
  cMill : Cls K a.Mill
  cRequest : Cls K a.Request
  cPlanner : Cls K a.Planner
  nR_age : NoAttr K a.Roll "age"
  nR_regrind_cost : NoAttr K a.Roll "regrind_cost"
  nR_weekly_costs : NoAttr K a.Roll "weekly_costs"
  nM_rolls : NoAttr K a.Mill "rolls"
  nM_visit_cost : NoAttr K a.Mill "visit_cost"
  nM_spent : NoAttr K a.Mill "spent"
  nM_week_count : NoAttr K a.Mill "week_count"
  nQ_mill : NoAttr K a.Request "mill"
  nP_rolls : NoAttr K a.Planner "rolls"
  nP_visit_cost : NoAttr K a.Planner "visit_cost"
  nP_known : NoAttr K a.Planner "known"
  len : mg "len" = none
  min : mg "min" = none
  sum : mg "sum" = none
  list : mg "list" = none
  tuple : mg "tuple" = none
  range : mg "range" = none
  enumerate : mg "enumerate" = none
  zip : mg "zip" = none
  k_LONGEST_PERIOD : ∃ t, mg "LONGEST_PERIOD" = some (.int 24 t)
  k_MOST_ROLLS : ∃ t, mg "MOST_ROLLS" = some (.int 3 t)
  k_MOST_WEEKLY_COSTS : ∃ t, mg "MOST_WEEKLY_COSTS" = some (.int 8 t)
  k_HIGHEST_COST : ∃ t, mg "HIGHEST_COST" = some (.int 999 t)
  k_HIGHEST_WEEKLY_COST : ∃ t, mg "HIGHEST_WEEKLY_COST" = some (.int 99 t)
  k_HIGHEST_AGE : ∃ t, mg "HIGHEST_AGE" = some (.int 99 t)
  k_MOST_WEEKS : ∃ t, mg "MOST_WEEKS" = some (.int 5 t)
  e_NoMill : Err K mg "NoMill" a.NoMill
  e_NoRoll : Err K mg "NoRoll" a.NoRoll
  e_OutsideLimits : Err K mg "OutsideLimits" a.OutsideLimits
  e_TooManyRolls : Err K mg "TooManyRolls" a.TooManyRolls
  e_NeverReground : Err K mg "NeverReground" a.NeverReground
/-! the words of the readings -/
def rAddI : R2 := rI0 fun i j => .int (i + j)
def rSubI : R2 := rI0 fun i j => .int (i - j)
def rMul : R2 := rI CMul fun i j => .int (i * j)
def rFdiv : R2 := rI CDiv fun i j => .int (i / j)
def rMod : R2 := rI (fun _ j => 0 < j) fun i j => .int (i % j)
def rShr : R2 := rI (fun _ j => 0 ≤ j) fun i j => .int (i / 2 ^ j.toNat)
def rShl : R2 := rI CPow fun i j => .int (i * 2 ^ j.toNat)
def rAnd : R2 := rI0 fun i j => .int (Builtin.bitAnd i j)
def rLt : R2 := rI0 fun i j => .bl (decide (i < j))
def rLe : R2 := rI0 fun i j => .bl (decide (i ≤ j))
def rGt : R2 := rI0 fun i j => .bl (decide (j < i))
def rGe : R2 := rI0 fun i j => .bl (decide (j ≤ i))
def rIsN : R2 := fun x y H Q => y = .non ∧ Q (.bl (decide (x = .non))) H
def rNeg : V → Hp → VK → Prop := rU fun i => .int (-i)
def rLenS (K : PySem.W.Frag) : List V → Hp → VK → Prop := fun xs H Q => ∃ p ys, xs = [.ref p] ∧ (SqL K H p ys ∨ SqT K H p ys) ∧ Q (.int ys.length) H
def rMin2 : List V → Hp → VK → Prop := fun xs H Q => ∃ i j, xs = [.int i, .int j] ∧ Q (.int (if j < i then j else i)) H
def rListOf (K : PySem.W.Frag) : List V → Hp → VK → Prop := fun xs H Q => ∃ p ys, xs = [.ref p] ∧ (SqL K H p ys ∨ SqT K H p ys) ∧ ∀ l, H l = none → Q (.ref l) (upd H l (.lst ys))
def rTupOf (K : PySem.W.Frag) : List V → Hp → VK → Prop := fun xs H Q => ∃ p ys, xs = [.ref p] ∧ ((SqL K H p ys ∧ ∀ l, H l = none → Q (.ref l) (upd H l (.tup ys))) ∨ (SqT K H p ys ∧ Q (.ref p) H))
end Rg

namespace Rg
open PySem PySem.Spec PyProof.Rows L2 RgC
abbrev s_Roll_init : Stmt := inClass (top 1) 0
abbrev n_Roll_init : List Str := ["self", "regrind_cost", "weekly_costs"]
abbrev p_Roll_init : List Str := ["self", "regrind_cost", "weekly_costs"]
theorem sc_Roll_init : FnScope n_Roll_init p_Roll_init (defScope s_Roll_init) := ⟨rfl, rfl, rfl, by decide +kernel, rfl, by decide +kernel, by decide +kernel⟩
def rd_Roll_init (P : Program) (w : World) (K : PySem.W.Frag) (a : Ad) : TS :=
    (tSeq (sFld K (tVar 0) (tC (.int 0)) "age")
    (tSeq (sFld K (tVar 0) (tVar 1) "regrind_cost")
    (sFld K (tVar 0) (tCB (rListOf K) (tCons (tVar 2) tNil)) "weekly_costs")))
theorem der_Roll_init {P : Program} {w : World} {K : PySem.W.Frag} {mg : Str → Option Value} {base : Heap} {a : Ad} (T : Txt K mg a) {k : Nat}  {f : Addr} {cdv : Value} {A : Around} {outer : List Env} {s : Shared} {H : Hp} {E : XK}
    (hr : Room (k + 1) (A.deeper (envOfC "Roll.__init__" (defScope s_Roll_init) s.heap.objs.size f cdv))) :
    PSs (cxOf CX0 P w K mg base n_Roll_init "Roll.__init__" (defScope s_Roll_init) f cdv A outer s H E).nox (defBody s_Roll_init) (rd_Roll_init P w K a) := by
  have nd := sc_Roll_init.nd
  exact (pss_cons (ps_fld (pv 0) pe_int rfl)
      (pss_cons (ps_fld (pv 0) (pv 1) rfl)
      (pss_one (ps_fld (pv 0) (pe_callTy call_list_of (by rfl) T.list (by decide +kernel) (pa_cons (pv 2) pa_nil)) rfl))))
abbrev s_Mill_init : Stmt := inClass (top 2) 0
abbrev n_Mill_init : List Str := ["self", "visit_cost"]
abbrev p_Mill_init : List Str := ["self", "visit_cost"]
theorem sc_Mill_init : FnScope n_Mill_init p_Mill_init (defScope s_Mill_init) := ⟨rfl, rfl, rfl, by decide +kernel, rfl, by decide +kernel, by decide +kernel⟩
def rd_Mill_init (P : Program) (w : World) (K : PySem.W.Frag) (a : Ad) : TS :=
    (tSeq (sFld K (tVar 0) (tLst tNil) "rolls")
    (tSeq (sFld K (tVar 0) (tVar 1) "visit_cost")
    (tSeq (sFld K (tVar 0) (tC (.int 0)) "spent")
    (sFld K (tVar 0) (tC (.int 0)) "week_count"))))
theorem der_Mill_init {P : Program} {w : World} {K : PySem.W.Frag} {mg : Str → Option Value} {base : Heap} {a : Ad} (T : Txt K mg a) {k : Nat}  {f : Addr} {cdv : Value} {A : Around} {outer : List Env} {s : Shared} {H : Hp} {E : XK}
    (hr : Room (k + 1) (A.deeper (envOfC "Mill.__init__" (defScope s_Mill_init) s.heap.objs.size f cdv))) :
    PSs (cxOf CX0 P w K mg base n_Mill_init "Mill.__init__" (defScope s_Mill_init) f cdv A outer s H E).nox (defBody s_Mill_init) (rd_Mill_init P w K a) := by
  have nd := sc_Mill_init.nd
  exact (pss_cons (ps_fld (pv 0) (pe_lst pa_nil) rfl)
      (pss_cons (ps_fld (pv 0) (pv 1) rfl)
      (pss_cons (ps_fld (pv 0) pe_int rfl)
      (pss_one (ps_fld (pv 0) pe_int rfl)))))
abbrev s_Request_init : Stmt := inClass (top 3) 0
abbrev n_Request_init : List Str := ["self"]
abbrev p_Request_init : List Str := ["self"]
theorem sc_Request_init : FnScope n_Request_init p_Request_init (defScope s_Request_init) := ⟨rfl, rfl, rfl, by decide +kernel, rfl, by decide +kernel, by decide +kernel⟩
def rd_Request_init (P : Program) (w : World) (K : PySem.W.Frag) (a : Ad) : TS :=
    (sFld K (tVar 0) (tC .non) "mill")
theorem der_Request_init {P : Program} {w : World} {K : PySem.W.Frag} {mg : Str → Option Value} {base : Heap} {a : Ad} (T : Txt K mg a) {k : Nat}  {f : Addr} {cdv : Value} {A : Around} {outer : List Env} {s : Shared} {H : Hp} {E : XK}
    (hr : Room (k + 1) (A.deeper (envOfC "Request.__init__" (defScope s_Request_init) s.heap.objs.size f cdv))) :
    PSs (cxOf CX0 P w K mg base n_Request_init "Request.__init__" (defScope s_Request_init) f cdv A outer s H E).nox (defBody s_Request_init) (rd_Request_init P w K a) := by
  have nd := sc_Request_init.nd
  exact (pss_one (ps_fld (pv 0) pe_non rfl))
abbrev s_week_cost : Stmt := top 4
abbrev n_week_cost : List Str := ["roll", "age"]
abbrev p_week_cost : List Str := ["roll", "age"]
theorem sc_week_cost : FnScope n_week_cost p_week_cost (defScope s_week_cost) := ⟨rfl, rfl, rfl, by decide +kernel, rfl, by decide +kernel, by decide +kernel⟩
def rd_week_cost (P : Program) (w : World) (K : PySem.W.Frag) (a : Ad) : TS :=
    (tRet (tOp (rIxL K) (tFld K (tVar 0) "weekly_costs") (tCB rMin2 (tCons (tVar 1) (tCons (tOp rSubI (tCB (rLenS K) (tCons (tFld K (tVar 0) "weekly_costs") tNil)) (tC (.int 1))) tNil)))))
theorem der_week_cost {P : Program} {w : World} {K : PySem.W.Frag} {mg : Str → Option Value} {base : Heap} {a : Ad} (T : Txt K mg a) {k : Nat}  {f : Addr} {cdv : Value} {A : Around} {outer : List Env} {s : Shared} {H : Hp} {E : XK}
    (hr : Room (k + 1) (A.deeper (envOfC "week_cost" (defScope s_week_cost) s.heap.objs.size f cdv))) :
    PSs (cxOf CX0 P w K mg base n_week_cost "week_cost" (defScope s_week_cost) f cdv A outer s H E).nox (defBody s_week_cost) (rd_week_cost P w K a) := by
  have nd := sc_week_cost.nd
  exact (pss_one (ps_ret (pe_ix ix_list (pe_fld (pv 0) rfl) (pe_callB (call_min2 rfl) (by rfl) T.min boot_min (pa_cons (pv 1) (pa_cons (pe_op op_sub (pe_callB call_len_seq (by rfl) T.len PySem.boot_len (pa_cons (pe_fld (pv 0) rfl) pa_nil)) pe_int) pa_nil))) (fun _ _ => rfl))))
abbrev s_period_cost : Stmt := top 7
abbrev n_period_cost : List Str := ["roll", "visit_cost", "period", "running", "age"]
abbrev p_period_cost : List Str := ["roll", "visit_cost", "period"]
theorem sc_period_cost : FnScope n_period_cost p_period_cost (defScope s_period_cost) := ⟨rfl, rfl, rfl, by decide +kernel, rfl, by decide +kernel, by decide +kernel⟩
def rd_period_cost (P : Program) (w : World) (K : PySem.W.Frag) (a : Ad) (sp_week_cost : Sp) : TS :=
    (tSeq (tAsg (tCB (rSum K) (tCons (tLc (iRng1 (tCons (tVar 2) tNil)) (gName 4) tYes (tCl sp_week_cost E0 (tCons (tVar 0) (tCons (tVar 4) tNil))) [4]) tNil)) (gName 3))
    (tRet (tOp rAddI (tOp rAddI (tFld K (tVar 0) "regrind_cost") (tVar 1)) (tVar 3))))
theorem der_period_cost {P : Program} {w : World} {K : PySem.W.Frag} {mg : Str → Option Value} {base : Heap} {a : Ad} (T : Txt K mg a) {k : Nat} {sp_week_cost : Sp} (c_week_cost : Cal P w K mg base CX0 k "week_cost" p_week_cost sp_week_cost) {f : Addr} {cdv : Value} {A : Around} {outer : List Env} {s : Shared} {H : Hp} {E : XK}
    (hr : Room (k + 1) (A.deeper (envOfC "period_cost" (defScope s_period_cost) s.heap.objs.size f cdv))) :
    PSs (cxOf CX0 P w K mg base n_period_cost "period_cost" (defScope s_period_cost) f cdv A outer s H E).nox (defBody s_period_cost) (rd_period_cost P w K a sp_week_cost) := by
  have nd := sc_period_cost.nd
  exact (pss_cons (ps_set (i := 3) nd rfl (Or.inl rfl) (pe_callB (cr_sum rfl) (by rfl) T.sum boot_sum (pa_cons (pe_lc (own := [("age", 4)]) (g := (gName 4)) (tt := tYes) rfl nd (pi_range1 (by rfl) T.range (pa_cons (pv 2) pa_nil)) (blkOk_by (N := n_period_cost) (sc := defScope s_period_cost) (by decide +kernel)) (fun _ _ _ _ _ => (pg_name (i := 4) nd rfl (Or.inl rfl))) (fun _ _ _ _ _ => pts_nil) (fun _ _ _ _ _ => (pe_c c_week_cost (hr.mono (Nat.le_succ k)) rfl (pa_cons (pv 0) (pa_cons (pv 4) pa_nil))))) pa_nil)))
      (pss_one (ps_ret (pe_op op_add (pe_op op_add (pe_fld (pv 0) rfl) (pv 1)) (pv 3)))))
abbrev s_lowest_terms : Stmt := top 8
abbrev n_lowest_terms : List Str := ["numerator", "denominator", "divisor", "rest", "left"]
abbrev p_lowest_terms : List Str := ["numerator", "denominator"]
theorem sc_lowest_terms : FnScope n_lowest_terms p_lowest_terms (defScope s_lowest_terms) := ⟨rfl, rfl, rfl, by decide +kernel, rfl, by decide +kernel, by decide +kernel⟩
def rd_lowest_terms (P : Program) (w : World) (K : PySem.W.Frag) (a : Ad) : TS :=
    (tSeq (tAsg (tVar 1) (gName 2))
    (tSeq (tAsg (tVar 0) (gName 3))
    (tSeq (tWhile (tTest (tOp rNe (tVar 3) (tC (.int 0)))) (tSeq (tAsg (tOp rMod (tVar 2) (tVar 3)) (gName 4))
    (tSeq (tAsg (tVar 3) (gName 2))
    (tAsg (tVar 4) (gName 3)))))
    (tRet (tLst (tCons (tOp rFdiv (tVar 0) (tVar 2)) (tCons (tOp rFdiv (tVar 1) (tVar 2)) tNil)))))))
theorem der_lowest_terms {P : Program} {w : World} {K : PySem.W.Frag} {mg : Str → Option Value} {base : Heap} {a : Ad} (T : Txt K mg a) {k : Nat}  {f : Addr} {cdv : Value} {A : Around} {outer : List Env} {s : Shared} {H : Hp} {E : XK}
    (hr : Room (k + 1) (A.deeper (envOfC "lowest_terms" (defScope s_lowest_terms) s.heap.objs.size f cdv))) :
    PSs (cxOf CX0 P w K mg base n_lowest_terms "lowest_terms" (defScope s_lowest_terms) f cdv A outer s H E).nox (defBody s_lowest_terms) (rd_lowest_terms P w K a) := by
  have nd := sc_lowest_terms.nd
  exact (pss_cons (ps_set (i := 2) nd rfl (Or.inl rfl) (pv 1))
      (pss_cons (ps_set (i := 3) nd rfl (Or.inl rfl) (pv 0))
      (pss_cons (ps_while PassesOwn.never (pt_cmpR op_ne (pv 3) pe_int (nomark _)) (pss_cons (ps_set (i := 4) nd rfl (Or.inl rfl) (pe_op op_mod (pv 2) (pv 3)))
      (pss_cons (ps_set (i := 2) nd rfl (Or.inl rfl) (pv 3))
      (pss_one (ps_set (i := 3) nd rfl (Or.inl rfl) (pv 4))))))
      (pss_one (ps_ret (pe_lst (pa_cons (pe_op op_fdiv (pv 0) (pv 2)) (pa_cons (pe_op op_fdiv (pv 1) (pv 2)) pa_nil))))))))
abbrev s_mean_cost : Stmt := top 9
abbrev n_mean_cost : List Str := ["roll", "visit_cost", "period"]
abbrev p_mean_cost : List Str := ["roll", "visit_cost", "period"]
theorem sc_mean_cost : FnScope n_mean_cost p_mean_cost (defScope s_mean_cost) := ⟨rfl, rfl, rfl, by decide +kernel, rfl, by decide +kernel, by decide +kernel⟩
def rd_mean_cost (P : Program) (w : World) (K : PySem.W.Frag) (a : Ad) (sp_period_cost sp_lowest_terms : Sp) : TS :=
    (tRet (tCl sp_lowest_terms E0 (tCons (tCl sp_period_cost E0 (tCons (tVar 0) (tCons (tVar 1) (tCons (tVar 2) tNil)))) (tCons (tVar 2) tNil))))
theorem der_mean_cost {P : Program} {w : World} {K : PySem.W.Frag} {mg : Str → Option Value} {base : Heap} {a : Ad} (T : Txt K mg a) {k : Nat} {sp_period_cost sp_lowest_terms : Sp} (c_period_cost : Cal P w K mg base CX0 k "period_cost" p_period_cost sp_period_cost) (c_lowest_terms : Cal P w K mg base CX0 k "lowest_terms" p_lowest_terms sp_lowest_terms) {f : Addr} {cdv : Value} {A : Around} {outer : List Env} {s : Shared} {H : Hp} {E : XK}
    (hr : Room (k + 1) (A.deeper (envOfC "mean_cost" (defScope s_mean_cost) s.heap.objs.size f cdv))) :
    PSs (cxOf CX0 P w K mg base n_mean_cost "mean_cost" (defScope s_mean_cost) f cdv A outer s H E).nox (defBody s_mean_cost) (rd_mean_cost P w K a sp_period_cost sp_lowest_terms) := by
  have nd := sc_mean_cost.nd
  exact (pss_one (ps_ret (pe_c c_lowest_terms (hr.mono (Nat.le_succ k)) rfl (pa_cons (pe_c c_period_cost (hr.mono (Nat.le_succ k)) rfl (pa_cons (pv 0) (pa_cons (pv 1) (pa_cons (pv 2) pa_nil)))) (pa_cons (pv 2) pa_nil)))))
abbrev s_cheapest_period : Stmt := top 10
abbrev n_cheapest_period : List Str := ["roll", "visit_cost", "best", "best_cost", "period", "cost"]
abbrev p_cheapest_period : List Str := ["roll", "visit_cost"]
theorem sc_cheapest_period : FnScope n_cheapest_period p_cheapest_period (defScope s_cheapest_period) := ⟨rfl, rfl, rfl, by decide +kernel, rfl, by decide +kernel, by decide +kernel⟩
def rd_cheapest_period (P : Program) (w : World) (K : PySem.W.Frag) (a : Ad) (sp_period_cost : Sp) : TS :=
    (tSeq (tAsg (tC (.int 1)) (gName 2))
    (tSeq (tAsg (tCl sp_period_cost E0 (tCons (tVar 0) (tCons (tVar 1) (tCons (tC (.int 1)) tNil)))) (gName 3))
    (tSeq (tFor (iRng2 (tCons (tC (.int 2)) (tCons (tOp rAddI (tC (.int 24)) (tC (.int 1))) tNil))) (gName 4) (tSeq (tAsg (tCl sp_period_cost E0 (tCons (tVar 0) (tCons (tVar 1) (tCons (tVar 4) tNil)))) (gName 5))
    (tIfS (tTest (tOp rLt (tOp rMul (tVar 5) (tVar 2)) (tOp rMul (tVar 3) (tVar 4)))) (tSeq (tAsg (tVar 4) (gName 2))
    (tAsg (tVar 5) (gName 3))) tNext)))
    (tRet (tVar 2)))))
theorem der_cheapest_period {P : Program} {w : World} {K : PySem.W.Frag} {mg : Str → Option Value} {base : Heap} {a : Ad} (T : Txt K mg a) {k : Nat} {sp_period_cost : Sp} (c_period_cost : Cal P w K mg base CX0 k "period_cost" p_period_cost sp_period_cost) {f : Addr} {cdv : Value} {A : Around} {outer : List Env} {s : Shared} {H : Hp} {E : XK}
    (hr : Room (k + 1) (A.deeper (envOfC "cheapest_period" (defScope s_cheapest_period) s.heap.objs.size f cdv))) :
    PSs (cxOf CX0 P w K mg base n_cheapest_period "cheapest_period" (defScope s_cheapest_period) f cdv A outer s H E).nox (defBody s_cheapest_period) (rd_cheapest_period P w K a sp_period_cost) := by
  have nd := sc_cheapest_period.nd
  exact (pss_cons (ps_set (i := 2) nd rfl (Or.inl rfl) pe_int)
      (pss_cons (ps_set (i := 3) nd rfl (Or.inl rfl) (pe_c c_period_cost (hr.mono (Nat.le_succ k)) rfl (pa_cons (pv 0) (pa_cons (pv 1) (pa_cons pe_int pa_nil)))))
      (pss_cons (ps_for PassesOwn.never rfl (pi_range2 (by rfl) T.range (pa_cons pe_int (pa_cons (pe_op op_add (pe_k rfl T.k_LONGEST_PERIOD) pe_int) pa_nil))) (pg_name (i := 4) nd rfl (Or.inl rfl)) (pss_cons (ps_set (i := 5) nd rfl (Or.inl rfl) (pe_c c_period_cost (hr.mono (Nat.le_succ k)) rfl (pa_cons (pv 0) (pa_cons (pv 1) (pa_cons (pv 4) pa_nil)))))
      (pss_one (ps_if (pt_cmpR op_lt (pe_op op_mul (pv 5) (pv 2)) (pe_op op_mul (pv 3) (pv 4)) (nomark _)) (pss_cons (ps_set (i := 2) nd rfl (Or.inl rfl) (pv 4))
      (pss_one (ps_set (i := 3) nd rfl (Or.inl rfl) (pv 5)))) pss_nil))))
      (pss_one (ps_ret (pv 2))))))
abbrev s_ages_now : Stmt := top 12
abbrev n_ages_now : List Str := ["rolls", "roll"]
abbrev p_ages_now : List Str := ["rolls"]
theorem sc_ages_now : FnScope n_ages_now p_ages_now (defScope s_ages_now) := ⟨rfl, rfl, rfl, by decide +kernel, rfl, by decide +kernel, by decide +kernel⟩
def rd_ages_now (P : Program) (w : World) (K : PySem.W.Frag) (a : Ad) : TS :=
    (tRet (tLc (iList K (tVar 0)) (gName 1) tYes (tFld K (tVar 1) "age") [1]))
theorem der_ages_now {P : Program} {w : World} {K : PySem.W.Frag} {mg : Str → Option Value} {base : Heap} {a : Ad} (T : Txt K mg a) {k : Nat}  {f : Addr} {cdv : Value} {A : Around} {outer : List Env} {s : Shared} {H : Hp} {E : XK}
    (hr : Room (k + 1) (A.deeper (envOfC "ages_now" (defScope s_ages_now) s.heap.objs.size f cdv))) :
    PSs (cxOf CX0 P w K mg base n_ages_now "ages_now" (defScope s_ages_now) f cdv A outer s H E).nox (defBody s_ages_now) (rd_ages_now P w K a) := by
  have nd := sc_ages_now.nd
  exact (pss_one (ps_ret (pe_lc (own := [("roll", 1)]) (g := (gName 1)) (tt := tYes) rfl nd (pi_list (pv 0)) (blkOk_by (N := n_ages_now) (sc := defScope s_ages_now) (by decide +kernel)) (fun _ _ _ _ _ => (pg_name (i := 1) nd rfl (Or.inl rfl))) (fun _ _ _ _ _ => pts_nil) (fun _ _ _ _ _ => (pe_fld (pv 1) rfl)))))
abbrev s_is_reground : Stmt := top 13
abbrev n_is_reground : List Str := ["number", "chosen"]
abbrev p_is_reground : List Str := ["number", "chosen"]
theorem sc_is_reground : FnScope n_is_reground p_is_reground (defScope s_is_reground) := ⟨rfl, rfl, rfl, by decide +kernel, rfl, by decide +kernel, by decide +kernel⟩
def rd_is_reground (P : Program) (w : World) (K : PySem.W.Frag) (a : Ad) : TS :=
    (tRet (tOp rEq (tOp rAnd (tOp rShr (tVar 1) (tVar 0)) (tC (.int 1))) (tC (.int 1))))
theorem der_is_reground {P : Program} {w : World} {K : PySem.W.Frag} {mg : Str → Option Value} {base : Heap} {a : Ad} (T : Txt K mg a) {k : Nat}  {f : Addr} {cdv : Value} {A : Around} {outer : List Env} {s : Shared} {H : Hp} {E : XK}
    (hr : Room (k + 1) (A.deeper (envOfC "is_reground" (defScope s_is_reground) s.heap.objs.size f cdv))) :
    PSs (cxOf CX0 P w K mg base n_is_reground "is_reground" (defScope s_is_reground) f cdv A outer s H E).nox (defBody s_is_reground) (rd_is_reground P w K a) := by
  have nd := sc_is_reground.nd
  exact (pss_one (ps_ret (pe_cmpR op_eq (pe_op op_and (pe_op op_shr (pv 1) (pv 0)) pe_int) pe_int (nomark _))))
abbrev s_regrind : Stmt := top 14
abbrev n_regrind : List Str := ["ages", "chosen", "number", "age"]
abbrev p_regrind : List Str := ["ages", "chosen"]
theorem sc_regrind : FnScope n_regrind p_regrind (defScope s_regrind) := ⟨rfl, rfl, rfl, by decide +kernel, rfl, by decide +kernel, by decide +kernel⟩
def rd_regrind (P : Program) (w : World) (K : PySem.W.Frag) (a : Ad) (sp_is_reground : Sp) : TS :=
    (tRet (tLc (iEnumS K (tCons (tVar 0) tNil)) (gTup K 2 (gCons (gName 2) (gCons (gName 3) gNil))) tYes (tIf (tB (tCl sp_is_reground E0 (tCons (tVar 2) (tCons (tVar 1) tNil)))) (tC (.int 0)) (tVar 3)) [2, 3]))
theorem der_regrind {P : Program} {w : World} {K : PySem.W.Frag} {mg : Str → Option Value} {base : Heap} {a : Ad} (T : Txt K mg a) {k : Nat} {sp_is_reground : Sp} (c_is_reground : Cal P w K mg base CX0 k "is_reground" p_is_reground sp_is_reground) {f : Addr} {cdv : Value} {A : Around} {outer : List Env} {s : Shared} {H : Hp} {E : XK}
    (hr : Room (k + 1) (A.deeper (envOfC "regrind" (defScope s_regrind) s.heap.objs.size f cdv))) :
    PSs (cxOf CX0 P w K mg base n_regrind "regrind" (defScope s_regrind) f cdv A outer s H E).nox (defBody s_regrind) (rd_regrind P w K a sp_is_reground) := by
  have nd := sc_regrind.nd
  exact (pss_one (ps_ret (pe_lc (own := [("number", 2), ("age", 3)]) (g := (gTup K 2 (gCons (gName 2) (gCons (gName 3) gNil)))) (tt := tYes) rfl nd (pi_enumS (by rfl) T.enumerate (pa_cons (pv 0) pa_nil)) (blkOk_by (N := n_regrind) (sc := defScope s_regrind) (by decide +kernel)) (fun _ _ _ _ _ => (pg_tup rfl (pgs_cons (pg_name (i := 2) nd rfl (Or.inl rfl)) (pgs_cons (pg_name (i := 3) nd rfl (Or.inl rfl)) pgs_nil)))) (fun _ _ _ _ _ => pts_nil) (fun _ _ _ _ _ => (pe_ifExp (pt_val (pe_c c_is_reground (hr.mono (Nat.le_succ k)) rfl (pa_cons (pv 2) (pa_cons (pv 1) pa_nil)))) pe_int (pv 3))))))
abbrev s_cost_of_week : Stmt := top 15
abbrev n_cost_of_week : List Str := ["rolls", "visit_cost", "ages", "chosen", "cost", "running_ages", "number", "roll"]
abbrev p_cost_of_week : List Str := ["rolls", "visit_cost", "ages", "chosen"]
theorem sc_cost_of_week : FnScope n_cost_of_week p_cost_of_week (defScope s_cost_of_week) := ⟨rfl, rfl, rfl, by decide +kernel, rfl, by decide +kernel, by decide +kernel⟩
def rd_cost_of_week (P : Program) (w : World) (K : PySem.W.Frag) (a : Ad) (sp_regrind sp_is_reground sp_week_cost : Sp) : TS :=
    (tSeq (tAsg (tIf (tTest (tOp rEq (tVar 3) (tC (.int 0)))) (tC (.int 0)) (tVar 1)) (gName 4))
    (tSeq (tAsg (tCl sp_regrind E0 (tCons (tVar 2) (tCons (tVar 3) tNil))) (gName 5))
    (tSeq (tFor (iEnum K (tCons (tVar 0) tNil)) (gTup K 2 (gCons (gName 6) (gCons (gName 7) gNil))) (tSeq (tIfS (tB (tCl sp_is_reground E0 (tCons (tVar 6) (tCons (tVar 3) tNil)))) (tAug 4 (tFld K (tVar 7) "regrind_cost") (ipI fun i j => i + j)) tNext)
    (tAug 4 (tCl sp_week_cost E0 (tCons (tVar 7) (tCons (tOp (rIxL K) (tVar 5) (tVar 6)) tNil))) (ipI fun i j => i + j))))
    (tRet (tVar 4)))))
theorem der_cost_of_week {P : Program} {w : World} {K : PySem.W.Frag} {mg : Str → Option Value} {base : Heap} {a : Ad} (T : Txt K mg a) {k : Nat} {sp_regrind sp_is_reground sp_week_cost : Sp} (c_regrind : Cal P w K mg base CX0 k "regrind" p_regrind sp_regrind) (c_is_reground : Cal P w K mg base CX0 k "is_reground" p_is_reground sp_is_reground) (c_week_cost : Cal P w K mg base CX0 k "week_cost" p_week_cost sp_week_cost) {f : Addr} {cdv : Value} {A : Around} {outer : List Env} {s : Shared} {H : Hp} {E : XK}
    (hr : Room (k + 1) (A.deeper (envOfC "cost_of_week" (defScope s_cost_of_week) s.heap.objs.size f cdv))) :
    PSs (cxOf CX0 P w K mg base n_cost_of_week "cost_of_week" (defScope s_cost_of_week) f cdv A outer s H E).nox (defBody s_cost_of_week) (rd_cost_of_week P w K a sp_regrind sp_is_reground sp_week_cost) := by
  have nd := sc_cost_of_week.nd
  exact (pss_cons (ps_set (i := 4) nd rfl (Or.inl rfl) (pe_ifExp (pt_cmpR op_eq (pv 3) pe_int (nomark _)) pe_int (pv 1)))
      (pss_cons (ps_set (i := 5) nd rfl (Or.inl rfl) (pe_c c_regrind (hr.mono (Nat.le_succ k)) rfl (pa_cons (pv 2) (pa_cons (pv 3) pa_nil))))
      (pss_cons (ps_for PassesOwn.never rfl (pi_enum (by rfl) T.enumerate (pa_cons (pv 0) pa_nil)) (pg_tup rfl (pgs_cons (pg_name (i := 6) nd rfl (Or.inl rfl)) (pgs_cons (pg_name (i := 7) nd rfl (Or.inl rfl)) pgs_nil))) (pss_cons (ps_if (pt_val (pe_c c_is_reground (hr.mono (Nat.le_succ k)) rfl (pa_cons (pv 6) (pa_cons (pv 3) pa_nil)))) (pss_one (ps_aug (i := 4) nd rfl (Or.inl rfl) (pe_fld (pv 7) rfl) ip_add)) pss_nil)
      (pss_one (ps_aug (i := 4) nd rfl (Or.inl rfl) (pe_c c_week_cost (hr.mono (Nat.le_succ k)) rfl (pa_cons (pv 7) (pa_cons (pe_ix ix_list (pv 5) (pv 6) (fun _ _ => rfl)) pa_nil))) ip_add))))
      (pss_one (ps_ret (pv 4))))))
abbrev s_ages_after_week : Stmt := top 16
abbrev n_ages_after_week : List Str := ["ages", "chosen", "age"]
abbrev p_ages_after_week : List Str := ["ages", "chosen"]
theorem sc_ages_after_week : FnScope n_ages_after_week p_ages_after_week (defScope s_ages_after_week) := ⟨rfl, rfl, rfl, by decide +kernel, rfl, by decide +kernel, by decide +kernel⟩
def rd_ages_after_week (P : Program) (w : World) (K : PySem.W.Frag) (a : Ad) (sp_regrind : Sp) : TS :=
    (tRet (tLc (iList K (tCl sp_regrind E0 (tCons (tVar 0) (tCons (tVar 1) tNil)))) (gName 2) tYes (tOp rAddI (tVar 2) (tC (.int 1))) [2]))
theorem der_ages_after_week {P : Program} {w : World} {K : PySem.W.Frag} {mg : Str → Option Value} {base : Heap} {a : Ad} (T : Txt K mg a) {k : Nat} {sp_regrind : Sp} (c_regrind : Cal P w K mg base CX0 k "regrind" p_regrind sp_regrind) {f : Addr} {cdv : Value} {A : Around} {outer : List Env} {s : Shared} {H : Hp} {E : XK}
    (hr : Room (k + 1) (A.deeper (envOfC "ages_after_week" (defScope s_ages_after_week) s.heap.objs.size f cdv))) :
    PSs (cxOf CX0 P w K mg base n_ages_after_week "ages_after_week" (defScope s_ages_after_week) f cdv A outer s H E).nox (defBody s_ages_after_week) (rd_ages_after_week P w K a sp_regrind) := by
  have nd := sc_ages_after_week.nd
  exact (pss_one (ps_ret (pe_lc (own := [("age", 2)]) (g := (gName 2)) (tt := tYes) rfl nd (pi_list (pe_c c_regrind (hr.mono (Nat.le_succ k)) rfl (pa_cons (pv 0) (pa_cons (pv 1) pa_nil)))) (blkOk_by (N := n_ages_after_week) (sc := defScope s_ages_after_week) (by decide +kernel)) (fun _ _ _ _ _ => (pg_name (i := 2) nd rfl (Or.inl rfl))) (fun _ _ _ _ _ => pts_nil) (fun _ _ _ _ _ => (pe_op op_add (pv 2) pe_int)))))
abbrev s_cost_of_plan : Stmt := top 17
abbrev n_cost_of_plan : List Str := ["rolls", "visit_cost", "plan", "cost", "ages", "chosen"]
abbrev p_cost_of_plan : List Str := ["rolls", "visit_cost", "plan"]
theorem sc_cost_of_plan : FnScope n_cost_of_plan p_cost_of_plan (defScope s_cost_of_plan) := ⟨rfl, rfl, rfl, by decide +kernel, rfl, by decide +kernel, by decide +kernel⟩
def rd_cost_of_plan (P : Program) (w : World) (K : PySem.W.Frag) (a : Ad) (sp_ages_now sp_cost_of_week sp_ages_after_week : Sp) : TS :=
    (tSeq (tAsg (tC (.int 0)) (gName 3))
    (tSeq (tAsg (tCl sp_ages_now E0 (tCons (tVar 0) tNil)) (gName 4))
    (tSeq (tFor (iList K (tVar 2)) (gName 5) (tSeq (tAug 3 (tCl sp_cost_of_week E0 (tCons (tVar 0) (tCons (tVar 1) (tCons (tVar 4) (tCons (tVar 5) tNil))))) (ipI fun i j => i + j))
    (tAsg (tCl sp_ages_after_week E0 (tCons (tVar 4) (tCons (tVar 5) tNil))) (gName 4))))
    (tRet (tVar 3)))))
theorem der_cost_of_plan {P : Program} {w : World} {K : PySem.W.Frag} {mg : Str → Option Value} {base : Heap} {a : Ad} (T : Txt K mg a) {k : Nat} {sp_ages_now sp_cost_of_week sp_ages_after_week : Sp} (c_ages_now : Cal P w K mg base CX0 k "ages_now" p_ages_now sp_ages_now) (c_cost_of_week : Cal P w K mg base CX0 k "cost_of_week" p_cost_of_week sp_cost_of_week) (c_ages_after_week : Cal P w K mg base CX0 k "ages_after_week" p_ages_after_week sp_ages_after_week) {f : Addr} {cdv : Value} {A : Around} {outer : List Env} {s : Shared} {H : Hp} {E : XK}
    (hr : Room (k + 1) (A.deeper (envOfC "cost_of_plan" (defScope s_cost_of_plan) s.heap.objs.size f cdv))) :
    PSs (cxOf CX0 P w K mg base n_cost_of_plan "cost_of_plan" (defScope s_cost_of_plan) f cdv A outer s H E).nox (defBody s_cost_of_plan) (rd_cost_of_plan P w K a sp_ages_now sp_cost_of_week sp_ages_after_week) := by
  have nd := sc_cost_of_plan.nd
  exact (pss_cons (ps_set (i := 3) nd rfl (Or.inl rfl) pe_int)
      (pss_cons (ps_set (i := 4) nd rfl (Or.inl rfl) (pe_c c_ages_now (hr.mono (Nat.le_succ k)) rfl (pa_cons (pv 0) pa_nil)))
      (pss_cons (ps_for PassesOwn.never rfl (pi_list (pv 2)) (pg_name (i := 5) nd rfl (Or.inl rfl)) (pss_cons (ps_aug (i := 3) nd rfl (Or.inl rfl) (pe_c c_cost_of_week (hr.mono (Nat.le_succ k)) rfl (pa_cons (pv 0) (pa_cons (pv 1) (pa_cons (pv 4) (pa_cons (pv 5) pa_nil))))) ip_add)
      (pss_one (ps_set (i := 4) nd rfl (Or.inl rfl) (pe_c c_ages_after_week (hr.mono (Nat.le_succ k)) rfl (pa_cons (pv 4) (pa_cons (pv 5) pa_nil)))))))
      (pss_one (ps_ret (pv 3))))))
end Rg

namespace Rg
open PySem PySem.Spec PyProof.Rows L2 RgC
abbrev s_Planner_init : Stmt := inClass (top 18) 0
abbrev n_Planner_init : List Str := ["self", "rolls", "visit_cost"]
abbrev p_Planner_init : List Str := ["self", "rolls", "visit_cost"]
theorem sc_Planner_init : FnScope n_Planner_init p_Planner_init (defScope s_Planner_init) := ⟨rfl, rfl, rfl, by decide +kernel, rfl, by decide +kernel, by decide +kernel⟩
def rd_Planner_init (P : Program) (w : World) (K : PySem.W.Frag) (a : Ad) : TS :=
    (tSeq (sFld K (tVar 0) (tVar 1) "rolls")
    (tSeq (sFld K (tVar 0) (tVar 2) "visit_cost")
    (sFld K (tVar 0) (RgB.tNNew P w) "known")))
theorem der_Planner_init {P : Program} {w : World} {K : PySem.W.Frag} {mg : Str → Option Value} {base : Heap} {a : Ad} (T : Txt K mg a) {k : Nat}  {f : Addr} {cdv : Value} {A : Around} {outer : List Env} {s : Shared} {H : Hp} {E : XK}
    (hr : Room (k + 1) (A.deeper (envOfC "Planner.__init__" (defScope s_Planner_init) s.heap.objs.size f cdv))) :
    PSs (cxOf CX0 P w K mg base n_Planner_init "Planner.__init__" (defScope s_Planner_init) f cdv A outer s H E).nox (defBody s_Planner_init) (rd_Planner_init P w K a) := by
  have nd := sc_Planner_init.nd
  exact (pss_cons (ps_fld (pv 0) (pv 1) rfl)
      (pss_cons (ps_fld (pv 0) (pv 2) rfl)
      (pss_one (ps_fld (pv 0) RgB.pe_nnew rfl))))
abbrev s_pl_cheapest : Stmt := inClass (top 18) 1
abbrev n_pl_cheapest : List Str := ["self", "weeks"]
abbrev p_pl_cheapest : List Str := ["self", "weeks"]
theorem sc_pl_cheapest : FnScope n_pl_cheapest p_pl_cheapest (defScope s_pl_cheapest) := ⟨rfl, rfl, rfl, by decide +kernel, rfl, by decide +kernel, by decide +kernel⟩
def rd_pl_cheapest (P : Program) (w : World) (K : PySem.W.Frag) (a : Ad) (sp_ages_now sp_pl_cheapest_from : Sp) : TS :=
    (tRet (tMt a.Planner "cheapest_from" sp_pl_cheapest_from (tVar 0) (tCons (tCB (rTupOf K) (tCons (tCl sp_ages_now E0 (tCons (tFld K (tVar 0) "rolls") tNil)) tNil)) (tCons (tVar 1) tNil))))
theorem der_pl_cheapest {P : Program} {w : World} {K : PySem.W.Frag} {mg : Str → Option Value} {base : Heap} {a : Ad} (T : Txt K mg a) {k : Nat} {sp_ages_now sp_pl_cheapest_from : Sp} (c_ages_now : Cal P w K mg base CX0 k "ages_now" p_ages_now sp_ages_now) (m_cheapest_from : Met P w K mg base k a.Planner "cheapest_from" p_pl_cheapest_from sp_pl_cheapest_from) {f : Addr} {cdv : Value} {A : Around} {outer : List Env} {s : Shared} {H : Hp} {E : XK}
    (hr : Room (k + 1) (A.deeper (envOfC "Planner.cheapest" (defScope s_pl_cheapest) s.heap.objs.size f cdv))) :
    PSs (cxOf CX0 P w K mg base n_pl_cheapest "Planner.cheapest" (defScope s_pl_cheapest) f cdv A outer s H E).nox (defBody s_pl_cheapest) (rd_pl_cheapest P w K a sp_ages_now sp_pl_cheapest_from) := by
  have nd := sc_pl_cheapest.nd
  exact (pss_one (ps_ret (pe_m m_cheapest_from (hr.mono (Nat.le_succ k)) (pv 0) (pa_cons (pe_callTy call_tuple_of (by rfl) T.tuple (by decide +kernel) (pa_cons (pe_c c_ages_now (hr.mono (Nat.le_succ k)) rfl (pa_cons (pe_fld (pv 0) rfl) pa_nil)) pa_nil)) (pa_cons (pv 1) pa_nil)))))
abbrev s_pl_cheapest_from : Stmt := inClass (top 18) 2
abbrev n_pl_cheapest_from : List Str := ["self", "ages", "weeks"]
abbrev p_pl_cheapest_from : List Str := ["self", "ages", "weeks"]
theorem sc_pl_cheapest_from : FnScope n_pl_cheapest_from p_pl_cheapest_from (defScope s_pl_cheapest_from) := ⟨rfl, rfl, rfl, by decide +kernel, rfl, by decide +kernel, by decide +kernel⟩
def rd_pl_cheapest_from (P : Program) (w : World) (K : PySem.W.Frag) (a : Ad) (sp_pl_cheapest_of_all_sets : Sp) : TS :=
    (tSeq (tIfS (tTest (tOp rEq (tVar 2) (tC (.int 0)))) (tRet (tTup (tCons (tC (.int 0)) (tCons (tTup tNil) tNil)))) tNext)
    (tSeq (tIfS (tB (RgB.tNNotIn P w (tTup (tCons (tVar 1) (tCons (tVar 2) tNil))) (tFld K (tVar 0) "known"))) (RgB.sNPut P w (tFld K (tVar 0) "known") (tTup (tCons (tVar 1) (tCons (tVar 2) tNil))) (tMt a.Planner "cheapest_of_all_sets" sp_pl_cheapest_of_all_sets (tVar 0) (tCons (tVar 1) (tCons (tVar 2) tNil)))) tNext)
    (tRet (RgB.tNGet P w (tFld K (tVar 0) "known") (tTup (tCons (tVar 1) (tCons (tVar 2) tNil)))))))
theorem der_pl_cheapest_from {P : Program} {w : World} {K : PySem.W.Frag} {mg : Str → Option Value} {base : Heap} {a : Ad} (T : Txt K mg a) {k : Nat} {sp_pl_cheapest_of_all_sets : Sp} (m_cheapest_of_all_sets : Met P w K mg base k a.Planner "cheapest_of_all_sets" p_pl_cheapest_of_all_sets sp_pl_cheapest_of_all_sets) {f : Addr} {cdv : Value} {A : Around} {outer : List Env} {s : Shared} {H : Hp} {E : XK}
    (hr : Room (k + 1) (A.deeper (envOfC "Planner.cheapest_from" (defScope s_pl_cheapest_from) s.heap.objs.size f cdv))) :
    PSs (cxOf CX0 P w K mg base n_pl_cheapest_from "Planner.cheapest_from" (defScope s_pl_cheapest_from) f cdv A outer s H E).nox (defBody s_pl_cheapest_from) (rd_pl_cheapest_from P w K a sp_pl_cheapest_of_all_sets) := by
  have nd := sc_pl_cheapest_from.nd
  exact (pss_cons (ps_if (pt_cmpR op_eq (pv 2) pe_int (nomark _)) (pss_one (ps_ret (pe_tup (pa_cons pe_int (pa_cons (pe_tup pa_nil) pa_nil))))) pss_nil)
      (pss_cons (ps_if (pt_cmp (RgB.pc_nnotin (Room.units hr) (pe_tup (pa_cons (pv 1) (pa_cons (pv 2) pa_nil))) (pe_fld (pv 0) rfl))) (pss_one (RgB.ps_nput (Room.units hr) (pe_fld (pv 0) rfl) (pe_tup (pa_cons (pv 1) (pa_cons (pv 2) pa_nil))) (pe_m m_cheapest_of_all_sets (hr.mono (Nat.le_succ k)) (pv 0) (pa_cons (pv 1) (pa_cons (pv 2) pa_nil))) rfl)) pss_nil)
      (pss_one (ps_ret (RgB.pe_nget (Room.units hr) (pe_fld (pv 0) rfl) (pe_tup (pa_cons (pv 1) (pa_cons (pv 2) pa_nil))) (fun _ _ => rfl))))))
abbrev s_pl_cheapest_of_all_sets : Stmt := inClass (top 18) 3
abbrev n_pl_cheapest_of_all_sets : List Str := ["self", "ages", "weeks", "best", "chosen", "other"]
abbrev p_pl_cheapest_of_all_sets : List Str := ["self", "ages", "weeks"]
theorem sc_pl_cheapest_of_all_sets : FnScope n_pl_cheapest_of_all_sets p_pl_cheapest_of_all_sets (defScope s_pl_cheapest_of_all_sets) := ⟨rfl, rfl, rfl, by decide +kernel, rfl, by decide +kernel, by decide +kernel⟩
def rd_pl_cheapest_of_all_sets (P : Program) (w : World) (K : PySem.W.Frag) (a : Ad) (sp_pl_cheapest_with : Sp) : TS :=
    (tSeq (tAsg (tMt a.Planner "cheapest_with" sp_pl_cheapest_with (tVar 0) (tCons (tVar 1) (tCons (tVar 2) (tCons (tC (.int 0)) tNil)))) (gName 3))
    (tSeq (tFor (iRng2 (tCons (tC (.int 1)) (tCons (tOp rShl (tC (.int 1)) (tCB (rLenS K) (tCons (tFld K (tVar 0) "rolls") tNil))) tNil))) (gName 4) (tSeq (tAsg (tMt a.Planner "cheapest_with" sp_pl_cheapest_with (tVar 0) (tCons (tVar 1) (tCons (tVar 2) (tCons (tVar 4) tNil)))) (gName 5))
    (tIfS (tTest (tOp rLt (tOp (rIxT K) (tVar 5) (tC (.int 0))) (tOp (rIxT K) (tVar 3) (tC (.int 0))))) (tAsg (tVar 5) (gName 3)) tNext)))
    (tRet (tVar 3))))
theorem der_pl_cheapest_of_all_sets {P : Program} {w : World} {K : PySem.W.Frag} {mg : Str → Option Value} {base : Heap} {a : Ad} (T : Txt K mg a) {k : Nat} {sp_pl_cheapest_with : Sp} (m_cheapest_with : Met P w K mg base k a.Planner "cheapest_with" p_pl_cheapest_with sp_pl_cheapest_with) {f : Addr} {cdv : Value} {A : Around} {outer : List Env} {s : Shared} {H : Hp} {E : XK}
    (hr : Room (k + 1) (A.deeper (envOfC "Planner.cheapest_of_all_sets" (defScope s_pl_cheapest_of_all_sets) s.heap.objs.size f cdv))) :
    PSs (cxOf CX0 P w K mg base n_pl_cheapest_of_all_sets "Planner.cheapest_of_all_sets" (defScope s_pl_cheapest_of_all_sets) f cdv A outer s H E).nox (defBody s_pl_cheapest_of_all_sets) (rd_pl_cheapest_of_all_sets P w K a sp_pl_cheapest_with) := by
  have nd := sc_pl_cheapest_of_all_sets.nd
  exact (pss_cons (ps_set (i := 3) nd rfl (Or.inl rfl) (pe_m m_cheapest_with (hr.mono (Nat.le_succ k)) (pv 0) (pa_cons (pv 1) (pa_cons (pv 2) (pa_cons pe_int pa_nil)))))
      (pss_cons (ps_for PassesOwn.never rfl (pi_range2 (by rfl) T.range (pa_cons pe_int (pa_cons (pe_op op_shl pe_int (pe_callB call_len_seq (by rfl) T.len PySem.boot_len (pa_cons (pe_fld (pv 0) rfl) pa_nil))) pa_nil))) (pg_name (i := 4) nd rfl (Or.inl rfl)) (pss_cons (ps_set (i := 5) nd rfl (Or.inl rfl) (pe_m m_cheapest_with (hr.mono (Nat.le_succ k)) (pv 0) (pa_cons (pv 1) (pa_cons (pv 2) (pa_cons (pv 4) pa_nil)))))
      (pss_one (ps_if (pt_cmpR op_lt (pe_ix ix_tup (pv 5) pe_int (fun _ _ => rfl)) (pe_ix ix_tup (pv 3) pe_int (fun _ _ => rfl)) (nomark _)) (pss_one (ps_set (i := 3) nd rfl (Or.inl rfl) (pv 5))) pss_nil))))
      (pss_one (ps_ret (pv 3)))))
abbrev s_pl_cheapest_with : Stmt := inClass (top 18) 4
abbrev n_pl_cheapest_with : List Str := ["self", "ages", "weeks", "chosen", "first_cost", "later"]
abbrev p_pl_cheapest_with : List Str := ["self", "ages", "weeks", "chosen"]
theorem sc_pl_cheapest_with : FnScope n_pl_cheapest_with p_pl_cheapest_with (defScope s_pl_cheapest_with) := ⟨rfl, rfl, rfl, by decide +kernel, rfl, by decide +kernel, by decide +kernel⟩
def rd_pl_cheapest_with (P : Program) (w : World) (K : PySem.W.Frag) (a : Ad) (sp_cost_of_week sp_ages_after_week sp_pl_cheapest_from : Sp) : TS :=
    (tSeq (tAsg (tCl sp_cost_of_week E0 (tCons (tFld K (tVar 0) "rolls") (tCons (tFld K (tVar 0) "visit_cost") (tCons (tVar 1) (tCons (tVar 3) tNil))))) (gName 4))
    (tSeq (tAsg (tMt a.Planner "cheapest_from" sp_pl_cheapest_from (tVar 0) (tCons (tCB (rTupOf K) (tCons (tCl sp_ages_after_week E0 (tCons (tVar 1) (tCons (tVar 3) tNil))) tNil)) (tCons (tOp rSubI (tVar 2) (tC (.int 1))) tNil))) (gName 5))
    (tRet (tTup (tCons (tOp rAddI (tVar 4) (tOp (rIxT K) (tVar 5) (tC (.int 0)))) (tCons (tOp (rCatT K) (tTup (tCons (tVar 3) tNil)) (tOp (rIxT K) (tVar 5) (tC (.int 1)))) tNil))))))
theorem der_pl_cheapest_with {P : Program} {w : World} {K : PySem.W.Frag} {mg : Str → Option Value} {base : Heap} {a : Ad} (T : Txt K mg a) {k : Nat} {sp_cost_of_week sp_ages_after_week sp_pl_cheapest_from : Sp} (c_cost_of_week : Cal P w K mg base CX0 k "cost_of_week" p_cost_of_week sp_cost_of_week) (c_ages_after_week : Cal P w K mg base CX0 k "ages_after_week" p_ages_after_week sp_ages_after_week) (m_cheapest_from : Met P w K mg base k a.Planner "cheapest_from" p_pl_cheapest_from sp_pl_cheapest_from) {f : Addr} {cdv : Value} {A : Around} {outer : List Env} {s : Shared} {H : Hp} {E : XK}
    (hr : Room (k + 1) (A.deeper (envOfC "Planner.cheapest_with" (defScope s_pl_cheapest_with) s.heap.objs.size f cdv))) :
    PSs (cxOf CX0 P w K mg base n_pl_cheapest_with "Planner.cheapest_with" (defScope s_pl_cheapest_with) f cdv A outer s H E).nox (defBody s_pl_cheapest_with) (rd_pl_cheapest_with P w K a sp_cost_of_week sp_ages_after_week sp_pl_cheapest_from) := by
  have nd := sc_pl_cheapest_with.nd
  exact (pss_cons (ps_set (i := 4) nd rfl (Or.inl rfl) (pe_c c_cost_of_week (hr.mono (Nat.le_succ k)) rfl (pa_cons (pe_fld (pv 0) rfl) (pa_cons (pe_fld (pv 0) rfl) (pa_cons (pv 1) (pa_cons (pv 3) pa_nil))))))
      (pss_cons (ps_set (i := 5) nd rfl (Or.inl rfl) (pe_m m_cheapest_from (hr.mono (Nat.le_succ k)) (pv 0) (pa_cons (pe_callTy call_tuple_of (by rfl) T.tuple (by decide +kernel) (pa_cons (pe_c c_ages_after_week (hr.mono (Nat.le_succ k)) rfl (pa_cons (pv 1) (pa_cons (pv 3) pa_nil))) pa_nil)) (pa_cons (pe_op op_sub (pv 2) pe_int) pa_nil))))
      (pss_one (ps_ret (pe_tup (pa_cons (pe_op op_add (pv 4) (pe_ix ix_tup (pv 5) pe_int (fun _ _ => rfl))) (pa_cons (pe_op op_catT (pe_tup (pa_cons (pv 3) pa_nil)) (pe_ix ix_tup (pv 5) pe_int (fun _ _ => rfl))) pa_nil)))))))
abbrev s_check_limits : Stmt := top 32
abbrev n_check_limits : List Str := ["number", "lowest", "highest"]
abbrev p_check_limits : List Str := ["number", "lowest", "highest"]
theorem sc_check_limits : FnScope n_check_limits p_check_limits (defScope s_check_limits) := ⟨rfl, rfl, rfl, by decide +kernel, rfl, by decide +kernel, by decide +kernel⟩
def rd_check_limits (P : Program) (w : World) (K : PySem.W.Frag) (a : Ad) (E : XK) : TS :=
    (tIfS (tOr (tTest (tOp rLt (tVar 0) (tVar 1))) (tTest (tOp rGt (tVar 0) (tVar 2)))) (fun _ _ H => E (.ref a.OutsideLimits) none H) tNext)
theorem der_check_limits {P : Program} {w : World} {K : PySem.W.Frag} {mg : Str → Option Value} {base : Heap} {a : Ad} (T : Txt K mg a) {k : Nat}  {f : Addr} {cdv : Value} {A : Around} {outer : List Env} {s : Shared} {H : Hp} {E : XK}
    (hr : Room (k + 1) (A.deeper (envOfC "check_limits" (defScope s_check_limits) s.heap.objs.size f cdv))) :
    PSs (cxOf (L2.CX P w) P w K mg base n_check_limits "check_limits" (defScope s_check_limits) f cdv A outer s H E) (defBody s_check_limits) (rd_check_limits P w K a E) := by
  have nd := sc_check_limits.nd
  exact (pss_one (ps_if (PW.pt (pw_or (pt_cmpR op_lt (pv 0) (pv 1) (nomark _)) (pw_or1 (pt_cmpR op_gt (pv 0) (pv 2) (nomark _))))) (pss_one (ps_err T.e_OutsideLimits rfl (takes_of rfl rfl rfl rfl) rfl)) pss_nil))
def rd_check_limits_0 (P : Program) (w : World) (K : PySem.W.Frag) (a : Ad) : TS :=
    (tIfS (tOr (tTest (tOp rLt (tVar 0) (tVar 1))) (tTest (tOp rGt (tVar 0) (tVar 2)))) tNever tNext)
theorem der_check_limits_0 {P : Program} {w : World} {K : PySem.W.Frag} {mg : Str → Option Value} {base : Heap} {a : Ad} (T : Txt K mg a) {k : Nat}  {f : Addr} {cdv : Value} {A : Around} {outer : List Env} {s : Shared} {H : Hp} {E : XK}
    (hr : Room (k + 1) (A.deeper (envOfC "check_limits" (defScope s_check_limits) s.heap.objs.size f cdv))) :
    PSs (cxOf CX0 P w K mg base n_check_limits "check_limits" (defScope s_check_limits) f cdv A outer s H E).nox (defBody s_check_limits) (rd_check_limits_0 P w K a) := by
  have nd := sc_check_limits.nd
  exact (pss_one (ps_if (PW.pt (pw_or (pt_cmpR op_lt (pv 0) (pv 1) (nomark _)) (pw_or1 (pt_cmpR op_gt (pv 0) (pv 2) (nomark _))))) (pss_one ps_never) pss_nil))
abbrev s_roll_at : Stmt := top 33
abbrev n_roll_at : List Str := ["mill", "roll"]
abbrev p_roll_at : List Str := ["mill", "roll"]
theorem sc_roll_at : FnScope n_roll_at p_roll_at (defScope s_roll_at) := ⟨rfl, rfl, rfl, by decide +kernel, rfl, by decide +kernel, by decide +kernel⟩
def rd_roll_at (P : Program) (w : World) (K : PySem.W.Frag) (a : Ad) (E : XK) : TS :=
    (tSeq (tIfS (tTest (tOp rGe (tVar 1) (tCB (rLenS K) (tCons (tFld K (tVar 0) "rolls") tNil)))) (fun _ _ H => E (.ref a.NoRoll) none H) tNext)
    (tRet (tOp (rIxL K) (tFld K (tVar 0) "rolls") (tVar 1))))
theorem der_roll_at {P : Program} {w : World} {K : PySem.W.Frag} {mg : Str → Option Value} {base : Heap} {a : Ad} (T : Txt K mg a) {k : Nat}  {f : Addr} {cdv : Value} {A : Around} {outer : List Env} {s : Shared} {H : Hp} {E : XK}
    (hr : Room (k + 1) (A.deeper (envOfC "roll_at" (defScope s_roll_at) s.heap.objs.size f cdv))) :
    PSs (cxOf (L2.CX P w) P w K mg base n_roll_at "roll_at" (defScope s_roll_at) f cdv A outer s H E) (defBody s_roll_at) (rd_roll_at P w K a E) := by
  have nd := sc_roll_at.nd
  exact (pss_cons (ps_if (pt_cmpR op_ge (pv 1) (pe_callB call_len_seq (by rfl) T.len PySem.boot_len (pa_cons (pe_fld (pv 0) rfl) pa_nil)) (nomark _)) (pss_one (ps_err T.e_NoRoll rfl (takes_of rfl rfl rfl rfl) rfl)) pss_nil)
      (pss_one (ps_ret (pe_ix ix_list (pe_fld (pv 0) rfl) (pv 1) (fun _ _ => rfl)))))
abbrev s_check_set : Stmt := top 34
abbrev n_check_set : List Str := ["mill", "chosen"]
abbrev p_check_set : List Str := ["mill", "chosen"]
theorem sc_check_set : FnScope n_check_set p_check_set (defScope s_check_set) := ⟨rfl, rfl, rfl, by decide +kernel, rfl, by decide +kernel, by decide +kernel⟩
def rd_check_set (P : Program) (w : World) (K : PySem.W.Frag) (a : Ad) (E : XK) (sp_check_limits : Sp) : TS :=
    (tDrop (tCl sp_check_limits E (tCons (tVar 1) (tCons (tC (.int 0)) (tCons (tOp rSubI (tOp rShl (tC (.int 1)) (tCB (rLenS K) (tCons (tFld K (tVar 0) "rolls") tNil))) (tC (.int 1))) tNil)))))
theorem der_check_set {P : Program} {w : World} {K : PySem.W.Frag} {mg : Str → Option Value} {base : Heap} {a : Ad} (T : Txt K mg a) {k : Nat} {sp_check_limits : Sp} (c_check_limits : Cal P w K mg base (L2.CX P w) k "check_limits" p_check_limits sp_check_limits) {f : Addr} {cdv : Value} {A : Around} {outer : List Env} {s : Shared} {H : Hp} {E : XK}
    (hr : Room (k + 1) (A.deeper (envOfC "check_set" (defScope s_check_set) s.heap.objs.size f cdv))) :
    PSs (cxOf (L2.CX P w) P w K mg base n_check_set "check_set" (defScope s_check_set) f cdv A outer s H E) (defBody s_check_set) (rd_check_set P w K a E sp_check_limits) := by
  have nd := sc_check_set.nd
  exact (pss_one (ps_expr (pe_cE (takes_of rfl rfl rfl rfl) c_check_limits (hr.mono (Nat.le_succ k)) rfl (pa_cons (pv 1) (pa_cons pe_int (pa_cons (pe_op op_sub (pe_op op_shl pe_int (pe_callB call_len_seq (by rfl) T.len PySem.boot_len (pa_cons (pe_fld (pv 0) rfl) pa_nil))) pe_int) pa_nil))))))
abbrev s_cheapest : Stmt := top 35
abbrev n_cheapest : List Str := ["rolls", "visit_cost", "weeks"]
abbrev p_cheapest : List Str := ["rolls", "visit_cost", "weeks"]
theorem sc_cheapest : FnScope n_cheapest p_cheapest (defScope s_cheapest) := ⟨rfl, rfl, rfl, by decide +kernel, rfl, by decide +kernel, by decide +kernel⟩
def rd_cheapest (P : Program) (w : World) (K : PySem.W.Frag) (a : Ad) (E : XK) (sp_check_limits sp_Planner_init sp_pl_cheapest : Sp) : TS :=
    (tSeq (tDrop (tCl sp_check_limits E (tCons (tVar 2) (tCons (tC (.int 0)) (tCons (tC (.int 5)) tNil)))))
    (tRet (tMt a.Planner "cheapest" sp_pl_cheapest (tMk a.Planner sp_Planner_init (tCons (tVar 0) (tCons (tVar 1) tNil))) (tCons (tVar 2) tNil))))
theorem der_cheapest {P : Program} {w : World} {K : PySem.W.Frag} {mg : Str → Option Value} {base : Heap} {a : Ad} (T : Txt K mg a) {k : Nat} {sp_check_limits sp_Planner_init sp_pl_cheapest : Sp} (c_check_limits : Cal P w K mg base (L2.CX P w) k "check_limits" p_check_limits sp_check_limits) (k_Planner : Mak P w K mg base k "Planner" a.Planner p_Planner_init sp_Planner_init) (m_cheapest : Met P w K mg base k a.Planner "cheapest" p_pl_cheapest sp_pl_cheapest) {f : Addr} {cdv : Value} {A : Around} {outer : List Env} {s : Shared} {H : Hp} {E : XK}
    (hr : Room (k + 1) (A.deeper (envOfC "cheapest" (defScope s_cheapest) s.heap.objs.size f cdv))) :
    PSs (cxOf (L2.CX P w) P w K mg base n_cheapest "cheapest" (defScope s_cheapest) f cdv A outer s H E) (defBody s_cheapest) (rd_cheapest P w K a E sp_check_limits sp_Planner_init sp_pl_cheapest) := by
  have nd := sc_cheapest.nd
  exact (pss_cons (ps_expr (pe_cE (takes_of rfl rfl rfl rfl) c_check_limits (hr.mono (Nat.le_succ k)) rfl (pa_cons (pv 2) (pa_cons pe_int (pa_cons (pe_k rfl T.k_MOST_WEEKS) pa_nil)))))
      (pss_one (ps_ret (pe_m m_cheapest (hr.mono (Nat.le_succ k)) (pe_mk k_Planner hr rfl (pa_cons (pv 0) (pa_cons (pv 1) pa_nil))) (pa_cons (pv 2) pa_nil)))))
def rd_cheapest_0 (P : Program) (w : World) (K : PySem.W.Frag) (a : Ad) (sp_check_limits_0 sp_Planner_init sp_pl_cheapest : Sp) : TS :=
    (tSeq (tDrop (tCl sp_check_limits_0 E0 (tCons (tVar 2) (tCons (tC (.int 0)) (tCons (tC (.int 5)) tNil)))))
    (tRet (tMt a.Planner "cheapest" sp_pl_cheapest (tMk a.Planner sp_Planner_init (tCons (tVar 0) (tCons (tVar 1) tNil))) (tCons (tVar 2) tNil))))
theorem der_cheapest_0 {P : Program} {w : World} {K : PySem.W.Frag} {mg : Str → Option Value} {base : Heap} {a : Ad} (T : Txt K mg a) {k : Nat} {sp_check_limits_0 sp_Planner_init sp_pl_cheapest : Sp} (c_check_limits_0 : Cal P w K mg base CX0 k "check_limits" p_check_limits sp_check_limits_0) (k_Planner : Mak P w K mg base k "Planner" a.Planner p_Planner_init sp_Planner_init) (m_cheapest : Met P w K mg base k a.Planner "cheapest" p_pl_cheapest sp_pl_cheapest) {f : Addr} {cdv : Value} {A : Around} {outer : List Env} {s : Shared} {H : Hp} {E : XK}
    (hr : Room (k + 1) (A.deeper (envOfC "cheapest" (defScope s_cheapest) s.heap.objs.size f cdv))) :
    PSs (cxOf CX0 P w K mg base n_cheapest "cheapest" (defScope s_cheapest) f cdv A outer s H E).nox (defBody s_cheapest) (rd_cheapest_0 P w K a sp_check_limits_0 sp_Planner_init sp_pl_cheapest) := by
  have nd := sc_cheapest.nd
  exact (pss_cons (ps_expr (pe_c c_check_limits_0 (hr.mono (Nat.le_succ k)) rfl (pa_cons (pv 2) (pa_cons pe_int (pa_cons (pe_k rfl T.k_MOST_WEEKS) pa_nil)))))
      (pss_one (ps_ret (pe_m m_cheapest (hr.mono (Nat.le_succ k)) (pe_mk k_Planner hr rfl (pa_cons (pv 0) (pa_cons (pv 1) pa_nil))) (pa_cons (pv 2) pa_nil)))))
abbrev s_execute_week : Stmt := top 36
abbrev n_execute_week : List Str := ["mill", "chosen", "ages", "cost", "roll", "age"]
abbrev p_execute_week : List Str := ["mill", "chosen"]
theorem sc_execute_week : FnScope n_execute_week p_execute_week (defScope s_execute_week) := ⟨rfl, rfl, rfl, by decide +kernel, rfl, by decide +kernel, by decide +kernel⟩
def rd_execute_week (P : Program) (w : World) (K : PySem.W.Frag) (a : Ad) (sp_ages_now sp_cost_of_week sp_ages_after_week : Sp) : TS :=
    (tSeq (tAsg (tCl sp_ages_now E0 (tCons (tFld K (tVar 0) "rolls") tNil)) (gName 2))
    (tSeq (tAsg (tCl sp_cost_of_week E0 (tCons (tFld K (tVar 0) "rolls") (tCons (tFld K (tVar 0) "visit_cost") (tCons (tVar 2) (tCons (tVar 1) tNil))))) (gName 3))
    (tSeq (tFor (iZip K (tCons (tFld K (tVar 0) "rolls") (tCons (tCl sp_ages_after_week E0 (tCons (tVar 2) (tCons (tVar 1) tNil))) tNil))) (gTup K 2 (gCons (gName 4) (gCons (gName 5) gNil))) (sFld K (tVar 4) (tVar 5) "age"))
    (tSeq (sFldAug K (tVar 0) (tVar 3) L2.rAdd "spent")
    (tSeq (sFldAug K (tVar 0) (tC (.int 1)) L2.rAdd "week_count")
    (tRet (tVar 3)))))))
theorem der_execute_week {P : Program} {w : World} {K : PySem.W.Frag} {mg : Str → Option Value} {base : Heap} {a : Ad} (T : Txt K mg a) {k : Nat} {sp_ages_now sp_cost_of_week sp_ages_after_week : Sp} (c_ages_now : Cal P w K mg base CX0 k "ages_now" p_ages_now sp_ages_now) (c_cost_of_week : Cal P w K mg base CX0 k "cost_of_week" p_cost_of_week sp_cost_of_week) (c_ages_after_week : Cal P w K mg base CX0 k "ages_after_week" p_ages_after_week sp_ages_after_week) {f : Addr} {cdv : Value} {A : Around} {outer : List Env} {s : Shared} {H : Hp} {E : XK}
    (hr : Room (k + 1) (A.deeper (envOfC "execute_week" (defScope s_execute_week) s.heap.objs.size f cdv))) :
    PSs (cxOf CX0 P w K mg base n_execute_week "execute_week" (defScope s_execute_week) f cdv A outer s H E).nox (defBody s_execute_week) (rd_execute_week P w K a sp_ages_now sp_cost_of_week sp_ages_after_week) := by
  have nd := sc_execute_week.nd
  exact (pss_cons (ps_set (i := 2) nd rfl (Or.inl rfl) (pe_c c_ages_now (hr.mono (Nat.le_succ k)) rfl (pa_cons (pe_fld (pv 0) rfl) pa_nil)))
      (pss_cons (ps_set (i := 3) nd rfl (Or.inl rfl) (pe_c c_cost_of_week (hr.mono (Nat.le_succ k)) rfl (pa_cons (pe_fld (pv 0) rfl) (pa_cons (pe_fld (pv 0) rfl) (pa_cons (pv 2) (pa_cons (pv 1) pa_nil))))))
      (pss_cons (ps_for PassesOwn.never rfl (pi_zip (by rfl) T.zip (pa_cons (pe_fld (pv 0) rfl) (pa_cons (pe_c c_ages_after_week (hr.mono (Nat.le_succ k)) rfl (pa_cons (pv 2) (pa_cons (pv 1) pa_nil))) pa_nil))) (pg_tup rfl (pgs_cons (pg_name (i := 4) nd rfl (Or.inl rfl)) (pgs_cons (pg_name (i := 5) nd rfl (Or.inl rfl)) pgs_nil))) (pss_one (ps_fld (pv 4) (pv 5) rfl)))
      (pss_cons (ps_fldaug (pv 0) (pv 3) in_add)
      (pss_cons (ps_fldaug (pv 0) pe_int in_add)
      (pss_one (ps_ret (pv 3))))))))
end Rg

namespace Rg
open PySem PySem.Spec PyProof.Rows L2 RgC
abbrev s_create : Stmt := top 37
abbrev n_create : List Str := ["request", "visit_cost"]
abbrev p_create : List Str := ["request", "visit_cost"]
theorem sc_create : FnScope n_create p_create (defScope s_create) := ⟨rfl, rfl, rfl, by decide +kernel, rfl, by decide +kernel, by decide +kernel⟩
def rd_create (P : Program) (w : World) (K : PySem.W.Frag) (a : Ad) (E : XK) (sp_check_limits sp_Mill_init : Sp) : TS :=
    (tSeq (tDrop (tCl sp_check_limits E (tCons (tVar 1) (tCons (tC (.int 0)) (tCons (tC (.int 999)) tNil)))))
    (tSeq (sFld K (tVar 0) (tMk a.Mill sp_Mill_init (tCons (tVar 1) tNil)) "mill")
    (tRet (tLst (tCons (tC (.int 0)) tNil)))))
theorem der_create {P : Program} {w : World} {K : PySem.W.Frag} {mg : Str → Option Value} {base : Heap} {a : Ad} (T : Txt K mg a) {k : Nat} {sp_check_limits sp_Mill_init : Sp} (c_check_limits : Cal P w K mg base (L2.CX P w) k "check_limits" p_check_limits sp_check_limits) (k_Mill : Mak P w K mg base k "Mill" a.Mill p_Mill_init sp_Mill_init) {f : Addr} {cdv : Value} {A : Around} {outer : List Env} {s : Shared} {H : Hp} {E : XK}
    (hr : Room (k + 1) (A.deeper (envOfC "create" (defScope s_create) s.heap.objs.size f cdv))) :
    PSs (cxOf (L2.CX P w) P w K mg base n_create "create" (defScope s_create) f cdv A outer s H E) (defBody s_create) (rd_create P w K a E sp_check_limits sp_Mill_init) := by
  have nd := sc_create.nd
  exact (pss_cons (ps_expr (pe_cE (takes_of rfl rfl rfl rfl) c_check_limits (hr.mono (Nat.le_succ k)) rfl (pa_cons (pv 1) (pa_cons pe_int (pa_cons (pe_k rfl T.k_HIGHEST_COST) pa_nil)))))
      (pss_cons (ps_fld (pv 0) (pe_mk k_Mill hr rfl (pa_cons (pv 1) pa_nil)) rfl)
      (pss_one (ps_ret (pe_lst (pa_cons pe_int pa_nil))))))
abbrev s_add_roll : Stmt := top 38
abbrev n_add_roll : List Str := ["mill", "regrind_cost", "weekly_costs", "cost"]
abbrev p_add_roll : List Str := ["mill", "regrind_cost", "weekly_costs"]
theorem sc_add_roll : FnScope n_add_roll p_add_roll (defScope s_add_roll) := ⟨rfl, rfl, rfl, by decide +kernel, rfl, by decide +kernel, by decide +kernel⟩
def rd_add_roll (P : Program) (w : World) (K : PySem.W.Frag) (a : Ad) (E : XK) (sp_check_limits sp_Roll_init : Sp) : TS :=
    (tSeq (tDrop (tCl sp_check_limits E (tCons (tVar 1) (tCons (tC (.int 0)) (tCons (tC (.int 999)) tNil)))))
    (tSeq (tDrop (tCl sp_check_limits E (tCons (tCB (rLenS K) (tCons (tVar 2) tNil)) (tCons (tC (.int 1)) (tCons (tC (.int 8)) tNil)))))
    (tSeq (tFor (iList K (tVar 2)) (gName 3) (tDrop (tCl sp_check_limits E (tCons (tVar 3) (tCons (tC (.int 0)) (tCons (tC (.int 99)) tNil))))))
    (tSeq (tIfS (tTest (tOp rGe (tCB (rLenS K) (tCons (tFld K (tVar 0) "rolls") tNil)) (tC (.int 3)))) (fun _ _ H => E (.ref a.TooManyRolls) none H) tNext)
    (tSeq (tDrop (tBM K "list" rAppend (tFld K (tVar 0) "rolls") (tCons (tMk a.Roll sp_Roll_init (tCons (tVar 1) (tCons (tVar 2) tNil))) tNil)))
    (tRet (tLst (tCons (tOp rSubI (tCB (rLenS K) (tCons (tFld K (tVar 0) "rolls") tNil)) (tC (.int 1))) tNil))))))))
theorem der_add_roll {P : Program} {w : World} {K : PySem.W.Frag} {mg : Str → Option Value} {base : Heap} {a : Ad} (T : Txt K mg a) {k : Nat} {sp_check_limits sp_Roll_init : Sp} (c_check_limits : Cal P w K mg base (L2.CX P w) k "check_limits" p_check_limits sp_check_limits) (k_Roll : Mak P w K mg base k "Roll" a.Roll p_Roll_init sp_Roll_init) {f : Addr} {cdv : Value} {A : Around} {outer : List Env} {s : Shared} {H : Hp} {E : XK}
    (hr : Room (k + 1) (A.deeper (envOfC "add_roll" (defScope s_add_roll) s.heap.objs.size f cdv))) :
    PSs (cxOf (L2.CX P w) P w K mg base n_add_roll "add_roll" (defScope s_add_roll) f cdv A outer s H E) (defBody s_add_roll) (rd_add_roll P w K a E sp_check_limits sp_Roll_init) := by
  have nd := sc_add_roll.nd
  exact (pss_cons (ps_expr (pe_cE (takes_of rfl rfl rfl rfl) c_check_limits (hr.mono (Nat.le_succ k)) rfl (pa_cons (pv 1) (pa_cons pe_int (pa_cons (pe_k rfl T.k_HIGHEST_COST) pa_nil)))))
      (pss_cons (ps_expr (pe_cE (takes_of rfl rfl rfl rfl) c_check_limits (hr.mono (Nat.le_succ k)) rfl (pa_cons (pe_callB call_len_seq (by rfl) T.len PySem.boot_len (pa_cons (pv 2) pa_nil)) (pa_cons pe_int (pa_cons (pe_k rfl T.k_MOST_WEEKLY_COSTS) pa_nil)))))
      (pss_cons (ps_for (passes_of rfl) rfl (pi_list (pv 2)) (pg_name (i := 3) nd rfl (Or.inl rfl)) (pss_one (ps_expr (pe_cE (takes_of rfl rfl rfl rfl) c_check_limits (hr.mono (Nat.le_succ k)) rfl (pa_cons (pv 3) (pa_cons pe_int (pa_cons (pe_k rfl T.k_HIGHEST_WEEKLY_COST) pa_nil)))))))
      (pss_cons (ps_if (pt_cmpR op_ge (pe_callB call_len_seq (by rfl) T.len PySem.boot_len (pa_cons (pe_fld (pv 0) rfl) pa_nil)) (pe_k rfl T.k_MOST_ROLLS) (nomark _)) (pss_one (ps_err T.e_TooManyRolls rfl (takes_of rfl rfl rfl rfl) rfl)) pss_nil)
      (pss_cons (ps_expr (pe_bm PySem.F.plainAttrs_list PySem.F.slot_list_append PySem.F.type_list_append mt_append (pe_fld (pv 0) rfl) (pa_cons (pe_mk k_Roll hr rfl (pa_cons (pv 1) (pa_cons (pv 2) pa_nil))) pa_nil)))
      (pss_one (ps_ret (pe_lst (pa_cons (pe_op op_sub (pe_callB call_len_seq (by rfl) T.len PySem.boot_len (pa_cons (pe_fld (pv 0) rfl) pa_nil)) pe_int) pa_nil)))))))))
abbrev s_remove_roll : Stmt := top 39
abbrev n_remove_roll : List Str := ["mill", "roll"]
abbrev p_remove_roll : List Str := ["mill", "roll"]
theorem sc_remove_roll : FnScope n_remove_roll p_remove_roll (defScope s_remove_roll) := ⟨rfl, rfl, rfl, by decide +kernel, rfl, by decide +kernel, by decide +kernel⟩
def rd_remove_roll (P : Program) (w : World) (K : PySem.W.Frag) (a : Ad) (E : XK) (sp_roll_at : Sp) : TS :=
    (tSeq (tDrop (tCl sp_roll_at E (tCons (tVar 0) (tCons (tVar 1) tNil))))
    (tSeq (tDrop (tBM K "list" rPopAt (tFld K (tVar 0) "rolls") (tCons (tVar 1) tNil)))
    (tRet (tLst (tCons (tCB (rLenS K) (tCons (tFld K (tVar 0) "rolls") tNil)) tNil)))))
theorem der_remove_roll {P : Program} {w : World} {K : PySem.W.Frag} {mg : Str → Option Value} {base : Heap} {a : Ad} (T : Txt K mg a) {k : Nat} {sp_roll_at : Sp} (c_roll_at : Cal P w K mg base (L2.CX P w) k "roll_at" p_roll_at sp_roll_at) {f : Addr} {cdv : Value} {A : Around} {outer : List Env} {s : Shared} {H : Hp} {E : XK}
    (hr : Room (k + 1) (A.deeper (envOfC "remove_roll" (defScope s_remove_roll) s.heap.objs.size f cdv))) :
    PSs (cxOf (L2.CX P w) P w K mg base n_remove_roll "remove_roll" (defScope s_remove_roll) f cdv A outer s H E) (defBody s_remove_roll) (rd_remove_roll P w K a E sp_roll_at) := by
  have nd := sc_remove_roll.nd
  exact (pss_cons (ps_expr (pe_cE (takes_of rfl rfl rfl rfl) c_roll_at (hr.mono (Nat.le_succ k)) rfl (pa_cons (pv 0) (pa_cons (pv 1) pa_nil))))
      (pss_cons (ps_expr (pe_bm PySem.F.plainAttrs_list PySem.F.slot_list_pop PySem.F.type_list_pop mt_popAt (pe_fld (pv 0) rfl) (pa_cons (pv 1) pa_nil)))
      (pss_one (ps_ret (pe_lst (pa_cons (pe_callB call_len_seq (by rfl) T.len PySem.boot_len (pa_cons (pe_fld (pv 0) rfl) pa_nil)) pa_nil))))))
abbrev s_set_age : Stmt := top 40
abbrev n_set_age : List Str := ["mill", "roll", "age", "found", "old_age"]
abbrev p_set_age : List Str := ["mill", "roll", "age"]
theorem sc_set_age : FnScope n_set_age p_set_age (defScope s_set_age) := ⟨rfl, rfl, rfl, by decide +kernel, rfl, by decide +kernel, by decide +kernel⟩
def rd_set_age (P : Program) (w : World) (K : PySem.W.Frag) (a : Ad) (E : XK) (sp_roll_at sp_check_limits : Sp) : TS :=
    (tSeq (tAsg (tCl sp_roll_at E (tCons (tVar 0) (tCons (tVar 1) tNil))) (gName 3))
    (tSeq (tDrop (tCl sp_check_limits E (tCons (tVar 2) (tCons (tC (.int 0)) (tCons (tC (.int 99)) tNil)))))
    (tSeq (tAsg (tFld K (tVar 3) "age") (gName 4))
    (tSeq (sFld K (tVar 3) (tVar 2) "age")
    (tRet (tLst (tCons (tVar 4) tNil)))))))
theorem der_set_age {P : Program} {w : World} {K : PySem.W.Frag} {mg : Str → Option Value} {base : Heap} {a : Ad} (T : Txt K mg a) {k : Nat} {sp_roll_at sp_check_limits : Sp} (c_roll_at : Cal P w K mg base (L2.CX P w) k "roll_at" p_roll_at sp_roll_at) (c_check_limits : Cal P w K mg base (L2.CX P w) k "check_limits" p_check_limits sp_check_limits) {f : Addr} {cdv : Value} {A : Around} {outer : List Env} {s : Shared} {H : Hp} {E : XK}
    (hr : Room (k + 1) (A.deeper (envOfC "set_age" (defScope s_set_age) s.heap.objs.size f cdv))) :
    PSs (cxOf (L2.CX P w) P w K mg base n_set_age "set_age" (defScope s_set_age) f cdv A outer s H E) (defBody s_set_age) (rd_set_age P w K a E sp_roll_at sp_check_limits) := by
  have nd := sc_set_age.nd
  exact (pss_cons (ps_set (i := 3) nd rfl (Or.inl rfl) (pe_cE (takes_of rfl rfl rfl rfl) c_roll_at (hr.mono (Nat.le_succ k)) rfl (pa_cons (pv 0) (pa_cons (pv 1) pa_nil))))
      (pss_cons (ps_expr (pe_cE (takes_of rfl rfl rfl rfl) c_check_limits (hr.mono (Nat.le_succ k)) rfl (pa_cons (pv 2) (pa_cons pe_int (pa_cons (pe_k rfl T.k_HIGHEST_AGE) pa_nil)))))
      (pss_cons (ps_set (i := 4) nd rfl (Or.inl rfl) (pe_fld (pv 3) rfl))
      (pss_cons (ps_fld (pv 3) (pv 2) rfl)
      (pss_one (ps_ret (pe_lst (pa_cons (pv 4) pa_nil))))))))
abbrev s_set_visit_cost : Stmt := top 41
abbrev n_set_visit_cost : List Str := ["mill", "visit_cost", "old_visit_cost"]
abbrev p_set_visit_cost : List Str := ["mill", "visit_cost"]
theorem sc_set_visit_cost : FnScope n_set_visit_cost p_set_visit_cost (defScope s_set_visit_cost) := ⟨rfl, rfl, rfl, by decide +kernel, rfl, by decide +kernel, by decide +kernel⟩
def rd_set_visit_cost (P : Program) (w : World) (K : PySem.W.Frag) (a : Ad) (E : XK) (sp_check_limits : Sp) : TS :=
    (tSeq (tDrop (tCl sp_check_limits E (tCons (tVar 1) (tCons (tC (.int 0)) (tCons (tC (.int 999)) tNil)))))
    (tSeq (tAsg (tFld K (tVar 0) "visit_cost") (gName 2))
    (tSeq (sFld K (tVar 0) (tVar 1) "visit_cost")
    (tRet (tLst (tCons (tVar 2) tNil))))))
theorem der_set_visit_cost {P : Program} {w : World} {K : PySem.W.Frag} {mg : Str → Option Value} {base : Heap} {a : Ad} (T : Txt K mg a) {k : Nat} {sp_check_limits : Sp} (c_check_limits : Cal P w K mg base (L2.CX P w) k "check_limits" p_check_limits sp_check_limits) {f : Addr} {cdv : Value} {A : Around} {outer : List Env} {s : Shared} {H : Hp} {E : XK}
    (hr : Room (k + 1) (A.deeper (envOfC "set_visit_cost" (defScope s_set_visit_cost) s.heap.objs.size f cdv))) :
    PSs (cxOf (L2.CX P w) P w K mg base n_set_visit_cost "set_visit_cost" (defScope s_set_visit_cost) f cdv A outer s H E) (defBody s_set_visit_cost) (rd_set_visit_cost P w K a E sp_check_limits) := by
  have nd := sc_set_visit_cost.nd
  exact (pss_cons (ps_expr (pe_cE (takes_of rfl rfl rfl rfl) c_check_limits (hr.mono (Nat.le_succ k)) rfl (pa_cons (pv 1) (pa_cons pe_int (pa_cons (pe_k rfl T.k_HIGHEST_COST) pa_nil)))))
      (pss_cons (ps_set (i := 2) nd rfl (Or.inl rfl) (pe_fld (pv 0) rfl))
      (pss_cons (ps_fld (pv 0) (pv 1) rfl)
      (pss_one (ps_ret (pe_lst (pa_cons (pv 2) pa_nil)))))))
abbrev s_get_roll : Stmt := top 42
abbrev n_get_roll : List Str := ["mill", "roll", "found"]
abbrev p_get_roll : List Str := ["mill", "roll"]
theorem sc_get_roll : FnScope n_get_roll p_get_roll (defScope s_get_roll) := ⟨rfl, rfl, rfl, by decide +kernel, rfl, by decide +kernel, by decide +kernel⟩
def rd_get_roll (P : Program) (w : World) (K : PySem.W.Frag) (a : Ad) (E : XK) (sp_roll_at : Sp) : TS :=
    (tSeq (tAsg (tCl sp_roll_at E (tCons (tVar 0) (tCons (tVar 1) tNil))) (gName 2))
    (tRet (tOp rCat (tLst (tCons (tFld K (tVar 2) "age") (tCons (tFld K (tVar 2) "regrind_cost") tNil))) (tFld K (tVar 2) "weekly_costs"))))
theorem der_get_roll {P : Program} {w : World} {K : PySem.W.Frag} {mg : Str → Option Value} {base : Heap} {a : Ad} (T : Txt K mg a) {k : Nat} {sp_roll_at : Sp} (c_roll_at : Cal P w K mg base (L2.CX P w) k "roll_at" p_roll_at sp_roll_at) {f : Addr} {cdv : Value} {A : Around} {outer : List Env} {s : Shared} {H : Hp} {E : XK}
    (hr : Room (k + 1) (A.deeper (envOfC "get_roll" (defScope s_get_roll) s.heap.objs.size f cdv))) :
    PSs (cxOf (L2.CX P w) P w K mg base n_get_roll "get_roll" (defScope s_get_roll) f cdv A outer s H E) (defBody s_get_roll) (rd_get_roll P w K a E sp_roll_at) := by
  have nd := sc_get_roll.nd
  exact (pss_cons (ps_set (i := 2) nd rfl (Or.inl rfl) (pe_cE (takes_of rfl rfl rfl rfl) c_roll_at (hr.mono (Nat.le_succ k)) rfl (pa_cons (pv 0) (pa_cons (pv 1) pa_nil))))
      (pss_one (ps_ret (pe_op op_cat (pe_lst (pa_cons (pe_fld (pv 2) rfl) (pa_cons (pe_fld (pv 2) rfl) pa_nil))) (pe_fld (pv 2) rfl)))))
abbrev s_mean_weekly_cost : Stmt := top 43
abbrev n_mean_weekly_cost : List Str := ["mill", "roll", "period", "found"]
abbrev p_mean_weekly_cost : List Str := ["mill", "roll", "period"]
theorem sc_mean_weekly_cost : FnScope n_mean_weekly_cost p_mean_weekly_cost (defScope s_mean_weekly_cost) := ⟨rfl, rfl, rfl, by decide +kernel, rfl, by decide +kernel, by decide +kernel⟩
def rd_mean_weekly_cost (P : Program) (w : World) (K : PySem.W.Frag) (a : Ad) (E : XK) (sp_roll_at sp_check_limits sp_mean_cost : Sp) : TS :=
    (tSeq (tAsg (tCl sp_roll_at E (tCons (tVar 0) (tCons (tVar 1) tNil))) (gName 3))
    (tSeq (tDrop (tCl sp_check_limits E (tCons (tVar 2) (tCons (tC (.int 1)) (tCons (tC (.int 24)) tNil)))))
    (tRet (tOp rCat (tLst (tCons (tC (.int 0)) tNil)) (tCl sp_mean_cost E0 (tCons (tVar 3) (tCons (tFld K (tVar 0) "visit_cost") (tCons (tVar 2) tNil))))))))
theorem der_mean_weekly_cost {P : Program} {w : World} {K : PySem.W.Frag} {mg : Str → Option Value} {base : Heap} {a : Ad} (T : Txt K mg a) {k : Nat} {sp_roll_at sp_check_limits sp_mean_cost : Sp} (c_roll_at : Cal P w K mg base (L2.CX P w) k "roll_at" p_roll_at sp_roll_at) (c_check_limits : Cal P w K mg base (L2.CX P w) k "check_limits" p_check_limits sp_check_limits) (c_mean_cost : Cal P w K mg base CX0 k "mean_cost" p_mean_cost sp_mean_cost) {f : Addr} {cdv : Value} {A : Around} {outer : List Env} {s : Shared} {H : Hp} {E : XK}
    (hr : Room (k + 1) (A.deeper (envOfC "mean_weekly_cost" (defScope s_mean_weekly_cost) s.heap.objs.size f cdv))) :
    PSs (cxOf (L2.CX P w) P w K mg base n_mean_weekly_cost "mean_weekly_cost" (defScope s_mean_weekly_cost) f cdv A outer s H E) (defBody s_mean_weekly_cost) (rd_mean_weekly_cost P w K a E sp_roll_at sp_check_limits sp_mean_cost) := by
  have nd := sc_mean_weekly_cost.nd
  exact (pss_cons (ps_set (i := 3) nd rfl (Or.inl rfl) (pe_cE (takes_of rfl rfl rfl rfl) c_roll_at (hr.mono (Nat.le_succ k)) rfl (pa_cons (pv 0) (pa_cons (pv 1) pa_nil))))
      (pss_cons (ps_expr (pe_cE (takes_of rfl rfl rfl rfl) c_check_limits (hr.mono (Nat.le_succ k)) rfl (pa_cons (pv 2) (pa_cons pe_int (pa_cons (pe_k rfl T.k_LONGEST_PERIOD) pa_nil)))))
      (pss_one (ps_ret (pe_op op_cat (pe_lst (pa_cons pe_int pa_nil)) (pe_c c_mean_cost (hr.mono (Nat.le_succ k)) rfl (pa_cons (pv 3) (pa_cons (pe_fld (pv 0) rfl) (pa_cons (pv 2) pa_nil)))))))))
abbrev s_best_period : Stmt := top 44
abbrev n_best_period : List Str := ["mill", "roll", "found", "period"]
abbrev p_best_period : List Str := ["mill", "roll"]
theorem sc_best_period : FnScope n_best_period p_best_period (defScope s_best_period) := ⟨rfl, rfl, rfl, by decide +kernel, rfl, by decide +kernel, by decide +kernel⟩
def rd_best_period (P : Program) (w : World) (K : PySem.W.Frag) (a : Ad) (E : XK) (sp_roll_at sp_cheapest_period sp_mean_cost : Sp) : TS :=
    (tSeq (tAsg (tCl sp_roll_at E (tCons (tVar 0) (tCons (tVar 1) tNil))) (gName 2))
    (tSeq (tAsg (tCl sp_cheapest_period E0 (tCons (tVar 2) (tCons (tFld K (tVar 0) "visit_cost") tNil))) (gName 3))
    (tRet (tOp rCat (tLst (tCons (tVar 3) tNil)) (tCl sp_mean_cost E0 (tCons (tVar 2) (tCons (tFld K (tVar 0) "visit_cost") (tCons (tVar 3) tNil))))))))
theorem der_best_period {P : Program} {w : World} {K : PySem.W.Frag} {mg : Str → Option Value} {base : Heap} {a : Ad} (T : Txt K mg a) {k : Nat} {sp_roll_at sp_cheapest_period sp_mean_cost : Sp} (c_roll_at : Cal P w K mg base (L2.CX P w) k "roll_at" p_roll_at sp_roll_at) (c_cheapest_period : Cal P w K mg base CX0 k "cheapest_period" p_cheapest_period sp_cheapest_period) (c_mean_cost : Cal P w K mg base CX0 k "mean_cost" p_mean_cost sp_mean_cost) {f : Addr} {cdv : Value} {A : Around} {outer : List Env} {s : Shared} {H : Hp} {E : XK}
    (hr : Room (k + 1) (A.deeper (envOfC "best_period" (defScope s_best_period) s.heap.objs.size f cdv))) :
    PSs (cxOf (L2.CX P w) P w K mg base n_best_period "best_period" (defScope s_best_period) f cdv A outer s H E) (defBody s_best_period) (rd_best_period P w K a E sp_roll_at sp_cheapest_period sp_mean_cost) := by
  have nd := sc_best_period.nd
  exact (pss_cons (ps_set (i := 2) nd rfl (Or.inl rfl) (pe_cE (takes_of rfl rfl rfl rfl) c_roll_at (hr.mono (Nat.le_succ k)) rfl (pa_cons (pv 0) (pa_cons (pv 1) pa_nil))))
      (pss_cons (ps_set (i := 3) nd rfl (Or.inl rfl) (pe_c c_cheapest_period (hr.mono (Nat.le_succ k)) rfl (pa_cons (pv 2) (pa_cons (pe_fld (pv 0) rfl) pa_nil))))
      (pss_one (ps_ret (pe_op op_cat (pe_lst (pa_cons (pv 3) pa_nil)) (pe_c c_mean_cost (hr.mono (Nat.le_succ k)) rfl (pa_cons (pv 2) (pa_cons (pe_fld (pv 0) rfl) (pa_cons (pv 3) pa_nil)))))))))
abbrev s_cheapest_plan : Stmt := top 45
abbrev n_cheapest_plan : List Str := ["mill", "weeks", "best"]
abbrev p_cheapest_plan : List Str := ["mill", "weeks"]
theorem sc_cheapest_plan : FnScope n_cheapest_plan p_cheapest_plan (defScope s_cheapest_plan) := ⟨rfl, rfl, rfl, by decide +kernel, rfl, by decide +kernel, by decide +kernel⟩
def rd_cheapest_plan (P : Program) (w : World) (K : PySem.W.Frag) (a : Ad) (E : XK) (sp_cheapest : Sp) : TS :=
    (tSeq (tAsg (tCl sp_cheapest E (tCons (tFld K (tVar 0) "rolls") (tCons (tFld K (tVar 0) "visit_cost") (tCons (tVar 1) tNil)))) (gName 2))
    (tRet (tOp rCat (tLst (tCons (tOp (rIxT K) (tVar 2) (tC (.int 0))) tNil)) (tCB (rListOf K) (tCons (tOp (rIxT K) (tVar 2) (tC (.int 1))) tNil)))))
theorem der_cheapest_plan {P : Program} {w : World} {K : PySem.W.Frag} {mg : Str → Option Value} {base : Heap} {a : Ad} (T : Txt K mg a) {k : Nat} {sp_cheapest : Sp} (c_cheapest : Cal P w K mg base (L2.CX P w) k "cheapest" p_cheapest sp_cheapest) {f : Addr} {cdv : Value} {A : Around} {outer : List Env} {s : Shared} {H : Hp} {E : XK}
    (hr : Room (k + 1) (A.deeper (envOfC "cheapest_plan" (defScope s_cheapest_plan) s.heap.objs.size f cdv))) :
    PSs (cxOf (L2.CX P w) P w K mg base n_cheapest_plan "cheapest_plan" (defScope s_cheapest_plan) f cdv A outer s H E) (defBody s_cheapest_plan) (rd_cheapest_plan P w K a E sp_cheapest) := by
  have nd := sc_cheapest_plan.nd
  exact (pss_cons (ps_set (i := 2) nd rfl (Or.inl rfl) (pe_cE (takes_of rfl rfl rfl rfl) c_cheapest (hr.mono (Nat.le_succ k)) rfl (pa_cons (pe_fld (pv 0) rfl) (pa_cons (pe_fld (pv 0) rfl) (pa_cons (pv 1) pa_nil)))))
      (pss_one (ps_ret (pe_op op_cat (pe_lst (pa_cons (pe_ix ix_tup (pv 2) pe_int (fun _ _ => rfl)) pa_nil)) (pe_callTy call_list_of (by rfl) T.list (by decide +kernel) (pa_cons (pe_ix ix_tup (pv 2) pe_int (fun _ _ => rfl)) pa_nil))))))
abbrev s_lowest_cost : Stmt := top 46
abbrev n_lowest_cost : List Str := ["mill", "weeks"]
abbrev p_lowest_cost : List Str := ["mill", "weeks"]
theorem sc_lowest_cost : FnScope n_lowest_cost p_lowest_cost (defScope s_lowest_cost) := ⟨rfl, rfl, rfl, by decide +kernel, rfl, by decide +kernel, by decide +kernel⟩
def rd_lowest_cost (P : Program) (w : World) (K : PySem.W.Frag) (a : Ad) (E : XK) (sp_cheapest : Sp) : TS :=
    (tRet (tLst (tCons (tOp (rIxT K) (tCl sp_cheapest E (tCons (tFld K (tVar 0) "rolls") (tCons (tFld K (tVar 0) "visit_cost") (tCons (tVar 1) tNil)))) (tC (.int 0))) tNil)))
theorem der_lowest_cost {P : Program} {w : World} {K : PySem.W.Frag} {mg : Str → Option Value} {base : Heap} {a : Ad} (T : Txt K mg a) {k : Nat} {sp_cheapest : Sp} (c_cheapest : Cal P w K mg base (L2.CX P w) k "cheapest" p_cheapest sp_cheapest) {f : Addr} {cdv : Value} {A : Around} {outer : List Env} {s : Shared} {H : Hp} {E : XK}
    (hr : Room (k + 1) (A.deeper (envOfC "lowest_cost" (defScope s_lowest_cost) s.heap.objs.size f cdv))) :
    PSs (cxOf (L2.CX P w) P w K mg base n_lowest_cost "lowest_cost" (defScope s_lowest_cost) f cdv A outer s H E) (defBody s_lowest_cost) (rd_lowest_cost P w K a E sp_cheapest) := by
  have nd := sc_lowest_cost.nd
  exact (pss_one (ps_ret (pe_lst (pa_cons (pe_ix ix_tup (pe_cE (takes_of rfl rfl rfl rfl) c_cheapest (hr.mono (Nat.le_succ k)) rfl (pa_cons (pe_fld (pv 0) rfl) (pa_cons (pe_fld (pv 0) rfl) (pa_cons (pv 1) pa_nil)))) pe_int (fun _ _ => rfl)) pa_nil))))
abbrev s_plan_cost : Stmt := top 47
abbrev n_plan_cost : List Str := ["mill", "plan", "chosen"]
abbrev p_plan_cost : List Str := ["mill", "plan"]
theorem sc_plan_cost : FnScope n_plan_cost p_plan_cost (defScope s_plan_cost) := ⟨rfl, rfl, rfl, by decide +kernel, rfl, by decide +kernel, by decide +kernel⟩
def rd_plan_cost (P : Program) (w : World) (K : PySem.W.Frag) (a : Ad) (E : XK) (sp_check_limits sp_check_set sp_cost_of_plan : Sp) : TS :=
    (tSeq (tDrop (tCl sp_check_limits E (tCons (tCB (rLenS K) (tCons (tVar 1) tNil)) (tCons (tC (.int 0)) (tCons (tC (.int 5)) tNil)))))
    (tSeq (tFor (iList K (tVar 1)) (gName 2) (tDrop (tCl sp_check_set E (tCons (tVar 0) (tCons (tVar 2) tNil)))))
    (tRet (tLst (tCons (tCl sp_cost_of_plan E0 (tCons (tFld K (tVar 0) "rolls") (tCons (tFld K (tVar 0) "visit_cost") (tCons (tVar 1) tNil)))) tNil)))))
theorem der_plan_cost {P : Program} {w : World} {K : PySem.W.Frag} {mg : Str → Option Value} {base : Heap} {a : Ad} (T : Txt K mg a) {k : Nat} {sp_check_limits sp_check_set sp_cost_of_plan : Sp} (c_check_limits : Cal P w K mg base (L2.CX P w) k "check_limits" p_check_limits sp_check_limits) (c_check_set : Cal P w K mg base (L2.CX P w) k "check_set" p_check_set sp_check_set) (c_cost_of_plan : Cal P w K mg base CX0 k "cost_of_plan" p_cost_of_plan sp_cost_of_plan) {f : Addr} {cdv : Value} {A : Around} {outer : List Env} {s : Shared} {H : Hp} {E : XK}
    (hr : Room (k + 1) (A.deeper (envOfC "plan_cost" (defScope s_plan_cost) s.heap.objs.size f cdv))) :
    PSs (cxOf (L2.CX P w) P w K mg base n_plan_cost "plan_cost" (defScope s_plan_cost) f cdv A outer s H E) (defBody s_plan_cost) (rd_plan_cost P w K a E sp_check_limits sp_check_set sp_cost_of_plan) := by
  have nd := sc_plan_cost.nd
  exact (pss_cons (ps_expr (pe_cE (takes_of rfl rfl rfl rfl) c_check_limits (hr.mono (Nat.le_succ k)) rfl (pa_cons (pe_callB call_len_seq (by rfl) T.len PySem.boot_len (pa_cons (pv 1) pa_nil)) (pa_cons pe_int (pa_cons (pe_k rfl T.k_MOST_WEEKS) pa_nil)))))
      (pss_cons (ps_for (passes_of rfl) rfl (pi_list (pv 1)) (pg_name (i := 2) nd rfl (Or.inl rfl)) (pss_one (ps_expr (pe_cE (takes_of rfl rfl rfl rfl) c_check_set (hr.mono (Nat.le_succ k)) rfl (pa_cons (pv 0) (pa_cons (pv 2) pa_nil))))))
      (pss_one (ps_ret (pe_lst (pa_cons (pe_c c_cost_of_plan (hr.mono (Nat.le_succ k)) rfl (pa_cons (pe_fld (pv 0) rfl) (pa_cons (pe_fld (pv 0) rfl) (pa_cons (pv 1) pa_nil)))) pa_nil))))))
abbrev s_run_week : Stmt := top 48
abbrev n_run_week : List Str := ["mill", "chosen"]
abbrev p_run_week : List Str := ["mill", "chosen"]
theorem sc_run_week : FnScope n_run_week p_run_week (defScope s_run_week) := ⟨rfl, rfl, rfl, by decide +kernel, rfl, by decide +kernel, by decide +kernel⟩
def rd_run_week (P : Program) (w : World) (K : PySem.W.Frag) (a : Ad) (E : XK) (sp_check_set sp_execute_week : Sp) : TS :=
    (tSeq (tDrop (tCl sp_check_set E (tCons (tVar 0) (tCons (tVar 1) tNil))))
    (tRet (tLst (tCons (tCl sp_execute_week E0 (tCons (tVar 0) (tCons (tVar 1) tNil))) tNil))))
theorem der_run_week {P : Program} {w : World} {K : PySem.W.Frag} {mg : Str → Option Value} {base : Heap} {a : Ad} (T : Txt K mg a) {k : Nat} {sp_check_set sp_execute_week : Sp} (c_check_set : Cal P w K mg base (L2.CX P w) k "check_set" p_check_set sp_check_set) (c_execute_week : Cal P w K mg base CX0 k "execute_week" p_execute_week sp_execute_week) {f : Addr} {cdv : Value} {A : Around} {outer : List Env} {s : Shared} {H : Hp} {E : XK}
    (hr : Room (k + 1) (A.deeper (envOfC "run_week" (defScope s_run_week) s.heap.objs.size f cdv))) :
    PSs (cxOf (L2.CX P w) P w K mg base n_run_week "run_week" (defScope s_run_week) f cdv A outer s H E) (defBody s_run_week) (rd_run_week P w K a E sp_check_set sp_execute_week) := by
  have nd := sc_run_week.nd
  exact (pss_cons (ps_expr (pe_cE (takes_of rfl rfl rfl rfl) c_check_set (hr.mono (Nat.le_succ k)) rfl (pa_cons (pv 0) (pa_cons (pv 1) pa_nil))))
      (pss_one (ps_ret (pe_lst (pa_cons (pe_c c_execute_week (hr.mono (Nat.le_succ k)) rfl (pa_cons (pv 0) (pa_cons (pv 1) pa_nil))) pa_nil)))))
abbrev s_run_planned_week : Stmt := top 49
abbrev n_run_planned_week : List Str := ["mill", "weeks", "plan"]
abbrev p_run_planned_week : List Str := ["mill", "weeks"]
theorem sc_run_planned_week : FnScope n_run_planned_week p_run_planned_week (defScope s_run_planned_week) := ⟨rfl, rfl, rfl, by decide +kernel, rfl, by decide +kernel, by decide +kernel⟩
def rd_run_planned_week (P : Program) (w : World) (K : PySem.W.Frag) (a : Ad) (E : XK) (sp_check_limits sp_cheapest sp_execute_week : Sp) : TS :=
    (tSeq (tDrop (tCl sp_check_limits E (tCons (tVar 1) (tCons (tC (.int 1)) (tCons (tC (.int 5)) tNil)))))
    (tSeq (tAsg (tOp (rIxT K) (tCl sp_cheapest E (tCons (tFld K (tVar 0) "rolls") (tCons (tFld K (tVar 0) "visit_cost") (tCons (tVar 1) tNil)))) (tC (.int 1))) (gName 2))
    (tRet (tLst (tCons (tOp (rIxT K) (tVar 2) (tC (.int 0))) (tCons (tCl sp_execute_week E0 (tCons (tVar 0) (tCons (tOp (rIxT K) (tVar 2) (tC (.int 0))) tNil))) tNil))))))
theorem der_run_planned_week {P : Program} {w : World} {K : PySem.W.Frag} {mg : Str → Option Value} {base : Heap} {a : Ad} (T : Txt K mg a) {k : Nat} {sp_check_limits sp_cheapest sp_execute_week : Sp} (c_check_limits : Cal P w K mg base (L2.CX P w) k "check_limits" p_check_limits sp_check_limits) (c_cheapest : Cal P w K mg base (L2.CX P w) k "cheapest" p_cheapest sp_cheapest) (c_execute_week : Cal P w K mg base CX0 k "execute_week" p_execute_week sp_execute_week) {f : Addr} {cdv : Value} {A : Around} {outer : List Env} {s : Shared} {H : Hp} {E : XK}
    (hr : Room (k + 1) (A.deeper (envOfC "run_planned_week" (defScope s_run_planned_week) s.heap.objs.size f cdv))) :
    PSs (cxOf (L2.CX P w) P w K mg base n_run_planned_week "run_planned_week" (defScope s_run_planned_week) f cdv A outer s H E) (defBody s_run_planned_week) (rd_run_planned_week P w K a E sp_check_limits sp_cheapest sp_execute_week) := by
  have nd := sc_run_planned_week.nd
  exact (pss_cons (ps_expr (pe_cE (takes_of rfl rfl rfl rfl) c_check_limits (hr.mono (Nat.le_succ k)) rfl (pa_cons (pv 1) (pa_cons pe_int (pa_cons (pe_k rfl T.k_MOST_WEEKS) pa_nil)))))
      (pss_cons (ps_set (i := 2) nd rfl (Or.inl rfl) (pe_ix ix_tup (pe_cE (takes_of rfl rfl rfl rfl) c_cheapest (hr.mono (Nat.le_succ k)) rfl (pa_cons (pe_fld (pv 0) rfl) (pa_cons (pe_fld (pv 0) rfl) (pa_cons (pv 1) pa_nil)))) pe_int (fun _ _ => rfl)))
      (pss_one (ps_ret (pe_lst (pa_cons (pe_ix ix_tup (pv 2) pe_int (fun _ _ => rfl)) (pa_cons (pe_c c_execute_week (hr.mono (Nat.le_succ k)) rfl (pa_cons (pv 0) (pa_cons (pe_ix ix_tup (pv 2) pe_int (fun _ _ => rfl)) pa_nil))) pa_nil)))))))
end Rg

namespace Rg
open PySem PySem.Spec PyProof.Rows L2 RgC
abbrev s_cost_without_regrinding : Stmt := top 50
abbrev n_cost_without_regrinding : List Str := ["mill", "weeks"]
abbrev p_cost_without_regrinding : List Str := ["mill", "weeks"]
theorem sc_cost_without_regrinding : FnScope n_cost_without_regrinding p_cost_without_regrinding (defScope s_cost_without_regrinding) := ⟨rfl, rfl, rfl, by decide +kernel, rfl, by decide +kernel, by decide +kernel⟩
def rd_cost_without_regrinding (P : Program) (w : World) (K : PySem.W.Frag) (a : Ad) (E : XK) (sp_check_limits sp_cost_of_plan : Sp) : TS :=
    (tSeq (tDrop (tCl sp_check_limits E (tCons (tVar 1) (tCons (tC (.int 0)) (tCons (tC (.int 5)) tNil)))))
    (tRet (tLst (tCons (tCl sp_cost_of_plan E0 (tCons (tFld K (tVar 0) "rolls") (tCons (tFld K (tVar 0) "visit_cost") (tCons (tOp rRep (tLst (tCons (tC (.int 0)) tNil)) (tVar 1)) tNil)))) tNil))))
theorem der_cost_without_regrinding {P : Program} {w : World} {K : PySem.W.Frag} {mg : Str → Option Value} {base : Heap} {a : Ad} (T : Txt K mg a) {k : Nat} {sp_check_limits sp_cost_of_plan : Sp} (c_check_limits : Cal P w K mg base (L2.CX P w) k "check_limits" p_check_limits sp_check_limits) (c_cost_of_plan : Cal P w K mg base CX0 k "cost_of_plan" p_cost_of_plan sp_cost_of_plan) {f : Addr} {cdv : Value} {A : Around} {outer : List Env} {s : Shared} {H : Hp} {E : XK}
    (hr : Room (k + 1) (A.deeper (envOfC "cost_without_regrinding" (defScope s_cost_without_regrinding) s.heap.objs.size f cdv))) :
    PSs (cxOf (L2.CX P w) P w K mg base n_cost_without_regrinding "cost_without_regrinding" (defScope s_cost_without_regrinding) f cdv A outer s H E) (defBody s_cost_without_regrinding) (rd_cost_without_regrinding P w K a E sp_check_limits sp_cost_of_plan) := by
  have nd := sc_cost_without_regrinding.nd
  exact (pss_cons (ps_expr (pe_cE (takes_of rfl rfl rfl rfl) c_check_limits (hr.mono (Nat.le_succ k)) rfl (pa_cons (pv 1) (pa_cons pe_int (pa_cons (pe_k rfl T.k_MOST_WEEKS) pa_nil)))))
      (pss_one (ps_ret (pe_lst (pa_cons (pe_c c_cost_of_plan (hr.mono (Nat.le_succ k)) rfl (pa_cons (pe_fld (pv 0) rfl) (pa_cons (pe_fld (pv 0) rfl) (pa_cons (pe_op op_rep (pe_lst (pa_cons pe_int pa_nil)) (pv 1)) pa_nil)))) pa_nil)))))
abbrev s_cost_of_single_roll : Stmt := top 51
abbrev n_cost_of_single_roll : List Str := ["mill", "roll", "weeks", "found"]
abbrev p_cost_of_single_roll : List Str := ["mill", "roll", "weeks"]
theorem sc_cost_of_single_roll : FnScope n_cost_of_single_roll p_cost_of_single_roll (defScope s_cost_of_single_roll) := ⟨rfl, rfl, rfl, by decide +kernel, rfl, by decide +kernel, by decide +kernel⟩
def rd_cost_of_single_roll (P : Program) (w : World) (K : PySem.W.Frag) (a : Ad) (E : XK) (sp_roll_at sp_cheapest : Sp) : TS :=
    (tSeq (tAsg (tCl sp_roll_at E (tCons (tVar 0) (tCons (tVar 1) tNil))) (gName 3))
    (tRet (tLst (tCons (tOp (rIxT K) (tCl sp_cheapest E (tCons (tLst (tCons (tVar 3) tNil)) (tCons (tFld K (tVar 0) "visit_cost") (tCons (tVar 2) tNil)))) (tC (.int 0))) tNil))))
theorem der_cost_of_single_roll {P : Program} {w : World} {K : PySem.W.Frag} {mg : Str → Option Value} {base : Heap} {a : Ad} (T : Txt K mg a) {k : Nat} {sp_roll_at sp_cheapest : Sp} (c_roll_at : Cal P w K mg base (L2.CX P w) k "roll_at" p_roll_at sp_roll_at) (c_cheapest : Cal P w K mg base (L2.CX P w) k "cheapest" p_cheapest sp_cheapest) {f : Addr} {cdv : Value} {A : Around} {outer : List Env} {s : Shared} {H : Hp} {E : XK}
    (hr : Room (k + 1) (A.deeper (envOfC "cost_of_single_roll" (defScope s_cost_of_single_roll) s.heap.objs.size f cdv))) :
    PSs (cxOf (L2.CX P w) P w K mg base n_cost_of_single_roll "cost_of_single_roll" (defScope s_cost_of_single_roll) f cdv A outer s H E) (defBody s_cost_of_single_roll) (rd_cost_of_single_roll P w K a E sp_roll_at sp_cheapest) := by
  have nd := sc_cost_of_single_roll.nd
  exact (pss_cons (ps_set (i := 3) nd rfl (Or.inl rfl) (pe_cE (takes_of rfl rfl rfl rfl) c_roll_at (hr.mono (Nat.le_succ k)) rfl (pa_cons (pv 0) (pa_cons (pv 1) pa_nil))))
      (pss_one (ps_ret (pe_lst (pa_cons (pe_ix ix_tup (pe_cE (takes_of rfl rfl rfl rfl) c_cheapest (hr.mono (Nat.le_succ k)) rfl (pa_cons (pe_lst (pa_cons (pv 3) pa_nil)) (pa_cons (pe_fld (pv 0) rfl) (pa_cons (pv 2) pa_nil)))) pe_int (fun _ _ => rfl)) pa_nil)))))
abbrev s_lowest_cost_for_visit : Stmt := top 52
abbrev n_lowest_cost_for_visit : List Str := ["mill", "visit_cost", "weeks"]
abbrev p_lowest_cost_for_visit : List Str := ["mill", "visit_cost", "weeks"]
theorem sc_lowest_cost_for_visit : FnScope n_lowest_cost_for_visit p_lowest_cost_for_visit (defScope s_lowest_cost_for_visit) := ⟨rfl, rfl, rfl, by decide +kernel, rfl, by decide +kernel, by decide +kernel⟩
def rd_lowest_cost_for_visit (P : Program) (w : World) (K : PySem.W.Frag) (a : Ad) (E : XK) (sp_check_limits sp_cheapest : Sp) : TS :=
    (tSeq (tDrop (tCl sp_check_limits E (tCons (tVar 1) (tCons (tC (.int 0)) (tCons (tC (.int 999)) tNil)))))
    (tRet (tLst (tCons (tOp (rIxT K) (tCl sp_cheapest E (tCons (tFld K (tVar 0) "rolls") (tCons (tVar 1) (tCons (tVar 2) tNil)))) (tC (.int 0))) tNil))))
theorem der_lowest_cost_for_visit {P : Program} {w : World} {K : PySem.W.Frag} {mg : Str → Option Value} {base : Heap} {a : Ad} (T : Txt K mg a) {k : Nat} {sp_check_limits sp_cheapest : Sp} (c_check_limits : Cal P w K mg base (L2.CX P w) k "check_limits" p_check_limits sp_check_limits) (c_cheapest : Cal P w K mg base (L2.CX P w) k "cheapest" p_cheapest sp_cheapest) {f : Addr} {cdv : Value} {A : Around} {outer : List Env} {s : Shared} {H : Hp} {E : XK}
    (hr : Room (k + 1) (A.deeper (envOfC "lowest_cost_for_visit" (defScope s_lowest_cost_for_visit) s.heap.objs.size f cdv))) :
    PSs (cxOf (L2.CX P w) P w K mg base n_lowest_cost_for_visit "lowest_cost_for_visit" (defScope s_lowest_cost_for_visit) f cdv A outer s H E) (defBody s_lowest_cost_for_visit) (rd_lowest_cost_for_visit P w K a E sp_check_limits sp_cheapest) := by
  have nd := sc_lowest_cost_for_visit.nd
  exact (pss_cons (ps_expr (pe_cE (takes_of rfl rfl rfl rfl) c_check_limits (hr.mono (Nat.le_succ k)) rfl (pa_cons (pv 1) (pa_cons pe_int (pa_cons (pe_k rfl T.k_HIGHEST_COST) pa_nil)))))
      (pss_one (ps_ret (pe_lst (pa_cons (pe_ix ix_tup (pe_cE (takes_of rfl rfl rfl rfl) c_cheapest (hr.mono (Nat.le_succ k)) rfl (pa_cons (pe_fld (pv 0) rfl) (pa_cons (pv 1) (pa_cons (pv 2) pa_nil)))) pe_int (fun _ _ => rfl)) pa_nil)))))
abbrev s_joint_savings : Stmt := top 53
abbrev n_joint_savings : List Str := ["mill", "weeks", "together", "alone", "roll"]
abbrev p_joint_savings : List Str := ["mill", "weeks"]
theorem sc_joint_savings : FnScope n_joint_savings p_joint_savings (defScope s_joint_savings) := ⟨rfl, rfl, rfl, by decide +kernel, rfl, by decide +kernel, by decide +kernel⟩
def rd_joint_savings (P : Program) (w : World) (K : PySem.W.Frag) (a : Ad) (E : XK) (sp_cheapest sp_cheapest_0 : Sp) : TS :=
    (tSeq (tAsg (tOp (rIxT K) (tCl sp_cheapest E (tCons (tFld K (tVar 0) "rolls") (tCons (tFld K (tVar 0) "visit_cost") (tCons (tVar 1) tNil)))) (tC (.int 0))) (gName 2))
    (tSeq (tAsg (tCB (rSum K) (tCons (tLc (iList K (tFld K (tVar 0) "rolls")) (gName 4) tYes (tOp (rIxT K) (tCl sp_cheapest_0 E0 (tCons (tLst (tCons (tVar 4) tNil)) (tCons (tFld K (tVar 0) "visit_cost") (tCons (tVar 1) tNil)))) (tC (.int 0))) [4]) tNil)) (gName 3))
    (tRet (tLst (tCons (tOp rSubI (tVar 3) (tVar 2)) tNil)))))
theorem der_joint_savings {P : Program} {w : World} {K : PySem.W.Frag} {mg : Str → Option Value} {base : Heap} {a : Ad} (T : Txt K mg a) {k : Nat} {sp_cheapest sp_cheapest_0 : Sp} (c_cheapest : Cal P w K mg base (L2.CX P w) k "cheapest" p_cheapest sp_cheapest) (c_cheapest_0 : Cal P w K mg base CX0 k "cheapest" p_cheapest sp_cheapest_0) {f : Addr} {cdv : Value} {A : Around} {outer : List Env} {s : Shared} {H : Hp} {E : XK}
    (hr : Room (k + 1) (A.deeper (envOfC "joint_savings" (defScope s_joint_savings) s.heap.objs.size f cdv))) :
    PSs (cxOf (L2.CX P w) P w K mg base n_joint_savings "joint_savings" (defScope s_joint_savings) f cdv A outer s H E) (defBody s_joint_savings) (rd_joint_savings P w K a E sp_cheapest sp_cheapest_0) := by
  have nd := sc_joint_savings.nd
  exact (pss_cons (ps_set (i := 2) nd rfl (Or.inl rfl) (pe_ix ix_tup (pe_cE (takes_of rfl rfl rfl rfl) c_cheapest (hr.mono (Nat.le_succ k)) rfl (pa_cons (pe_fld (pv 0) rfl) (pa_cons (pe_fld (pv 0) rfl) (pa_cons (pv 1) pa_nil)))) pe_int (fun _ _ => rfl)))
      (pss_cons (ps_set (i := 3) nd rfl (Or.inl rfl) (pe_callB (cr_sum rfl) (by rfl) T.sum boot_sum (pa_cons (pe_lc (own := [("roll", 4)]) (g := (gName 4)) (tt := tYes) rfl nd (pi_list (pe_fld (pv 0) rfl)) (blkOk_by (N := n_joint_savings) (sc := defScope s_joint_savings) (by decide +kernel)) (fun _ _ _ _ _ => (pg_name (i := 4) nd rfl (Or.inl rfl))) (fun _ _ _ _ _ => pts_nil) (fun _ _ _ _ _ => (pe_ix ix_tup (pe_c c_cheapest_0 (hr.mono (Nat.le_succ k)) rfl (pa_cons (pe_lst (pa_cons (pv 4) pa_nil)) (pa_cons (pe_fld (pv 0) rfl) (pa_cons (pv 1) pa_nil)))) pe_int (fun _ _ => rfl)))) pa_nil)))
      (pss_one (ps_ret (pe_lst (pa_cons (pe_op op_sub (pv 3) (pv 2)) pa_nil))))))
abbrev s_next_regrind : Stmt := top 54
abbrev n_next_regrind : List Str := ["mill", "roll", "weeks", "plan", "week", "chosen"]
abbrev p_next_regrind : List Str := ["mill", "roll", "weeks"]
theorem sc_next_regrind : FnScope n_next_regrind p_next_regrind (defScope s_next_regrind) := ⟨rfl, rfl, rfl, by decide +kernel, rfl, by decide +kernel, by decide +kernel⟩
def rd_next_regrind (P : Program) (w : World) (K : PySem.W.Frag) (a : Ad) (E : XK) (sp_roll_at sp_cheapest sp_is_reground : Sp) : TS :=
    (tSeq (tDrop (tCl sp_roll_at E (tCons (tVar 0) (tCons (tVar 1) tNil))))
    (tSeq (tAsg (tOp (rIxT K) (tCl sp_cheapest E (tCons (tFld K (tVar 0) "rolls") (tCons (tFld K (tVar 0) "visit_cost") (tCons (tVar 2) tNil)))) (tC (.int 1))) (gName 3))
    (tSeq (tFor (RgA.iEnumU K (tCons (tVar 3) tNil)) (gTup K 2 (gCons (gName 4) (gCons (gName 5) gNil))) (tIfS (tB (tCl sp_is_reground E0 (tCons (tVar 1) (tCons (tVar 5) tNil)))) (tRet (tLst (tCons (tVar 4) tNil))) tNext))
    (fun _ _ H => E (.ref a.NeverReground) none H))))
theorem der_next_regrind {P : Program} {w : World} {K : PySem.W.Frag} {mg : Str → Option Value} {base : Heap} {a : Ad} (T : Txt K mg a) {k : Nat} {sp_roll_at sp_cheapest sp_is_reground : Sp} (c_roll_at : Cal P w K mg base (L2.CX P w) k "roll_at" p_roll_at sp_roll_at) (c_cheapest : Cal P w K mg base (L2.CX P w) k "cheapest" p_cheapest sp_cheapest) (c_is_reground : Cal P w K mg base CX0 k "is_reground" p_is_reground sp_is_reground) {f : Addr} {cdv : Value} {A : Around} {outer : List Env} {s : Shared} {H : Hp} {E : XK}
    (hr : Room (k + 1) (A.deeper (envOfC "next_regrind" (defScope s_next_regrind) s.heap.objs.size f cdv))) :
    PSs (cxOf (L2.CX P w) P w K mg base n_next_regrind "next_regrind" (defScope s_next_regrind) f cdv A outer s H E) (defBody s_next_regrind) (rd_next_regrind P w K a E sp_roll_at sp_cheapest sp_is_reground) := by
  have nd := sc_next_regrind.nd
  exact (pss_cons (ps_expr (pe_cE (takes_of rfl rfl rfl rfl) c_roll_at (hr.mono (Nat.le_succ k)) rfl (pa_cons (pv 0) (pa_cons (pv 1) pa_nil))))
      (pss_cons (ps_set (i := 3) nd rfl (Or.inl rfl) (pe_ix ix_tup (pe_cE (takes_of rfl rfl rfl rfl) c_cheapest (hr.mono (Nat.le_succ k)) rfl (pa_cons (pe_fld (pv 0) rfl) (pa_cons (pe_fld (pv 0) rfl) (pa_cons (pv 2) pa_nil)))) pe_int (fun _ _ => rfl)))
      (pss_cons (ps_for (passes_of rfl) rfl (RgA.pi_enumU (by rfl) T.enumerate (pa_cons (pv 3) pa_nil)) (pg_tup rfl (pgs_cons (pg_name (i := 4) nd rfl (Or.inl rfl)) (pgs_cons (pg_name (i := 5) nd rfl (Or.inl rfl)) pgs_nil))) (pss_one (ps_if (pt_val (pe_c c_is_reground (hr.mono (Nat.le_succ k)) rfl (pa_cons (pv 1) (pa_cons (pv 5) pa_nil)))) (pss_one (ps_ret (pe_lst (pa_cons (pv 4) pa_nil)))) pss_nil)))
      (pss_one (ps_err T.e_NeverReground rfl (takes_of rfl rfl rfl rfl) rfl)))))
abbrev s_has_rising_costs : Stmt := top 55
abbrev n_has_rising_costs : List Str := ["mill", "roll", "costs", "at"]
abbrev p_has_rising_costs : List Str := ["mill", "roll"]
theorem sc_has_rising_costs : FnScope n_has_rising_costs p_has_rising_costs (defScope s_has_rising_costs) := ⟨rfl, rfl, rfl, by decide +kernel, rfl, by decide +kernel, by decide +kernel⟩
def rd_has_rising_costs (P : Program) (w : World) (K : PySem.W.Frag) (a : Ad) (E : XK) (sp_roll_at : Sp) : TS :=
    (tSeq (tAsg (tFld K (tCl sp_roll_at E (tCons (tVar 0) (tCons (tVar 1) tNil))) "weekly_costs") (gName 2))
    (tSeq (tFor (iRng2 (tCons (tC (.int 1)) (tCons (tCB (rLenS K) (tCons (tVar 2) tNil)) tNil))) (gName 3) (tIfS (tTest (tOp rLt (tOp (rIxL K) (tVar 2) (tVar 3)) (tOp (rIxL K) (tVar 2) (tOp rSubI (tVar 3) (tC (.int 1)))))) (tRet (tLst (tCons (tC (.int 0)) tNil))) tNext))
    (tRet (tLst (tCons (tC (.int 1)) tNil)))))
theorem der_has_rising_costs {P : Program} {w : World} {K : PySem.W.Frag} {mg : Str → Option Value} {base : Heap} {a : Ad} (T : Txt K mg a) {k : Nat} {sp_roll_at : Sp} (c_roll_at : Cal P w K mg base (L2.CX P w) k "roll_at" p_roll_at sp_roll_at) {f : Addr} {cdv : Value} {A : Around} {outer : List Env} {s : Shared} {H : Hp} {E : XK}
    (hr : Room (k + 1) (A.deeper (envOfC "has_rising_costs" (defScope s_has_rising_costs) s.heap.objs.size f cdv))) :
    PSs (cxOf (L2.CX P w) P w K mg base n_has_rising_costs "has_rising_costs" (defScope s_has_rising_costs) f cdv A outer s H E) (defBody s_has_rising_costs) (rd_has_rising_costs P w K a E sp_roll_at) := by
  have nd := sc_has_rising_costs.nd
  exact (pss_cons (ps_set (i := 2) nd rfl (Or.inl rfl) (pe_fld (pe_cE (takes_of rfl rfl rfl rfl) c_roll_at (hr.mono (Nat.le_succ k)) rfl (pa_cons (pv 0) (pa_cons (pv 1) pa_nil))) rfl))
      (pss_cons (ps_for (passes_of rfl) rfl (pi_range2 (by rfl) T.range (pa_cons pe_int (pa_cons (pe_callB call_len_seq (by rfl) T.len PySem.boot_len (pa_cons (pv 2) pa_nil)) pa_nil))) (pg_name (i := 3) nd rfl (Or.inl rfl)) (pss_one (ps_if (pt_cmpR op_lt (pe_ix ix_list (pv 2) (pv 3) (fun _ _ => rfl)) (pe_ix ix_list (pv 2) (pe_op op_sub (pv 3) pe_int) (fun _ _ => rfl)) (nomark _)) (pss_one (ps_ret (pe_lst (pa_cons pe_int pa_nil)))) pss_nil)))
      (pss_one (ps_ret (pe_lst (pa_cons pe_int pa_nil))))))
abbrev s_status : Stmt := top 56
abbrev n_status : List Str := ["mill"]
abbrev p_status : List Str := ["mill"]
theorem sc_status : FnScope n_status p_status (defScope s_status) := ⟨rfl, rfl, rfl, by decide +kernel, rfl, by decide +kernel, by decide +kernel⟩
def rd_status (P : Program) (w : World) (K : PySem.W.Frag) (a : Ad) : TS :=
    (tRet (tLst (tCons (tFld K (tVar 0) "week_count") (tCons (tFld K (tVar 0) "spent") (tCons (tFld K (tVar 0) "visit_cost") (tCons (tCB (rLenS K) (tCons (tFld K (tVar 0) "rolls") tNil)) tNil))))))
theorem der_status {P : Program} {w : World} {K : PySem.W.Frag} {mg : Str → Option Value} {base : Heap} {a : Ad} (T : Txt K mg a) {k : Nat}  {f : Addr} {cdv : Value} {A : Around} {outer : List Env} {s : Shared} {H : Hp} {E : XK}
    (hr : Room (k + 1) (A.deeper (envOfC "status" (defScope s_status) s.heap.objs.size f cdv))) :
    PSs (cxOf CX0 P w K mg base n_status "status" (defScope s_status) f cdv A outer s H E).nox (defBody s_status) (rd_status P w K a) := by
  have nd := sc_status.nd
  exact (pss_one (ps_ret (pe_lst (pa_cons (pe_fld (pv 0) rfl) (pa_cons (pe_fld (pv 0) rfl) (pa_cons (pe_fld (pv 0) rfl) (pa_cons (pe_callB call_len_seq (by rfl) T.len PySem.boot_len (pa_cons (pe_fld (pv 0) rfl) pa_nil)) pa_nil)))))))
end Rg

namespace Rg
open PySem PySem.Spec PyProof.Rows L2 RgC
abbrev s_operate : Stmt := top 61
abbrev n_operate : List Str := ["request", "place", "numbers"]
abbrev p_operate : List Str := ["request", "place", "numbers"]
theorem sc_operate : FnScope n_operate p_operate (defScope s_operate) := ⟨rfl, rfl, rfl, by decide +kernel, rfl, by decide +kernel, by decide +kernel⟩
def rd_operate (P : Program) (w : World) (K : PySem.W.Frag) (a : Ad) (E : XK) (sp_create sp_operate_on_weeks sp_operate_on_rolls : Sp) : TS :=
    (tSeq (tIfS (tTest (tOp rEq (tVar 1) (tC (.int 0)))) (tRet (tCl sp_create E (tCons (tVar 0) (tCons (tOp (rIxL K) (tVar 2) (tC (.int 0))) tNil)))) tNext)
    (tSeq (tIfS (tTest (tOp rIsN (tFld K (tVar 0) "mill") (tC .non))) (fun _ _ H => E (.ref a.NoMill) none H) tNext)
    (tSeq (tIfS (tTest (tChain rLe rLe (tC (.int 8)) (tVar 1) (tC (.int 17)))) (tRet (tCl sp_operate_on_weeks E (tCons (tFld K (tVar 0) "mill") (tCons (tVar 1) (tCons (tVar 2) tNil))))) tNext)
    (tRet (tCl sp_operate_on_rolls E (tCons (tFld K (tVar 0) "mill") (tCons (tVar 1) (tCons (tVar 2) tNil))))))))
theorem der_operate {P : Program} {w : World} {K : PySem.W.Frag} {mg : Str → Option Value} {base : Heap} {a : Ad} (T : Txt K mg a) {k : Nat} {sp_create sp_operate_on_weeks sp_operate_on_rolls : Sp} (c_create : Cal P w K mg base (L2.CX P w) k "create" p_create sp_create) (c_operate_on_weeks : Cal P w K mg base (L2.CX P w) k "operate_on_weeks" p_operate_on_weeks sp_operate_on_weeks) (c_operate_on_rolls : Cal P w K mg base (L2.CX P w) k "operate_on_rolls" p_operate_on_rolls sp_operate_on_rolls) {f : Addr} {cdv : Value} {A : Around} {outer : List Env} {s : Shared} {H : Hp} {E : XK}
    (hr : Room (k + 1) (A.deeper (envOfC "operate" (defScope s_operate) s.heap.objs.size f cdv))) :
    PSs (cxOf (L2.CX P w) P w K mg base n_operate "operate" (defScope s_operate) f cdv A outer s H E) (defBody s_operate) (rd_operate P w K a E sp_create sp_operate_on_weeks sp_operate_on_rolls) := by
  have nd := sc_operate.nd
  exact (pss_cons (ps_if (pt_cmpR op_eq (pv 1) pe_int (nomark _)) (pss_one (ps_ret (pe_cE (takes_of rfl rfl rfl rfl) c_create (hr.mono (Nat.le_succ k)) rfl (pa_cons (pv 0) (pa_cons (pe_ix ix_list (pv 2) pe_int (fun _ _ => rfl)) pa_nil))))) pss_nil)
      (pss_cons (ps_if (pt_cmpR op_isN (pe_fld (pv 0) rfl) pe_non (nomark _)) (pss_one (ps_err T.e_NoMill rfl (takes_of rfl rfl rfl rfl) rfl)) pss_nil)
      (pss_cons (ps_if (pt_chain op_le op_le pe_int (pv 1) pe_int) (pss_one (ps_ret (pe_cE (takes_of rfl rfl rfl rfl) c_operate_on_weeks (hr.mono (Nat.le_succ k)) rfl (pa_cons (pe_fld (pv 0) rfl) (pa_cons (pv 1) (pa_cons (pv 2) pa_nil)))))) pss_nil)
      (pss_one (ps_ret (pe_cE (takes_of rfl rfl rfl rfl) c_operate_on_rolls (hr.mono (Nat.le_succ k)) rfl (pa_cons (pe_fld (pv 0) rfl) (pa_cons (pv 1) (pa_cons (pv 2) pa_nil)))))))))
abbrev s_operate_on_rolls : Stmt := top 62
abbrev n_operate_on_rolls : List Str := ["mill", "place", "numbers"]
abbrev p_operate_on_rolls : List Str := ["mill", "place", "numbers"]
theorem sc_operate_on_rolls : FnScope n_operate_on_rolls p_operate_on_rolls (defScope s_operate_on_rolls) := ⟨rfl, rfl, rfl, by decide +kernel, rfl, by decide +kernel, by decide +kernel⟩
def rd_operate_on_rolls (P : Program) (w : World) (K : PySem.W.Frag) (a : Ad) (E : XK) (sp_add_roll sp_remove_roll sp_set_age sp_set_visit_cost sp_get_roll sp_mean_weekly_cost sp_best_period sp_has_rising_costs sp_status : Sp) : TS :=
    (tSeq (tIfS (tTest (tOp rEq (tVar 1) (tC (.int 1)))) (tRet (tCl sp_add_roll E (tCons (tVar 0) (tCons (tOp (rIxL K) (tVar 2) (tC (.int 0))) (tCons (tSl (rSlL K) (tVar 2) (tPart (tC (.int 1))) tNoPart) tNil))))) tNext)
    (tSeq (tIfS (tTest (tOp rEq (tVar 1) (tC (.int 2)))) (tRet (tCl sp_remove_roll E (tCons (tVar 0) (tCons (tOp (rIxL K) (tVar 2) (tC (.int 0))) tNil)))) tNext)
    (tSeq (tIfS (tTest (tOp rEq (tVar 1) (tC (.int 3)))) (tRet (tCl sp_set_age E (tCons (tVar 0) (tCons (tOp (rIxL K) (tVar 2) (tC (.int 0))) (tCons (tOp (rIxL K) (tVar 2) (tC (.int 1))) tNil))))) tNext)
    (tSeq (tIfS (tTest (tOp rEq (tVar 1) (tC (.int 4)))) (tRet (tCl sp_set_visit_cost E (tCons (tVar 0) (tCons (tOp (rIxL K) (tVar 2) (tC (.int 0))) tNil)))) tNext)
    (tSeq (tIfS (tTest (tOp rEq (tVar 1) (tC (.int 5)))) (tRet (tCl sp_get_roll E (tCons (tVar 0) (tCons (tOp (rIxL K) (tVar 2) (tC (.int 0))) tNil)))) tNext)
    (tSeq (tIfS (tTest (tOp rEq (tVar 1) (tC (.int 6)))) (tRet (tCl sp_mean_weekly_cost E (tCons (tVar 0) (tCons (tOp (rIxL K) (tVar 2) (tC (.int 0))) (tCons (tOp (rIxL K) (tVar 2) (tC (.int 1))) tNil))))) tNext)
    (tSeq (tIfS (tTest (tOp rEq (tVar 1) (tC (.int 7)))) (tRet (tCl sp_best_period E (tCons (tVar 0) (tCons (tOp (rIxL K) (tVar 2) (tC (.int 0))) tNil)))) tNext)
    (tSeq (tIfS (tTest (tOp rEq (tVar 1) (tC (.int 18)))) (tRet (tCl sp_has_rising_costs E (tCons (tVar 0) (tCons (tOp (rIxL K) (tVar 2) (tC (.int 0))) tNil)))) tNext)
    (tRet (tCl sp_status E0 (tCons (tVar 0) tNil)))))))))))
theorem der_operate_on_rolls {P : Program} {w : World} {K : PySem.W.Frag} {mg : Str → Option Value} {base : Heap} {a : Ad} (T : Txt K mg a) {k : Nat} {sp_add_roll sp_remove_roll sp_set_age sp_set_visit_cost sp_get_roll sp_mean_weekly_cost sp_best_period sp_has_rising_costs sp_status : Sp} (c_add_roll : Cal P w K mg base (L2.CX P w) k "add_roll" p_add_roll sp_add_roll) (c_remove_roll : Cal P w K mg base (L2.CX P w) k "remove_roll" p_remove_roll sp_remove_roll) (c_set_age : Cal P w K mg base (L2.CX P w) k "set_age" p_set_age sp_set_age) (c_set_visit_cost : Cal P w K mg base (L2.CX P w) k "set_visit_cost" p_set_visit_cost sp_set_visit_cost) (c_get_roll : Cal P w K mg base (L2.CX P w) k "get_roll" p_get_roll sp_get_roll) (c_mean_weekly_cost : Cal P w K mg base (L2.CX P w) k "mean_weekly_cost" p_mean_weekly_cost sp_mean_weekly_cost) (c_best_period : Cal P w K mg base (L2.CX P w) k "best_period" p_best_period sp_best_period) (c_has_rising_costs : Cal P w K mg base (L2.CX P w) k "has_rising_costs" p_has_rising_costs sp_has_rising_costs) (c_status : Cal P w K mg base CX0 k "status" p_status sp_status) {f : Addr} {cdv : Value} {A : Around} {outer : List Env} {s : Shared} {H : Hp} {E : XK}
    (hr : Room (k + 1) (A.deeper (envOfC "operate_on_rolls" (defScope s_operate_on_rolls) s.heap.objs.size f cdv))) :
    PSs (cxOf (L2.CX P w) P w K mg base n_operate_on_rolls "operate_on_rolls" (defScope s_operate_on_rolls) f cdv A outer s H E) (defBody s_operate_on_rolls) (rd_operate_on_rolls P w K a E sp_add_roll sp_remove_roll sp_set_age sp_set_visit_cost sp_get_roll sp_mean_weekly_cost sp_best_period sp_has_rising_costs sp_status) := by
  have nd := sc_operate_on_rolls.nd
  exact (pss_cons (ps_if (pt_cmpR op_eq (pv 1) pe_int (nomark _)) (pss_one (ps_ret (pe_cE (takes_of rfl rfl rfl rfl) c_add_roll (hr.mono (Nat.le_succ k)) rfl (pa_cons (pv 0) (pa_cons (pe_ix ix_list (pv 2) pe_int (fun _ _ => rfl)) (pa_cons (pe_slice sl_list (pv 2) (po_some pe_int) po_none) pa_nil)))))) pss_nil)
      (pss_cons (ps_if (pt_cmpR op_eq (pv 1) pe_int (nomark _)) (pss_one (ps_ret (pe_cE (takes_of rfl rfl rfl rfl) c_remove_roll (hr.mono (Nat.le_succ k)) rfl (pa_cons (pv 0) (pa_cons (pe_ix ix_list (pv 2) pe_int (fun _ _ => rfl)) pa_nil))))) pss_nil)
      (pss_cons (ps_if (pt_cmpR op_eq (pv 1) pe_int (nomark _)) (pss_one (ps_ret (pe_cE (takes_of rfl rfl rfl rfl) c_set_age (hr.mono (Nat.le_succ k)) rfl (pa_cons (pv 0) (pa_cons (pe_ix ix_list (pv 2) pe_int (fun _ _ => rfl)) (pa_cons (pe_ix ix_list (pv 2) pe_int (fun _ _ => rfl)) pa_nil)))))) pss_nil)
      (pss_cons (ps_if (pt_cmpR op_eq (pv 1) pe_int (nomark _)) (pss_one (ps_ret (pe_cE (takes_of rfl rfl rfl rfl) c_set_visit_cost (hr.mono (Nat.le_succ k)) rfl (pa_cons (pv 0) (pa_cons (pe_ix ix_list (pv 2) pe_int (fun _ _ => rfl)) pa_nil))))) pss_nil)
      (pss_cons (ps_if (pt_cmpR op_eq (pv 1) pe_int (nomark _)) (pss_one (ps_ret (pe_cE (takes_of rfl rfl rfl rfl) c_get_roll (hr.mono (Nat.le_succ k)) rfl (pa_cons (pv 0) (pa_cons (pe_ix ix_list (pv 2) pe_int (fun _ _ => rfl)) pa_nil))))) pss_nil)
      (pss_cons (ps_if (pt_cmpR op_eq (pv 1) pe_int (nomark _)) (pss_one (ps_ret (pe_cE (takes_of rfl rfl rfl rfl) c_mean_weekly_cost (hr.mono (Nat.le_succ k)) rfl (pa_cons (pv 0) (pa_cons (pe_ix ix_list (pv 2) pe_int (fun _ _ => rfl)) (pa_cons (pe_ix ix_list (pv 2) pe_int (fun _ _ => rfl)) pa_nil)))))) pss_nil)
      (pss_cons (ps_if (pt_cmpR op_eq (pv 1) pe_int (nomark _)) (pss_one (ps_ret (pe_cE (takes_of rfl rfl rfl rfl) c_best_period (hr.mono (Nat.le_succ k)) rfl (pa_cons (pv 0) (pa_cons (pe_ix ix_list (pv 2) pe_int (fun _ _ => rfl)) pa_nil))))) pss_nil)
      (pss_cons (ps_if (pt_cmpR op_eq (pv 1) pe_int (nomark _)) (pss_one (ps_ret (pe_cE (takes_of rfl rfl rfl rfl) c_has_rising_costs (hr.mono (Nat.le_succ k)) rfl (pa_cons (pv 0) (pa_cons (pe_ix ix_list (pv 2) pe_int (fun _ _ => rfl)) pa_nil))))) pss_nil)
      (pss_one (ps_ret (pe_c c_status (hr.mono (Nat.le_succ k)) rfl (pa_cons (pv 0) pa_nil))))))))))))
abbrev s_operate_on_weeks : Stmt := top 63
abbrev n_operate_on_weeks : List Str := ["mill", "place", "numbers"]
abbrev p_operate_on_weeks : List Str := ["mill", "place", "numbers"]
theorem sc_operate_on_weeks : FnScope n_operate_on_weeks p_operate_on_weeks (defScope s_operate_on_weeks) := ⟨rfl, rfl, rfl, by decide +kernel, rfl, by decide +kernel, by decide +kernel⟩
def rd_operate_on_weeks (P : Program) (w : World) (K : PySem.W.Frag) (a : Ad) (E : XK) (sp_cheapest_plan sp_lowest_cost sp_plan_cost sp_run_week sp_run_planned_week sp_cost_without_regrinding sp_cost_of_single_roll sp_lowest_cost_for_visit sp_joint_savings sp_next_regrind : Sp) : TS :=
    (tSeq (tIfS (tTest (tOp rEq (tVar 1) (tC (.int 8)))) (tRet (tCl sp_cheapest_plan E (tCons (tVar 0) (tCons (tOp (rIxL K) (tVar 2) (tC (.int 0))) tNil)))) tNext)
    (tSeq (tIfS (tTest (tOp rEq (tVar 1) (tC (.int 9)))) (tRet (tCl sp_lowest_cost E (tCons (tVar 0) (tCons (tOp (rIxL K) (tVar 2) (tC (.int 0))) tNil)))) tNext)
    (tSeq (tIfS (tTest (tOp rEq (tVar 1) (tC (.int 10)))) (tRet (tCl sp_plan_cost E (tCons (tVar 0) (tCons (tVar 2) tNil)))) tNext)
    (tSeq (tIfS (tTest (tOp rEq (tVar 1) (tC (.int 11)))) (tRet (tCl sp_run_week E (tCons (tVar 0) (tCons (tOp (rIxL K) (tVar 2) (tC (.int 0))) tNil)))) tNext)
    (tSeq (tIfS (tTest (tOp rEq (tVar 1) (tC (.int 12)))) (tRet (tCl sp_run_planned_week E (tCons (tVar 0) (tCons (tOp (rIxL K) (tVar 2) (tC (.int 0))) tNil)))) tNext)
    (tSeq (tIfS (tTest (tOp rEq (tVar 1) (tC (.int 13)))) (tRet (tCl sp_cost_without_regrinding E (tCons (tVar 0) (tCons (tOp (rIxL K) (tVar 2) (tC (.int 0))) tNil)))) tNext)
    (tSeq (tIfS (tTest (tOp rEq (tVar 1) (tC (.int 14)))) (tRet (tCl sp_cost_of_single_roll E (tCons (tVar 0) (tCons (tOp (rIxL K) (tVar 2) (tC (.int 0))) (tCons (tOp (rIxL K) (tVar 2) (tC (.int 1))) tNil))))) tNext)
    (tSeq (tIfS (tTest (tOp rEq (tVar 1) (tC (.int 15)))) (tRet (tCl sp_lowest_cost_for_visit E (tCons (tVar 0) (tCons (tOp (rIxL K) (tVar 2) (tC (.int 0))) (tCons (tOp (rIxL K) (tVar 2) (tC (.int 1))) tNil))))) tNext)
    (tSeq (tIfS (tTest (tOp rEq (tVar 1) (tC (.int 16)))) (tRet (tCl sp_joint_savings E (tCons (tVar 0) (tCons (tOp (rIxL K) (tVar 2) (tC (.int 0))) tNil)))) tNext)
    (tRet (tCl sp_next_regrind E (tCons (tVar 0) (tCons (tOp (rIxL K) (tVar 2) (tC (.int 0))) (tCons (tOp (rIxL K) (tVar 2) (tC (.int 1))) tNil))))))))))))))
theorem der_operate_on_weeks {P : Program} {w : World} {K : PySem.W.Frag} {mg : Str → Option Value} {base : Heap} {a : Ad} (T : Txt K mg a) {k : Nat} {sp_cheapest_plan sp_lowest_cost sp_plan_cost sp_run_week sp_run_planned_week sp_cost_without_regrinding sp_cost_of_single_roll sp_lowest_cost_for_visit sp_joint_savings sp_next_regrind : Sp} (c_cheapest_plan : Cal P w K mg base (L2.CX P w) k "cheapest_plan" p_cheapest_plan sp_cheapest_plan) (c_lowest_cost : Cal P w K mg base (L2.CX P w) k "lowest_cost" p_lowest_cost sp_lowest_cost) (c_plan_cost : Cal P w K mg base (L2.CX P w) k "plan_cost" p_plan_cost sp_plan_cost) (c_run_week : Cal P w K mg base (L2.CX P w) k "run_week" p_run_week sp_run_week) (c_run_planned_week : Cal P w K mg base (L2.CX P w) k "run_planned_week" p_run_planned_week sp_run_planned_week) (c_cost_without_regrinding : Cal P w K mg base (L2.CX P w) k "cost_without_regrinding" p_cost_without_regrinding sp_cost_without_regrinding) (c_cost_of_single_roll : Cal P w K mg base (L2.CX P w) k "cost_of_single_roll" p_cost_of_single_roll sp_cost_of_single_roll) (c_lowest_cost_for_visit : Cal P w K mg base (L2.CX P w) k "lowest_cost_for_visit" p_lowest_cost_for_visit sp_lowest_cost_for_visit) (c_joint_savings : Cal P w K mg base (L2.CX P w) k "joint_savings" p_joint_savings sp_joint_savings) (c_next_regrind : Cal P w K mg base (L2.CX P w) k "next_regrind" p_next_regrind sp_next_regrind) {f : Addr} {cdv : Value} {A : Around} {outer : List Env} {s : Shared} {H : Hp} {E : XK}
    (hr : Room (k + 1) (A.deeper (envOfC "operate_on_weeks" (defScope s_operate_on_weeks) s.heap.objs.size f cdv))) :
    PSs (cxOf (L2.CX P w) P w K mg base n_operate_on_weeks "operate_on_weeks" (defScope s_operate_on_weeks) f cdv A outer s H E) (defBody s_operate_on_weeks) (rd_operate_on_weeks P w K a E sp_cheapest_plan sp_lowest_cost sp_plan_cost sp_run_week sp_run_planned_week sp_cost_without_regrinding sp_cost_of_single_roll sp_lowest_cost_for_visit sp_joint_savings sp_next_regrind) := by
  have nd := sc_operate_on_weeks.nd
  exact (pss_cons (ps_if (pt_cmpR op_eq (pv 1) pe_int (nomark _)) (pss_one (ps_ret (pe_cE (takes_of rfl rfl rfl rfl) c_cheapest_plan (hr.mono (Nat.le_succ k)) rfl (pa_cons (pv 0) (pa_cons (pe_ix ix_list (pv 2) pe_int (fun _ _ => rfl)) pa_nil))))) pss_nil)
      (pss_cons (ps_if (pt_cmpR op_eq (pv 1) pe_int (nomark _)) (pss_one (ps_ret (pe_cE (takes_of rfl rfl rfl rfl) c_lowest_cost (hr.mono (Nat.le_succ k)) rfl (pa_cons (pv 0) (pa_cons (pe_ix ix_list (pv 2) pe_int (fun _ _ => rfl)) pa_nil))))) pss_nil)
      (pss_cons (ps_if (pt_cmpR op_eq (pv 1) pe_int (nomark _)) (pss_one (ps_ret (pe_cE (takes_of rfl rfl rfl rfl) c_plan_cost (hr.mono (Nat.le_succ k)) rfl (pa_cons (pv 0) (pa_cons (pv 2) pa_nil))))) pss_nil)
      (pss_cons (ps_if (pt_cmpR op_eq (pv 1) pe_int (nomark _)) (pss_one (ps_ret (pe_cE (takes_of rfl rfl rfl rfl) c_run_week (hr.mono (Nat.le_succ k)) rfl (pa_cons (pv 0) (pa_cons (pe_ix ix_list (pv 2) pe_int (fun _ _ => rfl)) pa_nil))))) pss_nil)
      (pss_cons (ps_if (pt_cmpR op_eq (pv 1) pe_int (nomark _)) (pss_one (ps_ret (pe_cE (takes_of rfl rfl rfl rfl) c_run_planned_week (hr.mono (Nat.le_succ k)) rfl (pa_cons (pv 0) (pa_cons (pe_ix ix_list (pv 2) pe_int (fun _ _ => rfl)) pa_nil))))) pss_nil)
      (pss_cons (ps_if (pt_cmpR op_eq (pv 1) pe_int (nomark _)) (pss_one (ps_ret (pe_cE (takes_of rfl rfl rfl rfl) c_cost_without_regrinding (hr.mono (Nat.le_succ k)) rfl (pa_cons (pv 0) (pa_cons (pe_ix ix_list (pv 2) pe_int (fun _ _ => rfl)) pa_nil))))) pss_nil)
      (pss_cons (ps_if (pt_cmpR op_eq (pv 1) pe_int (nomark _)) (pss_one (ps_ret (pe_cE (takes_of rfl rfl rfl rfl) c_cost_of_single_roll (hr.mono (Nat.le_succ k)) rfl (pa_cons (pv 0) (pa_cons (pe_ix ix_list (pv 2) pe_int (fun _ _ => rfl)) (pa_cons (pe_ix ix_list (pv 2) pe_int (fun _ _ => rfl)) pa_nil)))))) pss_nil)
      (pss_cons (ps_if (pt_cmpR op_eq (pv 1) pe_int (nomark _)) (pss_one (ps_ret (pe_cE (takes_of rfl rfl rfl rfl) c_lowest_cost_for_visit (hr.mono (Nat.le_succ k)) rfl (pa_cons (pv 0) (pa_cons (pe_ix ix_list (pv 2) pe_int (fun _ _ => rfl)) (pa_cons (pe_ix ix_list (pv 2) pe_int (fun _ _ => rfl)) pa_nil)))))) pss_nil)
      (pss_cons (ps_if (pt_cmpR op_eq (pv 1) pe_int (nomark _)) (pss_one (ps_ret (pe_cE (takes_of rfl rfl rfl rfl) c_joint_savings (hr.mono (Nat.le_succ k)) rfl (pa_cons (pv 0) (pa_cons (pe_ix ix_list (pv 2) pe_int (fun _ _ => rfl)) pa_nil))))) pss_nil)
      (pss_one (ps_ret (pe_cE (takes_of rfl rfl rfl rfl) c_next_regrind (hr.mono (Nat.le_succ k)) rfl (pa_cons (pv 0) (pa_cons (pe_ix ix_list (pv 2) pe_int (fun _ _ => rfl)) (pa_cons (pe_ix ix_list (pv 2) pe_int (fun _ _ => rfl)) pa_nil)))))))))))))))
abbrev s_split_calls : Stmt := top 59
abbrev n_split_calls : List Str := ["calls", "found", "at", "end"]
abbrev p_split_calls : List Str := ["calls"]
theorem sc_split_calls : FnScope n_split_calls p_split_calls (defScope s_split_calls) := ⟨rfl, rfl, rfl, by decide +kernel, rfl, by decide +kernel, by decide +kernel⟩
def rd_split_calls (P : Program) (w : World) (K : PySem.W.Frag) (a : Ad) : TS :=
    (tSeq (tAsg (tLst tNil) (gName 1))
    (tSeq (tAsg (tC (.int 0)) (gName 2))
    (tSeq (tWhile (tTest (tOp rLt (tVar 2) (tCB (rLenS K) (tCons (tVar 0) tNil)))) (tSeq (tAsg (tOp rAddI (tOp rAddI (tVar 2) (tC (.int 2))) (tOp (rIxL K) (tVar 0) (tOp rAddI (tVar 2) (tC (.int 1))))) (gName 3))
    (tSeq (tDrop (tBM K "list" rAppend (tVar 1) (tCons (tTup (tCons (tOp (rIxL K) (tVar 0) (tVar 2)) (tCons (tSl (rSlL K) (tVar 0) (tPart (tOp rAddI (tVar 2) (tC (.int 2)))) (tPart (tVar 3))) tNil))) tNil)))
    (tAsg (tOp rAddI (tVar 3) (tC (.int 1))) (gName 2)))))
    (tRet (tVar 1)))))
theorem der_split_calls {P : Program} {w : World} {K : PySem.W.Frag} {mg : Str → Option Value} {base : Heap} {a : Ad} (T : Txt K mg a) {k : Nat}  {f : Addr} {cdv : Value} {A : Around} {outer : List Env} {s : Shared} {H : Hp} {E : XK}
    (hr : Room (k + 1) (A.deeper (envOfC "split_calls" (defScope s_split_calls) s.heap.objs.size f cdv))) :
    PSs (cxOf CX0 P w K mg base n_split_calls "split_calls" (defScope s_split_calls) f cdv A outer s H E).nox (defBody s_split_calls) (rd_split_calls P w K a) := by
  have nd := sc_split_calls.nd
  exact (pss_cons (ps_set (i := 1) nd rfl (Or.inl rfl) (pe_lst pa_nil))
      (pss_cons (ps_set (i := 2) nd rfl (Or.inl rfl) pe_int)
      (pss_cons (ps_while PassesOwn.never (pt_cmpR op_lt (pv 2) (pe_callB call_len_seq (by rfl) T.len PySem.boot_len (pa_cons (pv 0) pa_nil)) (nomark _)) (pss_cons (ps_set (i := 3) nd rfl (Or.inl rfl) (pe_op op_add (pe_op op_add (pv 2) pe_int) (pe_ix ix_list (pv 0) (pe_op op_add (pv 2) pe_int) (fun _ _ => rfl))))
      (pss_cons (ps_expr (pe_bm PySem.F.plainAttrs_list PySem.F.slot_list_append PySem.F.type_list_append mt_append (pv 1) (pa_cons (pe_tup (pa_cons (pe_ix ix_list (pv 0) (pv 2) (fun _ _ => rfl)) (pa_cons (pe_slice sl_list (pv 0) (po_some (pe_op op_add (pv 2) pe_int)) (po_some (pv 3))) pa_nil))) pa_nil)))
      (pss_one (ps_set (i := 2) nd rfl (Or.inl rfl) (pe_op op_add (pv 3) pe_int))))))
      (pss_one (ps_ret (pv 1))))))
abbrev s_answers : Stmt := top 58
abbrev n_answers : List Str := ["calls", "request", "told", "place", "numbers", "result"]
abbrev p_answers : List Str := ["calls"]
theorem sc_answers : FnScope n_answers p_answers (defScope s_answers) := ⟨rfl, rfl, rfl, by decide +kernel, rfl, by decide +kernel, by decide +kernel⟩
def rd_answers (P : Program) (w : World) (K : PySem.W.Frag) (a : Ad) (sp_Request_init sp_split_calls sp_answer : Sp) : TS :=
    (tSeq (tAsg (tMk a.Request sp_Request_init tNil) (gName 1))
    (tSeq (tAsg (tLst tNil) (gName 2))
    (tSeq (tFor (iList K (tCl sp_split_calls E0 (tCons (tVar 0) tNil))) (gTup K 2 (gCons (gName 3) (gCons (gName 4) gNil))) (tSeq (tAsg (tCl sp_answer E0 (tCons (tVar 1) (tCons (tVar 3) (tCons (tVar 4) tNil)))) (gName 5))
    (tSeq (tDrop (tBM K "list" rAppend (tVar 2) (tCons (tCB (rLenS K) (tCons (tVar 5) tNil)) tNil)))
    (tDrop (tBM K "list" rExtend (tVar 2) (tCons (tVar 5) tNil))))))
    (tRet (tVar 2)))))
theorem der_answers {P : Program} {w : World} {K : PySem.W.Frag} {mg : Str → Option Value} {base : Heap} {a : Ad} (T : Txt K mg a) {k : Nat} {sp_Request_init sp_split_calls sp_answer : Sp} (k_Request : Mak P w K mg base k "Request" a.Request p_Request_init sp_Request_init) (c_split_calls : Cal P w K mg base CX0 k "split_calls" p_split_calls sp_split_calls) (c_answer : Cal P w K mg base CX0 k "answer" p_answer sp_answer) {f : Addr} {cdv : Value} {A : Around} {outer : List Env} {s : Shared} {H : Hp} {E : XK}
    (hr : Room (k + 1) (A.deeper (envOfC "answers" (defScope s_answers) s.heap.objs.size f cdv))) :
    PSs (cxOf CX0 P w K mg base n_answers "answers" (defScope s_answers) f cdv A outer s H E).nox (defBody s_answers) (rd_answers P w K a sp_Request_init sp_split_calls sp_answer) := by
  have nd := sc_answers.nd
  exact (pss_cons (ps_set (i := 1) nd rfl (Or.inl rfl) (pe_mk0 k_Request hr rfl))
      (pss_cons (ps_set (i := 2) nd rfl (Or.inl rfl) (pe_lst pa_nil))
      (pss_cons (ps_for PassesOwn.never rfl (pi_list (pe_c c_split_calls (hr.mono (Nat.le_succ k)) rfl (pa_cons (pv 0) pa_nil))) (pg_tup rfl (pgs_cons (pg_name (i := 3) nd rfl (Or.inl rfl)) (pgs_cons (pg_name (i := 4) nd rfl (Or.inl rfl)) pgs_nil))) (pss_cons (ps_set (i := 5) nd rfl (Or.inl rfl) (pe_c c_answer (hr.mono (Nat.le_succ k)) rfl (pa_cons (pv 1) (pa_cons (pv 3) (pa_cons (pv 4) pa_nil)))))
      (pss_cons (ps_expr (pe_bm PySem.F.plainAttrs_list PySem.F.slot_list_append PySem.F.type_list_append mt_append (pv 2) (pa_cons (pe_callB call_len_seq (by rfl) T.len PySem.boot_len (pa_cons (pv 5) pa_nil)) pa_nil)))
      (pss_one (ps_expr (pe_bm PySem.F.plainAttrs_list PySem.F.slot_list_extend PySem.F.type_list_extend mt_extend (pv 2) (pa_cons (pv 5) pa_nil)))))))
      (pss_one (ps_ret (pv 2))))))
end Rg

namespace Rg
open PySem PySem.Spec PyProof.Rows L2 RgC
abbrev s_answer : Stmt := top 60
abbrev n_answer : List Str := ["request", "place", "numbers"]
abbrev p_answer : List Str := ["request", "place", "numbers"]
theorem sc_answer : FnScope n_answer p_answer (defScope s_answer) := ⟨rfl, rfl, rfl, by decide +kernel, rfl, by decide +kernel, by decide +kernel⟩
def rd_code (n : Int) : TS := tRet (tLst (tCons (tUn rNeg (tC (.int n))) tNil))
def hd_answer (a : Ad) : List (Value × (Addr → Value → Option Addr → TS)) :=
  [(.ref a.NoMill, fun _ _ _ => rd_code 11), (.ref a.NoRoll, fun _ _ _ => rd_code 2), (.ref a.OutsideLimits, fun _ _ _ => rd_code 22), (.ref a.TooManyRolls, fun _ _ _ => rd_code 28), (.ref a.NeverReground, fun _ _ _ => rd_code 33)]
def rd_answer (P : Program) (w : World) (K : PySem.W.Frag) (a : Ad) (sp_operate : Sp) : TS := fun D σ H =>
  tRet (tCallS sp_operate (WE (wMany K (fun _ _ _ _ => False) D (hd_answer a))) (tCons (tVar 0) (tCons (tVar 1) (tCons (tVar 2) tNil)))) D σ H
theorem der_answer {P : Program} {w : World} {K : PySem.W.Frag} {mg : Str → Option Value} {base : Heap} {a : Ad} (T : Txt K mg a) {k : Nat} {sp_operate : Sp} (c_operate : Cal P w K mg base (L2.CX P w) k "operate" p_operate sp_operate) {f : Addr} {cdv : Value} {A : Around} {outer : List Env} {s : Shared} {H : Hp} {E : XK}
    (hr : Room (k + 1) (A.deeper (envOfC "answer" (defScope s_answer) s.heap.objs.size f cdv))) :
    PSs (cxOf CX0 P w K mg base n_answer "answer" (defScope s_answer) f cdv A outer s H E).nox (defBody s_answer) (rd_answer P w K a sp_operate) := by
  have nd := sc_answer.nd
  have hr1 : Room k (A.deeper (envOfC "answer" (defScope s_answer) s.heap.objs.size f cdv)) := hr.mono (Nat.le_succ k)
  exact pss_one (ps_try_many (tb := fun W => tRet (tCallS sp_operate (WE W) (tCons (tVar 0) (tCons (tVar 1) (tCons (tVar 2) tNil))))) (Wout := fun _ _ _ _ => False) rfl rfl takes0
    (fun W pn xe tk _ => pss_one (ps_ret (pe_cS tk c_operate hr1 rfl (pa_cons (pv 0) (pa_cons (pv 1) (pa_cons (pv 2) pa_nil))))))
    (.cons ⟨rfl, by decide, .inl T.e_NoMill.g⟩ (fun _ _ _ _ _ _ _ => pss_one (ps_ret (pe_lst (pa_cons (pe_un un_neg pe_int) pa_nil))))
    (.cons ⟨rfl, by decide, .inl T.e_NoRoll.g⟩ (fun _ _ _ _ _ _ _ => pss_one (ps_ret (pe_lst (pa_cons (pe_un un_neg pe_int) pa_nil))))
    (.cons ⟨rfl, by decide, .inl T.e_OutsideLimits.g⟩ (fun _ _ _ _ _ _ _ => pss_one (ps_ret (pe_lst (pa_cons (pe_un un_neg pe_int) pa_nil))))
    (.cons ⟨rfl, by decide, .inl T.e_TooManyRolls.g⟩ (fun _ _ _ _ _ _ _ => pss_one (ps_ret (pe_lst (pa_cons (pe_un un_neg pe_int) pa_nil))))
    (.cons ⟨rfl, by decide, .inl T.e_NeverReground.g⟩ (fun _ _ _ _ _ _ _ => pss_one (ps_ret (pe_lst (pa_cons (pe_un un_neg pe_int) pa_nil)))) .nil))))))
end Rg

/-! how rolls and mills lie in the heap -/
namespace Rg
open PySem PySem.Spec PyProof.Rows L2 RgC
open Kp410 (Roll Mill)

/-! ### a def from its derivation and its reading -/
section
variable {P : Program} {w : World} {K : PySem.W.Frag} {mg : Str → Option Value} {base : Heap} {x qual : Str} {st : Stmt} {f C : Addr} {fd : FuncData} {N ps : List Str} {k : Nat} {sp : Sp}
theorem fn0 {rd : TS} (F : Fun K x qual st f fd) (S : FnScope N ps (defScope st)) (len : ∀ vs H Q E, sp vs H Q E → vs.length = ps.length)
    (der : ∀ (cdv : Value) (A : Around) (outer : List Env) (s : Shared) (H : Hp) (E : XK), Room (k + 1) (A.deeper (envOfC qual (defScope st) s.heap.objs.size f cdv)) → PSs (cxOf CX0 P w K mg base N qual (defScope st) f cdv A outer s H E).nox (defBody st) rd)
    (pu : ∀ vs H Q E, sp vs H Q E → rd { nx := fun _ H' => Q .non H', rt := Q } (start N vs) H) : FnOk P w K mg base CX0 (k + 2) f fd ps sp :=
  F.ok S len fun cdv A outer s H vs Q E hr h => ⟨rd, der cdv A outer s H E hr, pu vs H Q E h⟩
theorem fnX {rd : XK → TS} (F : Fun K x qual st f fd) (S : FnScope N ps (defScope st)) (len : ∀ vs H Q E, sp vs H Q E → vs.length = ps.length)
    (der : ∀ (cdv : Value) (A : Around) (outer : List Env) (s : Shared) (H : Hp) (E : XK), Room (k + 1) (A.deeper (envOfC qual (defScope st) s.heap.objs.size f cdv)) → PSs (cxOf (L2.CX P w) P w K mg base N qual (defScope st) f cdv A outer s H E) (defBody st) (rd E))
    (pu : ∀ vs H Q E, sp vs H Q E → rd E { nx := fun _ H' => Q .non H', rt := Q } (start N vs) H) : FnOk P w K mg base (L2.CX P w) (k + 2) f fd ps sp :=
  F.okX S len fun cdv A outer s H vs Q E hr h => ⟨rd E, der cdv A outer s H E hr, pu vs H Q E h⟩
end

/-! ### heaps -/
theorem lk_here {k : Str} {v : V} {r : List (Str × V)} : List.lookup k ((k, v) :: r) = some v := by
  have e : (k == k) = true := beq_self_eq_true k
  simp only [List.lookup, e]
theorem lk_past {k g : Str} {v : V} {r : List (Str × V)} (h : (k == g) = false) : List.lookup k ((g, v) :: r) = List.lookup k r := by
  simp only [List.lookup, h]
theorem put_here {f : Str} {v x : V} {r : List (Str × V)} : putF f v ((f, x) :: r) = (f, v) :: r := if_pos rfl
theorem put_past {f g : Str} {v x : V} {r : List (Str × V)} (h : ¬ g = f) : putF f v ((g, x) :: r) = (g, x) :: putF f v r := if_neg h
/-- all but what is in l is as it was -/
def Keep (H H' : Hp) (l : List Addr) : Prop := ∀ b o, H b = some o → b ∉ l → H' b = some o
theorem Keep.of {H H' : Hp} (s : Same H H') (l : List Addr) : Keep H H' l := fun b o h _ => s b o h
theorem Keep.trans {H H1 H2 : Hp} {l : List Addr} (x : Keep H H1 l) (y : Keep H1 H2 l) : Keep H H2 l := fun b o h n => y b o (x b o h n) n
theorem Keep.mono {H H' : Hp} {l l' : List Addr} (x : Keep H H' l) (h : ∀ b ∈ l, b ∈ l') : Keep H H' l' := fun b o e n => x b o e fun z => n (h b z)
theorem Keep.nil {H H' : Hp} (x : Keep H H' []) : Same H H' := fun b o e => x b o e (by simp)
theorem Same.upd {H H' : Hp} {p : Addr} {o : HO} (s : Same H H') (h : H p = none) : Same H (upd H' p o) := fun b u e => by
  rw [upd_ne (ne_of_none e h)]
  exact s b u e
theorem same_upd {H : Hp} {p : Addr} {o : HO} (h : H p = none) : Same H (upd H p o) := Same.upd (Same.refl H) h
theorem paired_get {α β : Type} {R : α → β → Prop} {xs : List α} {ys : List β} (r : Paired R xs ys) {i : Nat} {x : α} (h : xs[i]? = some x) : ∃ y, ys[i]? = some y ∧ R x y := by
  induction r generalizing i with
  | nil => simp at h
  | cons hq t ih =>
    cases i with
    | zero => simp at h; subst h; exact ⟨_, rfl, hq⟩
    | succ i => simpa using ih (by simpa using h)
theorem paired_get2 {α β : Type} {R : α → β → Prop} {xs : List α} {ys : List β} (r : Paired R xs ys) {i : Nat} {y : β} (h : ys[i]? = some y) : ∃ x, xs[i]? = some x ∧ R x y := by
  induction r generalizing i with
  | nil => simp at h
  | cons hq t ih =>
    cases i with
    | zero => simp at h; subst h; exact ⟨_, rfl, hq⟩
    | succ i => simpa using ih (by simpa using h)
theorem paired_len {α β : Type} {R : α → β → Prop} {xs : List α} {ys : List β} (r : Paired R xs ys) : xs.length = ys.length := Paired.length r
theorem map_get {α : Type} {f : α → V} {l : List α} {i : Nat} {x : V} (h : (l.map f)[i]? = some x) : ∃ y, l[i]? = some y ∧ x = f y := by
  rw [List.getElem?_map] at h
  obtain ⟨y, h1, h2⟩ := Option.map_eq_some_iff.mp h
  exact ⟨y, h1, h2.symm⟩
theorem paired_mono {α β : Type} {R S : α → β → Prop} {xs : List α} {ys : List β} (r : Paired R xs ys) (h : ∀ x y, R x y → S x y) : Paired S xs ys := Paired.mapP r h
theorem take_snoc {α : Type} {l : List α} {i : Nat} {x : α} (h : l[i]? = some x) : l.take (i + 1) = l.take i ++ [x] := by
  rw [List.take_add_one, h]
  rfl

/-- numbers as values -/
def nI (l : List Nat) : List V := l.map fun (n : Nat) => V.int (n : Int)
theorem nI_length (l : List Nat) : (nI l).length = l.length := by simp [nI]
theorem nI_get {l : List Nat} {i n : Nat} (h : l[i]? = some n) : (nI l)[i]? = some (.int n) := by
  unfold nI
  rw [List.getElem?_map, h]
  rfl
theorem nI_snoc {l : List Nat} {i n : Nat} (h : l[i]? = some n) : nI (l.take (i + 1)) = nI (l.take i) ++ [.int n] := by
  rw [take_snoc h]
  simp [nI]
theorem nI_ints (l : List Nat) : nI l = (l.map fun (n : Nat) => (n : Int)).map V.int := by simp [nI]

/-- the attributes of a roll, in the order in which __init__ sets them -/
def rollF (r : Roll) (wl : Addr) : List (Str × V) := [("age", .int r.age), ("regrind_cost", .int r.regrindCost), ("weekly_costs", .ref wl)]
theorem rF_age (r : Roll) (wl : Addr) : (rollF r wl).lookup ("age" : Str) = some (.int r.age) := lk_here
theorem rF_reg (r : Roll) (wl : Addr) : (rollF r wl).lookup ("regrind_cost" : Str) = some (.int r.regrindCost) := (lk_past (by decide +kernel)).trans lk_here
theorem rF_wl (r : Roll) (wl : Addr) : (rollF r wl).lookup ("weekly_costs" : Str) = some (.ref wl) := (lk_past (by decide +kernel)).trans ((lk_past (by decide +kernel)).trans lk_here)
theorem rF_put (r : Roll) (wl : Addr) (n : Nat) : putF "age" (.int n) (rollF r wl) = rollF { r with age := n } wl := put_here
/-- a roll stands at p -/
def RollAt (a : Ad) (H : Hp) (p : Addr) (r : Roll) : Prop := ∃ dx wl, H p = some (.ins a.Roll dx (rollF r wl)) ∧ H wl = some (.lst (nI r.weeklyCosts)) ∧ 1 ≤ r.weeklyCosts.length ∧ r.weeklyCosts.length ≤ 8
theorem RollAt.same {a : Ad} {H H' : Hp} {p : Addr} {r : Roll} (x : RollAt a H p r) (s : Same H H') : RollAt a H' p r := by
  obtain ⟨dx, wl, h1, h2, h3⟩ := x
  exact ⟨dx, wl, s _ _ h1, s _ _ h2, h3⟩
/-- a list of rolls stands at L -/
structure RollsAt (a : Ad) (H : Hp) (L : Addr) (ps : List Addr) (rs : List Roll) : Prop where
  lst : H L = some (.lst (ps.map V.ref))
  rls : Paired (RollAt a H) ps rs
  few : rs.length ≤ 3
theorem RollsAt.same {a : Ad} {H H' : Hp} {L : Addr} {ps : List Addr} {rs : List Roll} (x : RollsAt a H L ps rs) (s : Same H H') : RollsAt a H' L ps rs :=
  ⟨s _ _ x.lst, paired_mono x.rls fun _ _ q => q.same s, x.few⟩
theorem RollsAt.len {a : Ad} {H : Hp} {L : Addr} {ps : List Addr} {rs : List Roll} (x : RollsAt a H L ps rs) : ps.length = rs.length := paired_len x.rls
theorem small {n m : Nat} (h : n ≤ m) (k : m ≤ 16777216 := by decide) : n ≤ sizeLine := by rw [sizeLine_eq]; omega
theorem smallL {n m : Nat} (h : n ≤ m) (k : m < 16777216 := by decide) : n < sizeLine := by rw [sizeLine_eq]; omega

/-! ### the smallest defs: their promises, and that the readings keep them -/
section
variable {P : Program} {w : World} {K : PySem.W.Frag} {mg : Str → Option Value} {a : Ad} {vs : List V} {H : Hp} {Q : VK} {E : XK}

def sp_week_cost (a : Ad) : Sp := fun vs H Q _ => ∃ (p : Addr) (r : Roll) (g : Nat), vs = [.ref p, .int g] ∧ RollAt a H p r ∧ Q (.int (Kp410.weekCost r g : Nat)) H
theorem pu_week_cost (T : Txt K mg a) (h : sp_week_cost a vs H Q E) : rd_week_cost P w K a { nx := fun _ H' => Q .non H', rt := Q } (start n_week_cost vs) H := by
  obtain ⟨p, r, g, rfl, ⟨dx, wl, h1, h2, h3, h4⟩, q⟩ := h
  have e : (if ((r.weeklyCosts.length : Nat) : Int) - 1 < (g : Int) then ((r.weeklyCosts.length : Nat) : Int) - 1 else (g : Int)) = ((min g (r.weeklyCosts.length - 1) : Nat) : Int) := by
    split <;> omega
  have hw : r.weeklyCosts[min g (r.weeklyCosts.length - 1)]? = some (Kp410.weekCost r g) := by
    unfold Kp410.weekCost
    rw [List.getD_eq_getElem?_getD]
    have : min g (r.weeklyCosts.length - 1) < r.weeklyCosts.length := by omega
    rw [List.getElem?_eq_getElem this]
    rfl
  refine ⟨_, rfl, p, a.Roll, dx, _, _, rfl, h1, T.cRoll, T.nR_weekly_costs, rF_wl _ _, _, rfl, _, rfl, p, a.Roll, dx, _, _, rfl, h1, T.cRoll, T.nR_weekly_costs, rF_wl _ _, wl, _, rfl, .inl (SqL.of h2), _, _, rfl, rfl, _, _, rfl, ?_⟩
  refine ⟨wl, _, _, _, rfl, rfl, SqL.of h2, ?_, q⟩
  rw [nI_length, e]
  exact atI_nat (nI_get hw)
theorem ln_week_cost : ∀ vs H Q E, sp_week_cost a vs H Q E → vs.length = p_week_cost.length := fun _ _ _ _ ⟨_, _, _, e, _⟩ => by rw [e]; rfl

def sp_ages_now (a : Ad) : Sp := fun vs H Q _ => ∃ (L : Addr) (ps : List Addr) (rs : List Roll), vs = [.ref L] ∧ RollsAt a H L ps rs ∧
  ∀ H' p, Same H H' → H p = none → H' p = some (.lst (nI (rs.map (·.age)))) → Q (.ref p) H'
theorem pu_ages_now (T : Txt K mg a) (h : sp_ages_now a vs H Q E) : rd_ages_now P w K a { nx := fun _ H' => Q .non H', rt := Q } (start n_ages_now vs) H := by
  obtain ⟨L, ps, rs, rfl, R, q⟩ := h
  refine ⟨_, rfl, L, rfl, ⟨_, SqL.of R.lst⟩, fun D hD => lc_list (K := K) (a := L) (xs := ps.map V.ref) (fun i H' => Same H H' ∧ H' D = some (.lst (nI ((rs.map (·.age)).take i))))
    ⟨same_upd hD, by rw [upd_same]; rfl⟩ (fun i H' _ ⟨s, _⟩ => s.seq (SqL.of R.lst)) ?_ ?_⟩
  · intro i x H1 hi ⟨s1, d1⟩
    obtain ⟨p, hp, rfl⟩ := map_get hi
    obtain ⟨r, hr, dx, wl, h1, _⟩ := paired_get R.rls hp
    have hg : (rs.map (·.age))[i]? = some r.age := by rw [List.getElem?_map, hr]; rfl
    refine ⟨rfl, _, rfl, p, a.Roll, dx, _, _, rfl, s1 _ _ h1, T.cRoll, T.nR_age, rF_age _ _, _, d1, ?_, Same.upd s1 hD, ?_⟩
    · have := R.few
      rw [nI_length, List.length_take, List.length_map]
      exact smallL (m := 3) (by omega)
    · rw [upd_same, nI_snoc hg]
  · intro H1 ⟨s1, d1⟩
    rw [List.length_map, R.len, List.take_of_length_le (by rw [List.length_map]; exact Nat.le_refl _)] at d1
    exact q H1 D s1 hD d1
end
end Rg

/-! weeks: promises, and that the readings keep them -/
namespace Rg
open PySem PySem.Spec PyProof.Rows L2 RgC
open Kp410 (Roll Mill)
section
variable {P : Program} {w : World} {K : PySem.W.Frag} {mg : Str → Option Value} {a : Ad} {vs : List V} {H : Hp} {Q : VK} {E : XK}

theorem bit_is (c i : Nat) : decide (V.int (Builtin.bitAnd ((c : Int) / 2 ^ ((i : Int)).toNat) 1) = V.int 1) = Kp410.contains c i := by
  have e : Builtin.bitAnd ((c : Int) / 2 ^ ((i : Int)).toNat) 1 = ((c / 2 ^ i % 2 : Nat) : Int) := by
    rw [bitAnd_m1, Int.toNat_natCast]
    push_cast
    rfl
  rw [e]
  unfold Kp410.contains
  by_cases h : c / 2 ^ i % 2 = 1
  · rw [h]
    rfl
  · have h2 : (c / 2 ^ i % 2 == 1) = false := beq_eq_false_iff_ne.mpr h
    rw [h2]
    refine decide_eq_false fun z => h ?_
    injection z with z
    omega
def sp_is_reground : Sp := fun vs H Q _ => ∃ (i c : Nat), vs = [.int i, .int c] ∧ Q (.bl (Kp410.contains c i)) H
theorem pu_is_reground (h : sp_is_reground vs H Q E) : rd_is_reground P w K a { nx := fun _ H' => Q .non H', rt := Q } (start n_is_reground vs) H := by
  obtain ⟨i, c, rfl, q⟩ := h
  refine ⟨_, rfl, _, rfl, _, _, rfl, rfl, Int.natCast_nonneg _, _, _, rfl, rfl, rfl, ?_⟩
  rw [bit_is]
  exact q
theorem ln_is_reground : ∀ vs H Q E, sp_is_reground vs H Q E → vs.length = p_is_reground.length := fun _ _ _ _ ⟨_, _, e, _⟩ => by rw [e]; rfl

def sp_regrind (K : PySem.W.Frag) : Sp := fun vs H Q _ => ∃ (ag : Addr) (g : List Nat) (c : Nat), vs = [.ref ag, .int c] ∧ SqS K H ag (nI g) ∧ g.length ≤ 3 ∧
  ∀ H' p, Same H H' → H p = none → H' p = some (.lst (nI (RgM.regr g c))) → Q (.ref p) H'
theorem pu_regrind (h : sp_regrind K vs H Q E) : rd_regrind P w K a sp_is_reground { nx := fun _ H' => Q .non H', rt := Q } (start n_regrind vs) H := by
  obtain ⟨ag, g, c, rfl, S, hg, q⟩ := h
  let Pv : Addr → Nat → Hp → Prop := fun D i H' => Same H H' ∧ H' D = some (.lst (nI ((RgM.regr g c).take i)))
  have turn : ∀ D, H D = none → ∀ i x H1 H2, i < (nI g).length → Pv D i H1 → YPair (fun i => some (.int (i : Nat))) (fun i => (nI g)[i]?) i H1 x H2 →
      gTup K 2 (gCons (gName 2) (gCons (gName 3) gNil)) x (wipe (start n_regrind [.ref ag, .int c]) [2, 3]) H2 fun σ2 H3 => wipe σ2 [2, 3] = wipe (start n_regrind [.ref ag, .int c]) [2, 3] ∧ tYes σ2 H3 fun b H4 =>
        if b = true then tIf (tB (tCl sp_is_reground E0 (tCons (tVar 2) (tCons (tVar 1) tNil)))) (tC (.int 0)) (tVar 3) σ2 H4 fun y H5 => ∃ acc, H5 D = some (.lst acc) ∧ acc.length < sizeLine ∧ Pv D (i + 1) (upd H5 D (.lst (acc ++ [y]))) else Pv D (i + 1) H4 := by
    rintro D hD i x H1 H2 hi ⟨s1, d1⟩ ⟨T, u, v, rfl, hT, rfl, eu, ev⟩
    cases eu
    obtain ⟨n, hn, rfl⟩ := map_get ev
    have hr := RgM.regr_get c hn
    have sT : Same H (upd H1 T (.tup [.int (i : Nat), .int (n : Nat)])) := Same.upd s1 (s1.free hT)
    have nDT : D ≠ T := ne_of_none d1 hT
    have hs : (nI ((RgM.regr g c).take i)).length < sizeLine := by
      rw [nI_length, List.length_take, RgM.regr_length]
      exact smallL (m := 3) (by omega)
    have fin : ∀ y : Nat, (RgM.regr g c)[i]? = some y → Pv D (i + 1) (upd (upd H1 T (.tup [.int (i : Nat), .int (n : Nat)])) D (.lst (nI ((RgM.regr g c).take i) ++ [.int y]))) := fun y hy =>
      ⟨Same.upd sT hD, by rw [upd_same, nI_snoc hy]⟩
    refine ⟨T, _, rfl, SqT.of upd_same, rfl, _, _, rfl, _, _, rfl, rfl, rfl, _, rfl, _, rfl, i, c, rfl, _, rfl, ite2 (fun hc => ?_) (fun hc => ?_)⟩
    · refine ⟨_, by rw [upd_ne nDT]; exact d1, hs, fin 0 ?_⟩
      rw [hr, if_pos hc]
    · refine ⟨_, rfl, _, by rw [upd_ne nDT]; exact d1, hs, fin n ?_⟩
      rw [hr, if_neg hc]
  have done : ∀ D, H D = none → ∀ H1, Pv D (nI g).length H1 → Q (.ref D) H1 := by
    rintro D hD H1 ⟨s1, d1⟩
    rw [nI_length, List.take_of_length_le (by rw [RgM.regr_length]; exact Nat.le_refl _)] at d1
    exact q H1 D s1 hD d1
  rcases S with S | S
  · exact ⟨_, rfl, ag, _, rfl, .inl ⟨S, fun D hD => lc_it walk_enum (Pv D) ⟨same_upd hD, by rw [upd_same]; rfl⟩ (fun i H' _ ⟨s, _⟩ => s.seq S) (turn D hD) (done D hD)⟩⟩
  · exact ⟨_, rfl, ag, _, rfl, .inr ⟨S, fun D hD => lc_it walk_enumU (Pv D) ⟨same_upd hD, by rw [upd_same]; rfl⟩ (fun i H' _ ⟨s, _⟩ => SqT.same s S) (turn D hD) (done D hD)⟩⟩
theorem ln_regrind : ∀ vs H Q E, sp_regrind K vs H Q E → vs.length = p_regrind.length := fun _ _ _ _ ⟨_, _, _, e, _⟩ => by rw [e]; rfl

def sp_cost_of_week (K : PySem.W.Frag) (a : Ad) : Sp := fun vs H Q _ => ∃ (L : Addr) (ps : List Addr) (rs : List Roll) (v : Nat) (ag : Addr) (g : List Nat) (c : Nat), vs = [.ref L, .int v, .ref ag, .int c] ∧
  RollsAt a H L ps rs ∧ SqS K H ag (nI g) ∧ g.length = rs.length ∧ ∀ H', Same H H' → Q (.int (Kp410.costOfWeek (RgM.wa rs g) v c : Nat)) H'
theorem pu_cost_of_week (T : Txt K mg a) (h : sp_cost_of_week K a vs H Q E) : rd_cost_of_week P w K a (sp_regrind K) sp_is_reground (sp_week_cost a) { nx := fun _ H' => Q .non H', rt := Q } (start n_cost_of_week vs) H := by
  obtain ⟨L, ps, rs, v, ag, g, c, rfl, R, S, hg, q⟩ := h
  have k : ∀ x : Nat, x = (if c = 0 then 0 else v) → tSeq (tAsg (tCl (sp_regrind K) E0 (tCons (tVar 2) (tCons (tVar 3) tNil))) (gName 5))
    (tSeq (tFor (iEnum K (tCons (tVar 0) tNil)) (gTup K 2 (gCons (gName 6) (gCons (gName 7) gNil))) (tSeq (tIfS (tB (tCl sp_is_reground E0 (tCons (tVar 6) (tCons (tVar 3) tNil)))) (tAug 4 (tFld K (tVar 7) "regrind_cost") (ipI fun i j => i + j)) tNext)
    (tAug 4 (tCl (sp_week_cost a) E0 (tCons (tVar 7) (tCons (tOp (rIxL K) (tVar 5) (tVar 6)) tNil))) (ipI fun i j => i + j))))
    (tRet (tVar 4))) { nx := fun _ H' => Q .non H', rt := Q } [some (.ref L), some (.int v), some (.ref ag), some (.int c), some (.int x), none, none, none] H := by
    intro x hx
    refine ⟨_, rfl, _, rfl, ag, g, c, rfl, S, by rw [hg]; exact R.few, fun H1 rg s1 nrg hrg => ?_⟩
    refine ⟨_, rfl, L, _, rfl, SqL.of (s1 _ _ R.lst), for_it walk_enum (fun i σ' H' => ∃ x6 x7, σ' = [some (.ref L), some (.int v), some (.ref ag), some (.int c), some (.int (RgM.cwUp rs g v c i : Nat)), some (.ref rg), x6, x7] ∧ Same H H' ∧ H' rg = some (.lst (nI (RgM.regr g c))))
      ⟨none, none, by rw [RgM.cwUp_zero, ← hx]; rfl, s1, hrg⟩ (fun i σ' H' _ ⟨_, _, _, s, _⟩ => s.seq (SqL.of R.lst)) ?_ ?_⟩
    · rintro i x σ' H1 H2 hi ⟨x6, x7, rfl, s2, d2⟩ ⟨T', u, z, rfl, hT, rfl, eu, ez⟩
      cases eu
      obtain ⟨p, hp, rfl⟩ := map_get ez
      obtain ⟨r, hr, RA⟩ := paired_get R.rls hp
      have hi' : i < rs.length := (List.getElem?_eq_some_iff.mp hr).1
      obtain ⟨n, hn⟩ : ∃ n, g[i]? = some n := ⟨g[i]'(by omega), List.getElem?_eq_getElem (by omega)⟩
      have hrg' := RgM.regr_get c hn
      have sT : Same H (upd H1 T' (.tup [.int (i : Nat), .ref p])) := Same.upd s2 (s2.free hT)
      have dT : (upd H1 T' (.tup [.int (i : Nat), .ref p])) rg = some (.lst (nI (RgM.regr g c))) := by
        rw [upd_ne (ne_of_none d2 hT)]
        exact d2
      have step := RgM.cwUp_succ v c hr hn
      have k2 : ∀ y : Nat, y = RgM.cwUp rs g v c i + (if Kp410.contains c i then r.regrindCost else 0) → tAug 4 (tCl (sp_week_cost a) E0 (tCons (tVar 7) (tCons (tOp (rIxL K) (tVar 5) (tVar 6)) tNil))) (ipI fun i j => i + j)
          { nx := fun σ' H' => ∃ x6 x7, σ' = [some (.ref L), some (.int v), some (.ref ag), some (.int c), some (.int (RgM.cwUp rs g v c (i + 1) : Nat)), some (.ref rg), x6, x7] ∧ Same H H' ∧ H' rg = some (.lst (nI (RgM.regr g c))),
            ct := fun σ' H' => ∃ x6 x7, σ' = [some (.ref L), some (.int v), some (.ref ag), some (.int c), some (.int (RgM.cwUp rs g v c (i + 1) : Nat)), some (.ref rg), x6, x7] ∧ Same H H' ∧ H' rg = some (.lst (nI (RgM.regr g c))),
            bk := tRet (tVar 4) { nx := fun _ H' => Q .non H', rt := Q }, rt := Q }
          [some (.ref L), some (.int v), some (.ref ag), some (.int c), some (.int y), some (.ref rg), some (.int (i : Nat)), some (.ref p)] (upd H1 T' (.tup [.int (i : Nat), .ref p])) := by
        intro y hy
        refine ⟨_, rfl, _, rfl, _, rfl, _, rfl, rg, _, _, _, rfl, rfl, SqL.of dT, atI_nat (nI_get hrg'), p, r, _, rfl, RA.same sT, _, _, rfl, rfl, some (.int (i : Nat)), some (.ref p), ?_, sT, dT⟩
        rw [step, hy]
        rfl
      obtain ⟨dx, wl, h1, _⟩ := RA
      refine ⟨T', _, rfl, SqT.of upd_same, rfl, _, _, rfl, _, _, rfl, rfl, _, rfl, _, rfl, i, c, rfl, _, rfl, ite2 (fun hc => ?_) (fun hc => ?_)⟩
      · refine ⟨_, rfl, _, rfl, p, a.Roll, dx, _, _, rfl, sT _ _ h1, T.cRoll, T.nR_regrind_cost, rF_reg _ _, _, _, rfl, rfl, ?_⟩
        exact k2 (RgM.cwUp rs g v c i + r.regrindCost) (by rw [if_pos hc])
      · exact k2 (RgM.cwUp rs g v c i) (by rw [if_neg hc]; rfl)
    · rintro σ' H1 ⟨x6, x7, rfl, s2, d2⟩
      rw [List.length_map, R.len, RgM.cwUp_end v c hg]
      exact ⟨_, rfl, q H1 s2⟩
  refine ⟨_, rfl, rfl, _, rfl, ite2 (fun hc => ?_) (fun hc => ?_)⟩
  · refine k 0 ?_
    have e := of_decide_eq_true hc
    injection e with e
    rw [if_pos (by omega)]
  · refine ⟨_, rfl, k v ?_⟩
    rw [if_neg]
    intro e
    subst e
    exact hc (decide_eq_true rfl)
theorem ln_cost_of_week : ∀ vs H Q E, sp_cost_of_week K a vs H Q E → vs.length = p_cost_of_week.length := fun _ _ _ _ ⟨_, _, _, _, _, _, _, e, _⟩ => by rw [e]; rfl
end
end Rg

/-! ages, plans' costs, periods, and what __init__ makes -/
namespace Rg
open PySem PySem.Spec PyProof.Rows L2 RgC
open Kp410 (Roll Mill)
section
variable {P : Program} {w : World} {K : PySem.W.Frag} {mg : Str → Option Value} {a : Ad} {vs : List V} {H : Hp} {Q : VK} {E : XK}

def sp_ages_after_week (K : PySem.W.Frag) : Sp := fun vs H Q _ => ∃ (ag : Addr) (g : List Nat) (c : Nat), vs = [.ref ag, .int c] ∧ SqS K H ag (nI g) ∧ g.length ≤ 3 ∧
  ∀ H' p, Same H H' → H p = none → H' p = some (.lst (nI (RgM.aft g c))) → Q (.ref p) H'
theorem pu_ages_after_week (h : sp_ages_after_week K vs H Q E) : rd_ages_after_week P w K a (sp_regrind K) { nx := fun _ H' => Q .non H', rt := Q } (start n_ages_after_week vs) H := by
  obtain ⟨ag, g, c, rfl, S, hg, q⟩ := h
  refine ⟨_, rfl, _, rfl, ag, g, c, rfl, S, hg, fun H1 rg s1 nrg hrg => ⟨rg, rfl, ⟨_, SqL.of hrg⟩, fun D hD => lc_list (K := K) (a := rg) (xs := nI (RgM.regr g c)) (fun i H' => Same H1 H' ∧ H' D = some (.lst (nI ((RgM.aft g c).take i))))
    ⟨same_upd hD, by rw [upd_same]; rfl⟩ (fun i H' _ ⟨s, _⟩ => s.seq (SqL.of hrg)) ?_ ?_⟩⟩
  · intro i x H2 hi ⟨s2, d2⟩
    obtain ⟨n, hn, rfl⟩ := map_get hi
    have hy : (RgM.aft g c)[i]? = some (n + 1) := by
      unfold RgM.aft
      rw [List.getElem?_map, hn]
      rfl
    refine ⟨rfl, _, rfl, _, _, rfl, rfl, _, d2, ?_, Same.upd s2 hD, ?_⟩
    · rw [nI_length, List.length_take, RgM.aft_length]
      exact smallL (m := 3) (by omega)
    · rw [upd_same, nI_snoc hy]
      rfl
  · intro H2 ⟨s2, d2⟩
    rw [nI_length, RgM.regr_length, List.take_of_length_le (by rw [RgM.aft_length]; exact Nat.le_refl _)] at d2
    exact q H2 D (s1.trans s2) (s1.free hD) d2
theorem ln_ages_after_week : ∀ vs H Q E, sp_ages_after_week K vs H Q E → vs.length = p_ages_after_week.length := fun _ _ _ _ ⟨_, _, _, e, _⟩ => by rw [e]; rfl
theorem ln_ages_now : ∀ vs H Q E, sp_ages_now a vs H Q E → vs.length = p_ages_now.length := fun _ _ _ _ ⟨_, _, _, e, _⟩ => by rw [e]; rfl

def sp_cost_of_plan (K : PySem.W.Frag) (a : Ad) : Sp := fun vs H Q _ => ∃ (L : Addr) (ps : List Addr) (rs : List Roll) (v : Nat) (pl : Addr) (p : List Nat), vs = [.ref L, .int v, .ref pl] ∧
  RollsAt a H L ps rs ∧ SqL K H pl (nI p) ∧ ∀ H', Same H H' → Q (.int (Kp410.planCost v p rs : Nat)) H'
theorem pu_cost_of_plan (h : sp_cost_of_plan K a vs H Q E) : rd_cost_of_plan P w K a (sp_ages_now a) (sp_cost_of_week K a) (sp_ages_after_week K) { nx := fun _ H' => Q .non H', rt := Q } (start n_cost_of_plan vs) H := by
  obtain ⟨L, ps, rs, v, pl, p, rfl, R, S, q⟩ := h
  refine ⟨_, rfl, L, ps, rs, rfl, R, fun H1 ag s1 nag hag => ?_⟩
  refine ⟨_, rfl, pl, rfl, ⟨_, s1.seq S⟩, for_list (K := K) (a := pl) (xs := nI p) (fun i σ' H' => ∃ (t : Nat) (ag : Addr) (g : List Nat) (x5 : Option V), σ' = [some (.ref L), some (.int v), some (.ref pl), some (.int t), some (.ref ag), x5] ∧ Same H H' ∧
      H' ag = some (.lst (nI g)) ∧ g.length = rs.length ∧ t + Kp410.planCost v (p.drop i) (RgM.wa rs g) = Kp410.planCost v p rs)
    ⟨0, ag, _, none, rfl, s1, hag, by rw [List.length_map], by rw [List.drop_zero, RgM.wa_self]; omega⟩ (fun i σ' H' _ ⟨_, _, _, _, _, s, _⟩ => s.seq S) ?_ ?_⟩
  · rintro i x σ' H2 hi ⟨t, ag, g, x5, rfl, s2, hag, hg, ht⟩
    obtain ⟨c, hc, rfl⟩ := map_get hi
    have hd : p.drop i = c :: p.drop (i + 1) := by
      obtain ⟨hl, e⟩ := List.getElem?_eq_some_iff.mp hc
      rw [List.drop_eq_getElem_cons hl, e]
    have h3 := R.few
    refine ⟨_, rfl, _, rfl, _, rfl, _, rfl, _, rfl, L, ps, rs, v, ag, g, c, rfl, R.same s2, .inl (SqL.of hag), hg, fun H3 s3 => ⟨_, _, rfl, rfl, ?_⟩⟩
    refine ⟨_, rfl, _, rfl, ag, g, c, rfl, .inl (SqL.of (s3 _ _ hag)), by omega, fun H4 ag2 s4 nag2 hag2 => ?_⟩
    refine ⟨t + Kp410.costOfWeek (RgM.wa rs g) v c, ag2, RgM.aft g c, some (.int c), by push_cast; rfl, s2.trans (s3.trans s4), hag2, by rw [RgM.aft_length]; exact hg, ?_⟩
    rw [hd, RgM.planCost_cons, RgM.afterWeek_wa] at ht
    omega
  · rintro σ' H2 ⟨t, ag, g, x5, rfl, s2, hag, hg, ht⟩
    rw [nI_length, List.drop_length] at ht
    have e : t = Kp410.planCost v p rs := ht
    subst e
    exact ⟨_, rfl, q H2 s2⟩
theorem ln_cost_of_plan : ∀ vs H Q E, sp_cost_of_plan K a vs H Q E → vs.length = p_cost_of_plan.length := fun _ _ _ _ ⟨_, _, _, _, _, _, e, _⟩ => by rw [e]; rfl

theorem sum_cast : ∀ l : List Nat, (l.map fun (n : Nat) => (n : Int)).sum = ((l.sum : Nat) : Int)
  | [] => rfl
  | x :: l => by
    rw [List.map_cons, List.sum_cons, List.sum_cons, sum_cast l]
    push_cast
    rfl
def sp_period_cost (a : Ad) : Sp := fun vs H Q _ => ∃ (p : Addr) (r : Roll) (v k : Nat), vs = [.ref p, .int v, .int k] ∧ RollAt a H p r ∧ k ≤ 24 ∧ ∀ H', Same H H' → Q (.int (Kp410.periodCost r v k : Nat)) H'
theorem pu_period_cost (T : Txt K mg a) (h : sp_period_cost a vs H Q E) : rd_period_cost P w K a (sp_week_cost a) { nx := fun _ H' => Q .non H', rt := Q } (start n_period_cost vs) H := by
  obtain ⟨p, r, v, k, rfl, R, hk, q⟩ := h
  refine ⟨_, rfl, _, rfl, by omega, by omega, fun D hD => lc_range (lo := 0) (n := k) (fun i H' => Same H H' ∧ H' D = some (.lst (nI (((List.range k).map (Kp410.weekCost r)).take i)))) ⟨same_upd hD, by rw [upd_same]; rfl⟩ ?_ ?_⟩
  · intro i H1 hi ⟨s1, d1⟩
    have hy : ((List.range k).map (Kp410.weekCost r))[i]? = some (Kp410.weekCost r i) := by
      rw [List.getElem?_map, List.getElem?_range hi]
      rfl
    refine ⟨rfl, _, rfl, _, rfl, p, r, i, by rw [Int.zero_add], R.same s1, _, d1, ?_, Same.upd s1 hD, ?_⟩
    · rw [nI_length, List.length_take]
      exact smallL (m := 24) (by omega)
    · rw [upd_same, nI_snoc hy]
  · intro H1 ⟨s1, d1⟩
    rw [List.take_of_length_le (by rw [List.length_map, List.length_range]; exact Nat.le_refl _), nI_ints] at d1
    obtain ⟨dx, wl, h1, _⟩ := R
    refine ⟨D, _, rfl, SqL.of d1, _, rfl, p, a.Roll, dx, _, _, rfl, s1 _ _ h1, T.cRoll, T.nR_regrind_cost, rF_reg _ _, _, rfl, _, _, rfl, rfl, _, rfl, _, _, rfl, rfl, ?_⟩
    rw [sum_cast]
    exact q H1 s1
theorem ln_period_cost : ∀ vs H Q E, sp_period_cost a vs H Q E → vs.length = p_period_cost.length := fun _ _ _ _ ⟨_, _, _, _, e, _⟩ => by rw [e]; rfl

def sp_lowest_terms : Sp := fun vs H Q _ => ∃ (n d : Nat), vs = [.int n, .int d] ∧ 0 < d ∧ d ≤ 24 ∧ ∀ H' p, Same H H' → H p = none → H' p = some (.lst (nI [n / Nat.gcd n d, d / Nat.gcd n d])) → Q (.ref p) H'
theorem pu_lowest_terms (h : sp_lowest_terms vs H Q E) : rd_lowest_terms P w K a { nx := fun _ H' => Q .non H', rt := Q } (start n_lowest_terms vs) H := by
  obtain ⟨n, d, rfl, hd, hd2, q⟩ := h
  refine ⟨_, rfl, _, rfl, while_by (fun σ' H' => H' = H ∧ ∃ (x y : Nat) (z : Option V), σ' = [some (.int n), some (.int d), some (.int x), some (.int y), z] ∧ 0 < x ∧ Nat.gcd x y = Nat.gcd n d)
    (fun (σ' : L2.St) _ => match σ'[3]? with | some (some (V.int y)) => y.toNat | _ => 0) ⟨rfl, d, n, none, rfl, hd, Nat.gcd_comm _ _⟩ ?_ (fun σ H Q Q' h ⟨v, e, s, k, ek, q⟩ => ⟨v, e, s, k, ek, h _ _ q⟩)⟩
  rintro σ' H' ⟨rfl, x, y, z, rfl, hx, hg⟩
  refine ⟨_, rfl, rfl, _, rfl, ite2 (fun hc => ?_) (fun hc => ?_)⟩
  · have hy : y ≠ 0 := by
      intro e
      subst e
      exact absurd hc (by decide)
    have em : ((x : Int) % (y : Int)) = ((x % y : Nat) : Int) := rfl
    refine ⟨_, rfl, _, rfl, _, _, rfl, rfl, by omega, _, rfl, _, rfl, ⟨rfl, y, x % y, some (.int (x % y : Nat)), rfl, by omega, ?_⟩, ?_⟩
    · rw [← hg, Nat.gcd_comm y, ← Nat.gcd_rec, Nat.gcd_comm]
    · show ((x % y : Nat) : Int).toNat < ((y : Nat) : Int).toNat
      rw [Int.toNat_natCast, Int.toNat_natCast]
      exact Nat.mod_lt _ (by omega)
  · have hy : y = 0 := by
      false_or_by_contra
      rename_i hne
      refine hc ?_
      have : decide (V.int (y : Int) = V.int 0) = false := decide_eq_false fun e => by
        injection e with e
        omega
      rw [this]
      rfl
    subst hy
    rw [Nat.gcd_zero_right] at hg
    subst hg
    have hle : Nat.gcd n d ≤ d := Nat.le_of_dvd hd (Nat.gcd_dvd_right n d)
    refine ⟨_, rfl, _, rfl, _, _, rfl, rfl, ⟨by omega, by omega⟩, _, rfl, _, rfl, _, _, rfl, rfl, ⟨by omega, by omega⟩, by show 2 ≤ sizeLine; decide, fun p hp => ?_⟩
    exact q _ p (same_upd hp) hp (by rw [upd_same]; rfl)
theorem ln_lowest_terms : ∀ vs H Q E, sp_lowest_terms vs H Q E → vs.length = p_lowest_terms.length := fun _ _ _ _ ⟨_, _, e, _⟩ => by rw [e]; rfl

/-- the mean's two numbers -/
def mt (r : Roll) (v k : Nat) : List Nat := [Kp410.periodCost r v k / Nat.gcd (Kp410.periodCost r v k) k, k / Nat.gcd (Kp410.periodCost r v k) k]
def sp_mean_cost (a : Ad) : Sp := fun vs H Q _ => ∃ (p : Addr) (r : Roll) (v k : Nat), vs = [.ref p, .int v, .int k] ∧ RollAt a H p r ∧ 0 < k ∧ k ≤ 24 ∧ ∀ H' q', Same H H' → H q' = none → H' q' = some (.lst (nI (mt r v k))) → Q (.ref q') H'
theorem pu_mean_cost (h : sp_mean_cost a vs H Q E) : rd_mean_cost P w K a (sp_period_cost a) sp_lowest_terms { nx := fun _ H' => Q .non H', rt := Q } (start n_mean_cost vs) H := by
  obtain ⟨p, r, v, k, rfl, R, h0, hk, q⟩ := h
  exact ⟨_, rfl, _, rfl, _, rfl, p, r, v, k, rfl, R, hk, fun H1 s1 => ⟨_, rfl, _, k, rfl, h0, hk, fun H2 p2 s2 n2 d2 => q H2 p2 (s1.trans s2) (s1.free n2) d2⟩⟩
theorem ln_mean_cost : ∀ vs H Q E, sp_mean_cost a vs H Q E → vs.length = p_mean_cost.length := fun _ _ _ _ ⟨_, _, _, _, e, _⟩ => by rw [e]; rfl

def sp_cheapest_period (a : Ad) : Sp := fun vs H Q _ => ∃ (p : Addr) (r : Roll) (v : Nat), vs = [.ref p, .int v] ∧ RollAt a H p r ∧ ∀ H', Same H H' → Q (.int (Kp410.bestPeriod r v : Nat)) H'
theorem pu_cheapest_period (h : sp_cheapest_period a vs H Q E) : rd_cheapest_period P w K a (sp_period_cost a) { nx := fun _ H' => Q .non H', rt := Q } (start n_cheapest_period vs) H := by
  obtain ⟨p, r, v, rfl, R, q⟩ := h
  refine ⟨_, rfl, _, rfl, p, r, v, 1, rfl, R, by decide, fun H1 s1 => ?_⟩
  refine ⟨_, _, rfl, rfl, 2, 25, rfl, by decide, for_range (lo := 2) (n := 23) (fun i σ' H' => ∃ (x4 x5 : Option V), σ' = [some (.ref p), some (.int v), some (.int (RgM.pb r v i : Nat)), some (.int (Kp410.periodCost r v (RgM.pb r v i) : Nat)), x4, x5] ∧ Same H H')
    ⟨none, none, rfl, s1⟩ ?_ ?_⟩
  · rintro i σ' H2 hi ⟨x4, x5, rfl, s2⟩
    have hb := RgM.pb_range r v i
    have e2 : (2 : Int) + (i : Int) = ((i + 2 : Nat) : Int) := by push_cast; omega
    refine ⟨_, rfl, _, rfl, _, rfl, p, r, v, i + 2, by rw [e2], R.same s2, by omega, fun H3 s3 => ?_⟩
    refine ⟨_, rfl, _, rfl, _, _, rfl, rfl, .inr ⟨by omega, by omega⟩, _, rfl, _, rfl, _, _, rfl, rfl, .inr ⟨by omega, by omega⟩, _, _, rfl, rfl, _, rfl, ite2 (fun hc => ?_) (fun hc => ?_)⟩
    · have hc := of_decide_eq_true hc
      rw [e2] at hc
      have hc' : Kp410.periodCost r v (i + 2) * RgM.pb r v i < Kp410.periodCost r v (RgM.pb r v i) * (i + 2) := by exact_mod_cast hc
      have e : RgM.pb r v (i + 1) = i + 2 := if_pos hc'
      refine ⟨_, rfl, _, rfl, some (.int (2 + (i : Int))), some (.int (Kp410.periodCost r v (i + 2) : Nat)), ?_, s2.trans s3⟩
      rw [e, ← e2]
      rfl
    · have e : RgM.pb r v (i + 1) = RgM.pb r v i := if_neg fun z => hc (decide_eq_true (by rw [e2]; exact_mod_cast z))
      refine ⟨some (.int (2 + (i : Int))), some (.int (Kp410.periodCost r v (i + 2) : Nat)), ?_, s2.trans s3⟩
      rw [e]
      rfl
  · rintro σ' H2 ⟨x4, x5, rfl, s2⟩
    refine ⟨_, rfl, ?_⟩
    rw [← RgM.bestPeriod_eq]
    exact q H2 s2
theorem ln_cheapest_period : ∀ vs H Q E, sp_cheapest_period a vs H Q E → vs.length = p_cheapest_period.length := fun _ _ _ _ ⟨_, _, _, e, _⟩ => by rw [e]; rfl
end
end Rg

/-! what __init__ makes; the planner: promises, and that the readings keep them -/
namespace Rg
open PySem PySem.Spec PyProof.Rows L2 RgC
open Kp410 (Roll Mill)

/-! ### heaps, further -/
theorem seq_upd {K : PySem.W.Frag} {H : Hp} {x l C dx : Addr} {fs : List (Str × V)} {o : HO} {xs : List V} (h : H x = some (.ins C dx fs)) (s : SqL K H l xs) : SqL K (upd H x o) l xs := by
  rcases s with (s | ⟨u, s⟩) | s
  · exact .inl (.inl (by rw [upd_ne (ne_of s h (fun z => nomatch z))]; exact s))
  · exact .inl (.inr ⟨u, by rw [upd_ne (ne_of s h (fun z => nomatch z))]; exact s⟩)
  · exact .inr s
theorem Keep.upd {H H' : Hp} {l : List Addr} {p : Addr} {o : HO} (k : Keep H H' l) (h : p ∈ l ∨ H p = none) : Keep H (upd H' p o) l := fun b u e n => by
  have : b ≠ p := by
    rintro rfl
    rcases h with h | h
    · exact n h
    · rw [h] at e; cases e
  rw [upd_ne this]
  exact k b u e n
theorem Keep.refl (H : Hp) (l : List Addr) : Keep H H l := fun _ _ h _ => h
abbrev FL := List (Str × V)
theorem pt1 {f g : Str} {v x : V} (h : ¬ g = f) : putF f v [(g, x)] = [(g, x), (f, v)] := put_past h
theorem pt2 {f g k : Str} {v x y : V} (h : ¬ g = f) (h' : ¬ k = f) : putF f v [(g, x), (k, y)] = [(g, x), (k, y), (f, v)] := (put_past h).trans (congrArg (List.cons _) (pt1 h'))
theorem pt3 {f g k l : Str} {v x y z : V} (h : ¬ g = f) (h' : ¬ k = f) (h2 : ¬ l = f) : putF f v [(g, x), (k, y), (l, z)] = [(g, x), (k, y), (l, z), (f, v)] := (put_past h).trans (congrArg (List.cons _) (pt2 h' h2))
theorem lp1 {f : Str} {v : V} : (putF f v []).length < 1000 := by have := length_putF f v []; simp at this; omega
theorem lp2 {f g : Str} {v x : V} : (putF f v (putF g x [])).length < 1000 := by
  have h1 := length_putF f v (putF g x [])
  have h2 := length_putF g x []
  simp at h2
  omega
theorem lp3 {f g k : Str} {v x y : V} : (putF f v (putF g x (putF k y []))).length < 1000 := by
  have h1 := length_putF f v (putF g x (putF k y []))
  have h2 := length_putF g x (putF k y [])
  have h3 := length_putF k y []
  simp at h3
  omega
theorem rF_new (rc : Nat) (ws : List Nat) (l : Addr) : putF "weekly_costs" (.ref l) (putF "regrind_cost" (.int rc) (putF "age" (.int 0) [])) = rollF ⟨0, rc, ws⟩ l := by
  have e1 : putF "regrind_cost" (.int rc) (putF "age" (.int 0) []) = ([("age", V.int 0), ("regrind_cost", V.int rc)] : FL) := pt1 (by decide +kernel)
  rw [e1]
  exact pt2 (by decide +kernel) (by decide +kernel)
/-- the attributes of a mill -/
def millF (L : Addr) (v s n : Nat) : List (Str × V) := [("rolls", .ref L), ("visit_cost", .int v), ("spent", .int s), ("week_count", .int n)]
theorem mF_rolls (L : Addr) (v s n : Nat) : (millF L v s n).lookup ("rolls" : Str) = some (.ref L) := lk_here
theorem mF_visit (L : Addr) (v s n : Nat) : (millF L v s n).lookup ("visit_cost" : Str) = some (.int v) := (lk_past (by decide +kernel)).trans lk_here
theorem mF_spent (L : Addr) (v s n : Nat) : (millF L v s n).lookup ("spent" : Str) = some (.int s) := (lk_past (by decide +kernel)).trans ((lk_past (by decide +kernel)).trans lk_here)
theorem mF_weeks (L : Addr) (v s n : Nat) : (millF L v s n).lookup ("week_count" : Str) = some (.int n) := (lk_past (by decide +kernel)).trans ((lk_past (by decide +kernel)).trans ((lk_past (by decide +kernel)).trans lk_here))
theorem mF_new (L : Addr) (v : Nat) : putF "week_count" (.int 0) (putF "spent" (.int 0) (putF "visit_cost" (.int v) (putF "rolls" (.ref L) []))) = millF L v 0 0 := by
  have e1 : putF "visit_cost" (.int v) (putF "rolls" (.ref L) []) = ([("rolls", V.ref L), ("visit_cost", V.int v)] : FL) := pt1 (by decide +kernel)
  have e2 : putF "spent" (.int 0) ([("rolls", V.ref L), ("visit_cost", V.int v)] : FL) = ([("rolls", V.ref L), ("visit_cost", V.int v), ("spent", V.int 0)] : FL) := pt2 (by decide +kernel) (by decide +kernel)
  rw [e1, e2]
  exact pt3 (by decide +kernel) (by decide +kernel) (by decide +kernel)
theorem mF_put_visit (L : Addr) (v s n y : Nat) : putF "visit_cost" (.int y) (millF L v s n) = millF L y s n := (put_past (by decide +kernel)).trans (congrArg (List.cons _) put_here)
theorem mF_put_spent (L : Addr) (v s n y : Nat) : putF "spent" (.int y) (millF L v s n) = millF L v y n := (put_past (by decide +kernel)).trans (congrArg (List.cons _) ((put_past (by decide +kernel)).trans (congrArg (List.cons _) put_here)))
theorem mF_put_weeks (L : Addr) (v s n y : Nat) : putF "week_count" (.int y) (millF L v s n) = millF L v s y :=
  (put_past (by decide +kernel)).trans (congrArg (List.cons _) ((put_past (by decide +kernel)).trans (congrArg (List.cons _) ((put_past (by decide +kernel)).trans (congrArg (List.cons _) put_here)))))
def plF (L : Addr) (v : Nat) (d : Addr) : List (Str × V) := [("rolls", .ref L), ("visit_cost", .int v), ("known", .ref d)]
theorem pF_rolls (L : Addr) (v : Nat) (d : Addr) : (plF L v d).lookup ("rolls" : Str) = some (.ref L) := lk_here
theorem pF_visit (L : Addr) (v : Nat) (d : Addr) : (plF L v d).lookup ("visit_cost" : Str) = some (.int v) := (lk_past (by decide +kernel)).trans lk_here
theorem pF_known (L : Addr) (v : Nat) (d : Addr) : (plF L v d).lookup ("known" : Str) = some (.ref d) := (lk_past (by decide +kernel)).trans ((lk_past (by decide +kernel)).trans lk_here)
theorem pF_new (L : Addr) (v : Nat) (d : Addr) : putF "known" (.ref d) (putF "visit_cost" (.int v) (putF "rolls" (.ref L) [])) = plF L v d := by
  have e1 : putF "visit_cost" (.int v) (putF "rolls" (.ref L) []) = ([("rolls", V.ref L), ("visit_cost", V.int v)] : FL) := pt1 (by decide +kernel)
  rw [e1]
  exact pt2 (by decide +kernel) (by decide +kernel)
theorem pF_no (L : Addr) (v : Nat) (d : Addr) {m : Str} (h1 : (m == ("rolls" : Str)) = false) (h2 : (m == ("visit_cost" : Str)) = false) (h3 : (m == ("known" : Str)) = false) : (plF L v d).lookup m = none :=
  (lk_past h1).trans ((lk_past h2).trans ((lk_past h3).trans rfl))

section
variable {P : Program} {w : World} {K : PySem.W.Frag} {mg : Str → Option Value} {a : Ad} {vs : List V} {H : Hp} {Q : VK} {E : XK}

def sp_Roll_init (K : PySem.W.Frag) (a : Ad) : Sp := fun vs H Q _ => ∃ (x dx wl : Addr) (rc : Nat) (ws : List Nat), vs = [.ref x, .int rc, .ref wl] ∧ H x = some (.ins a.Roll dx []) ∧ SqL K H wl (nI ws) ∧ 1 ≤ ws.length ∧ ws.length ≤ 8 ∧
  ∀ H' l, H l = none → (∃ d, H' x = some (.ins a.Roll d (rollF ⟨0, rc, ws⟩ l))) → RollAt a H' x ⟨0, rc, ws⟩ → Keep H H' [x] → Q .non H'
theorem pu_Roll_init (T : Txt K mg a) (h : sp_Roll_init K a vs H Q E) : rd_Roll_init P w K a { nx := fun _ H' => Q .non H', rt := Q } (start n_Roll_init vs) H := by
  obtain ⟨x, dx, wl, rc, ws, rfl, hx, S, l1, l8, q⟩ := h
  refine ⟨_, rfl, x, a.Roll, dx, _, rfl, hx, T.cRoll, T.nR_age, by decide, ?_⟩
  refine ⟨_, rfl, _, rfl, x, a.Roll, dx, _, rfl, upd_same, T.cRoll, T.nR_regrind_cost, lp1, ?_⟩
  rw [upd_upd]
  refine ⟨_, rfl, wl, _, rfl, .inl (seq_upd hx S), fun l hl => ?_⟩
  have nxl : x ≠ l := ne_of_none (H := upd H x _) upd_same hl
  have hl0 : H l = none := by rw [upd_ne (Ne.symm nxl)] at hl; exact hl
  refine ⟨_, rfl, x, a.Roll, dx, _, rfl, (by rw [upd_ne nxl]; exact upd_same), T.cRoll, T.nR_weekly_costs, lp2, q _ l hl0 ⟨dx, ?_⟩ ⟨dx, l, ?_, ?_, l1, l8⟩ ?_⟩
  · rw [upd_same]
    exact congrArg (fun z => some (HO.ins a.Roll dx z)) (rF_new rc ws l)
  · rw [upd_same]
    exact congrArg (fun z => some (HO.ins a.Roll dx z)) (rF_new rc ws l)
  · rw [upd_ne (Ne.symm nxl), upd_same]
  · exact Keep.upd (Keep.upd (Keep.upd (Keep.refl _ _) (.inl (by simp))) (.inr hl0)) (.inl (by simp))
theorem ln_Roll_init : ∀ vs H Q E, sp_Roll_init K a vs H Q E → vs.length = p_Roll_init.length := fun _ _ _ _ ⟨_, _, _, _, _, e, _⟩ => by rw [e]; rfl

def sp_Mill_init (a : Ad) : Sp := fun vs H Q _ => ∃ (x dx : Addr) (v : Nat), vs = [.ref x, .int v] ∧ H x = some (.ins a.Mill dx []) ∧
  ∀ H' L, H L = none → H' x = some (.ins a.Mill dx (millF L v 0 0)) → H' L = some (.lst []) → Keep H H' [x] → Q .non H'
theorem pu_Mill_init (T : Txt K mg a) (h : sp_Mill_init a vs H Q E) : rd_Mill_init P w K a { nx := fun _ H' => Q .non H', rt := Q } (start n_Mill_init vs) H := by
  obtain ⟨x, dx, v, rfl, hx, q⟩ := h
  refine ⟨Nat.zero_le _, fun L hL => ?_⟩
  have nxL : x ≠ L := ne_of_none hx hL
  refine ⟨_, rfl, x, a.Mill, dx, _, rfl, (by rw [upd_ne nxL]; exact hx), T.cMill, T.nM_rolls, by decide, ?_⟩
  refine ⟨_, rfl, _, rfl, x, a.Mill, dx, _, rfl, upd_same, T.cMill, T.nM_visit_cost, lp1, ?_⟩
  rw [upd_upd]
  refine ⟨_, rfl, x, a.Mill, dx, _, rfl, upd_same, T.cMill, T.nM_spent, lp2, ?_⟩
  rw [upd_upd]
  refine ⟨_, rfl, x, a.Mill, dx, _, rfl, upd_same, T.cMill, T.nM_week_count, lp3, ?_⟩
  rw [upd_upd]
  refine q _ L hL ?_ ?_ (Keep.upd (Keep.upd (Keep.refl _ _) (.inr hL)) (.inl (by simp)))
  · rw [upd_same]
    exact congrArg (fun z => some (HO.ins a.Mill dx z)) (mF_new L v)
  · rw [upd_ne (Ne.symm nxL), upd_same]
theorem ln_Mill_init : ∀ vs H Q E, sp_Mill_init a vs H Q E → vs.length = p_Mill_init.length := fun _ _ _ _ ⟨_, _, _, e, _⟩ => by rw [e]; rfl

def sp_Request_init (a : Ad) : Sp := fun vs H Q _ => ∃ (x dx : Addr), vs = [.ref x] ∧ H x = some (.ins a.Request dx []) ∧ ∀ H', H' x = some (.ins a.Request dx [("mill", .non)]) → Keep H H' [x] → Q .non H'
theorem pu_Request_init (T : Txt K mg a) (h : sp_Request_init a vs H Q E) : rd_Request_init P w K a { nx := fun _ H' => Q .non H', rt := Q } (start n_Request_init vs) H := by
  obtain ⟨x, dx, rfl, hx, q⟩ := h
  exact ⟨_, rfl, x, a.Request, dx, _, rfl, hx, T.cRequest, T.nQ_mill, by decide, q _ upd_same (Keep.upd (Keep.refl _ _) (.inl (by simp)))⟩
theorem ln_Request_init : ∀ vs H Q E, sp_Request_init a vs H Q E → vs.length = p_Request_init.length := fun _ _ _ _ ⟨_, _, e, _⟩ => by rw [e]; rfl

def sp_Planner_init (P : Program) (w : World) (a : Ad) : Sp := fun vs H Q _ => ∃ (x dx L : Addr) (v : Nat), vs = [.ref x, .ref L, .int v] ∧ H x = some (.ins a.Planner dx []) ∧
  ∀ H' d, H d = none → H' x = some (.ins a.Planner dx (plF L v d)) → H' d = some (RgB.DN P w d []) → Keep H H' [x] → Q .non H'
theorem pu_Planner_init (T : Txt K mg a) (h : sp_Planner_init P w a vs H Q E) : rd_Planner_init P w K a { nx := fun _ H' => Q .non H', rt := Q } (start n_Planner_init vs) H := by
  obtain ⟨x, dx, L, v, rfl, hx, q⟩ := h
  refine ⟨_, rfl, _, rfl, x, a.Planner, dx, _, rfl, hx, T.cPlanner, T.nP_rolls, by decide, ?_⟩
  refine ⟨_, rfl, _, rfl, x, a.Planner, dx, _, rfl, upd_same, T.cPlanner, T.nP_visit_cost, lp1, ?_⟩
  rw [upd_upd]
  intro d hd
  have nxd : x ≠ d := ne_of_none (H := upd H x _) upd_same hd
  have hd0 : H d = none := by rw [upd_ne (Ne.symm nxd)] at hd; exact hd
  refine ⟨_, rfl, x, a.Planner, dx, _, rfl, (by rw [upd_ne nxd]; exact upd_same), T.cPlanner, T.nP_known, lp2, q _ d hd0 ?_ ?_ ?_⟩
  · rw [upd_same]
    exact congrArg (fun z => some (HO.ins a.Planner dx z)) (pF_new L v d)
  · rw [upd_ne (Ne.symm nxd), upd_same]
  · exact Keep.upd (Keep.upd (Keep.upd (Keep.refl _ _) (.inl (by simp))) (.inr hd0)) (.inl (by simp))
theorem ln_Planner_init : ∀ vs H Q E, sp_Planner_init P w a vs H Q E → vs.length = p_Planner_init.length := fun _ _ _ _ ⟨_, _, _, _, e, _⟩ => by rw [e]; rfl

/-! ### the planner -/
/-- a plan with its cost -/
def PlanAt (H : Hp) (x : V) (cp : Nat × List Nat) : Prop := ∃ t q, x = .ref t ∧ H t = some (.tup [.int cp.1, .ref q]) ∧ H q = some (.tup (nI cp.2))
def keyOf (g : List Nat) (m : Nat) : RgB.NK := (g.map fun (n : Nat) => (n : Int), (m : Int))
/-- what the planner remembers is right -/
structure Memo (P : Program) (w : World) (H : Hp) (d : Addr) (kvs : List RgB.NE) (v : Nat) (rs : List Roll) : Prop where
  n : RgB.NAt P w H d kvs
  ok : ∀ p ∈ kvs, ∃ (g : List Nat) (m : Nat), p.1 = keyOf g m ∧ g.length = rs.length ∧ PlanAt H p.2.2 (Kp410.cheapestPlan v m (RgM.wa rs g))
def PlAt (a : Ad) (H : Hp) (x L : Addr) (v : Nat) (d : Addr) : Prop := ∃ dx, H x = some (.ins a.Planner dx (plF L v d))
/-- all but the dict stands -/
theorem stand {H H' : Hp} {d b : Addr} {kvs : List RgB.NE} {o : HO} (n : H d = some (RgB.DN P w d kvs)) (k : Keep H H' [d]) (e : H b = some o) (ho : ∀ φ, o ≠ .ext φ) : H' b = some o :=
  k b o e (by
    intro z
    have z' : b = d := by simpa using z
    subst z'
    rw [n] at e
    exact ho _ (Option.some.inj e).symm)
theorem RollAt.stand {H H' : Hp} {d p : Addr} {kvs : List RgB.NE} {r : Roll} (n : H d = some (RgB.DN P w d kvs)) (k : Keep H H' [d]) (x : RollAt a H p r) : RollAt a H' p r := by
  obtain ⟨dx, wl, h1, h2, h3⟩ := x
  exact ⟨dx, wl, Rg.stand n k h1 (fun _ z => nomatch z), Rg.stand n k h2 (fun _ z => nomatch z), h3⟩
theorem RollsAt.stand {H H' : Hp} {d L : Addr} {ps : List Addr} {kvs : List RgB.NE} {rs : List Roll} (n : H d = some (RgB.DN P w d kvs)) (k : Keep H H' [d]) (x : RollsAt a H L ps rs) : RollsAt a H' L ps rs :=
  ⟨Rg.stand n k x.lst (fun _ z => nomatch z), paired_mono x.rls fun _ _ q => q.stand n k, x.few⟩
theorem PlAt.stand {H H' : Hp} {d d' x L : Addr} {v : Nat} {kvs : List RgB.NE} (n : H d = some (RgB.DN P w d kvs)) (k : Keep H H' [d]) (h : PlAt a H x L v d') : PlAt a H' x L v d' := by
  obtain ⟨dx, h⟩ := h
  exact ⟨dx, Rg.stand n k h (fun _ z => nomatch z)⟩
theorem PlanAt.stand {H H' : Hp} {d : Addr} {x : V} {cp : Nat × List Nat} {kvs : List RgB.NE} (n : H d = some (RgB.DN P w d kvs)) (k : Keep H H' [d]) (h : PlanAt H x cp) : PlanAt H' x cp := by
  obtain ⟨t, q, e, h1, h2⟩ := h
  exact ⟨t, q, e, Rg.stand n k h1 (fun _ z => nomatch z), Rg.stand n k h2 (fun _ z => nomatch z)⟩
theorem key_stand {H H' : Hp} {d b : Addr} {kvs : List RgB.NE} {k' : RgB.NK} (n : H d = some (RgB.DN P w d kvs)) (k : Keep H H' [d]) (h : RgB.KeyAt H k' b) : RgB.KeyAt H' k' b := by
  obtain ⟨g, h1, h2⟩ := h
  exact ⟨g, Rg.stand n k h1 (fun _ z => nomatch z), Rg.stand n k h2 (fun _ z => nomatch z)⟩
theorem PlanAt.same {H H' : Hp} {x : V} {cp : Nat × List Nat} (s : Same H H') (h : PlanAt H x cp) : PlanAt H' x cp := by
  obtain ⟨t, q, e, h1, h2⟩ := h
  exact ⟨t, q, e, s _ _ h1, s _ _ h2⟩
theorem nat_same {H H' : Hp} {d : Addr} {kvs : List RgB.NE} (s : Same H H') (n : RgB.NAt P w H d kvs) : RgB.NAt P w H' d kvs :=
  ⟨s _ _ n.at_, fun p hp => let ⟨g, h1, h2⟩ := n.keys p hp; ⟨g, s _ _ h1, s _ _ h2⟩⟩
theorem Memo.same {H H' : Hp} {d : Addr} {kvs : List RgB.NE} {v : Nat} {rs : List Roll} (s : Same H H') (m : Memo P w H d kvs v rs) : Memo P w H' d kvs v rs :=
  ⟨nat_same s m.n, fun p hp => let ⟨g, i, e, l, h⟩ := m.ok p hp; ⟨g, i, e, l, h.same s⟩⟩
/-- how many entries the planning of so many weeks may add -/
def cnt : Nat → Nat
  | 0 => 0
  | m + 1 => 1 + 8 * cnt m
theorem le_cnt : ∀ m, m ≤ cnt m
  | 0 => Nat.le_refl _
  | m + 1 => by
    have := le_cnt m
    show m + 1 ≤ 1 + 8 * cnt m
    omega
theorem cnt_le : ∀ m, m ≤ 5 → cnt m ≤ 4681
  | 0, _ => by decide
  | 1, _ => by decide
  | 2, _ => by decide
  | 3, _ => by decide
  | 4, _ => by decide
  | 5, _ => by decide
  | m + 6, h => by omega

def sp_pl_cheapest_from (P : Program) (w : World) (a : Ad) (n : Nat) : Sp := fun vs H Q _ => ∃ (x L : Addr) (ps : List Addr) (rs : List Roll) (v : Nat) (d ag : Addr) (g : List Nat) (m : Nat) (kvs : List RgB.NE), vs = [.ref x, .ref ag, .int m] ∧ m ≤ n ∧
  PlAt a H x L v d ∧ RollsAt a H L ps rs ∧ H ag = some (.tup (nI g)) ∧ g.length = rs.length ∧ Memo P w H d kvs v rs ∧ kvs.length + cnt m ≤ 5000 ∧
  ∀ H' val kvs', Keep H H' [d] → Memo P w H' d kvs' v rs → kvs'.length ≤ kvs.length + cnt m → PlanAt H' val (Kp410.cheapestPlan v m (RgM.wa rs g)) → Q val H'
def sp_pl_cheapest_with (P : Program) (w : World) (a : Ad) (n : Nat) : Sp := fun vs H Q _ => ∃ (x L : Addr) (ps : List Addr) (rs : List Roll) (v : Nat) (d ag : Addr) (g : List Nat) (m c : Nat) (kvs : List RgB.NE), vs = [.ref x, .ref ag, .int (m + 1 : Nat), .int c] ∧ m ≤ n ∧
  PlAt a H x L v d ∧ RollsAt a H L ps rs ∧ H ag = some (.tup (nI g)) ∧ g.length = rs.length ∧ Memo P w H d kvs v rs ∧ kvs.length + cnt m ≤ 5000 ∧
  ∀ H' val kvs', Keep H H' [d] → Memo P w H' d kvs' v rs → kvs'.length ≤ kvs.length + cnt m → PlanAt H' val (RgM.cand v m (RgM.wa rs g) c) → Q val H'
def sp_pl_cheapest_of_all_sets (P : Program) (w : World) (a : Ad) (n : Nat) : Sp := fun vs H Q _ => ∃ (x L : Addr) (ps : List Addr) (rs : List Roll) (v : Nat) (d ag : Addr) (g : List Nat) (m : Nat) (kvs : List RgB.NE), vs = [.ref x, .ref ag, .int (m + 1 : Nat)] ∧ m ≤ n ∧
  PlAt a H x L v d ∧ RollsAt a H L ps rs ∧ H ag = some (.tup (nI g)) ∧ g.length = rs.length ∧ Memo P w H d kvs v rs ∧ kvs.length + 8 * cnt m ≤ 5000 ∧
  ∀ H' val kvs', Keep H H' [d] → Memo P w H' d kvs' v rs → kvs'.length ≤ kvs.length + 8 * cnt m → PlanAt H' val (Kp410.cheapestPlan v (m + 1) (RgM.wa rs g)) → Q val H'
theorem ln_pl_cheapest_from {n : Nat} : ∀ vs H Q E, sp_pl_cheapest_from P w a n vs H Q E → vs.length = p_pl_cheapest_from.length := fun _ _ _ _ ⟨_, _, _, _, _, _, _, _, _, _, e, _⟩ => by rw [e]; rfl
theorem ln_pl_cheapest_with {n : Nat} : ∀ vs H Q E, sp_pl_cheapest_with P w a n vs H Q E → vs.length = p_pl_cheapest_with.length := fun _ _ _ _ ⟨_, _, _, _, _, _, _, _, _, _, _, e, _⟩ => by rw [e]; rfl
theorem ln_pl_cheapest_of_all_sets {n : Nat} : ∀ vs H Q E, sp_pl_cheapest_of_all_sets P w a n vs H Q E → vs.length = p_pl_cheapest_of_all_sets.length := fun _ _ _ _ ⟨_, _, _, _, _, _, _, _, _, _, e, _⟩ => by rw [e]; rfl

theorem sub1 (m : Nat) : V.int (((m + 1 : Nat) : Int) - 1) = V.int (m : Int) := by
  rw [show ((m + 1 : Nat) : Int) - 1 = (m : Int) by push_cast; omega]
theorem pu_pl_cheapest_with {n : Nat} (T : Txt K mg a) (h : sp_pl_cheapest_with P w a n vs H Q E) :
    rd_pl_cheapest_with P w K a (sp_cost_of_week K a) (sp_ages_after_week K) (sp_pl_cheapest_from P w a n) { nx := fun _ H' => Q .non H', rt := Q } (start n_pl_cheapest_with vs) H := by
  obtain ⟨x, L, ps, rs, v, d, ag, g, m, c, kvs, rfl, hm, ⟨dx, hx⟩, R, hag, hg, M, hk, q⟩ := h
  have h3 := R.few
  refine ⟨_, rfl, x, a.Planner, dx, _, _, rfl, hx, T.cPlanner, T.nP_rolls, pF_rolls _ _ _, _, rfl, x, a.Planner, dx, _, _, rfl, hx, T.cPlanner, T.nP_visit_cost, pF_visit _ _ _, _, rfl, _, rfl, L, ps, rs, v, ag, g, c, rfl, R, .inr (SqT.of hag), hg, fun H1 s1 => ?_⟩
  refine ⟨_, rfl, x, dx, _, rfl, s1 _ _ hx, pF_no _ _ _ (by decide +kernel) (by decide +kernel) (by decide +kernel), _, rfl, _, rfl, ag, g, c, rfl, .inr (SqT.of (s1 _ _ hag)), by omega, fun H2 l2 s2 n2 d2 => ?_⟩
  refine ⟨l2, _, rfl, .inl ⟨SqL.of d2, fun t ht => ?_⟩⟩
  have s12 : Same H H2 := s1.trans s2
  have s3 : Same H (upd H2 t (.tup (nI (RgM.aft g c)))) := Same.upd s12 (s12.free ht)
  refine ⟨_, rfl, _, _, rfl, rfl, ?_⟩
  refine ⟨x, L, ps, rs, v, d, t, RgM.aft g c, m, kvs, congrArg (fun z => [V.ref x, V.ref t, z]) (sub1 m), hm, ⟨dx, s3 _ _ hx⟩, R.same s3, upd_same, by rw [RgM.aft_length]; exact hg, M.same s3, hk, fun H4 val kvs' k4 M4 l4 A4 => ?_⟩
  obtain ⟨t4, q4, rfl, e1, e2⟩ := A4
  have k : Keep H H4 [d] := (Keep.of s3 [d]).trans k4
  have eC : RgM.cand v m (RgM.wa rs g) c = (Kp410.costOfWeek (RgM.wa rs g) v c + (Kp410.cheapestPlan v m (RgM.wa rs (RgM.aft g c))).1, c :: (Kp410.cheapestPlan v m (RgM.wa rs (RgM.aft g c))).2) := by
    unfold RgM.cand
    rw [RgM.afterWeek_wa]
  have a0 : atI [V.int ((Kp410.cheapestPlan v m (RgM.wa rs (RgM.aft g c))).1 : Nat), V.ref q4] 0 = some (V.int ((Kp410.cheapestPlan v m (RgM.wa rs (RgM.aft g c))).1 : Nat)) := atI_nat (j := 0) rfl
  have a1 : atI [V.int ((Kp410.cheapestPlan v m (RgM.wa rs (RgM.aft g c))).1 : Nat), V.ref q4] 1 = some (V.ref q4) := atI_nat (j := 1) rfl
  refine ⟨_, rfl, _, rfl, t4, _, _, _, rfl, rfl, SqT.of e1, a0, _, _, rfl, rfl, _, rfl, by show 1 ≤ sizeLine; decide, fun t5 h5 => ?_⟩
  have s5 : Same H4 (upd H4 t5 (.tup [.int c])) := same_upd h5
  refine ⟨_, rfl, t4, _, _, _, rfl, rfl, SqT.of (s5 _ _ e1), a1, t5, q4, _, _, rfl, rfl, SqT.of upd_same, SqT.of (s5 _ _ e2), by simp, ?_, ?_, ?_⟩
  · rw [nI_length, RgM.plan_length]
    show 1 + m ≤ sizeLine
    have := le_cnt m
    exact small (m := 5001) (by omega)
  · intro hnil
    refine ⟨by show 2 ≤ sizeLine; decide, fun t6 h6 => ?_⟩
    have s6 : Same H4 (upd (upd H4 t5 (.tup [.int c])) t6 (.tup [.int ((Kp410.costOfWeek (RgM.wa rs g) v c : Nat) + (Kp410.cheapestPlan v m (RgM.wa rs (RgM.aft g c))).1 : Int), .ref t5])) := Same.upd s5 (s5.free h6)
    refine q _ _ kvs' (k.trans (Keep.of s6 _)) (M4.same s6) l4 ?_
    rw [eC]
    refine ⟨t6, t5, rfl, ?_, ?_⟩
    · rw [upd_same]
      push_cast
      rfl
    · have e0 : (Kp410.cheapestPlan v m (RgM.wa rs (RgM.aft g c))).2 = [] := by
        have hl := congrArg List.length hnil
        rw [nI_length] at hl
        exact List.eq_nil_of_length_eq_zero hl
      rw [upd_ne (ne_of_none (H := upd H4 t5 _) upd_same h6), upd_same, e0]
      rfl
  · intro _ p hp
    have s6 : Same H4 (upd (upd H4 t5 (.tup [.int c])) p (.tup ([.int c] ++ nI (Kp410.cheapestPlan v m (RgM.wa rs (RgM.aft g c))).2))) := Same.upd s5 (s5.free hp)
    refine ⟨by show 2 ≤ sizeLine; decide, fun t6 h6 => ?_⟩
    have s7 : Same H4 (upd (upd (upd H4 t5 (.tup [.int c])) p (.tup ([.int c] ++ nI (Kp410.cheapestPlan v m (RgM.wa rs (RgM.aft g c))).2))) t6 (.tup [.int ((Kp410.costOfWeek (RgM.wa rs g) v c : Nat) + (Kp410.cheapestPlan v m (RgM.wa rs (RgM.aft g c))).1 : Int), .ref p])) := Same.upd s6 (s6.free h6)
    refine q _ _ kvs' (k.trans (Keep.of s7 _)) (M4.same s7) l4 ?_
    rw [eC]
    refine ⟨t6, p, rfl, ?_, ?_⟩
    · rw [upd_same]
      push_cast
      rfl
    · rw [upd_ne (ne_of_none (H := upd (upd H4 t5 _) p _) upd_same h6), upd_same]
      rfl
end
end Rg

/-! the planner, further; checks -/
namespace Rg
open PySem PySem.Spec PyProof.Rows L2 RgC
open Kp410 (Roll Mill)
section
variable {P : Program} {w : World} {K : PySem.W.Frag} {mg : Str → Option Value} {a : Ad} {vs : List V} {H : Hp} {Q : VK} {E : XK}

theorem pu_pl_cheapest_of_all_sets {n : Nat} (T : Txt K mg a) (h : sp_pl_cheapest_of_all_sets P w a n vs H Q E) :
    rd_pl_cheapest_of_all_sets P w K a (sp_pl_cheapest_with P w a n) { nx := fun _ H' => Q .non H', rt := Q } (start n_pl_cheapest_of_all_sets vs) H := by
  obtain ⟨x, L, ps, rs, v, d, ag, g, m, kvs, rfl, hm, ⟨dx, hx⟩, R, hag, hg, M, hk, q⟩ := h
  have h3 := R.few
  have hpow := Nat.two_pow_pos rs.length
  have hpow8 : 2 ^ rs.length ≤ 8 := by
    have : 2 ^ rs.length ≤ 2 ^ 3 := Nat.pow_le_pow_right (by decide) h3
    exact this
  have hno : (plF L v d).lookup ("cheapest_with" : Str) = none := pF_no _ _ _ (by decide +kernel) (by decide +kernel) (by decide +kernel)
  refine ⟨_, rfl, x, dx, _, rfl, hx, hno, _, rfl, _, rfl, x, L, ps, rs, v, d, ag, g, m, 0, kvs, rfl, hm, ⟨dx, hx⟩, R, hag, hg, M, by omega, fun H1 val kvs1 k1 M1 l1 A1 => ?_⟩
  have hx1 := Rg.stand M.n.at_ k1 hx (fun _ z => nomatch z)
  have R1 := R.stand M.n.at_ k1
  have hp : ((1 : Int) * 2 ^ (((ps.map V.ref).length : Nat) : Int).toNat) = ((2 ^ rs.length : Nat) : Int) := by
    rw [List.length_map, R.len, Int.toNat_natCast, Int.one_mul]
    push_cast
    rfl
  refine ⟨_, rfl, x, a.Planner, dx, _, _, rfl, hx1, T.cPlanner, T.nP_rolls, pF_rolls _ _ _, L, _, rfl, .inl (SqL.of R1.lst), _, _, rfl, rfl, ⟨by omega, by rw [List.length_map, R.len]; omega, by decide⟩, ?_⟩
  refine ⟨1, _, rfl, ⟨by decide, by decide, by rw [hp]; omega, by rw [hp]; omega⟩, ?_⟩
  rw [hp, show (((2 ^ rs.length : Nat) : Int) - 1).toNat = 2 ^ rs.length - 1 by omega]
  refine for_range (lo := 1) (n := 2 ^ rs.length - 1) (fun i σ' H' => ∃ (val : V) (kvs' : List RgB.NE) (x4 x5 : Option V), σ' = [some (.ref x), some (.ref ag), some (.int (m + 1 : Nat)), some val, x4, x5] ∧
      Keep H H' [d] ∧ Memo P w H' d kvs' v rs ∧ kvs'.length ≤ kvs.length + (i + 1) * cnt m ∧ PlanAt H' val (RgM.bst v m (RgM.wa rs g) i))
    ⟨val, kvs1, none, none, rfl, k1, M1, by omega, A1⟩ ?_ ?_
  · rintro i σ' H2 hi ⟨val, kvs2, x4, x5, rfl, k2, M2, l2, A2⟩
    have e1 : (1 : Int) + (i : Int) = ((i + 1 : Nat) : Int) := by push_cast; omega
    have hx2 := Rg.stand M.n.at_ k2 hx (fun _ z => nomatch z)
    have hag2 := Rg.stand M.n.at_ k2 hag (fun _ z => nomatch z)
    have hmul : (i + 1) * cnt m ≤ 7 * cnt m := Nat.mul_le_mul_right _ (by omega)
    refine ⟨_, rfl, x, dx, _, rfl, hx2, hno, _, rfl, _, rfl, _, rfl, x, L, ps, rs, v, d, ag, g, m, i + 1, kvs2, by rw [e1], hm, ⟨dx, hx2⟩, R.stand M.n.at_ k2, hag2, hg, M2, by omega, fun H3 val3 kvs3 k3 M3 l3 A3 => ?_⟩
    have A2' := A2.stand M2.n.at_ k3
    have k03 : Keep H H3 [d] := k2.trans k3
    have l03 : kvs3.length ≤ kvs.length + (i + 1 + 1) * cnt m := by
      have : (i + 1 + 1) * cnt m = (i + 1) * cnt m + cnt m := Nat.succ_mul _ _
      omega
    obtain ⟨t3, q3, rfl, e3, f3⟩ := id A3
    obtain ⟨t2, q2, rfl, e2, f2⟩ := id A2'
    have a3 : atI [V.int ((RgM.cand v m (RgM.wa rs g) (i + 1)).1 : Nat), V.ref q3] 0 = some (V.int ((RgM.cand v m (RgM.wa rs g) (i + 1)).1 : Nat)) := atI_nat (j := 0) rfl
    have a2 : atI [V.int ((RgM.bst v m (RgM.wa rs g) i).1 : Nat), V.ref q2] 0 = some (V.int ((RgM.bst v m (RgM.wa rs g) i).1 : Nat)) := atI_nat (j := 0) rfl
    refine ⟨_, rfl, t3, _, _, _, rfl, rfl, SqT.of e3, a3, _, rfl, t2, _, _, _, rfl, rfl, SqT.of e2, a2, _, _, rfl, rfl, _, rfl, ite2 (fun hc => ?_) (fun hc => ?_)⟩
    · have hc' : (RgM.cand v m (RgM.wa rs g) (i + 1)).1 < (RgM.bst v m (RgM.wa rs g) i).1 := by exact_mod_cast of_decide_eq_true hc
      have e : RgM.bst v m (RgM.wa rs g) (i + 1) = RgM.cand v m (RgM.wa rs g) (i + 1) := if_pos hc'
      refine ⟨_, rfl, .ref t3, kvs3, some (.int (1 + (i : Int))), some (.ref t3), rfl, k03, M3, l03, ?_⟩
      rw [e]
      exact A3
    · have e : RgM.bst v m (RgM.wa rs g) (i + 1) = RgM.bst v m (RgM.wa rs g) i := if_neg fun z => hc (decide_eq_true (by exact_mod_cast z))
      refine ⟨.ref t2, kvs3, some (.int (1 + (i : Int))), some (.ref t3), rfl, k03, M3, l03, ?_⟩
      rw [e]
      exact A2'
  · rintro σ' H2 ⟨val, kvs2, x4, x5, rfl, k2, M2, l2, A2⟩
    refine ⟨_, rfl, q H2 val kvs2 k2 M2 ?_ ?_⟩
    · have : (2 ^ rs.length - 1 + 1) * cnt m ≤ 8 * cnt m := Nat.mul_le_mul_right _ (by omega)
      omega
    · rw [RgM.cheapest_succ, RgM.wa_length hg]
      exact A2

theorem key_inj {g g' : List Nat} {m m' : Nat} (h : keyOf g m = keyOf g' m') : g = g' ∧ m = m' := by
  unfold keyOf at h
  injection h with h1 h2
  refine ⟨?_, by exact_mod_cast h2⟩
  have : ∀ {a b : List Nat}, (a.map fun (n : Nat) => (n : Int)) = (b.map fun (n : Nat) => (n : Int)) → a = b := by
    intro a
    induction a with
    | nil => intro b h; cases b with
      | nil => rfl
      | cons _ _ => cases h
    | cons x a ih =>
      intro b h
      cases b with
      | nil => cases h
      | cons y b =>
        rw [List.map_cons, List.map_cons] at h
        injection h with h1 h2
        rw [ih h2, show x = y by exact_mod_cast h1]
  exact this h1
theorem keyAt_of {H : Hp} {t ag : Addr} {g : List Nat} {m : Nat} (h1 : H t = some (.tup [.ref ag, .int m])) (h2 : H ag = some (.tup (nI g))) : RgB.KeyAt H (keyOf g m) t :=
  ⟨ag, h1, by rw [h2, nI_ints]; rfl⟩
theorem pu_pl_cheapest_from_zero (h : sp_pl_cheapest_from P w a 0 vs H Q E) {sp : Sp} :
    rd_pl_cheapest_from P w K a sp { nx := fun _ H' => Q .non H', rt := Q } (start n_pl_cheapest_from vs) H := by
  obtain ⟨x, L, ps, rs, v, d, ag, g, m, kvs, rfl, hm, ⟨dx, hx⟩, R, hag, hg, M, hk, q⟩ := h
  have e : m = 0 := by omega
  subst e
  refine ⟨_, rfl, rfl, _, rfl, ite2 (fun hc => ?_) (fun hc => absurd rfl hc)⟩
  refine ⟨Nat.zero_le _, fun t ht => ⟨by show 2 ≤ sizeLine; decide, fun u hu => ?_⟩⟩
  have s : Same H (upd (upd H t (.tup [])) u (.tup [.int 0, .ref t])) := Same.upd (same_upd ht) ((same_upd ht).free hu)
  refine q _ _ kvs (Keep.of s _) (M.same s) (Nat.le_add_right _ _) ⟨u, t, rfl, ?_, ?_⟩
  · rw [upd_same]
    rfl
  · rw [upd_ne (ne_of_none (H := upd H t _) upd_same hu), upd_same]
    rfl
theorem pu_pl_cheapest_from {n : Nat} (T : Txt K mg a) (h : sp_pl_cheapest_from P w a (n + 1) vs H Q E) :
    rd_pl_cheapest_from P w K a (sp_pl_cheapest_of_all_sets P w a n) { nx := fun _ H' => Q .non H', rt := Q } (start n_pl_cheapest_from vs) H := by
  obtain ⟨x, L, ps, rs, v, d, ag, g, m, kvs, rfl, hm, ⟨dx, hx⟩, R, hag, hg, M, hk, q⟩ := h
  cases m with
  | zero => exact pu_pl_cheapest_from_zero (E := E) ⟨x, L, ps, rs, v, d, ag, g, 0, kvs, rfl, Nat.le_refl _, ⟨dx, hx⟩, R, hag, hg, M, hk, q⟩
  | succ m =>
    have hk' : kvs.length + (1 + 8 * cnt m) ≤ 5000 := hk
    have fin : ∀ (H1 : Hp) (kvs1 : List RgB.NE), Keep H H1 [d] → Memo P w H1 d kvs1 v rs → kvs1.length ≤ kvs.length + (1 + 8 * cnt m) → RgB.hasN kvs1 (keyOf g (m + 1)) = true →
        tRet (RgB.tNGet P w (tFld K (tVar 0) "known") (tTup (tCons (tVar 1) (tCons (tVar 2) tNil)))) { nx := fun _ H' => Q .non H', rt := Q } (start n_pl_cheapest_from [.ref x, .ref ag, .int (m + 1 : Nat)]) H1 := by
      intro H1 kvs1 k1 M1 l1 hh
      have hx1 := Rg.stand M.n.at_ k1 hx (fun _ z => nomatch z)
      have hag1 := Rg.stand M.n.at_ k1 hag (fun _ z => nomatch z)
      refine ⟨_, rfl, x, a.Planner, dx, _, _, rfl, hx1, T.cPlanner, T.nP_known, pF_known _ _ _, _, rfl, _, rfl, by show 2 ≤ sizeLine; decide, fun t ht => ?_⟩
      have s2 := same_upd (o := .tup [.ref ag, .int (m + 1 : Nat)]) ht
      have M2 := M1.same s2
      refine ⟨d, t, kvs1, keyOf g (m + 1), rfl, rfl, M2.n, keyAt_of upd_same (s2 _ _ hag1), hh, fun p hp ek => ?_⟩
      obtain ⟨g', m', e', lg, pa⟩ := M2.ok p hp
      obtain ⟨rfl, rfl⟩ := key_inj (e'.symm.trans ek)
      exact q _ _ kvs1 (k1.trans (Keep.of s2 _)) M2 l1 pa
    refine ⟨_, rfl, rfl, _, rfl, ite2 (fun hc => ?_) (fun _ => ?_)⟩
    · have hc := of_decide_eq_true hc
      injection hc with hc
      exact absurd hc (by push_cast; omega)
    · refine ⟨_, rfl, _, rfl, by show 2 ≤ sizeLine; decide, fun t ht => ⟨_, rfl, x, a.Planner, dx, plF L v d, .ref d, rfl, ?_⟩⟩
      have s1 := same_upd (o := .tup [.ref ag, .int (m + 1 : Nat)]) ht
      have M1 := M.same s1
      refine ⟨s1 _ _ hx, T.cPlanner, T.nP_known, pF_known _ _ _, d, t, kvs, keyOf g (m + 1), rfl, rfl, M1.n, keyAt_of upd_same (s1 _ _ hag), _, rfl, ite2 (fun hn => ?_) (fun hn => ?_)⟩
      · refine ⟨_, rfl, x, dx, _, rfl, s1 _ _ hx, pF_no _ _ _ (by decide +kernel) (by decide +kernel) (by decide +kernel), _, rfl, _, rfl, x, L, ps, rs, v, d, ag, g, m, kvs, rfl, by omega, ⟨dx, s1 _ _ hx⟩, R.same s1, s1 _ _ hag, hg, M1, by omega, fun H2 val kvs2 k2 M2 l2 A2 => ?_⟩
        have k02 : Keep H H2 [d] := (Keep.of s1 [d]).trans k2
        have hx2 := Rg.stand M.n.at_ k02 hx (fun _ z => nomatch z)
        have hag2 := Rg.stand M.n.at_ k02 hag (fun _ z => nomatch z)
        refine ⟨_, rfl, x, a.Planner, dx, _, _, rfl, hx2, T.cPlanner, T.nP_known, pF_known _ _ _, _, rfl, _, rfl, by show 2 ≤ sizeLine; decide, fun t3 ht3 => ?_⟩
        have s3 := same_upd (o := .tup [.ref ag, .int (m + 1 : Nat)]) ht3
        have M3 := M2.same s3
        have A3 := A2.same s3
        have key3 : RgB.KeyAt (upd H2 t3 (.tup [.ref ag, .int (m + 1 : Nat)])) (keyOf g (m + 1)) t3 := keyAt_of upd_same (s3 _ _ hag2)
        refine ⟨d, t3, kvs2, keyOf g (m + 1), rfl, rfl, M3.n, key3, smallL (m := 5000) (by omega), ?_⟩
        have k4 : Keep (upd H2 t3 (.tup [.ref ag, .int (m + 1 : Nat)])) (upd (upd H2 t3 (.tup [.ref ag, .int (m + 1 : Nat)])) d (RgB.DN P w d (RgB.putN kvs2 (keyOf g (m + 1)) t3 val))) [d] := Keep.upd (Keep.refl _ _) (.inl (by simp))
        have pl := RgB.putN_len kvs2 (keyOf g (m + 1)) t3 val
        refine fin _ (RgB.putN kvs2 (keyOf g (m + 1)) t3 val) (k02.trans ((Keep.of s3 _).trans k4)) ⟨⟨upd_same, fun p hp => ?_⟩, fun p hp => ?_⟩ (by omega) (RgB.putN_has _ _ _ _)
        · rcases RgB.putN_mem hp with ⟨z, _⟩ | ⟨e1, _, z | ⟨p', hp', e2, e3⟩⟩
          · exact key_stand M3.n.at_ k4 (M3.n.keys p z)
          · rw [e1, z]
            exact key_stand M3.n.at_ k4 key3
          · have kk := key_stand M3.n.at_ k4 (M3.n.keys p' hp')
            rw [e2, e3] at kk
            rw [e1]
            exact kk
        · rcases RgB.putN_mem hp with ⟨z, _⟩ | ⟨e1, e2, _⟩
          · obtain ⟨g', m', e', lg, pa⟩ := M3.ok p z
            exact ⟨g', m', e', lg, pa.stand M3.n.at_ k4⟩
          · refine ⟨g, m + 1, e1, hg, ?_⟩
            rw [e2]
            exact A3.stand M3.n.at_ k4
      · refine fin _ kvs (Keep.of s1 _) M1 (by omega) ?_
        cases z : RgB.hasN kvs (keyOf g (m + 1)) with
        | true => rfl
        | false => exact absurd (by rw [z]; rfl) hn

def sp_pl_cheapest (P : Program) (w : World) (a : Ad) : Sp := fun vs H Q _ => ∃ (x L : Addr) (ps : List Addr) (rs : List Roll) (v : Nat) (d : Addr) (m : Nat), vs = [.ref x, .int m] ∧ m ≤ 5 ∧
  PlAt a H x L v d ∧ RollsAt a H L ps rs ∧ H d = some (RgB.DN P w d []) ∧ ∀ H' val, Keep H H' [d] → PlanAt H' val (Kp410.cheapestPlan v m rs) → Q val H'
theorem pu_pl_cheapest (T : Txt K mg a) (h : sp_pl_cheapest P w a vs H Q E) : rd_pl_cheapest P w K a (sp_ages_now a) (sp_pl_cheapest_from P w a 5) { nx := fun _ H' => Q .non H', rt := Q } (start n_pl_cheapest vs) H := by
  obtain ⟨x, L, ps, rs, v, d, m, rfl, hm, ⟨dx, hx⟩, R, hd, q⟩ := h
  refine ⟨_, rfl, x, dx, _, rfl, hx, pF_no _ _ _ (by decide +kernel) (by decide +kernel) (by decide +kernel), _, rfl, x, a.Planner, dx, _, _, rfl, hx, T.cPlanner, T.nP_rolls, pF_rolls _ _ _, L, ps, rs, rfl, R, fun H1 l s1 nl hl => ?_⟩
  refine ⟨l, _, rfl, .inl ⟨SqL.of hl, fun t ht => ?_⟩⟩
  have s2 : Same H (upd H1 t (.tup (nI (rs.map (·.age))))) := Same.upd s1 (s1.free ht)
  have M : Memo P w (upd H1 t (.tup (nI (rs.map (·.age))))) d [] v rs := ⟨⟨s2 _ _ hd, fun p hp => nomatch hp⟩, fun p hp => nomatch hp⟩
  have := cnt_le m hm
  refine ⟨_, rfl, x, L, ps, rs, v, d, t, rs.map (·.age), m, [], rfl, hm, ⟨dx, s2 _ _ hx⟩, R.same s2, upd_same, by rw [List.length_map], M, by rw [List.length_nil]; omega, fun H3 val kvs3 k3 M3 l3 A3 => ?_⟩
  rw [RgM.wa_self] at A3
  exact q H3 val ((Keep.of s2 _).trans k3) A3
theorem ln_pl_cheapest : ∀ vs H Q E, sp_pl_cheapest P w a vs H Q E → vs.length = p_pl_cheapest.length := fun _ _ _ _ ⟨_, _, _, _, _, _, _, e, _⟩ => by rw [e]; rfl

/-! ### checks -/
def sp_check_limits (a : Ad) : Sp := fun vs H Q E => ∃ (n lo hi : Int), vs = [.int n, .int lo, .int hi] ∧ (lo ≤ n → n ≤ hi → Q .non H) ∧ (¬ (lo ≤ n ∧ n ≤ hi) → E (.ref a.OutsideLimits) none H)
theorem pu_check_limits (h : sp_check_limits a vs H Q E) : rd_check_limits P w K a E { nx := fun _ H' => Q .non H', rt := Q } (start n_check_limits vs) H := by
  obtain ⟨n, lo, hi, rfl, h1, h2⟩ := h
  refine ⟨_, rfl, _, rfl, _, _, rfl, rfl, _, rfl, ite2 (fun hc => ?_) (fun hc => ?_)⟩
  · have hc := of_decide_eq_true hc
    exact h2 (by omega)
  · have hc : ¬ n < lo := fun z => hc (decide_eq_true z)
    refine ⟨_, rfl, _, rfl, _, _, rfl, rfl, _, rfl, ite2 (fun hd => ?_) (fun hd => ?_)⟩
    · have hd := of_decide_eq_true hd
      exact h2 (by omega)
    · have hd : ¬ hi < n := fun z => hd (decide_eq_true z)
      exact h1 (by omega) (by omega)
theorem ln_check_limits : ∀ vs H Q E, sp_check_limits a vs H Q E → vs.length = p_check_limits.length := fun _ _ _ _ ⟨_, _, _, e, _⟩ => by rw [e]; rfl
def sp_check_limits_0 : Sp := fun vs H Q _ => ∃ (n lo hi : Int), vs = [.int n, .int lo, .int hi] ∧ lo ≤ n ∧ n ≤ hi ∧ Q .non H
theorem pu_check_limits_0 (h : sp_check_limits_0 vs H Q E) : rd_check_limits_0 P w K a { nx := fun _ H' => Q .non H', rt := Q } (start n_check_limits vs) H := by
  obtain ⟨n, lo, hi, rfl, h1, h2, q⟩ := h
  refine ⟨_, rfl, _, rfl, _, _, rfl, rfl, _, rfl, ite2 (fun hc => ?_) (fun hc => ?_)⟩
  · have hc := of_decide_eq_true hc
    exact absurd hc (by omega)
  · refine ⟨_, rfl, _, rfl, _, _, rfl, rfl, _, rfl, ite2 (fun hd => ?_) (fun hd => ?_)⟩
    · have hd := of_decide_eq_true hd
      exact absurd hd (by omega)
    · exact q
theorem ln_check_limits_0 : ∀ vs H Q E, sp_check_limits_0 vs H Q E → vs.length = p_check_limits.length := fun _ _ _ _ ⟨_, _, _, e, _⟩ => by rw [e]; rfl

def sp_cheapest (a : Ad) : Sp := fun vs H Q E => ∃ (L : Addr) (ps : List Addr) (rs : List Roll) (v m : Nat), vs = [.ref L, .int v, .int m] ∧ RollsAt a H L ps rs ∧
  (m ≤ 5 → ∀ H' val, Same H H' → PlanAt H' val (Kp410.cheapestPlan v m rs) → Q val H') ∧ (5 < m → E (.ref a.OutsideLimits) none H)
theorem made_same {H H1 : Hp} {x dx C d : Addr} (nx : H x = none) (nd : H dx = none) (nd2 : H1 d = none → H d = none) (k : Keep (upd (upd H dx (.own x)) x (.ins C dx [])) H1 [x]) : Same H H1 := fun b o e =>
  k b o (by rw [upd_ne (ne_of_none e nx), upd_ne (ne_of_none e nd)]; exact e) (by
    intro z
    have z' : b = x := by simpa using z
    subst z'
    rw [nx] at e
    cases e)
theorem plan_now {L : Addr} {ps : List Addr} {rs : List Roll} {v m : Nat} {σ : L2.St} (R : RollsAt a H L ps rs) (hm : m ≤ 5) (h0 : σ[0]? = some (some (.ref L))) (h1 : σ[1]? = some (some (.int v))) (h2 : σ[2]? = some (some (.int m)))
    (q : ∀ H' val, Same H H' → PlanAt H' val (Kp410.cheapestPlan v m rs) → Q val H') :
    tRet (tMt a.Planner "cheapest" (sp_pl_cheapest P w a) (tMk a.Planner (sp_Planner_init P w a) (tCons (tVar 0) (tCons (tVar 1) tNil))) (tCons (tVar 2) tNil)) { nx := fun _ H' => Q .non H', rt := Q } σ H := by
  refine ⟨_, h0, _, h1, fun x dx nx nd ne => ⟨x, dx, L, v, rfl, upd_same, fun H1 d nd1 hx hd k => ⟨rfl, ?_⟩⟩⟩
  have s1 : Same H H1 := made_same (d := d) nx nd (fun z => by
    cases e : H d with
    | none => rfl
    | some o =>
      have hne : d ≠ x := ne_of_none e nx
      rw [upd_ne hne] at nd1
      by_cases hdx : d = dx
      · rw [hdx, nd] at e; cases e
      · rw [upd_ne hdx, e] at nd1; cases nd1) k
  have hd0 : H d = none := by
    cases e : H d with
    | none => rfl
    | some o =>
      have hne : d ≠ x := ne_of_none e nx
      rw [upd_ne hne] at nd1
      by_cases hdx : d = dx
      · rw [hdx, nd] at e; cases e
      · rw [upd_ne hdx, e] at nd1; cases nd1
  refine ⟨x, dx, _, rfl, hx, pF_no _ _ _ (by decide +kernel) (by decide +kernel) (by decide +kernel), _, h2, x, L, ps, rs, v, d, m, rfl, hm, ⟨dx, hx⟩, R.same s1, hd, fun H2 val k2 A => q H2 val (fun b o e => k2 b o (s1 b o e) ?_) A⟩
  intro z
  have z' : b = d := by simpa using z
  subst z'
  rw [hd0] at e
  cases e
theorem pu_cheapest (h : sp_cheapest a vs H Q E) : rd_cheapest P w K a E (sp_check_limits a) (sp_Planner_init P w a) (sp_pl_cheapest P w a) { nx := fun _ H' => Q .non H', rt := Q } (start n_cheapest vs) H := by
  obtain ⟨L, ps, rs, v, m, rfl, R, h1, h2⟩ := h
  refine ⟨_, rfl, _, _, _, rfl, fun _ hm => ?_, fun hm => h2 (by omega)⟩
  exact plan_now R (by omega) rfl rfl rfl (h1 (by omega))
theorem ln_cheapest : ∀ vs H Q E, sp_cheapest a vs H Q E → vs.length = p_cheapest.length := fun _ _ _ _ ⟨_, _, _, _, _, e, _⟩ => by rw [e]; rfl
def sp_cheapest_0 (a : Ad) : Sp := fun vs H Q _ => ∃ (L : Addr) (ps : List Addr) (rs : List Roll) (v m : Nat), vs = [.ref L, .int v, .int m] ∧ RollsAt a H L ps rs ∧ m ≤ 5 ∧ ∀ H' val, Same H H' → PlanAt H' val (Kp410.cheapestPlan v m rs) → Q val H'
theorem pu_cheapest_0 (h : sp_cheapest_0 a vs H Q E) : rd_cheapest_0 P w K a sp_check_limits_0 (sp_Planner_init P w a) (sp_pl_cheapest P w a) { nx := fun _ H' => Q .non H', rt := Q } (start n_cheapest vs) H := by
  obtain ⟨L, ps, rs, v, m, rfl, R, hm, q⟩ := h
  exact ⟨_, rfl, _, _, _, rfl, by omega, by omega, plan_now R hm rfl rfl rfl q⟩
theorem ln_cheapest_0 : ∀ vs H Q E, sp_cheapest_0 a vs H Q E → vs.length = p_cheapest.length := fun _ _ _ _ ⟨_, _, _, _, _, e, _⟩ => by rw [e]; rfl
end
end Rg

/-! mills in the heap; the operations' helpers -/
namespace Rg
open PySem PySem.Spec PyProof.Rows L2 RgC
open Kp410 (Roll Mill)

theorem paired_of {α β : Type} {R : α → β → Prop} : ∀ {xs : List α} {ys : List β}, xs.length = ys.length → (∀ (i : Nat) (x : α) (y : β), xs[i]? = some x → ys[i]? = some y → R x y) → Paired R xs ys
  | [], [], _, _ => .nil
  | x :: xs, y :: ys, hl, h => .cons (h 0 x y rfl rfl) (paired_of (Nat.succ.inj hl) fun i x' y' hx hy => h (i + 1) x' y' (by simpa using hx) (by simpa using hy))
  | [], _ :: _, hl, _ => by cases hl
  | _ :: _, [], hl, _ => by cases hl
/-- a mill stands at m -/
structure MillIs (a : Ad) (H : Hp) (m dx L : Addr) (ps : List Addr) (M : Mill) : Prop where
  obj : H m = some (.ins a.Mill dx (millF L M.visitCost M.spent M.weeks))
  rls : RollsAt a H L ps M.rolls
  nd : ps.Nodup
theorem MillIs.same {a : Ad} {H H' : Hp} {m dx L : Addr} {ps : List Addr} {M : Mill} (x : MillIs a H m dx L ps M) (s : Same H H') : MillIs a H' m dx L ps M := ⟨s _ _ x.obj, x.rls.same s, x.nd⟩
/-- no roll of ps has T for its list -/
def Apart (a : Ad) (H : Hp) (ps : List Addr) (T : Addr) : Prop := ∀ p ∈ ps, ∀ d r wl, H p = some (.ins a.Roll d (rollF r wl)) → wl ≠ T
theorem Apart.upd {a : Ad} {H : Hp} {ps : List Addr} {T b : Addr} {o : HO} (x : Apart a H ps T) (ho : ∀ d r wl, o = .ins a.Roll d (rollF r wl) → wl ≠ T) : Apart a (L2.upd H b o) ps T := fun p hp d r wl e => by
  by_cases h : p = b
  · subst h
    rw [upd_same] at e
    exact ho d r wl (Option.some.inj e)
  · rw [upd_ne h] at e
    exact x p hp d r wl e
theorem MillIs.apart {a : Ad} {H H' : Hp} {m dx L : Addr} {ps : List Addr} {M : Mill} (x : MillIs a H m dx L ps M) (s : Same H H') {T : Addr} (h : Apart a H ps T) : Apart a H' ps T := fun p hp d r wl e => by
  obtain ⟨i, hi⟩ := List.getElem?_of_mem hp
  obtain ⟨r', _, d', wl', h1, _⟩ := paired_get x.rls.rls hi
  have h2 := s _ _ h1
  rw [e] at h2
  exact h p hp d r wl (by rw [h1]; exact h2.symm)
theorem rollF_inj {r r' : Roll} {wl wl' : Addr} (h : rollF r wl = rollF r' wl') : wl = wl' := by
  unfold rollF at h
  injection h with _ h
  injection h with _ h
  injection h with h _
  injection h with _ h
  injection h
def errA (a : Ad) : RgN.Er → Addr
  | .noMill => a.NoMill
  | .noRoll => a.NoRoll
  | .limits => a.OutsideLimits
  | .many => a.TooManyRolls
  | .never => a.NeverReground
/-- what an operation does: it gives back a list, or raises -/
def Res (a : Ad) (H : Hp) (m dx L : Addr) (ps : List Addr) (Q : VK) (E : XK) : RgN.Out → Prop
  | .bad e => ∀ H', Same H H' → E (.ref (errA a e)) none H'
  | .ok M' x l => ∀ H' p ps', Keep H H' (m :: L :: ps) → (∀ b ∈ ps', b ∈ ps ∨ H b = none) → (∀ T, H T ≠ none → Apart a H ps T → Apart a H' ps' T) → MillIs a H' m dx L ps' M' → H p = none → H' p = some (.lst (.int (x : Nat) :: nI l)) → Q (.ref p) H'
theorem Res.ro {a : Ad} {H : Hp} {m dx L : Addr} {ps : List Addr} {Q : VK} {E : XK} {M : Mill} {x : Nat} {l : List Nat} (h : Res a H m dx L ps Q E (.ok M x l)) (MI : MillIs a H m dx L ps M) {H1 : Hp} {p : Addr} (s : Same H H1) (hp : H1 p = none) :
    Q (.ref p) (upd H1 p (.lst (.int (x : Nat) :: nI l))) :=
  h _ p ps (Keep.of (Same.upd s (s.free hp)) _) (fun _ hb => .inl hb) (fun _ _ x => MI.apart (Same.upd s (s.free hp)) x) (MI.same (Same.upd s (s.free hp))) (s.free hp) upd_same
theorem RollAt.upd_ins {a : Ad} {H : Hp} {p b C dx : Addr} {r : Roll} {fs : FL} {o : HO} (x : RollAt a H p r) (hb : H b = some (.ins C dx fs)) (hne : p ≠ b) : RollAt a (upd H b o) p r := by
  obtain ⟨d, wl, h1, h2, h3⟩ := x
  exact ⟨d, wl, by rw [upd_ne hne]; exact h1, by rw [upd_ne (ne_of h2 hb (fun z => nomatch z))]; exact h2, h3⟩
theorem nI_refs {ws : List Nat} {ps : List Addr} (h : 1 ≤ ws.length) : (HO.lst (nI ws)) ≠ .lst (ps.map V.ref) := by
  intro e
  injection e with e
  cases ws with
  | nil => simp at h
  | cons x ws =>
    cases ps with
    | nil => cases e
    | cons p ps =>
      have e : V.int (x : Int) :: nI ws = V.ref p :: ps.map V.ref := e
      injection e with e _
      cases e
theorem RollAt.upd_refs {a : Ad} {H : Hp} {p b : Addr} {r : Roll} {ps : List Addr} {o : HO} (x : RollAt a H p r) (hb : H b = some (.lst (ps.map V.ref))) : RollAt a (upd H b o) p r := by
  obtain ⟨d, wl, h1, h2, h3⟩ := x
  exact ⟨d, wl, by rw [upd_ne (ne_of h1 hb (fun z => nomatch z))]; exact h1, by rw [upd_ne (ne_of h2 hb (nI_refs h3.1))]; exact h2, h3⟩
theorem mill_roll {L d wl C C' dx : Addr} {v s n : Nat} {r : Roll} : (HO.ins C dx (millF L v s n)) ≠ .ins C' d (rollF r wl) := by
  intro e
  injection e with _ _ e
  injection e with e _
  injection e with e _
  exact absurd e (by decide +kernel)
theorem MillIs.m_ne_L {a : Ad} {H : Hp} {m dx L : Addr} {ps : List Addr} {M : Mill} (x : MillIs a H m dx L ps M) : m ≠ L := ne_of x.obj x.rls.lst (fun z => nomatch z)
theorem MillIs.p_ne_m {a : Ad} {H : Hp} {m dx L : Addr} {ps : List Addr} {M : Mill} (x : MillIs a H m dx L ps M) {i : Nat} {p : Addr} (h : ps[i]? = some p) : p ≠ m := by
  obtain ⟨r, _, d, wl, h1, _⟩ := paired_get x.rls.rls h
  exact (ne_of x.obj h1 mill_roll).symm
theorem MillIs.p_ne_L {a : Ad} {H : Hp} {m dx L : Addr} {ps : List Addr} {M : Mill} (x : MillIs a H m dx L ps M) {i : Nat} {p : Addr} (h : ps[i]? = some p) : p ≠ L := by
  obtain ⟨r, _, d, wl, h1, _⟩ := paired_get x.rls.rls h
  exact ne_of h1 x.rls.lst (fun z => nomatch z)
theorem nd_ne {ps : List Addr} (h : ps.Nodup) {i j : Nat} {p q : Addr} (hi : ps[i]? = some p) (hj : ps[j]? = some q) (hn : i ≠ j) : p ≠ q := by
  obtain ⟨li, ei⟩ := List.getElem?_eq_some_iff.mp hi
  obtain ⟨lj, ej⟩ := List.getElem?_eq_some_iff.mp hj
  rintro rfl
  exact hn ((List.getElem_inj h).mp (ei.trans ej.symm))
/-- the mill's own attributes change -/
theorem MillIs.set {a : Ad} {H : Hp} {m dx L : Addr} {ps : List Addr} {M : Mill} (x : MillIs a H m dx L ps M) (v s n : Nat) : MillIs a (upd H m (.ins a.Mill dx (millF L v s n))) m dx L ps ⟨M.rolls, v, s, n⟩ :=
  ⟨upd_same, ⟨by rw [upd_ne x.m_ne_L.symm]; exact x.rls.lst, paired_of x.rls.len fun i p r hp hr => by
    obtain ⟨r', hr', z⟩ := paired_get x.rls.rls hp
    rw [hr] at hr'
    cases hr'
    exact z.upd_ins x.obj (x.p_ne_m hp), x.rls.few⟩, x.nd⟩
theorem RollAt.age {a : Ad} {H : Hp} {p : Addr} {r : Roll} (x : RollAt a H p r) (g : Nat) : ∃ d wl, H p = some (.ins a.Roll d (rollF r wl)) ∧ RollAt a (upd H p (.ins a.Roll d (rollF { r with age := g } wl))) p { r with age := g } := by
  obtain ⟨d, wl, h1, h2, h3⟩ := x
  exact ⟨d, wl, h1, d, wl, upd_same, by rw [upd_ne (ne_of h2 h1 (fun z => nomatch z))]; exact h2, h3⟩
section
variable {P : Program} {w : World} {K : PySem.W.Frag} {mg : Str → Option Value} {a : Ad} {vs : List V} {H : Hp} {Q : VK} {E : XK}

theorem fR {Q : V → Prop} {m dx L : Addr} {v s n : Nat} (T : Txt K mg a) (hm : H m = some (.ins a.Mill dx (millF L v s n))) (q : Q (.ref L)) :
    ∃ (b C d : Addr) (fs : List (Str × V)) (y : V), V.ref m = .ref b ∧ H b = some (.ins C d fs) ∧ Cls K C ∧ NoAttr K C "rolls" ∧ fs.lookup ("rolls" : Str) = some y ∧ Q y :=
  ⟨m, a.Mill, dx, _, _, rfl, hm, T.cMill, T.nM_rolls, mF_rolls _ _ _ _, q⟩
theorem fV {Q : V → Prop} {m dx L : Addr} {v s n : Nat} (T : Txt K mg a) (hm : H m = some (.ins a.Mill dx (millF L v s n))) (q : Q (.int v)) :
    ∃ (b C d : Addr) (fs : List (Str × V)) (y : V), V.ref m = .ref b ∧ H b = some (.ins C d fs) ∧ Cls K C ∧ NoAttr K C "visit_cost" ∧ fs.lookup ("visit_cost" : Str) = some y ∧ Q y :=
  ⟨m, a.Mill, dx, _, _, rfl, hm, T.cMill, T.nM_visit_cost, mF_visit _ _ _ _, q⟩
theorem fS {Q : V → Prop} {m dx L : Addr} {v s n : Nat} (T : Txt K mg a) (hm : H m = some (.ins a.Mill dx (millF L v s n))) (q : Q (.int s)) :
    ∃ (b C d : Addr) (fs : List (Str × V)) (y : V), V.ref m = .ref b ∧ H b = some (.ins C d fs) ∧ Cls K C ∧ NoAttr K C "spent" ∧ fs.lookup ("spent" : Str) = some y ∧ Q y :=
  ⟨m, a.Mill, dx, _, _, rfl, hm, T.cMill, T.nM_spent, mF_spent _ _ _ _, q⟩
theorem fW {Q : V → Prop} {m dx L : Addr} {v s n : Nat} (T : Txt K mg a) (hm : H m = some (.ins a.Mill dx (millF L v s n))) (q : Q (.int n)) :
    ∃ (b C d : Addr) (fs : List (Str × V)) (y : V), V.ref m = .ref b ∧ H b = some (.ins C d fs) ∧ Cls K C ∧ NoAttr K C "week_count" ∧ fs.lookup ("week_count" : Str) = some y ∧ Q y :=
  ⟨m, a.Mill, dx, _, _, rfl, hm, T.cMill, T.nM_week_count, mF_weeks _ _ _ _, q⟩

def sp_roll_at (a : Ad) : Sp := fun vs H Q E => ∃ (m dx L : Addr) (ps : List Addr) (M : Mill) (i : Nat), vs = [.ref m, .int i] ∧ MillIs a H m dx L ps M ∧
  (∀ p r, ps[i]? = some p → M.rolls[i]? = some r → RollAt a H p r → Q (.ref p) H) ∧ (¬ i < M.rolls.length → E (.ref a.NoRoll) none H)
theorem pu_roll_at (T : Txt K mg a) (h : sp_roll_at a vs H Q E) : rd_roll_at P w K a E { nx := fun _ H' => Q .non H', rt := Q } (start n_roll_at vs) H := by
  obtain ⟨m, dx, L, ps, M, i, rfl, MI, h1, h2⟩ := h
  refine ⟨_, rfl, _, rfl, fR T MI.obj ⟨L, _, rfl, .inl (SqL.of MI.rls.lst), _, _, rfl, rfl, _, rfl, ite2 (fun hc => ?_) (fun hc => ?_)⟩⟩
  · have hc := of_decide_eq_true hc
    rw [List.length_map, MI.rls.len] at hc
    exact h2 (by omega)
  · have hc : ¬ (((ps.map V.ref).length : Nat) : Int) ≤ (i : Int) := fun z => hc (decide_eq_true z)
    rw [List.length_map, MI.rls.len] at hc
    have hi : i < M.rolls.length := by omega
    have hp : ps[i]? = some (ps[i]'(by rw [MI.rls.len]; exact hi)) := List.getElem?_eq_getElem _
    obtain ⟨r, hr, R⟩ := paired_get MI.rls.rls hp
    exact ⟨_, rfl, fR T MI.obj ⟨_, rfl, L, _, _, _, rfl, rfl, SqL.of MI.rls.lst, atI_nat (by rw [List.getElem?_map, hp]; rfl), h1 _ r hp hr R⟩⟩
theorem ln_roll_at : ∀ vs H Q E, sp_roll_at a vs H Q E → vs.length = p_roll_at.length := fun _ _ _ _ ⟨_, _, _, _, _, _, e, _⟩ => by rw [e]; rfl

def sp_check_set (a : Ad) : Sp := fun vs H Q E => ∃ (m dx L : Addr) (ps : List Addr) (M : Mill) (c : Nat), vs = [.ref m, .int c] ∧ MillIs a H m dx L ps M ∧ (c < 2 ^ M.rolls.length → Q .non H) ∧ (¬ c < 2 ^ M.rolls.length → E (.ref a.OutsideLimits) none H)
theorem pu_check_set (T : Txt K mg a) (h : sp_check_set a vs H Q E) : rd_check_set P w K a E (sp_check_limits a) { nx := fun _ H' => Q .non H', rt := Q } (start n_check_set vs) H := by
  obtain ⟨m, dx, L, ps, M, c, rfl, MI, h1, h2⟩ := h
  have h3 := MI.rls.few
  have hp : ((1 : Int) * 2 ^ (((ps.map V.ref).length : Nat) : Int).toNat) = ((2 ^ M.rolls.length : Nat) : Int) := by
    rw [List.length_map, MI.rls.len, Int.toNat_natCast, Int.one_mul]
    push_cast
    rfl
  have hpow := Nat.two_pow_pos M.rolls.length
  refine ⟨_, rfl, _, rfl, fR T MI.obj ⟨L, _, rfl, .inl (SqL.of MI.rls.lst), _, _, rfl, rfl, ⟨by omega, by rw [List.length_map, MI.rls.len]; omega, by decide⟩, _, _, rfl, rfl, _, _, _, rfl, fun _ hb => ?_, fun hb => ?_⟩⟩
  · rw [hp] at hb
    exact h1 (by omega)
  · rw [hp] at hb
    exact h2 (by omega)
theorem ln_check_set : ∀ vs H Q E, sp_check_set a vs H Q E → vs.length = p_check_set.length := fun _ _ _ _ ⟨_, _, _, _, _, _, e, _⟩ => by rw [e]; rfl

def sp_execute_week (a : Ad) : Sp := fun vs H Q _ => ∃ (m dx L : Addr) (ps : List Addr) (M : Mill) (c : Nat), vs = [.ref m, .int c] ∧ MillIs a H m dx L ps M ∧
  ∀ H', Keep H H' (m :: L :: ps) → (∀ T, Apart a H ps T → Apart a H' ps T) → MillIs a H' m dx L ps (Kp410.withWeek M c) → Q (.int (Kp410.costOfWeek M.rolls M.visitCost c : Nat)) H'
theorem pu_execute_week (T : Txt K mg a) (h : sp_execute_week a vs H Q E) : rd_execute_week P w K a (sp_ages_now a) (sp_cost_of_week K a) (sp_ages_after_week K) { nx := fun _ H' => Q .non H', rt := Q } (start n_execute_week vs) H := by
  obtain ⟨m, dx, L, ps, M, c, rfl, MI, q⟩ := h
  have h3 := MI.rls.few
  have hL := MI.rls.len
  refine ⟨_, rfl, fR T MI.obj ⟨L, ps, M.rolls, rfl, MI.rls, fun H1 ag s1 n1 e1 => ?_⟩⟩
  have M1 := MI.same s1
  refine ⟨_, rfl, fR T M1.obj ⟨_, rfl, fV T M1.obj ⟨_, rfl, _, rfl, L, ps, M.rolls, M.visitCost, ag, _, c, rfl, M1.rls, .inl (SqL.of e1), by rw [List.length_map], fun H2 s2 => ?_⟩⟩⟩
  rw [RgM.wa_self]
  have M2 := M1.same s2
  refine ⟨_, rfl, fR T M2.obj ⟨_, rfl, _, rfl, ag, _, c, rfl, .inl (SqL.of (s2 _ _ e1)), by rw [List.length_map]; exact h3, fun H3 al s3 n3 e3 => ?_⟩⟩
  have M3 := M2.same s3
  have s03 : Same H H3 := s1.trans (s2.trans s3)
  have hgl : (RgM.aft (M.rolls.map (·.age)) c).length = M.rolls.length := by rw [RgM.aft_length, List.length_map]
  generalize hg : RgM.aft (M.rolls.map (·.age)) c = g at e3 hgl
  have alL : al ≠ L := fun z => by
    subst z
    have := (s1.trans s2) _ _ MI.rls.lst
    rw [n3] at this
    cases this
  have alm : al ≠ m := fun z => by
    subst z
    have := (s1.trans s2) _ _ MI.obj
    rw [n3] at this
    cases this
  refine ⟨L, al, _, _, rfl, SqL.of M3.rls.lst, SqL.of e3, for_it (walk_zip (n := M.rolls.length) (by rw [List.length_map, nI_length, hL, hgl, Nat.min_self])) (fun i σ' H' => ∃ x4 x5, σ' = [some (.ref m), some (.int c), some (.ref ag), some (.int (Kp410.costOfWeek M.rolls M.visitCost c : Nat)), x4, x5] ∧
      Keep H H' (m :: L :: ps) ∧ (∀ T, Apart a H ps T → Apart a H' ps T) ∧ H' m = some (.ins a.Mill dx (millF L M.visitCost M.spent M.weeks)) ∧ H' L = some (.lst (ps.map V.ref)) ∧ H' al = some (.lst (nI g)) ∧
      ∀ j p r n, ps[j]? = some p → M.rolls[j]? = some r → g[j]? = some n → RollAt a H' p (if j < i then { r with age := n } else r))
    ⟨none, none, rfl, Keep.of s03 _, fun _ x => MI.apart s03 x, M3.obj, M3.rls.lst, e3, fun j p r n hp hr hn => ?_⟩ (fun i σ' H' _ ⟨_, _, _, _, _, _, hl, ha, _⟩ => ⟨SqL.of hl, SqL.of ha⟩) ?_ ?_⟩
  · obtain ⟨r', hr', z⟩ := paired_get M3.rls.rls hp
    rw [hr] at hr'
    cases hr'
    rw [if_neg (by omega)]
    exact z
  · rintro i x σ' H4 H5 hi ⟨x4, x5, rfl, k4, p4, m4, l4, a4, z4⟩ ⟨T', u, y, rfl, hT, rfl, eu, ey⟩
    obtain ⟨p, hp, rfl⟩ := map_get eu
    obtain ⟨n, hn, rfl⟩ := map_get ey
    have hr : M.rolls[i]? = some (M.rolls[i]'hi) := List.getElem?_eq_getElem hi
    generalize M.rolls[i]'hi = r at hr
    have R := z4 i p r n hp hr hn
    rw [if_neg (by omega)] at R
    have sT : Same H4 (upd H4 T' (.tup [.ref p, .int (n : Nat)])) := same_upd hT
    obtain ⟨d, wl, hd, RA⟩ := (R.same sT).age n
    have hpm : p ≠ m := MI.p_ne_m hp
    have hpL : p ≠ L := MI.p_ne_L hp
    have hpal : al ≠ p := ne_of (sT _ _ a4) hd (fun z => nomatch z)
    refine ⟨T', _, rfl, SqT.of upd_same, rfl, _, _, rfl, _, _, rfl, rfl, _, rfl, _, rfl, p, a.Roll, d, _, rfl, hd, T.cRoll, T.nR_age, by show 3 < 1000; decide, ?_⟩
    refine ⟨some (.ref p), some (.int (n : Nat)), rfl, ?_, ?_, ?_, ?_, ?_, ?_⟩
    · refine Keep.upd (k4.trans (Keep.of sT _)) (.inl ?_)
      have := List.mem_of_getElem? hp
      simp [this]
    · intro T0 hT0
      refine (Apart.upd (b := T') (o := .tup [.ref p, .int (n : Nat)]) (p4 T0 hT0) (fun d r wl e => nomatch e)).upd fun d' r' wl' e => ?_
      injection e with _ _ e
      rw [rF_put] at e
      rw [← rollF_inj e]
      have h4 : H4 p = some (.ins a.Roll d (rollF r wl)) := by
        rw [upd_ne] at hd
        · exact hd
        · rintro rfl
          rw [upd_same] at hd
          cases hd
      exact p4 T0 hT0 p (List.mem_of_getElem? hp) d r wl h4
    · rw [upd_ne hpm.symm]; exact sT _ _ m4
    · rw [upd_ne hpL.symm]; exact sT _ _ l4
    · rw [upd_ne hpal]; exact sT _ _ a4
    · intro j p' r' n' hp' hr' hn'
      by_cases hj : j = i
      · subst hj
        rw [hp] at hp'; cases hp'
        rw [hr] at hr'; cases hr'
        rw [hn] at hn'; cases hn'
        rw [if_pos (by omega), rF_put]
        exact RA
      · have e : (j < i + 1) = (j < i) := propext ⟨fun _ => by omega, fun _ => by omega⟩
        simp only [e]
        exact ((z4 j p' r' n' hp' hr' hn').same sT).upd_ins hd (nd_ne MI.nd hp' hp hj)
  · rintro σ' H4 ⟨x4, x5, rfl, k4, p4, m4, l4, a4, z4⟩
    have M4 : MillIs a H4 m dx L ps ⟨Kp410.afterWeek M.rolls c, M.visitCost, M.spent, M.weeks⟩ := by
      have ew : Kp410.afterWeek M.rolls c = RgM.wa M.rolls g := by rw [RgM.afterWeek_self, hg]
      have lw : (RgM.wa M.rolls g).length = M.rolls.length := RgM.wa_length hgl
      refine ⟨m4, ⟨l4, paired_of (by rw [ew, lw]; exact hL) fun j p r hp hr => ?_, by rw [ew, lw]; exact h3⟩, MI.nd⟩
      rw [ew] at hr
      have hj : j < M.rolls.length := by rw [← lw]; exact (List.getElem?_eq_some_iff.mp hr).1
      have h0 : M.rolls[j]? = some (M.rolls[j]'hj) := List.getElem?_eq_getElem hj
      have hn : g[j]? = some (g[j]'(by omega)) := List.getElem?_eq_getElem (by omega)
      have z := z4 j p _ _ hp h0 hn
      rw [if_pos hj] at z
      rw [RgM.wa_get h0 hn] at hr
      cases hr
      exact z
    refine ⟨_, rfl, m, a.Mill, dx, _, _, rfl, m4, T.cMill, T.nM_spent, mF_spent _ _ _ _, _, rfl, _, _, rfl, rfl, dx, _, m4, by show 4 < 1000; decide, ?_⟩
    rw [show (M.spent : Int) + ((Kp410.costOfWeek M.rolls M.visitCost c : Nat) : Int) = ((M.spent + Kp410.costOfWeek M.rolls M.visitCost c : Nat) : Int) by push_cast; rfl, mF_put_spent]
    have M5 := M4.set M.visitCost (M.spent + Kp410.costOfWeek M.rolls M.visitCost c) M.weeks
    refine ⟨_, rfl, m, a.Mill, dx, _, _, rfl, upd_same, T.cMill, T.nM_week_count, mF_weeks _ _ _ _, _, _, rfl, rfl, dx, _, upd_same, by show 4 < 1000; decide, ?_⟩
    rw [show (M.weeks : Int) + 1 = ((M.weeks + 1 : Nat) : Int) by push_cast; rfl, mF_put_weeks]
    have M6 := M5.set M.visitCost (M.spent + Kp410.costOfWeek M.rolls M.visitCost c) (M.weeks + 1)
    exact ⟨_, rfl, q _ (Keep.upd (Keep.upd k4 (.inl (by simp))) (.inl (by simp))) (fun T0 h0 => ((p4 T0 h0).upd fun d r wl e => absurd e mill_roll).upd fun d r wl e => absurd e mill_roll) M6⟩
theorem ln_execute_week : ∀ vs H Q E, sp_execute_week a vs H Q E → vs.length = p_execute_week.length := fun _ _ _ _ ⟨_, _, _, _, _, _, e, _⟩ => by rw [e]; rfl
end
end Rg

/-! the operations that change a mill -/
namespace Rg
open PySem PySem.Spec PyProof.Rows L2 RgC
open Kp410 (Roll Mill)
theorem two_none {H : Hp} {b m p : Addr} {o u : HO} (h : upd (upd H b o) m u p = none) : H p = none := by
  have h1 : p ≠ m := by
    rintro rfl
    rw [upd_same] at h
    cases h
  rw [upd_ne h1] at h
  have h2 : p ≠ b := by
    rintro rfl
    rw [upd_same] at h
    cases h
  rwa [upd_ne h2] at h
theorem made {H H1 : Hp} {x dx C : Addr} (nx : H x = none) (nd : H dx = none) (k : Keep (upd (upd H dx (.own x)) x (.ins C dx [])) H1 [x]) : Same H H1 := Same.made nx nd fun b o e n => k b o e (by simpa using n)
theorem free_upd {H : Hp} {b p : Addr} {o : HO} (h : upd H b o p = none) : H p = none := by
  have h2 : p ≠ b := by
    rintro rfl
    rw [upd_same] at h
    cases h
  rwa [upd_ne h2] at h
theorem paired_erase {α β : Type} {R : α → β → Prop} {xs : List α} {ys : List β} (r : Paired R xs ys) (i : Nat) : Paired R (xs.eraseIdx i) (ys.eraseIdx i) := by
  induction r generalizing i with
  | nil => exact .nil
  | cons hq t ih =>
    cases i with
    | zero => exact t
    | succ i => exact .cons hq (ih i)
theorem paired_snoc {α β : Type} {R : α → β → Prop} {xs : List α} {ys : List β} {x : α} {y : β} (r : Paired R xs ys) (h : R x y) : Paired R (xs ++ [x]) (ys ++ [y]) := by
  induction r with
  | nil => exact .cons h .nil
  | cons hq t ih => exact .cons hq ih
theorem map_erase {α β : Type} (f : α → β) : ∀ (l : List α) (i : Nat), (l.map f).eraseIdx i = (l.eraseIdx i).map f
  | [], _ => rfl
  | _ :: _, 0 => rfl
  | x :: l, i + 1 => congrArg (List.cons (f x)) (map_erase f l i)
section
variable {P : Program} {w : World} {K : PySem.W.Frag} {mg : Str → Option Value} {a : Ad} {vs : List V} {H : Hp} {Q : VK} {E : XK}

def sp_create (a : Ad) : Sp := fun vs H Q E => ∃ (q dq : Addr) (x : V) (v : Nat), vs = [.ref q, .int v] ∧ H q = some (.ins a.Request dq [("mill", x)]) ∧
  (v ≤ 999 → ∀ H' m dm L p, Keep H H' [q] → H m = none → H L = none → H' q = some (.ins a.Request dq [("mill", .ref m)]) → MillIs a H' m dm L [] ⟨[], v, 0, 0⟩ → H p = none → H' p = some (.lst [.int 0]) → Q (.ref p) H') ∧ (¬ v ≤ 999 → E (.ref a.OutsideLimits) none H)
theorem pu_create (T : Txt K mg a) (h : sp_create a vs H Q E) : rd_create P w K a E (sp_check_limits a) (sp_Mill_init a) { nx := fun _ H' => Q .non H', rt := Q } (start n_create vs) H := by
  obtain ⟨q, dq, x, v, rfl, hq, h1, h2⟩ := h
  refine ⟨_, rfl, _, _, _, rfl, fun _ hv => ?_, fun hv => h2 (by omega)⟩
  refine ⟨_, rfl, fun m dm nm nd ne => ⟨m, dm, v, rfl, upd_same, fun H1 L nL hm hL k => ⟨rfl, ?_⟩⟩⟩
  have nL0 : H L = none := two_none nL
  have s1 : Same H H1 := made nm nd k
  have hq1 := s1 _ _ hq
  refine ⟨_, rfl, q, a.Request, dq, _, rfl, hq1, T.cRequest, T.nQ_mill, by show 1 < 1000; decide, by show 1 ≤ sizeLine; decide, fun p hp => ?_⟩
  have nmq : m ≠ q := (ne_of_none hq nm).symm
  have nLq : L ≠ q := (ne_of_none hq nL0).symm
  have s2 := same_upd (o := .lst [V.int 0]) hp
  refine h1 (by omega) _ m dm L p ?_ nm nL0 (s2 _ _ (by rw [upd_same, put_here])) ⟨s2 _ _ (by rw [upd_ne nmq]; exact hm), ⟨s2 _ _ (by rw [upd_ne nLq]; exact hL), .nil, by show 0 ≤ 3; decide⟩, .nil⟩ (s1.free (free_upd hp)) upd_same
  exact Keep.upd (Keep.upd (Keep.of s1 _) (.inl (by simp))) (.inr (s1.free (free_upd hp)))
theorem ln_create : ∀ vs H Q E, sp_create a vs H Q E → vs.length = p_create.length := fun _ _ _ _ ⟨_, _, _, _, e, _⟩ => by rw [e]; rfl

def sp_add_roll (K : PySem.W.Frag) (a : Ad) : Sp := fun vs H Q E => ∃ (m dx L : Addr) (ps : List Addr) (M : Mill) (rc : Nat) (wl : Addr) (ws : List Nat), vs = [.ref m, .int rc, .ref wl] ∧ MillIs a H m dx L ps M ∧ SqL K H wl (nI ws) ∧ Res a H m dx L ps Q E (RgN.oAdd M rc ws)
theorem pu_add_roll (T : Txt K mg a) (h : sp_add_roll K a vs H Q E) : rd_add_roll P w K a E (sp_check_limits a) (sp_Roll_init K a) { nx := fun _ H' => Q .non H', rt := Q } (start n_add_roll vs) H := by
  obtain ⟨m, dx, L, ps, M, rc, wl, ws, rfl, MI, S, q⟩ := h
  unfold RgN.oAdd at q
  refine ⟨_, rfl, _, _, _, rfl, fun _ h1 => ?_, fun h1 => ?_⟩
  rotate_left
  · rw [if_neg (by omega)] at q
    exact q H (Same.refl H)
  rw [if_pos (by omega)] at q
  refine ⟨_, rfl, wl, _, rfl, .inl S, _, _, _, rfl, fun h2 h3 => ?_, fun h2 => ?_⟩
  rotate_left
  · rw [nI_length] at h2
    rw [if_neg (by omega)] at q
    exact q H (Same.refl H)
  rw [nI_length] at h2 h3
  rw [if_pos (by omega)] at q
  refine ⟨_, rfl, wl, rfl, ⟨_, S⟩, for_list (K := K) (a := wl) (xs := nI ws) (fun i σ' H' => ∃ x3, σ' = [some (.ref m), some (.int rc), some (.ref wl), x3] ∧ H' = H ∧ ∀ x ∈ ws.take i, x ≤ 99)
    ⟨none, rfl, rfl, by simp⟩ (fun i σ' H' _ ⟨_, _, e, _⟩ => by rw [e]; exact S) ?_ ?_⟩
  · rintro i x σ' H' hi ⟨x3, rfl, rfl, hh⟩
    obtain ⟨n, hn, rfl⟩ := map_get hi
    refine ⟨_, rfl, _, _, _, rfl, fun _ hb => ?_, fun hb => ?_⟩
    · refine ⟨some (.int n), rfl, rfl, fun x hx => ?_⟩
      rw [take_snoc hn] at hx
      rcases List.mem_append.mp hx with hx | hx
      · exact hh x hx
      · rw [List.mem_singleton.mp hx]
        omega
    · rw [if_neg fun z => hb (by have := z n (List.mem_of_getElem? hn); omega)] at q
      exact q _ (Same.refl _)
  rintro σ' H' ⟨x3, rfl, rfl, hh⟩
  rw [nI_length, List.take_of_length_le (Nat.le_refl _)] at hh
  rw [if_pos hh] at q
  refine ⟨_, rfl, fR T MI.obj ⟨L, _, rfl, .inl (SqL.of MI.rls.lst), _, _, rfl, rfl, _, rfl, ite2 (fun hc => ?_) (fun hc => ?_)⟩⟩
  · have hc := of_decide_eq_true hc
    rw [List.length_map, MI.rls.len] at hc
    rw [if_pos (by omega)] at q
    exact q _ (Same.refl _)
  have hc : ¬ (3 : Int) ≤ (((ps.map V.ref).length : Nat) : Int) := fun z => hc (decide_eq_true z)
  rw [List.length_map, MI.rls.len] at hc
  rw [if_neg (by omega)] at q
  have hlen := MI.rls.len
  refine ⟨_, rfl, fR T MI.obj ⟨.inl ⟨rfl, _, SqL.of MI.rls.lst⟩, _, rfl, _, rfl, fun x d nx nd ne => ⟨x, d, wl, rc, ws, rfl, upd_same, Same.seq (Same.upd (same_upd nd) nx) S, by omega, by omega, fun H2 l nl ex RA k => ⟨rfl, ?_⟩⟩⟩⟩
  have s2 : Same H' H2 := made nx nd k
  have M2 := MI.same s2
  refine ⟨L, _, .ref x, rfl, rfl, M2.rls.lst, smallL (m := 3) (by rw [List.length_map]; omega), ?_⟩
  have m3 : upd H2 L (.lst (ps.map V.ref ++ [.ref x])) m = some (.ins a.Mill dx (millF L M.visitCost M.spent M.weeks)) := by
    rw [upd_ne M2.m_ne_L]
    exact M2.obj
  refine ⟨_, rfl, fR T m3 ⟨L, _, rfl, .inl (SqL.of upd_same), _, _, rfl, rfl, by show 1 ≤ sizeLine; decide, fun p hp => ?_⟩⟩
  have e : (((ps.map V.ref ++ [V.ref x]).length : Nat) : Int) - 1 = (M.rolls.length : Nat) := by
    rw [List.length_append, List.length_map, hlen]
    show ((M.rolls.length + 1 : Nat) : Int) - 1 = _
    omega
  show Q (.ref p) (upd (upd H2 L (.lst (ps.map V.ref ++ [.ref x]))) p (.lst [V.int ((((ps.map V.ref ++ [V.ref x]).length : Nat) : Int) - 1)]))
  rw [e]
  have xps : x ∉ ps := fun z => by
    obtain ⟨i, hi⟩ := List.getElem?_of_mem z
    obtain ⟨r, _, d', wl', h1', _⟩ := paired_get MI.rls.rls hi
    rw [nx] at h1'
    cases h1'
  have s3 := same_upd (o := .lst [V.int (M.rolls.length : Nat)]) hp
  have M3 : MillIs a (upd H2 L (.lst (ps.map V.ref ++ [.ref x]))) m dx L (ps ++ [x]) { M with rolls := M.rolls ++ [⟨0, rc, ws⟩] } :=
    ⟨m3, ⟨by rw [upd_same, List.map_append]; rfl, paired_snoc (paired_mono M2.rls.rls fun _ _ z => z.upd_refs M2.rls.lst) (RA.upd_refs M2.rls.lst), by show (M.rolls ++ [_]).length ≤ 3; rw [List.length_append]; show M.rolls.length + 1 ≤ 3; omega⟩,
      List.nodup_append.mpr ⟨MI.nd, .cons (fun _ h => nomatch h) .nil, fun b hb c hc e => xps (by rw [List.mem_singleton.mp hc] at e; rw [← e]; exact hb)⟩⟩
  refine q _ p (ps ++ [x]) (Keep.upd (Keep.upd (Keep.of s2 _) (.inl (by simp))) (.inr (s2.free (free_upd hp)))) (fun b hb => ?_) (fun T0 hT hA => ?_) (M3.same s3) (s2.free (free_upd hp)) upd_same
  · rcases List.mem_append.mp hb with z | z
    · exact .inl z
    · rw [List.mem_singleton.mp z]
      exact .inr nx
  · refine Apart.upd (Apart.upd ?_ (fun d r wl e => nomatch e)) (fun d r wl e => nomatch e)
    intro p' hp' d' r' wl' e'
    rcases List.mem_append.mp hp' with z | z
    · exact MI.apart s2 hA p' z d' r' wl' e'
    · rw [List.mem_singleton.mp z] at e'
      obtain ⟨d0, ex⟩ := ex
      rw [ex] at e'
      injection e' with e'
      injection e' with _ _ e'
      rw [← rollF_inj e']
      intro z
      rw [← z] at hT
      exact hT (two_none nl)
theorem ln_add_roll : ∀ vs H Q E, sp_add_roll K a vs H Q E → vs.length = p_add_roll.length := fun _ _ _ _ ⟨_, _, _, _, _, _, _, _, e, _⟩ => by rw [e]; rfl

def sp_remove_roll (a : Ad) : Sp := fun vs H Q E => ∃ (m dx L : Addr) (ps : List Addr) (M : Mill) (i : Nat), vs = [.ref m, .int i] ∧ MillIs a H m dx L ps M ∧ Res a H m dx L ps Q E (RgN.oRemove M i)
theorem pu_remove_roll (T : Txt K mg a) (h : sp_remove_roll a vs H Q E) : rd_remove_roll P w K a E (sp_roll_at a) { nx := fun _ H' => Q .non H', rt := Q } (start n_remove_roll vs) H := by
  obtain ⟨m, dx, L, ps, M, i, rfl, MI, q⟩ := h
  unfold RgN.oRemove at q
  have hlen := MI.rls.len
  have h3 := MI.rls.few
  refine ⟨_, rfl, _, rfl, m, dx, L, ps, M, i, rfl, MI, fun p r hp hr R => ?_, fun hn => ?_⟩
  rotate_left
  · rw [if_neg hn] at q
    exact q H (Same.refl H)
  have hi : i < M.rolls.length := (List.getElem?_eq_some_iff.mp hr).1
  rw [if_pos hi] at q
  have hx : ixN (ps.map V.ref).length (i : Int) = some i := by
    unfold ixN
    rw [List.length_map, if_pos (by omega), if_pos (by omega)]
    rfl
  refine ⟨_, rfl, fR T MI.obj ⟨.inl ⟨rfl, _, SqL.of MI.rls.lst⟩, _, rfl, L, _, (i : Int), i, .ref p, rfl, rfl, MI.rls.lst, by omega, by omega, (ixN_seq hx).1, by rw [List.getElem?_map, hp]; rfl, ?_⟩⟩
  have m1 : upd H L (.lst ((ps.map V.ref).eraseIdx i)) m = some (.ins a.Mill dx (millF L M.visitCost M.spent M.weeks)) := by
    rw [upd_ne MI.m_ne_L]
    exact MI.obj
  refine ⟨_, rfl, fR T m1 ⟨L, _, rfl, .inl (SqL.of upd_same), by show 1 ≤ sizeLine; decide, fun p2 hp2 => ?_⟩⟩
  have e : (((ps.map V.ref).eraseIdx i).length : Int) = (M.rolls.length - 1 : Nat) := by
    rw [List.length_eraseIdx, List.length_map, hlen, if_pos hi]
  rw [e]
  have M1 : MillIs a (upd H L (.lst ((ps.map V.ref).eraseIdx i))) m dx L (ps.eraseIdx i) { M with rolls := M.rolls.eraseIdx i } :=
    ⟨m1, ⟨by rw [upd_same, map_erase], paired_erase (paired_mono MI.rls.rls fun _ _ z => z.upd_refs MI.rls.lst) i, by show (M.rolls.eraseIdx i).length ≤ 3; rw [List.length_eraseIdx]; split <;> omega⟩,
      MI.nd.sublist (List.eraseIdx_sublist _ _)⟩
  have sub : ∀ b ∈ ps.eraseIdx i, b ∈ ps := fun b hb => (List.eraseIdx_sublist _ _).subset hb
  exact q _ p2 (ps.eraseIdx i) (Keep.upd (Keep.upd (Keep.refl _ _) (.inl (by simp))) (.inr (free_upd hp2))) (fun b hb => .inl (sub b hb))
    (fun T0 hT hA => Apart.upd (Apart.upd (fun p' hp' => hA p' (sub p' hp')) (fun d r wl e => nomatch e)) (fun d r wl e => nomatch e)) (M1.same (same_upd hp2)) (free_upd hp2) upd_same
theorem ln_remove_roll : ∀ vs H Q E, sp_remove_roll a vs H Q E → vs.length = p_remove_roll.length := fun _ _ _ _ ⟨_, _, _, _, _, _, e, _⟩ => by rw [e]; rfl

def sp_set_age (a : Ad) : Sp := fun vs H Q E => ∃ (m dx L : Addr) (ps : List Addr) (M : Mill) (i g : Nat), vs = [.ref m, .int i, .int g] ∧ MillIs a H m dx L ps M ∧ Res a H m dx L ps Q E (RgN.oSetAge M i g)
theorem pu_set_age (T : Txt K mg a) (h : sp_set_age a vs H Q E) : rd_set_age P w K a E (sp_roll_at a) (sp_check_limits a) { nx := fun _ H' => Q .non H', rt := Q } (start n_set_age vs) H := by
  obtain ⟨m, dx, L, ps, M, i, g, rfl, MI, q⟩ := h
  unfold RgN.oSetAge at q
  have hlen := MI.rls.len
  have h3 := MI.rls.few
  refine ⟨_, rfl, _, rfl, m, dx, L, ps, M, i, rfl, MI, fun p r hp hr R => ?_, fun hn => ?_⟩
  rotate_left
  · rw [if_neg hn] at q
    exact q H (Same.refl H)
  have hi : i < M.rolls.length := (List.getElem?_eq_some_iff.mp hr).1
  rw [if_pos hi, RgN.rollAt_eq hr] at q
  refine ⟨_, rfl, _, _, _, rfl, fun _ hg => ?_, fun hg => ?_⟩
  rotate_left
  · rw [if_neg (by omega)] at q
    exact q H (Same.refl H)
  rw [if_pos (by omega)] at q
  obtain ⟨d, wl, hd, RA⟩ := R.age g
  refine ⟨_, rfl, p, a.Roll, d, _, _, rfl, hd, T.cRoll, T.nR_age, rF_age _ _, _, rfl, _, rfl, p, a.Roll, d, _, rfl, hd, T.cRoll, T.nR_age, by show 3 < 1000; decide, _, rfl, by show 1 ≤ sizeLine; decide, fun p2 hp2 => ?_⟩
  have hpm : p ≠ m := MI.p_ne_m hp
  have hpL : p ≠ L := MI.p_ne_L hp
  have M1 : MillIs a (upd H p (.ins a.Roll d (rollF { r with age := g } wl))) m dx L ps { M with rolls := M.rolls.set i { r with age := g } } := by
    refine ⟨by rw [upd_ne hpm.symm]; exact MI.obj, ⟨by rw [upd_ne hpL.symm]; exact MI.rls.lst, paired_of (by rw [List.length_set]; exact hlen) fun j p' r' hp' hr' => ?_, by show (M.rolls.set i _).length ≤ 3; rw [List.length_set]; exact h3⟩, MI.nd⟩
    by_cases hj : i = j
    · subst hj
      rw [hp] at hp'
      cases hp'
      have hr' : (M.rolls.set i { r with age := g })[i]? = some r' := hr'
      rw [List.getElem?_set_self hi] at hr'
      cases hr'
      exact RA
    · have hr' : (M.rolls.set i { r with age := g })[j]? = some r' := hr'
      rw [List.getElem?_set_ne hj] at hr'
      obtain ⟨r2, hr2, z⟩ := paired_get MI.rls.rls hp'
      rw [hr'] at hr2
      cases hr2
      exact z.upd_ins hd (nd_ne MI.nd hp' hp fun z => hj z.symm)
  have hpp := List.mem_of_getElem? hp
  refine q _ p2 ps (Keep.upd (Keep.upd (Keep.refl _ _) (.inl (by simp [hpp]))) (.inr (free_upd hp2))) (fun b hb => .inl hb) (fun T0 hT hA => Apart.upd (Apart.upd hA ?_) (fun d r wl e => nomatch e)) (M1.same (same_upd hp2)) (free_upd hp2) upd_same
  intro d' r' wl' e
  have e : HO.ins a.Roll d (rollF { r with age := g } wl) = HO.ins a.Roll d' (rollF r' wl') := e
  injection e with _ _ e
  rw [← rollF_inj e]
  exact hA p hpp d r wl hd
theorem ln_set_age : ∀ vs H Q E, sp_set_age a vs H Q E → vs.length = p_set_age.length := fun _ _ _ _ ⟨_, _, _, _, _, _, _, e, _⟩ => by rw [e]; rfl

def sp_set_visit_cost (a : Ad) : Sp := fun vs H Q E => ∃ (m dx L : Addr) (ps : List Addr) (M : Mill) (v : Nat), vs = [.ref m, .int v] ∧ MillIs a H m dx L ps M ∧ Res a H m dx L ps Q E (RgN.oSetVisit M v)
theorem pu_set_visit_cost (T : Txt K mg a) (h : sp_set_visit_cost a vs H Q E) : rd_set_visit_cost P w K a E (sp_check_limits a) { nx := fun _ H' => Q .non H', rt := Q } (start n_set_visit_cost vs) H := by
  obtain ⟨m, dx, L, ps, M, v, rfl, MI, q⟩ := h
  unfold RgN.oSetVisit at q
  refine ⟨_, rfl, _, _, _, rfl, fun _ hg => ?_, fun hg => ?_⟩
  rotate_left
  · rw [if_neg (by omega)] at q
    exact q H (Same.refl H)
  rw [if_pos (by omega)] at q
  refine ⟨_, rfl, fV T MI.obj ⟨_, rfl, _, rfl, m, a.Mill, dx, _, rfl, MI.obj, T.cMill, T.nM_visit_cost, by show 4 < 1000; decide, _, rfl, by show 1 ≤ sizeLine; decide, fun p2 hp2 => ?_⟩⟩
  have hm : upd H m (.ins a.Mill dx (putF "visit_cost" (.int v) (millF L M.visitCost M.spent M.weeks))) = upd H m (.ins a.Mill dx (millF L v M.spent M.weeks)) := by rw [mF_put_visit]
  have M1 := MI.set v M.spent M.weeks
  rw [hm] at hp2
  have r := q (upd (upd H m (.ins a.Mill dx (millF L v M.spent M.weeks))) p2 (.lst [.int M.visitCost])) p2 ps (Keep.upd (Keep.upd (Keep.refl _ _) (.inl (by simp))) (.inr (free_upd hp2))) (fun b hb => .inl hb)
    (fun T0 hT hA => Apart.upd (Apart.upd hA (fun d r wl e => absurd e mill_roll)) (fun d r wl e => nomatch e)) (M1.same (same_upd hp2)) (free_upd hp2) upd_same
  rw [← hm] at r
  exact r
theorem ln_set_visit_cost : ∀ vs H Q E, sp_set_visit_cost a vs H Q E → vs.length = p_set_visit_cost.length := fun _ _ _ _ ⟨_, _, _, _, _, _, e, _⟩ => by rw [e]; rfl
end
end Rg

/-! the operations that read a mill, and the weeks that are run -/
namespace Rg
open PySem PySem.Spec PyProof.Rows L2 RgC
open Kp410 (Roll Mill)
section
variable {P : Program} {w : World} {K : PySem.W.Frag} {mg : Str → Option Value} {a : Ad} {vs : List V} {H : Hp} {Q : VK} {E : XK}

/-- a promise of an operation on a mill and numbers -/
def SpM (a : Ad) (o : Mill → List Nat → RgN.Out) : Sp := fun vs H Q E => ∃ (m dx L : Addr) (ps : List Addr) (M : Mill) (ns : List Nat), vs = .ref m :: nI ns ∧ MillIs a H m dx L ps M ∧ Res a H m dx L ps Q E (o M ns)

def sp_get_roll (a : Ad) : Sp := fun vs H Q E => ∃ (m dx L : Addr) (ps : List Addr) (M : Mill) (i : Nat), vs = [.ref m, .int i] ∧ MillIs a H m dx L ps M ∧ Res a H m dx L ps Q E (RgN.oGet M i)
theorem pu_get_roll (T : Txt K mg a) (h : sp_get_roll a vs H Q E) : rd_get_roll P w K a E (sp_roll_at a) { nx := fun _ H' => Q .non H', rt := Q } (start n_get_roll vs) H := by
  obtain ⟨m, dx, L, ps, M, i, rfl, MI, q⟩ := h
  unfold RgN.oGet at q
  refine ⟨_, rfl, _, rfl, m, dx, L, ps, M, i, rfl, MI, fun p r hp hr R => ?_, fun hn => ?_⟩
  rotate_left
  · rw [if_neg hn] at q
    exact q H (Same.refl H)
  have hi : i < M.rolls.length := (List.getElem?_eq_some_iff.mp hr).1
  rw [if_pos hi, RgN.rollAt_eq hr] at q
  obtain ⟨d, wl, h1, h2, l1, l8⟩ := R
  refine ⟨_, rfl, p, a.Roll, d, _, _, rfl, h1, T.cRoll, T.nR_age, rF_age _ _, _, rfl, p, a.Roll, d, _, _, rfl, h1, T.cRoll, T.nR_regrind_cost, rF_reg _ _, by show 2 ≤ sizeLine; decide, fun l hl => ?_⟩
  have s1 := same_upd (o := .lst [V.int (r.age : Nat), V.int (r.regrindCost : Nat)]) hl
  refine ⟨_, rfl, p, a.Roll, d, _, _, rfl, s1 _ _ h1, T.cRoll, T.nR_weekly_costs, rF_wl _ _, l, wl, _, _, rfl, rfl, upd_same, s1 _ _ h2, ?_, fun p2 hp2 => ?_⟩
  · rw [nI_length]
    exact small (m := 10) (by show 2 + _ ≤ 10; omega)
  · exact q.ro MI s1 hp2
theorem ln_get_roll : ∀ vs H Q E, sp_get_roll a vs H Q E → vs.length = p_get_roll.length := fun _ _ _ _ ⟨_, _, _, _, _, _, e, _⟩ => by rw [e]; rfl

def sp_mean_weekly_cost (a : Ad) : Sp := fun vs H Q E => ∃ (m dx L : Addr) (ps : List Addr) (M : Mill) (i k : Nat), vs = [.ref m, .int i, .int k] ∧ MillIs a H m dx L ps M ∧ Res a H m dx L ps Q E (RgN.oMean M i k)
theorem pu_mean_weekly_cost (T : Txt K mg a) (h : sp_mean_weekly_cost a vs H Q E) : rd_mean_weekly_cost P w K a E (sp_roll_at a) (sp_check_limits a) (sp_mean_cost a) { nx := fun _ H' => Q .non H', rt := Q } (start n_mean_weekly_cost vs) H := by
  obtain ⟨m, dx, L, ps, M, i, k, rfl, MI, q⟩ := h
  unfold RgN.oMean at q
  refine ⟨_, rfl, _, rfl, m, dx, L, ps, M, i, rfl, MI, fun p r hp hr R => ?_, fun hn => ?_⟩
  rotate_left
  · rw [if_neg hn] at q
    exact q H (Same.refl H)
  have hi : i < M.rolls.length := (List.getElem?_eq_some_iff.mp hr).1
  rw [if_pos hi, RgN.rollAt_eq hr] at q
  refine ⟨_, rfl, _, _, _, rfl, fun hg1 hg2 => ?_, fun hg => ?_⟩
  rotate_left
  · rw [if_neg (by omega)] at q
    exact q H (Same.refl H)
  rw [if_pos (by omega)] at q
  refine ⟨by show 1 ≤ sizeLine; decide, fun l hl => ?_⟩
  have s1 := same_upd (o := .lst [V.int 0]) hl
  refine ⟨_, rfl, _, rfl, fV T (s1 _ _ MI.obj) ⟨_, rfl, p, r, M.visitCost, k, rfl, R.same s1, by omega, by omega, fun H2 q2 s2 n2 e2 => ⟨l, q2, _, _, rfl, rfl, s2 _ _ upd_same, e2, ?_, fun p2 hp2 => ?_⟩⟩⟩
  · show 1 + 2 ≤ sizeLine
    decide
  · exact q.ro MI (s1.trans s2) hp2
theorem ln_mean_weekly_cost : ∀ vs H Q E, sp_mean_weekly_cost a vs H Q E → vs.length = p_mean_weekly_cost.length := fun _ _ _ _ ⟨_, _, _, _, _, _, _, e, _⟩ => by rw [e]; rfl

def sp_best_period (a : Ad) : Sp := fun vs H Q E => ∃ (m dx L : Addr) (ps : List Addr) (M : Mill) (i : Nat), vs = [.ref m, .int i] ∧ MillIs a H m dx L ps M ∧ Res a H m dx L ps Q E (RgN.oBest M i)
theorem pu_best_period (T : Txt K mg a) (h : sp_best_period a vs H Q E) : rd_best_period P w K a E (sp_roll_at a) (sp_cheapest_period a) (sp_mean_cost a) { nx := fun _ H' => Q .non H', rt := Q } (start n_best_period vs) H := by
  obtain ⟨m, dx, L, ps, M, i, rfl, MI, q⟩ := h
  unfold RgN.oBest at q
  refine ⟨_, rfl, _, rfl, m, dx, L, ps, M, i, rfl, MI, fun p r hp hr R => ?_, fun hn => ?_⟩
  rotate_left
  · rw [if_neg hn] at q
    exact q H (Same.refl H)
  have hi : i < M.rolls.length := (List.getElem?_eq_some_iff.mp hr).1
  rw [if_pos hi, RgN.rollAt_eq hr] at q
  have hb := RgM.pb_range r M.visitCost 23
  rw [← RgM.bestPeriod_eq] at hb
  refine ⟨_, rfl, _, rfl, m, a.Mill, dx, _, _, rfl, MI.obj, T.cMill, T.nM_visit_cost, mF_visit _ _ _ _, p, r, M.visitCost, rfl, R, fun H1 s1 => ?_⟩
  refine ⟨_, rfl, by show 1 ≤ sizeLine; decide, fun l hl => ?_⟩
  have s2 : Same H (upd H1 l (.lst [V.int (Kp410.bestPeriod r M.visitCost : Nat)])) := Same.upd s1 (s1.free hl)
  refine ⟨_, rfl, _, rfl, fV T (s2 _ _ MI.obj) ⟨_, rfl, p, r, M.visitCost, _, rfl, R.same s2, by omega, by omega, fun H2 q2 s3 n2 e2 => ⟨l, q2, _, _, rfl, rfl, s3 _ _ upd_same, e2, ?_, fun p2 hp2 => ?_⟩⟩⟩
  · show 1 + 2 ≤ sizeLine
    decide
  · exact q.ro MI (s2.trans s3) hp2
theorem ln_best_period : ∀ vs H Q E, sp_best_period a vs H Q E → vs.length = p_best_period.length := fun _ _ _ _ ⟨_, _, _, _, _, _, e, _⟩ => by rw [e]; rfl

theorem plan_a0 {x : Nat} {q : Addr} : atI [V.int (x : Nat), V.ref q] 0 = some (V.int (x : Nat)) := atI_nat (j := 0) rfl
theorem plan_a1 {x : Nat} {q : Addr} : atI [V.int (x : Nat), V.ref q] 1 = some (V.ref q) := atI_nat (j := 1) rfl
def sp_cheapest_plan (a : Ad) : Sp := fun vs H Q E => ∃ (m dx L : Addr) (ps : List Addr) (M : Mill) (n : Nat), vs = [.ref m, .int n] ∧ MillIs a H m dx L ps M ∧ Res a H m dx L ps Q E (RgN.oPlan M n)
theorem pu_cheapest_plan (T : Txt K mg a) (h : sp_cheapest_plan a vs H Q E) : rd_cheapest_plan P w K a E (sp_cheapest a) { nx := fun _ H' => Q .non H', rt := Q } (start n_cheapest_plan vs) H := by
  obtain ⟨m, dx, L, ps, M, n, rfl, MI, q⟩ := h
  unfold RgN.oPlan at q
  refine ⟨_, rfl, fR T MI.obj ⟨_, rfl, fV T MI.obj ⟨_, rfl, L, ps, M.rolls, M.visitCost, n, rfl, MI.rls, fun hn H1 val s1 A => ?_, fun hn => ?_⟩⟩⟩
  rotate_left
  · rw [if_neg (by omega)] at q
    exact q H (Same.refl H)
  rw [if_pos hn] at q
  obtain ⟨t, qa, rfl, e1, e2⟩ := A
  refine ⟨_, rfl, t, _, _, _, rfl, rfl, SqT.of e1, plan_a0, by show 1 ≤ sizeLine; decide, fun l hl => ?_⟩
  have s2 := same_upd (o := .lst [V.int ((Kp410.cheapestPlan M.visitCost n M.rolls).1 : Nat)]) hl
  refine ⟨_, rfl, t, _, _, _, rfl, rfl, SqT.of (s2 _ _ e1), plan_a1, qa, _, rfl, .inr (SqT.of (s2 _ _ e2)), fun l2 hl2 => ?_⟩
  have s3 := same_upd (o := .lst (nI (Kp410.cheapestPlan M.visitCost n M.rolls).2)) hl2
  refine ⟨l, l2, _, _, rfl, rfl, s3 _ _ upd_same, upd_same, ?_, fun p2 hp2 => ?_⟩
  · rw [nI_length, RgM.plan_length]
    exact small (m := 6) (by show 1 + n ≤ 6; omega)
  · exact q.ro MI (s1.trans (s2.trans s3)) hp2
theorem ln_cheapest_plan : ∀ vs H Q E, sp_cheapest_plan a vs H Q E → vs.length = p_cheapest_plan.length := fun _ _ _ _ ⟨_, _, _, _, _, _, e, _⟩ => by rw [e]; rfl

def sp_lowest_cost (a : Ad) : Sp := fun vs H Q E => ∃ (m dx L : Addr) (ps : List Addr) (M : Mill) (n : Nat), vs = [.ref m, .int n] ∧ MillIs a H m dx L ps M ∧ Res a H m dx L ps Q E (RgN.oLowest M n)
theorem pu_lowest_cost (T : Txt K mg a) (h : sp_lowest_cost a vs H Q E) : rd_lowest_cost P w K a E (sp_cheapest a) { nx := fun _ H' => Q .non H', rt := Q } (start n_lowest_cost vs) H := by
  obtain ⟨m, dx, L, ps, M, n, rfl, MI, q⟩ := h
  unfold RgN.oLowest at q
  refine ⟨_, rfl, fR T MI.obj ⟨_, rfl, fV T MI.obj ⟨_, rfl, L, ps, M.rolls, M.visitCost, n, rfl, MI.rls, fun hn H1 val s1 A => ?_, fun hn => ?_⟩⟩⟩
  rotate_left
  · rw [if_neg (by omega)] at q
    exact q H (Same.refl H)
  rw [if_pos hn] at q
  obtain ⟨t, qa, rfl, e1, e2⟩ := A
  exact ⟨t, _, _, _, rfl, rfl, SqT.of e1, plan_a0, by show 1 ≤ sizeLine; decide, fun l hl => q.ro MI s1 hl⟩
theorem ln_lowest_cost : ∀ vs H Q E, sp_lowest_cost a vs H Q E → vs.length = p_lowest_cost.length := fun _ _ _ _ ⟨_, _, _, _, _, _, e, _⟩ => by rw [e]; rfl

def sp_plan_cost (K : PySem.W.Frag) (a : Ad) : Sp := fun vs H Q E => ∃ (m dx L : Addr) (ps : List Addr) (M : Mill) (pl : Addr) (p : List Nat), vs = [.ref m, .ref pl] ∧ MillIs a H m dx L ps M ∧ SqL K H pl (nI p) ∧ Res a H m dx L ps Q E (RgN.oPlanCost M p)
theorem pu_plan_cost (T : Txt K mg a) (h : sp_plan_cost K a vs H Q E) : rd_plan_cost P w K a E (sp_check_limits a) (sp_check_set a) (sp_cost_of_plan K a) { nx := fun _ H' => Q .non H', rt := Q } (start n_plan_cost vs) H := by
  obtain ⟨m, dx, L, ps, M, pl, p, rfl, MI, S, q⟩ := h
  unfold RgN.oPlanCost at q
  refine ⟨_, rfl, pl, _, rfl, .inl S, _, _, _, rfl, fun h2 h3 => ?_, fun h2 => ?_⟩
  rotate_left
  · rw [nI_length] at h2
    rw [if_neg (by omega)] at q
    exact q H (Same.refl H)
  rw [nI_length] at h2 h3
  rw [if_pos (by omega)] at q
  refine ⟨_, rfl, pl, rfl, ⟨_, S⟩, for_list (K := K) (a := pl) (xs := nI p) (fun i σ' H' => ∃ x2, σ' = [some (.ref m), some (.ref pl), x2] ∧ H' = H ∧ ∀ x ∈ p.take i, x < 2 ^ M.rolls.length)
    ⟨none, rfl, rfl, by simp⟩ (fun i σ' H' _ ⟨_, _, e, _⟩ => by rw [e]; exact S) ?_ ?_⟩
  · rintro i x σ' H' hi ⟨x2, rfl, rfl, hh⟩
    obtain ⟨n, hn, rfl⟩ := map_get hi
    refine ⟨_, rfl, _, rfl, m, dx, L, ps, M, n, rfl, MI, fun hb => ?_, fun hb => ?_⟩
    · refine ⟨some (.int n), rfl, rfl, fun x hx => ?_⟩
      rw [take_snoc hn] at hx
      rcases List.mem_append.mp hx with hx | hx
      · exact hh x hx
      · rw [List.mem_singleton.mp hx]
        exact hb
    · rw [if_neg fun z => hb (z n (List.mem_of_getElem? hn))] at q
      exact q _ (Same.refl _)
  rintro σ' H' ⟨x2, rfl, rfl, hh⟩
  rw [nI_length, List.take_of_length_le (Nat.le_refl _)] at hh
  rw [if_pos hh] at q
  exact ⟨_, rfl, fR T MI.obj ⟨_, rfl, fV T MI.obj ⟨_, rfl, L, ps, M.rolls, M.visitCost, pl, p, rfl, MI.rls, S, fun H1 s1 => ⟨by show 1 ≤ sizeLine; decide, fun l hl => q.ro MI s1 hl⟩⟩⟩⟩
theorem ln_plan_cost : ∀ vs H Q E, sp_plan_cost K a vs H Q E → vs.length = p_plan_cost.length := fun _ _ _ _ ⟨_, _, _, _, _, _, _, e, _⟩ => by rw [e]; rfl

def sp_run_week (a : Ad) : Sp := fun vs H Q E => ∃ (m dx L : Addr) (ps : List Addr) (M : Mill) (c : Nat), vs = [.ref m, .int c] ∧ MillIs a H m dx L ps M ∧ Res a H m dx L ps Q E (RgN.oRun M c)
theorem pu_run_week (h : sp_run_week a vs H Q E) : rd_run_week P w K a E (sp_check_set a) (sp_execute_week a) { nx := fun _ H' => Q .non H', rt := Q } (start n_run_week vs) H := by
  obtain ⟨m, dx, L, ps, M, c, rfl, MI, q⟩ := h
  unfold RgN.oRun at q
  refine ⟨_, rfl, _, rfl, m, dx, L, ps, M, c, rfl, MI, fun hc => ?_, fun hc => ?_⟩
  rotate_left
  · rw [if_neg hc] at q
    exact q H (Same.refl H)
  rw [if_pos hc] at q
  refine ⟨_, rfl, _, rfl, m, dx, L, ps, M, c, rfl, MI, fun H1 k1 p1 M1 => ⟨by show 1 ≤ sizeLine; decide, fun l hl => ?_⟩⟩
  have n0 : H l = none := by
    cases e : H l with
    | none => rfl
    | some o =>
      by_cases hm : l ∈ m :: L :: ps
      · rcases List.mem_cons.mp hm with z | hm
        · rw [z, M1.obj] at hl; cases hl
        · rcases List.mem_cons.mp hm with z | hm
          · rw [z, M1.rls.lst] at hl; cases hl
          · obtain ⟨i, hi⟩ := List.getElem?_of_mem hm
            obtain ⟨r, _, d', wl', h1', _⟩ := paired_get M1.rls.rls hi
            rw [h1'] at hl; cases hl
      · rw [k1 l o e hm] at hl; cases hl
  exact q _ l ps (Keep.upd k1 (.inr n0)) (fun b hb => .inl hb) (fun T0 _ hA => Apart.upd (p1 T0 hA) (fun d r wl e => nomatch e)) (M1.same (same_upd hl)) n0 upd_same
theorem ln_run_week : ∀ vs H Q E, sp_run_week a vs H Q E → vs.length = p_run_week.length := fun _ _ _ _ ⟨_, _, _, _, _, _, e, _⟩ => by rw [e]; rfl
/-- what is free behind a change was free ahead of it -/
theorem keep_free {H H1 : Hp} {m dx L l : Addr} {ps : List Addr} {M : Mill} (k1 : Keep H H1 (m :: L :: ps)) (M1 : MillIs a H1 m dx L ps M) (hl : H1 l = none) : H l = none := by
  cases e : H l with
  | none => rfl
  | some o =>
    by_cases hm : l ∈ m :: L :: ps
    · rcases List.mem_cons.mp hm with z | hm
      · rw [z, M1.obj] at hl; cases hl
      · rcases List.mem_cons.mp hm with z | hm
        · rw [z, M1.rls.lst] at hl; cases hl
        · obtain ⟨i, hi⟩ := List.getElem?_of_mem hm
          obtain ⟨r, _, d', wl', h1', _⟩ := paired_get M1.rls.rls hi
          rw [h1'] at hl; cases hl
    · rw [k1 l o e hm] at hl; cases hl

def sp_run_planned_week (a : Ad) : Sp := fun vs H Q E => ∃ (m dx L : Addr) (ps : List Addr) (M : Mill) (n : Nat), vs = [.ref m, .int n] ∧ MillIs a H m dx L ps M ∧ Res a H m dx L ps Q E (RgN.oRunPlanned M n)
theorem pu_run_planned_week (T : Txt K mg a) (h : sp_run_planned_week a vs H Q E) : rd_run_planned_week P w K a E (sp_check_limits a) (sp_cheapest a) (sp_execute_week a) { nx := fun _ H' => Q .non H', rt := Q } (start n_run_planned_week vs) H := by
  obtain ⟨m, dx, L, ps, M, n, rfl, MI, q⟩ := h
  unfold RgN.oRunPlanned at q
  refine ⟨_, rfl, _, _, _, rfl, fun h1 h2 => ?_, fun h1 => ?_⟩
  rotate_left
  · rw [if_neg (by omega)] at q
    exact q H (Same.refl H)
  rw [if_pos (by omega)] at q
  refine ⟨_, rfl, fR T MI.obj ⟨_, rfl, fV T MI.obj ⟨_, rfl, L, ps, M.rolls, M.visitCost, n, rfl, MI.rls, fun hn H1 val s1 A => ?_, fun hn => by omega⟩⟩⟩
  obtain ⟨t, qa, rfl, e1, e2⟩ := A
  have hl := RgM.plan_length M.visitCost n M.rolls
  cases hp : (Kp410.cheapestPlan M.visitCost n M.rolls).2 with
  | nil =>
    rw [hp] at hl
    have : (0 : Nat) = n := hl
    omega
  | cons c cs =>
    rw [hp] at q e2
    have q : Res a H m dx L ps Q E (.ok (Kp410.withWeek M c) c [Kp410.costOfWeek M.rolls M.visitCost c]) := q
    have a0 : atI (nI (c :: cs)) 0 = some (V.int (c : Nat)) := atI_nat (j := 0) rfl
    refine ⟨t, _, _, _, rfl, rfl, SqT.of e1, plan_a1, _, rfl, qa, _, _, _, rfl, rfl, SqT.of e2, a0, _, rfl, _, rfl, qa, _, _, _, rfl, rfl, SqT.of e2, a0, m, dx, L, ps, M, c, rfl, MI.same s1, fun H2 k2 p2 M2 => ⟨by show 2 ≤ sizeLine; decide, fun l hl => ?_⟩⟩
    have k1 : Keep H H2 (m :: L :: ps) := (Keep.of s1 _).trans k2
    exact q _ l ps (Keep.upd k1 (.inr (keep_free k1 M2 hl))) (fun b hb => .inl hb) (fun T0 _ hA => Apart.upd (p2 T0 (MI.apart s1 hA)) (fun d r wl e => nomatch e)) (M2.same (same_upd hl)) (keep_free k1 M2 hl) upd_same
theorem ln_run_planned_week : ∀ vs H Q E, sp_run_planned_week a vs H Q E → vs.length = p_run_planned_week.length := fun _ _ _ _ ⟨_, _, _, _, _, _, e, _⟩ => by rw [e]; rfl
end
end Rg

/-! the operations on weeks, further; rising costs; the status -/
namespace Rg
open PySem PySem.Spec PyProof.Rows L2 RgC
open Kp410 (Roll Mill)
section
variable {P : Program} {w : World} {K : PySem.W.Frag} {mg : Str → Option Value} {a : Ad} {vs : List V} {H : Hp} {Q : VK} {E : XK}

theorem rep_flat : ∀ n : Nat, (List.replicate n [V.int 0]).flatten = nI (List.replicate n 0)
  | 0 => rfl
  | n + 1 => by
    rw [List.replicate_succ, List.replicate_succ, List.flatten_cons, rep_flat n]
    rfl
def sp_cost_without_regrinding (a : Ad) : Sp := fun vs H Q E => ∃ (m dx L : Addr) (ps : List Addr) (M : Mill) (n : Nat), vs = [.ref m, .int n] ∧ MillIs a H m dx L ps M ∧ Res a H m dx L ps Q E (RgN.oWithout M n)
theorem pu_cost_without_regrinding (T : Txt K mg a) (h : sp_cost_without_regrinding a vs H Q E) : rd_cost_without_regrinding P w K a E (sp_check_limits a) (sp_cost_of_plan K a) { nx := fun _ H' => Q .non H', rt := Q } (start n_cost_without_regrinding vs) H := by
  obtain ⟨m, dx, L, ps, M, n, rfl, MI, q⟩ := h
  unfold RgN.oWithout at q
  refine ⟨_, rfl, _, _, _, rfl, fun h1 h2 => ?_, fun h1 => ?_⟩
  rotate_left
  · rw [if_neg (by omega)] at q
    exact q H (Same.refl H)
  have hn : n ≤ 5 := by omega
  rw [if_pos hn] at q
  refine ⟨_, rfl, fR T MI.obj ⟨_, rfl, fV T MI.obj ⟨by show 1 ≤ sizeLine; decide, fun l hl => ⟨_, rfl, ?_⟩⟩⟩⟩
  have s1 := same_upd (o := .lst [V.int 0]) hl
  refine ⟨l, (n : Int), _, rfl, rfl, upd_same, by omega, by omega, ?_, fun l2 hl2 => ?_⟩
  · rw [Int.toNat_natCast]
    exact small (m := 5) (by show 1 * n ≤ 5; omega)
  rw [Int.toNat_natCast]
  have e := rep_flat n
  have s2 : Same H _ := s1.trans (same_upd (o := .lst (List.replicate n [V.int 0]).flatten) hl2)
  exact ⟨L, ps, M.rolls, M.visitCost, l2, List.replicate n 0, rfl, MI.rls.same s2, SqL.of (by rw [upd_same, e]), fun H2 s3 => ⟨by show 1 ≤ sizeLine; decide, fun l3 hl3 => q.ro MI (s2.trans s3) hl3⟩⟩
theorem ln_cost_without_regrinding : ∀ vs H Q E, sp_cost_without_regrinding a vs H Q E → vs.length = p_cost_without_regrinding.length := fun _ _ _ _ ⟨_, _, _, _, _, _, e, _⟩ => by rw [e]; rfl

def sp_cost_of_single_roll (a : Ad) : Sp := fun vs H Q E => ∃ (m dx L : Addr) (ps : List Addr) (M : Mill) (i n : Nat), vs = [.ref m, .int i, .int n] ∧ MillIs a H m dx L ps M ∧ Res a H m dx L ps Q E (RgN.oSingle M i n)
theorem pu_cost_of_single_roll (T : Txt K mg a) (h : sp_cost_of_single_roll a vs H Q E) : rd_cost_of_single_roll P w K a E (sp_roll_at a) (sp_cheapest a) { nx := fun _ H' => Q .non H', rt := Q } (start n_cost_of_single_roll vs) H := by
  obtain ⟨m, dx, L, ps, M, i, n, rfl, MI, q⟩ := h
  unfold RgN.oSingle at q
  refine ⟨_, rfl, _, rfl, m, dx, L, ps, M, i, rfl, MI, fun p r hp hr R => ?_, fun hn => ?_⟩
  rotate_left
  · rw [if_neg hn] at q
    exact q H (Same.refl H)
  have hi : i < M.rolls.length := (List.getElem?_eq_some_iff.mp hr).1
  rw [if_pos hi, RgN.rollAt_eq hr] at q
  refine ⟨_, rfl, by show 1 ≤ sizeLine; decide, fun l hl => ?_⟩
  have s1 := same_upd (o := .lst [V.ref p]) hl
  refine ⟨_, rfl, fV T (s1 _ _ MI.obj) ⟨_, rfl, l, [p], [r], M.visitCost, n, rfl, ⟨upd_same, .cons (R.same s1) .nil, by show 1 ≤ 3; decide⟩, fun hn H1 val s2 A => ?_, fun hn => ?_⟩⟩
  rotate_left
  · rw [if_neg (by omega)] at q
    exact q _ s1
  rw [if_pos hn] at q
  obtain ⟨t, qa, rfl, e1, e2⟩ := A
  exact ⟨t, _, _, _, rfl, rfl, SqT.of e1, plan_a0, by show 1 ≤ sizeLine; decide, fun l2 hl2 => q.ro MI (s1.trans s2) hl2⟩
theorem ln_cost_of_single_roll : ∀ vs H Q E, sp_cost_of_single_roll a vs H Q E → vs.length = p_cost_of_single_roll.length := fun _ _ _ _ ⟨_, _, _, _, _, _, _, e, _⟩ => by rw [e]; rfl

def sp_lowest_cost_for_visit (a : Ad) : Sp := fun vs H Q E => ∃ (m dx L : Addr) (ps : List Addr) (M : Mill) (v n : Nat), vs = [.ref m, .int v, .int n] ∧ MillIs a H m dx L ps M ∧ Res a H m dx L ps Q E (RgN.oVisit M v n)
theorem pu_lowest_cost_for_visit (T : Txt K mg a) (h : sp_lowest_cost_for_visit a vs H Q E) : rd_lowest_cost_for_visit P w K a E (sp_check_limits a) (sp_cheapest a) { nx := fun _ H' => Q .non H', rt := Q } (start n_lowest_cost_for_visit vs) H := by
  obtain ⟨m, dx, L, ps, M, v, n, rfl, MI, q⟩ := h
  unfold RgN.oVisit at q
  refine ⟨_, rfl, _, _, _, rfl, fun h1 h2 => ?_, fun h1 => ?_⟩
  rotate_left
  · rw [if_neg (by omega)] at q
    exact q H (Same.refl H)
  rw [if_pos (by omega)] at q
  refine ⟨_, rfl, fR T MI.obj ⟨_, rfl, _, rfl, L, ps, M.rolls, v, n, rfl, MI.rls, fun hn H1 val s1 A => ?_, fun hn => ?_⟩⟩
  rotate_left
  · rw [if_neg (by omega)] at q
    exact q H (Same.refl H)
  rw [if_pos hn] at q
  obtain ⟨t, qa, rfl, e1, e2⟩ := A
  exact ⟨t, _, _, _, rfl, rfl, SqT.of e1, plan_a0, by show 1 ≤ sizeLine; decide, fun l hl => q.ro MI s1 hl⟩
theorem ln_lowest_cost_for_visit : ∀ vs H Q E, sp_lowest_cost_for_visit a vs H Q E → vs.length = p_lowest_cost_for_visit.length := fun _ _ _ _ ⟨_, _, _, _, _, _, _, e, _⟩ => by rw [e]; rfl

def sp_joint_savings (a : Ad) : Sp := fun vs H Q E => ∃ (m dx L : Addr) (ps : List Addr) (M : Mill) (n : Nat), vs = [.ref m, .int n] ∧ MillIs a H m dx L ps M ∧ Res a H m dx L ps Q E (RgN.oJoint M n)
theorem pu_joint_savings (T : Txt K mg a) (h : sp_joint_savings a vs H Q E) : rd_joint_savings P w K a E (sp_cheapest a) (sp_cheapest_0 a) { nx := fun _ H' => Q .non H', rt := Q } (start n_joint_savings vs) H := by
  obtain ⟨m, dx, L, ps, M, n, rfl, MI, q⟩ := h
  unfold RgN.oJoint at q
  refine ⟨_, rfl, fR T MI.obj ⟨_, rfl, fV T MI.obj ⟨_, rfl, L, ps, M.rolls, M.visitCost, n, rfl, MI.rls, fun hn H1 val s1 A => ?_, fun hn => ?_⟩⟩⟩
  rotate_left
  · rw [if_neg (by omega)] at q
    exact q H (Same.refl H)
  rw [if_pos hn] at q
  obtain ⟨t, qa, rfl, e1, e2⟩ := A
  have M1 := MI.same s1
  refine ⟨t, _, _, _, rfl, rfl, SqT.of e1, plan_a0, ?_⟩
  have hlen := MI.rls.len
  refine ⟨_, rfl, m, a.Mill, dx, _, _, rfl, M1.obj, T.cMill, T.nM_rolls, mF_rolls _ _ _ _, L, rfl, ⟨_, SqL.of M1.rls.lst⟩, fun D hD => lc_list (K := K) (a := L) (xs := ps.map V.ref) (fun i H' => Same H1 H' ∧ H' D = some (.lst (nI ((M.rolls.map fun r => (Kp410.cheapestPlan M.visitCost n [r]).1).take i))))
    ⟨same_upd hD, by rw [upd_same]; rfl⟩ (fun i H' _ ⟨s, _⟩ => s.seq (SqL.of M1.rls.lst)) ?_ ?_⟩
  · intro i x H2 hi ⟨s2, d2⟩
    obtain ⟨p, hp, rfl⟩ := map_get hi
    obtain ⟨r, hr, R⟩ := paired_get M1.rls.rls hp
    have hy : (M.rolls.map fun r => (Kp410.cheapestPlan M.visitCost n [r]).1)[i]? = some (Kp410.cheapestPlan M.visitCost n [r]).1 := by rw [List.getElem?_map, hr]; rfl
    refine ⟨rfl, _, rfl, by show 1 ≤ sizeLine; decide, fun l hl => ?_⟩
    have s3 : Same H1 (upd H2 l (.lst [V.ref p])) := Same.upd s2 (s2.free hl)
    refine ⟨_, rfl, m, a.Mill, dx, _, _, rfl, s3 _ _ M1.obj, T.cMill, T.nM_visit_cost, mF_visit _ _ _ _, _, rfl, l, [p], [r], M.visitCost, n, rfl, ⟨upd_same, .cons (R.same s3) .nil, by show 1 ≤ 3; decide⟩, hn, fun H3 val3 s4 A3 => ?_⟩
    obtain ⟨t3, q3, rfl, f1, f2⟩ := A3
    refine ⟨t3, _, _, _, rfl, rfl, SqT.of f1, plan_a0, _, s4 _ _ (by rw [upd_ne (ne_of_none d2 hl)]; exact d2), ?_, Same.upd (s3.trans s4) hD, ?_⟩
    · rw [nI_length, List.length_take, List.length_map]
      exact smallL (m := 3) (by have := MI.rls.few; omega)
    · rw [upd_same, nI_snoc hy]
  · intro H2 ⟨s2, d2⟩
    rw [List.length_map, hlen, List.take_of_length_le (by rw [List.length_map]; exact Nat.le_refl _), nI_ints] at d2
    refine ⟨D, _, rfl, SqL.of d2, _, rfl, _, rfl, _, _, rfl, rfl, by show 1 ≤ sizeLine; decide, fun l hl => ?_⟩
    have hj := RgM.joint M.visitCost n M.rolls
    have e : ((M.rolls.map fun r => (Kp410.cheapestPlan M.visitCost n [r]).1).map fun (k : Nat) => (k : Int)).sum - ((Kp410.cheapestPlan M.visitCost n M.rolls).1 : Nat) = ((RgM.alone M.visitCost n M.rolls - (Kp410.cheapestPlan M.visitCost n M.rolls).1 : Nat) : Int) := by
      rw [sum_cast]
      show ((RgM.alone M.visitCost n M.rolls : Nat) : Int) - _ = _
      omega
    show Q (.ref l) (upd H2 l (.lst [V.int (((M.rolls.map fun r => (Kp410.cheapestPlan M.visitCost n [r]).1).map fun (k : Nat) => (k : Int)).sum - ((Kp410.cheapestPlan M.visitCost n M.rolls).1 : Nat))]))
    rw [e]
    exact q.ro MI (s1.trans s2) hl
theorem ln_joint_savings : ∀ vs H Q E, sp_joint_savings a vs H Q E → vs.length = p_joint_savings.length := fun _ _ _ _ ⟨_, _, _, _, _, _, e, _⟩ => by rw [e]; rfl

def sp_next_regrind (a : Ad) : Sp := fun vs H Q E => ∃ (m dx L : Addr) (ps : List Addr) (M : Mill) (i n : Nat), vs = [.ref m, .int i, .int n] ∧ MillIs a H m dx L ps M ∧ Res a H m dx L ps Q E (RgN.oNext M i n)
theorem pu_next_regrind (T : Txt K mg a) (h : sp_next_regrind a vs H Q E) : rd_next_regrind P w K a E (sp_roll_at a) (sp_cheapest a) sp_is_reground { nx := fun _ H' => Q .non H', rt := Q } (start n_next_regrind vs) H := by
  obtain ⟨m, dx, L, ps, M, i, n, rfl, MI, q⟩ := h
  unfold RgN.oNext at q
  refine ⟨_, rfl, _, rfl, m, dx, L, ps, M, i, rfl, MI, fun p r hp hr R => ?_, fun hn => ?_⟩
  rotate_left
  · rw [if_neg hn] at q
    exact q H (Same.refl H)
  have hi : i < M.rolls.length := (List.getElem?_eq_some_iff.mp hr).1
  rw [if_pos hi] at q
  refine ⟨_, rfl, fR T MI.obj ⟨_, rfl, fV T MI.obj ⟨_, rfl, L, ps, M.rolls, M.visitCost, n, rfl, MI.rls, fun hn H1 val s1 A => ?_, fun hn => ?_⟩⟩⟩
  rotate_left
  · rw [if_neg (by omega)] at q
    exact q H (Same.refl H)
  rw [if_pos hn] at q
  obtain ⟨t, qa, rfl, e1, e2⟩ := A
  generalize hpl : (Kp410.cheapestPlan M.visitCost n M.rolls).2 = pl at q e2
  refine ⟨t, _, _, _, rfl, rfl, SqT.of e1, plan_a1, _, rfl, qa, _, rfl, SqT.of e2, for_it walk_enumU (fun j σ' H' => ∃ x4 x5, σ' = [some (.ref m), some (.int i), some (.int n), some (.ref qa), x4, x5] ∧ Same H1 H' ∧ ∀ k, k < j → ∀ c, pl[k]? = some c → Kp410.contains c i = false)
    ⟨none, none, rfl, Same.refl _, fun k hk => by omega⟩ (fun j σ' H' _ ⟨_, _, _, s, _⟩ => SqT.of (s _ _ e2)) ?_ ?_⟩
  · rintro j x σ' H2 H3 hj ⟨x4, x5, rfl, s2, hh⟩ ⟨T', u, y, rfl, hT, rfl, eu, ey⟩
    cases eu
    obtain ⟨c, hc, rfl⟩ := map_get ey
    have sT : Same H1 (upd H2 T' (.tup [.int (j : Nat), .int (c : Nat)])) := Same.upd s2 (s2.free hT)
    refine ⟨T', _, rfl, SqT.of upd_same, rfl, _, _, rfl, _, _, rfl, rfl, _, rfl, _, rfl, i, c, rfl, _, rfl, ite2 (fun hb => ?_) (fun hb => ?_)⟩
    · have hf : pl.findIdx? (fun set => Kp410.contains set i) = some j := by
        rw [List.findIdx?_eq_some_iff_getElem]
        obtain ⟨hl, he⟩ := List.getElem?_eq_some_iff.mp hc
        refine ⟨hl, by rw [he]; exact hb, fun k hk => ?_⟩
        rw [hh k hk _ (List.getElem?_eq_getElem (by omega))]
        decide
      rw [hf] at q
      exact ⟨_, rfl, by show 1 ≤ sizeLine; decide, fun l hl => Res.ro (M := M) (x := j) (l := []) q MI (s1.trans sT) hl⟩
    · refine ⟨_, _, rfl, sT, fun k hk c' hc' => ?_⟩
      by_cases e : k = j
      · subst e
        rw [hc] at hc'
        cases hc'
        cases z : Kp410.contains c i with
        | false => rfl
        | true => exact absurd z hb
      · exact hh k (by omega) c' hc'
  · rintro σ' H2 ⟨x4, x5, rfl, s2, hh⟩
    have hf : pl.findIdx? (fun set => Kp410.contains set i) = none := by
      rw [List.findIdx?_eq_none_iff]
      intro c hc
      obtain ⟨k, hk⟩ := List.getElem?_of_mem hc
      refine hh k ?_ c hk
      rw [nI_length]
      exact (List.getElem?_eq_some_iff.mp hk).1
    rw [hf] at q
    exact q _ (s1.trans s2)
theorem ln_next_regrind : ∀ vs H Q E, sp_next_regrind a vs H Q E → vs.length = p_next_regrind.length := fun _ _ _ _ ⟨_, _, _, _, _, _, _, e, _⟩ => by rw [e]; rfl

def sp_has_rising_costs (a : Ad) : Sp := fun vs H Q E => ∃ (m dx L : Addr) (ps : List Addr) (M : Mill) (i : Nat), vs = [.ref m, .int i] ∧ MillIs a H m dx L ps M ∧ Res a H m dx L ps Q E (RgN.oRising M i)
theorem getD_of {l : List Nat} {i x : Nat} (h : l[i]? = some x) : l.getD i 0 = x := by
  rw [List.getD_eq_getElem?_getD, h]
  rfl
theorem pu_has_rising_costs (T : Txt K mg a) (h : sp_has_rising_costs a vs H Q E) : rd_has_rising_costs P w K a E (sp_roll_at a) { nx := fun _ H' => Q .non H', rt := Q } (start n_has_rising_costs vs) H := by
  obtain ⟨m, dx, L, ps, M, i, rfl, MI, q⟩ := h
  unfold RgN.oRising at q
  refine ⟨_, rfl, _, rfl, m, dx, L, ps, M, i, rfl, MI, fun p r hp hr R => ?_, fun hn => ?_⟩
  rotate_left
  · rw [if_neg hn] at q
    exact q H (Same.refl H)
  have hi : i < M.rolls.length := (List.getElem?_eq_some_iff.mp hr).1
  rw [if_pos hi, RgN.rollAt_eq hr] at q
  obtain ⟨d, wl, h1, h2, l1, l8⟩ := R
  generalize hws : r.weeklyCosts = ws at h2 l1 l8
  have hlen : (nI ws).length = ws.length := nI_length ws
  refine ⟨p, a.Roll, d, _, _, rfl, h1, T.cRoll, T.nR_weekly_costs, rF_wl _ _, _, rfl, wl, _, rfl, .inl (SqL.of h2), 1, _, rfl, ⟨by decide, by decide, by omega, by omega⟩, ?_⟩
  rw [show ((((nI ws).length : Nat) : Int) - 1).toNat = ws.length - 1 by omega]
  refine for_range (lo := 1) (n := ws.length - 1) (fun j σ' H' => ∃ x3, σ' = [some (.ref m), some (.int i), some (.ref wl), x3] ∧ H' = H ∧ ∀ k, k < j → ws.getD k 0 ≤ ws.getD (k + 1) 0) ⟨none, rfl, rfl, fun k hk => by omega⟩ ?_ ?_
  · rintro j σ' H' hj ⟨x3, rfl, rfl, hh⟩
    have e1 : (1 : Int) + (j : Int) = ((j + 1 : Nat) : Int) := by push_cast; omega
    have e0 : ((j + 1 : Nat) : Int) - 1 = (j : Int) := by omega
    have g1 : ws[j + 1]? = some (ws[j + 1]'(by omega)) := List.getElem?_eq_getElem _
    have g0 : ws[j]? = some (ws[j]'(by omega)) := List.getElem?_eq_getElem _
    have a1 : atI (nI ws) ((j + 1 : Nat) : Int) = some (V.int (ws[j + 1]'(by omega) : Nat)) := atI_nat (nI_get g1)
    have a0 : atI (nI ws) (((j + 1 : Nat) : Int) - 1) = some (V.int (ws[j]'(by omega) : Nat)) := by rw [e0]; exact atI_nat (nI_get g0)
    rw [e1]
    refine ⟨_, rfl, _, rfl, wl, _, _, _, rfl, rfl, SqL.of h2, a1, _, rfl, _, rfl, _, _, rfl, rfl, wl, _, _, _, rfl, rfl, SqL.of h2, a0, _, _, rfl, rfl, _, rfl, ite2 (fun hc => ?_) (fun hc => ?_)⟩
    · have hc := of_decide_eq_true hc
      have hr0 : Kp410.hasRisingCosts r = false := by
        cases z : Kp410.hasRisingCosts r with
        | false => rfl
        | true =>
          unfold Kp410.hasRisingCosts at z
          rw [hws, List.all_eq_true] at z
          have := of_decide_eq_true (z j (List.mem_range.mpr hj))
          rw [getD_of g0, getD_of g1] at this
          omega
      rw [hr0, if_neg (by decide)] at q
      exact ⟨by show 1 ≤ sizeLine; decide, fun l hl => q.ro MI (Same.refl _) hl⟩
    · have hc : ¬ ((ws[j + 1]'(by omega) : Nat) : Int) < ((ws[j]'(by omega) : Nat) : Int) := fun z => hc (decide_eq_true z)
      refine ⟨_, rfl, rfl, fun k hk => ?_⟩
      by_cases e : k = j
      · subst e
        rw [getD_of g0, getD_of g1]
        omega
      · exact hh k (by omega)
  · rintro σ' H' ⟨x3, rfl, rfl, hh⟩
    have hr1 : Kp410.hasRisingCosts r = true := by
      unfold Kp410.hasRisingCosts
      rw [hws, List.all_eq_true]
      exact fun k hk => decide_eq_true (hh k (List.mem_range.mp hk))
    rw [hr1, if_pos rfl] at q
    exact ⟨by show 1 ≤ sizeLine; decide, fun l hl => q.ro MI (Same.refl _) hl⟩
theorem ln_has_rising_costs : ∀ vs H Q E, sp_has_rising_costs a vs H Q E → vs.length = p_has_rising_costs.length := fun _ _ _ _ ⟨_, _, _, _, _, _, e, _⟩ => by rw [e]; rfl

def sp_status (a : Ad) : Sp := fun vs H Q E => ∃ (m dx L : Addr) (ps : List Addr) (M : Mill), vs = [.ref m] ∧ MillIs a H m dx L ps M ∧ ∀ E, Res a H m dx L ps Q E (RgN.oStatus M)
theorem pu_status (T : Txt K mg a) (h : sp_status a vs H Q E) : rd_status P w K a { nx := fun _ H' => Q .non H', rt := Q } (start n_status vs) H := by
  obtain ⟨m, dx, L, ps, M, rfl, MI, q⟩ := h
  have q := q E
  unfold RgN.oStatus at q
  refine ⟨_, rfl, fW T MI.obj ⟨_, rfl, fS T MI.obj ⟨_, rfl, fV T MI.obj ⟨_, rfl, fR T MI.obj ⟨L, _, rfl, .inl (SqL.of MI.rls.lst), by show 4 ≤ sizeLine; decide, fun l hl => ?_⟩⟩⟩⟩⟩
  rw [List.length_map, MI.rls.len]
  exact q.ro MI (Same.refl _) hl
theorem ln_status : ∀ vs H Q E, sp_status a vs H Q E → vs.length = p_status.length := fun _ _ _ _ ⟨_, _, _, _, _, e, _⟩ => by rw [e]; rfl
end
end Rg

/-! which operation is asked; an answer -/
namespace Rg
open PySem PySem.Spec PyProof.Rows L2 RgC
open Kp410 (Roll Mill)
open RgR (IsCall ansL)

theorem Res.same {a : Ad} {H H1 : Hp} {m dx L : Addr} {ps : List Addr} {Q : VK} {E : XK} {M : Mill} {o : RgN.Out} (h : Res a H m dx L ps Q E o) (MI : MillIs a H m dx L ps M) (s : Same H H1) : Res a H1 m dx L ps Q E o := by
  cases o with
  | bad e => exact fun H' s' => h H' (s.trans s')
  | ok M' x l =>
    intro H' p ps' k f ap M2 np e
    refine h H' p ps' (fun b o eb n => k b o (s _ _ eb) n) (fun b hb => (f b hb).imp id s.free) (fun T0 hT hA => ap T0 (fun z => hT (s.free z)) (MI.apart s hA)) M2 (s.free np) e
theorem ix0 {x : Nat} {l : List Nat} : atI (nI (x :: l)) 0 = some (V.int (x : Nat)) := atI_nat (j := 0) rfl
theorem ix1 {x y : Nat} {l : List Nat} : atI (nI (x :: y :: l)) 1 = some (V.int (y : Nat)) := atI_nat (j := 1) rfl
theorem cut_tail (x : Nat) (l : List Nat) : cutV (nI (x :: l)) (some 1) none = nI l := by
  unfold cutV
  rw [show (some (1 : Int)) = some ((1 : Nat) : Int) from rfl, HT.sIx_nat, HT.sIx_none]
  rw [nI_length, List.length_cons, Nat.min_eq_left (by omega)]
  show (nI l).take (l.length + 1 - 1) = nI l
  exact List.take_of_length_le (by rw [nI_length]; omega)
section
variable {P : Program} {w : World} {K : PySem.W.Frag} {mg : Str → Option Value} {a : Ad} {vs : List V} {H : Hp} {Q : VK} {E : XK}
theorem seq_skip {σ : L2.St} {D : Ends} {t v : TS} {n k : Int} (h1 : σ[1]? = some (some (.int n))) (h : n ≠ k) (q : v D σ H) : tSeq (tIfS (tTest (tOp rEq (tVar 1) (tC (.int k)))) t tNext) v D σ H := by
  refine ⟨_, h1, rfl, _, rfl, ite2 (fun hc => ?_) (fun _ => q)⟩
  have hc := of_decide_eq_true hc
  injection hc with hc
  exact absurd hc h
theorem seq_take {σ : L2.St} {D : Ends} {t v : TS} {n : Int} (h1 : σ[1]? = some (some (.int n))) (q : t { D with nx := v D } σ H) : tSeq (tIfS (tTest (tOp rEq (tVar 1) (tC (.int n)))) t tNext) v D σ H :=
  ⟨_, h1, rfl, _, rfl, ite2 (fun _ => q) (fun hc => absurd (decide_eq_true rfl) hc)⟩

def sp_operate_on_weeks (K : PySem.W.Frag) (a : Ad) : Sp := fun vs H Q E => ∃ (m dx L : Addr) (ps : List Addr) (M : Mill) (pl : Nat) (nl : Addr) (ns : List Nat) (c : Kp410.Call), vs = [.ref m, .int pl, .ref nl] ∧ MillIs a H m dx L ps M ∧ SqL K H nl (nI ns) ∧
  IsCall pl ns c ∧ 8 ≤ pl ∧ pl ≤ 17 ∧ Res a H m dx L ps Q E (RgN.oOf M c)
theorem pu_operate_on_weeks (h : sp_operate_on_weeks K a vs H Q E) : rd_operate_on_weeks P w K a E (sp_cheapest_plan a) (sp_lowest_cost a) (sp_plan_cost K a) (sp_run_week a) (sp_run_planned_week a) (sp_cost_without_regrinding a) (sp_cost_of_single_roll a) (sp_lowest_cost_for_visit a) (sp_joint_savings a) (sp_next_regrind a)
    { nx := fun _ H' => Q .non H', rt := Q } (start n_operate_on_weeks vs) H := by
  obtain ⟨m, dx, L, ps, M, pl, nl, ns, c, rfl, MI, S, hc, h8, h17, q⟩ := h
  unfold rd_operate_on_weeks
  cases hc with
  | create | addRoll | removeRoll | setAge | setVisitCost | getRoll | meanWeeklyCost | bestPeriod | hasRisingCosts | status => omega
  | cheapestPlan n =>
    refine seq_take rfl ?_
    exact ⟨_, rfl, _, rfl, nl, _, _, _, rfl, rfl, S, ix0, m, dx, L, ps, M, n, rfl, MI, q⟩
  | lowestCost n =>
    refine seq_skip rfl (by decide) (seq_take rfl ?_)
    exact ⟨_, rfl, _, rfl, nl, _, _, _, rfl, rfl, S, ix0, m, dx, L, ps, M, n, rfl, MI, q⟩
  | planCost p =>
    refine seq_skip rfl (by decide) (seq_skip rfl (by decide) (seq_take rfl ?_))
    exact ⟨_, rfl, _, rfl, m, dx, L, ps, M, nl, ns, rfl, MI, S, q⟩
  | runWeek n =>
    refine seq_skip rfl (by decide) (seq_skip rfl (by decide) (seq_skip rfl (by decide) (seq_take rfl ?_)))
    exact ⟨_, rfl, _, rfl, nl, _, _, _, rfl, rfl, S, ix0, m, dx, L, ps, M, n, rfl, MI, q⟩
  | runPlannedWeek n =>
    refine seq_skip rfl (by decide) (seq_skip rfl (by decide) (seq_skip rfl (by decide) (seq_skip rfl (by decide) (seq_take rfl ?_))))
    exact ⟨_, rfl, _, rfl, nl, _, _, _, rfl, rfl, S, ix0, m, dx, L, ps, M, n, rfl, MI, q⟩
  | costWithoutRegrinding n =>
    refine seq_skip rfl (by decide) (seq_skip rfl (by decide) (seq_skip rfl (by decide) (seq_skip rfl (by decide) (seq_skip rfl (by decide) (seq_take rfl ?_)))))
    exact ⟨_, rfl, _, rfl, nl, _, _, _, rfl, rfl, S, ix0, m, dx, L, ps, M, n, rfl, MI, q⟩
  | costOfSingleRoll i n =>
    refine seq_skip rfl (by decide) (seq_skip rfl (by decide) (seq_skip rfl (by decide) (seq_skip rfl (by decide) (seq_skip rfl (by decide) (seq_skip rfl (by decide) (seq_take rfl ?_))))))
    exact ⟨_, rfl, _, rfl, nl, _, _, _, rfl, rfl, S, ix0, _, rfl, nl, _, _, _, rfl, rfl, S, ix1, m, dx, L, ps, M, i, n, rfl, MI, q⟩
  | lowestCostForVisit v n =>
    refine seq_skip rfl (by decide) (seq_skip rfl (by decide) (seq_skip rfl (by decide) (seq_skip rfl (by decide) (seq_skip rfl (by decide) (seq_skip rfl (by decide) (seq_skip rfl (by decide) (seq_take rfl ?_)))))))
    exact ⟨_, rfl, _, rfl, nl, _, _, _, rfl, rfl, S, ix0, _, rfl, nl, _, _, _, rfl, rfl, S, ix1, m, dx, L, ps, M, v, n, rfl, MI, q⟩
  | jointSavings n =>
    refine seq_skip rfl (by decide) (seq_skip rfl (by decide) (seq_skip rfl (by decide) (seq_skip rfl (by decide) (seq_skip rfl (by decide) (seq_skip rfl (by decide) (seq_skip rfl (by decide) (seq_skip rfl (by decide) (seq_take rfl ?_))))))))
    exact ⟨_, rfl, _, rfl, nl, _, _, _, rfl, rfl, S, ix0, m, dx, L, ps, M, n, rfl, MI, q⟩
  | nextRegrind i n =>
    refine seq_skip rfl (by decide) (seq_skip rfl (by decide) (seq_skip rfl (by decide) (seq_skip rfl (by decide) (seq_skip rfl (by decide) (seq_skip rfl (by decide) (seq_skip rfl (by decide) (seq_skip rfl (by decide) (seq_skip rfl (by decide) ?_))))))))
    exact ⟨_, rfl, _, rfl, nl, _, _, _, rfl, rfl, S, ix0, _, rfl, nl, _, _, _, rfl, rfl, S, ix1, m, dx, L, ps, M, i, n, rfl, MI, q⟩
theorem ln_operate_on_weeks : ∀ vs H Q E, sp_operate_on_weeks K a vs H Q E → vs.length = p_operate_on_weeks.length := fun _ _ _ _ ⟨_, _, _, _, _, _, _, _, _, e, _⟩ => by rw [e]; rfl

def sp_operate_on_rolls (K : PySem.W.Frag) (a : Ad) : Sp := fun vs H Q E => ∃ (m dx L : Addr) (ps : List Addr) (M : Mill) (pl : Nat) (nl : Addr) (ns : List Nat) (c : Kp410.Call), vs = [.ref m, .int pl, .ref nl] ∧ MillIs a H m dx L ps M ∧ SqL K H nl (nI ns) ∧
  IsCall pl ns c ∧ pl ≠ 0 ∧ ¬ (8 ≤ pl ∧ pl ≤ 17) ∧ Res a H m dx L ps Q E (RgN.oOf M c)
theorem pu_operate_on_rolls (h : sp_operate_on_rolls K a vs H Q E) : rd_operate_on_rolls P w K a E (sp_add_roll K a) (sp_remove_roll a) (sp_set_age a) (sp_set_visit_cost a) (sp_get_roll a) (sp_mean_weekly_cost a) (sp_best_period a) (sp_has_rising_costs a) (sp_status a)
    { nx := fun _ H' => Q .non H', rt := Q } (start n_operate_on_rolls vs) H := by
  obtain ⟨m, dx, L, ps, M, pl, nl, ns, c, rfl, MI, S, hc, h0, h8, q⟩ := h
  unfold rd_operate_on_rolls
  cases hc with
  | create => exact absurd rfl h0
  | cheapestPlan | lowestCost | planCost | runWeek | runPlannedWeek | costWithoutRegrinding | costOfSingleRoll | lowestCostForVisit | jointSavings | nextRegrind => omega
  | addRoll rc ws =>
    refine seq_take rfl ?_
    refine ⟨_, rfl, _, rfl, nl, _, _, _, rfl, rfl, S, ix0, _, rfl, 1, rfl, nl, _, rfl, S, fun p hp => ?_⟩
    have s1 := same_upd (o := .lst (cutV (nI (rc :: ws)) (some 1) none)) hp
    exact ⟨m, dx, L, ps, M, rc, p, ws, rfl, MI.same s1, SqL.of (by rw [upd_same, cut_tail]), Res.same (o := RgN.oAdd M rc ws) q MI s1⟩
  | removeRoll i =>
    refine seq_skip rfl (by decide) (seq_take rfl ?_)
    exact ⟨_, rfl, _, rfl, nl, _, _, _, rfl, rfl, S, ix0, m, dx, L, ps, M, i, rfl, MI, q⟩
  | setAge i g =>
    refine seq_skip rfl (by decide) (seq_skip rfl (by decide) (seq_take rfl ?_))
    exact ⟨_, rfl, _, rfl, nl, _, _, _, rfl, rfl, S, ix0, _, rfl, nl, _, _, _, rfl, rfl, S, ix1, m, dx, L, ps, M, i, g, rfl, MI, q⟩
  | setVisitCost v =>
    refine seq_skip rfl (by decide) (seq_skip rfl (by decide) (seq_skip rfl (by decide) (seq_take rfl ?_)))
    exact ⟨_, rfl, _, rfl, nl, _, _, _, rfl, rfl, S, ix0, m, dx, L, ps, M, v, rfl, MI, q⟩
  | getRoll i =>
    refine seq_skip rfl (by decide) (seq_skip rfl (by decide) (seq_skip rfl (by decide) (seq_skip rfl (by decide) (seq_take rfl ?_))))
    exact ⟨_, rfl, _, rfl, nl, _, _, _, rfl, rfl, S, ix0, m, dx, L, ps, M, i, rfl, MI, q⟩
  | meanWeeklyCost i k =>
    refine seq_skip rfl (by decide) (seq_skip rfl (by decide) (seq_skip rfl (by decide) (seq_skip rfl (by decide) (seq_skip rfl (by decide) (seq_take rfl ?_)))))
    exact ⟨_, rfl, _, rfl, nl, _, _, _, rfl, rfl, S, ix0, _, rfl, nl, _, _, _, rfl, rfl, S, ix1, m, dx, L, ps, M, i, k, rfl, MI, q⟩
  | bestPeriod i =>
    refine seq_skip rfl (by decide) (seq_skip rfl (by decide) (seq_skip rfl (by decide) (seq_skip rfl (by decide) (seq_skip rfl (by decide) (seq_skip rfl (by decide) (seq_take rfl ?_))))))
    exact ⟨_, rfl, _, rfl, nl, _, _, _, rfl, rfl, S, ix0, m, dx, L, ps, M, i, rfl, MI, q⟩
  | hasRisingCosts i =>
    refine seq_skip rfl (by decide) (seq_skip rfl (by decide) (seq_skip rfl (by decide) (seq_skip rfl (by decide) (seq_skip rfl (by decide) (seq_skip rfl (by decide) (seq_skip rfl (by decide) (seq_take rfl ?_)))))))
    exact ⟨_, rfl, _, rfl, nl, _, _, _, rfl, rfl, S, ix0, m, dx, L, ps, M, i, rfl, MI, q⟩
  | status =>
    refine seq_skip rfl (by decide) (seq_skip rfl (by decide) (seq_skip rfl (by decide) (seq_skip rfl (by decide) (seq_skip rfl (by decide) (seq_skip rfl (by decide) (seq_skip rfl (by decide) (seq_skip rfl (by decide) ?_)))))))
    exact ⟨_, rfl, m, dx, L, ps, M, rfl, MI, fun _ => q⟩
theorem ln_operate_on_rolls : ∀ vs H Q E, sp_operate_on_rolls K a vs H Q E → vs.length = p_operate_on_rolls.length := fun _ _ _ _ ⟨_, _, _, _, _, _, _, _, _, e, _⟩ => by rw [e]; rfl

/-! ### the request's state -/
/-- the state at q; Pr: what must stand -/
def ReqAt (a : Ad) (H : Hp) (q : Addr) (Pr : Addr → Prop) : Kp410.State → Prop
  | none => ∃ dq, H q = some (.ins a.Request dq [("mill", .non)])
  | some M => ∃ dq m dx L ps, H q = some (.ins a.Request dq [("mill", .ref m)]) ∧ MillIs a H m dx L ps M ∧ ∀ T, Pr T → T ∉ m :: L :: ps ∧ Apart a H ps T
theorem ReqAt.same {H' : Hp} {q : Addr} {Pr : Addr → Prop} {st : Kp410.State} (h : ReqAt a H q Pr st) (s : Same H H') : ReqAt a H' q Pr st := by
  cases st with
  | none => exact h.imp fun _ e => s _ _ e
  | some M =>
    obtain ⟨dq, m, dx, L, ps, e, MI, hp⟩ := h
    exact ⟨dq, m, dx, L, ps, s _ _ e, MI.same s, fun T0 hT => ⟨(hp T0 hT).1, MI.apart s (hp T0 hT).2⟩⟩
def ansV (y : Kp410.Ans) : List V := (ansL y).map V.int
theorem ansV_nat (x : Nat) (l : List Nat) : ansV (Kp410.natResult x l) = .int (x : Nat) :: nI l := by
  unfold ansV ansL Kp410.natResult
  rw [List.map_cons]
  congr 1
  rw [nI_ints]
theorem q_mill {C C' dq dx L : Addr} {v s n : Nat} {x : V} : (HO.ins C dq [("mill", x)]) ≠ .ins C' dx (millF L v s n) := by
  intro e
  injection e with _ _ e
  injection e with e _
  injection e with e _
  exact absurd e (by decide +kernel)
theorem q_roll {C C' dq dx wl : Addr} {r : Roll} {x : V} : (HO.ins C dq [("mill", x)]) ≠ .ins C' dx (rollF r wl) := by
  intro e
  injection e with _ _ e
  injection e with e _
  injection e with e _
  exact absurd e (by decide +kernel)
theorem q_out {H : Hp} {q dq m dx L : Addr} {ps : List Addr} {M : Mill} {x : V} (hq : H q = some (.ins a.Request dq [("mill", x)])) (MI : MillIs a H m dx L ps M) : q ∉ m :: L :: ps := by
  intro z
  rcases List.mem_cons.mp z with z | z
  · subst z
    rw [MI.obj] at hq
    exact q_mill (Option.some.inj hq).symm
  rcases List.mem_cons.mp z with z | z
  · subst z
    rw [MI.rls.lst] at hq
    cases hq
  · obtain ⟨i, hi⟩ := List.getElem?_of_mem z
    obtain ⟨r, _, d', wl', h1', _⟩ := paired_get MI.rls.rls hi
    rw [h1'] at hq
    exact q_roll (Option.some.inj hq).symm

def sp_operate (K : PySem.W.Frag) (a : Ad) : Sp := fun vs H Q E => ∃ (q : Addr) (Pr : Addr → Prop) (st : Kp410.State) (pl : Nat) (nl : Addr) (ns : List Nat) (c : Kp410.Call), vs = [.ref q, .int pl, .ref nl] ∧ SqL K H nl (nI ns) ∧ IsCall pl ns c ∧ ReqAt a H q Pr st ∧ (∀ T, Pr T → H T ≠ none ∧ T ≠ q) ∧
  (∀ H' p, (∀ T o, Pr T → H T = some o → H' T = some o) → ReqAt a H' q Pr (Kp410.step st c).1 → H p = none → H' p = some (.lst (ansV (Kp410.step st c).2)) → Q (.ref p) H') ∧
  (∀ e H', Same H H' → Kp410.step st c = (st, Kp410.single e.code) → E (.ref (errA a e)) none H')
theorem res_of {q dq m dx L : Addr} {ps : List Addr} {M : Mill} {Pr : Addr → Prop} {c : Kp410.Call} (hq : H q = some (.ins a.Request dq [("mill", .ref m)])) (MI : MillIs a H m dx L ps M) (hp : ∀ T, Pr T → T ∉ m :: L :: ps ∧ Apart a H ps T)
    (hPr : ∀ T, Pr T → H T ≠ none ∧ T ≠ q) (hc : ∀ v, c ≠ .create v)
    (h1 : ∀ H' p, (∀ T o, Pr T → H T = some o → H' T = some o) → ReqAt a H' q Pr (Kp410.step (some M) c).1 → H p = none → H' p = some (.lst (ansV (Kp410.step (some M) c).2)) → Q (.ref p) H')
    (h2 : ∀ e H', Same H H' → Kp410.step (some M) c = (some M, Kp410.single e.code) → E (.ref (errA a e)) none H') : Res a H m dx L ps Q E (RgN.oOf M c) := by
  rw [RgN.step_eq M c hc] at h1 h2
  cases ho : RgN.oOf M c with
  | bad e => exact fun H' s => h2 e H' s (by rw [ho]; rfl)
  | ok M' x l =>
    rw [ho] at h1
    intro H' p ps' k f ap M2 np e
    refine h1 H' p (fun T0 o hT ho => k T0 o ho (hp T0 hT).1) ⟨dq, m, dx, L, ps', k _ _ hq (q_out hq MI), M2, fun T0 hT => ⟨fun z => ?_, ap T0 (hPr T0 hT).1 (hp T0 hT).2⟩⟩ np (by rw [e]; show _ = some (HO.lst (ansV (Kp410.natResult x l))); rw [ansV_nat])
    have hT0 := (hp T0 hT).1
    rcases List.mem_cons.mp z with z | z
    · exact hT0 (by simp [z])
    rcases List.mem_cons.mp z with z | z
    · exact hT0 (by simp [z])
    · rcases f T0 z with z | z
      · exact hT0 (by simp [z])
      · exact (hPr T0 hT).1 z
theorem pu_operate (T : Txt K mg a) (h : sp_operate K a vs H Q E) : rd_operate P w K a E (sp_create a) (sp_operate_on_weeks K a) (sp_operate_on_rolls K a) { nx := fun _ H' => Q .non H', rt := Q } (start n_operate vs) H := by
  obtain ⟨q, Pr, st, pl, nl, ns, c, rfl, S, hc, R, hPr, h1, h2⟩ := h
  unfold rd_operate
  by_cases hcr : ∃ v, c = .create v
  · obtain ⟨v, rfl⟩ := hcr
    cases hc
    refine seq_take rfl ?_
    obtain ⟨dq, x, hq⟩ : ∃ dq x, H q = some (.ins a.Request dq [("mill", x)]) := by
      cases st with
      | none => obtain ⟨dq, e⟩ := R; exact ⟨dq, _, e⟩
      | some M => obtain ⟨dq, m, dx, L, ps, e, _⟩ := R; exact ⟨dq, _, e⟩
    refine ⟨_, rfl, _, rfl, nl, _, _, _, rfl, rfl, S, ix0, q, dq, x, v, rfl, hq, fun hv H' m dm L p k nm nL eq M2 np e => ?_, fun hv => ?_⟩
    · rw [RgN.step_create_ok st v hv] at h1
      refine h1 H' p (fun T0 o hT ho => k T0 o ho (by simpa using (hPr T0 hT).2)) ⟨dq, m, dm, L, [], eq, M2, fun T0 hT => ⟨fun z => ?_, fun p hp => nomatch hp⟩⟩ np (by rw [e]; rfl)
      rcases List.mem_cons.mp z with z | z
      · exact (hPr T0 hT).1 (by rw [z]; exact nm)
      · exact (hPr T0 hT).1 (by rw [List.mem_singleton.mp z]; exact nL)
    · exact h2 .limits H (Same.refl H) (RgN.step_create_no st v hv)
  · have hcr : ∀ v, c ≠ .create v := fun v e => hcr ⟨v, e⟩
    have h0 : pl ≠ 0 := by
      rintro rfl
      cases hc
      exact hcr _ rfl
    refine seq_skip rfl (by omega) ?_
    cases st with
    | none =>
      obtain ⟨dq, hq⟩ := R
      refine ⟨_, rfl, q, a.Request, dq, _, _, rfl, hq, T.cRequest, T.nQ_mill, lk_here, rfl, _, rfl, ite2 (fun _ => ?_) (fun hn => absurd (decide_eq_true rfl) hn)⟩
      exact h2 .noMill H (Same.refl H) (RgN.step_none c hcr)
    | some M =>
      obtain ⟨dq, m, dx, L, ps, hq, MI, hp⟩ := R
      have q := res_of hq MI hp hPr hcr h1 h2
      refine ⟨_, rfl, _, a.Request, dq, _, _, rfl, hq, T.cRequest, T.nQ_mill, lk_here, rfl, _, rfl, ite2 (fun hn => ?_) (fun _ => ?_)⟩
      · exact absurd (of_decide_eq_true hn) (fun z => nomatch z)
      refine ⟨_, rfl, _, _, rfl, rfl, _, rfl, ite2 (fun h8 => ?_) (fun h8 => ?_)⟩
      · have h8 := of_decide_eq_true h8
        refine ⟨_, _, rfl, rfl, _, rfl, ite2 (fun h17 => ?_) (fun h17 => ?_)⟩
        · have h17 := of_decide_eq_true h17
          exact ⟨_, rfl, _, a.Request, dq, _, _, rfl, hq, T.cRequest, T.nQ_mill, lk_here, _, rfl, _, rfl, m, dx, L, ps, M, pl, nl, ns, c, rfl, MI, S, hc, by omega, by omega, q⟩
        · have h17 : ¬ ((pl : Int) ≤ 17) := fun z => h17 (decide_eq_true z)
          exact ⟨_, rfl, _, a.Request, dq, _, _, rfl, hq, T.cRequest, T.nQ_mill, lk_here, _, rfl, _, rfl, m, dx, L, ps, M, pl, nl, ns, c, rfl, MI, S, hc, h0, by omega, q⟩
      · have h8 : ¬ ((8 : Int) ≤ (pl : Int)) := fun z => h8 (decide_eq_true z)
        refine ⟨_, rfl, ite2 (fun z => nomatch z) (fun _ => ?_)⟩
        exact ⟨_, rfl, _, a.Request, dq, _, _, rfl, hq, T.cRequest, T.nQ_mill, lk_here, _, rfl, _, rfl, m, dx, L, ps, M, pl, nl, ns, c, rfl, MI, S, hc, h0, by omega, q⟩
theorem ln_operate : ∀ vs H Q E, sp_operate K a vs H Q E → vs.length = p_operate.length := fun _ _ _ _ ⟨_, _, _, _, _, _, _, e, _⟩ => by rw [e]; rfl

def erN : RgN.Er → Nat
  | .noMill => 0
  | .noRoll => 1
  | .limits => 2
  | .many => 3
  | .never => 4
/-- which clause takes which error -/
def Exm (K : PySem.W.Frag) (a : Ad) : Prop := ∀ e f : RgN.Er, PySem.W.exmOne K (.ref (errA a e)) (.ref (errA a f)) = some (erN e == erN f)
def sp_answer (K : PySem.W.Frag) (a : Ad) : Sp := fun vs H Q _ => ∃ (q : Addr) (Pr : Addr → Prop) (st : Kp410.State) (pl : Nat) (nl : Addr) (ns : List Nat) (c : Kp410.Call), vs = [.ref q, .int pl, .ref nl] ∧ SqL K H nl (nI ns) ∧ IsCall pl ns c ∧ ReqAt a H q Pr st ∧ (∀ T, Pr T → H T ≠ none ∧ T ≠ q) ∧
  (∀ H' p, (∀ T o, Pr T → H T = some o → H' T = some o) → ReqAt a H' q Pr (Kp410.step st c).1 → H p = none → H' p = some (.lst (ansV (Kp410.step st c).2)) → Q (.ref p) H')
theorem pu_answer (X : Exm K a) (h : sp_answer K a vs H Q E) : rd_answer P w K a (sp_operate K a) { nx := fun _ H' => Q .non H', rt := Q } (start n_answer vs) H := by
  obtain ⟨q, Pr, st, pl, nl, ns, c, rfl, S, hc, R, hPr, h1⟩ := h
  refine ⟨_, rfl, _, rfl, _, rfl, q, Pr, st, pl, nl, ns, c, rfl, S, hc, R, hPr, h1, fun e H' s es => ?_⟩
  have fin : rd_code (-e.code) { nx := fun _ H' => Q .non H', rt := Q } (start n_answer [V.ref q, V.int pl, V.ref nl]) H' := by
    refine ⟨_, rfl, by show 1 ≤ sizeLine; decide, fun p hp => ?_⟩
    have s2 : Same H (upd H' p (.lst [V.int (- -e.code)])) := Same.upd s (s.free hp)
    rw [es] at h1
    refine h1 _ p (fun T0 o _ ho => s2 _ _ ho) (R.same s2) (s.free hp) ?_
    rw [upd_same]
    show some (HO.lst [V.int (- -e.code)]) = _
    rw [Int.neg_neg]
    rfl
  cases e with
  | noMill => exact ⟨_, X .noMill .noMill, fun _ _ _ => fin, fun z => absurd z (by decide)⟩
  | noRoll => exact ⟨_, X .noRoll .noMill, fun z => absurd z (by decide), fun _ => ⟨_, X .noRoll .noRoll, fun _ _ _ => fin, fun z => absurd z (by decide)⟩⟩
  | limits => exact ⟨_, X .limits .noMill, fun z => absurd z (by decide), fun _ => ⟨_, X .limits .noRoll, fun z => absurd z (by decide), fun _ => ⟨_, X .limits .limits, fun _ _ _ => fin, fun z => absurd z (by decide)⟩⟩⟩
  | many => exact ⟨_, X .many .noMill, fun z => absurd z (by decide), fun _ => ⟨_, X .many .noRoll, fun z => absurd z (by decide), fun _ => ⟨_, X .many .limits, fun z => absurd z (by decide), fun _ => ⟨_, X .many .many, fun _ _ _ => fin, fun z => absurd z (by decide)⟩⟩⟩⟩
  | never => exact ⟨_, X .never .noMill, fun z => absurd z (by decide), fun _ => ⟨_, X .never .noRoll, fun z => absurd z (by decide), fun _ => ⟨_, X .never .limits, fun z => absurd z (by decide), fun _ => ⟨_, X .never .many, fun z => absurd z (by decide), fun _ => ⟨_, X .never .never, fun _ _ _ => fin, fun z => absurd z (by decide)⟩⟩⟩⟩⟩
theorem ln_answer : ∀ vs H Q E, sp_answer K a vs H Q E → vs.length = p_answer.length := fun _ _ _ _ ⟨_, _, _, _, _, _, _, e, _⟩ => by rw [e]; rfl
end
end Rg

/-! the request: its calls, and its answers -/
namespace Rg
open PySem PySem.Spec PyProof.Rows L2 RgC
open Kp410 (Roll Mill)
open RgR (IsCall ansL flat tellN Calls)

theorem drop_past {α : Type} (A B : List α) (k : Nat) : (A ++ B).drop (A.length + k) = B.drop k := by
  induction A with
  | nil => rw [List.nil_append, List.length_nil, Nat.zero_add]
  | cons x A ih =>
    rw [List.cons_append, List.length_cons, show A.length + 1 + k = (A.length + k) + 1 by omega, List.drop_succ_cons]
    exact ih
theorem flat_append : ∀ cs ds : List (Nat × List Nat), flat (cs ++ ds) = flat cs ++ flat ds
  | [], _ => rfl
  | c :: cs, ds => by
    show c.1 :: c.2.length :: (c.2 ++ 0 :: flat (cs ++ ds)) = c.1 :: c.2.length :: (c.2 ++ 0 :: flat cs) ++ flat ds
    rw [flat_append cs ds]
    simp
theorem cut_mid (A : List Nat) (x y : Nat) (B C : List Nat) : cutV (nI (A ++ x :: y :: (B ++ C))) (some ((A.length : Int) + 2)) (some ((A.length : Int) + 2 + (B.length : Int))) = nI B := by
  unfold cutV
  rw [show ((A.length : Int) + 2) = ((A.length + 2 : Nat) : Int) by push_cast; rfl, show (((A.length + 2 : Nat) : Int) + (B.length : Int)) = ((A.length + 2 + B.length : Nat) : Int) by push_cast; rfl]
  rw [HT.sIx_nat, HT.sIx_nat, nI_length, List.length_append, List.length_cons, List.length_cons, List.length_append, Nat.min_eq_left (by omega), Nat.min_eq_left (by omega)]
  unfold nI
  rw [← List.map_drop, drop_past, ← List.map_take]
  show List.map _ ((B ++ C).take _) = _
  rw [show A.length + 2 + B.length - (A.length + 2) = B.length by omega, List.take_left]
/-- a call as split_calls lays it -/
def CallAt (H : Hp) (t : Addr × Addr) (c : Nat × List Nat) : Prop := H t.1 = some (.tup [.int (c.1 : Nat), .ref t.2]) ∧ H t.2 = some (.lst (nI c.2))
theorem calls_get {cs : List (Nat × List Nat)} {ks : List Kp410.Call} (h : Calls cs ks) : ∀ {i : Nat} {c : Nat × List Nat}, cs[i]? = some c → ∃ k, IsCall c.1 c.2 k ∧ ks.drop i = k :: ks.drop (i + 1) := by
  induction h with
  | nil => intro i c e; simp at e
  | cons h t ih =>
    intro i c e
    cases i with
    | zero =>
      have e' := Option.some.inj e
      subst e'
      exact ⟨_, h, rfl⟩
    | succ i => exact ih (by simpa using e)
theorem calls_len {cs : List (Nat × List Nat)} {ks : List Kp410.Call} (h : Calls cs ks) : cs.length = ks.length := by
  induction h with
  | nil => rfl
  | cons _ _ ih => rw [List.length_cons, List.length_cons, ih]
section
variable {P : Program} {w : World} {K : PySem.W.Frag} {mg : Str → Option Value} {a : Ad} {vs : List V} {H : Hp} {Q : VK} {E : XK}

def sp_split_calls (K : PySem.W.Frag) : Sp := fun vs H Q _ => ∃ (cl : Addr) (cs : List (Nat × List Nat)), vs = [.ref cl] ∧ SqL K H cl (nI (flat cs)) ∧ cs.length ≤ 60 ∧
  ∀ H' F ts, Same H H' → H F = none → H' F = some (.lst (ts.map fun (t : Addr × Addr) => V.ref t.1)) → Paired (CallAt H') ts cs → (∀ t ∈ ts, H t.2 = none) → Q (.ref F) H'
theorem pu_split_calls (h : sp_split_calls K vs H Q E) : rd_split_calls P w K a { nx := fun _ H' => Q .non H', rt := Q } (start n_split_calls vs) H := by
  obtain ⟨cl, cs, rfl, S, hl, q⟩ := h
  refine ⟨Nat.zero_le _, fun F hF => ?_⟩
  refine while_by (fun σ' H' => ∃ (done rest : List (Nat × List Nat)) (ts : List (Addr × Addr)) (x3 : Option V), cs = done ++ rest ∧ σ' = [some (.ref cl), some (.ref F), some (.int ((flat done).length : Nat)), x3] ∧ Same H H' ∧
      H' F = some (.lst (ts.map fun (t : Addr × Addr) => V.ref t.1)) ∧ Paired (CallAt H') ts done ∧ ∀ t ∈ ts, H t.2 = none ∧ t.2 ≠ F)
    (fun (σ' : L2.St) _ => match σ'[2]? with | some (some (V.int y)) => (flat cs).length - y.toNat | _ => 0) ⟨[], cs, [], none, rfl, rfl, same_upd hF, upd_same, .nil, fun t ht => nomatch ht⟩ ?_ (fun σ H Q Q' h ⟨v, e, v2, e2, p, ys, e3, e4, i, j, e5, e6, k, ek, q⟩ => ⟨v, e, v2, e2, p, ys, e3, e4, i, j, e5, e6, k, ek, h _ _ q⟩)
  rintro σ' H' ⟨done, rest, ts, x3, rfl, rfl, s, eF, pc, fr⟩
  refine ⟨_, rfl, _, rfl, cl, _, rfl, .inl (s.seq S), _, _, rfl, rfl, _, rfl, ite2 (fun hc => ?_) (fun hc => ?_)⟩
  · have hc := of_decide_eq_true hc
    rw [nI_length, flat_append, List.length_append] at hc
    cases rest with
    | nil =>
      have hc : (((flat done).length : Nat) : Int) < ((((flat done).length + 0 : Nat)) : Int) := hc
      omega
    | cons c rest =>
      obtain ⟨pl, ns⟩ := c
      have e : flat (done ++ (pl, ns) :: rest) = flat done ++ pl :: ns.length :: (ns ++ 0 :: flat rest) := flat_append _ _
      have S' := s.seq S
      rw [e] at S'
      have g0 : atI (nI (flat done ++ pl :: ns.length :: (ns ++ 0 :: flat rest))) (((flat done).length : Nat) : Int) = some (V.int (pl : Nat)) := atI_nat (nI_get (by
        rw [List.getElem?_append_right (Nat.le_refl _), Nat.sub_self]
        rfl))
      have g1 : atI (nI (flat done ++ pl :: ns.length :: (ns ++ 0 :: flat rest))) ((((flat done).length : Nat) : Int) + 1) = some (V.int (ns.length : Nat)) := by
        rw [show (((flat done).length : Nat) : Int) + 1 = (((flat done).length + 1 : Nat) : Int) by push_cast; rfl]
        refine atI_nat (nI_get ?_)
        rw [List.getElem?_append_right (by omega), show (flat done).length + 1 - (flat done).length = 1 by omega]
        rfl
      refine ⟨_, rfl, _, _, rfl, rfl, _, rfl, _, rfl, _, _, rfl, rfl, cl, _, _, _, rfl, rfl, S', g1, _, _, rfl, rfl, ?_⟩
      refine ⟨_, rfl, .inl ⟨rfl, _, SqL.of eF⟩, _, rfl, _, rfl, cl, _, _, _, rfl, rfl, S', g0, _, rfl, _, rfl, _, _, rfl, rfl, _, rfl, _, rfl, _, rfl, cl, _, rfl, S', fun nl hnl => ⟨by show 2 ≤ sizeLine; decide, fun t ht => ?_⟩⟩
      rw [cut_mid] at *
      have s1 : Same H' (upd H' nl (.lst (nI ns))) := same_upd hnl
      have s2 : Same H' (upd (upd H' nl (.lst (nI ns))) t (.tup [.int (pl : Nat), .ref nl])) := Same.upd s1 (s1.free ht)
      have lts : ts.length = done.length := Paired.length pc
      have hlen : done.length < 60 := by
        rw [List.length_append, List.length_cons] at hl
        omega
      refine ⟨F, _, .ref t, rfl, rfl, s2 _ _ eF, smallL (m := 60) (by rw [List.length_map]; omega), ?_⟩
      have hnlF : nl ≠ F := (ne_of_none eF hnl).symm
      have htF : t ≠ F := (ne_of_none (s1 _ _ eF) ht).symm
      have htn : nl ≠ t := ne_of_none (H := upd H' nl (.lst (nI ns))) upd_same ht
      have fl : flat (done ++ [(pl, ns)]) = flat done ++ pl :: ns.length :: (ns ++ [0]) := flat_append _ _
      have ll : (flat (done ++ [(pl, ns)])).length = (flat done).length + 2 + ns.length + 1 := by
        rw [fl, List.length_append, List.length_cons, List.length_cons, List.length_append]
        show _ + (ns.length + 1 + 1 + 1) = _
        omega
      have le : ((flat done).length : Int) + 2 + (ns.length : Int) + 1 = ((flat (done ++ [(pl, ns)])).length : Nat) := by
        rw [ll]
        push_cast
        rfl
      refine ⟨_, rfl, _, _, rfl, rfl, ⟨done ++ [(pl, ns)], rest, ts ++ [(t, nl)], some (.int (((flat done).length : Int) + 2 + (ns.length : Int))), ?_, ?_, ?_, ?_, ?_, ?_⟩, ?_⟩
      · rw [List.append_assoc]
        rfl
      · rw [← le]
        rfl
      · exact Same.upd (s.trans s2) hF
      · rw [upd_same, List.map_append]
        rfl
      · refine paired_snoc (paired_of lts fun i t' c' ht' hc' => ?_) ⟨?_, ?_⟩
        · obtain ⟨c2, hc2, z1, z2⟩ := paired_get pc ht'
          rw [hc'] at hc2
          cases hc2
          have hF' := (fr t' (List.mem_of_getElem? ht')).2
          exact ⟨by rw [upd_ne (ne_of z1 eF (fun z => nomatch z))]; exact s2 _ _ z1, by rw [upd_ne hF']; exact s2 _ _ z2⟩
        · show upd _ F _ t = _
          rw [upd_ne htF, upd_same]
        · show upd _ F _ nl = _
          rw [upd_ne hnlF, upd_ne htn, upd_same]
      · intro t' ht'
        rcases List.mem_append.mp ht' with z | z
        · exact fr t' z
        · rw [List.mem_singleton.mp z]
          exact ⟨s.free hnl, hnlF⟩
      · show (flat (done ++ (pl, ns) :: rest)).length - (((flat done).length : Int) + 2 + (ns.length : Int) + 1).toNat < (flat (done ++ (pl, ns) :: rest)).length - (((flat done).length : Nat) : Int).toNat
        rw [le, Int.toNat_natCast, Int.toNat_natCast, ll, e, List.length_append, List.length_cons, List.length_cons]
        omega
  · have hc : ¬ (((flat done).length : Nat) : Int) < (((nI (flat (done ++ rest))).length : Nat) : Int) := fun z => hc (decide_eq_true z)
    rw [nI_length, flat_append, List.length_append] at hc
    have hr : rest = [] := by
      cases rest with
      | nil => rfl
      | cons c rest =>
        have : (flat (c :: rest)).length = (c.2 ++ 0 :: flat rest).length + 2 := rfl
        omega
    subst hr
    rw [List.append_nil] at q
    exact ⟨_, rfl, q H' F ts s hF eF pc fun t ht => (fr t ht).1⟩
theorem ln_split_calls : ∀ vs H Q E, sp_split_calls K vs H Q E → vs.length = p_split_calls.length := fun _ _ _ _ ⟨_, _, e, _⟩ => by rw [e]; rfl
end
end Rg

/-! the whole request -/
namespace Rg
open PySem PySem.Spec PyProof.Rows L2 RgC
open Kp410 (Roll Mill)
open RgR (IsCall ansL flat tellN Calls)
section
variable {P : Program} {w : World} {K : PySem.W.Frag} {mg : Str → Option Value} {a : Ad} {vs : List V} {H : Hp} {Q : VK} {E : XK}

theorem RollAt.upd_out {p b : Addr} {r : Roll} {o : HO} (x : RollAt a H p r) (hb : b ≠ p) (hw : ∀ d r wl, H p = some (.ins a.Roll d (rollF r wl)) → wl ≠ b) : RollAt a (upd H b o) p r := by
  obtain ⟨d, wl, h1, h2, h3⟩ := x
  exact ⟨d, wl, by rw [upd_ne (Ne.symm hb)]; exact h1, by rw [upd_ne (hw d r wl h1)]; exact h2, h3⟩
/-- a list that is none of the state's is changed -/
theorem ReqAt.upd_lst {q b : Addr} {Pr : Addr → Prop} {st : Kp410.State} {xs : List V} (h : ReqAt a H q Pr st) (hb : Pr b) (hq : b ≠ q) : ReqAt a (upd H b (.lst xs)) q Pr st := by
  cases st with
  | none =>
    obtain ⟨dq, e⟩ := h
    exact ⟨dq, by rw [upd_ne (Ne.symm hq)]; exact e⟩
  | some M =>
    obtain ⟨dq, m, dx, L, ps, e, MI, hp⟩ := h
    obtain ⟨hn, ha⟩ := hp b hb
    have hm : m ≠ b := fun z => hn (by simp [z])
    have hL : L ≠ b := fun z => hn (by simp [z])
    refine ⟨dq, m, dx, L, ps, by rw [upd_ne (Ne.symm hq)]; exact e, ⟨by rw [upd_ne hm]; exact MI.obj, ⟨by rw [upd_ne hL]; exact MI.rls.lst, paired_of MI.rls.len fun i p r hp' hr => ?_, MI.rls.few⟩, MI.nd⟩, fun T0 hT => ⟨(hp T0 hT).1, Apart.upd (hp T0 hT).2 (fun d r wl e => nomatch e)⟩⟩
    obtain ⟨r', hr', z⟩ := paired_get MI.rls.rls hp'
    rw [hr] at hr'
    cases hr'
    have hpp := List.mem_of_getElem? hp'
    exact z.upd_out (fun e => hn (by simp [e, hpp])) (fun d r wl e => ha p hpp d r wl e)
theorem ReqAt.short {q : Addr} {Pr : Addr → Prop} {st : Kp410.State} (h : ReqAt a H q Pr st) : ∀ M, st = some M → ∀ r ∈ M.rolls, r.weeklyCosts.length ≤ 8 := by
  rintro M rfl r hr
  obtain ⟨dq, m, dx, L, ps, e, MI, hp⟩ := h
  obtain ⟨i, hi⟩ := List.getElem?_of_mem hr
  obtain ⟨p, _, d, wl, _, _, _, l8⟩ := paired_get2 MI.rls.rls hi
  exact l8
theorem ReqAt.obj {q : Addr} {Pr : Addr → Prop} {st : Kp410.State} (h : ReqAt a H q Pr st) : ∃ dq fs, H q = some (.ins a.Request dq fs) := by
  cases st with
  | none => obtain ⟨dq, e⟩ := h; exact ⟨dq, _, e⟩
  | some M => obtain ⟨dq, m, dx, L, ps, e, _⟩ := h; exact ⟨dq, _, e⟩

def sp_answers (K : PySem.W.Frag) : Sp := fun vs H Q _ => ∃ (cl : Addr) (cs : List (Nat × List Nat)) (ks : List Kp410.Call), vs = [.ref cl] ∧ SqL K H cl (nI (flat cs)) ∧ Calls cs ks ∧ cs.length ≤ 60 ∧
  ∀ H' p, H' p = some (.lst ((tellN none ks).map V.int)) → Q (.ref p) H'
theorem pu_answers (h : sp_answers K vs H Q E) : rd_answers P w K a (sp_Request_init a) (sp_split_calls K) (sp_answer K a) { nx := fun _ H' => Q .non H', rt := Q } (start n_answers vs) H := by
  obtain ⟨cl, cs, ks, rfl, S, hC, hl, fin⟩ := h
  refine fun q dq nq nd ne => ⟨q, dq, rfl, upd_same, fun H1 eq k => ⟨rfl, ?_⟩⟩
  have s1 : Same H H1 := made nq nd k
  refine ⟨Nat.zero_le _, fun told ht => ?_⟩
  have s2 : Same H1 (upd H1 told (.lst [])) := same_upd ht
  refine ⟨_, rfl, cl, cs, rfl, Same.seq (s1.trans s2) S, hl, fun H3 F ts s3 nF eF pc fr => ?_⟩
  have eT3 : H3 told = some (.lst []) := s3 _ _ upd_same
  have eq3 : H3 q = some (.ins a.Request dq [("mill", .non)]) := s3 _ _ (s2 _ _ eq)
  have hFT : F ≠ told := (ne_of_none (H := upd H1 told (.lst [])) upd_same nF).symm
  have hnT : ∀ t ∈ ts, t.2 ≠ told := fun t ht' => (ne_of_none (H := upd H1 told (.lst [])) upd_same (fr t ht')).symm
  have lcs : ts.length = cs.length := Paired.length pc
  refine ⟨F, rfl, ⟨_, SqL.of eF⟩, for_list (K := K) (a := F) (xs := ts.map fun (t : Addr × Addr) => V.ref t.1) (fun i σ' H' => ∃ (st : Kp410.State) (x3 x4 x5 : Option V) (acc : List Int), σ' = [some (.ref cl), some (.ref q), some (.ref told), x3, x4, x5] ∧
      ReqAt a H' q (fun T0 => T0 = F ∨ T0 = told ∨ ∃ t ∈ ts, T0 = t.1 ∨ T0 = t.2) st ∧ H' told = some (.lst (acc.map V.int)) ∧ acc ++ tellN st (ks.drop i) = tellN none ks ∧ acc.length ≤ i * 11 ∧ H' F = some (.lst (ts.map fun (t : Addr × Addr) => V.ref t.1)) ∧ Paired (CallAt H') ts cs)
    ⟨none, none, none, none, [], rfl, ⟨dq, eq3⟩, eT3, rfl, Nat.zero_le _, eF, pc⟩ (fun i σ' H' _ ⟨_, _, _, _, _, _, _, _, _, _, e, _⟩ => SqL.of e) ?_ ?_⟩
  · rintro i x σ' H4 hi ⟨st, x3, x4, x5, acc, rfl, R, eT, hacc, hlen, eF4, pc4⟩
    obtain ⟨t, hti, rfl⟩ := map_get hi
    obtain ⟨c, hci, e1, e2⟩ := paired_get pc4 hti
    obtain ⟨pl, ns⟩ := c
    obtain ⟨kc, hk, hd⟩ := calls_get hC hci
    have htm := List.mem_of_getElem? hti
    obtain ⟨dq', fs', eq4⟩ := R.obj
    have i60 : i < 60 := by
      have := (List.getElem?_eq_some_iff.mp hti).1
      omega
    refine ⟨t.1, _, rfl, SqT.of e1, rfl, _, _, rfl, _, _, rfl, rfl, ?_⟩
    refine ⟨_, rfl, _, rfl, _, rfl, q, _, st, pl, t.2, ns, kc, rfl, SqL.of e2, hk, R, fun T0 hT => ?_, fun H5 p pr R5 np e5 => ?_⟩
    · rcases hT with z | z | ⟨t', ht', z | z⟩
      · rw [z]; exact ⟨by rw [eF4]; exact (fun z => nomatch z), ne_of eF4 eq4 (fun z => nomatch z)⟩
      · rw [z]; exact ⟨by rw [eT]; exact (fun z => nomatch z), ne_of eT eq4 (fun z => nomatch z)⟩
      · obtain ⟨j, hj⟩ := List.getElem?_of_mem ht'
        obtain ⟨c', _, f1, f2⟩ := paired_get pc4 hj
        rw [z]; exact ⟨by rw [f1]; exact (fun z => nomatch z), ne_of f1 eq4 (fun z => nomatch z)⟩
      · obtain ⟨j, hj⟩ := List.getElem?_of_mem ht'
        obtain ⟨c', _, f1, f2⟩ := paired_get pc4 hj
        rw [z]; exact ⟨by rw [f2]; exact (fun z => nomatch z), ne_of f2 eq4 (fun z => nomatch z)⟩
    have hTq : told ≠ q := ne_of eT eq4 (fun z => nomatch z)
    have hpT : p ≠ told := (ne_of_none eT np).symm
    have eT5 := pr told _ (.inr (.inl rfl)) eT
    have eF5 := pr F _ (.inl rfl) eF4
    have hs : (ansL (Kp410.step st kc).2).length ≤ 10 := RgR.ans_short st R.short kc
    refine ⟨_, rfl, .inl ⟨rfl, _, SqL.of eT5⟩, _, rfl, p, _, rfl, .inl (SqL.of e5), told, _, _, rfl, rfl, eT5, ?_, ?_⟩
    · rw [List.length_map]
      exact smallL (m := 700) (by omega)
    have lv : (ansV (Kp410.step st kc).2).length = (ansL (Kp410.step st kc).2).length := by
      unfold ansV
      rw [List.length_map]
    refine ⟨_, rfl, .inl ⟨rfl, _, SqL.of upd_same⟩, _, rfl, told, p, _, _, rfl, rfl, upd_same, by rw [upd_ne hpT]; exact e5, ?_, ?_⟩
    · rw [List.length_append, List.length_map, lv]
      exact small (m := 700) (by show acc.length + 1 + _ ≤ 700; omega)
    rw [upd_upd]
    refine ⟨(Kp410.step st kc).1, some (.int (pl : Nat)), some (.ref t.2), some (.ref p), acc ++ ((ansL (Kp410.step st kc).2).length : Int) :: ansL (Kp410.step st kc).2, rfl, R5.upd_lst (.inr (.inl rfl)) hTq, ?_, ?_, ?_, ?_, ?_⟩
    · rw [upd_same, lv, List.map_append, List.map_cons, List.append_assoc]
      rfl
    · rw [← hacc, hd, List.append_assoc]
      rfl
    · rw [List.length_append, List.length_cons]
      omega
    · rw [upd_ne hFT]
      exact eF5
    · refine paired_of lcs fun j t' c' ht' hc' => ?_
      obtain ⟨c2, hc2, z1, z2⟩ := paired_get pc4 ht'
      rw [hc'] at hc2
      cases hc2
      have hm := List.mem_of_getElem? ht'
      have z1' := pr _ _ (.inr (.inr ⟨t', hm, .inl rfl⟩)) z1
      have z2' := pr _ _ (.inr (.inr ⟨t', hm, .inr rfl⟩)) z2
      exact ⟨by rw [upd_ne (ne_of z1' eT5 (fun z => nomatch z))]; exact z1', by rw [upd_ne (hnT t' hm)]; exact z2'⟩
  · rintro σ' H4 ⟨st, x3, x4, x5, acc, rfl, R, eT, hacc, hlen, eF4, pc4⟩
    have e : ks.drop (ts.map fun (t : Addr × Addr) => V.ref t.1).length = [] := by
      rw [List.length_map, lcs, calls_len hC, List.drop_length]
    rw [e] at hacc
    have hacc : acc ++ [] = tellN none ks := by
      cases st <;> exact hacc
    rw [List.append_nil] at hacc
    rw [hacc] at eT
    exact ⟨_, rfl, fin _ _ eT⟩
theorem ln_answers : ∀ vs H Q E, sp_answers K vs H Q E → vs.length = p_answers.length := fun _ _ _ _ ⟨_, _, _, e, _⟩ => by rw [e]; rfl
end
end Rg

/-! each def keeps its promise -/
namespace Rg
open PySem PySem.Spec PyProof.Rows L2 RgC
def GF (K : PySem.W.Frag) (mg : Str → Option Value) (x : Str) (st : Stmt) : Prop := ∃ (f : Addr) (fd : FuncData), Fun K x x st f fd ∧ mg x = some (.ref f)
def GI (K : PySem.W.Frag) (mg : Str → Option Value) (x : Str) (C : Addr) (qual : Str) (st : Stmt) : Prop := ∃ (f : Addr) (fd : FuncData), Fun K "__init__" qual st f fd ∧ Mk K C f ∧ mg x = some (.ref C)
def GM (K : PySem.W.Frag) (C : Addr) (m qual : Str) (st : Stmt) : Prop := ∃ (f : Addr) (fd : FuncData), Fun K m qual st f fd ∧ Meth K C m f
section
variable {P : Program} {w : World} {K : PySem.W.Frag} {mg : Str → Option Value} {base : Heap} {CX : CXT} {a : Ad} {k : Nat} {x m qual : Str} {st : Stmt} {C : Addr} {ps : List Str} {sp : Sp}
theorem calOf (g : GF K mg x st) (ok : ∀ f fd, Fun K x x st f fd → FnOk P w K mg base CX k f fd ps sp) (b : ∀ f fd, Fun K x x st f fd → Binds K fd ps []) : Cal P w K mg base CX k x ps sp :=
  let ⟨f, fd, F, gm⟩ := g; ⟨f, fd, ok f fd F, b f fd F, gm, F.kp⟩
theorem makOf (g : GI K mg x C qual st) (ok : ∀ f fd, Fun K "__init__" qual st f fd → FnOk P w K mg base CX0 k f fd ps sp) (b : ∀ f fd, Fun K "__init__" qual st f fd → Binds K fd ps []) : Mak P w K mg base k x C ps sp :=
  let ⟨f, fd, F, M, gm⟩ := g; ⟨f, fd, ok f fd F, b f fd F, M, gm⟩
theorem metOf (g : GM K C m qual st) (c : Cls K C) (ok : ∀ f fd, Fun K m qual st f fd → FnOk P w K mg base CX0 k f fd ps sp) (b : ∀ f fd, Fun K m qual st f fd → Binds K fd ps []) : Met P w K mg base k C m ps sp :=
  let ⟨f, fd, F, M⟩ := g; ⟨f, fd, ok f fd F, b f fd F, M, c⟩
theorem planner_ok (T : Txt K mg a) (gF : GM K a.Planner "cheapest_from" "Planner.cheapest_from" s_pl_cheapest_from) (gA : GM K a.Planner "cheapest_of_all_sets" "Planner.cheapest_of_all_sets" s_pl_cheapest_of_all_sets)
    (gW : GM K a.Planner "cheapest_with" "Planner.cheapest_with" s_pl_cheapest_with) (c_cost_of_week : Cal P w K mg base CX0 8 "cost_of_week" p_cost_of_week (sp_cost_of_week K a)) (c_ages_after_week : Cal P w K mg base CX0 8 "ages_after_week" p_ages_after_week (sp_ages_after_week K)) :
    ∀ {n : Nat}, Met P w K mg base (8 + 6 * n) a.Planner "cheapest_from" p_pl_cheapest_from (sp_pl_cheapest_from P w a n)
  | 0 => by
    have m0 : Met P w K mg base 6 a.Planner "cheapest_of_all_sets" p_pl_cheapest_of_all_sets (fun _ _ _ _ => False) := metOf gA T.cPlanner (fun f fd F => F.ok sc_pl_cheapest_of_all_sets (fun _ _ _ _ h => h.elim) fun cdv A outer s H vs Q E hr h => h.elim) (fun f fd F => F.binds fun _ _ _ _ _ _ us hl => match us, hl with | [_, _, _], _ => rfl)
    exact metOf gF T.cPlanner (fun f fd F => fn0 (k := 6) F sc_pl_cheapest_from ln_pl_cheapest_from (fun cdv A outer s H E hr => der_pl_cheapest_from T m0 hr) (fun vs H Q E h => pu_pl_cheapest_from_zero h)) (fun f fd F => F.binds fun _ _ _ _ _ _ us hl => match us, hl with | [_, _, _], _ => rfl)
  | n + 1 => by
    have m0 := planner_ok T gF gA gW c_cost_of_week c_ages_after_week (n := n)
    have m1 : Met P w K mg base (10 + 6 * n) a.Planner "cheapest_with" p_pl_cheapest_with (sp_pl_cheapest_with P w a n) :=
      (metOf gW T.cPlanner (fun f fd F => fn0 (k := 8 + 6 * n) F sc_pl_cheapest_with ln_pl_cheapest_with (fun cdv A outer s H E hr => der_pl_cheapest_with T (c_cost_of_week.mono (by omega)) (c_ages_after_week.mono (by omega)) m0 hr) (fun vs H Q E h => pu_pl_cheapest_with T h)) (fun f fd F => F.binds fun _ _ _ _ _ _ us hl => match us, hl with | [_, _, _, _], _ => rfl)).mono (by omega)
    have m2 : Met P w K mg base (12 + 6 * n) a.Planner "cheapest_of_all_sets" p_pl_cheapest_of_all_sets (sp_pl_cheapest_of_all_sets P w a n) :=
      (metOf gA T.cPlanner (fun f fd F => fn0 (k := 10 + 6 * n) F sc_pl_cheapest_of_all_sets ln_pl_cheapest_of_all_sets (fun cdv A outer s H E hr => der_pl_cheapest_of_all_sets T m1 hr) (fun vs H Q E h => pu_pl_cheapest_of_all_sets T h)) (fun f fd F => F.binds fun _ _ _ _ _ _ us hl => match us, hl with | [_, _, _], _ => rfl)).mono (by omega)
    exact (metOf gF T.cPlanner (fun f fd F => fn0 (k := 12 + 6 * n) F sc_pl_cheapest_from ln_pl_cheapest_from (fun cdv A outer s H E hr => der_pl_cheapest_from T m2 hr) (fun vs H Q E h => pu_pl_cheapest_from T h)) (fun f fd F => F.binds fun _ _ _ _ _ _ us hl => match us, hl with | [_, _, _], _ => rfl)).mono (by omega)
theorem all_ok (T : Txt K mg a) (X : Exm K a) (g_week_cost : GF K mg "week_cost" s_week_cost) (g_period_cost : GF K mg "period_cost" s_period_cost) (g_lowest_terms : GF K mg "lowest_terms" s_lowest_terms) (g_mean_cost : GF K mg "mean_cost" s_mean_cost) (g_cheapest_period : GF K mg "cheapest_period" s_cheapest_period) (g_ages_now : GF K mg "ages_now" s_ages_now) (g_is_reground : GF K mg "is_reground" s_is_reground) (g_regrind : GF K mg "regrind" s_regrind) (g_cost_of_week : GF K mg "cost_of_week" s_cost_of_week) (g_ages_after_week : GF K mg "ages_after_week" s_ages_after_week) (g_cost_of_plan : GF K mg "cost_of_plan" s_cost_of_plan) (g_check_limits : GF K mg "check_limits" s_check_limits) (g_roll_at : GF K mg "roll_at" s_roll_at) (g_check_set : GF K mg "check_set" s_check_set) (g_cheapest : GF K mg "cheapest" s_cheapest) (g_execute_week : GF K mg "execute_week" s_execute_week) (g_create : GF K mg "create" s_create) (g_add_roll : GF K mg "add_roll" s_add_roll) (g_remove_roll : GF K mg "remove_roll" s_remove_roll) (g_set_age : GF K mg "set_age" s_set_age) (g_set_visit_cost : GF K mg "set_visit_cost" s_set_visit_cost) (g_get_roll : GF K mg "get_roll" s_get_roll) (g_mean_weekly_cost : GF K mg "mean_weekly_cost" s_mean_weekly_cost) (g_best_period : GF K mg "best_period" s_best_period) (g_cheapest_plan : GF K mg "cheapest_plan" s_cheapest_plan) (g_lowest_cost : GF K mg "lowest_cost" s_lowest_cost) (g_plan_cost : GF K mg "plan_cost" s_plan_cost) (g_run_week : GF K mg "run_week" s_run_week) (g_run_planned_week : GF K mg "run_planned_week" s_run_planned_week) (g_cost_without_regrinding : GF K mg "cost_without_regrinding" s_cost_without_regrinding) (g_cost_of_single_roll : GF K mg "cost_of_single_roll" s_cost_of_single_roll) (g_lowest_cost_for_visit : GF K mg "lowest_cost_for_visit" s_lowest_cost_for_visit) (g_joint_savings : GF K mg "joint_savings" s_joint_savings) (g_next_regrind : GF K mg "next_regrind" s_next_regrind) (g_has_rising_costs : GF K mg "has_rising_costs" s_has_rising_costs) (g_status : GF K mg "status" s_status) (g_operate_on_rolls : GF K mg "operate_on_rolls" s_operate_on_rolls) (g_operate_on_weeks : GF K mg "operate_on_weeks" s_operate_on_weeks) (g_operate : GF K mg "operate" s_operate) (g_answer : GF K mg "answer" s_answer) (g_split_calls : GF K mg "split_calls" s_split_calls) (gi_Roll : GI K mg "Roll" a.Roll "Roll.__init__" s_Roll_init) (gi_Mill : GI K mg "Mill" a.Mill "Mill.__init__" s_Mill_init) (gi_Request : GI K mg "Request" a.Request "Request.__init__" s_Request_init) (gi_Planner : GI K mg "Planner" a.Planner "Planner.__init__" s_Planner_init) (gm_cheapest : GM K a.Planner "cheapest" "Planner.cheapest" s_pl_cheapest) (gm_cheapest_from : GM K a.Planner "cheapest_from" "Planner.cheapest_from" s_pl_cheapest_from) (gm_cheapest_of_all_sets : GM K a.Planner "cheapest_of_all_sets" "Planner.cheapest_of_all_sets" s_pl_cheapest_of_all_sets) (gm_cheapest_with : GM K a.Planner "cheapest_with" "Planner.cheapest_with" s_pl_cheapest_with) :
    ∀ f fd, Fun K "answers" "answers" s_answers f fd → FnOk P w K mg base CX0 52 f fd p_answers (sp_answers K) := by
  have k_Roll : Mak P w K mg base 2 "Roll" a.Roll p_Roll_init (sp_Roll_init K a) := makOf gi_Roll (fun f fd F => fn0 F sc_Roll_init ln_Roll_init (fun cdv A outer s H E hr => der_Roll_init T  hr) (fun vs H Q E h => pu_Roll_init T h)) (fun f fd F => F.binds fun _ _ _ _ _ _ us hl => match us, hl with | [_, _, _], _ => rfl)
  have k_Mill : Mak P w K mg base 2 "Mill" a.Mill p_Mill_init (sp_Mill_init a) := makOf gi_Mill (fun f fd F => fn0 F sc_Mill_init ln_Mill_init (fun cdv A outer s H E hr => der_Mill_init T  hr) (fun vs H Q E h => pu_Mill_init T h)) (fun f fd F => F.binds fun _ _ _ _ _ _ us hl => match us, hl with | [_, _], _ => rfl)
  have k_Request : Mak P w K mg base 2 "Request" a.Request p_Request_init (sp_Request_init a) := makOf gi_Request (fun f fd F => fn0 F sc_Request_init ln_Request_init (fun cdv A outer s H E hr => der_Request_init T  hr) (fun vs H Q E h => pu_Request_init T h)) (fun f fd F => F.binds fun _ _ _ _ _ _ us hl => match us, hl with | [_], _ => rfl)
  have c_week_cost : Cal P w K mg base CX0 2 "week_cost" p_week_cost (sp_week_cost a) := calOf g_week_cost (fun f fd F => fn0 F sc_week_cost ln_week_cost (fun cdv A outer s H E hr => der_week_cost T  hr) (fun vs H Q E h => pu_week_cost T h)) (fun f fd F => F.binds fun _ _ _ _ _ _ us hl => match us, hl with | [_, _], _ => rfl)
  have c_period_cost : Cal P w K mg base CX0 4 "period_cost" p_period_cost (sp_period_cost a) := calOf g_period_cost (fun f fd F => fn0 F sc_period_cost ln_period_cost (fun cdv A outer s H E hr => der_period_cost T (c_week_cost := c_week_cost.mono (by decide)) hr) (fun vs H Q E h => pu_period_cost T h)) (fun f fd F => F.binds fun _ _ _ _ _ _ us hl => match us, hl with | [_, _, _], _ => rfl)
  have c_lowest_terms : Cal P w K mg base CX0 2 "lowest_terms" p_lowest_terms sp_lowest_terms := calOf g_lowest_terms (fun f fd F => fn0 F sc_lowest_terms ln_lowest_terms (fun cdv A outer s H E hr => der_lowest_terms T  hr) (fun vs H Q E h => pu_lowest_terms h)) (fun f fd F => F.binds fun _ _ _ _ _ _ us hl => match us, hl with | [_, _], _ => rfl)
  have c_mean_cost : Cal P w K mg base CX0 6 "mean_cost" p_mean_cost (sp_mean_cost a) := calOf g_mean_cost (fun f fd F => fn0 F sc_mean_cost ln_mean_cost (fun cdv A outer s H E hr => der_mean_cost T (c_period_cost := c_period_cost.mono (by decide)) (c_lowest_terms := c_lowest_terms.mono (by decide)) hr) (fun vs H Q E h => pu_mean_cost h)) (fun f fd F => F.binds fun _ _ _ _ _ _ us hl => match us, hl with | [_, _, _], _ => rfl)
  have c_cheapest_period : Cal P w K mg base CX0 6 "cheapest_period" p_cheapest_period (sp_cheapest_period a) := calOf g_cheapest_period (fun f fd F => fn0 F sc_cheapest_period ln_cheapest_period (fun cdv A outer s H E hr => der_cheapest_period T (c_period_cost := c_period_cost.mono (by decide)) hr) (fun vs H Q E h => pu_cheapest_period h)) (fun f fd F => F.binds fun _ _ _ _ _ _ us hl => match us, hl with | [_, _], _ => rfl)
  have c_ages_now : Cal P w K mg base CX0 2 "ages_now" p_ages_now (sp_ages_now a) := calOf g_ages_now (fun f fd F => fn0 F sc_ages_now ln_ages_now (fun cdv A outer s H E hr => der_ages_now T  hr) (fun vs H Q E h => pu_ages_now T h)) (fun f fd F => F.binds fun _ _ _ _ _ _ us hl => match us, hl with | [_], _ => rfl)
  have c_is_reground : Cal P w K mg base CX0 2 "is_reground" p_is_reground sp_is_reground := calOf g_is_reground (fun f fd F => fn0 F sc_is_reground ln_is_reground (fun cdv A outer s H E hr => der_is_reground T  hr) (fun vs H Q E h => pu_is_reground h)) (fun f fd F => F.binds fun _ _ _ _ _ _ us hl => match us, hl with | [_, _], _ => rfl)
  have c_regrind : Cal P w K mg base CX0 4 "regrind" p_regrind (sp_regrind K) := calOf g_regrind (fun f fd F => fn0 F sc_regrind ln_regrind (fun cdv A outer s H E hr => der_regrind T (c_is_reground := c_is_reground.mono (by decide)) hr) (fun vs H Q E h => pu_regrind h)) (fun f fd F => F.binds fun _ _ _ _ _ _ us hl => match us, hl with | [_, _], _ => rfl)
  have c_cost_of_week : Cal P w K mg base CX0 6 "cost_of_week" p_cost_of_week (sp_cost_of_week K a) := calOf g_cost_of_week (fun f fd F => fn0 F sc_cost_of_week ln_cost_of_week (fun cdv A outer s H E hr => der_cost_of_week T (c_regrind := c_regrind.mono (by decide)) (c_is_reground := c_is_reground.mono (by decide)) (c_week_cost := c_week_cost.mono (by decide)) hr) (fun vs H Q E h => pu_cost_of_week T h)) (fun f fd F => F.binds fun _ _ _ _ _ _ us hl => match us, hl with | [_, _, _, _], _ => rfl)
  have c_ages_after_week : Cal P w K mg base CX0 6 "ages_after_week" p_ages_after_week (sp_ages_after_week K) := calOf g_ages_after_week (fun f fd F => fn0 F sc_ages_after_week ln_ages_after_week (fun cdv A outer s H E hr => der_ages_after_week T (c_regrind := c_regrind.mono (by decide)) hr) (fun vs H Q E h => pu_ages_after_week h)) (fun f fd F => F.binds fun _ _ _ _ _ _ us hl => match us, hl with | [_, _], _ => rfl)
  have c_cost_of_plan : Cal P w K mg base CX0 8 "cost_of_plan" p_cost_of_plan (sp_cost_of_plan K a) := calOf g_cost_of_plan (fun f fd F => fn0 F sc_cost_of_plan ln_cost_of_plan (fun cdv A outer s H E hr => der_cost_of_plan T (c_ages_now := c_ages_now.mono (by decide)) (c_cost_of_week := c_cost_of_week.mono (by decide)) (c_ages_after_week := c_ages_after_week.mono (by decide)) hr) (fun vs H Q E h => pu_cost_of_plan h)) (fun f fd F => F.binds fun _ _ _ _ _ _ us hl => match us, hl with | [_, _, _], _ => rfl)
  have k_Planner : Mak P w K mg base 2 "Planner" a.Planner p_Planner_init (sp_Planner_init P w a) := makOf gi_Planner (fun f fd F => fn0 F sc_Planner_init ln_Planner_init (fun cdv A outer s H E hr => der_Planner_init T  hr) (fun vs H Q E h => pu_Planner_init T h)) (fun f fd F => F.binds fun _ _ _ _ _ _ us hl => match us, hl with | [_, _, _], _ => rfl)
  have m_cheapest_from := planner_ok (n := 5) T gm_cheapest_from gm_cheapest_of_all_sets gm_cheapest_with (c_cost_of_week.mono (by decide)) (c_ages_after_week.mono (by decide))
  have m_cheapest : Met P w K mg base 40 a.Planner "cheapest" p_pl_cheapest (sp_pl_cheapest P w a) := metOf gm_cheapest T.cPlanner (fun f fd F => fn0 F sc_pl_cheapest ln_pl_cheapest (fun cdv A outer s H E hr => der_pl_cheapest T (c_ages_now := c_ages_now.mono (by decide)) (m_cheapest_from := m_cheapest_from.mono (by decide)) hr) (fun vs H Q E h => pu_pl_cheapest T h)) (fun f fd F => F.binds fun _ _ _ _ _ _ us hl => match us, hl with | [_, _], _ => rfl)
  have c_check_limits : Cal P w K mg base (L2.CX P w) 2 "check_limits" p_check_limits (sp_check_limits a) := calOf g_check_limits (fun f fd F => fnX F sc_check_limits ln_check_limits (fun cdv A outer s H E hr => der_check_limits T  hr) (fun vs H Q E h => pu_check_limits h)) (fun f fd F => F.binds fun _ _ _ _ _ _ us hl => match us, hl with | [_, _, _], _ => rfl)
  have c_check_limits_0 : Cal P w K mg base CX0 2 "check_limits" p_check_limits sp_check_limits_0 := calOf g_check_limits (fun f fd F => fn0 F sc_check_limits ln_check_limits_0 (fun cdv A outer s H E hr => der_check_limits_0 T  hr) (fun vs H Q E h => pu_check_limits_0 h)) (fun f fd F => F.binds fun _ _ _ _ _ _ us hl => match us, hl with | [_, _, _], _ => rfl)
  have c_roll_at : Cal P w K mg base (L2.CX P w) 2 "roll_at" p_roll_at (sp_roll_at a) := calOf g_roll_at (fun f fd F => fnX F sc_roll_at ln_roll_at (fun cdv A outer s H E hr => der_roll_at T  hr) (fun vs H Q E h => pu_roll_at T h)) (fun f fd F => F.binds fun _ _ _ _ _ _ us hl => match us, hl with | [_, _], _ => rfl)
  have c_check_set : Cal P w K mg base (L2.CX P w) 4 "check_set" p_check_set (sp_check_set a) := calOf g_check_set (fun f fd F => fnX F sc_check_set ln_check_set (fun cdv A outer s H E hr => der_check_set T (c_check_limits := c_check_limits.mono (by decide)) hr) (fun vs H Q E h => pu_check_set T h)) (fun f fd F => F.binds fun _ _ _ _ _ _ us hl => match us, hl with | [_, _], _ => rfl)
  have c_cheapest : Cal P w K mg base (L2.CX P w) 42 "cheapest" p_cheapest (sp_cheapest a) := calOf g_cheapest (fun f fd F => fnX F sc_cheapest ln_cheapest (fun cdv A outer s H E hr => der_cheapest T (c_check_limits := c_check_limits.mono (by decide)) (k_Planner := k_Planner.mono (by decide)) (m_cheapest := m_cheapest.mono (by decide)) hr) (fun vs H Q E h => pu_cheapest h)) (fun f fd F => F.binds fun _ _ _ _ _ _ us hl => match us, hl with | [_, _, _], _ => rfl)
  have c_cheapest_0 : Cal P w K mg base CX0 42 "cheapest" p_cheapest (sp_cheapest_0 a) := calOf g_cheapest (fun f fd F => fn0 F sc_cheapest ln_cheapest_0 (fun cdv A outer s H E hr => der_cheapest_0 T (c_check_limits_0 := c_check_limits_0.mono (by decide)) (k_Planner := k_Planner.mono (by decide)) (m_cheapest := m_cheapest.mono (by decide)) hr) (fun vs H Q E h => pu_cheapest_0 h)) (fun f fd F => F.binds fun _ _ _ _ _ _ us hl => match us, hl with | [_, _, _], _ => rfl)
  have c_execute_week : Cal P w K mg base CX0 8 "execute_week" p_execute_week (sp_execute_week a) := calOf g_execute_week (fun f fd F => fn0 F sc_execute_week ln_execute_week (fun cdv A outer s H E hr => der_execute_week T (c_ages_now := c_ages_now.mono (by decide)) (c_cost_of_week := c_cost_of_week.mono (by decide)) (c_ages_after_week := c_ages_after_week.mono (by decide)) hr) (fun vs H Q E h => pu_execute_week T h)) (fun f fd F => F.binds fun _ _ _ _ _ _ us hl => match us, hl with | [_, _], _ => rfl)
  have c_create : Cal P w K mg base (L2.CX P w) 4 "create" p_create (sp_create a) := calOf g_create (fun f fd F => fnX F sc_create ln_create (fun cdv A outer s H E hr => der_create T (c_check_limits := c_check_limits.mono (by decide)) (k_Mill := k_Mill.mono (by decide)) hr) (fun vs H Q E h => pu_create T h)) (fun f fd F => F.binds fun _ _ _ _ _ _ us hl => match us, hl with | [_, _], _ => rfl)
  have c_add_roll : Cal P w K mg base (L2.CX P w) 4 "add_roll" p_add_roll (sp_add_roll K a) := calOf g_add_roll (fun f fd F => fnX F sc_add_roll ln_add_roll (fun cdv A outer s H E hr => der_add_roll T (c_check_limits := c_check_limits.mono (by decide)) (k_Roll := k_Roll.mono (by decide)) hr) (fun vs H Q E h => pu_add_roll T h)) (fun f fd F => F.binds fun _ _ _ _ _ _ us hl => match us, hl with | [_, _, _], _ => rfl)
  have c_remove_roll : Cal P w K mg base (L2.CX P w) 4 "remove_roll" p_remove_roll (sp_remove_roll a) := calOf g_remove_roll (fun f fd F => fnX F sc_remove_roll ln_remove_roll (fun cdv A outer s H E hr => der_remove_roll T (c_roll_at := c_roll_at.mono (by decide)) hr) (fun vs H Q E h => pu_remove_roll T h)) (fun f fd F => F.binds fun _ _ _ _ _ _ us hl => match us, hl with | [_, _], _ => rfl)
  have c_set_age : Cal P w K mg base (L2.CX P w) 4 "set_age" p_set_age (sp_set_age a) := calOf g_set_age (fun f fd F => fnX F sc_set_age ln_set_age (fun cdv A outer s H E hr => der_set_age T (c_roll_at := c_roll_at.mono (by decide)) (c_check_limits := c_check_limits.mono (by decide)) hr) (fun vs H Q E h => pu_set_age T h)) (fun f fd F => F.binds fun _ _ _ _ _ _ us hl => match us, hl with | [_, _, _], _ => rfl)
  have c_set_visit_cost : Cal P w K mg base (L2.CX P w) 4 "set_visit_cost" p_set_visit_cost (sp_set_visit_cost a) := calOf g_set_visit_cost (fun f fd F => fnX F sc_set_visit_cost ln_set_visit_cost (fun cdv A outer s H E hr => der_set_visit_cost T (c_check_limits := c_check_limits.mono (by decide)) hr) (fun vs H Q E h => pu_set_visit_cost T h)) (fun f fd F => F.binds fun _ _ _ _ _ _ us hl => match us, hl with | [_, _], _ => rfl)
  have c_get_roll : Cal P w K mg base (L2.CX P w) 4 "get_roll" p_get_roll (sp_get_roll a) := calOf g_get_roll (fun f fd F => fnX F sc_get_roll ln_get_roll (fun cdv A outer s H E hr => der_get_roll T (c_roll_at := c_roll_at.mono (by decide)) hr) (fun vs H Q E h => pu_get_roll T h)) (fun f fd F => F.binds fun _ _ _ _ _ _ us hl => match us, hl with | [_, _], _ => rfl)
  have c_mean_weekly_cost : Cal P w K mg base (L2.CX P w) 8 "mean_weekly_cost" p_mean_weekly_cost (sp_mean_weekly_cost a) := calOf g_mean_weekly_cost (fun f fd F => fnX F sc_mean_weekly_cost ln_mean_weekly_cost (fun cdv A outer s H E hr => der_mean_weekly_cost T (c_roll_at := c_roll_at.mono (by decide)) (c_check_limits := c_check_limits.mono (by decide)) (c_mean_cost := c_mean_cost.mono (by decide)) hr) (fun vs H Q E h => pu_mean_weekly_cost T h)) (fun f fd F => F.binds fun _ _ _ _ _ _ us hl => match us, hl with | [_, _, _], _ => rfl)
  have c_best_period : Cal P w K mg base (L2.CX P w) 8 "best_period" p_best_period (sp_best_period a) := calOf g_best_period (fun f fd F => fnX F sc_best_period ln_best_period (fun cdv A outer s H E hr => der_best_period T (c_roll_at := c_roll_at.mono (by decide)) (c_cheapest_period := c_cheapest_period.mono (by decide)) (c_mean_cost := c_mean_cost.mono (by decide)) hr) (fun vs H Q E h => pu_best_period T h)) (fun f fd F => F.binds fun _ _ _ _ _ _ us hl => match us, hl with | [_, _], _ => rfl)
  have c_cheapest_plan : Cal P w K mg base (L2.CX P w) 44 "cheapest_plan" p_cheapest_plan (sp_cheapest_plan a) := calOf g_cheapest_plan (fun f fd F => fnX F sc_cheapest_plan ln_cheapest_plan (fun cdv A outer s H E hr => der_cheapest_plan T (c_cheapest := c_cheapest.mono (by decide)) hr) (fun vs H Q E h => pu_cheapest_plan T h)) (fun f fd F => F.binds fun _ _ _ _ _ _ us hl => match us, hl with | [_, _], _ => rfl)
  have c_lowest_cost : Cal P w K mg base (L2.CX P w) 44 "lowest_cost" p_lowest_cost (sp_lowest_cost a) := calOf g_lowest_cost (fun f fd F => fnX F sc_lowest_cost ln_lowest_cost (fun cdv A outer s H E hr => der_lowest_cost T (c_cheapest := c_cheapest.mono (by decide)) hr) (fun vs H Q E h => pu_lowest_cost T h)) (fun f fd F => F.binds fun _ _ _ _ _ _ us hl => match us, hl with | [_, _], _ => rfl)
  have c_plan_cost : Cal P w K mg base (L2.CX P w) 10 "plan_cost" p_plan_cost (sp_plan_cost K a) := calOf g_plan_cost (fun f fd F => fnX F sc_plan_cost ln_plan_cost (fun cdv A outer s H E hr => der_plan_cost T (c_check_limits := c_check_limits.mono (by decide)) (c_check_set := c_check_set.mono (by decide)) (c_cost_of_plan := c_cost_of_plan.mono (by decide)) hr) (fun vs H Q E h => pu_plan_cost T h)) (fun f fd F => F.binds fun _ _ _ _ _ _ us hl => match us, hl with | [_, _], _ => rfl)
  have c_run_week : Cal P w K mg base (L2.CX P w) 10 "run_week" p_run_week (sp_run_week a) := calOf g_run_week (fun f fd F => fnX F sc_run_week ln_run_week (fun cdv A outer s H E hr => der_run_week T (c_check_set := c_check_set.mono (by decide)) (c_execute_week := c_execute_week.mono (by decide)) hr) (fun vs H Q E h => pu_run_week h)) (fun f fd F => F.binds fun _ _ _ _ _ _ us hl => match us, hl with | [_, _], _ => rfl)
  have c_run_planned_week : Cal P w K mg base (L2.CX P w) 44 "run_planned_week" p_run_planned_week (sp_run_planned_week a) := calOf g_run_planned_week (fun f fd F => fnX F sc_run_planned_week ln_run_planned_week (fun cdv A outer s H E hr => der_run_planned_week T (c_check_limits := c_check_limits.mono (by decide)) (c_cheapest := c_cheapest.mono (by decide)) (c_execute_week := c_execute_week.mono (by decide)) hr) (fun vs H Q E h => pu_run_planned_week T h)) (fun f fd F => F.binds fun _ _ _ _ _ _ us hl => match us, hl with | [_, _], _ => rfl)
  have c_cost_without_regrinding : Cal P w K mg base (L2.CX P w) 10 "cost_without_regrinding" p_cost_without_regrinding (sp_cost_without_regrinding a) := calOf g_cost_without_regrinding (fun f fd F => fnX F sc_cost_without_regrinding ln_cost_without_regrinding (fun cdv A outer s H E hr => der_cost_without_regrinding T (c_check_limits := c_check_limits.mono (by decide)) (c_cost_of_plan := c_cost_of_plan.mono (by decide)) hr) (fun vs H Q E h => pu_cost_without_regrinding T h)) (fun f fd F => F.binds fun _ _ _ _ _ _ us hl => match us, hl with | [_, _], _ => rfl)
  have c_cost_of_single_roll : Cal P w K mg base (L2.CX P w) 44 "cost_of_single_roll" p_cost_of_single_roll (sp_cost_of_single_roll a) := calOf g_cost_of_single_roll (fun f fd F => fnX F sc_cost_of_single_roll ln_cost_of_single_roll (fun cdv A outer s H E hr => der_cost_of_single_roll T (c_roll_at := c_roll_at.mono (by decide)) (c_cheapest := c_cheapest.mono (by decide)) hr) (fun vs H Q E h => pu_cost_of_single_roll T h)) (fun f fd F => F.binds fun _ _ _ _ _ _ us hl => match us, hl with | [_, _, _], _ => rfl)
  have c_lowest_cost_for_visit : Cal P w K mg base (L2.CX P w) 44 "lowest_cost_for_visit" p_lowest_cost_for_visit (sp_lowest_cost_for_visit a) := calOf g_lowest_cost_for_visit (fun f fd F => fnX F sc_lowest_cost_for_visit ln_lowest_cost_for_visit (fun cdv A outer s H E hr => der_lowest_cost_for_visit T (c_check_limits := c_check_limits.mono (by decide)) (c_cheapest := c_cheapest.mono (by decide)) hr) (fun vs H Q E h => pu_lowest_cost_for_visit T h)) (fun f fd F => F.binds fun _ _ _ _ _ _ us hl => match us, hl with | [_, _, _], _ => rfl)
  have c_joint_savings : Cal P w K mg base (L2.CX P w) 44 "joint_savings" p_joint_savings (sp_joint_savings a) := calOf g_joint_savings (fun f fd F => fnX F sc_joint_savings ln_joint_savings (fun cdv A outer s H E hr => der_joint_savings T (c_cheapest := c_cheapest.mono (by decide)) (c_cheapest_0 := c_cheapest_0.mono (by decide)) hr) (fun vs H Q E h => pu_joint_savings T h)) (fun f fd F => F.binds fun _ _ _ _ _ _ us hl => match us, hl with | [_, _], _ => rfl)
  have c_next_regrind : Cal P w K mg base (L2.CX P w) 44 "next_regrind" p_next_regrind (sp_next_regrind a) := calOf g_next_regrind (fun f fd F => fnX F sc_next_regrind ln_next_regrind (fun cdv A outer s H E hr => der_next_regrind T (c_roll_at := c_roll_at.mono (by decide)) (c_cheapest := c_cheapest.mono (by decide)) (c_is_reground := c_is_reground.mono (by decide)) hr) (fun vs H Q E h => pu_next_regrind T h)) (fun f fd F => F.binds fun _ _ _ _ _ _ us hl => match us, hl with | [_, _, _], _ => rfl)
  have c_has_rising_costs : Cal P w K mg base (L2.CX P w) 4 "has_rising_costs" p_has_rising_costs (sp_has_rising_costs a) := calOf g_has_rising_costs (fun f fd F => fnX F sc_has_rising_costs ln_has_rising_costs (fun cdv A outer s H E hr => der_has_rising_costs T (c_roll_at := c_roll_at.mono (by decide)) hr) (fun vs H Q E h => pu_has_rising_costs T h)) (fun f fd F => F.binds fun _ _ _ _ _ _ us hl => match us, hl with | [_, _], _ => rfl)
  have c_status : Cal P w K mg base CX0 2 "status" p_status (sp_status a) := calOf g_status (fun f fd F => fn0 F sc_status ln_status (fun cdv A outer s H E hr => der_status T  hr) (fun vs H Q E h => pu_status T h)) (fun f fd F => F.binds fun _ _ _ _ _ _ us hl => match us, hl with | [_], _ => rfl)
  have c_operate_on_rolls : Cal P w K mg base (L2.CX P w) 10 "operate_on_rolls" p_operate_on_rolls (sp_operate_on_rolls K a) := calOf g_operate_on_rolls (fun f fd F => fnX F sc_operate_on_rolls ln_operate_on_rolls (fun cdv A outer s H E hr => der_operate_on_rolls T (c_add_roll := c_add_roll.mono (by decide)) (c_remove_roll := c_remove_roll.mono (by decide)) (c_set_age := c_set_age.mono (by decide)) (c_set_visit_cost := c_set_visit_cost.mono (by decide)) (c_get_roll := c_get_roll.mono (by decide)) (c_mean_weekly_cost := c_mean_weekly_cost.mono (by decide)) (c_best_period := c_best_period.mono (by decide)) (c_has_rising_costs := c_has_rising_costs.mono (by decide)) (c_status := c_status.mono (by decide)) hr) (fun vs H Q E h => pu_operate_on_rolls h)) (fun f fd F => F.binds fun _ _ _ _ _ _ us hl => match us, hl with | [_, _, _], _ => rfl)
  have c_operate_on_weeks : Cal P w K mg base (L2.CX P w) 46 "operate_on_weeks" p_operate_on_weeks (sp_operate_on_weeks K a) := calOf g_operate_on_weeks (fun f fd F => fnX F sc_operate_on_weeks ln_operate_on_weeks (fun cdv A outer s H E hr => der_operate_on_weeks T (c_cheapest_plan := c_cheapest_plan.mono (by decide)) (c_lowest_cost := c_lowest_cost.mono (by decide)) (c_plan_cost := c_plan_cost.mono (by decide)) (c_run_week := c_run_week.mono (by decide)) (c_run_planned_week := c_run_planned_week.mono (by decide)) (c_cost_without_regrinding := c_cost_without_regrinding.mono (by decide)) (c_cost_of_single_roll := c_cost_of_single_roll.mono (by decide)) (c_lowest_cost_for_visit := c_lowest_cost_for_visit.mono (by decide)) (c_joint_savings := c_joint_savings.mono (by decide)) (c_next_regrind := c_next_regrind.mono (by decide)) hr) (fun vs H Q E h => pu_operate_on_weeks h)) (fun f fd F => F.binds fun _ _ _ _ _ _ us hl => match us, hl with | [_, _, _], _ => rfl)
  have c_operate : Cal P w K mg base (L2.CX P w) 48 "operate" p_operate (sp_operate K a) := calOf g_operate (fun f fd F => fnX F sc_operate ln_operate (fun cdv A outer s H E hr => der_operate T (c_create := c_create.mono (by decide)) (c_operate_on_weeks := c_operate_on_weeks.mono (by decide)) (c_operate_on_rolls := c_operate_on_rolls.mono (by decide)) hr) (fun vs H Q E h => pu_operate T h)) (fun f fd F => F.binds fun _ _ _ _ _ _ us hl => match us, hl with | [_, _, _], _ => rfl)
  have c_answer : Cal P w K mg base CX0 50 "answer" p_answer (sp_answer K a) := calOf g_answer (fun f fd F => fn0 F sc_answer ln_answer (fun cdv A outer s H E hr => der_answer T (c_operate := c_operate.mono (by decide)) hr) (fun vs H Q E h => pu_answer X h)) (fun f fd F => F.binds fun _ _ _ _ _ _ us hl => match us, hl with | [_, _, _], _ => rfl)
  have c_split_calls : Cal P w K mg base CX0 2 "split_calls" p_split_calls (sp_split_calls K) := calOf g_split_calls (fun f fd F => fn0 F sc_split_calls ln_split_calls (fun cdv A outer s H E hr => der_split_calls T  hr) (fun vs H Q E h => pu_split_calls h)) (fun f fd F => F.binds fun _ _ _ _ _ _ us hl => match us, hl with | [_], _ => rfl)
  exact (fun f fd F => fn0 F sc_answers ln_answers (fun cdv A outer s H E hr => der_answers T (k_Request := k_Request.mono (by decide)) (c_split_calls := c_split_calls.mono (by decide)) (c_answer := c_answer.mono (by decide)) hr) (fun vs H Q E h => pu_answers h))
end
end Rg

/-! what the top has written; the theorem -/
namespace Rg
open PySem PySem.Spec PyProof.Rows L2 RgC
section
variable {P : Program} {w : World} {K : PySem.W.Frag} {h : Heap} {mg : Str → Option Value} {x m qual : Str} {st : Stmt} {f C : Addr} {od an : Option Addr} {sl : Array (Option Value)} {oc kV dc pm cd ct : Value}
theorem mkF (X : K.In h) (G : h.Ns mainGlobals mg) (a : PySem.W.nsIn K mainGlobals x = some (some (.ref f))) (l : K.lookup f = some ⟨oc, od, .func (PySem.W.fnOf x x (defArgs st) (defBody st) (defScope st) .none kV dc pm an cd ct), sl⟩) (c : PySem.W.codeIn K cd x = true) (k : PySem.W.keepIn K (.ref f) = true) : GF K mg x st :=
  ⟨f, _, fun_mk l c k, PySem.W.mg_of X G a⟩
theorem mkI (X : K.In h) (G : h.Ns mainGlobals mg) (a : PySem.W.nsIn K mainGlobals x = some (some (.ref C))) (mk : PySem.W.makesIn K C = true) (i : PySem.W.findIn K (.ref C) "__init__" = some (some (.ref f))) (n : PySem.W.isFn K (.ref f) = true) (kc : PySem.W.keepIn K (.ref C) = true)
    (l : K.lookup f = some ⟨oc, od, .func (PySem.W.fnOf "__init__" qual (defArgs st) (defBody st) (defScope st) .none kV dc pm an cd ct), sl⟩) (c : PySem.W.codeIn K cd qual = true) (k : PySem.W.keepIn K (.ref f) = true) : GI K mg x C qual st :=
  ⟨f, _, fun_mk l c k, ⟨mk, i, n, kc⟩, PySem.W.mg_of X G a⟩
theorem mkM (i : PySem.W.findIn K (.ref C) m = some (some (.ref f))) (n : PySem.W.isFn K (.ref f) = true) (l : K.lookup f = some ⟨oc, od, .func (PySem.W.fnOf m qual (defArgs st) (defBody st) (defScope st) .none kV dc pm an cd ct), sl⟩) (c : PySem.W.codeIn K cd qual = true) (k : PySem.W.keepIn K (.ref f) = true) : GM K C m qual st :=
  ⟨f, _, fun_mk l c k, ⟨i, n, k⟩⟩
theorem exm2 {S S' : Addr} {b : Bool} (h1 : PySem.W.subIn K (.ref S') (.type "BaseException") = some true) (h2 : PySem.W.isClsIn K S' = true) (h3 : PySem.W.typeIn K (.ref S') = some (.type "type")) (h4 : PySem.W.subIn K (.ref S) (.ref S') = some b) : PySem.W.exmOne K (.ref S) (.ref S') = some b := by
  have e1 : (PySem.W.subIn K (.ref S') (.type "BaseException") == some true) = true := by rw [h1] <;> rfl
  have e2 : ((PySem.W.clsIn K S').isSome && PySem.W.typeIn K (.ref S') == some (.type "type")) = true := by
    have h2' : (PySem.W.clsIn K S').isSome = true := h2
    rw [h2', h3] <;> rfl
  show (if (PySem.W.subIn K (.ref S') (.type "BaseException") == some true) = true then (if ((PySem.W.clsIn K S').isSome && PySem.W.typeIn K (.ref S') == some (.type "type")) = true then PySem.W.subIn K (.ref S) (.ref S') else none) else none) = some b
  rw [if_pos e1, if_pos e2]
  exact h4
theorem end_mk {Roll Mill Request Planner NoMill NoRoll OutsideLimits TooManyRolls NeverReground : Addr} {t_LONGEST_PERIOD t_MOST_ROLLS t_MOST_WEEKLY_COSTS t_HIGHEST_COST t_HIGHEST_WEEKLY_COST t_HIGHEST_AGE t_MOST_WEEKS : Tok} {fa : Addr} (X : K.In h) (G : h.Ns mainGlobals mg) (hfa : mg "answers" = some (.ref fa))
    (aRoll : PySem.W.nsIn K mainGlobals "Roll" = some (some (.ref Roll)))
    (aMill : PySem.W.nsIn K mainGlobals "Mill" = some (some (.ref Mill)))
    (aRequest : PySem.W.nsIn K mainGlobals "Request" = some (some (.ref Request)))
    (aPlanner : PySem.W.nsIn K mainGlobals "Planner" = some (some (.ref Planner)))
    (aNoMill : PySem.W.nsIn K mainGlobals "NoMill" = some (some (.ref NoMill)))
    (aNoRoll : PySem.W.nsIn K mainGlobals "NoRoll" = some (some (.ref NoRoll)))
    (aOutsideLimits : PySem.W.nsIn K mainGlobals "OutsideLimits" = some (some (.ref OutsideLimits)))
    (aTooManyRolls : PySem.W.nsIn K mainGlobals "TooManyRolls" = some (some (.ref TooManyRolls)))
    (aNeverReground : PySem.W.nsIn K mainGlobals "NeverReground" = some (some (.ref NeverReground)))
    (pgRoll : PySem.W.plainGet K Roll Str.empty = true)
    (hdRoll : PySem.W.hasDictIn K Roll = true)
    (poRoll : PySem.W.plainOver K Roll = true)
    (saRoll : PySem.W.findIn K (.ref Roll) "__setattr__" = some (some (.builtin "object.__setattr__")))
    (nRoll_age : PySem.W.findIn K (.ref Roll) "age" = some none)
    (nRoll_regrind_cost : PySem.W.findIn K (.ref Roll) "regrind_cost" = some none)
    (nRoll_weekly_costs : PySem.W.findIn K (.ref Roll) "weekly_costs" = some none)
    (pgMill : PySem.W.plainGet K Mill Str.empty = true)
    (hdMill : PySem.W.hasDictIn K Mill = true)
    (poMill : PySem.W.plainOver K Mill = true)
    (saMill : PySem.W.findIn K (.ref Mill) "__setattr__" = some (some (.builtin "object.__setattr__")))
    (nMill_rolls : PySem.W.findIn K (.ref Mill) "rolls" = some none)
    (nMill_visit_cost : PySem.W.findIn K (.ref Mill) "visit_cost" = some none)
    (nMill_spent : PySem.W.findIn K (.ref Mill) "spent" = some none)
    (nMill_week_count : PySem.W.findIn K (.ref Mill) "week_count" = some none)
    (pgRequest : PySem.W.plainGet K Request Str.empty = true)
    (hdRequest : PySem.W.hasDictIn K Request = true)
    (poRequest : PySem.W.plainOver K Request = true)
    (saRequest : PySem.W.findIn K (.ref Request) "__setattr__" = some (some (.builtin "object.__setattr__")))
    (nRequest_mill : PySem.W.findIn K (.ref Request) "mill" = some none)
    (pgPlanner : PySem.W.plainGet K Planner Str.empty = true)
    (hdPlanner : PySem.W.hasDictIn K Planner = true)
    (poPlanner : PySem.W.plainOver K Planner = true)
    (saPlanner : PySem.W.findIn K (.ref Planner) "__setattr__" = some (some (.builtin "object.__setattr__")))
    (nPlanner_rolls : PySem.W.findIn K (.ref Planner) "rolls" = some none)
    (nPlanner_visit_cost : PySem.W.findIn K (.ref Planner) "visit_cost" = some none)
    (nPlanner_known : PySem.W.findIn K (.ref Planner) "known" = some none)
    (b_len : PySem.W.nsIn K mainGlobals "len" = some none)
    (b_min : PySem.W.nsIn K mainGlobals "min" = some none)
    (b_sum : PySem.W.nsIn K mainGlobals "sum" = some none)
    (b_list : PySem.W.nsIn K mainGlobals "list" = some none)
    (b_tuple : PySem.W.nsIn K mainGlobals "tuple" = some none)
    (b_range : PySem.W.nsIn K mainGlobals "range" = some none)
    (b_enumerate : PySem.W.nsIn K mainGlobals "enumerate" = some none)
    (b_zip : PySem.W.nsIn K mainGlobals "zip" = some none)
    (k_LONGEST_PERIOD : PySem.W.nsIn K mainGlobals "LONGEST_PERIOD" = some (some (.int 24 t_LONGEST_PERIOD)))
    (k_MOST_ROLLS : PySem.W.nsIn K mainGlobals "MOST_ROLLS" = some (some (.int 3 t_MOST_ROLLS)))
    (k_MOST_WEEKLY_COSTS : PySem.W.nsIn K mainGlobals "MOST_WEEKLY_COSTS" = some (some (.int 8 t_MOST_WEEKLY_COSTS)))
    (k_HIGHEST_COST : PySem.W.nsIn K mainGlobals "HIGHEST_COST" = some (some (.int 999 t_HIGHEST_COST)))
    (k_HIGHEST_WEEKLY_COST : PySem.W.nsIn K mainGlobals "HIGHEST_WEEKLY_COST" = some (some (.int 99 t_HIGHEST_WEEKLY_COST)))
    (k_HIGHEST_AGE : PySem.W.nsIn K mainGlobals "HIGHEST_AGE" = some (some (.int 99 t_HIGHEST_AGE)))
    (k_MOST_WEEKS : PySem.W.nsIn K mainGlobals "MOST_WEEKS" = some (some (.int 5 t_MOST_WEEKS)))
    (xNoMill : PySem.W.excIn K NoMill [.type "Exception", .type "BaseException", .type "object"] "Exception.__new__" = true)
    (kkNoMill : PySem.W.keepIn K (.ref NoMill) = true)
    (bbNoMill : PySem.W.subIn K (.ref NoMill) (.type "BaseException") = some true)
    (ttNoMill : PySem.W.typeIn K (.ref NoMill) = some (.type "type"))
    (iiNoMill : PySem.W.isClsIn K NoMill = true)
    (xNoRoll : PySem.W.excIn K NoRoll [.type "Exception", .type "BaseException", .type "object"] "Exception.__new__" = true)
    (kkNoRoll : PySem.W.keepIn K (.ref NoRoll) = true)
    (bbNoRoll : PySem.W.subIn K (.ref NoRoll) (.type "BaseException") = some true)
    (ttNoRoll : PySem.W.typeIn K (.ref NoRoll) = some (.type "type"))
    (iiNoRoll : PySem.W.isClsIn K NoRoll = true)
    (xOutsideLimits : PySem.W.excIn K OutsideLimits [.type "Exception", .type "BaseException", .type "object"] "Exception.__new__" = true)
    (kkOutsideLimits : PySem.W.keepIn K (.ref OutsideLimits) = true)
    (bbOutsideLimits : PySem.W.subIn K (.ref OutsideLimits) (.type "BaseException") = some true)
    (ttOutsideLimits : PySem.W.typeIn K (.ref OutsideLimits) = some (.type "type"))
    (iiOutsideLimits : PySem.W.isClsIn K OutsideLimits = true)
    (xTooManyRolls : PySem.W.excIn K TooManyRolls [.type "Exception", .type "BaseException", .type "object"] "Exception.__new__" = true)
    (kkTooManyRolls : PySem.W.keepIn K (.ref TooManyRolls) = true)
    (bbTooManyRolls : PySem.W.subIn K (.ref TooManyRolls) (.type "BaseException") = some true)
    (ttTooManyRolls : PySem.W.typeIn K (.ref TooManyRolls) = some (.type "type"))
    (iiTooManyRolls : PySem.W.isClsIn K TooManyRolls = true)
    (xNeverReground : PySem.W.excIn K NeverReground [.type "Exception", .type "BaseException", .type "object"] "Exception.__new__" = true)
    (kkNeverReground : PySem.W.keepIn K (.ref NeverReground) = true)
    (bbNeverReground : PySem.W.subIn K (.ref NeverReground) (.type "BaseException") = some true)
    (ttNeverReground : PySem.W.typeIn K (.ref NeverReground) = some (.type "type"))
    (iiNeverReground : PySem.W.isClsIn K NeverReground = true)
    (s_NoMill_NoMill : PySem.W.subIn K (.ref NoMill) (.ref NoMill) = some true)
    (s_NoMill_NoRoll : PySem.W.subIn K (.ref NoMill) (.ref NoRoll) = some false)
    (s_NoMill_OutsideLimits : PySem.W.subIn K (.ref NoMill) (.ref OutsideLimits) = some false)
    (s_NoMill_TooManyRolls : PySem.W.subIn K (.ref NoMill) (.ref TooManyRolls) = some false)
    (s_NoMill_NeverReground : PySem.W.subIn K (.ref NoMill) (.ref NeverReground) = some false)
    (s_NoRoll_NoMill : PySem.W.subIn K (.ref NoRoll) (.ref NoMill) = some false)
    (s_NoRoll_NoRoll : PySem.W.subIn K (.ref NoRoll) (.ref NoRoll) = some true)
    (s_NoRoll_OutsideLimits : PySem.W.subIn K (.ref NoRoll) (.ref OutsideLimits) = some false)
    (s_NoRoll_TooManyRolls : PySem.W.subIn K (.ref NoRoll) (.ref TooManyRolls) = some false)
    (s_NoRoll_NeverReground : PySem.W.subIn K (.ref NoRoll) (.ref NeverReground) = some false)
    (s_OutsideLimits_NoMill : PySem.W.subIn K (.ref OutsideLimits) (.ref NoMill) = some false)
    (s_OutsideLimits_NoRoll : PySem.W.subIn K (.ref OutsideLimits) (.ref NoRoll) = some false)
    (s_OutsideLimits_OutsideLimits : PySem.W.subIn K (.ref OutsideLimits) (.ref OutsideLimits) = some true)
    (s_OutsideLimits_TooManyRolls : PySem.W.subIn K (.ref OutsideLimits) (.ref TooManyRolls) = some false)
    (s_OutsideLimits_NeverReground : PySem.W.subIn K (.ref OutsideLimits) (.ref NeverReground) = some false)
    (s_TooManyRolls_NoMill : PySem.W.subIn K (.ref TooManyRolls) (.ref NoMill) = some false)
    (s_TooManyRolls_NoRoll : PySem.W.subIn K (.ref TooManyRolls) (.ref NoRoll) = some false)
    (s_TooManyRolls_OutsideLimits : PySem.W.subIn K (.ref TooManyRolls) (.ref OutsideLimits) = some false)
    (s_TooManyRolls_TooManyRolls : PySem.W.subIn K (.ref TooManyRolls) (.ref TooManyRolls) = some true)
    (s_TooManyRolls_NeverReground : PySem.W.subIn K (.ref TooManyRolls) (.ref NeverReground) = some false)
    (s_NeverReground_NoMill : PySem.W.subIn K (.ref NeverReground) (.ref NoMill) = some false)
    (s_NeverReground_NoRoll : PySem.W.subIn K (.ref NeverReground) (.ref NoRoll) = some false)
    (s_NeverReground_OutsideLimits : PySem.W.subIn K (.ref NeverReground) (.ref OutsideLimits) = some false)
    (s_NeverReground_TooManyRolls : PySem.W.subIn K (.ref NeverReground) (.ref TooManyRolls) = some false)
    (s_NeverReground_NeverReground : PySem.W.subIn K (.ref NeverReground) (.ref NeverReground) = some true)
   (g_week_cost : GF K mg "week_cost" s_week_cost) (g_period_cost : GF K mg "period_cost" s_period_cost) (g_lowest_terms : GF K mg "lowest_terms" s_lowest_terms) (g_mean_cost : GF K mg "mean_cost" s_mean_cost) (g_cheapest_period : GF K mg "cheapest_period" s_cheapest_period) (g_ages_now : GF K mg "ages_now" s_ages_now) (g_is_reground : GF K mg "is_reground" s_is_reground) (g_regrind : GF K mg "regrind" s_regrind) (g_cost_of_week : GF K mg "cost_of_week" s_cost_of_week) (g_ages_after_week : GF K mg "ages_after_week" s_ages_after_week) (g_cost_of_plan : GF K mg "cost_of_plan" s_cost_of_plan) (g_check_limits : GF K mg "check_limits" s_check_limits) (g_roll_at : GF K mg "roll_at" s_roll_at) (g_check_set : GF K mg "check_set" s_check_set) (g_cheapest : GF K mg "cheapest" s_cheapest) (g_execute_week : GF K mg "execute_week" s_execute_week) (g_create : GF K mg "create" s_create) (g_add_roll : GF K mg "add_roll" s_add_roll) (g_remove_roll : GF K mg "remove_roll" s_remove_roll) (g_set_age : GF K mg "set_age" s_set_age) (g_set_visit_cost : GF K mg "set_visit_cost" s_set_visit_cost) (g_get_roll : GF K mg "get_roll" s_get_roll) (g_mean_weekly_cost : GF K mg "mean_weekly_cost" s_mean_weekly_cost) (g_best_period : GF K mg "best_period" s_best_period) (g_cheapest_plan : GF K mg "cheapest_plan" s_cheapest_plan) (g_lowest_cost : GF K mg "lowest_cost" s_lowest_cost) (g_plan_cost : GF K mg "plan_cost" s_plan_cost) (g_run_week : GF K mg "run_week" s_run_week) (g_run_planned_week : GF K mg "run_planned_week" s_run_planned_week) (g_cost_without_regrinding : GF K mg "cost_without_regrinding" s_cost_without_regrinding) (g_cost_of_single_roll : GF K mg "cost_of_single_roll" s_cost_of_single_roll) (g_lowest_cost_for_visit : GF K mg "lowest_cost_for_visit" s_lowest_cost_for_visit) (g_joint_savings : GF K mg "joint_savings" s_joint_savings) (g_next_regrind : GF K mg "next_regrind" s_next_regrind) (g_has_rising_costs : GF K mg "has_rising_costs" s_has_rising_costs) (g_status : GF K mg "status" s_status) (g_operate_on_rolls : GF K mg "operate_on_rolls" s_operate_on_rolls) (g_operate_on_weeks : GF K mg "operate_on_weeks" s_operate_on_weeks) (g_operate : GF K mg "operate" s_operate) (g_answer : GF K mg "answer" s_answer) (g_split_calls : GF K mg "split_calls" s_split_calls) (gi_Roll : GI K mg "Roll" Roll "Roll.__init__" s_Roll_init) (gi_Mill : GI K mg "Mill" Mill "Mill.__init__" s_Mill_init) (gi_Request : GI K mg "Request" Request "Request.__init__" s_Request_init) (gi_Planner : GI K mg "Planner" Planner "Planner.__init__" s_Planner_init) (gm_cheapest : GM K Planner "cheapest" "Planner.cheapest" s_pl_cheapest) (gm_cheapest_from : GM K Planner "cheapest_from" "Planner.cheapest_from" s_pl_cheapest_from) (gm_cheapest_of_all_sets : GM K Planner "cheapest_of_all_sets" "Planner.cheapest_of_all_sets" s_pl_cheapest_of_all_sets) (gm_cheapest_with : GM K Planner "cheapest_with" "Planner.cheapest_with" s_pl_cheapest_with) (g_answers : GF K mg "answers" s_answers) :
    ∃ fd : FuncData, (∀ (s : Shared) (us : List Value), us.length = p_answers.length → BindsTo s fd ⟨us, []⟩ (p_answers.zip us)) ∧ ∀ base : Heap, K.In base → base.Ns mainGlobals mg → FnOk P w K mg base CX0 52 fa fd p_answers (sp_answers K) := by
  have T : Txt K mg (⟨Roll, Mill, Request, Planner, NoMill, NoRoll, OutsideLimits, TooManyRolls, NeverReground⟩ : Ad) := {
    cRoll := ⟨pgRoll, hdRoll, poRoll, saRoll⟩
    cMill := ⟨pgMill, hdMill, poMill, saMill⟩
    cRequest := ⟨pgRequest, hdRequest, poRequest, saRequest⟩
    cPlanner := ⟨pgPlanner, hdPlanner, poPlanner, saPlanner⟩
    nR_age := nRoll_age
    nR_regrind_cost := nRoll_regrind_cost
    nR_weekly_costs := nRoll_weekly_costs
    nM_rolls := nMill_rolls
    nM_visit_cost := nMill_visit_cost
    nM_spent := nMill_spent
    nM_week_count := nMill_week_count
    nQ_mill := nRequest_mill
    nP_rolls := nPlanner_rolls
    nP_visit_cost := nPlanner_visit_cost
    nP_known := nPlanner_known
    len := PySem.W.mg_none_of X G b_len
    min := PySem.W.mg_none_of X G b_min
    sum := PySem.W.mg_none_of X G b_sum
    list := PySem.W.mg_none_of X G b_list
    tuple := PySem.W.mg_none_of X G b_tuple
    range := PySem.W.mg_none_of X G b_range
    enumerate := PySem.W.mg_none_of X G b_enumerate
    zip := PySem.W.mg_none_of X G b_zip
    k_LONGEST_PERIOD := ⟨_, PySem.W.mg_of X G k_LONGEST_PERIOD⟩
    k_MOST_ROLLS := ⟨_, PySem.W.mg_of X G k_MOST_ROLLS⟩
    k_MOST_WEEKLY_COSTS := ⟨_, PySem.W.mg_of X G k_MOST_WEEKLY_COSTS⟩
    k_HIGHEST_COST := ⟨_, PySem.W.mg_of X G k_HIGHEST_COST⟩
    k_HIGHEST_WEEKLY_COST := ⟨_, PySem.W.mg_of X G k_HIGHEST_WEEKLY_COST⟩
    k_HIGHEST_AGE := ⟨_, PySem.W.mg_of X G k_HIGHEST_AGE⟩
    k_MOST_WEEKS := ⟨_, PySem.W.mg_of X G k_MOST_WEEKS⟩
    e_NoMill := ⟨PySem.W.mg_of X G aNoMill, xNoMill, kkNoMill, bbNoMill, ttNoMill⟩
    e_NoRoll := ⟨PySem.W.mg_of X G aNoRoll, xNoRoll, kkNoRoll, bbNoRoll, ttNoRoll⟩
    e_OutsideLimits := ⟨PySem.W.mg_of X G aOutsideLimits, xOutsideLimits, kkOutsideLimits, bbOutsideLimits, ttOutsideLimits⟩
    e_TooManyRolls := ⟨PySem.W.mg_of X G aTooManyRolls, xTooManyRolls, kkTooManyRolls, bbTooManyRolls, ttTooManyRolls⟩
    e_NeverReground := ⟨PySem.W.mg_of X G aNeverReground, xNeverReground, kkNeverReground, bbNeverReground, ttNeverReground⟩
  }
  have Ex : Exm K (⟨Roll, Mill, Request, Planner, NoMill, NoRoll, OutsideLimits, TooManyRolls, NeverReground⟩ : Ad) := fun e f => match e, f with
    | .noMill, .noMill => exm2 bbNoMill iiNoMill ttNoMill s_NoMill_NoMill
    | .noMill, .noRoll => exm2 bbNoRoll iiNoRoll ttNoRoll s_NoMill_NoRoll
    | .noMill, .limits => exm2 bbOutsideLimits iiOutsideLimits ttOutsideLimits s_NoMill_OutsideLimits
    | .noMill, .many => exm2 bbTooManyRolls iiTooManyRolls ttTooManyRolls s_NoMill_TooManyRolls
    | .noMill, .never => exm2 bbNeverReground iiNeverReground ttNeverReground s_NoMill_NeverReground
    | .noRoll, .noMill => exm2 bbNoMill iiNoMill ttNoMill s_NoRoll_NoMill
    | .noRoll, .noRoll => exm2 bbNoRoll iiNoRoll ttNoRoll s_NoRoll_NoRoll
    | .noRoll, .limits => exm2 bbOutsideLimits iiOutsideLimits ttOutsideLimits s_NoRoll_OutsideLimits
    | .noRoll, .many => exm2 bbTooManyRolls iiTooManyRolls ttTooManyRolls s_NoRoll_TooManyRolls
    | .noRoll, .never => exm2 bbNeverReground iiNeverReground ttNeverReground s_NoRoll_NeverReground
    | .limits, .noMill => exm2 bbNoMill iiNoMill ttNoMill s_OutsideLimits_NoMill
    | .limits, .noRoll => exm2 bbNoRoll iiNoRoll ttNoRoll s_OutsideLimits_NoRoll
    | .limits, .limits => exm2 bbOutsideLimits iiOutsideLimits ttOutsideLimits s_OutsideLimits_OutsideLimits
    | .limits, .many => exm2 bbTooManyRolls iiTooManyRolls ttTooManyRolls s_OutsideLimits_TooManyRolls
    | .limits, .never => exm2 bbNeverReground iiNeverReground ttNeverReground s_OutsideLimits_NeverReground
    | .many, .noMill => exm2 bbNoMill iiNoMill ttNoMill s_TooManyRolls_NoMill
    | .many, .noRoll => exm2 bbNoRoll iiNoRoll ttNoRoll s_TooManyRolls_NoRoll
    | .many, .limits => exm2 bbOutsideLimits iiOutsideLimits ttOutsideLimits s_TooManyRolls_OutsideLimits
    | .many, .many => exm2 bbTooManyRolls iiTooManyRolls ttTooManyRolls s_TooManyRolls_TooManyRolls
    | .many, .never => exm2 bbNeverReground iiNeverReground ttNeverReground s_TooManyRolls_NeverReground
    | .never, .noMill => exm2 bbNoMill iiNoMill ttNoMill s_NeverReground_NoMill
    | .never, .noRoll => exm2 bbNoRoll iiNoRoll ttNoRoll s_NeverReground_NoRoll
    | .never, .limits => exm2 bbOutsideLimits iiOutsideLimits ttOutsideLimits s_NeverReground_OutsideLimits
    | .never, .many => exm2 bbTooManyRolls iiTooManyRolls ttTooManyRolls s_NeverReground_TooManyRolls
    | .never, .never => exm2 bbNeverReground iiNeverReground ttNeverReground s_NeverReground_NeverReground
  obtain ⟨f, fd, F, gm⟩ := g_answers
  have e := hfa.symm.trans gm
  cases e
  have R : ∀ base : Heap, FnOk P w K mg base CX0 52 _ fd p_answers (sp_answers K) := fun base => all_ok T Ex g_week_cost g_period_cost g_lowest_terms g_mean_cost g_cheapest_period g_ages_now g_is_reground g_regrind g_cost_of_week g_ages_after_week g_cost_of_plan g_check_limits g_roll_at g_check_set g_cheapest g_execute_week g_create g_add_roll g_remove_roll g_set_age g_set_visit_cost g_get_roll g_mean_weekly_cost g_best_period g_cheapest_plan g_lowest_cost g_plan_cost g_run_week g_run_planned_week g_cost_without_regrinding g_cost_of_single_roll g_lowest_cost_for_visit g_joint_savings g_next_regrind g_has_rising_costs g_status g_operate_on_rolls g_operate_on_weeks g_operate g_answer g_split_calls gi_Roll gi_Mill gi_Request gi_Planner gm_cheapest gm_cheapest_from gm_cheapest_of_all_sets gm_cheapest_with _ fd F
  obtain ⟨oc, od, kV, doc, pm, an, cdv, ct, osl, e, l, c⟩ := F.ex
  subst e
  exact ⟨PySem.W.fnOf "answers" "answers" (defArgs s_answers) (defBody s_answers) (defScope s_answers) .none kV doc pm an cdv ct, fun s us hu => match us, hu with | [_], _ => .of_eq rfl, fun base _ _ => R base⟩
end
end Rg

open PySem PySem.W PyProof.Rows
set_option maxRecDepth 100000 in
set_option maxHeartbeats 40000000 in
theorem PySem.Challenge.cw_rollgrind_s01_answers_holds : PySem.Challenge.rw_rollgrind_s01_answers.Holds := by
  w_on; k_headS; (case hw => exact ⟨[.list [.int 19, .int 0, .int 0]], by decide +kernel, by decide +kernel⟩)
  k_fillS
  refine L2.walk_specK (r := PySem.Challenge.rw_rollgrind_s01_answers) (k := 52) (CX := L2.CX0) (ps := Rg.p_answers) (sp := Rg.sp_answers) (by decide +kernel) rfl rfl ⟨rfl, by decide, by decide⟩ (fun w h Y => PySem.W.kIn_of Y) ?F ?S (fun _ _ _ _ z => z)
  case F =>
    intro w mg fa h Y KX G hmg
    refine' Rg.end_mk KX G hmg ?aRoll ?aMill ?aRequest ?aPlanner ?aNoMill ?aNoRoll ?aOutsideLimits ?aTooManyRolls ?aNeverReground ?pgRoll ?hdRoll ?poRoll ?saRoll ?nRoll_age ?nRoll_regrind_cost ?nRoll_weekly_costs ?pgMill ?hdMill ?poMill ?saMill ?nMill_rolls ?nMill_visit_cost ?nMill_spent ?nMill_week_count ?pgRequest ?hdRequest ?poRequest ?saRequest ?nRequest_mill ?pgPlanner ?hdPlanner ?poPlanner ?saPlanner ?nPlanner_rolls ?nPlanner_visit_cost ?nPlanner_known ?b_len ?b_min ?b_sum ?b_list ?b_tuple ?b_range ?b_enumerate ?b_zip ?k_LONGEST_PERIOD ?k_MOST_ROLLS ?k_MOST_WEEKLY_COSTS ?k_HIGHEST_COST ?k_HIGHEST_WEEKLY_COST ?k_HIGHEST_AGE ?k_MOST_WEEKS ?xNoMill ?kkNoMill ?bbNoMill ?ttNoMill ?iiNoMill ?xNoRoll ?kkNoRoll ?bbNoRoll ?ttNoRoll ?iiNoRoll ?xOutsideLimits ?kkOutsideLimits ?bbOutsideLimits ?ttOutsideLimits ?iiOutsideLimits ?xTooManyRolls ?kkTooManyRolls ?bbTooManyRolls ?ttTooManyRolls ?iiTooManyRolls ?xNeverReground ?kkNeverReground ?bbNeverReground ?ttNeverReground ?iiNeverReground ?s_NoMill_NoMill ?s_NoMill_NoRoll ?s_NoMill_OutsideLimits ?s_NoMill_TooManyRolls ?s_NoMill_NeverReground ?s_NoRoll_NoMill ?s_NoRoll_NoRoll ?s_NoRoll_OutsideLimits ?s_NoRoll_TooManyRolls ?s_NoRoll_NeverReground ?s_OutsideLimits_NoMill ?s_OutsideLimits_NoRoll ?s_OutsideLimits_OutsideLimits ?s_OutsideLimits_TooManyRolls ?s_OutsideLimits_NeverReground ?s_TooManyRolls_NoMill ?s_TooManyRolls_NoRoll ?s_TooManyRolls_OutsideLimits ?s_TooManyRolls_TooManyRolls ?s_TooManyRolls_NeverReground ?s_NeverReground_NoMill ?s_NeverReground_NoRoll ?s_NeverReground_OutsideLimits ?s_NeverReground_TooManyRolls ?s_NeverReground_NeverReground ?g_week_cost ?g_period_cost ?g_lowest_terms ?g_mean_cost ?g_cheapest_period ?g_ages_now ?g_is_reground ?g_regrind ?g_cost_of_week ?g_ages_after_week ?g_cost_of_plan ?g_check_limits ?g_roll_at ?g_check_set ?g_cheapest ?g_execute_week ?g_create ?g_add_roll ?g_remove_roll ?g_set_age ?g_set_visit_cost ?g_get_roll ?g_mean_weekly_cost ?g_best_period ?g_cheapest_plan ?g_lowest_cost ?g_plan_cost ?g_run_week ?g_run_planned_week ?g_cost_without_regrinding ?g_cost_of_single_roll ?g_lowest_cost_for_visit ?g_joint_savings ?g_next_regrind ?g_has_rising_costs ?g_status ?g_operate_on_rolls ?g_operate_on_weeks ?g_operate ?g_answer ?g_split_calls ?gi_Roll ?gi_Mill ?gi_Request ?gi_Planner ?gm_cheapest ?gm_cheapest_from ?gm_cheapest_of_all_sets ?gm_cheapest_with ?g_answers
    (case aRoll => k_is)
    (case aMill => k_is)
    (case aRequest => k_is)
    (case aPlanner => k_is)
    (case aNoMill => k_is)
    (case aNoRoll => k_is)
    (case aOutsideLimits => k_is)
    (case aTooManyRolls => k_is)
    (case aNeverReground => k_is)
    (case pgRoll => k_is)
    (case hdRoll => k_is)
    (case poRoll => k_is)
    (case saRoll => k_is)
    (case nRoll_age => k_is)
    (case nRoll_regrind_cost => k_is)
    (case nRoll_weekly_costs => k_is)
    (case pgMill => k_is)
    (case hdMill => k_is)
    (case poMill => k_is)
    (case saMill => k_is)
    (case nMill_rolls => k_is)
    (case nMill_visit_cost => k_is)
    (case nMill_spent => k_is)
    (case nMill_week_count => k_is)
    (case pgRequest => k_is)
    (case hdRequest => k_is)
    (case poRequest => k_is)
    (case saRequest => k_is)
    (case nRequest_mill => k_is)
    (case pgPlanner => k_is)
    (case hdPlanner => k_is)
    (case poPlanner => k_is)
    (case saPlanner => k_is)
    (case nPlanner_rolls => k_is)
    (case nPlanner_visit_cost => k_is)
    (case nPlanner_known => k_is)
    (case b_len => k_is)
    (case b_min => k_is)
    (case b_sum => k_is)
    (case b_list => k_is)
    (case b_tuple => k_is)
    (case b_range => k_is)
    (case b_enumerate => k_is)
    (case b_zip => k_is)
    (case k_LONGEST_PERIOD => k_is)
    (case k_MOST_ROLLS => k_is)
    (case k_MOST_WEEKLY_COSTS => k_is)
    (case k_HIGHEST_COST => k_is)
    (case k_HIGHEST_WEEKLY_COST => k_is)
    (case k_HIGHEST_AGE => k_is)
    (case k_MOST_WEEKS => k_is)
    (case xNoMill => k_exc)
    (case kkNoMill => k_is)
    (case bbNoMill => k_is)
    (case ttNoMill => k_is)
    (case iiNoMill => k_is)
    (case xNoRoll => k_exc)
    (case kkNoRoll => k_is)
    (case bbNoRoll => k_is)
    (case ttNoRoll => k_is)
    (case iiNoRoll => k_is)
    (case xOutsideLimits => k_exc)
    (case kkOutsideLimits => k_is)
    (case bbOutsideLimits => k_is)
    (case ttOutsideLimits => k_is)
    (case iiOutsideLimits => k_is)
    (case xTooManyRolls => k_exc)
    (case kkTooManyRolls => k_is)
    (case bbTooManyRolls => k_is)
    (case ttTooManyRolls => k_is)
    (case iiTooManyRolls => k_is)
    (case xNeverReground => k_exc)
    (case kkNeverReground => k_is)
    (case bbNeverReground => k_is)
    (case ttNeverReground => k_is)
    (case iiNeverReground => k_is)
    (case s_NoMill_NoMill => first | rfl | k_is)
    (case s_NoMill_NoRoll => first | rfl | k_is)
    (case s_NoMill_OutsideLimits => first | rfl | k_is)
    (case s_NoMill_TooManyRolls => first | rfl | k_is)
    (case s_NoMill_NeverReground => first | rfl | k_is)
    (case s_NoRoll_NoMill => first | rfl | k_is)
    (case s_NoRoll_NoRoll => first | rfl | k_is)
    (case s_NoRoll_OutsideLimits => first | rfl | k_is)
    (case s_NoRoll_TooManyRolls => first | rfl | k_is)
    (case s_NoRoll_NeverReground => first | rfl | k_is)
    (case s_OutsideLimits_NoMill => first | rfl | k_is)
    (case s_OutsideLimits_NoRoll => first | rfl | k_is)
    (case s_OutsideLimits_OutsideLimits => first | rfl | k_is)
    (case s_OutsideLimits_TooManyRolls => first | rfl | k_is)
    (case s_OutsideLimits_NeverReground => first | rfl | k_is)
    (case s_TooManyRolls_NoMill => first | rfl | k_is)
    (case s_TooManyRolls_NoRoll => first | rfl | k_is)
    (case s_TooManyRolls_OutsideLimits => first | rfl | k_is)
    (case s_TooManyRolls_TooManyRolls => first | rfl | k_is)
    (case s_TooManyRolls_NeverReground => first | rfl | k_is)
    (case s_NeverReground_NoMill => first | rfl | k_is)
    (case s_NeverReground_NoRoll => first | rfl | k_is)
    (case s_NeverReground_OutsideLimits => first | rfl | k_is)
    (case s_NeverReground_TooManyRolls => first | rfl | k_is)
    (case s_NeverReground_NeverReground => first | rfl | k_is)
    (case g_week_cost => refine' Rg.mkF KX G ?a ?l ?c ?k; (case a => k_is); (case l => k_is); (case c => k_is); (case k => k_is))
    (case g_period_cost => refine' Rg.mkF KX G ?a ?l ?c ?k; (case a => k_is); (case l => k_is); (case c => k_is); (case k => k_is))
    (case g_lowest_terms => refine' Rg.mkF KX G ?a ?l ?c ?k; (case a => k_is); (case l => k_is); (case c => k_is); (case k => k_is))
    (case g_mean_cost => refine' Rg.mkF KX G ?a ?l ?c ?k; (case a => k_is); (case l => k_is); (case c => k_is); (case k => k_is))
    (case g_cheapest_period => refine' Rg.mkF KX G ?a ?l ?c ?k; (case a => k_is); (case l => k_is); (case c => k_is); (case k => k_is))
    (case g_ages_now => refine' Rg.mkF KX G ?a ?l ?c ?k; (case a => k_is); (case l => k_is); (case c => k_is); (case k => k_is))
    (case g_is_reground => refine' Rg.mkF KX G ?a ?l ?c ?k; (case a => k_is); (case l => k_is); (case c => k_is); (case k => k_is))
    (case g_regrind => refine' Rg.mkF KX G ?a ?l ?c ?k; (case a => k_is); (case l => k_is); (case c => k_is); (case k => k_is))
    (case g_cost_of_week => refine' Rg.mkF KX G ?a ?l ?c ?k; (case a => k_is); (case l => k_is); (case c => k_is); (case k => k_is))
    (case g_ages_after_week => refine' Rg.mkF KX G ?a ?l ?c ?k; (case a => k_is); (case l => k_is); (case c => k_is); (case k => k_is))
    (case g_cost_of_plan => refine' Rg.mkF KX G ?a ?l ?c ?k; (case a => k_is); (case l => k_is); (case c => k_is); (case k => k_is))
    (case g_check_limits => refine' Rg.mkF KX G ?a ?l ?c ?k; (case a => k_is); (case l => k_is); (case c => k_is); (case k => k_is))
    (case g_roll_at => refine' Rg.mkF KX G ?a ?l ?c ?k; (case a => k_is); (case l => k_is); (case c => k_is); (case k => k_is))
    (case g_check_set => refine' Rg.mkF KX G ?a ?l ?c ?k; (case a => k_is); (case l => k_is); (case c => k_is); (case k => k_is))
    (case g_cheapest => refine' Rg.mkF KX G ?a ?l ?c ?k; (case a => k_is); (case l => k_is); (case c => k_is); (case k => k_is))
    (case g_execute_week => refine' Rg.mkF KX G ?a ?l ?c ?k; (case a => k_is); (case l => k_is); (case c => k_is); (case k => k_is))
    (case g_create => refine' Rg.mkF KX G ?a ?l ?c ?k; (case a => k_is); (case l => k_is); (case c => k_is); (case k => k_is))
    (case g_add_roll => refine' Rg.mkF KX G ?a ?l ?c ?k; (case a => k_is); (case l => k_is); (case c => k_is); (case k => k_is))
    (case g_remove_roll => refine' Rg.mkF KX G ?a ?l ?c ?k; (case a => k_is); (case l => k_is); (case c => k_is); (case k => k_is))
    (case g_set_age => refine' Rg.mkF KX G ?a ?l ?c ?k; (case a => k_is); (case l => k_is); (case c => k_is); (case k => k_is))
    (case g_set_visit_cost => refine' Rg.mkF KX G ?a ?l ?c ?k; (case a => k_is); (case l => k_is); (case c => k_is); (case k => k_is))
    (case g_get_roll => refine' Rg.mkF KX G ?a ?l ?c ?k; (case a => k_is); (case l => k_is); (case c => k_is); (case k => k_is))
    (case g_mean_weekly_cost => refine' Rg.mkF KX G ?a ?l ?c ?k; (case a => k_is); (case l => k_is); (case c => k_is); (case k => k_is))
    (case g_best_period => refine' Rg.mkF KX G ?a ?l ?c ?k; (case a => k_is); (case l => k_is); (case c => k_is); (case k => k_is))
    (case g_cheapest_plan => refine' Rg.mkF KX G ?a ?l ?c ?k; (case a => k_is); (case l => k_is); (case c => k_is); (case k => k_is))
    (case g_lowest_cost => refine' Rg.mkF KX G ?a ?l ?c ?k; (case a => k_is); (case l => k_is); (case c => k_is); (case k => k_is))
    (case g_plan_cost => refine' Rg.mkF KX G ?a ?l ?c ?k; (case a => k_is); (case l => k_is); (case c => k_is); (case k => k_is))
    (case g_run_week => refine' Rg.mkF KX G ?a ?l ?c ?k; (case a => k_is); (case l => k_is); (case c => k_is); (case k => k_is))
    (case g_run_planned_week => refine' Rg.mkF KX G ?a ?l ?c ?k; (case a => k_is); (case l => k_is); (case c => k_is); (case k => k_is))
    (case g_cost_without_regrinding => refine' Rg.mkF KX G ?a ?l ?c ?k; (case a => k_is); (case l => k_is); (case c => k_is); (case k => k_is))
    (case g_cost_of_single_roll => refine' Rg.mkF KX G ?a ?l ?c ?k; (case a => k_is); (case l => k_is); (case c => k_is); (case k => k_is))
    (case g_lowest_cost_for_visit => refine' Rg.mkF KX G ?a ?l ?c ?k; (case a => k_is); (case l => k_is); (case c => k_is); (case k => k_is))
    (case g_joint_savings => refine' Rg.mkF KX G ?a ?l ?c ?k; (case a => k_is); (case l => k_is); (case c => k_is); (case k => k_is))
    (case g_next_regrind => refine' Rg.mkF KX G ?a ?l ?c ?k; (case a => k_is); (case l => k_is); (case c => k_is); (case k => k_is))
    (case g_has_rising_costs => refine' Rg.mkF KX G ?a ?l ?c ?k; (case a => k_is); (case l => k_is); (case c => k_is); (case k => k_is))
    (case g_status => refine' Rg.mkF KX G ?a ?l ?c ?k; (case a => k_is); (case l => k_is); (case c => k_is); (case k => k_is))
    (case g_operate_on_rolls => refine' Rg.mkF KX G ?a ?l ?c ?k; (case a => k_is); (case l => k_is); (case c => k_is); (case k => k_is))
    (case g_operate_on_weeks => refine' Rg.mkF KX G ?a ?l ?c ?k; (case a => k_is); (case l => k_is); (case c => k_is); (case k => k_is))
    (case g_operate => refine' Rg.mkF KX G ?a ?l ?c ?k; (case a => k_is); (case l => k_is); (case c => k_is); (case k => k_is))
    (case g_answer => refine' Rg.mkF KX G ?a ?l ?c ?k; (case a => k_is); (case l => k_is); (case c => k_is); (case k => k_is))
    (case g_split_calls => refine' Rg.mkF KX G ?a ?l ?c ?k; (case a => k_is); (case l => k_is); (case c => k_is); (case k => k_is))
    (case gi_Roll => refine' Rg.mkI KX G ?a ?mk ?i ?n ?kc ?l ?c ?k; (case a => k_is); (case mk => k_is); (case i => k_is); (case n => k_is); (case kc => k_is); (case l => k_is); (case c => k_is); (case k => k_is))
    (case gi_Mill => refine' Rg.mkI KX G ?a ?mk ?i ?n ?kc ?l ?c ?k; (case a => k_is); (case mk => k_is); (case i => k_is); (case n => k_is); (case kc => k_is); (case l => k_is); (case c => k_is); (case k => k_is))
    (case gi_Request => refine' Rg.mkI KX G ?a ?mk ?i ?n ?kc ?l ?c ?k; (case a => k_is); (case mk => k_is); (case i => k_is); (case n => k_is); (case kc => k_is); (case l => k_is); (case c => k_is); (case k => k_is))
    (case gi_Planner => refine' Rg.mkI KX G ?a ?mk ?i ?n ?kc ?l ?c ?k; (case a => k_is); (case mk => k_is); (case i => k_is); (case n => k_is); (case kc => k_is); (case l => k_is); (case c => k_is); (case k => k_is))
    (case gm_cheapest => refine' Rg.mkM ?i ?n ?l ?c ?k; (case i => k_is); (case n => k_is); (case l => k_is); (case c => k_is); (case k => k_is))
    (case gm_cheapest_from => refine' Rg.mkM ?i ?n ?l ?c ?k; (case i => k_is); (case n => k_is); (case l => k_is); (case c => k_is); (case k => k_is))
    (case gm_cheapest_of_all_sets => refine' Rg.mkM ?i ?n ?l ?c ?k; (case i => k_is); (case n => k_is); (case l => k_is); (case c => k_is); (case k => k_is))
    (case gm_cheapest_with => refine' Rg.mkM ?i ?n ?l ?c ?k; (case i => k_is); (case n => k_is); (case l => k_is); (case c => k_is); (case k => k_is))
    (case g_answers => refine' Rg.mkF KX G ?a ?l ?c ?k; (case a => k_is); (case l => k_is); (case c => k_is); (case k => k_is))
  case S =>
    intro K H xs a hO hwi hask hx
    cases hx with
    | cons h1 h2 =>
      cases h2
      cases h1 with
      | lst hs ha =>
        have e := L2.ints_dw a.1 _ ha
        subst e
        have q : PyKp410.answers_asked a.1 = true := hask
        obtain ⟨cs, ks, e1, hC, hl, e2⟩ := RgR.asked_is q
        refine ⟨_, cs, ks, rfl, ?_, hC, hl, fun H' p hp => .lst (L2.SqL.of hp) ?_⟩
        · rw [e1] at hs
          rw [Rg.nI_ints]
          exact hs
        · rw [← e2]
          exact L2.dw_ints (PyKp410.answers a.1)
