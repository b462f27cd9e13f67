import PyProof.Rows.All
import Wide.All
import OpenK.AllK
import Wide.FinOn
import HandS.ForMost
import HandS.Flow
import HandS.Style
import HandS.TupAny
import HandS.IsInst
import HandS.Star
import HandS.RaiseMore
import HandS.Evl
import PyProof.StrLawsRepr
import PyProof.FitsReplace
import HandS.HeadHook3
import PyProof.FitsInt
import PySem.Challenge.RW_aliasparams_k02_sizes_and_parts
set_option Elab.async false
set_option linter.all false
set_option maxRecDepth 100000
set_option maxHeartbeats 4000000
/-! defs whose promise may rely on that no guard of a text of data stands around -/
namespace Gd
open PySem PySem.Spec PyProof.Rows L2
structure FG (P : Program) (w : World) (K : PySem.W.Frag) (mg : Str → Option Value) (base : Heap)
    (cx : CXT) (k : Nat) (f : Addr) (fd : FuncData) (ps : List Str) (sp : Sp) : Prop where
  len : ∀ vs H Q E, sp vs H Q E →
    vs.length = ps.length
  run : ∀ (A : Around) (out : List Env) (s : Shared) (H : Hp) (as : Args) (us : List Value) (vs : List V) (Q : VK) (E : XK),
    A.guards = some [] → Room k A → Env0 P w K mg base A out s H → BindsTo s fd as (ps.zip us) → Vals vs us → sp vs H Q E →
      codeAny (model P w) A (.call (.ref f) as) (CR cx out P w H s Q E) s
theorem FG.mono {P : Program} {w : World} {K : PySem.W.Frag} {mg : Str → Option Value} {base : Heap}
    {cx : CXT} {j k : Nat} {f : Addr} {fd : FuncData} {ps : List Str} {sp : Sp} (F : FG P w K mg base cx j f fd ps sp) (h : j ≤ k) : FG P w K mg base cx k f fd ps sp :=
  ⟨F.len, fun A out s H as us vs Q E hg hr => F.run A out s H as us vs Q E hg (hr.mono h)⟩
/-- where a def stands that is called by its name -/
structure Cal (K : PySem.W.Frag) (mg : Str → Option Value) (x : Str) (f : Addr) (fd : FuncData) (ps : List Str) : Prop where
  mg : mg x = some (.ref f)
  kp : PySem.W.keepIn K (.ref f) = true
  bd : Binds K fd ps []
section
variable {X : Cx} {cx : CXT} {k : Nat} {f : Addr} {fd : FuncData} {ps : List Str} {sp : Sp} {E : XK} {x : Str} {p pos : Pos} {e : Expr} {es : List Expr} {t : TA}
theorem run_g {pins : List (Addr × Obj)} {σ : L2.St} {H : Hp} {s : Shared} {Q : VK} {us : List Value} {vs : List V}
    (F : FG X.prog X.w X.K X.mg X.base cx k f fd ps sp) (hg : X.A.guards = some []) (hr : Room k X.A) (hb : Binds X.K fd ps []) (hx : Passes cx X E)
    (I : Inv X pins σ H s) (r : Vals vs us) (h : sp vs H Q E) : wpAny (model X.prog X.w) X.A (call (.ref f) us) (EP X pins σ Q) X.xe s := by
  have hl : us.length = ps.length := r.length.symm.trans (F.len _ _ _ _ h)
  have hbt : BindsTo s fd ⟨us, []⟩ (ps.zip us) := by
    have q := hb s us I.kIn (by rw [List.append_nil]; exact hl)
    rw [List.append_nil] at q
    exact q
  refine wpAny_call (codeAny_mono (F.run X.A X.stack s H ⟨us, []⟩ us vs Q E hg hr I.env0 hbt r h) fun res s2 hq => ?_)
  rcases res with er | fl
  · exact hx pins σ H s er s2 I hq
  · rcases fl with u | _ | _ | _
    all_goals first | exact I.after hq | exact hq.elim
theorem pe_g (C : Cal X.K X.mg x f fd ps) (F : FG X.prog X.w X.K X.mg X.base cx k f fd ps sp) (hg : X.A.guards = some []) (hr : Room k X.A) (hgl : Gl X x) (hx : Passes cx X E)
    (ha : PA X (e :: es) t) (hdb : (x == ("__debug__" : Str)) = false := by decide)
    (he : starEach (e :: es) X.env = (false, eval e X.env) :: starEach es X.env := by rfl)
    (hpl : (backTo pos (starEach es X.env)).any (·.1) = false := by rfl) :
    PE X (.Call (.Name x p) (e :: es) [] pos) (fun σ H Q => t σ H fun vs H1 => sp vs H1 Q E) := by
  refine ⟨fun pins s σ H Q I h => wpAny_Call_Name_kw (ld_glob I hgl C.mg ?_ hdb)⟩
  refine PySem.W.callWith_K (h₀ := X.base) I.ok.mod.kin C.kp ?_ he hpl
  exact thn (ha.run pos pins s σ H _ I h) fun us s1 ⟨vs, H1, I1, r, q⟩ => ⟨I1.kIn, run_g F hg hr C.bd hx I1 r q⟩
/-- the body of a def of the text -/
theorem fg_of {P : Program} {w : World} {K : PySem.W.Frag} {mg : Str → Option Value} {base : Heap} {name qual : Str} {prm : Arguments} {body : List Stmt} {sc : Scope} {dV kV doc pm cdv ct oc : Value} {an od : Option Addr}
    {osl : Array (Option Value)} {N : List Str} (lk : K.lookup f = some ⟨oc, od, .func (PySem.W.fnOf name qual prm body sc dV kV doc pm an cdv ct), osl⟩)
    (hcd : PySem.W.codeIn K cdv qual = true) (S : FnScope N ps sc) (len : ∀ vs H Q E, sp vs H Q E → vs.length = ps.length)
    (hbody : ∀ (A : Around) (out : List Env) (s : Shared) (H : Hp) (vs : List V) (Q : VK) (E : XK), (A.deeper (envOfC qual sc s.heap.objs.size f cdv)).guards = some [] → Room k (A.deeper (envOfC qual sc s.heap.objs.size f cdv)) → sp vs H Q E →
      ∃ t, PSs (cxOf cx P w K mg base N qual sc f cdv A out s H E) body t ∧ t { nx := fun _ H' => Q .non H', rt := Q } (start N vs) H) :
    FG P w K mg base cx (k + 1) f (PySem.W.fnOf name qual prm body sc dV kV doc pm an cdv ct) ps sp := by
  refine ⟨len, fun A out s H as us vs Q E hg hr e0 hb r hsp => ?_⟩
  have KX : K.In s.heap := e0.mod.kin.keeps fun b o z => (e0.bs b o z).1
  have lim : s.heap.NoLimit := e0.mod.nolimit.keeps fun b o z => (e0.bs b o z).1
  refine codeAny_call_function hr.depth (KX _ _ lk) rfl S.co S.gen rfl (PySem.W.codeRec_of KX hcd) (hb _ _ _ _ ?_)
  refine wpAny_newFunctionEnv_cells S.kind (fun ⟨n, v⟩ hy => ?_) fun env he s1 z => ?_
  · rcases S.par n (List.of_mem_zip hy).1 with q | q
    · exact Or.inl q
    · exact Or.inr ⟨q, PySem.W.cellsFrom_some _ _ _ (Or.inl q)⟩
  · subst he
    refine ⟨lim.keeps z.toInCall.keep, codeAny_func ?_⟩
    obtain ⟨t, ht, hq⟩ := hbody A out s H vs Q E hg (hr.deeper _) hsp
    have I := inv_start (CX := cx) (P := P) (w := w) (K := K) (mg := mg) (base := base) (E := E) S hr.hd e0 (len _ _ _ _ hsp) r z
    refine wpAny_mono (ht.run [] s1 (start N vs) H _ I hq) (fun fl s2 hs => ?_) fun er s2 hs => hs
    rcases fl with u | _ | _ | _
    · obtain ⟨σ2, H2, J, q⟩ := hs
      exact ⟨V.non, H2, J.os, J.bare, J.base, J.hok, rfl, q⟩
    all_goals first
      | (obtain ⟨v, σ2, H2, J, rv, q⟩ := hs; exact ⟨v, H2, J.os, J.bare, J.base, J.hok, rv, q⟩)
      | (obtain ⟨σ2, H2, J, q⟩ := hs; exact ⟨V.non, H2, J.os, J.bare, J.base, J.hok, rfl, q⟩)
      | (obtain ⟨_, _, _, q⟩ := hs; exact q.elim)
end
section
variable {P : Program} {w : World} {K : PySem.W.Frag} {mg : Str → Option Value} {base : Heap}
theorem ok {x qual : Str} {st : Stmt} {f : Addr} {fd : FuncData} {N ps : List Str} {k : Nat} {sp : Sp} (F : Fun K x qual st f fd) (S : FnScope N ps (defScope st)) (len : ∀ vs H Q E, sp vs H Q E → vs.length = ps.length)
    (hbody : ∀ (cdv : Value) (A : Around) (out : List Env) (s : Shared) (H : Hp) (vs : List V) (Q : VK) (E : XK), (A.deeper (envOfC qual (defScope st) s.heap.objs.size f cdv)).guards = some [] → Room k (A.deeper (envOfC qual (defScope st) s.heap.objs.size f cdv)) → sp vs H Q E →
      ∃ t, PSs (cxOf CX0 P w K mg base N qual (defScope st) f cdv A out s H E).nox (defBody st) t ∧ t { nx := fun _ H' => Q .non H', rt := Q } (start N vs) H) : FG P w K mg base CX0 (k + 1) f fd ps sp := by
  obtain ⟨oc, od, kV, doc, pm, an, cdv, ct, osl, rfl, lk, hcd⟩ := F.ex
  refine fg_of lk hcd S len fun A out s H vs Q E hg hr hsp => ?_
  obtain ⟨t, h, q⟩ := hbody cdv A out s H vs Q E hg hr hsp
  exact ⟨t, h.nox, q⟩
end
end Gd

namespace Gd
open PySem PySem.Spec PyProof.Rows L2
/-! ### xs.extend(a tuple) -/
section
open Sem (wp)
theorem ext_tup (l : Addr) (xs : Array Value) (n : Nat) (b : Addr) (ys : Array Value) (m : Nat) (dd : Option Addr) (sl : Array (Option Value))
    (h0 : ¬(!xs.isEmpty && Builtin.List.listTooLong (xs.size + ys.size)) = true) (h1 : xs.size ≤ sizeLine) (h2 : xs.size + ys.size ≤ sizeLine + 1) :
    Meets (Builtin.«list.extend» ⟨[.ref l, .ref b], []⟩) (fun _ R s =>
      s.heap.get? l = some { cls := .type "list", dict := none, data := .seq xs n, slots := #[] } ∧
      s.heap.get? b = some { cls := .type "tuple", dict := dd, data := .seq ys m, slots := sl } ∧
      R (.ok (.ret Value.none)) { s with heap := s.heap.update l (Obj.mapSeq fun x => x ++ ys), toks := s.toks }) :=
  .of_wp fun prog w A R s h => by
    obtain ⟨hp, g, d, tk, os⟩ := s
    obtain ⟨hl, hb, h⟩ := h
    have f1 := PySem.AutoSeq1.idx_int
    have f2 := PySem.AutoSeq1.sub_tuple_tuple
    have f3 := PySem.AutoSeq1.sub_list_list
    have f4 := PySem.AutoSeq1.sub_tuple_list
    have f5 := PySem.AutoSeq1.sub_list_tuple
    have hz : (xs ++ ys).size ≤ sizeLine + 1 := by rw [Array.size_append]; exact h2
    wp_walk using (wpAny_updateSeq hl rfl (hz := h1) (_hz' := hz)), wpAny_loadPart' hl, wpAny_loadPart' hb
    exact ⟨_, rfl, h⟩
end
def rExtT (K : PySem.W.Frag) : V → List V → Hp → VK → Prop := fun x vs H Q =>
  ∃ l b xs zs, x = .ref l ∧ vs = [.ref b] ∧ H l = some (.lst xs) ∧ SqT K H b zs ∧ xs.length + zs.length ≤ sizeLine ∧ Q .non (upd H l (.lst (xs ++ zs)))
section
variable {X : Cx}
theorem mt_extT : MtM X "list.extend" (rExtT X.K) := by
  rintro pins s σ H x xs v us Q I rx rv ⟨l, b, xs, zs, rfl, rfl, hH, hB, hz, q⟩
  cases rx
  obtain ⟨u, rfl, ru⟩ := rv.one
  cases ru
  obtain ⟨z, its, n, r, hl, e⟩ := I.lstM hH
  obtain ⟨its2, r2, ht, hz2⟩ := I.tuple hB
  have h2 := r2.length
  obtain ⟨⟨cls2, dd2, data2, sl2⟩, ho2, hc2, n2, hd2⟩ := ht
  dsimp only at hc2 hd2
  subst hc2
  subst hd2
  have a1 : its.toArray.size + its2.toArray.size ≤ sizeLine := by
    rw [List.size_toArray, List.size_toArray]
    omega
  have a2 : ¬ (!its.toArray.isEmpty && Builtin.List.listTooLong (its.toArray.size + its2.toArray.size)) = true := by
    rw [notLongL a1, Bool.and_false]
    decide
  have a3 : its.toArray.size ≤ sizeLine := by
    rw [List.size_toArray]
    omega
  refine call_meets F.slot_list_extend ⟨_, e, rfl⟩ F.entry_list_extend (F.args_list_extend_2 _ _)
    (ext_tup l its.toArray n b its2.toArray n2 dd2 sl2 a2 a3 (Nat.le_succ_of_le a1)) ⟨e, ho2, ?_⟩
  refine ⟨.non, _, I.lset (its' := its ++ its2) hH e (by simp) (r.append r2) ?_, rfl, q⟩
  rw [List.length_append]
  omega
end
/-! ### t[::-1], t a tuple (of fewer than two items: its whole? no: a new tuple of the same items) -/
section
variable {prog : Program} {w : World} {A : Around} {E : Value → Shared → Prop} {s : Shared}
theorem backSlice {sl : Addr} {v : Value} {n : Nat} {Q : Int × Int × Nat → Shared → Prop} (hs : s.heap.IsSliceOf sl .none .none v) (pv : IsPart v (some (-1)))
    (h : Q ((n : Int) - 1, -1, n) s) : wpAny (model prog w) A (Builtin.Slice.sliceApplied (.ref sl) (pure (n : Int))) Q E s := by
  obtain ⟨os, hos, hcs, hds⟩ := id hs
  unfold Builtin.Slice.sliceApplied Builtin.Slice.sliceFields
  refine wpAny_bind (wpAny_bind (wpAny_field hos hds (x := .none) rfl (wpAny_bind (wpAny_field hos hds (x := .none) rfl (wpAny_bind (wpAny_field hos hds (x := v) rfl (wpAny_pure ?_)))))))
  refine wpAny_bind (HT.slicePart_ pv ?_)
  show wpAny _ _ (if ((-1 : Int) == 0) = true then _ else _) _ _ s
  rw [if_neg (by decide)]
  refine wpAny_bind (slicePart_none (wpAny_bind (slicePart_none (wpAny_bind (wpAny_pure ?_)))))
  have e1 : Builtin.Slice.sliceAdjust none none (-1) (n : Int) = ((n : Int) - 1, -1) := rfl
  have e2 : Builtin.Slice.slicePlaces ((n : Int) - 1) (-1) (-1) = n := by
    unfold Builtin.Slice.slicePlaces
    rw [if_neg (by decide)]
    split
    · have : ((n : Int) - 1 - -1 - 1) / -(-1) = (n : Int) - 1 := by
        rw [show -(-1 : Int) = 1 from rfl, Int.ediv_one]
        omega
      rw [this]
      omega
    · omega
  show wpAny _ _ (match Builtin.Slice.sliceAdjust none none (-1) (n : Int) with | (lo, hi) => pure (lo, (-1 : Int), Builtin.Slice.slicePlaces lo hi (-1))) _ _ s
  rw [e1]
  show wpAny _ _ (pure ((n : Int) - 1, (-1 : Int), Builtin.Slice.slicePlaces ((n : Int) - 1) (-1) (-1))) _ _ s
  rw [e2]
  exact wpAny_pure h
theorem fm_congr {α : Type} {f g : Nat → Option α} : ∀ l : List Nat, (∀ m, m ∈ l → f m = g m) → l.filterMap f = l.filterMap g
  | [], _ => rfl
  | m :: l, h => by
    simp only [List.filterMap_cons, h m List.mem_cons_self, fm_congr l fun k hk => h k (List.mem_cons_of_mem _ hk)]
theorem fm_all {α : Type} (l : List α) : (List.range l.length).filterMap (fun m => l[m]?) = l := by
  apply List.ext_getElem?
  intro i
  have key : ∀ n, n ≤ l.length → (List.range n).filterMap (fun m => l[m]?) = l.take n := by
    intro n
    induction n with
    | zero => intro _; rfl
    | succ n ih =>
      intro hn
      rw [List.range_succ, List.filterMap_append, ih (by omega), List.filterMap_cons, List.getElem?_eq_getElem (by omega : n < l.length)]
      simp only [List.filterMap_nil]
      exact (List.take_succ_eq_append_getElem (by omega)).symm
  rw [key _ (Nat.le_refl _), List.take_length]
theorem backPick (xs : Array Value) : ((List.range xs.size).filterMap fun (m : Nat) => xs[(((xs.size : Nat) : Int) - 1 + (m : Int) * -1).toNat]?).toArray = xs.toList.reverse.toArray := by
  congr 1
  obtain ⟨l⟩ := xs
  simp only [List.size_toArray, List.getElem?_toArray]
  have e : (List.range l.length).filterMap (fun (m : Nat) => l[((l.length : Int) - 1 + (m : Int) * -1).toNat]?) = (List.range l.reverse.length).filterMap (fun m => l.reverse[m]?) := by
    rw [List.length_reverse]
    apply fm_congr
    intro m hm
    have hm' : m < l.length := List.mem_range.mp hm
    rw [show ((l.length : Int) - 1 + (m : Int) * -1).toNat = l.length - 1 - m by omega, List.getElem?_reverse hm']
  rw [e, fm_all]
theorem getItem_tuple_back {t sl : Addr} {items : Array Value} {v : Value} {Q : Value → Shared → Prop} (ht : IsTup s.heap t items) (hs : s.heap.IsSliceOf sl .none .none v) (pv : IsPart v (some (-1)))
    (h : Q (.ref s.heap.objs.size) { s with heap := s.heap.push { cls := .type "tuple", data := .seq items.toList.reverse.toArray } })
    (hsz : items.size ≤ sizeLine) : wpAny (model prog w) A (getItem (.ref t) (.ref sl)) Q E s := by
  have hfit : sizeOk (.seq items.toList.reverse.toArray) := by
    show items.toList.reverse.toArray.size ≤ sizeLine
    rw [List.size_toArray, List.length_reverse, Array.length_toList]
    exact hsz
  obtain ⟨os, hos, hcs, hds⟩ := id hs
  have hTs : s.TypeIs (.ref sl) "slice" := ⟨os, hos, hcs⟩
  unfold getItem
  try with_reducible refine wpAny_holding ?_
  first | refine wpAny_bind (wpAny_pure ?_) | skip
  refine wpAny_bind (wpAny_sequenceKey ht.typeIs (by decide) ?_)
  refine wpAny_bind (wpAny_callSpecial?_slot (name := Str.ofString "__getitem__") ht.typeIs PyProof.Rows.slot_tuple_getitem
    (wpAny_call_entry PyProof.Rows.slot_tuple_getitem ht.typeIs entry_tuple_getitem ?_ (args_tuple_getitem _ _)))
  show wpAny _ _ (Builtin.Tuple.tupleItemsOf (.ref t) >>= _) _ _ s
  refine wpAny_bind (tupleItemsOf_ ht (wpAny_bind (wpAny_typeOf hTs ?_)))
  rw [if_pos (by decide)]
  refine wpAny_bind (backSlice hs pv ?_)
  have hno : ¬ ((((items.size : Nat) : Int) - 1 == 0 && (-1 : Int) == 1 && items.size == items.size) = true) := by
    simp
  show wpAny _ _ (if (((items.size : Nat) : Int) - 1 == 0 && (-1 : Int) == 1 && items.size == items.size) = true then _ else _) _ _ s
  rw [if_neg hno, backPick]
  first
    | exact wpAny_bind (m := Builtin.Tuple.tupleExact _) (wpAny_newObj_type (wpAny_pure ⟨_, rfl, wpAny_pure h⟩) hfit)
    | exact wpAny_bind (m := Builtin.Tuple.tupleExact _) (wpAny_newObj_type (wpAny_bind (wpAny_pure (wpAny_pure ⟨_, rfl, wpAny_pure h⟩))) hfit)
    | exact wpAny_bind (wpAny_bind (m := Builtin.Tuple.tupleExact _) (wpAny_newObj_type (wpAny_pure (wpAny_pure ⟨_, rfl, wpAny_pure h⟩)) hfit))
    | exact wpAny_bind (wpAny_bind (m := Builtin.Tuple.tupleExact _) (wpAny_newObj_type (wpAny_pure ⟨_, rfl, wpAny_pure h⟩) hfit))
end
def tBackT (K : PySem.W.Frag) (te : TE) : TE := fun σ H Q => te σ H fun x H1 => ∃ a xs, x = .ref a ∧ SqT K H1 a xs ∧ ∀ p, H1 p = none → Q (.ref p) (upd H1 p (.tup xs.reverse))
section
variable {X : Cx}
theorem pe_backT {e : Expr} {te : TE} {k : Nat} {p1 p2 p3 pos : Pos} (he : PE X e te) :
    PE X (.Subscript e (.Slice none none (some (.UnaryOp .USub (.Constant (.int 1) k p1) p2)) p3) pos) (tBackT X.K te) := by
  refine ⟨fun pins s σ H Q I h => Subscript_ (thn (he.run pins s σ H _ I h) fun v s1 ⟨x, H1, I1, r1, a, xs, ex, hx, q⟩ => ?_)⟩
  subst ex
  cases r1
  have st : PO X (some (.UnaryOp .USub (.Constant (.int 1) k p1) p2)) (tPart (tUn (rU fun i => .int (-i)) (tC (.int 1)))) := po_some (pe_un un_neg pe_int)
  refine wpAny_Slice (thn (po_none.run pins s1 σ H1 (fun o H2 => o = none ∧ H2 = H1) I1 ⟨rfl, rfl⟩) fun vl s2 ⟨l, H2, I2, pl, el, e2⟩ => ?_)
  subst el e2
  refine thn (po_none.run pins s2 σ H2 (fun o H3 => o = none ∧ H3 = H2) I2 ⟨rfl, rfl⟩) fun vu s3 ⟨u, H3, I3, pu, eu, e3⟩ => ?_
  subst eu e3
  refine thn (st.run pins s3 σ H3 (fun o H4 => o = some (-1) ∧ H4 = H3) I3 ⟨1, rfl, -1, rfl, rfl, rfl⟩) fun vs s4 ⟨o, H4, I4, ps, eo, e4⟩ => ?_
  subst eo e4
  cases pl
  cases pu
  have I5 : Inv X pins σ H4 { s4 with heap := s4.heap.push { cls := .type "slice", data := .fields #[.none, .none, vs] } } := I4.kept (t' := s4.toks) fun b ob z => Heap.get?_push_of_some _ z
  obtain ⟨its, r, ht, hz⟩ := I5.tuple hx
  have hlen : its.toArray.size ≤ sizeLine := by
    rw [List.size_toArray, ← r.length]
    exact hz
  refine tail_any (ops := [.ref a, .ref s4.heap.objs.size]) ht.typeIs PyProof.Rows.slot_tuple_getitem.lookup ?_ (by with_unfolding_all rfl)
  refine getItem_tuple_back ht (Heap.IsSliceOf.new _ .none .none vs) ps ?_ hlen
  refine ⟨.ref _, _, I5.laid (t' := s4.toks) (o := .tup xs.reverse) (fun b ob z => Heap.get?_push_of_some _ z) (Nat.le_refl _) ?_, rfl, q _ (I5.hok.fresh (Nat.le_refl _))⟩
  exact ⟨by rw [List.length_reverse]; exact hz, its.reverse, r.reverse, ⟨_, Heap.get?_push_size _ rfl, rfl, _, rfl⟩⟩
end
end Gd

namespace Gd
open PySem PySem.Spec PyProof.Rows L2
/-! ### repr(x), x any data -/
def rRepr (K : PySem.W.Frag) : List V → Hp → VK → Prop := fun xs H Q =>
  ∃ x d, xs = [x] ∧ Dp K H x d ∧ d.showable = true ∧ d.depth ≤ 180 ∧ d.shown.length ≤ sizeLine ∧ Q (.str d.shown) H
mutual
theorem dp_plain {K : PySem.W.Frag} {H : Hp} : ∀ {v : V} {d : PyData}, Dp K H v d → d.hasDict = false
  | _, _, .non => by simp only [PyData.hasDict]
  | _, _, .bl _ => by simp only [PyData.hasDict]
  | _, _, .int _ => by simp only [PyData.hasDict]
  | _, _, .str _ => by simp only [PyData.hasDict]
  | _, _, .lst _ h => by simp only [PyData.hasDict]; exact dp_plains h
  | _, _, .tup _ h => by simp only [PyData.hasDict]; exact dp_plains h
theorem dp_plains {K : PySem.W.Frag} {H : Hp} : ∀ {vs : List V} {ds : List PyData}, DpAll K H vs ds → PyData.hasDictAll ds = false
  | _, _, .nil => by simp only [PyData.hasDictAll]
  | _, _, .cons h t => by simp only [PyData.hasDictAll, dp_plain h, dp_plains t, Bool.or_false]
end
section
variable {X : Cx}
theorem call_repr (hg : X.A.guards = some []) (hu : X.A.units + 200 < cLine) : CallR X (.builtin "repr") (rRepr X.K) := by
  rintro pins s σ H xs us Q I r ⟨x, d, rfl, hd, hs, hdp, hz, q⟩
  obtain ⟨u, rfl, ru⟩ := Vals.one r
  have hh := dp_plain hd
  obtain ⟨as, rd⟩ := Dp.reads I d x u hd ru
  cases hd with
  | non => cases ru; exact PySem.P.repr_of_none ⟨.str _, H, I.tok _, ⟨_, rfl⟩, q⟩
  | bl b => cases ru; exact PySem.P.repr_of_bool ⟨.str _, H, I.tok _, ⟨_, rfl⟩, q⟩
  | int i =>
    obtain ⟨t, rfl⟩ := ru
    exact PySem.P.repr_of_int (by simpa [PyData.showable] using hs) ⟨.str _, H, I.tok _, ⟨_, rfl⟩, q⟩
  | str y =>
    obtain ⟨t, rfl⟩ := ru
    exact PySem.P.repr_of_str ⟨.str _, H, I.tok _, ⟨_, rfl⟩, q⟩ hz
  | lst h1 h2 =>
    cases ru
    exact repr_of_reads' rd hs (PyData.noDict_hsm hh) hg (by omega) (fun _ _ e => e) (fun h' t tk hk => ⟨.str _, H, I.kept (t' := tk) hk, ⟨_, rfl⟩, q⟩) hz
  | tup h1 h2 =>
    cases ru
    exact repr_of_reads' rd hs (PyData.noDict_hsm hh) hg (by omega) (fun _ _ e => e) (fun h' t tk hk => ⟨.str _, H, I.kept (t' := tk) hk, ⟨_, rfl⟩, q⟩) hz
end
/-! ### the law's own call -/
theorem law_end {P : Program} {w : World} {K : PySem.W.Frag} {mg mb : Str → Option Value} {k : Nat} {fa a : Addr} {fd : FuncData} {x : Str} {sp : Sp} {s1 : Shared} {us : List Value} {ns : List Int}
    (KX : K.In s1.heap) (gl : s1.heap.Ns mainGlobals mg) (bl : s1.heap.Ns builtinsNs mb) (bb : ∀ x : Str, x ≠ "__name__" → mb x = bootBuiltins x) (lim : s1.heap.NoLimit) (hg : s1.gens = #[])
    (ha : s1.heap.get? a = some { cls := .type "list", data := .seq us.toArray }) (hi : IntsAre us ns) (hl : ns.length ≤ sizeLine) (hr : Room k callerA)
    (F : ∀ base : Heap, K.In base → base.Ns mainGlobals mg → FG P w K mg base CX0 k fa fd [x] sp) (hb : ∀ (s : Shared) (u : Value), BindsTo s fd ⟨[u], []⟩ [(x, u)])
    (hsp : ∀ H : Hp, Only H → SqL K H a (ns.map V.int) → sp [.ref a] H (fun v _ => v = .bl true) fun _ _ _ => False) :
    codeAny (model P w) callerA (.call (.ref fa) ⟨[.ref a], []⟩) (fun r s2 => r = .ok (.ret (.bool true)) ∧ OldK s1.heap s2.heap ∧ s2.os = s1.os ∧ AllBare s2.gens) s1 := by
  have rv := L2.vals_ints hi
  have hlu := hi.length
  -- nothing is tracked, or the script alone
  obtain ⟨H, only, sq, held, alone, own⟩ : ∃ H : Hp, Only H ∧ SqL K H a (ns.map V.int) ∧ HOk P w H s1.heap ∧ (∀ b, H b ≠ none → b = a) ∧ (H a ≠ none → K.lookup a = none) := by
    cases hk : K.lookup a with
    | some o =>
      have e := KX a o hk
      rw [ha] at e
      cases e
      refine ⟨fun _ => none, fun _ => Or.inl rfl, Or.inr ⟨_, us.toArray, _, hk, rfl, rfl, rfl, ?_, ?_⟩, fun b u z => ?_, fun b z => absurd rfl z, fun z => absurd rfl z⟩
      · rw [List.size_toArray, hlu]; exact hl
      · simpa using rv
      · exact nomatch (show (none : Option HO) = some u from z)
    | none =>
      refine ⟨fun b => if b = a then some (.frz { cls := .type "list", data := .seq us.toArray } (.lst (ns.map V.int))) else none, fun b => ?_, Or.inl (Or.inr ⟨_, if_pos rfl⟩), fun b u z => ?_, fun b z => ?_, fun _ => rfl⟩
      · by_cases c : b = a
        · exact Or.inr ⟨_, _, if_pos c⟩
        · exact Or.inl (if_neg c)
      · by_cases c : b = a
        · have z2 := (if_pos c).symm.trans z
          cases z2
          subst c
          exact ⟨ha, by rw [List.length_map]; exact hl, us, _, rv, ha⟩
        · exact nomatch (if_neg c).symm.trans z
      · by_cases c : b = a
        · exact c
        · exact absurd (if_neg c) z
  have away : ∀ {b : Addr} {o : Obj}, s1.heap.get? b = some o → (∀ ws n, o.data ≠ .seq ws n) → H b = none := fun {b o} e nd => by
    cases c : H b with
    | none => rfl
    | some u =>
      have z := alone b (by rw [c]; exact nofun)
      subst z
      rw [ha] at e
      cases e
      exact absurd rfl (nd _ _)
  have ns0 : ∀ {b : Addr} {m : Str → Option Value}, s1.heap.Ns b m → (hidT s1.heap H).Ns b m := fun {b m} ⟨o, es, ep, e, d, r⟩ =>
    ⟨o, es, ep, hidT_get e (away e fun ws n z => nomatch d.symm.trans z), d, r⟩
  have kin : K.In (hidT s1.heap H) := fun b o e => hidT_get (KX b o e) (by
    cases c : H b with
    | none => rfl
    | some u =>
      have z := alone b (by rw [c]; exact nofun)
      subst z
      rw [own (by rw [c]; exact nofun)] at e
      cases e)
  have hM : Mod K mg (hidT s1.heap H) := ⟨kin, ns0 gl, ⟨mb, ns0 bl, bb⟩, let ⟨mc, h1, h2⟩ := lim; ⟨mc, ns0 h1, h2⟩⟩
  have e0 : Env0 P w K mg (hidT s1.heap H) callerA [] s1 H := ⟨rfl, hM, fun b o e => of_hidT e, Nat.le_of_eq (hidT_size _ _), trivial, fun b z => (List.not_mem_nil z).elim, held, .of_eq hg⟩
  refine codeAny_mono ((F _ kin (ns0 gl)).run callerA [] s1 H ⟨[.ref a], []⟩ [.ref a] [.ref a] _ _ rfl hr e0 (hb s1 (.ref a)) (.cons rfl .nil) (hsp H only sq)) fun r s2 h => ?_
  rcases r with er | fl
  · exact False.elim h
  · cases fl
    case ret u =>
      skip
      first
      | exact False.elim h
      | (obtain ⟨v, H2, os, bare, un, held2, r2, q⟩ := h
         have q' : v = .bl true := q
         subst q'
         obtain rfl : u = Value.bool true := r2
         refine ⟨rfl, OldK.of_keep fun b o e => ?_, os, bare⟩
         cases c : H b with
         | none => exact un.keep b o e c (fun z => (List.not_mem_nil z).elim) List.not_mem_nil
         | some y =>
           rcases only b with z | ⟨ob, ys, z⟩
           · rw [c] at z; cases z
           · obtain ⟨e1, _⟩ := held b _ z
             obtain ⟨e2, _⟩ := held2 b _ (un.frzs b ob _ z)
             rw [e] at e1
             cases e1
             exact e2)
    all_goals exact False.elim h
theorem walk_g {l : PySem.W.OpenLaw} {n k : Nat} {q : Program} {loose : List Str} {XP : (Str → Option Value) → Heap → Prop} {YP : World → Heap → Prop} {d : DefRec} {K : Params → PySem.W.Frag} {sp : PySem.W.Frag → Sp} {x : Str}
    (hn : l.most = some n) (hn2 : n ≤ sizeLine) (hdf : d.params.defaults = []) (hr : Room k callerA)
    (hY : ∀ (w : World) (h : Heap), YP w h → (K w.params).In h)
    (F : ∀ (w : World) (mg : Str → Option Value) (fa : Addr) (h : Heap), (K w.params).In h → h.Ns mainGlobals mg → mg d.name = some (.ref fa) →
      ∃ fd : FuncData, (∀ (s : Shared) (u : Value), BindsTo s fd ⟨[u], []⟩ [(x, u)]) ∧
        ∀ base : Heap, (K w.params).In base → base.Ns mainGlobals mg → FG l.prog w (K w.params) mg base CX0 k fa fd [x] (sp (K w.params)))
    (hsp : ∀ (K : PySem.W.Frag) (H : Hp) (a : Addr) (ns : List Int), ns.length ≤ n → Only H → SqL K H a (ns.map V.int) → sp K [.ref a] H (fun v _ => v = .bl true) fun _ _ _ => False) :
    PySem.W.WalkO q loose XP YP l.row.toRowW d [] (fun f vs => PySem.call f vs) := by
  refine Att.attach_call hn hdf fun w s0 s1 mg mb fa o pm cd doc a vs ns G Y ho hd hcd hmg hobj hints hlen hg => ?_
  have KX := hY w _ Y
  obtain ⟨fd, hb, hF⟩ := F w mg fa _ KX G.T.g hmg
  exact law_end KX G.T.g G.T.b G.T.builtins G.T.nolimit hg hobj hints (Nat.le_trans hlen hn2) hr hF hb fun H hO hS => hsp _ H a ns hlen hO hS
end Gd

namespace Gd
open PySem PySem.Spec PyProof.Rows L2
/-! ### how a heap goes on -/
/-- everything stays -/
abbrev Up (H H' : Hp) : Prop := ∀ (a : Addr) (o : HO), H a = some o → H' a = some o
/-- everything but what stands at b stays -/
abbrev Mv (b : Addr) (H H' : Hp) : Prop := ∀ (a : Addr) (o : HO), a ≠ b → H a = some o → H' a = some o
/-- the tuples stay -/
abbrev Tk (H H' : Hp) : Prop := ∀ (a : Addr) (xs : List V), H a = some (.tup xs) → H' a = some (.tup xs)
theorem Up.rf {H : Hp} : Up H H := fun _ _ h => h
theorem Up.tr {H H1 H2 : Hp} (a : Up H H1) (b : Up H1 H2) : Up H H2 := fun x o h => b x o (a x o h)
theorem Up.mv {H H1 : Hp} {b : Addr} (a : Up H H1) : Mv b H H1 := fun x o _ h => a x o h
theorem Mv.rf {b : Addr} {H : Hp} : Mv b H H := fun _ _ _ h => h
theorem Mv.tr {b : Addr} {H H1 H2 : Hp} (a : Mv b H H1) (c : Mv b H1 H2) : Mv b H H2 := fun x o n h => c x o n (a x o n h)
theorem Mv.wr {b : Addr} {H : Hp} {o : HO} : Mv b H (upd H b o) := fun x u n h => by rw [upd_ne n]; exact h
theorem Up.new {H : Hp} {p : Addr} {o : HO} (h : H p = none) : Up H (upd H p o) := fun x u e => by rw [upd_ne (ne_of_none e h)]; exact e
theorem Up.tk {H H1 : Hp} (a : Up H H1) : Tk H H1 := fun x xs h => a x _ h
theorem Mv.tk {b : Addr} {H H1 : Hp} {ys : List V} (a : Mv b H H1) (h : H b = some (.lst ys)) : Tk H H1 := fun x xs e => a x _ (ne_of e h nofun) e
theorem Tk.rf {H : Hp} : Tk H H := fun _ _ h => h
theorem Tk.tr {H H1 H2 : Hp} (a : Tk H H1) (b : Tk H1 H2) : Tk H H2 := fun x o h => b x o (a x o h)
theorem Up.fr {H H1 : Hp} {p : Addr} (a : Up H H1) (h : H1 p = none) : H p = none := by
  cases e : H p with
  | none => rfl
  | some o => rw [a p o e] at h; cases h
theorem Mv.fr {H H1 : Hp} {p b : Addr} {o : HO} (a : Mv b H H1) (hb : H1 b = some o) (h : H1 p = none) : H p = none := by
  cases e : H p with
  | none => rfl
  | some u =>
    by_cases c : p = b
    · subst c; rw [hb] at h; cases h
    · rw [a p u c e] at h; cases h
theorem Up.of {H H1 H2 : Hp} {p : Addr} (a : Up H H1) (n : H p = none) (m : Mv p H1 H2) : Up H H2 := fun x o e => m x o (ne_of_none e n) (a x o e)
theorem Mv.of {H H1 H2 : Hp} {b p : Addr} (a : Mv b H H1) (n : H p = none) (m : Mv p H1 H2) : Mv b H H2 := fun x o c e => m x o (ne_of_none e n) (a x o c e)
/-! ### data of tuples -/
mutual
/-- v is the data d, all of it in tuples -/
inductive Da (H : Hp) : V → PyData → Prop
  | non : Da H .non .none
  | str (x : Str) : Da H (.str x) (.str x)
  | tup {a : Addr} {xs : List V} {ds : List PyData} (h : H a = some (.tup xs)) (t : Das H xs ds) : Da H (.ref a) (.tuple ds)
inductive Das (H : Hp) : List V → List PyData → Prop
  | nil : Das H [] []
  | cons {v : V} {vs : List V} {d : PyData} {ds : List PyData} (h : Da H v d) (t : Das H vs ds) : Das H (v :: vs) (d :: ds)
end
mutual
theorem Da.tk {H H' : Hp} (k : Tk H H') : ∀ {v : V} {d : PyData}, Da H v d → Da H' v d
  | _, _, .non => .non
  | _, _, .str x => .str x
  | _, _, .tup h t => .tup (k _ _ h) (Das.tk k t)
theorem Das.tk {H H' : Hp} (k : Tk H H') : ∀ {vs : List V} {ds : List PyData}, Das H vs ds → Das H' vs ds
  | _, _, .nil => .nil
  | _, _, .cons h t => .cons (Da.tk k h) (Das.tk k t)
end
mutual
theorem Da.dp {K : PySem.W.Frag} {H : Hp} : ∀ {v : V} {d : PyData}, Da H v d → Dp K H v d
  | _, _, .non => .non
  | _, _, .str x => .str x
  | _, _, .tup h t => .tup (SqT.of h) (Das.dp t)
theorem Das.dp {K : PySem.W.Frag} {H : Hp} : ∀ {vs : List V} {ds : List PyData}, Das H vs ds → DpAll K H vs ds
  | _, _, .nil => .nil
  | _, _, .cons h t => .cons (Da.dp h) (Das.dp t)
end
theorem Da.up {H H' : Hp} {v : V} {d : PyData} (h : Da H v d) (k : Up H H') : Da H' v d := h.tk k.tk
theorem Das.up {H H' : Hp} {v : List V} {d : List PyData} (h : Das H v d) (k : Up H H') : Das H' v d := h.tk k.tk
theorem Das.length {H : Hp} : ∀ {vs : List V} {ds : List PyData}, Das H vs ds → vs.length = ds.length
  | _, _, .nil => rfl
  | _, _, .cons _ t => by simp [Das.length t]
theorem Das.app {H : Hp} : ∀ {vs ws : List V} {ds es : List PyData}, Das H vs ds → Das H ws es → Das H (vs ++ ws) (ds ++ es)
  | _, _, _, _, .nil, h => h
  | _, _, _, _, .cons h t, g => .cons h (Das.app t g)
theorem Das.rev {H : Hp} {vs : List V} {ds : List PyData} (h : Das H vs ds) : Das H vs.reverse ds.reverse := by
  induction vs generalizing ds with
  | nil => cases h; exact .nil
  | cons v vs ih =>
    cases h with
    | cons a t =>
      rw [List.reverse_cons, List.reverse_cons]
      exact (ih t).app (.cons a .nil)
theorem Das.get {H : Hp} : ∀ {vs : List V} {ds : List PyData} {i : Nat} {d : PyData}, Das H vs ds → ds[i]? = some d → ∃ v, vs[i]? = some v ∧ Da H v d
  | _, _, _, _, .nil, e => by simp at e
  | _, _, 0, _, .cons h _, e => by
    simp only [List.getElem?_cons_zero, Option.some.injEq] at e
    subst e
    exact ⟨_, by simp, h⟩
  | _, _, i + 1, _, .cons _ t, e => by
    simp only [List.getElem?_cons_succ] at e
    obtain ⟨v, h1, h2⟩ := Das.get t e
    exact ⟨v, by simpa using h1, h2⟩
theorem Das.at {H : Hp} {vs : List V} {ds : List PyData} {i : Nat} {v : V} (h : Das H vs ds) (e : vs[i]? = some v) : ∃ d, ds[i]? = some d ∧ Da H v d := by
  have l := h.length
  have hi : i < ds.length := by rw [← l]; exact (List.getElem?_eq_some_iff.mp e).1
  obtain ⟨w, h1, h2⟩ := h.get (List.getElem?_eq_getElem hi)
  rw [e] at h1
  cases h1
  exact ⟨_, List.getElem?_eq_getElem hi, h2⟩
theorem Da.str_inv {H : Hp} {v : V} {x : Str} (h : Da H v (.str x)) : v = .str x := by cases h; rfl
theorem Da.non_inv {H : Hp} {v : V} (h : Da H v .none) : v = .non := by cases h; rfl
theorem Da.tup_inv {H : Hp} {v : V} {ds : List PyData} (h : Da H v (.tuple ds)) : ∃ a xs, v = .ref a ∧ H a = some (.tup xs) ∧ Das H xs ds := by
  cases h with
  | tup h t => exact ⟨_, _, rfl, h, t⟩
theorem Das.one {H : Hp} {xs : List V} {d : PyData} (h : Das H xs [d]) : ∃ v, xs = [v] ∧ Da H v d := by
  cases h with
  | cons a t => cases t; exact ⟨_, rfl, a⟩
theorem Das.two {H : Hp} {xs : List V} {d e : PyData} (h : Das H xs [d, e]) : ∃ v w, xs = [v, w] ∧ Da H v d ∧ Da H w e := by
  cases h with
  | cons a t =>
    obtain ⟨w, rfl, b⟩ := t.one
    exact ⟨_, _, rfl, a, b⟩
theorem Das.three {H : Hp} {xs : List V} {d e f : PyData} (h : Das H xs [d, e, f]) : ∃ v w u, xs = [v, w, u] ∧ Da H v d ∧ Da H w e ∧ Da H u f := by
  cases h with
  | cons a t =>
    obtain ⟨w, u, rfl, b, c⟩ := t.two
    exact ⟨_, _, _, rfl, a, b, c⟩
/-! ### readings, step by step -/
section
variable {σ : L2.St} {H : Hp} {Q : VK} {ta tb te : TE} {t : TA} {K : PySem.W.Frag} {D : Ends}
theorem r_var {i : Nat} {v : V} (h : σ[i]? = some (some v)) (q : Q v H) : tVar i σ H Q := ⟨v, h, q⟩
theorem r_c {v : V} (q : Q v H) : tC v σ H Q := q
theorem r_op {r : R2} (h : ta σ H fun x H1 => tb σ H1 fun y H2 => r x y H2 Q) : tOp r ta tb σ H Q := h
theorem r_un {r : V → Hp → VK → Prop} (h : ta σ H fun x H1 => r x H1 Q) : tUn r ta σ H Q := h
theorem r_neg {i : Int} {g : Int → V} (q : Q (g i) H) : rU g (.int i) H Q := ⟨i, rfl, q⟩
theorem r_i0 {g : Int → Int → V} {i j : Int} (q : Q (g i j) H) : rI0 g (.int i) (.int j) H Q := ⟨i, j, rfl, rfl, q⟩
theorem r_i {C : Int → Int → Prop} {g : Int → Int → V} {i j : Int} (c : C i j) (q : Q (g i j) H) : rI C g (.int i) (.int j) H Q := ⟨i, j, rfl, rfl, c, q⟩
theorem r_eqI {i j : Int} (q : Q (.bl (decide (i = j))) H) : rEq (.int i) (.int j) H Q := ⟨rfl, by
  have e : decide (V.int i = V.int j) = decide (i = j) := by
    by_cases c : i = j
    · subst c; simp
    · simp [c]
  rw [e]; exact q⟩
theorem r_eqS {x y : Str} (q : Q (.bl (decide (x = y))) H) : rEq (.str x) (.str y) H Q := ⟨rfl, by
  have e : decide (V.str x = V.str y) = decide (x = y) := by
    by_cases c : x = y
    · subst c; simp
    · simp [c]
  rw [e]; exact q⟩
theorem r_neI {i j : Int} (q : Q (.bl (!decide (i = j))) H) : rNe (.int i) (.int j) H Q := ⟨rfl, by
  have e : decide (V.int i = V.int j) = decide (i = j) := by
    by_cases c : i = j
    · subst c; simp
    · simp [c]
  rw [e]; exact q⟩
theorem r_neS {x y : Str} (q : Q (.bl (!decide (x = y))) H) : rNe (.str x) (.str y) H Q := ⟨rfl, by
  have e : decide (V.str x = V.str y) = decide (x = y) := by
    by_cases c : x = y
    · subst c; simp
    · simp [c]
  rw [e]; exact q⟩
theorem r_tup (h : t σ H fun xs H1 => xs.length ≤ 100000 ∧ ∀ p H2, H1 p = none → Up H1 H2 → H2 p = some (.tup xs) → Q (.ref p) H2)
    (mono : ∀ (R R' : List V → Hp → Prop), (∀ a b, R a b → R' a b) → t σ H R → t σ H R') : tTup t σ H Q :=
  mono _ _ (fun xs H1 ⟨l, k⟩ => ⟨Nat.le_trans l (by decide), fun p hp => k p _ hp (Up.new hp) upd_same⟩) h
theorem r_nil {R : List V → Hp → Prop} (q : R [] H) : tNil σ H R := q
theorem r_cons {R : List V → Hp → Prop} (h : ta σ H fun x H1 => t σ H1 fun xs H2 => R (x :: xs) H2) : tCons ta t σ H R := h
/-- a tuple, a list display: behind the items -/
def newT (Q : VK) (xs : List V) (H : Hp) : Prop := xs.length ≤ sizeLine ∧ ∀ p, H p = none → Q (.ref p) (upd H p (.tup xs))
def newL (Q : VK) (xs : List V) (H : Hp) : Prop := xs.length ≤ sizeLine ∧ ∀ p, H p = none → Q (.ref p) (upd H p (.lst xs))
def newB (K : PySem.W.Frag) (Q : VK) (x : V) (H : Hp) : Prop := ∃ a xs, x = .ref a ∧ SqT K H a xs ∧ ∀ p, H p = none → Q (.ref p) (upd H p (.tup xs.reverse))
theorem r_tup' (h : t σ H fun xs H1 => newT Q xs H1) : tTup t σ H Q := h
theorem r_lst' (h : t σ H fun xs H1 => newL Q xs H1) : tLst t σ H Q := h
theorem r_newT {xs : List V} (hn : xs.length ≤ 100000) (h : ∀ p H2, H p = none → Up H H2 → H2 p = some (.tup xs) → Q (.ref p) H2) : newT Q xs H :=
  ⟨Nat.le_trans hn (by decide), fun p hp => h p _ hp (Up.new hp) upd_same⟩
theorem r_newL {xs : List V} (hn : xs.length ≤ 100000) (h : ∀ p H2, H p = none → Up H H2 → H2 p = some (.lst xs) → Q (.ref p) H2) : newL Q xs H :=
  ⟨Nat.le_trans hn (by decide), fun p hp => h p _ hp (Up.new hp) upd_same⟩
theorem r_ifE {c : TT} (h : c σ H fun b H1 => if b = true then ta σ H1 Q else tb σ H1 Q) : tIf c ta tb σ H Q := h
theorem r_test {R : Bool → Hp → Prop} (h : te σ H fun x H1 => ∃ k, x = .bl k ∧ R k H1) : tTest te σ H R := h
theorem r_b {R : Bool → Hp → Prop} (h : te σ H fun x H1 => ∃ k, x = .bl k ∧ R k H1) : tB te σ H R := h
theorem r_bl {b : Bool} {R : Bool → Prop} (h : R b) : ∃ k, V.bl b = .bl k ∧ R k := ⟨b, rfl, h⟩
theorem r_and {c d : TT} {R : Bool → Hp → Prop} (h : c σ H fun b H1 => if b = true then d σ H1 R else R false H1) : tAnd c d σ H R := h
theorem r_or {c d : TT} {R : Bool → Hp → Prop} (h : c σ H fun b H1 => if b = true then R true H1 else d σ H1 R) : tOr c d σ H R := h
theorem r_not {c : TT} {R : Bool → Hp → Prop} (h : c σ H fun b H1 => R (!b) H1) : tNot c σ H R := h
theorem r_andV (h : ta σ H fun x H1 => ∃ k, x = .bl k ∧ if k = true then tb σ H1 Q else Q (.bl false) H1) : tAndV ta tb σ H Q := h
theorem r_orV (h : ta σ H fun x H1 => ∃ k, x = .bl k ∧ if k = true then Q (.bl true) H1 else tb σ H1 Q) : tOrV ta tb σ H Q := h
theorem r_cb {r : List V → Hp → VK → Prop} (h : t σ H fun vs H1 => r vs H1 Q) : tCB r t σ H Q := h
theorem r_bm0 {T : String} {r : V → List V → Hp → VK → Prop} (h : te σ H fun x H1 => tyV K T x H1 ∧ r x [] H1 Q) : tBM0 K T r te σ H Q := h
theorem r_bm {T : String} {r : V → List V → Hp → VK → Prop} (h : te σ H fun x H1 => tyV K T x H1 ∧ t σ H1 fun xs H2 => r x xs H2 Q) : tBM K T r te t σ H Q := h
theorem r_sl {r : V → Option Int → Option Int → Hp → VK → Prop} {tl th : TO} (h : te σ H fun x H1 => tl σ H1 fun l H2 => th σ H2 fun u H3 => r x l u H3 Q) : tSl r te tl th σ H Q := h
theorem r_nop {R : Option Int → Hp → Prop} (q : R none H) : tNoPart σ H R := q
theorem r_part {R : Option Int → Hp → Prop} (h : te σ H fun x H1 => ∃ i, x = .int i ∧ R (some i) H1) : tPart te σ H R := h
theorem r_int {i : Int} {R : Int → Prop} (q : R i) : ∃ j, V.int i = .int j ∧ R j := ⟨i, rfl, q⟩
theorem r_back (h : te σ H fun x H1 => newB K Q x H1) : tBackT K te σ H Q := h
theorem r_ixT {a : Addr} {i : Int} {v : V} {xs : List V} (h : H a = some (.tup xs)) (e : atI xs i = some v) (q : Q v H) : rIxT K (.ref a) (.int i) H Q := ⟨a, xs, i, v, rfl, rfl, SqT.of h, e, q⟩
theorem r_ixL {a : Addr} {i : Int} {v : V} {xs : List V} (h : H a = some (.lst xs)) (e : atI xs i = some v) (q : Q v H) : rIxL K (.ref a) (.int i) H Q := ⟨a, xs, i, v, rfl, rfl, SqL.of h, e, q⟩
theorem r_setL {p : Addr} {xs : List V} {k : Int} {j : Nat} {v : V} {R : Hp → Prop} (h : H p = some (.lst xs)) (e : ixN xs.length k = some j) (q : R (upd H p (.lst (xs.set j v)))) : rSetL (.ref p) (.int k) v H R := ⟨p, xs, k, j, rfl, rfl, h, e, q⟩
theorem r_seq {u : TS} {s : TS} (h : s { D with nx := u D } σ H) : tSeq s u D σ H := h
theorem r_nx (h : D.nx σ H) : tNext D σ H := h
theorem r_ret (h : te σ H D.rt) : tRet te D σ H := h
theorem r_drop (h : te σ H fun _ H1 => D.nx σ H1) : tDrop te D σ H := h
theorem r_asg {g : TG} (h : te σ H fun x H1 => g x σ H1 D.nx) : tAsg te g D σ H := h
theorem r_name {i : Nat} {v : V} {R : L2.St → Hp → Prop} (h : R (σ.set i (some v)) H) : gName i v σ H R := h
theorem r_sub {to ti : TE} {s : TSet} {v : V} {R : L2.St → Hp → Prop} (h : to σ H fun o H1 => ti σ H1 fun i H2 => s o i v H2 fun H3 => R σ H3) : gSub to ti s v σ H R := h
theorem r_ifS {c : TT} {a b : TS} (h : c σ H fun k H1 => if k = true then a D σ H1 else b D σ H1) : tIfS c a b D σ H := h
theorem r_par {i j : Nat} (h : t σ H fun vs H1 => ∃ v w, vs = [v, w] ∧ D.nx ((σ.set i (some v)).set j (some w)) H1) : tPar i j t D σ H := h
theorem r_2 {v w : V} {R : V → V → Prop} (h : R v w) : ∃ x y, [v, w] = [x, y] ∧ R x y := ⟨v, w, rfl, h⟩
theorem r_for {wi : TI} {g : TG} {tb : TS} (h : wi σ H fun J H1 => ∃ W : Nat → Nat → L2.St → Hp → Prop, (∃ m, W 0 m σ H1) ∧ ∀ i m σ H, W i m σ H →
  (J.stop i H ∧ D.nx σ H) ∨ (J.go i H ∧ ∃ N : L2.St → Hp → Prop, (∀ σ' H', N σ' H' → ∃ m', m' < m ∧ W (i + 1) m' σ' H') ∧ ∀ x H', J.yld i H x H' → g x σ H' fun σ2 H2 => tb { D with nx := N, ct := N, bk := D.nx } σ2 H2)) : tFor wi g tb D σ H := h
theorem r_appL {l : Addr} {xs : List V} {y : V} (h : H l = some (.lst xs)) (hl : xs.length < 100000) (q : Q .non (upd H l (.lst (xs ++ [y])))) : rAppend (.ref l) [y] H Q := ⟨l, xs, y, rfl, rfl, h, Nat.lt_of_lt_of_le hl (by decide), q⟩
theorem r_star {R : List V → Hp → Prop} (h : te σ H fun x H1 => ∃ p xs, x = V.ref p ∧ (SqT K H1 p xs ∨ SqL K H1 p xs) ∧ t σ H1 fun ys H2 => R (xs ++ ys) H2) : StX.tStar K te t σ H R := h
theorem ifT {b : Bool} {A B : Prop} (h : b = true) (q : A) : if b = true then A else B := by rw [if_pos h]; exact q
theorem ifF {b : Bool} {A B : Prop} (h : b = false) (q : B) : if b = true then A else B := by rw [if_neg (by rw [h]; decide)]; exact q
theorem ifD {p : Prop} [Decidable p] {A B : Prop} (h1 : p → A) (h2 : ¬ p → B) : if decide p = true then A else B := by
  by_cases c : p
  · rw [if_pos (by simpa using c)]; exact h1 c
  · rw [if_neg (by simpa using c)]; exact h2 c
theorem ifN {p : Prop} [Decidable p] {A B : Prop} (h1 : ¬ p → A) (h2 : p → B) : if (!decide p) = true then A else B := by
  by_cases c : p
  · rw [if_neg (by simpa using c)]; exact h2 c
  · rw [if_pos (by simpa using c)]; exact h1 c
end
end Gd
namespace Gd
open PySem PySem.Spec PyProof.Rows L2
section
variable {σ : L2.St} {H : Hp} {Q : VK} {K : PySem.W.Frag}
theorem eqV_str (a b : Str) : eqV (.str a) (.str b) = decide (b = a) := by
  simp only [eqV]
  by_cases c : b = a
  · subst c; simp
  · simp [c, Ne.symm c]
theorem r_in2 {p : Addr} {a b s : Str} (h : H p = some (.tup [.str a, .str b])) (q : Q (.bl (decide (s = a) || decide (s = b))) H) : rIn K false (.str s) (.ref p) H Q :=
  ⟨p, _, rfl, Or.inr (SqT.of h), rfl, rfl, by
    have e : inV (.str s) [.str a, .str b] = (decide (s = a) || decide (s = b)) := by simp only [inV, List.any_cons, List.any_nil, eqV_str, Bool.or_false]
    simp only [Bool.false_eq_true, if_false]
    rw [e]; exact q⟩
theorem r_ni2 {p : Addr} {a b s : Str} (h : H p = some (.tup [.str a, .str b])) (q : Q (.bl (!(decide (s = a) || decide (s = b)))) H) : rIn K true (.str s) (.ref p) H Q :=
  ⟨p, _, rfl, Or.inr (SqT.of h), rfl, rfl, by
    have e : inV (.str s) [.str a, .str b] = (decide (s = a) || decide (s = b)) := by simp only [inV, List.any_cons, List.any_nil, eqV_str, Bool.or_false]
    simp only [if_true]
    rw [e]; exact q⟩
/-- the slice of a tuple from its first place on: all but the first item -/
theorem r_from1 {a : Addr} {x : V} {xs : List V} (h : H a = some (.tup (x :: xs))) (q : ∀ p H2, Up H H2 → H2 p = some (.tup xs) → Q (.ref p) H2) : rSlA K (.ref a) (some 1) none H Q := by
  have e0 : HT.sIx (x :: xs).length 0 (some 1) = 1 := by
    have := HT.sIx_nat (x :: xs).length 0 1
    rw [show ((1 : Nat) : Int) = 1 from rfl] at this
    rw [this, List.length_cons]
    omega
  have e1 : HT.sIx (x :: xs).length (x :: xs).length none = (x :: xs).length := rfl
  have ec : cutV (x :: xs) (some 1) none = xs := by
    unfold cutV
    rw [e0, e1]
    simp
  refine ⟨a, _, rfl, SqT.of h, fun z => ?_, fun _ p hp => ?_⟩
  · rw [e0] at z; exact absurd z.1 (by decide)
  · rw [ec]; exact q p _ (Up.new hp) upd_same
theorem r_catA {a b : Addr} {xs ys : List V} (ha : H a = some (.tup xs)) (hb : H b = some (.tup ys)) (hl : xs.length + ys.length ≤ 100000) (q : ∀ p H2, Up H H2 → H2 p = some (.tup (xs ++ ys)) → Q (.ref p) H2) : rCatA K (.ref a) (.ref b) H Q := by
  refine ⟨a, b, xs, ys, rfl, rfl, SqT.of ha, SqT.of hb, Nat.le_trans hl (by decide), fun e => ?_, fun _ e => ?_, fun _ _ p hp => q p _ (Up.new hp) upd_same⟩
  · subst e; exact q b H Up.rf hb
  · subst e; exact q a H Up.rf (by rw [List.append_nil]; exact ha)
theorem r_nn {A : Prop} (h : A) : V.non = V.non ∧ A := ⟨rfl, h⟩
theorem r_notN {v : V} (q : Q (.bl (!decide (v = .non))) H) : (fun x y H (Q : VK) => y = V.non ∧ Q (.bl (!decide (x = .non))) H) v .non H Q := ⟨rfl, q⟩
theorem r_bk {a : Addr} {xs : List V} (h : H a = some (.tup xs)) (q : ∀ p H2, H p = none → Up H H2 → H2 p = some (.tup xs.reverse) → Q (.ref p) H2) : newB K Q (.ref a) H :=
  ⟨a, xs, rfl, SqT.of h, fun p hp => q p _ hp (Up.new hp) upd_same⟩
end
end Gd
namespace Gd
open PySem PySem.Spec PyProof.Rows L2
section
variable {σ : L2.St} {H : Hp} {Q : VK} {K : PySem.W.Frag}
theorem r_tyL {l : Addr} {xs : List V} {B : Prop} (h : H l = some (.lst xs)) (q : B) : tyV K "list" (.ref l) H ∧ B := ⟨Or.inl ⟨rfl, _, Or.inl (Or.inl h)⟩, q⟩
theorem r_tyS {x : Str} {B : Prop} (q : B) : tyV K "str" (.str x) H ∧ B := ⟨rfl, q⟩
theorem r_pop {l : Addr} {xs : List V} {y : V} (h : H l = some (.lst (xs ++ [y]))) (q : ∀ H2, Mv l H H2 → H2 l = some (.lst xs) → Q y H2) : rPop (.ref l) [] H Q :=
  ⟨l, _, y, rfl, rfl, h, by simp, by rw [List.dropLast_concat]; exact q _ Mv.wr upd_same⟩
theorem r_app {l : Addr} {xs : List V} {y : V} (h : H l = some (.lst xs)) (hl : xs.length < 100000) (q : ∀ H2, Mv l H H2 → H2 l = some (.lst (xs ++ [y])) → Q .non H2) : rAppend (.ref l) [y] H Q :=
  ⟨l, xs, y, rfl, rfl, h, Nat.lt_of_lt_of_le hl (by decide), q _ Mv.wr upd_same⟩
theorem r_ext {l b : Addr} {xs ys : List V} (h : H l = some (.lst xs)) (hb : H b = some (.tup ys)) (hl : xs.length + ys.length ≤ 100000) (q : ∀ H2, Mv l H H2 → H2 l = some (.lst (xs ++ ys)) → Q .non H2) : rExtT K (.ref l) [.ref b] H Q :=
  ⟨l, b, xs, ys, rfl, rfl, h, SqT.of hb, Nat.le_trans hl (by decide), q _ Mv.wr upd_same⟩
theorem r_truL {l : Addr} {xs : List V} {R : Bool → Prop} (h : H l = some (.lst xs)) (q : R (!xs.isEmpty)) : ∃ k, TruV K (.ref l) H k ∧ R k := ⟨_, Or.inl ⟨xs, SqL.of h, rfl⟩, q⟩
theorem Das.snoc {H : Hp} {ws : List V} {ds : List PyData} {d : PyData} (h : Das H ws (ds ++ [d])) : ∃ vs v, ws = vs ++ [v] ∧ Das H vs ds ∧ Da H v d := by
  induction ds generalizing ws with
  | nil =>
    obtain ⟨v, rfl, hv⟩ := h.one
    exact ⟨[], v, rfl, .nil, hv⟩
  | cons e ds ih =>
    cases h with
    | cons a t =>
      obtain ⟨vs, v, rfl, h1, h2⟩ := ih t
      exact ⟨_ :: vs, v, rfl, .cons a h1, h2⟩
end
end Gd
namespace Gd
open PySem PySem.Spec PyProof.Rows L2
section
variable {σ : L2.St} {H : Hp} {Q : VK} {K : PySem.W.Frag} {te : TE}
theorem r_lenL {l : Addr} {xs : List V} (h : H l = some (.lst xs)) (q : Q (.int xs.length) H) : (fun vs H (Q : VK) => ∃ p ys, vs = [V.ref p] ∧ (SqL K H p ys ∨ SqT K H p ys) ∧ Q (.int ys.length) H) [.ref l] H Q := ⟨l, xs, rfl, Or.inl (SqL.of h), q⟩
def lenN (K : PySem.W.Frag) (Q : VK) (vs : List V) (H : Hp) : Prop := ∃ p ys, vs = [V.ref p] ∧ (SqL K H p ys ∨ SqT K H p ys) ∧ Q (.int ys.length) H
theorem lenN_of {l : Addr} {xs : List V} (h : H l = some (.lst xs)) (q : Q (.int xs.length) H) : ∃ p ys, [V.ref l] = [V.ref p] ∧ (SqL K H p ys ∨ SqT K H p ys) ∧ Q (.int ys.length) H := ⟨l, xs, rfl, Or.inl (SqL.of h), q⟩
end
/-- what holds between two turns of a comprehension: R of the items made so far -/
def LcP (D : Addr) (R : Nat → List V → Hp → Prop) (i : Nat) (H : Hp) : Prop := ∃ acc, R i acc H ∧ acc.length ≤ i ∧ H D = some (.lst acc)
/-- the end of a turn that makes y -/
def LcE (D : Addr) (R : Nat → List V → Hp → Prop) (i : Nat) : VK := fun y H => ∃ acc, H D = some (.lst acc) ∧ acc.length < sizeLine ∧ LcP D R (i + 1) (upd H D (.lst (acc ++ [y])))
theorem LcE.of {D : Addr} {R : Nat → List V → Hp → Prop} {i : Nat} {y : V} {H : Hp} {acc : List V} (h : H D = some (.lst acc)) (l : acc.length ≤ i) (hi : i < 100000) (q : ∀ H2, Mv D H H2 → H2 D = some (.lst (acc ++ [y])) → R (i + 1) (acc ++ [y]) H2) : LcE D R i y H :=
  ⟨acc, h, Nat.lt_of_le_of_lt l (Nat.lt_of_lt_of_le hi (by decide)), acc ++ [y], q _ Mv.wr upd_same, by rw [List.length_append, List.length_singleton]; omega, upd_same⟩
def lcB (J : It) (g : TG) (tt : TT) (te : TE) (vs : List Nat) (σ : L2.St) (Q : VK) (H1 : Hp) : Prop := ∀ D, H1 D = none → ∃ W : Nat → Nat → Hp → Prop, (∃ m, W 0 m (upd H1 D (.lst []))) ∧ ∀ i m H, W i m H →
  (J.stop i H ∧ Q (.ref D) H) ∨ (J.go i H ∧ ∃ Nx : Hp → Prop, (∀ H', Nx H' → ∃ m', m' < m ∧ W (i + 1) m' H') ∧ ∀ x H', J.yld i H x H' → g x (wipe σ vs) H' fun σ2 H2 => wipe σ2 vs = wipe σ vs ∧ tt σ2 H2 fun b H3 =>
    if b = true then te σ2 H3 fun y H4 => ∃ acc, H4 D = some (.lst acc) ∧ acc.length < sizeLine ∧ Nx (upd H4 D (.lst (acc ++ [y]))) else Nx H3)
section
variable {K : PySem.W.Frag} {tl : TE} {g : TG} {tt : TT} {te : TE} {vs : List Nat} {σ : L2.St} {H H1 : Hp} {Q : VK}
theorem r_lc {wi : TI} (h : wi σ H fun J H1 => lcB J g tt te vs σ Q H1) : tLc wi g tt te vs σ H Q := h
theorem r_il {R : It → Hp → Prop} (h : tl σ H fun x H1 => ∃ a, x = V.ref a ∧ (∃ xs, SqL K H1 a xs) ∧ R (Itl K a) H1) : iList K tl σ H R := h
theorem r_it {R : It → Hp → Prop} (h : tl σ H fun x H1 => ∃ a, x = V.ref a ∧ (∃ xs, SqT K H1 a xs) ∧ R (Itt K a) H1) : iTup K tl σ H R := h
theorem r_ir {ta : TA} {R : It → Hp → Prop} (h : ta σ H fun vs H1 => ∃ j : Int, vs = [.int j] ∧ -(2 ^ 62) ≤ j ∧ j < 2 ^ 62 ∧ R (Itr 0 j.toNat) H1) : iRng1 ta σ H R := h
theorem lc_L {a : Addr} {xs : List V} (ha : H1 a = some (.lst xs)) (hl : xs.length ≤ 100000) (R : Addr → Nat → List V → Hp → Prop)
    (h0 : ∀ D H2, H1 D = none → Up H1 H2 → H2 D = some (.lst []) → R D 0 [] H2) (hs : ∀ D i acc H2, R D i acc H2 → H2 a = some (.lst xs))
    (ht : ∀ D i x acc H2, H1 D = none → xs[i]? = some x → R D i acc H2 → acc.length ≤ i → i < 100000 → H2 D = some (.lst acc) →
      g x (wipe σ vs) H2 fun σ2 H3 => wipe σ2 vs = wipe σ vs ∧ tt σ2 H3 fun b H4 => if b = true then te σ2 H4 (LcE D (R D) i) else LcP D (R D) (i + 1) H4)
    (hd : ∀ D acc H2, H1 D = none → R D xs.length acc H2 → H2 D = some (.lst acc) → Q (.ref D) H2) :
    ∃ a', V.ref a = V.ref a' ∧ (∃ xs, SqL K H1 a' xs) ∧ lcB (Itl K a') g tt te vs σ Q H1 :=
  ⟨a, rfl, ⟨xs, SqL.of ha⟩, fun D hn => lc_list (K := K) (a := a) (xs := xs) (LcP D (R D)) ⟨[], h0 D _ hn (Up.new hn) upd_same, Nat.le_refl _, upd_same⟩ (fun i H2 _ ⟨acc, r, _, _⟩ => SqL.of (hs D i acc H2 r))
    (fun i x H2 hx ⟨acc, r, l, e⟩ => ht D i x acc H2 hn hx r l (Nat.lt_of_lt_of_le (List.getElem?_eq_some_iff.mp hx).1 hl) e) fun H2 ⟨acc, r, l, e⟩ => hd D acc H2 hn r e⟩
theorem lc_T {a : Addr} {xs : List V} (ha : H1 a = some (.tup xs)) (hl : xs.length ≤ 100000) (R : Addr → Nat → List V → Hp → Prop)
    (h0 : ∀ D H2, H1 D = none → Up H1 H2 → H2 D = some (.lst []) → R D 0 [] H2) (hs : ∀ D i acc H2, R D i acc H2 → H2 a = some (.tup xs))
    (ht : ∀ D i x acc H2, H1 D = none → xs[i]? = some x → R D i acc H2 → acc.length ≤ i → i < 100000 → H2 D = some (.lst acc) →
      g x (wipe σ vs) H2 fun σ2 H3 => wipe σ2 vs = wipe σ vs ∧ tt σ2 H3 fun b H4 => if b = true then te σ2 H4 (LcE D (R D) i) else LcP D (R D) (i + 1) H4)
    (hd : ∀ D acc H2, H1 D = none → R D xs.length acc H2 → H2 D = some (.lst acc) → Q (.ref D) H2) :
    ∃ a', V.ref a = V.ref a' ∧ (∃ xs, SqT K H1 a' xs) ∧ lcB (Itt K a') g tt te vs σ Q H1 :=
  ⟨a, rfl, ⟨xs, SqT.of ha⟩, fun D hn => lc_tup (K := K) (a := a) (xs := xs) (LcP D (R D)) ⟨[], h0 D _ hn (Up.new hn) upd_same, Nat.le_refl _, upd_same⟩ (fun i H2 _ ⟨acc, r, _, _⟩ => SqT.of (hs D i acc H2 r))
    (fun i x H2 hx ⟨acc, r, l, e⟩ => ht D i x acc H2 hn hx r l (Nat.lt_of_lt_of_le (List.getElem?_eq_some_iff.mp hx).1 hl) e) fun H2 ⟨acc, r, l, e⟩ => hd D acc H2 hn r e⟩
theorem lc_R {j : Int} (j0 : 0 ≤ j) (j1 : j ≤ 100000) (R : Addr → Nat → List V → Hp → Prop)
    (h0 : ∀ D H2, H1 D = none → Up H1 H2 → H2 D = some (.lst []) → R D 0 [] H2)
    (ht : ∀ D (i : Nat) acc H2, H1 D = none → (i : Int) < j → R D i acc H2 → acc.length ≤ i → i < 100000 → H2 D = some (.lst acc) →
      g (.int (0 + i)) (wipe σ vs) H2 fun σ2 H3 => wipe σ2 vs = wipe σ vs ∧ tt σ2 H3 fun b H4 => if b = true then te σ2 H4 (LcE D (R D) i) else LcP D (R D) (i + 1) H4)
    (hd : ∀ D acc H2, H1 D = none → R D j.toNat acc H2 → H2 D = some (.lst acc) → Q (.ref D) H2) :
    -(2 ^ 62) ≤ j ∧ j < 2 ^ 62 ∧ lcB (Itr 0 j.toNat) g tt te vs σ Q H1 :=
  ⟨by omega, by omega, fun D hn => lc_range (lo := 0) (n := j.toNat) (LcP D (R D)) ⟨[], h0 D _ hn (Up.new hn) upd_same, Nat.le_refl _, upd_same⟩
    (fun i H2 hi ⟨acc, r, l, e⟩ => ht D i acc H2 hn (by omega) r l (by omega) e) fun H2 ⟨acc, r, l, e⟩ => hd D acc H2 hn r e⟩
end
end Gd
namespace Gd
open PySem PySem.Spec PyProof.Rows L2
theorem r_wipe {s t : L2.St} {vs : List Nat} {B : Prop} (h : wipe s vs = t) (q : B) : wipe s vs = t ∧ B := ⟨h, q⟩
theorem r_yes {σ : L2.St} {H : Hp} {R : Bool → Hp → Prop} (q : R true H) : tYes σ H R := q
theorem r_t {A B : Prop} (q : A) : if true = true then A else B := by rw [if_pos rfl]; exact q
theorem r_f {A B : Prop} (q : B) : if false = true then A else B := by rw [if_neg (by decide)]; exact q
end Gd
namespace Gd
open PySem PySem.Spec PyProof.Rows L2
theorem r_L1 {i : Int} {R : Int → Prop} (q : R i) : ∃ j, [V.int i] = [V.int j] ∧ R j := ⟨i, rfl, q⟩
theorem r_iB {b : Bool} {A : Int → Prop} {R : Bool → Prop} (q : R b) : (∃ i, [V.bl b] = [V.int i] ∧ A i) ∨ ∃ k, [V.bl b] = [V.bl k] ∧ R k := Or.inr ⟨b, rfl, q⟩
theorem r_L2 {i j : Int} {R : Int → Int → Prop} (q : R i j) : ∃ a b, [V.int i, V.int j] = [V.int a, V.int b] ∧ R a b := ⟨i, j, rfl, q⟩
theorem atI_ex {α : Type} {xs : List α} {i : Int} (h0 : 0 ≤ i) (h1 : i < xs.length) : ∃ v, atI xs i = some v ∧ v ∈ xs := by
  obtain ⟨n, rfl⟩ := Int.eq_ofNat_of_zero_le h0
  have hn : n < xs.length := by omega
  exact ⟨xs[n], atI_nat (List.getElem?_eq_getElem hn), List.getElem_mem hn⟩
theorem atI_lt {α : Type} {xs : List α} {i : Int} (h0 : 0 ≤ i) (h1 : i < xs.length) : ∃ (n : Nat) (v : α), i = n ∧ xs[n]? = some v ∧ atI xs i = some v := by
  obtain ⟨n, rfl⟩ := Int.eq_ofNat_of_zero_le h0
  have hn : n < xs.length := by omega
  exact ⟨n, xs[n], rfl, List.getElem?_eq_getElem hn, atI_nat (List.getElem?_eq_getElem hn)⟩
theorem SqLup {K : PySem.W.Frag} {H H' : Hp} {a : Addr} {xs : List V} (k : Up H H') (h : SqL K H a xs) : SqL K H' a xs := by
  rcases h with h | h
  · rcases h with h | ⟨o, h⟩
    · exact Or.inl (Or.inl (k _ _ h))
    · exact Or.inl (Or.inr ⟨o, k _ _ h⟩)
  · exact Or.inr h
end Gd
namespace Gd
open PySem PySem.Spec PyProof.Rows L2
theorem mul01 {x : Int} {c : Prop} [Decidable c] : CMul x (if c then 1 else 0) := Or.inr ⟨by split <;> decide, by split <;> decide⟩
end Gd
namespace Gd
open PySem PySem.Spec PyProof.Rows L2
section
variable {K : PySem.W.Frag} {σ : L2.St} {H : Hp} {R : L2.St → Hp → Prop}
theorem r_gtup {n : Nat} {t : TGs} {a : Addr} {xs : List V} (h : H a = some (.tup xs)) (l : xs.length = n) (q : t xs σ H R) : gTup K n t (.ref a) σ H R := ⟨a, xs, rfl, SqT.of h, l, q⟩
theorem r_gc {t : TG} {u : TGs} {v : V} {r : List V} (q : t v σ H fun σ2 H2 => u r σ2 H2 R) : gCons t u (v :: r) σ H R := ⟨v, r, rfl, q⟩
theorem r_gn (q : R σ H) : gNil [] σ H R := ⟨rfl, q⟩
theorem r_ixS {z : Str} {i : Int} {c : Nat} {Q : VK} (hl : z.length ≤ 1000000) (h : atI z.cps.toList i = some c) (q : Q (.str ⟨#[c]⟩) H) : rIxS (.str z) (.int i) H Q := ⟨z, i, c, rfl, rfl, Nat.le_trans hl (by decide), h, q⟩
end
end Gd

namespace Gd
open PySem PySem.Spec PyProof.Rows L2
/-! ### texts in order -/
theorem lt_irr : ∀ a : List Nat, ltCps a a = false
  | [] => rfl
  | x :: r => by simp [ltCps, lt_irr r]
theorem lt_tr : ∀ {a b c : List Nat}, ltCps a b = true → ltCps b c = true → ltCps a c = true
  | [], [], _, h, _ => by simp [ltCps] at h
  | [], _ :: _, [], _, h => by simp [ltCps] at h
  | [], _ :: _, _ :: _, _, _ => rfl
  | _ :: _, [], _, h, _ => by simp [ltCps] at h
  | _ :: _, _ :: _, [], _, h => by simp [ltCps] at h
  | x :: r, y :: t, z :: u, h, g => by
    simp only [ltCps, Bool.or_eq_true, decide_eq_true_eq, Bool.and_eq_true, beq_iff_eq] at h g ⊢
    rcases h with h | ⟨h, h'⟩
    · rcases g with g | ⟨g, g'⟩
      · exact Or.inl (by omega)
      · exact Or.inl (by omega)
    · rcases g with g | ⟨g, g'⟩
      · exact Or.inl (by omega)
      · exact Or.inr ⟨by omega, lt_tr h' g'⟩
theorem lt_tot : ∀ {a b : List Nat}, ltCps a b = false → ltCps b a = false → a = b
  | [], [], _, _ => rfl
  | [], _ :: _, h, _ => by simp [ltCps] at h
  | _ :: _, [], _, h => by simp [ltCps] at h
  | x :: r, y :: t, h, g => by
    simp only [ltCps, Bool.or_eq_false_iff, decide_eq_false_iff_not, Bool.and_eq_false_iff, beq_eq_false_iff_ne, ne_eq] at h g
    have e : x = y := by omega
    subst e
    have h1 : ltCps r t = false := h.2.resolve_left (by simp)
    have h2 : ltCps t r = false := g.2.resolve_left (by simp)
    rw [lt_tot h1 h2]
theorem str_ext {x y : Str} (h : x.cps.toList = y.cps.toList) : x = y := by
  obtain ⟨⟨a⟩⟩ := x
  obtain ⟨⟨b⟩⟩ := y
  simp only at h
  rw [h]
def sLe (x y : Str) : Bool := !ltCps y.cps.toList x.cps.toList
theorem sLe_tr {x y z : Str} (h : sLe x y = true) (g : sLe y z = true) : sLe x z = true := by
  simp only [sLe, Bool.not_eq_true'] at h g ⊢
  cases c : ltCps z.cps.toList x.cps.toList with
  | false => rfl
  | true =>
    exfalso
    cases d : ltCps x.cps.toList y.cps.toList with
    | true =>
      have := lt_tr c d
      rw [g] at this; cases this
    | false =>
      have e := lt_tot d h
      rw [e] at c
      rw [g] at c; cases c
theorem sLe_tot (x y : Str) : sLe x y = true ∨ sLe y x = true := by
  simp only [sLe, Bool.not_eq_true']
  cases c : ltCps y.cps.toList x.cps.toList with
  | false => exact Or.inl rfl
  | true =>
    refine Or.inr ?_
    cases d : ltCps x.cps.toList y.cps.toList with
    | false => rfl
    | true =>
      have := lt_tr c d
      rw [lt_irr] at this; cases this
theorem sLe_anti {x y : Str} (h : sLe x y = true) (g : sLe y x = true) : x = y := by
  simp only [sLe, Bool.not_eq_true'] at h g
  exact str_ext (lt_tot g h)
def sIns (x : Str) : List Str → List Str
  | [] => [x]
  | y :: r => if sLe x y then x :: y :: r else y :: sIns x r
def ssort : List Str → List Str
  | [] => []
  | x :: r => sIns x (ssort r)
theorem sIns_perm (x : Str) : ∀ l : List Str, (sIns x l).Perm (x :: l)
  | [] => .refl _
  | y :: r => by
    unfold sIns
    split
    · exact .refl _
    · exact ((sIns_perm x r).cons y).trans (.swap x y r)
theorem ssort_perm : ∀ l : List Str, (ssort l).Perm l
  | [] => .refl _
  | x :: r => (sIns_perm x _).trans ((ssort_perm r).cons x)
theorem sIns_sorted (x : Str) : ∀ l : List Str, l.Pairwise (fun a b => sLe a b = true) → (sIns x l).Pairwise (fun a b => sLe a b = true)
  | [], _ => List.pairwise_singleton ..
  | y :: r, h => by
    obtain ⟨h1, h2⟩ := List.pairwise_cons.mp h
    unfold sIns
    split
    · rename_i c
      refine List.pairwise_cons.mpr ⟨fun z hz => ?_, h⟩
      rcases List.mem_cons.mp hz with rfl | hz
      · exact c
      · exact sLe_tr c (h1 z hz)
    · rename_i c
      refine List.pairwise_cons.mpr ⟨fun z hz => ?_, sIns_sorted x r h2⟩
      rcases List.mem_cons.mp ((sIns_perm x r).mem_iff.mp hz) with rfl | hz
      · exact (sLe_tot _ _).resolve_left c
      · exact h1 z hz
theorem ssort_sorted : ∀ l : List Str, (ssort l).Pairwise (fun a b => sLe a b = true)
  | [] => .nil
  | x :: r => sIns_sorted x _ (ssort_sorted r)
theorem sorted_same : ∀ {l m : List Str}, l.Perm m → l.Pairwise (fun a b => sLe a b = true) → m.Pairwise (fun a b => sLe a b = true) → l = m
  | [], m, p, _, _ => (List.nil_perm.mp p).symm ▸ rfl
  | x :: l, [], p, _, _ => by simp at p
  | x :: l, y :: m, p, h, g => by
    obtain ⟨h1, h2⟩ := List.pairwise_cons.mp h
    obtain ⟨g1, g2⟩ := List.pairwise_cons.mp g
    have e : x = y := by
      by_cases c : x = y
      · exact c
      · have hx : x ∈ m := (List.mem_cons.mp (p.mem_iff.mp List.mem_cons_self)).resolve_left c
        have hy : y ∈ l := (List.mem_cons.mp (p.mem_iff.mpr List.mem_cons_self)).resolve_left (Ne.symm c)
        exact sLe_anti (h1 y hy) (g1 x hx)
    subst e
    rw [sorted_same (List.Perm.cons_inv p) h2 g2]
theorem rising_pair : ∀ {p : Str} {l : List Str}, risingS p l = true → (p :: l).Pairwise (fun a b => sLe a b = true)
  | p, [], _ => List.pairwise_singleton ..
  | p, x :: r, h => by
    have h' : (!ltCps x.cps.toList p.cps.toList && risingS x r) = true := h
    rw [Bool.and_eq_true] at h'
    have t := rising_pair h'.2
    refine List.pairwise_cons.mpr ⟨fun z hz => ?_, t⟩
    rcases List.mem_cons.mp hz with rfl | hz
    · exact h'.1
    · exact sLe_tr h'.1 ((List.pairwise_cons.mp t).1 z hz)
theorem ssort_of {ys xs : List Str} (p : ys.Perm xs) (h : sortedS ys = true) : ys = ssort xs := by
  refine sorted_same (p.trans (ssort_perm xs).symm) ?_ (ssort_sorted xs)
  cases ys with
  | nil => exact .nil
  | cons y r => exact rising_pair h
/-! ### the law's own key -/
def isBar : PyData → Bool
  | .str s => decide (s = ("|" : Str))
  | _ => false
mutual
def lk : PyData → Str
  | .str x => reprText x
  | .none => ("None" : Str)
  | .tuple ds => lkT ds
  | .bool _ => Str.empty
  | .int _ => Str.empty
  | .list _ => Str.empty
  | .dict _ => Str.empty
def lkT : List PyData → Str
  | [] => ("()" : Str)
  | x :: r => if isBar x = true then ("{" : Str) ++ Txt.join (" " : Str) (ssort (lkM r)) ++ ("}" : Str) else ("(" : Str) ++ Txt.join (" " : Str) (lk x :: lks r) ++ (")" : Str)
def lks : List PyData → List Str
  | [] => []
  | x :: r => lk x :: lks r
def lkM : List PyData → List Str
  | [] => []
  | .tuple ms :: _ => lks ms
  | .str _ :: _ => []
  | .none :: _ => []
  | .bool _ :: _ => []
  | .int _ :: _ => []
  | .list _ :: _ => []
  | .dict _ :: _ => []
end
end Gd

namespace Gd
open PySem PySem.Spec PyProof.Rows L2
/-! ### parts of terms -/
inductive P where
  | use (n : Str) (vs : List P)
  | sig (i r : P)
  | uni (ms : List P)
  | row (xs : List P)
  | inp (xs : List P) (tl : Option Str)
  | star (n : Str)
  | dots (t : P)
  | tail (s : Str)
def tlD : Option Str → PyData
  | none => .none
  | some s => .str s
mutual
def enc : P → PyData
  | .use n vs => .tuple [.str n, .tuple (encs vs)]
  | .sig i r => .tuple [.str ("->" : Str), enc i, enc r]
  | .uni ms => .tuple [.str ("|" : Str), .tuple (encs ms)]
  | .row xs => .tuple [.str ("[]" : Str), .tuple (encs xs)]
  | .inp xs tl => .tuple [.str ("()" : Str), .tuple (encs xs), tlD tl]
  | .star n => .tuple [.str ("*" : Str), .str n]
  | .dots t => .tuple [.str ("..." : Str), enc t]
  | .tail s => .tuple [.str ("**" : Str), .str s]
def encs : List P → List PyData
  | [] => []
  | p :: r => enc p :: encs r
end
theorem encs_map : ∀ l : List P, encs l = l.map enc
  | [] => rfl
  | p :: r => by simp [encs, encs_map r]
theorem encs_app (a b : List P) : encs (a ++ b) = encs a ++ encs b := by simp only [encs_map, List.map_append]
/-- the word that a part begins with -/
def hd : P → Str
  | .use n _ => n
  | .sig _ _ => ("->" : Str)
  | .uni _ => ("|" : Str)
  | .row _ => ("[]" : Str)
  | .inp _ _ => ("()" : Str)
  | .star _ => ("*" : Str)
  | .dots _ => ("..." : Str)
  | .tail _ => ("**" : Str)
def sec : P → PyData
  | .use _ vs => .tuple (encs vs)
  | .sig i _ => enc i
  | .uni ms => .tuple (encs ms)
  | .row xs => .tuple (encs xs)
  | .inp xs _ => .tuple (encs xs)
  | .star n => .str n
  | .dots t => enc t
  | .tail s => .str s
def more : P → List PyData
  | .sig _ r => [enc r]
  | .inp _ tl => [tlD tl]
  | _ => []
theorem enc_eq (p : P) : enc p = .tuple (.str (hd p) :: sec p :: more p) := by
  cases p <;> simp [enc, hd, sec, more]
/-- a name: one to six letters -/
def good (n : Str) : Prop := n.cps.toList ≠ [] ∧ n.length ≤ 6 ∧ ∀ c ∈ n.cps.toList, 97 ≤ c ∧ c ≤ 122
theorem good_ne {n m : Str} (h : good n) (hm : ∃ c ∈ m.cps.toList, c < 97) : n ≠ m := by
  rintro rfl
  obtain ⟨c, hc, hl⟩ := hm
  have := (h.2.2 c hc).1
  omega
def tails : Option Str → List P
  | none => []
  | some s => [.tail s]
def parts : P → List P
  | .use _ vs => vs
  | .sig i r => [i, r]
  | .uni ms => ms
  | .row xs => xs
  | .inp xs tl => xs ++ tails tl
  | .star _ => []
  | .dots t => [t]
  | .tail _ => []
def isNd : P → Bool
  | .row _ => false
  | .inp _ _ => false
  | .use _ _ => true
  | .sig _ _ => true
  | .uni _ => true
  | .star _ => true
  | .dots _ => true
  | .tail _ => true
mutual
def pre : P → List P
  | .use n vs => .use n vs :: pres vs
  | .sig i r => .sig i r :: (pre i ++ pre r)
  | .uni ms => .uni ms :: pres ms
  | .row xs => .row xs :: pres xs
  | .inp xs tl => .inp xs tl :: (pres xs ++ tails tl)
  | .star n => [.star n]
  | .dots t => .dots t :: pre t
  | .tail s => [.tail s]
def pres : List P → List P
  | [] => []
  | p :: r => pre p ++ pres r
end
theorem pres_app : ∀ a b : List P, pres (a ++ b) = pres a ++ pres b
  | [], b => by simp [pres]
  | p :: a, b => by simp [pres, pres_app a b]
theorem pres_tails (tl : Option Str) : pres (tails tl) = tails tl := by cases tl <;> simp [tails, pres, pre]
theorem pre_eq (p : P) : pre p = p :: pres (parts p) := by
  cases p <;> simp [pre, parts, pres, pres_app, pres_tails]
theorem pre_ne (p : P) : pre p ≠ [] := by rw [pre_eq]; simp
theorem pres_len : ∀ l : List P, l.length ≤ (pres l).length
  | [] => by simp
  | p :: r => by
    have := pres_len r
    simp only [pres, pre_eq, List.cons_append, List.length_cons, List.length_append]
    omega
def siz (p : P) : Nat := ((pre p).filter isNd).length
mutual
def lsz : P → Nat
  | .use _ vs => 1 + lszs vs
  | .sig i r => 1 + (lsz i + (lsz r + 0))
  | .uni ms => 1 + lszs ms
  | .row xs => lszs xs
  | .inp xs tl => lszs xs + (match tl with | none => 0 | some _ => 1)
  | .star _ => 1
  | .dots t => 1 + (lsz t + 0)
  | .tail _ => 1
def lszs : List P → Nat
  | [] => 0
  | p :: r => lsz p + lszs r
end
mutual
theorem lsz_siz : ∀ p : P, lsz p = siz p
  | .use n vs => by simp [lsz, siz, pre, List.filter_cons, isNd, lszs_siz vs, Nat.add_comm]
  | .sig i r => by
    have h1 := lsz_siz i
    have h2 := lsz_siz r
    simp only [siz] at h1 h2
    simp [lsz, siz, pre, List.filter_cons, isNd, h1, h2, Nat.add_comm]
  | .uni ms => by simp [lsz, siz, pre, List.filter_cons, isNd, lszs_siz ms, Nat.add_comm]
  | .row xs => by simp [lsz, siz, pre, List.filter_cons, isNd, lszs_siz xs]
  | .inp xs none => by simp [lsz, siz, pre, List.filter_cons, isNd, lszs_siz xs, tails]
  | .inp xs (some s) => by simp [lsz, siz, pre, List.filter_cons, isNd, lszs_siz xs, tails]
  | .star n => by simp [lsz, siz, pre, List.filter_cons, isNd]
  | .dots t => by
    have h1 := lsz_siz t
    simp only [siz] at h1
    simp [lsz, siz, pre, List.filter_cons, isNd, h1, Nat.add_comm]
  | .tail s => by simp [lsz, siz, pre, List.filter_cons, isNd]
theorem lszs_siz : ∀ l : List P, lszs l = ((pres l).filter isNd).length
  | [] => by simp [lszs, pres]
  | p :: r => by
    have h1 := lsz_siz p
    simp only [siz] at h1
    simp [lszs, pres, h1, lszs_siz r]
end
/-! ### how large data are -/
mutual
def kw : PyData → Nat
  | .str x => 10 * x.length + 10
  | .tuple ds => 10 + kws ds
  | .none => 10
  | .bool _ => 10
  | .int _ => 10
  | .list _ => 10
  | .dict _ => 10
def kws : List PyData → Nat
  | [] => 0
  | d :: r => kw d + 5 + kws r
end
theorem kws_app : ∀ a b : List PyData, kws (a ++ b) = kws a + kws b
  | [], b => by simp [kws]
  | d :: a, b => by simp [kws, kws_app a b, Nat.add_assoc]
mutual
theorem pre_kw : ∀ p : P, (pre p).length ≤ kw (enc p)
  | .use n vs => by have := pres_kw vs; simp only [pre, enc, kw, kws, List.length_cons]; omega
  | .sig i r => by have := pre_kw i; have := pre_kw r; simp only [pre, enc, kw, kws, List.length_cons, List.length_append]; omega
  | .uni ms => by have := pres_kw ms; simp only [pre, enc, kw, kws, List.length_cons]; omega
  | .row xs => by have := pres_kw xs; simp only [pre, enc, kw, kws, List.length_cons]; omega
  | .inp xs none => by have := pres_kw xs; simp only [pre, enc, kw, kws, List.length_cons, List.length_append, tails, tlD, List.length_nil]; omega
  | .inp xs (some s) => by have := pres_kw xs; simp only [pre, enc, kw, kws, List.length_cons, List.length_append, tails, tlD, List.length_nil]; omega
  | .star n => by simp only [pre, enc, kw, kws, List.length_cons, List.length_nil]; omega
  | .dots t => by have := pre_kw t; simp only [pre, enc, kw, kws, List.length_cons]; omega
  | .tail s => by simp only [pre, enc, kw, kws, List.length_cons, List.length_nil]; omega
theorem pres_kw : ∀ l : List P, (pres l).length ≤ kws (encs l)
  | [] => by simp [pres]
  | p :: r => by have := pre_kw p; have := pres_kw r; simp only [pres, encs, kws, List.length_append]; omega
end
end Gd
namespace Gd
open PySem PySem.Spec PyProof.Rows L2
theorem at0 {α : Type} {x : α} {xs : List α} : atI (x :: xs) 0 = some x := atI_nat (j := 0) rfl
theorem at1 {α : Type} {x y : α} {xs : List α} : atI (x :: y :: xs) 1 = some y := atI_nat (j := 1) rfl
theorem at2 {α : Type} {x y z : α} {xs : List α} : atI (x :: y :: z :: xs) 2 = some z := atI_nat (j := 2) rfl
theorem enc_inv {H : Hp} {v : V} {p : P} (h : Da H v (enc p)) : ∃ a w ws, v = .ref a ∧ H a = some (.tup (.str (hd p) :: w :: ws)) ∧ Da H w (sec p) ∧ Das H ws (more p) := by
  rw [enc_eq] at h
  obtain ⟨a, xs, rfl, ha, t⟩ := h.tup_inv
  cases t with
  | cons h0 t =>
    cases t with
    | cons h1 t =>
      obtain rfl := h0.str_inv
      exact ⟨a, _, _, rfl, ha, h1, t⟩
structure Apart (n : Str) : Prop where
  a : decide (n = ("*" : Str)) = false
  b : decide (n = ("**" : Str)) = false
  c : decide (n = ("->" : Str)) = false
  d : decide (n = ("..." : Str)) = false
  e : decide (n = ("()" : Str)) = false
  f : decide (n = ("[]" : Str)) = false
  g : decide (n = ("|" : Str)) = false
theorem good_bar {n : Str} (h : good n) : n ≠ ("|" : Str) := by
  rintro rfl
  have h1 : (124 : Nat) ∈ ("|" : Str).cps.toList := by decide +kernel
  have := (h.2.2 _ h1).2
  omega
theorem good.apart {n : Str} (h : good n) : Apart n :=
  ⟨decide_eq_false (good_ne h ⟨42, by decide +kernel, by decide⟩), decide_eq_false (good_ne h ⟨42, by decide +kernel, by decide⟩), decide_eq_false (good_ne h ⟨45, by decide +kernel, by decide⟩),
   decide_eq_false (good_ne h ⟨46, by decide +kernel, by decide⟩), decide_eq_false (good_ne h ⟨40, by decide +kernel, by decide⟩), decide_eq_false (good_ne h ⟨91, by decide +kernel, by decide⟩), decide_eq_false (good_bar h)⟩
end Gd
namespace Gd
open PySem PySem.Spec PyProof.Rows L2
/-- a use is named by a name -/
def hok : P → Prop
  | .use n _ => good n
  | _ => True
theorem nd_hd (p : P) (h : hok p) : (!(decide (hd p = ("[]" : Str)) || decide (hd p = ("()" : Str)))) = isNd p := by
  cases p with
  | use n vs =>
    obtain ⟨e1, e2, e3, e4, e5, e6, e7⟩ := good.apart h
    show (!(decide (n = ("[]" : Str)) || decide (n = ("()" : Str)))) = true
    rw [e6, e5]
    rfl
  | sig i r => show (!(decide (("->" : Str) = ("[]" : Str)) || decide (("->" : Str) = ("()" : Str)))) = true; decide +kernel
  | uni ms => show (!(decide (("|" : Str) = ("[]" : Str)) || decide (("|" : Str) = ("()" : Str)))) = true; decide +kernel
  | row ms => show (!(decide (("[]" : Str) = ("[]" : Str)) || decide (("[]" : Str) = ("()" : Str)))) = false; decide +kernel
  | inp ms t => show (!(decide (("()" : Str) = ("[]" : Str)) || decide (("()" : Str) = ("()" : Str)))) = false; decide +kernel
  | star n => show (!(decide (("*" : Str) = ("[]" : Str)) || decide (("*" : Str) = ("()" : Str)))) = true; decide +kernel
  | dots t => show (!(decide (("..." : Str) = ("[]" : Str)) || decide (("..." : Str) = ("()" : Str)))) = true; decide +kernel
  | tail s => show (!(decide (("**" : Str) = ("[]" : Str)) || decide (("**" : Str) = ("()" : Str)))) = true; decide +kernel
end Gd

namespace Gd
open PySem PySem.Spec PyProof.Rows L2
/-! ### the law's key: what its walk asks -/
def barM : List PyData → Bool
  | .tuple ms :: _ => decide (ms.length < 64)
  | _ => false
mutual
/-- each union in it has fewer than 64 members -/
def kq : PyData → Bool
  | .tuple ds => kqT ds && kqs ds
  | .str _ => true
  | .none => true
  | .bool _ => true
  | .int _ => true
  | .list _ => true
  | .dict _ => true
def kqT : List PyData → Bool
  | [] => true
  | x :: r => !isBar x || barM r
def kqs : List PyData → Bool
  | [] => true
  | x :: r => kq x && kqs r
end
theorem join_len (sep : Str) (ys : List Str) : (Txt.join sep ys).length ≤ (ys.map (·.length)).sum + ys.length * sep.length := by
  show (Builtin.Str.glued sep ys).length ≤ _
  rw [PySem.size_glued]
  have : (ys.length - 1) * sep.length ≤ ys.length * sep.length := Nat.mul_le_mul_right _ (Nat.sub_le _ _)
  omega
theorem app_len (a b : Str) : (a ++ b).length = a.length + b.length := by
  show (a.cps ++ b.cps).size = _
  rw [Array.size_append]
  rfl
theorem perm_sum {l m : List Str} (p : l.Perm m) : (l.map (·.length)).sum = (m.map (·.length)).sum := (p.map _).sum_nat
theorem repr_le {x : Str} (h : PyData.strOk x = true) : (reprText x).length ≤ 10 * x.length + 2 :=
  StrLaws.reprText_len x fun c hc => by
    have h2 : x.cps.all (· < 0x110000) = true := h
    have := Array.all_eq_true_iff_forall_mem.mp h2 c (Array.mem_toList_iff.mp hc)
    have h3 : c < 0x110000 := by simpa using this
    omega
mutual
theorem lk_le : ∀ d : PyData, d.canLay0 = true → (lk d).length ≤ kw d
  | .str x, h => by
    have := repr_le (x := x) (by simpa [PyData.canLay0] using h)
    simp only [lk, kw]
    omega
  | .none, _ => by simp only [lk, kw]; decide +kernel
  | .bool _, _ => by simp only [lk, kw]; decide +kernel
  | .int _, _ => by simp only [lk, kw]; decide +kernel
  | .list _, _ => by simp only [lk, kw]; decide +kernel
  | .dict _, _ => by simp only [lk, kw]; decide +kernel
  | .tuple [], _ => by simp only [lk, lkT, kw, kws]; decide +kernel
  | .tuple (x :: r), h => by
    have hs : (PyData.canLay0 x && PyData.canLayAll0 r) = true := by simpa [PyData.canLay0, PyData.canLayAll0] using h
    rw [Bool.and_eq_true] at hs
    have h1 := lk_le x hs.1
    have h2 := lks_le r hs.2
    have h3 := lkM_le r hs.2
    have l1 := lks_length r
    have a1 : ("{" : Str).length = 1 := by decide +kernel
    have a2 : ("}" : Str).length = 1 := by decide +kernel
    have a3 : ("(" : Str).length = 1 := by decide +kernel
    have a4 : (")" : Str).length = 1 := by decide +kernel
    have a5 : (" " : Str).length = 1 := by decide +kernel
    simp only [lk, lkT, kw, kws]
    split
    · have j := join_len (" " : Str) (ssort (lkM r))
      have p1 := perm_sum (ssort_perm (lkM r))
      have p2 := (ssort_perm (lkM r)).length_eq
      rw [app_len, app_len, a1, a2]
      rw [p1, p2, a5] at j
      omega
    · have j := join_len (" " : Str) (lk x :: lks r)
      rw [app_len, app_len, a3, a4]
      rw [a5] at j
      simp only [List.map_cons, List.sum_cons, List.length_cons] at j
      omega
theorem lks_le : ∀ l : List PyData, PyData.canLayAll0 l = true → ((lks l).map (·.length)).sum + l.length ≤ kws l
  | [], _ => by simp [lks, kws]
  | x :: r, h => by
    have hs : (PyData.canLay0 x && PyData.canLayAll0 r) = true := by simpa [PyData.canLayAll0] using h
    rw [Bool.and_eq_true] at hs
    have h1 := lk_le x hs.1
    have h2 := lks_le r hs.2
    simp only [lks, kws, List.map_cons, List.sum_cons, List.length_cons]
    omega
theorem lkM_le : ∀ l : List PyData, PyData.canLayAll0 l = true → ((lkM l).map (·.length)).sum + (lkM l).length ≤ kws l
  | [], _ => by simp [lkM, kws]
  | .tuple ms :: r, h => by
    have hs : (PyData.canLay0 (.tuple ms) && PyData.canLayAll0 r) = true := by simpa [PyData.canLayAll0] using h
    rw [Bool.and_eq_true] at hs
    have h2 := lks_le ms (by simpa [PyData.canLay0] using hs.1)
    have l1 := lks_length ms
    simp only [lkM, kws, kw]
    omega
  | .str _ :: _, _ => by simp [lkM, kws]
  | .none :: _, _ => by simp [lkM, kws]
  | .bool _ :: _, _ => by simp [lkM, kws]
  | .int _ :: _, _ => by simp [lkM, kws]
  | .list _ :: _, _ => by simp [lkM, kws]
  | .dict _ :: _, _ => by simp [lkM, kws]
theorem lks_length : ∀ l : List PyData, (lks l).length = l.length
  | [] => rfl
  | x :: r => by simp [lks, lks_length r]
end
theorem lks_map : ∀ l : List PyData, lks l = l.map lk
  | [] => rfl
  | x :: r => by simp [lks, lks_map r]
theorem eqv_bar (d : PyData) : PyData.eqv d (.str ("|" : Str)) = isBar d := by
  cases d <;> simp only [PyData.eqv, isBar]
  rename_i s
  by_cases c : s = ("|" : Str)
  · subst c; simp
  · simp [c]
theorem eqv_unit (d : PyData) : PyData.eqv d (.tuple []) = (match d with | .tuple [] => true | _ => false) := by
  cases d with
  | tuple ds => cases ds <;> simp [PyData.eqv, PyData.eqvAll]
  | _ => simp [PyData.eqv]
section
variable {σ : L2.St} {H : Hp} {Q : VK} {K : PySem.W.Frag}
theorem r_isS {x : Str} (q : Q (.bl true) H) : rIsi K [.str x, .ty "str"] H Q := ⟨_, _, _, _, true, rfl, .ty _, .base (.str x), kit_ty (by decide +kernel), q⟩
theorem r_isN (q : Q (.bl false) H) : rIsi K [.non, .ty "str"] H Q := ⟨_, _, _, _, false, rfl, .ty _, .base .non, kit_ty (by decide +kernel), q⟩
theorem r_isT {a : Addr} {xs : List V} (h : H a = some (.tup xs)) (q : Q (.bl false) H) : rIsi K [.ref a, .ty "str"] H Q := ⟨_, _, _, _, false, rfl, .ty _, .base (.tup h), kit_ty (by decide +kernel), q⟩
theorem shaped_of {d : PyData} (h : d.canLay0 = true) (l : d.depth ≤ 64) : SeqAt.shaped d = true := by
  show (d.canLay0 && decide (d.depth ≤ 64)) = true
  rw [h, Bool.true_and]
  exact decide_eq_true l
theorem r_eqD {x y : V} {d e : PyData} (hx : Da H x d) (hy : Da H y e) (c1 : d.canLay0 = true) (l1 : d.depth ≤ 64) (c2 : e.canLay0 = true) (l2 : e.depth ≤ 64) (q : Q (.bl (PyData.eqv d e)) H) : rEqD K x y H Q :=
  ⟨d, e, hx.dp, hy.dp, shaped_of c1 l1, shaped_of c2 l2, q⟩
theorem r_neD {x y : V} {d e : PyData} (hx : Da H x d) (hy : Da H y e) (c1 : d.canLay0 = true) (l1 : d.depth ≤ 64) (c2 : e.canLay0 = true) (l2 : e.depth ≤ 64) (q : Q (.bl (!PyData.eqv d e)) H) : rNeD K x y H Q :=
  ⟨d, e, hx.dp, hy.dp, shaped_of c1 l1, shaped_of c2 l2, q⟩
theorem r_sort {a : Addr} {xs : List Str} (h : H a = some (.lst (xs.map V.str))) (hl : xs.length < 64) (q : ∀ p H2, H p = none → Up H H2 → H2 p = some (.lst ((ssort xs).map V.str)) → Q (.ref p) H2) : rSortedS K [.ref a] H Q :=
  ⟨a, xs, rfl, SqL.of h, hl, fun ys p hp hs hn => by
    obtain rfl := ssort_of hp hs
    exact q p _ hn (Up.new hn) upd_same⟩
def joinN (K : PySem.W.Frag) (Q : VK) (x : V) (xs : List V) (H : Hp) : Prop := ∃ a p, ∃ ys : List Str, x = .str a ∧ xs = [.ref p] ∧ (SqL K H p (ys.map V.str) ∨ SqT K H p (ys.map V.str)) ∧
  (ys.map (·.length)).sum + ys.length * a.length ≤ 16777216 ∧ Q (.str (Txt.join a ys)) H
theorem r_join {x : Str} {p : Addr} {ys : List Str} (h : H p = some (.lst (ys.map V.str))) (hl : (ys.map (·.length)).sum + ys.length * x.length ≤ 1000000) (q : Q (.str (Txt.join x ys)) H) :
    ∃ a p', ∃ ys' : List Str, V.str x = .str a ∧ [V.ref p] = [.ref p'] ∧ (SqL K H p' (ys'.map V.str) ∨ SqT K H p' (ys'.map V.str)) ∧ (ys'.map (·.length)).sum + ys'.length * a.length ≤ 16777216 ∧ Q (.str (Txt.join a ys')) H :=
  ⟨x, p, ys, rfl, rfl, Or.inl (SqL.of h), Nat.le_trans hl (by decide), q⟩
theorem r_cat {a b : Str} (hl : a.length + b.length ≤ 10000000) (q : Q (.str (a ++ b)) H) : ∃ i j, V.str a = .str i ∧ V.str b = .str j ∧ i.length + j.length ≤ sizeLine ∧ Q (.str (i ++ j)) H :=
  ⟨a, b, rfl, rfl, Nat.le_trans hl (by decide), q⟩
end
end Gd
namespace Gd
open PySem PySem.Spec PyProof.Rows L2
theorem empty_app (a : Str) : ("" : Str) ++ a = a := by
  show (⟨("" : Str).cps ++ a.cps⟩ : Str) = a
  have e : ("" : Str).cps = #[] := by decide +kernel
  rw [e, Array.empty_append]
theorem chars_join : ∀ cs : List Nat, Txt.join ("" : Str) (cs.map fun c => (⟨#[c]⟩ : Str)) = ⟨cs.toArray⟩ := by
  intro cs
  rw [TL.join_eq]
  induction cs with
  | nil => rfl
  | cons c cs ih =>
    cases cs with
    | nil => rfl
    | cons d cs =>
      show (⟨#[c]⟩ : Str) ++ ("" : Str) ++ Str.join ("" : Str) ((d :: cs).map fun c => (⟨#[c]⟩ : Str)) = _
      rw [ih]
      have e1 : (⟨#[c]⟩ : Str) ++ ("" : Str) = ⟨#[c]⟩ := by
        show (⟨#[c] ++ ("" : Str).cps⟩ : Str) = ⟨#[c]⟩
        have e : ("" : Str).cps = #[] := by decide +kernel
        rw [e, Array.append_empty]
      rw [e1]
      show (⟨#[c] ++ (d :: cs).toArray⟩ : Str) = _
      congr 1
      simp
theorem chars_len (cs : List Nat) : ((cs.map fun c => (⟨#[c]⟩ : Str)).map (·.length)).sum = cs.length := by
  induction cs with
  | nil => rfl
  | cons c cs ih =>
    simp only [List.map_cons, List.sum_cons, List.length_cons] at ih ⊢
    rw [ih]
    show 1 + cs.length = _
    omega
end Gd
namespace Gd
open PySem PySem.Spec PyProof.Rows L2
theorem lay_mem {m : PyData} : ∀ {l : List PyData}, PyData.canLayAll0 l = true → m ∈ l → m.canLay0 = true
  | [], _, h => (List.not_mem_nil h).elim
  | x :: r, e, h => by
    have hs : (PyData.canLay0 x && PyData.canLayAll0 r) = true := by simpa [PyData.canLayAll0] using e
    rw [Bool.and_eq_true] at hs
    rcases List.mem_cons.mp h with rfl | h
    · exact hs.1
    · exact lay_mem hs.2 h
theorem depth_mem {m : PyData} : ∀ {l : List PyData}, m ∈ l → m.depth ≤ PyData.depthAll l
  | [], h => (List.not_mem_nil h).elim
  | x :: r, h => by
    simp only [PyData.depthAll]
    rcases List.mem_cons.mp h with rfl | h
    · omega
    · have := depth_mem h; omega
theorem kq_mem {m : PyData} : ∀ {l : List PyData}, kqs l = true → m ∈ l → kq m = true
  | [], _, h => (List.not_mem_nil h).elim
  | x :: r, e, h => by
    have hs : (kq x && kqs r) = true := by simpa [kqs] using e
    rw [Bool.and_eq_true] at hs
    rcases List.mem_cons.mp h with rfl | h
    · exact hs.1
    · exact kq_mem hs.2 h
theorem kw_mem {m : PyData} : ∀ {l : List PyData}, m ∈ l → kw m + 5 ≤ kws l
  | [], h => (List.not_mem_nil h).elim
  | x :: r, h => by
    simp only [kws]
    rcases List.mem_cons.mp h with rfl | h
    · omega
    · have := kw_mem h; omega
theorem canLay_tup {ds : List PyData} : (PyData.tuple ds).canLay0 = PyData.canLayAll0 ds := by simp [PyData.canLay0]
theorem depth_tup {ds : List PyData} : (PyData.tuple ds).depth = PyData.depthAll ds + 1 := by simp [PyData.depth]
theorem kw_tup {ds : List PyData} : kw (.tuple ds) = 10 + kws ds := by simp [kw]
theorem kq_tup {ds : List PyData} : kq (.tuple ds) = (kqT ds && kqs ds) := by simp [kq]
theorem shown_unit : PyData.shown (.tuple []) = ("()" : Str) := by decide +kernel
end Gd
namespace Gd
open PySem PySem.Spec PyProof.Rows L2
/-! ### terms joined, as the law does it -/
def lkP (p : P) : Str := lk (enc p)
def memb : P → List P
  | .uni ms => ms
  | .use n vs => [.use n vs]
  | .sig i r => [.sig i r]
  | .row xs => [.row xs]
  | .inp xs t => [.inp xs t]
  | .star n => [.star n]
  | .dots t => [.dots t]
  | .tail s => [.tail s]
def addP (acc : List P) (p : P) : List P := if lkP p ∈ acc.map lkP then acc else acc ++ [p]
def foundP (ps : List P) : List P := (ps.flatMap memb).foldl addP []
def ljoin (ps : List P) : P := match foundP ps with
  | [p] => p
  | l => .uni l
/-- what the law's walks ask of a part -/
structure Ok (dp kb : Nat) (p : P) : Prop where
  lay : (enc p).canLay0 = true
  dep : (enc p).depth ≤ dp
  bar : kq (enc p) = true
  wgt : kw (enc p) ≤ kb
theorem Ok.mono {d k d' k' : Nat} {p : P} (h : Ok d k p) (hd : d ≤ d') (hk : k ≤ k') : Ok d' k' p := ⟨h.lay, Nat.le_trans h.dep hd, h.bar, Nat.le_trans h.wgt hk⟩
theorem mem_encs {p : P} {l : List P} (h : p ∈ l) : enc p ∈ encs l := by rw [encs_map]; exact List.mem_map.mpr ⟨p, h, rfl⟩
theorem Ok.uni_len {d k : Nat} {ms : List P} (h : Ok d k (.uni ms)) : ms.length < 64 := by
  have := h.bar
  simp only [enc, kq, kqT, isBar, barM, Bool.and_eq_true] at this
  have h1 := this.1
  simp only [decide_true, Bool.not_true, Bool.false_or, decide_eq_true_eq] at h1
  rwa [encs_map, List.length_map] at h1
theorem Ok.uni {d k : Nat} {ms : List P} (h : Ok d k (.uni ms)) {m : P} (hm : m ∈ ms) : Ok d k m := by
  obtain ⟨h1, h2, h3, h4⟩ := h
  have me := mem_encs hm
  simp only [enc] at h1 h2 h3 h4
  rw [canLay_tup] at h1
  rw [depth_tup] at h2
  rw [kq_tup, Bool.and_eq_true] at h3
  rw [kw_tup] at h4
  have a1 := lay_mem h1 (m := .tuple (encs ms)) (by simp)
  rw [canLay_tup] at a1
  have a2 := depth_mem (m := .tuple (encs ms)) (l := [.str ("|" : Str), .tuple (encs ms)]) (by simp)
  rw [depth_tup] at a2
  have a3 := kq_mem h3.2 (m := .tuple (encs ms)) (by simp)
  rw [kq_tup, Bool.and_eq_true] at a3
  have a4 := kw_mem (m := .tuple (encs ms)) (l := [.str ("|" : Str), .tuple (encs ms)]) (by simp)
  rw [kw_tup] at a4
  have b2 := depth_mem me
  have b4 := kw_mem me
  exact ⟨lay_mem a1 me, by omega, kq_mem a3.2 me, by omega⟩
theorem Ok.memb {d k : Nat} {p m : P} (h : Ok d k p) (hm : m ∈ memb p) : Ok d k m := by
  cases p with
  | uni ms => exact h.uni hm
  | _ => rw [List.mem_singleton.mp hm]; exact h
theorem addP_sub {acc : List P} {p q : P} (h : q ∈ addP acc p) : q ∈ acc ∨ q = p := by
  unfold addP at h
  split at h
  · exact Or.inl h
  · rcases List.mem_append.mp h with h | h
    · exact Or.inl h
    · exact Or.inr (List.mem_singleton.mp h)
theorem addP_len (acc : List P) (p : P) : acc.length ≤ (addP acc p).length ∧ (addP acc p).length ≤ acc.length + 1 := by
  unfold addP
  split
  · omega
  · rw [List.length_append, List.length_singleton]; omega
theorem fold_len : ∀ (l acc : List P), (l.foldl addP acc).length ≤ acc.length + l.length
  | [], acc => by simp
  | p :: r, acc => by
    have h1 := (addP_len acc p).2
    have h2 := fold_len r (addP acc p)
    simp only [List.foldl_cons, List.length_cons]
    omega
theorem fold_ge : ∀ (l acc : List P), acc.length ≤ (l.foldl addP acc).length
  | [], acc => by simp
  | p :: r, acc => by
    have h1 := (addP_len acc p).1
    have h2 := fold_ge r (addP acc p)
    simp only [List.foldl_cons]
    omega
theorem fold_sub {q : P} : ∀ (l acc : List P), q ∈ l.foldl addP acc → q ∈ acc ∨ q ∈ l
  | [], acc, h => Or.inl h
  | p :: r, acc, h => by
    rcases fold_sub r (addP acc p) h with h | h
    · rcases addP_sub h with h | rfl
      · exact Or.inl h
      · exact Or.inr List.mem_cons_self
    · exact Or.inr (List.mem_cons_of_mem _ h)
theorem fold_nd : ∀ (l acc : List P), (acc.map lkP).Nodup → ((l.foldl addP acc).map lkP).Nodup
  | [], acc, h => h
  | p :: r, acc, h => by
    refine fold_nd r _ ?_
    unfold addP
    split
    · exact h
    · rename_i c
      rw [List.map_append]
      exact List.nodup_append.mpr ⟨h, by simp, fun x hx y hy e => by
        rw [List.map_singleton, List.mem_singleton] at hy
        subst hy; subst e; exact c hx⟩
theorem memb_ne (p : P) (h : ∀ ms, p = .uni ms → ms ≠ []) : memb p ≠ [] := by
  cases p with
  | uni ms => exact h ms rfl
  | _ => simp [memb]
theorem bar_hd (p : P) (h : hok p) : decide (hd p = ("|" : Str)) = (match p with | .uni _ => true | _ => false) := by
  cases p with
  | use n vs => exact h.apart.g
  | uni ms => show decide (("|" : Str) = ("|" : Str)) = true; decide +kernel
  | sig i r => show decide (("->" : Str) = ("|" : Str)) = false; decide +kernel
  | row ms => show decide (("[]" : Str) = ("|" : Str)) = false; decide +kernel
  | inp ms t => show decide (("()" : Str) = ("|" : Str)) = false; decide +kernel
  | star n => show decide (("*" : Str) = ("|" : Str)) = false; decide +kernel
  | dots t => show decide (("..." : Str) = ("|" : Str)) = false; decide +kernel
  | tail s => show decide (("**" : Str) = ("|" : Str)) = false; decide +kernel
section
variable {K : PySem.W.Frag} {σ : L2.St} {H : Hp} {Q : VK}
theorem inV_strs (s : Str) (ks : List Str) : inV (.str s) (ks.map V.str) = decide (s ∈ ks) := by
  unfold inV
  induction ks with
  | nil => simp
  | cons k ks ih =>
    simp only [List.map_cons, List.any_cons, ih, eqV_str, List.mem_cons, Bool.decide_or]
theorem r_niL {p : Addr} {s : Str} {ks : List Str} (h : H p = some (.lst (ks.map V.str))) (q : Q (.bl (!decide (s ∈ ks))) H) : rIn K true (.str s) (.ref p) H Q :=
  ⟨p, _, rfl, Or.inl (SqL.of h), rfl, by simp [flatV], by
    simp only [if_true]
    rw [inV_strs]; exact q⟩
theorem r_isL {p : Addr} {s : Str} {ks : List Str} (h : H p = some (.lst (ks.map V.str))) (q : Q (.bl (decide (s ∈ ks))) H) : rIn K false (.str s) (.ref p) H Q :=
  ⟨p, _, rfl, Or.inl (SqL.of h), rfl, by simp [flatV], by
    simp only [Bool.false_eq_true, if_false]
    rw [inV_strs]; exact q⟩
end
end Gd
namespace Gd
open PySem PySem.Spec PyProof.Rows L2
def isUni : P → Bool
  | .uni _ => true
  | .use _ _ => false
  | .sig _ _ => false
  | .row _ => false
  | .inp _ _ => false
  | .star _ => false
  | .dots _ => false
  | .tail _ => false
theorem bar_uni (p : P) (h : hok p) : decide (hd p = ("|" : Str)) = isUni p := by
  rw [bar_hd p h]
  cases p <;> rfl
theorem uni_or (p : P) : (∃ ms, p = .uni ms) ∨ (isUni p = false ∧ memb p = [p]) := by
  cases p with
  | uni ms => exact Or.inl ⟨ms, rfl⟩
  | _ => exact Or.inr ⟨rfl, rfl⟩
end Gd
namespace Gd
open PySem PySem.Spec PyProof.Rows L2
section
variable {H : Hp} {Q : VK} {K : PySem.W.Frag}
theorem r_in2L {p : Addr} {a b s : Str} (h : H p = some (.lst [.str a, .str b])) (q : Q (.bl (decide (s = a) || decide (s = b))) H) : rIn K false (.str s) (.ref p) H Q :=
  ⟨p, _, rfl, Or.inl (SqL.of h), rfl, rfl, by
    have e : inV (.str s) [.str a, .str b] = (decide (s = a) || decide (s = b)) := by simp only [inV, List.any_cons, List.any_nil, eqV_str, Bool.or_false]
    simp only [Bool.false_eq_true, if_false]
    rw [e]; exact q⟩
theorem r_sum {a : Addr} {ns : List Int} (h : H a = some (.lst (ns.map V.int))) (q : Q (.int ns.sum) H) : rSum K [.ref a] H Q := ⟨a, ns, rfl, SqL.of h, q⟩
end
theorem lszs_sum : ∀ qs : List P, (qs.map fun p => ((lsz p : Nat) : Int)).sum = ((lszs qs : Nat) : Int)
  | [] => by simp [lszs]
  | p :: r => by simp [lszs, lszs_sum r]
end Gd

namespace Gd
open PySem PySem.Spec PyProof.Rows L2
/-! ### what is a term: kinds 0 a term, 1 a value, 2 an item, 3 inputs, 4 a member -/
def tlok : Option Str → Prop
  | none => True
  | some s => s = ("..." : Str) ∨ good s
mutual
def isK : P → Nat → Prop
  | .use n vs, k => (k = 0 ∨ k = 1 ∨ k = 2 ∨ k = 4) ∧ good n ∧ isKs vs 1
  | .sig i r, k => (k = 0 ∨ k = 1 ∨ k = 2 ∨ k = 4) ∧ isK i 3 ∧ isK r 0
  | .uni ms, k => (k = 0 ∨ k = 1 ∨ k = 2) ∧ 2 ≤ ms.length ∧ (ms.map lkP).Nodup ∧ isKs ms 4
  | .row xs, k => k = 1 ∧ isKs xs 2
  | .inp xs tl, k => (k = 1 ∨ k = 3) ∧ isKs xs 2 ∧ tlok tl
  | .star n, k => k = 2 ∧ good n
  | .dots t, k => k = 2 ∧ isK t 0
  | .tail _, _ => False
def isKs : List P → Nat → Prop
  | [], _ => True
  | p :: r, k => isK p k ∧ isKs r k
end
theorem isKs_iff {k : Nat} : ∀ {l : List P}, isKs l k ↔ ∀ p ∈ l, isK p k
  | [] => by simp [isKs]
  | p :: r => by simp [isKs, isKs_iff (l := r)]
theorem isK_up {p : P} {k : Nat} (h : isK p 0) (hk : k = 0 ∨ k = 1 ∨ k = 2) : isK p k := by
  cases p <;> simp only [isK] at h ⊢
  case use => exact ⟨by omega, h.2⟩
  case sig => exact ⟨by omega, h.2⟩
  case uni => exact ⟨by omega, h.2⟩
  all_goals first | exact absurd h.1 (by decide) | exact absurd h id
theorem isK_mem {p : P} (h : isK p 4) : isK p 0 := by
  cases p <;> simp only [isK] at h ⊢
  case use => exact ⟨by first | omega | simp, h.2⟩
  case sig => exact ⟨by first | omega | simp, h.2⟩
  all_goals first | exact absurd h.1 (by decide) | exact absurd h id
theorem isK_memb {p m : P} (h : isK p 0) (hm : m ∈ memb p) : isK m 4 := by
  cases p <;> simp only [isK] at h
  case uni ms => exact isKs_iff.mp h.2.2.2 m hm
  case use => rw [List.mem_singleton.mp hm]; simp only [isK]; exact ⟨by decide, h.2⟩
  case sig => rw [List.mem_singleton.mp hm]; simp only [isK]; exact ⟨by decide, h.2⟩
  all_goals first | exact absurd h.1 (by decide) | exact absurd h id
theorem isK_hok {p : P} {k : Nat} (h : isK p k) : hok p := by
  cases p <;> simp only [isK] at h
  case use => exact h.2.1
  all_goals exact trivial
mutual
theorem isK_pre : ∀ (p : P) (k : Nat), isK p k → ∀ q ∈ pre p, hok q
  | .use n vs, k, h, q, hq => by
    simp only [isK] at h
    simp only [pre, List.mem_cons] at hq
    rcases hq with rfl | hq
    · exact h.2.1
    · exact isKs_pre vs 1 h.2.2 q hq
  | .sig i r, k, h, q, hq => by
    simp only [isK] at h
    simp only [pre, List.mem_cons, List.mem_append] at hq
    rcases hq with rfl | hq | hq
    · exact trivial
    · exact isK_pre i 3 h.2.1 q hq
    · exact isK_pre r 0 h.2.2 q hq
  | .uni ms, k, h, q, hq => by
    simp only [isK] at h
    simp only [pre, List.mem_cons] at hq
    rcases hq with rfl | hq
    · exact trivial
    · exact isKs_pre ms 4 h.2.2.2 q hq
  | .row ms, k, h, q, hq => by
    simp only [isK] at h
    simp only [pre, List.mem_cons] at hq
    rcases hq with rfl | hq
    · exact trivial
    · exact isKs_pre ms 2 h.2 q hq
  | .inp ms tl, k, h, q, hq => by
    simp only [isK] at h
    simp only [pre, List.mem_cons, List.mem_append] at hq
    rcases hq with rfl | hq | hq
    · exact trivial
    · exact isKs_pre ms 2 h.2.1 q hq
    · cases tl with
      | none => simp [tails] at hq
      | some s => simp only [tails, List.mem_singleton] at hq; subst hq; exact trivial
  | .star n, k, h, q, hq => by
    simp only [pre, List.mem_singleton] at hq
    subst hq; exact trivial
  | .dots t, k, h, q, hq => by
    simp only [isK] at h
    simp only [pre, List.mem_cons] at hq
    rcases hq with rfl | hq
    · exact trivial
    · exact isK_pre t 0 h.2 q hq
  | .tail s, k, h, q, hq => by
    simp only [pre, List.mem_singleton] at hq
    subst hq; exact trivial
theorem isKs_pre : ∀ (l : List P) (k : Nat), isKs l k → ∀ q ∈ pres l, hok q
  | [], _, _, q, hq => by simp [pres] at hq
  | p :: r, k, h, q, hq => by
    simp only [isKs] at h
    simp only [pres, List.mem_append] at hq
    rcases hq with hq | hq
    · exact isK_pre p k h.1 q hq
    · exact isKs_pre r k h.2 q hq
end
/-! ### sizes of drawn terms -/
def Wd : Nat → Nat
  | 0 => 110
  | d + 1 => 3 * Wd d + 400
theorem Wd_ge : ∀ d, 110 ≤ Wd d
  | 0 => Nat.le_refl _
  | d + 1 => by have := Wd_ge d; simp only [Wd]; omega
structure Cd (k dp wt : Nat) (p : P) : Prop where
  is : isK p k
  lay : (enc p).canLay0 = true
  dep : (enc p).depth ≤ dp
  bar : kq (enc p) = true
  wgt : kw (enc p) ≤ wt
theorem Cd.mono {k dp wt dp' wt' : Nat} {p : P} (h : Cd k dp wt p) (hd : dp ≤ dp') (hw : wt ≤ wt') : Cd k dp' wt' p := ⟨h.is, h.lay, Nat.le_trans h.dep hd, h.bar, Nat.le_trans h.wgt hw⟩
theorem Cd.ok {k dp wt : Nat} {p : P} (h : Cd k dp wt p) : Ok dp wt p := ⟨h.lay, h.dep, h.bar, h.wgt⟩
theorem Cd.up {k dp wt : Nat} {p : P} (h : Cd 0 dp wt p) (hk : k = 0 ∨ k = 1 ∨ k = 2) : Cd k dp wt p := ⟨isK_up h.is hk, h.lay, h.dep, h.bar, h.wgt⟩
theorem Cd.inV {dp wt : Nat} {p : P} (h : Cd 3 dp wt p) : Cd 1 dp wt p := by
  obtain ⟨a, b, c, d, e⟩ := h
  refine ⟨?_, b, c, d, e⟩
  cases p <;> simp only [isK] at a ⊢
  case inp => exact ⟨by decide, a.2⟩
  all_goals first | exact absurd a.1 (by decide) | exact absurd a id
theorem lay_all : ∀ {l : List P}, (∀ p ∈ l, (enc p).canLay0 = true) → PyData.canLayAll0 (encs l) = true
  | [], _ => by simp [encs, PyData.canLayAll0]
  | p :: r, h => by simp [encs, PyData.canLayAll0, h p List.mem_cons_self, lay_all (l := r) fun q hq => h q (List.mem_cons_of_mem _ hq)]
theorem dep_all {n : Nat} : ∀ {l : List P}, (∀ p ∈ l, (enc p).depth ≤ n) → PyData.depthAll (encs l) ≤ n
  | [], _ => by simp [encs, PyData.depthAll]
  | p :: r, h => by
    have h1 := h p List.mem_cons_self
    have h2 := dep_all (l := r) fun q hq => h q (List.mem_cons_of_mem _ hq)
    simp only [encs, PyData.depthAll]
    omega
theorem bar_all : ∀ {l : List P}, (∀ p ∈ l, kq (enc p) = true) → kqs (encs l) = true
  | [], _ => by simp [encs, kqs]
  | p :: r, h => by simp [encs, kqs, h p List.mem_cons_self, bar_all (l := r) fun q hq => h q (List.mem_cons_of_mem _ hq)]
theorem good_lay {n : Str} (h : good n) : PyData.strOk n = true := by
  unfold PyData.strOk
  rw [Array.all_eq_true_iff_forall_mem]
  intro c hc
  have := (h.2.2 c (Array.mem_toList_iff.mpr hc)).2
  exact decide_eq_true (by omega)
theorem bar_first : ∀ p : P, isUni p = false → isBar (enc p) = false := by
  intro p _
  cases p <;> rfl
theorem kqT_cons (x : PyData) (r : List PyData) : kqT (x :: r) = (!isBar x || barM r) := rfl
theorem kqT_encs : ∀ vs : List P, kqT (encs vs) = true
  | [] => rfl
  | v :: r => by
    simp only [encs, kqT]
    cases v <;> simp [enc, isBar]
theorem Cd.use {k dp s : Nat} {n : Str} {vs : List P} (hk : k = 0 ∨ k = 4) (hn : good n) (hv : ∀ v ∈ vs, ∃ w, Cd 1 dp w v) (hs : kws (encs vs) ≤ s) : Cd k (dp + 2) (s + 100) (.use n vs) := by
  refine ⟨?_, ?_, ?_, ?_, ?_⟩
  · simp only [isK]
    exact ⟨by omega, hn, isKs_iff.mpr fun p hp => (hv p hp).choose_spec.is⟩
  · simp only [enc, PyData.canLay0, PyData.canLayAll0, good_lay hn, Bool.true_and, Bool.and_true]
    exact lay_all fun p hp => (hv p hp).choose_spec.lay
  · have := dep_all (n := dp) (l := vs) fun p hp => (hv p hp).choose_spec.dep
    simp only [enc, PyData.depth, PyData.depthAll]
    omega
  · have hb := hn.apart.g
    have h1 := bar_all (l := vs) fun p hp => (hv p hp).choose_spec.bar
    simp only [enc, kq, kqs, kqT_cons, isBar, hb, h1, kqT_encs, Bool.not_false, Bool.true_or, Bool.true_and, Bool.and_true]
  · have := hn.2.1
    simp only [enc, kw, kws]
    omega
theorem Cd.row {dp s : Nat} {xs : List P} (hv : ∀ v ∈ xs, ∃ w, Cd 2 dp w v) (hs : kws (encs xs) ≤ s) : Cd 1 (dp + 2) (s + 60) (.row xs) := by
  have l1 : ("[]" : Str).length = 2 := by decide +kernel
  refine ⟨?_, ?_, ?_, ?_, ?_⟩
  · simp only [isK]
    exact ⟨by trivial, isKs_iff.mpr fun p hp => (hv p hp).choose_spec.is⟩
  · have : PyData.strOk ("[]" : Str) = true := by decide +kernel
    simp only [enc, PyData.canLay0, PyData.canLayAll0, this, Bool.true_and, Bool.and_true]
    exact lay_all fun p hp => (hv p hp).choose_spec.lay
  · have := dep_all (n := dp) (l := xs) fun p hp => (hv p hp).choose_spec.dep
    simp only [enc, PyData.depth, PyData.depthAll]
    omega
  · have hb : decide (("[]" : Str) = ("|" : Str)) = false := by decide +kernel
    have h1 := bar_all (l := xs) fun p hp => (hv p hp).choose_spec.bar
    simp only [enc, kq, kqs, kqT_cons, isBar, hb, h1, kqT_encs, Bool.not_false, Bool.true_or, Bool.true_and, Bool.and_true]
  · simp only [enc, kw, kws, l1]
    omega
theorem Cd.inp {dp s : Nat} {xs : List P} {tl : Option Str} (hv : ∀ v ∈ xs, ∃ w, Cd 2 dp w v) (ht : tlok tl) (hs : kws (encs xs) ≤ s) : Cd 3 (dp + 2) (s + 135) (.inp xs tl) := by
  have l1 : ("()" : Str).length = 2 := by decide +kernel
  have htl : ∀ s, tl = some s → PyData.strOk s = true ∧ s.length ≤ 6 := by
    rintro s rfl
    rcases ht with rfl | h
    · exact ⟨by decide +kernel, by decide +kernel⟩
    · exact ⟨good_lay h, h.2.1⟩
  refine ⟨?_, ?_, ?_, ?_, ?_⟩
  · simp only [isK]
    exact ⟨by decide, isKs_iff.mpr fun p hp => (hv p hp).choose_spec.is, ht⟩
  · have : PyData.strOk ("()" : Str) = true := by decide +kernel
    have h1 := lay_all (l := xs) fun p hp => (hv p hp).choose_spec.lay
    cases tl with
    | none => simp only [enc, tlD, PyData.canLay0, PyData.canLayAll0, this, h1, Bool.true_and, Bool.and_true]
    | some s => simp only [enc, tlD, PyData.canLay0, PyData.canLayAll0, this, h1, (htl s rfl).1, Bool.true_and, Bool.and_true]
  · have := dep_all (n := dp) (l := xs) fun p hp => (hv p hp).choose_spec.dep
    cases tl <;> simp only [enc, tlD, PyData.depth, PyData.depthAll] <;> omega
  · have hb : decide (("()" : Str) = ("|" : Str)) = false := by decide +kernel
    have h1 := bar_all (l := xs) fun p hp => (hv p hp).choose_spec.bar
    cases tl <;> simp only [enc, tlD, kq, kqs, kqT_cons, isBar, hb, h1, kqT_encs, Bool.not_false, Bool.true_or, Bool.true_and, Bool.and_true]
  · cases tl with
    | none => simp only [enc, tlD, kw, kws, l1]; omega
    | some s => have := (htl s rfl).2; simp only [enc, tlD, kw, kws, l1]; omega
theorem Cd.star {n : Str} (hn : good n) : Cd 2 1 110 (.star n) := by
  have l1 : ("*" : Str).length = 1 := by decide +kernel
  have h2 := hn.2.1
  refine ⟨by simp only [isK]; exact ⟨by trivial, hn⟩, ?_, by simp [enc, PyData.depth, PyData.depthAll], ?_, by simp only [enc, kw, kws, l1]; omega⟩
  · have : PyData.strOk ("*" : Str) = true := by decide +kernel
    simp only [enc, PyData.canLay0, PyData.canLayAll0, this, good_lay hn, Bool.and_true]
  · have hb : decide (("*" : Str) = ("|" : Str)) = false := by decide +kernel
    simp only [enc, kq, kqs, kqT_cons, isBar, hb, Bool.not_false, Bool.true_or, Bool.and_true]
theorem Cd.dots {dp w : Nat} {t : P} (h : Cd 0 dp w t) : Cd 2 (dp + 1) (w + 60) (.dots t) := by
  have l1 : ("..." : Str).length = 3 := by decide +kernel
  have := h.wgt
  have := h.dep
  refine ⟨by simp only [isK]; exact ⟨by trivial, h.is⟩, ?_, by simp only [enc, PyData.depth, PyData.depthAll]; omega, ?_, by simp only [enc, kw, kws, l1]; omega⟩
  · have : PyData.strOk ("..." : Str) = true := by decide +kernel
    simp only [enc, PyData.canLay0, PyData.canLayAll0, this, h.lay, Bool.and_true]
  · have hb : decide (("..." : Str) = ("|" : Str)) = false := by decide +kernel
    simp only [enc, kq, kqs, kqT_cons, isBar, hb, h.bar, Bool.not_false, Bool.true_or, Bool.and_true]
theorem Cd.sig {k dp w1 w2 : Nat} {i r : P} (hk : k = 0 ∨ k = 4) (hi : Cd 3 dp w1 i) (hr : Cd 0 dp w2 r) : Cd k (dp + 1) (w1 + w2 + 60) (.sig i r) := by
  have l1 : ("->" : Str).length = 2 := by decide +kernel
  have := hi.wgt
  have := hr.wgt
  have := hi.dep
  have := hr.dep
  refine ⟨by simp only [isK]; exact ⟨by omega, hi.is, hr.is⟩, ?_, by simp only [enc, PyData.depth, PyData.depthAll]; omega, ?_, by simp only [enc, kw, kws, l1]; omega⟩
  · have : PyData.strOk ("->" : Str) = true := by decide +kernel
    simp only [enc, PyData.canLay0, PyData.canLayAll0, this, hi.lay, hr.lay, Bool.and_true]
  · have hb : decide (("->" : Str) = ("|" : Str)) = false := by decide +kernel
    simp only [enc, kq, kqs, kqT_cons, isBar, hb, hi.bar, hr.bar, Bool.not_false, Bool.true_or, Bool.and_true]
theorem Cd.uni {dp s : Nat} {ms : List P} (hv : ∀ v ∈ ms, ∃ w, Cd 4 dp w v) (h2 : 2 ≤ ms.length) (h64 : ms.length < 64) (nd : (ms.map lkP).Nodup) (hs : kws (encs ms) ≤ s) : Cd 0 (dp + 2) (s + 60) (.uni ms) := by
  have l1 : ("|" : Str).length = 1 := by decide +kernel
  refine ⟨?_, ?_, ?_, ?_, ?_⟩
  · simp only [isK]
    exact ⟨by decide, h2, nd, isKs_iff.mpr fun p hp => (hv p hp).choose_spec.is⟩
  · have : PyData.strOk ("|" : Str) = true := by decide +kernel
    simp only [enc, PyData.canLay0, PyData.canLayAll0, this, Bool.true_and, Bool.and_true]
    exact lay_all fun p hp => (hv p hp).choose_spec.lay
  · have := dep_all (n := dp) (l := ms) fun p hp => (hv p hp).choose_spec.dep
    simp only [enc, PyData.depth, PyData.depthAll]
    omega
  · have h1 := bar_all (l := ms) fun p hp => (hv p hp).choose_spec.bar
    have hl : (encs ms).length < 64 := by rw [encs_map, List.length_map]; exact h64
    simp only [enc, kq, kqs, kqT_cons, isBar, barM, h1, kqT_encs, Bool.and_true]
    simp [hl]
  · simp only [enc, kw, kws, l1]
    omega
theorem addP_sl (acc : List P) (p : P) : (addP acc p).Sublist (acc ++ [p]) := by
  unfold addP
  split
  · exact List.sublist_append_left _ _
  · exact .refl _
theorem fold_sl : ∀ (l acc : List P), (l.foldl addP acc).Sublist (acc ++ l)
  | [], acc => by simp
  | p :: r, acc => by
    have h := (fold_sl r (addP acc p)).trans ((addP_sl acc p).append (.refl r))
    simpa using h
theorem kws_sl {l m : List P} (h : l.Sublist m) : kws (encs l) ≤ kws (encs m) := by
  induction h with
  | slnil => exact Nat.le_refl _
  | cons a _ ih => simp only [encs, kws]; omega
  | cons_cons a _ ih => simp only [encs, kws]; omega
/-- a drawn term of depth d -/
structure TmD (d : Nat) (p : P) : Prop where
  cd : Cd 0 (5 * d + 2) (Wd d) p
  mem : (memb p).length ≤ 3 ^ d
theorem TmD.cdm {d : Nat} {p m : P} (h : TmD d p) (hm : m ∈ memb p) : Cd 4 (5 * d + 2) (Wd d) m := by
  have o := h.cd.ok.memb hm
  exact ⟨isK_memb h.cd.is hm, o.lay, o.dep, o.bar, o.wgt⟩
theorem memb_kws {d : Nat} {p : P} (h : TmD d p) : kws (encs (memb p)) ≤ Wd d + 5 := by
  have := h.cd.wgt
  rcases uni_or p with ⟨ms, rfl⟩ | ⟨_, e⟩
  · simp only [enc, kw, kws] at this
    show kws (encs ms) ≤ _
    omega
  · rw [e]
    simp only [encs, kws]
    omega
theorem memb_ne' {p : P} (h : isK p 0) : memb p ≠ [] := by
  rcases uni_or p with ⟨ms, rfl⟩ | ⟨_, e⟩
  · simp only [isK] at h
    intro z
    have : ms = [] := z
    subst this
    exact absurd h.2.1 (by decide)
  · rw [e]; simp
theorem ljoin_TmD {d : Nat} {ps : List P} (h : ∀ p ∈ ps, TmD d p) (hne : ps ≠ []) (h3 : ps.length ≤ 3) (hd : d ≤ 2) (h1 : 1 ≤ (foundP ps).length) : TmD (d + 1) (ljoin ps) := by
  have hm : ∀ m ∈ ps.flatMap memb, Cd 4 (5 * d + 2) (Wd d) m := fun m hm => by
    obtain ⟨p, hp, hmp⟩ := List.mem_flatMap.mp hm
    exact (h p hp).cdm hmp
  have hsl : (foundP ps).Sublist (ps.flatMap memb) := by
    have := fold_sl (ps.flatMap memb) []
    simpa [foundP] using this
  have hf : ∀ m ∈ foundP ps, Cd 4 (5 * d + 2) (Wd d) m := fun m hx => hm m (hsl.subset hx)
  have hk : kws (encs (ps.flatMap memb)) ≤ ps.length * (Wd d + 5) ∧ (ps.flatMap memb).length ≤ ps.length * 3 ^ d := by
    clear hne h3 h1 hm hsl hf
    induction ps with
    | nil => exact ⟨by simp [encs, kws], by simp⟩
    | cons p r ih =>
      obtain ⟨i1, i2⟩ := ih fun q hq => h q (List.mem_cons_of_mem _ hq)
      have a := memb_kws (h p List.mem_cons_self)
      have b := (h p List.mem_cons_self).mem
      rw [List.flatMap_cons, encs_app, kws_app, List.length_append, List.length_cons, Nat.add_mul, Nat.add_mul]
      omega
  have hk2 := kws_sl hsl
  have hl2 := hsl.length_le
  have w3 : ps.length * (Wd d + 5) ≤ 3 * (Wd d + 5) := Nat.mul_le_mul_right _ h3
  have w4 : ps.length * 3 ^ d ≤ 3 * 3 ^ d := Nat.mul_le_mul_right _ h3
  have e3 : 3 ^ (d + 1) = 3 * 3 ^ d := by rw [Nat.pow_succ, Nat.mul_comm]
  have p64 : 3 * 3 ^ d ≤ 27 := by
    have : d = 0 ∨ d = 1 ∨ d = 2 := by omega
    rcases this with rfl | rfl | rfl <;> decide
  have one : 1 ≤ 3 ^ (d + 1) := Nat.one_le_pow _ _ (by decide)
  unfold ljoin
  split
  · rename_i p hp
    have hp4 := hf p (by rw [hp]; exact List.mem_singleton_self p)
    refine ⟨⟨isK_mem hp4.is, hp4.lay, by have := hp4.dep; omega, hp4.bar, by have := hp4.wgt; simp only [Wd]; omega⟩, ?_⟩
    rcases uni_or p with ⟨ms, rfl⟩ | ⟨_, e⟩
    · exact absurd hp4.is (by simp [isK])
    · rw [e]; exact one
  · rename_i hnot
    have h2 : 2 ≤ (foundP ps).length := by
      rcases hfp : foundP ps with _ | ⟨x, _ | ⟨y, r⟩⟩
      · rw [hfp] at h1; exact absurd h1 (by decide)
      · exact absurd hfp (hnot x)
      · simp
    refine ⟨(Cd.uni (dp := 5 * d + 2) (s := 3 * (Wd d + 5)) (fun v hv => ⟨_, hf v hv⟩) h2 (by omega) (fold_nd _ _ (by simp)) (by omega)).mono (by omega) (by simp only [Wd]; omega), ?_⟩
    show (foundP ps).length ≤ _
    omega
end Gd

/-! a dict of the module with text keys: in, not in -/
namespace Gd
open PySem PySem.Spec PyProof.Rows L2
/-- at d a written dict of these keys -/
structure KD (K : PySem.W.Frag) (w : World) (d : Addr) (ks : List Str) : Prop where
  ex : ∃ es n, KDict K w d es n ∧ es.toList.map He.keyOf = He.keysIn w.params ks
theorem KD.mk' {K : PySem.W.Frag} {w : World} {d : Addr} {ks : List Str} {es : Array DictEntry} {n : Nat} (h : K.lookup d = some ⟨.type "dict", none, .dict es n, #[]⟩)
    (e : es.toList.map He.keyOf = He.keysIn w.params ks) (l : (d == sysModules) = false) : KD K w d ks := ⟨es, n, ⟨h, He.keysLit_of e, l⟩, e⟩
theorem keys_find {P : Params} {z : Str} : ∀ {l : List DictEntry} {ks : List Str}, l.map He.keyOf = He.keysIn P ks →
    (l.find? (·.key.isStr z)).isSome = decide (z ∈ ks) ∧ l.any (·.refKey) = false
  | [], [], _ => ⟨by simp, rfl⟩
  | [], k :: ks, h => by cases h
  | e :: l, [], h => by cases h
  | e :: l, k :: ks, h => by
    have h1 : He.keyOf e :: l.map He.keyOf = some (k, PyData.keyHash P k) :: He.keysIn P ks := h
    injection h1 with h2 h3
    obtain ⟨i1, i2⟩ := keys_find (z := z) h3
    unfold He.keyOf at h2
    split at h2
    · rename_i x t q
      have h4 := Option.some.inj h2
      obtain ⟨h5, h6⟩ := Prod.mk.inj h4
      subst h5
      have hs : e.key.isStr z = decide (z = x) := by
        rw [q]
        show (x == z) = _
        by_cases c : z = x
        · subst c; simp
        · rw [decide_eq_false c]
          exact beq_false_of_ne (fun h => c h.symm)
      have hr : e.refKey = false := by
        unfold DictEntry.refKey
        rw [q]
      refine ⟨?_, ?_⟩
      · rw [List.find?_cons, hs]
        by_cases c : z = x
        · rw [decide_eq_true c]
          simp [c]
        · rw [decide_eq_false c]
          simp only [List.mem_cons, c, false_or]
          exact i1
      · rw [List.any_cons, hr, i2]
        rfl
    · cases h2
theorem KD.has {K : PySem.W.Frag} {w : World} {d : Addr} {ks : List Str} (D : KD K w d ks) (z : Str) : ∃ r, PySem.W.nsIn K d z = some r ∧ r.isSome = decide (z ∈ ks) := by
  obtain ⟨es, n, k, e⟩ := D.ex
  obtain ⟨h1, h2⟩ := keys_find (z := z) e
  unfold PySem.W.nsIn
  rw [k.at_]
  dsimp only
  cases c : es.toList.find? (·.key.isStr z) with
  | some en =>
    rw [c] at h1
    exact ⟨some en.val, rfl, h1⟩
  | none =>
    rw [c] at h1
    dsimp only
    rw [h2]
    exact ⟨none, rfl, h1⟩
section
variable {X : Cx} {d : Addr} {ks : List Str}
def rInD (d : Addr) (ks : List Str) (neg : Bool) : R2 := fun x y H Q => ∃ z, x = .str z ∧ y = .ref d ∧ Q (.bl (if neg then !decide (z ∈ ks) else decide (z ∈ ks))) H
theorem op_inD (D : KD X.K X.w d ks) : OpR X (compareOp .In) (rInD d ks false) := by
  intro pins s σ H x y v u Q I rx ry ⟨z, ex, ey, q⟩
  obtain ⟨r, h1, h2⟩ := D.has z
  obtain ⟨es, n, k, _⟩ := D.ex
  refine op_in_kd k pins s σ H x y v u Q I rx ry ⟨z, r, ex, ey, h1, ?_⟩
  rw [h2]; exact q
theorem op_notInD (D : KD X.K X.w d ks) : OpR X (compareOp .NotIn) (rInD d ks true) := by
  intro pins s σ H x y v u Q I rx ry ⟨z, ex, ey, q⟩
  obtain ⟨r, h1, h2⟩ := D.has z
  obtain ⟨es, n, k, _⟩ := D.ex
  refine op_notIn_kd k pins s σ H x y v u Q I rx ry ⟨z, r, ex, ey, h1, ?_⟩
  rw [h2]; exact q
theorem r_inD {H : Hp} {Q : VK} {z : Str} (q : Q (.bl (decide (z ∈ ks))) H) : rInD d ks false (.str z) (.ref d) H Q := ⟨z, rfl, rfl, q⟩
theorem r_notInD {H : Hp} {Q : VK} {z : Str} (q : Q (.bl (!decide (z ∈ ks))) H) : rInD d ks true (.str z) (.ref d) H Q := ⟨z, rfl, rfl, q⟩
end
end Gd

namespace My
open PySem PySem.Spec PyProof.Rows L2 Gd
local macro_rules | `(tactic| walk_at "ar") => `(tactic| first
  | omega
  | exact Or.inr ⟨by decide, by decide⟩ | exact Or.inl ⟨by decide, by decide⟩
  | exact mul01
  | exact ⟨by omega, by omega⟩ | exact ⟨by omega, by omega, by omega⟩ | exact ⟨by decide, by decide, by omega⟩
  | exact Or.inr ⟨by omega, by omega⟩ | exact Or.inl ⟨by omega, by omega⟩ | decide)
local macro_rules | `(tactic| walk_at "hp") => `(tactic| first | assumption | exact upd_same | (refine' (by assumption : Up _ _) _ _ ?_; walk_at "hp"))
local macro_rules | `(tactic| walk_at "da") => `(tactic| first | assumption | ((refine' Da.up ?k1 ?k2); (case k2 => assumption); (case k1 => walk_at "da")) | ((refine' Das.up ?k1 ?k2); (case k2 => assumption); (case k1 => walk_at "da")))
local macro_rules | `(tactic| walk_at "up") => `(tactic| first | assumption | exact Up.rf | ((refine' Up.tr ?k1 ?k2); (case k2 => assumption); (case k1 => walk_at "up")))
local macro_rules | `(tactic| walk_at "rd1") => `(tactic| first
  | ((with_reducible refine' r_var ?k1 ?_); (case k1 => exact rfl))
  | (with_reducible refine' r_c ?_) | (with_reducible refine' r_op ?_) | (with_reducible refine' r_seq ?_)
  | (with_reducible refine' r_i0 ?_) | ((with_reducible refine' r_i ?k1 ?_); (case k1 => walk_at "ar"))
  | (with_reducible refine' r_eqI ?_) | (with_reducible refine' r_eqS ?_) | (with_reducible refine' r_neI ?_) | (with_reducible refine' r_neS ?_)
  | (with_reducible refine' r_nil ?_) | (with_reducible refine' r_cons ?_) | (with_reducible refine' r_tup' ?_) | (with_reducible refine' r_lst' ?_)
  | ((with_reducible refine' r_newT ?k1 ?_); (case k1 => first | decide | (simp; done) | (simp; omega)); intro _ _ _ _ _)
  | ((with_reducible refine' r_newL ?k1 ?_); (case k1 => first | decide | (simp; done) | (simp; omega)); intro _ _ _ _ _)
  | (with_reducible refine' r_ifE ?_) | (with_reducible refine' r_test ?_) | (with_reducible refine' r_b ?_) | (with_reducible refine' r_bl ?_)
  | (with_reducible refine' r_and ?_) | (with_reducible refine' r_or ?_) | (with_reducible refine' r_not ?_) | (with_reducible refine' r_andV ?_) | (with_reducible refine' r_orV ?_)
  | (with_reducible refine' r_cb ?_) | (with_reducible refine' r_bm0 ?_) | (with_reducible refine' r_bm ?_) | (with_reducible refine' r_sl ?_)
  | (with_reducible refine' r_nop ?_) | (with_reducible refine' r_part ?_) | (with_reducible refine' r_int ?_) | (with_reducible refine' r_un ?_) | (with_reducible refine' r_neg ?_) | (with_reducible refine' r_back ?_)
  | ((with_reducible refine' r_ixT ?k1 ?k2 ?_); (case k1 => walk_at "hp"); (case k2 => first | exact at0 | exact at1 | exact at2 | exact rfl))
  | ((with_reducible refine' r_ixL ?k1 ?k2 ?_); (case k1 => walk_at "hp"); (case k2 => exact rfl))
  | ((with_reducible refine' r_setL ?k1 ?k2 ?_); (case k1 => walk_at "hp"); (case k2 => exact rfl))
  | ((with_reducible refine' r_in2 ?k1 ?_); (case k1 => walk_at "hp")) | ((with_reducible refine' r_ni2 ?k1 ?_); (case k1 => walk_at "hp"))
  | ((with_reducible refine' r_from1 ?k1 ?_); (case k1 => walk_at "hp"); intro _ _ _ _)
  | ((with_reducible refine' r_catA ?k1 ?k2 ?k3 ?_); (case k1 => walk_at "hp"); (case k2 => walk_at "hp"); (case k3 => first | decide | (simp; omega) | omega); intro _ _ _ _)
  | ((with_reducible refine' r_bk ?k1 ?_); (case k1 => walk_at "hp"); intro _ _ _ _ _)
  | (with_reducible refine' r_nn ?_) | ((with_reducible refine' r_in2L ?k1 ?_); (case k1 => walk_at "hp"))
  | ((with_reducible refine' r_wipe ?k1 ?_); (case k1 => exact rfl)) | (with_reducible refine' r_yes ?_) | (with_reducible refine' r_t ?_) | (with_reducible refine' r_f ?_)
  | (with_reducible refine' r_tyS ?_) | ((with_reducible refine' r_gtup ?k1 ?k2 ?_); (case k1 => walk_at "hp"); (case k2 => exact rfl)) | (with_reducible refine' r_gc ?_) | (with_reducible refine' r_gn ?_)
  | (with_reducible refine' r_L1 ?_) | (with_reducible refine' r_iB ?_) | (with_reducible refine' r_L2 ?_)
  | (with_reducible refine' r_lc ?_) | (with_reducible refine' r_il ?_) | (with_reducible refine' r_it ?_) | (with_reducible refine' r_ir ?_)
  | (with_reducible refine' r_nx ?_) | (with_reducible refine' r_ret ?_) | (with_reducible refine' r_drop ?_) | (with_reducible refine' r_asg ?_) | (with_reducible refine' r_name ?_)
  | (with_reducible refine' r_sub ?_) | (with_reducible refine' r_ifS ?_) | (with_reducible refine' r_par ?_) | (with_reducible refine' r_2 ?_) | (with_reducible refine' r_for ?_) | (with_reducible refine' r_star ?_) | (with_reducible refine' r_notInD ?_) | (with_reducible refine' r_inD ?_))
local macro_rules | `(tactic| walk_at "rd") => `(tactic| repeat walk_at "rd1")
local macro_rules | `(tactic| walk_at "cf") => `(tactic| first
  | ((with_reducible refine' ifT ?k1 ?_); (case k1 => decide +kernel)) | ((with_reducible refine' ifF ?k1 ?_); (case k1 => decide +kernel))
  | ((with_reducible refine' ifF ?k1 ?_); (case k1 => (simp; done))) | ((with_reducible refine' ifT ?k1 ?_); (case k1 => (simp; done)))
  | ((with_reducible refine' ifF ?k1 ?_); (case k1 => (simp [*]; done))) | ((with_reducible refine' ifT ?k1 ?_); (case k1 => (simp [*]; done))))
local macro_rules | `(tactic| walk_at "rc") => `(tactic| repeat (first | walk_at "rd1" | walk_at "cf"))
local macro_rules | `(tactic| walk_at "rn1") => `(tactic| first
  | ((with_reducible refine' r_var ?k1 ?_); (case k1 => exact rfl))
  | (with_reducible refine' r_c ?_) | (with_reducible refine' r_op ?_) | (with_reducible refine' r_seq ?_)
  | (with_reducible refine' r_i0 ?_) | ((with_reducible refine' r_i ?k1 ?_); (case k1 => walk_at "ar"))
  | (with_reducible refine' r_eqI ?_) | (with_reducible refine' r_eqS ?_) | (with_reducible refine' r_neI ?_) | (with_reducible refine' r_neS ?_)
  | (with_reducible refine' r_nil ?_) | (with_reducible refine' r_cons ?_) | (with_reducible refine' r_tup' ?_) | (with_reducible refine' r_lst' ?_)
  | ((with_reducible refine' r_newT ?k1 ?_); (case k1 => first | decide | (simp; done) | (simp; omega)); intro _ _ _ _ _)
  | ((with_reducible refine' r_newL ?k1 ?_); (case k1 => first | decide | (simp; done) | (simp; omega)); intro _ _ _ _ _)
  | (with_reducible refine' r_ifE ?_) | (with_reducible refine' r_test ?_) | (with_reducible refine' r_b ?_) | (with_reducible refine' r_bl ?_)
  | (with_reducible refine' r_or ?_) | (with_reducible refine' r_not ?_) | (with_reducible refine' r_andV ?_) | (with_reducible refine' r_orV ?_)
  | (with_reducible refine' r_cb ?_) | (with_reducible refine' r_bm0 ?_) | (with_reducible refine' r_bm ?_) | (with_reducible refine' r_sl ?_)
  | (with_reducible refine' r_nop ?_) | (with_reducible refine' r_part ?_) | (with_reducible refine' r_int ?_) | (with_reducible refine' r_un ?_) | (with_reducible refine' r_neg ?_) | (with_reducible refine' r_back ?_)
  | ((with_reducible refine' r_ixT ?k1 ?k2 ?_); (case k1 => walk_at "hp"); (case k2 => first | exact at0 | exact at1 | exact at2 | exact rfl))
  | ((with_reducible refine' r_ixL ?k1 ?k2 ?_); (case k1 => walk_at "hp"); (case k2 => exact rfl))
  | ((with_reducible refine' r_setL ?k1 ?k2 ?_); (case k1 => walk_at "hp"); (case k2 => exact rfl))
  | ((with_reducible refine' r_in2 ?k1 ?_); (case k1 => walk_at "hp")) | ((with_reducible refine' r_ni2 ?k1 ?_); (case k1 => walk_at "hp"))
  | ((with_reducible refine' r_from1 ?k1 ?_); (case k1 => walk_at "hp"); intro _ _ _ _)
  | ((with_reducible refine' r_catA ?k1 ?k2 ?k3 ?_); (case k1 => walk_at "hp"); (case k2 => walk_at "hp"); (case k3 => first | decide | (simp; omega) | omega); intro _ _ _ _)
  | ((with_reducible refine' r_bk ?k1 ?_); (case k1 => walk_at "hp"); intro _ _ _ _ _)
  | (with_reducible refine' r_nn ?_) | ((with_reducible refine' r_in2L ?k1 ?_); (case k1 => walk_at "hp"))
  | ((with_reducible refine' r_wipe ?k1 ?_); (case k1 => exact rfl)) | (with_reducible refine' r_yes ?_) | (with_reducible refine' r_t ?_) | (with_reducible refine' r_f ?_)
  | (with_reducible refine' r_tyS ?_) | ((with_reducible refine' r_gtup ?k1 ?k2 ?_); (case k1 => walk_at "hp"); (case k2 => exact rfl)) | (with_reducible refine' r_gc ?_) | (with_reducible refine' r_gn ?_)
  | (with_reducible refine' r_L1 ?_) | (with_reducible refine' r_iB ?_) | (with_reducible refine' r_L2 ?_)
  | (with_reducible refine' r_lc ?_) | (with_reducible refine' r_il ?_) | (with_reducible refine' r_it ?_) | (with_reducible refine' r_ir ?_)
  | (with_reducible refine' r_nx ?_) | (with_reducible refine' r_ret ?_) | (with_reducible refine' r_drop ?_) | (with_reducible refine' r_asg ?_) | (with_reducible refine' r_name ?_)
  | (with_reducible refine' r_sub ?_) | (with_reducible refine' r_ifS ?_) | (with_reducible refine' r_par ?_) | (with_reducible refine' r_2 ?_) | (with_reducible refine' r_for ?_) | (with_reducible refine' r_star ?_) | (with_reducible refine' r_notInD ?_) | (with_reducible refine' r_inD ?_))
local macro_rules | `(tactic| walk_at "rn") => `(tactic| repeat (first | walk_at "rn1" | walk_at "cf"))

def top (i : Nat) : Stmt := PySem.Challenge.pw_aliasparams_k02_sizes_and_parts.main.body.getD i (.Pass ⟨0, 0, 0, 0⟩)
abbrev s_parts_of : Stmt := top 2
theorem sc_parts_of : FnScope ["part", "head"] ["part"] (defScope s_parts_of) := ⟨rfl, rfl, rfl, by decide +kernel, rfl, by decide +kernel, by decide +kernel⟩

abbrev s_all_parts : Stmt := top 3
theorem sc_all_parts : FnScope ["top", "found", "waiting", "part"] ["top"] (defScope s_all_parts) := ⟨rfl, rfl, rfl, by decide +kernel, rfl, by decide +kernel, by decide +kernel⟩

abbrev s_is_node : Stmt := top 4
theorem sc_is_node : FnScope ["part"] ["part"] (defScope s_is_node) := ⟨rfl, rfl, rfl, by decide +kernel, rfl, by decide +kernel, by decide +kernel⟩

abbrev s_size : Stmt := top 6
theorem sc_size : FnScope ["term", "part"] ["term"] (defScope s_size) := ⟨rfl, rfl, rfl, by decide +kernel, rfl, by decide +kernel, by decide +kernel⟩

abbrev s_origin : Stmt := top 7
theorem sc_origin : FnScope ["term"] ["term"] (defScope s_origin) := ⟨rfl, rfl, rfl, by decide +kernel, rfl, by decide +kernel, by decide +kernel⟩

abbrev s_arguments : Stmt := top 8
theorem sc_arguments : FnScope ["term"] ["term"] (defScope s_arguments) := ⟨rfl, rfl, rfl, by decide +kernel, rfl, by decide +kernel, by decide +kernel⟩

abbrev s_made : Stmt := top 9
theorem sc_made : FnScope ["origin", "arguments"] ["origin", "arguments"] (defScope s_made) := ⟨rfl, rfl, rfl, by decide +kernel, rfl, by decide +kernel, by decide +kernel⟩

abbrev s_lbag : Stmt := top 11
theorem sc_lbag : FnScope ["script", "at", "cell", "far", "seed"] ["script", "at"] (defScope s_lbag) := ⟨rfl, rfl, rfl, by decide +kernel, rfl, by decide +kernel, by decide +kernel⟩

abbrev s_ltake : Stmt := top 12
theorem sc_ltake : FnScope ["bag", "many", "digit"] ["bag", "many"] (defScope s_ltake) := ⟨rfl, rfl, rfl, by decide +kernel, rfl, by decide +kernel, by decide +kernel⟩

abbrev s_lnames : Stmt := top 13
theorem sc_lnames : FnScope ["bag", "many", "letters", "stem", "first", "pace", "turn"] ["bag", "many"] (defScope s_lnames) := ⟨rfl, rfl, rfl, by decide +kernel, rfl, by decide +kernel, by decide +kernel⟩

abbrev s_lkey : Stmt := top 14
theorem sc_lkey : FnScope ["thing", "one"] ["thing"] (defScope s_lkey) := ⟨rfl, rfl, rfl, by decide +kernel, rfl, by decide +kernel, by decide +kernel⟩

abbrev s_ljoined : Stmt := top 15
theorem sc_ljoined : FnScope ["terms", "term", "found", "keys", "one"] ["terms"] (defScope s_ljoined) := ⟨rfl, rfl, rfl, by decide +kernel, rfl, by decide +kernel, by decide +kernel⟩

abbrev s_litem : Stmt := top 16
theorem sc_litem : FnScope ["bag", "names", "deep", "way", "term"] ["bag", "names", "deep"] (defScope s_litem) := ⟨rfl, rfl, rfl, by decide +kernel, rfl, by decide +kernel, by decide +kernel⟩

abbrev s_linputs : Stmt := top 17
theorem sc_linputs : FnScope ["bag", "names", "deep", "items", "turn"] ["bag", "names", "deep"] (defScope s_linputs) := ⟨rfl, rfl, rfl, by decide +kernel, rfl, by decide +kernel, by decide +kernel⟩

abbrev s_lterm : Stmt := top 18
theorem sc_lterm : FnScope ["bag", "names", "deep", "way", "items", "row", "turn"] ["bag", "names", "deep"] (defScope s_lterm) := ⟨rfl, rfl, rfl, by decide +kernel, rfl, by decide +kernel, by decide +kernel⟩

abbrev s_lsize : Stmt := top 19
theorem sc_lsize : FnScope ["thing", "parts", "one"] ["thing"] (defScope s_lsize) := ⟨rfl, rfl, rfl, by decide +kernel, rfl, by decide +kernel, by decide +kernel⟩

abbrev s_lsmall : Stmt := top 20
theorem sc_lsmall : FnScope ["bag", "names", "deep", "most", "turn", "term"] ["bag", "names", "deep", "most"] (defScope s_lsmall) := ⟨rfl, rfl, rfl, by decide +kernel, rfl, by decide +kernel, by decide +kernel⟩

abbrev s_law : Stmt := top 21
theorem sc_law : FnScope ["script", "at", "bag", "names", "turn", "term", "parts"] ["script"] (defScope s_law) := ⟨rfl, rfl, rfl, by decide +kernel, rfl, by decide +kernel, by decide +kernel⟩

structure TX (K : PySem.W.Frag) (mg : Str → Option Value) (w : World) where
  f_parts_of : Addr
  d_parts_of : FuncData
  F_parts_of : Fun K "parts_of" "parts_of" s_parts_of f_parts_of d_parts_of
  c_parts_of : Cal K mg "parts_of" f_parts_of d_parts_of ["part"]
  f_all_parts : Addr
  d_all_parts : FuncData
  F_all_parts : Fun K "all_parts" "all_parts" s_all_parts f_all_parts d_all_parts
  c_all_parts : Cal K mg "all_parts" f_all_parts d_all_parts ["top"]
  f_is_node : Addr
  d_is_node : FuncData
  F_is_node : Fun K "is_node" "is_node" s_is_node f_is_node d_is_node
  c_is_node : Cal K mg "is_node" f_is_node d_is_node ["part"]
  f_size : Addr
  d_size : FuncData
  F_size : Fun K "size" "size" s_size f_size d_size
  c_size : Cal K mg "size" f_size d_size ["term"]
  f_origin : Addr
  d_origin : FuncData
  F_origin : Fun K "origin" "origin" s_origin f_origin d_origin
  c_origin : Cal K mg "origin" f_origin d_origin ["term"]
  f_arguments : Addr
  d_arguments : FuncData
  F_arguments : Fun K "arguments" "arguments" s_arguments f_arguments d_arguments
  c_arguments : Cal K mg "arguments" f_arguments d_arguments ["term"]
  f_made : Addr
  d_made : FuncData
  F_made : Fun K "made" "made" s_made f_made d_made
  c_made : Cal K mg "made" f_made d_made ["origin", "arguments"]
  f_lbag : Addr
  d_lbag : FuncData
  F_lbag : Fun K "_law_bag" "_law_bag" s_lbag f_lbag d_lbag
  c_lbag : Cal K mg "_law_bag" f_lbag d_lbag ["script", "at"]
  f_ltake : Addr
  d_ltake : FuncData
  F_ltake : Fun K "_law_take" "_law_take" s_ltake f_ltake d_ltake
  c_ltake : Cal K mg "_law_take" f_ltake d_ltake ["bag", "many"]
  f_lnames : Addr
  d_lnames : FuncData
  F_lnames : Fun K "_law_names" "_law_names" s_lnames f_lnames d_lnames
  c_lnames : Cal K mg "_law_names" f_lnames d_lnames ["bag", "many"]
  f_lkey : Addr
  d_lkey : FuncData
  F_lkey : Fun K "_law_key" "_law_key" s_lkey f_lkey d_lkey
  c_lkey : Cal K mg "_law_key" f_lkey d_lkey ["thing"]
  f_ljoined : Addr
  d_ljoined : FuncData
  F_ljoined : Fun K "_law_joined" "_law_joined" s_ljoined f_ljoined d_ljoined
  c_ljoined : Cal K mg "_law_joined" f_ljoined d_ljoined ["terms"]
  f_litem : Addr
  d_litem : FuncData
  F_litem : Fun K "_law_item" "_law_item" s_litem f_litem d_litem
  c_litem : Cal K mg "_law_item" f_litem d_litem ["bag", "names", "deep"]
  f_linputs : Addr
  d_linputs : FuncData
  F_linputs : Fun K "_law_inputs" "_law_inputs" s_linputs f_linputs d_linputs
  c_linputs : Cal K mg "_law_inputs" f_linputs d_linputs ["bag", "names", "deep"]
  f_lterm : Addr
  d_lterm : FuncData
  F_lterm : Fun K "_law_term" "_law_term" s_lterm f_lterm d_lterm
  c_lterm : Cal K mg "_law_term" f_lterm d_lterm ["bag", "names", "deep"]
  f_lsize : Addr
  d_lsize : FuncData
  F_lsize : Fun K "_law_size" "_law_size" s_lsize f_lsize d_lsize
  c_lsize : Cal K mg "_law_size" f_lsize d_lsize ["thing"]
  f_lsmall : Addr
  d_lsmall : FuncData
  F_lsmall : Fun K "_law_small" "_law_small" s_lsmall f_lsmall d_lsmall
  c_lsmall : Cal K mg "_law_small" f_lsmall d_lsmall ["bag", "names", "deep", "most"]
  f_law : Addr
  d_law : FuncData
  F_law : Fun K "law" "law" s_law f_law d_law
  c_law : Cal K mg "law" f_law d_law ["script"]
  o_OTHERS : Addr
  g_OTHERS : mg "_OTHERS" = some (.ref o_OTHERS)
  D_OTHERS : KD K w o_OTHERS ["*", "**", "->", "...", "()"]
  z_abs : mg "abs" = none
  z_int : mg "int" = none
  z_isinstance : mg "isinstance" = none
  z_len : mg "len" = none
  z_max : mg "max" = none
  z_min : mg "min" = none
  z_range : mg "range" = none
  z_repr : mg "repr" = none
  z_sorted : mg "sorted" = none
  z_str : mg "str" = none
  z_sum : mg "sum" = none
  z_tuple : mg "tuple" = none
def Bag (H : Hp) (b : Addr) : Prop := ∃ x y z : Int, H b = some (.lst [.int x, .int y, .int z]) ∧ 0 ≤ y ∧ y < 2147483648
theorem Bag.up {H H' : Hp} {b : Addr} (h : Bag H b) (k : Up H H') : Bag H' b := let ⟨x, y, z, e, r⟩ := h; ⟨x, y, z, k _ _ e, r⟩
theorem Bag.ne {H : Hp} {b p : Addr} (h : Bag H b) (n : H p = none) : p ≠ b := let ⟨_, _, _, e, _⟩ := h; (ne_of_none e n).symm
theorem Bag.ne' {H H' : Hp} {b p : Addr} (h : Bag H' b) (n : H p = none) (u : Up H H') (hb : Bag H b) : p ≠ b := hb.ne n
theorem Bag.fr {H H' : Hp} {b p : Addr} (h : Bag H' b) (m : Mv b H H') (n : H' p = none) : H p = none := let ⟨_, _, _, e, _⟩ := h; m.fr e n
theorem Bag.tk {H H' : Hp} {b : Addr} (h : Bag H b) (m : Mv b H H') : Tk H H' := let ⟨_, _, _, e, _⟩ := h; m.tk e
theorem Bag.mv {H H' : Hp} {b p : Addr} (h : Bag H b) (ne : b ≠ p) (m : Mv p H H') : Bag H' b := let ⟨x, y, z, e, r⟩ := h; ⟨x, y, z, m _ _ ne e, r⟩
def sp_ltake : Sp := fun vs H Q _ => ∃ (b : Addr) (m : Int), vs = [.ref b, .int m] ∧ Bag H b ∧ 1 ≤ m ∧ m ≤ 1000 ∧
  ∀ (r : Int) (H' : Hp), 0 ≤ r → r < m → Mv b H H' → Bag H' b → Q (.int r) H'
section
variable {P : Program} {w : World} {K : PySem.W.Frag} {mg : Str → Option Value} {base : Heap}
def sp_parts_of : Sp := fun vs H Q _ => ∃ (v : V) (p : Gd.P), vs = [v] ∧ Da H v (enc p) ∧ hok p ∧ (parts p).length ≤ 90000 ∧
  ∀ (a : Addr) (xs : List V) (H' : Hp), Up H H' → H' a = some (.tup xs) → Das H' xs (encs (parts p)) → Q (.ref a) H'
theorem ok_parts_of (T : TX K mg w) : FG P w K mg base CX0 1 T.f_parts_of T.d_parts_of ["part"] sp_parts_of := by
  refine Gd.ok T.F_parts_of sc_parts_of (fun vs H Q E h => ?_) (fun cdv A out s H vs Q E hg hr h => ?_)
  · obtain ⟨b, m, rfl, _⟩ := h
    rfl
  · obtain ⟨v, p, rfl, hv, hok, hl, k⟩ := h
    have nd := sc_parts_of.nd
    refine ⟨_, (pss_cons (ps_set (i := 1) nd rfl (by first | exact Or.inl rfl | exact Or.inr rfl) (pe_ix ix_tup (pv 0) pe_int (fun _ _ => rfl)))
  (pss_cons (ps_if (pt_cmpR (op_notInD T.D_OTHERS) (pv 1) (pe_glob (v := .ref T.o_OTHERS) rfl T.g_OTHERS rfl) rfl) (pss_one (ps_ret (pe_ix ix_tup (pv 0) pe_int (fun _ _ => rfl)))) pss_nil)
  (pss_cons (ps_if (pt_cmpR op_eq (pv 1) pe_str (nomark _)) (pss_one (ps_ret (pe_ifExp (pt_cmpR op_isN (pe_ix ix_tup (pv 0) pe_int (fun _ _ => rfl)) pe_non (nomark _)) (pe_ix ix_tup (pv 0) pe_int (fun _ _ => rfl)) (pe_tup (StX.pa_star (pe_ix ix_tup (pv 0) pe_int (fun _ _ => rfl)) (pa_cons (pe_tup (pa_cons pe_str (pa_cons (pe_ix ix_tup (pv 0) pe_int (fun _ _ => rfl)) pa_nil))) pa_nil)))))) pss_nil)
  (pss_one (ps_ret (pe_ifExp (pt_cmpR op_in_seq (pv 1) (pe_tup (pa_cons pe_str (pa_cons pe_str pa_nil))) rfl) (pe_tup pa_nil) (pe_slice sl_tupA (pv 0) (po_some pe_int) po_none))))))), ?_⟩
    obtain ⟨a, w1, ws, rfl, ha, h1, t⟩ := enc_inv hv
    cases p with
    | use n vs =>
      obtain ⟨e1, e2, e3, e4, e5, e6, e7⟩ := good.apart hok
      dsimp only [Gd.hd] at ha
      obtain ⟨b, ys, rfl, hb, tb⟩ := h1.tup_inv
      walk_at "rc"
      refine' k _ _ _ ?k1 ?k2 ?k3
      (case k2 => walk_at "hp"); (case k1 => walk_at "up"); (case k3 => walk_at "da")
    | sig i r =>
      dsimp only [Gd.hd] at ha
      obtain ⟨u, rfl, tu⟩ := t.one
      have tt : Das H [w1, u] (encs [i, r]) := .cons h1 (.cons tu .nil)
      walk_at "rc"
      refine' k _ _ _ ?k1 ?k2 ?k3
      (case k2 => walk_at "hp"); (case k1 => walk_at "up"); (case k3 => walk_at "da")
    | uni ms =>
      dsimp only [Gd.hd] at ha
      obtain ⟨b, ys, rfl, hb, tb⟩ := h1.tup_inv
      walk_at "rc"
      refine' k _ _ _ ?k1 ?k2 ?k3
      (case k2 => walk_at "hp"); (case k1 => walk_at "up"); (case k3 => walk_at "da")
    | row ms =>
      dsimp only [Gd.hd] at ha
      obtain ⟨b, ys, rfl, hb, tb⟩ := h1.tup_inv
      walk_at "rc"
      refine' k _ _ _ ?k1 ?k2 ?k3
      (case k2 => walk_at "hp"); (case k1 => walk_at "up"); (case k3 => walk_at "da")
    | star n =>
      dsimp only [Gd.hd] at ha
      have tt : Das H [] (encs []) := .nil
      walk_at "rc"
      refine' k _ _ _ ?k1 ?k2 ?k3
      (case k2 => walk_at "hp"); (case k1 => walk_at "up"); (case k3 => walk_at "da")
    | tail n =>
      dsimp only [Gd.hd] at ha
      have tt : Das H [] (encs []) := .nil
      walk_at "rc"
      refine' k _ _ _ ?k1 ?k2 ?k3
      (case k2 => walk_at "hp"); (case k1 => walk_at "up"); (case k3 => walk_at "da")
    | dots i =>
      dsimp only [Gd.hd] at ha
      have e : ws = [] := by cases t; rfl
      subst e
      have tt : Das H [w1] (encs [i]) := .cons h1 .nil
      walk_at "rc"
      refine' k _ _ _ ?k1 ?k2 ?k3
      (case k2 => walk_at "hp"); (case k1 => walk_at "up"); (case k3 => walk_at "da")
    | inp ms tl =>
      dsimp only [Gd.hd] at ha
      obtain ⟨b, ys, rfl, hb, tb⟩ := h1.tup_inv
      obtain ⟨u, rfl, tu⟩ := t.one
      have hys := tb.length
      cases tl with
      | none =>
        obtain rfl := tu.non_inv
        have tt : Das H ys (encs (ms ++ tails none)) := by
          rw [tails, List.append_nil]
          exact tb
        walk_at "rc"
        refine' k _ _ _ ?k1 ?k2 ?k3
        (case k2 => walk_at "hp"); (case k1 => walk_at "up"); (case k3 => walk_at "da")
      | some s =>
        obtain rfl := tu.str_inv
        have hlen : ys.length ≤ 90000 := by
          rw [hys, encs_map, List.length_map]
          simp only [parts, List.length_append] at hl
          omega
        walk_at "rc"
        refine ⟨b, ys, rfl, Or.inl (SqT.of (by walk_at "hp")), ?_⟩
        walk_at "rc"
        rename_i p1 H1 n1 u1 g1 p2 H2 n2 u2 g2
        have td : Da H2 (V.ref p1) (enc (.tail s)) := .tup (by walk_at "hp") (.cons (.str _) (.cons (.str _) .nil))
        have tb2 : Das H2 ys (encs ms) := by walk_at "da"
        refine k p2 _ H2 (by walk_at "up") g2 ?_
        rw [show parts (.inp ms (some s)) = ms ++ [.tail s] from rfl, encs_app]
        exact tb2.app (.cons td .nil)
def sp_all_parts : Sp := fun vs H Q _ => ∃ (v : V) (p : Gd.P), vs = [v] ∧ Da H v (enc p) ∧ (∀ q ∈ pre p, hok q) ∧ kw (enc p) ≤ 90000 ∧
  ∀ (a : Addr) (xs : List V) (H' : Hp), H a = none → Up H H' → H' a = some (.lst xs) → Das H' xs (encs (pre p)) → Q (.ref a) H'
theorem ok_all_parts (T : TX K mg w) : FG P w K mg base CX0 2 T.f_all_parts T.d_all_parts ["top"] sp_all_parts := by
  have G_parts_of := ok_parts_of (P := P) (w := w) (base := base) T
  refine Gd.ok T.F_all_parts sc_all_parts (fun vs H Q E h => ?_) (fun cdv A out s H vs Q E hg hr h => ?_)
  · obtain ⟨b, m, rfl, _⟩ := h
    rfl
  · obtain ⟨v, p, rfl, hv, hok, hl, k⟩ := h
    have nd := sc_all_parts.nd
    have hr_parts_of := hr
    refine ⟨_, (pss_cons (ps_set (i := 1) nd rfl (by first | exact Or.inl rfl | exact Or.inr rfl) (pe_lst pa_nil))
  (pss_cons (ps_set (i := 2) nd rfl (by first | exact Or.inl rfl | exact Or.inr rfl) (pe_lst (pa_cons (pv 0) pa_nil)))
  (pss_cons (ps_while PassesOwn.never (pt_truth (pv 2) (fun _ => rfl)) (pss_cons (ps_set (i := 3) nd rfl (by first | exact Or.inl rfl | exact Or.inr rfl) (pe_bm0 PySem.F.plainAttrs_list PySem.F.slot_list_pop PySem.F.type_list_pop mt_pop (pv 2)))
  (pss_cons (ps_expr (pe_bm PySem.F.plainAttrs_list PySem.F.slot_list_append PySem.F.type_list_append mt_append (pv 1) (pa_cons (pv 3) pa_nil)))
  (pss_one (ps_expr (pe_bm PySem.F.plainAttrs_list PySem.F.slot_list_extend PySem.F.type_list_extend mt_extT (pv 2) (pa_cons (pe_backT (pe_g T.c_parts_of G_parts_of hg hr_parts_of rfl pass0 (pa_cons (pv 3) pa_nil))) pa_nil)))))))
  (pss_one (ps_ret (pv 1)))))), ?_⟩
    walk_at "rd"
    rename_i l H1 n1 u1 g1 q H2 n2 u2 g2
    have hlq : l ≠ q := ne_of_none g1 n2
    have u0 : Up H H2 := by walk_at "up"
    refine ⟨fun m σ H3 => ∃ (qs done : List Gd.P) (ws fs : List V) (x : Option V), σ = [some v, some (.ref l), some (.ref q), x] ∧ Up H H3 ∧ H3 l = some (.lst fs) ∧ H3 q = some (.lst ws) ∧ Das H3 fs (encs done) ∧ Das H3 ws (encs qs) ∧
      done ++ pres qs.reverse = pre p ∧ m = (pres qs.reverse).length, ⟨_, [p], [], [v], [], none, rfl, u0, u2 _ _ g1, g2, .nil, .cons (hv.up u0) .nil, by simp [pres], rfl⟩, ?_⟩
    rintro m σ H3 ⟨qs, done, ws, fs, x, rfl, u3, hf, hw, df, dw, e, rfl⟩
    have hpre := pre_kw p
    have hle : done.length + (pres qs.reverse).length ≤ 90000 := by
      have := congrArg List.length e
      rw [List.length_append] at this
      omega
    have lf := df.length
    have lw := dw.length
    rw [encs_map, List.length_map] at lf lw
    walk_at "rd"
    refine r_truL hw ?_
    rcases List.eq_nil_or_concat qs with rfl | ⟨qs, y, rfl⟩
    · cases dw
      refine ifF rfl ?_
      walk_at "rd"
      have e' : done = pre p := by simpa [pres] using e
      subst e'
      exact k _ _ _ n1 u3 hf df
    · rw [List.concat_eq_append, encs_app] at dw
      rw [List.concat_eq_append] at e lw ⊢
      obtain ⟨ws, z, rfl, dw, dz⟩ := dw.snoc
      have ep : pres (qs ++ [y]).reverse = y :: (pres (parts y) ++ pres qs.reverse) := by
        rw [List.reverse_append, List.reverse_singleton, List.singleton_append, pres, pre_eq, List.cons_append]
      rw [ep] at e ⊢
      have hy : y ∈ pre p := by rw [← e]; simp
      have lp := pres_len (parts y)
      have lq := pres_len qs.reverse
      have le := congrArg List.length e
      simp only [List.length_append, List.length_cons, List.length_reverse, List.length_nil] at le lq lw lp
      refine ifT (by simp) ⟨fun σ' H' => _, fun _ _ h => h, ?_⟩
      walk_at "rd"
      refine r_tyL hw (r_pop hw fun H4 m4 g4 => ?_)
      have hf4 := m4 _ _ hlq hf
      have k4 := m4.tk hw
      walk_at "rd"
      refine r_tyL hf4 ?_
      walk_at "rd"
      refine r_app hf4 (by omega) fun H5 m5 g5 => ?_
      have hw5 := m5 _ _ hlq.symm g4
      have k5 := k4.tr (m5.tk hf4)
      walk_at "rd"
      refine r_tyL hw5 ?_
      walk_at "rd"
      refine ⟨z, y, rfl, dz.tk k5, hok _ hy, by omega, fun a xs H6 u6 g6 d6 => ?_⟩
      walk_at "rd"
      rename_i b H7 n7 u7 g7
      have d7 : Das H7 xs.reverse (encs (parts y).reverse) := by
        rw [encs_map, List.map_reverse, ← encs_map]
        exact (d6.up u7).rev
      have lx := d6.length
      rw [encs_map, List.length_map] at lx
      refine r_ext (u7 _ _ (u6 _ _ hw5)) g7 (by rw [List.length_reverse]; omega) fun H8 m8 g8 => ?_
      walk_at "rd"
      have k8 : Tk H3 H8 := k5.tr ((u6.tr u7).tk.tr (m8.tk (u7 _ _ (u6 _ _ hw5))))
      have k58 : Tk H5 H8 := (u6.tr u7).tk.tr (m8.tk (u7 _ _ (u6 _ _ hw5)))
      have k78 : Tk H7 H8 := m8.tk (u7 _ _ (u6 _ _ hw5))
      have nl : H l = none := n1
      have nq : H q = none := u1.fr n2
      refine ⟨(pres (parts y) ++ pres qs.reverse).length, by simp, qs ++ (parts y).reverse, done ++ [y], _, _, some z, rfl, ?_, m8 _ _ hlq (u7 _ _ (u6 _ _ g5)), g8, ?_, ?_, ?_, ?_⟩
      · exact (((u3.of nq m4).of nl m5).tr (u6.tr u7)).of nq m8
      · rw [encs_app]
        exact (df.tk k8).app (.cons (dz.tk k8) .nil)
      · rw [encs_app]
        exact (dw.tk k8).app (d7.tk k78)
      · rw [List.append_assoc, ← e]
        simp [pres_app]
      · rw [List.reverse_append, List.reverse_reverse, pres_app]
def sp_is_node : Sp := fun vs H Q _ => ∃ (v : V) (p : Gd.P), vs = [v] ∧ Da H v (enc p) ∧ hok p ∧ ∀ (H' : Hp), Up H H' → Q (.bl (isNd p)) H'
theorem ok_is_node (T : TX K mg w) : FG P w K mg base CX0 1 T.f_is_node T.d_is_node ["part"] sp_is_node := by
  refine Gd.ok T.F_is_node sc_is_node (fun vs H Q E h => ?_) (fun cdv A out s H vs Q E hg hr h => ?_)
  · obtain ⟨b, m, rfl, _⟩ := h
    rfl
  · obtain ⟨v, p, rfl, hv, hok, k⟩ := h
    have nd := sc_is_node.nd
    refine ⟨_, (pss_one (ps_ret (pe_cmpR op_notIn_seq (pe_ix ix_tup (pv 0) pe_int (fun _ _ => rfl)) (pe_tup (pa_cons pe_str (pa_cons pe_str pa_nil))) rfl))), ?_⟩
    obtain ⟨a, w1, ws, rfl, ha, h1, t⟩ := enc_inv hv
    walk_at "rd"
    rename_i p1 H1 n1 u1 g1
    show Q (V.bl _) H1
    rw [nd_hd p hok]
    exact k _ u1
def sp_size : Sp := fun vs H Q _ => ∃ (v : V) (p : Gd.P), vs = [v] ∧ Da H v (enc p) ∧ (∀ q ∈ pre p, hok q) ∧ kw (enc p) ≤ 90000 ∧ ∀ (H' : Hp), Up H H' → Q (.int (siz p)) H'
theorem ok_size (T : TX K mg w) : FG P w K mg base CX0 3 T.f_size T.d_size ["term"] sp_size := by
  have G_all_parts := ok_all_parts (P := P) (w := w) (base := base) T
  have G_is_node := ok_is_node (P := P) (w := w) (base := base) T
  refine Gd.ok T.F_size sc_size (fun vs H Q E h => ?_) (fun cdv A out s H vs Q E hg hr h => ?_)
  · obtain ⟨b, m, rfl, _⟩ := h
    rfl
  · obtain ⟨v, p, rfl, hv, hok, hl, k⟩ := h
    have nd := sc_size.nd
    have hr_all_parts := hr
    have hr_is_node := hr.mono (show 1 ≤ 2 by decide)
    refine ⟨_, (pss_one (ps_ret (pe_callB call_len_seq rfl T.z_len PySem.boot_len (pa_cons (pe_lc (own := [("part", 1)]) rfl nd (pi_list (pe_g T.c_all_parts G_all_parts hg hr_all_parts rfl pass0 (pa_cons (pv 0) pa_nil))) (blkOk_by (N := ["term", "part"]) (sc := defScope s_size) (by decide +kernel)) (fun _ _ _ _ _ => pg_name (i := 1) nd rfl (by first | exact Or.inl rfl | exact Or.inr rfl)) (fun _ _ _ _ _ => (pts_one (pt_val (pe_g T.c_is_node G_is_node hg hr_is_node rfl pass0 (pa_cons (pv 1) pa_nil))))) (fun _ _ _ _ _ => (pv 1))) pa_nil)))), ?_⟩
    walk_at "rd"
    refine ⟨v, p, rfl, hv, hok, hl, fun a xs H1 n1 u1 g1 d1 => ?_⟩
    have lx := d1.length
    rw [encs_map, List.length_map] at lx
    have lp := pre_kw p
    refine lc_L g1 (by omega) (fun D i acc H2 => H2 a = some (.lst xs) ∧ Up H H2 ∧ Das H2 xs (encs (pre p)) ∧ acc.length = (((pre p).take i).filter isNd).length) (fun D H2 n2 u2 g2 => ⟨u2 _ _ g1, u1.tr u2, d1.up u2, rfl⟩) (fun D i acc H2 r => r.1) ?_ ?_
    · rintro D i x acc H2 nD hx ⟨ha, u2, d2, e2⟩ hacc hi hD
      obtain ⟨d, hd, dx⟩ := d2.at hx
      rw [encs_map, List.getElem?_map] at hd
      cases hq : (pre p)[i]? with
      | none => rw [hq] at hd; cases hd
      | some q =>
        rw [hq] at hd
        obtain rfl := Option.some.inj hd
        have hqm : q ∈ pre p := List.mem_of_getElem? hq
        have htk : (pre p).take (i + 1) = (pre p).take i ++ [q] := by
          rw [List.take_add_one, hq]
          rfl
        walk_at "rd"
        refine ⟨x, q, rfl, dx, hok q hqm, fun H3 u3 => ?_⟩
        walk_at "rd"
        cases hn : isNd q with
        | true =>
          walk_at "rd"
          refine LcE.of (u3 _ _ hD) hacc hi fun H4 m4 g4 => ?_
          have nD' : H D = none := u1.fr nD
          refine ⟨m4 _ _ (ne_of_none g1 nD) (u3 _ _ ha), (u2.tr u3).of nD' m4, (d2.up u3).tk (m4.tk (u3 _ _ hD)), ?_⟩
          rw [htk, List.filter_append, List.length_append, List.length_append, ← e2]
          simp [hn]
        | false =>
          walk_at "rd"
          refine ⟨acc, ⟨u3 _ _ ha, u2.tr u3, d2.up u3, ?_⟩, by omega, u3 _ _ hD⟩
          rw [htk, List.filter_append, List.length_append, ← e2]
          simp [hn]
    · rintro D acc H2 nD ⟨ha, u2, d2, e2⟩ hD
      refine lenN_of hD ?_
      have e3 : acc.length = siz p := by
        rw [e2, lx, List.take_of_length_le (Nat.le_refl _)]
        rfl
      rw [e3]
      exact k _ u2
def sp_origin : Sp := fun vs H Q _ => ∃ (v : V) (p : Gd.P), vs = [v] ∧ Da H v (enc p) ∧ ∀ (H' : Hp), Up H H' → Q (.str (Gd.hd p)) H'
theorem ok_origin (T : TX K mg w) : FG P w K mg base CX0 1 T.f_origin T.d_origin ["term"] sp_origin := by
  refine Gd.ok T.F_origin sc_origin (fun vs H Q E h => ?_) (fun cdv A out s H vs Q E hg hr h => ?_)
  · obtain ⟨b, m, rfl, _⟩ := h
    rfl
  · obtain ⟨v, p, rfl, hv, k⟩ := h
    have nd := sc_origin.nd
    refine ⟨_, (pss_one (ps_ret (pe_ix ix_tup (pv 0) pe_int (fun _ _ => rfl)))), ?_⟩
    obtain ⟨a, w1, ws, rfl, ha, h1, t⟩ := enc_inv hv
    walk_at "rd"
    exact k _ Up.rf
/-- the parts that arguments hands back, as data -/
def argD (p : Gd.P) : List PyData := match p with
  | .sig i r => [enc i, enc r]
  | .use _ vs => encs vs
  | .uni ms => encs ms
  | _ => []
def isTm : Gd.P → Bool
  | .use _ _ => true
  | .sig _ _ => true
  | .uni _ => true
  | _ => false
def sp_arguments : Sp := fun vs H Q _ => ∃ (v : V) (p : Gd.P), vs = [v] ∧ Da H v (enc p) ∧ hok p ∧ isTm p = true ∧ ∀ (a : Addr) (xs : List V) (H' : Hp), Up H H' → H' a = some (.tup xs) → Das H' xs (argD p) → Q (.ref a) H'
theorem ok_arguments (T : TX K mg w) : FG P w K mg base CX0 1 T.f_arguments T.d_arguments ["term"] sp_arguments := by
  refine Gd.ok T.F_arguments sc_arguments (fun vs H Q E h => ?_) (fun cdv A out s H vs Q E hg hr h => ?_)
  · obtain ⟨b, m, rfl, _⟩ := h
    rfl
  · obtain ⟨v, p, rfl, hv, hok, ht, k⟩ := h
    have nd := sc_arguments.nd
    refine ⟨_, (pss_one (ps_ret (pe_ifExp (pt_cmpR op_eq (pe_ix ix_tup (pv 0) pe_int (fun _ _ => rfl)) pe_str (nomark _)) (pe_slice sl_tupA (pv 0) (po_some pe_int) po_none) (pe_ix ix_tup (pv 0) pe_int (fun _ _ => rfl))))), ?_⟩
    obtain ⟨a, w1, ws, rfl, ha, h1, t⟩ := enc_inv hv
    cases p with
    | use n vs =>
      obtain ⟨e1, e2, e3, e4, e5, e6, e7⟩ := good.apart hok
      dsimp only [Gd.hd] at ha
      obtain ⟨b, ys, rfl, hb, tb⟩ := h1.tup_inv
      walk_at "rc"
      exact k _ _ _ Up.rf hb tb
    | uni ms =>
      dsimp only [Gd.hd] at ha
      obtain ⟨b, ys, rfl, hb, tb⟩ := h1.tup_inv
      walk_at "rc"
      exact k _ _ _ Up.rf hb tb
    | sig i r =>
      dsimp only [Gd.hd] at ha
      obtain ⟨u, rfl, tu⟩ := t.one
      have tt : Das H [w1, u] [enc i, enc r] := .cons h1 (.cons tu .nil)
      walk_at "rc"
      refine' k _ _ _ ?k1 ?k2 ?k3
      (case k2 => walk_at "hp"); (case k1 => walk_at "up"); (case k3 => exact (tt.up (by assumption)))
    | _ => cases ht
/-- made with a text that is the arrow or not, and a tuple -/
def sp_made : Sp := fun vs H Q _ => ∃ (o : Str) (a : Addr) (xs : List V), vs = [.str o, .ref a] ∧ H a = some (.tup xs) ∧ xs.length ≤ 90000 ∧
  ∀ (b : Addr) (H' : Hp), Up H H' → H' b = some (.tup (if o = ("->" : Str) then .str o :: xs else [.str o, .ref a])) → Q (.ref b) H'
theorem ok_made (T : TX K mg w) : FG P w K mg base CX0 1 T.f_made T.d_made ["origin", "arguments"] sp_made := by
  refine Gd.ok T.F_made sc_made (fun vs H Q E h => ?_) (fun cdv A out s H vs Q E hg hr h => ?_)
  · obtain ⟨b, m, xs, rfl, _⟩ := h
    rfl
  · obtain ⟨o, a, xs, rfl, ha, hl, k⟩ := h
    have nd := sc_made.nd
    refine ⟨_, (pss_one (ps_ret (pe_ifExp (pt_cmpR op_eq (pv 0) pe_str (nomark _)) (pe_tup (pa_cons pe_str (StX.pa_star (pv 1) pa_nil))) (pe_tup (pa_cons (pv 0) (pa_cons (pv 1) pa_nil)))))), ?_⟩
    walk_at "rd"
    refine ifD (fun c => ?_) (fun c => ?_)
    · subst c
      walk_at "rd"
      refine ⟨a, xs, rfl, Or.inl (SqT.of ha), ?_⟩
      walk_at "rd"
      rename_i p1 H1 n1 u1 g1
      rw [List.append_nil] at g1
      exact k _ _ u1 (by rw [if_pos rfl]; exact g1)
    · walk_at "rd"
      rename_i p1 H1 n1 u1 g1
      exact k _ _ u1 (by rw [if_neg c]; exact g1)
theorem ok_ltake (T : TX K mg w) : FG P w K mg base CX0 1 T.f_ltake T.d_ltake ["bag", "many"] sp_ltake := by
  refine Gd.ok T.F_ltake sc_ltake (fun vs H Q E h => ?_) (fun cdv A out s H vs Q E hg hr h => ?_)
  · obtain ⟨b, m, rfl, _⟩ := h
    rfl
  · obtain ⟨b, m, rfl, ⟨x, y, z, hb, y0, y1⟩, m0, m1, k⟩ := h
    have nd := sc_ltake.nd
    refine ⟨_, (pss_cons (ps_if (pt_cmpR op_gt (pe_ix ix_list (pv 0) pe_int (fun _ _ => rfl)) pe_int (nomark _)) (pss_cons (ps_set (i := 2) nd rfl (by first | exact Or.inl rfl | exact Or.inr rfl) (pe_op op_mod (pe_ix ix_list (pv 0) pe_int (fun _ _ => rfl)) (pv 1)))
  (pss_cons (ps_asg (pe_op op_fdiv (pe_ix ix_list (pv 0) pe_int (fun _ _ => rfl)) (pv 1)) (pg_sub (pv 0) pe_int set_list))
  (pss_one (ps_ret (pv 2))))) pss_nil)
  (pss_cons (ps_asg (pe_op op_add (pe_ix ix_list (pv 0) pe_int (fun _ _ => rfl)) pe_int) (pg_sub (pv 0) pe_int set_list))
  (pss_cons (ps_asg (pe_op op_mod (pe_op op_add (pe_op op_add (pe_op op_mul (pe_ix ix_list (pv 0) pe_int (fun _ _ => rfl)) pe_int) (pe_op op_mul pe_int (pe_ix ix_list (pv 0) pe_int (fun _ _ => rfl)))) pe_int) pe_int) (pg_sub (pv 0) pe_int set_list))
  (pss_one (ps_ret (pe_op op_mod (pe_op op_fdiv (pe_op op_mod (pe_op op_pow (pe_op op_fdiv (pe_ix ix_list (pv 0) pe_int (fun _ _ => rfl)) pe_int) pe_int) pe_int) pe_int) (pv 1))))))), ?_⟩
    walk_at "rd"
    refine ifD (fun c => ?_) (fun c => ?_)
    · walk_at "rd"
      exact k _ _ (Int.emod_nonneg _ (by omega)) (Int.emod_lt_of_pos _ (by omega)) Mv.wr ⟨_, _, _, upd_same, y0, y1⟩
    · walk_at "rd"
      refine k _ _ (Int.emod_nonneg _ (by omega)) (Int.emod_lt_of_pos _ (by omega)) (Mv.wr.tr Mv.wr) ⟨_, _, _, upd_same, ?_, ?_⟩
      · exact Int.emod_nonneg _ (by decide)
      · have := Int.emod_lt_of_pos (y * 69621 + 7411 * (z + 1) + 29) (show (0 : Int) < 2147483647 by decide)
        omega
end

section
variable {P : Program} {w : World} {K : PySem.W.Frag} {mg : Str → Option Value} {base : Heap}
def sp_lbag (K : PySem.W.Frag) : Sp := fun vs H Q _ => ∃ (a : Addr) (i : Int) (ns : List Int), vs = [.ref a, .int i] ∧ SqL K H a (ns.map V.int) ∧ 0 ≤ i ∧ i ≤ 10 ∧
  ∀ (b : Addr) (H' : Hp), H b = none → Up H H' → Bag H' b → Q (.ref b) H'
theorem ok_lbag (T : TX K mg w) : FG P w K mg base CX0 1 T.f_lbag T.d_lbag ["script", "at"] (sp_lbag K) := by
  refine Gd.ok T.F_lbag sc_lbag (fun vs H Q E h => ?_) (fun cdv A out s H vs Q E hg hr h => ?_)
  · obtain ⟨b, m, ns, rfl, _⟩ := h
    rfl
  · obtain ⟨a, i, ns, rfl, ha, i0, i1, k⟩ := h
    have nd := sc_lbag.nd
    refine ⟨_, (pss_cons (ps_set (i := 2) nd rfl (by first | exact Or.inl rfl | exact Or.inr rfl) (pe_ifExp (pt_cmpR op_lt (pv 1) (pe_callB call_len_seq rfl T.z_len PySem.boot_len (pa_cons (pv 0) pa_nil)) (nomark _)) (pe_ix ix_list (pv 0) (pv 1) (fun _ _ => rfl)) pe_int))
  (pss_cons (ps_set (i := 3) nd rfl (by first | exact Or.inl rfl | exact Or.inr rfl) (pe_callB call_abs rfl T.z_abs (by decide +kernel) (pa_cons (pv 2) pa_nil)))
  (pss_cons (ps_set (i := 4) nd rfl (by first | exact Or.inl rfl | exact Or.inr rfl) (pe_op op_mod (pe_op op_add (pe_op op_add (pe_op op_mul (pe_op op_mod (pv 2) pe_int) pe_int) (pe_op op_mul pe_int (pv 1))) pe_int) pe_int))
  (pss_one (ps_ret (pe_lst (pa_cons (pe_op op_mul (pv 3) (pe_callTy call_int1 rfl T.z_int (by decide +kernel) (pa_cons (pe_cmpR op_ge (pv 3) (pe_op op_pow pe_int pe_int) (nomark _)) pa_nil))) (pa_cons (pv 4) (pa_cons pe_int pa_nil))))))))), ?_⟩
    walk_at "rd"
    refine ⟨a, _, rfl, Or.inl ha, ?_⟩
    walk_at "rd"
    refine ifD (fun c => ?_) (fun c => ?_)
    · obtain ⟨v, e, hv⟩ := atI_ex (xs := ns.map V.int) i0 (by rw [List.length_map] at c ⊢; exact c)
      obtain ⟨n, _, rfl⟩ := List.mem_map.mp hv
      walk_at "rd"
      refine ⟨a, _, i, _, rfl, rfl, ha, e, ?_⟩
      walk_at "rd"
      rename_i b H1 n1 u1 g1
      refine k b H1 n1 u1 ⟨_, _, _, g1, Int.emod_nonneg _ (by decide), ?_⟩
      have := Int.emod_lt_of_pos (n % 2147483647 * 48271 + 9173 * i + 2051) (show (0 : Int) < 2147483647 by decide)
      omega
    · walk_at "rd"
      rename_i b H1 n1 u1 g1
      refine k b H1 n1 u1 ⟨_, _, _, g1, Int.emod_nonneg _ (by decide), ?_⟩
      have := Int.emod_lt_of_pos ((0 : Int) % 2147483647 * 48271 + 9173 * i + 2051) (show (0 : Int) < 2147483647 by decide)
      omega
def abc : Str := ("abcdefghijklmnopqrstuvwxyz" : Str)
theorem abc_eq : abc.cps.toList = (List.range 26).map (· + 97) := by decide +kernel
theorem abc_at {i : Int} (h0 : 0 ≤ i) (h1 : i < 26) : atI abc.cps.toList i = some (i.toNat + 97) := by
  obtain ⟨n, rfl⟩ := Int.eq_ofNat_of_zero_le h0
  refine atI_nat ?_
  rw [abc_eq, List.getElem?_map, List.getElem?_range (by omega)]
  rfl
/-- the n-th name -/
def nmAt (st : List Nat) (f pc : Int) (n : Nat) : Str := ⟨(st ++ [((f + pc * n) % 26).toNat + 97]).toArray⟩
def sp_lnames : Sp := fun vs H Q _ => ∃ (b : Addr) (m : Int), vs = [.ref b, .int m] ∧ Bag H b ∧ 0 ≤ m ∧ m ≤ 26 ∧
  ∀ (p : Addr) (st : List Nat) (f pc : Int) (H' : Hp), H p = none → Mv b H H' → Bag H' b → st.length ≤ 5 → (∀ c ∈ st, 97 ≤ c ∧ c ≤ 122) → 0 ≤ f → f < 26 → pc ∈ [1, 3, 5, 25] →
    H' p = some (.lst ((List.range m.toNat).map fun n => V.str (nmAt st f pc n))) → Q (.ref p) H'
theorem ok_lnames (T : TX K mg w) : FG P w K mg base CX0 2 T.f_lnames T.d_lnames ["bag", "many"] sp_lnames := by
  have G_ltake := ok_ltake (P := P) (w := w) (base := base) T
  refine Gd.ok T.F_lnames sc_lnames (fun vs H Q E h => ?_) (fun cdv A out s H vs Q E hg hr h => ?_)
  · obtain ⟨b, m, rfl, _⟩ := h
    rfl
  · obtain ⟨b, m, rfl, hb, m0, m1, k⟩ := h
    have nd := sc_lnames.nd
    have hr_ltake := hr
    refine ⟨_, (pss_cons (ps_set (i := 2) nd rfl (by first | exact Or.inl rfl | exact Or.inr rfl) pe_str)
  (pss_cons (ps_set (i := 3) nd rfl (by first | exact Or.inl rfl | exact Or.inr rfl) (pe_bm PySem.F.plainAttrs_str PySem.F.slot_str_join PySem.F.type_str_join mt_join pe_str (pa_cons (pe_lc (own := [("turn", 6)]) rfl nd (pi_range1 rfl T.z_range (pa_cons (pe_ix ix_list (pe_lst (pa_cons pe_int (pa_cons pe_int (pa_cons pe_int (pa_cons pe_int (pa_cons pe_int pa_nil)))))) (pe_g T.c_ltake G_ltake hg hr_ltake rfl pass0 (pa_cons (pv 0) (pa_cons pe_int pa_nil))) (fun _ _ => rfl)) pa_nil)) (blkOk_by (N := ["bag", "many", "letters", "stem", "first", "pace", "turn"]) (sc := defScope s_lnames) (by decide +kernel)) (fun _ _ _ _ _ => pg_name (i := 6) nd rfl (by first | exact Or.inl rfl | exact Or.inr rfl)) (fun _ _ _ _ _ => pts_nil) (fun _ _ _ _ _ => (pe_ix ix_str (pv 2) (pe_g T.c_ltake G_ltake hg hr_ltake rfl pass0 (pa_cons (pv 0) (pa_cons pe_int pa_nil))) (fun _ _ => rfl)))) pa_nil)))
  (pss_cons (ps_asg (pe_tup (pa_cons (pe_g T.c_ltake G_ltake hg hr_ltake rfl pass0 (pa_cons (pv 0) (pa_cons pe_int pa_nil))) (pa_cons (pe_ix ix_list (pe_lst (pa_cons pe_int (pa_cons pe_int (pa_cons pe_int (pa_cons pe_int pa_nil))))) (pe_g T.c_ltake G_ltake hg hr_ltake rfl pass0 (pa_cons (pv 0) (pa_cons pe_int pa_nil))) (fun _ _ => rfl)) pa_nil))) (pg_tup rfl (pgs_cons (pg_name (i := 4) nd rfl (by first | exact Or.inl rfl | exact Or.inr rfl)) (pgs_cons (pg_name (i := 5) nd rfl (by first | exact Or.inl rfl | exact Or.inr rfl)) pgs_nil))))
  (pss_one (ps_ret (pe_lc (own := [("turn", 6)]) rfl nd (pi_range1 rfl T.z_range (pa_cons (pv 1) pa_nil)) (blkOk_by (N := ["bag", "many", "letters", "stem", "first", "pace", "turn"]) (sc := defScope s_lnames) (by decide +kernel)) (fun _ _ _ _ _ => pg_name (i := 6) nd rfl (by first | exact Or.inl rfl | exact Or.inr rfl)) (fun _ _ _ _ _ => pts_nil) (fun _ _ _ _ _ => (pe_op op_add_str (pv 3) (pe_ix ix_str (pv 2) (pe_op op_mod (pe_op op_add (pv 4) (pe_op op_mul (pv 5) (pv 6))) pe_int) (fun _ _ => rfl)))))))))), ?_⟩
    walk_at "rd"
    rename_i p1 H1 n1 u1 g1
    refine ⟨b, 5, rfl, hb.up u1, by decide, by decide, fun r H2 r0 r1 m2 b2 => ?_⟩
    obtain ⟨v, e, hv⟩ := atI_ex (xs := [V.int 0, V.int 0, V.int 1, V.int 2, V.int 5]) r0 (by simpa using r1)
    have g2 := m2 _ _ (hb.ne n1) g1
    obtain ⟨j, rfl, j0, j5⟩ : ∃ j, v = V.int j ∧ 0 ≤ j ∧ j ≤ 5 := by
      simp only [List.mem_cons, List.not_mem_nil, or_false] at hv
      rcases hv with rfl | rfl | rfl | rfl | rfl <;> exact ⟨_, rfl, by decide, by decide⟩
    refine r_ixL g2 e ?_
    walk_at "rd"
    have m02 : Mv b H H2 := u1.mv.tr m2
    refine lc_R j0 (by omega) (fun D i acc H3 => ∃ cs : List Nat, acc = cs.map (fun c => V.str ⟨#[c]⟩) ∧ cs.length = i ∧ (∀ c ∈ cs, 97 ≤ c ∧ c ≤ 122) ∧ Mv b H H3 ∧ Bag H3 b) (fun D H3 n3 u3 g3 => ⟨[], rfl, rfl, nofun, m02.tr u3.mv, b2.up u3⟩) ?_ ?_
    · rintro D i acc H3 nD hi ⟨cs, rfl, lc, hc, m3, b3⟩ hacc hi2 hD
      walk_at "rd"
      refine ⟨b, 26, rfl, b3, by decide, by decide, fun r H4 r0 r1 m4 b4 => ?_⟩
      refine r_ixS (by decide +kernel) (abc_at r0 r1) ?_
      have nDb : D ≠ b := b2.ne nD
      refine LcE.of (m4 _ _ nDb hD) hacc hi2 fun H5 m5 g5 => ?_
      refine ⟨cs ++ [r.toNat + 97], by simp, by simp [lc], fun c h => ?_, (m3.tr m4).of (b2.fr m02 nD) m5, b4.mv nDb.symm m5⟩
      rcases List.mem_append.mp h with h | h
      · exact hc c h
      · rw [List.mem_singleton.mp h]
        omega
    · rintro D acc H3 nD ⟨cs, rfl, lc, hc, m3, b3⟩ hD
      walk_at "rd"
      have jl := chars_len cs
      have l0 : ("" : Str).length = 0 := by decide +kernel
      refine ⟨_, _, cs.map fun c => ⟨#[c]⟩, rfl, rfl, Or.inl (SqL.of (by rw [List.map_map]; exact hD)), by rw [jl, l0]; omega, ?_⟩
      rw [chars_join]
      have nDb : D ≠ b := b2.ne nD
      walk_at "rd"
      refine ⟨b, 26, rfl, b3, by decide, by decide, fun f H4 f0 f1 m4 b4 => ?_⟩
      walk_at "rd"
      rename_i p5 H5 n5 u5 g5
      refine ⟨b, 4, rfl, b4.up u5, by decide, by decide, fun r H6 r0 r1 m6 b6 => ?_⟩
      obtain ⟨v, e, hv⟩ := atI_ex (xs := [V.int 1, V.int 3, V.int 5, V.int 25]) r0 (by simpa using r1)
      have g6 := m6 _ _ (b4.ne n5) g5
      obtain ⟨pc, rfl, hpc, p0, p1⟩ : ∃ j : Int, v = V.int j ∧ j ∈ [1, 3, 5, 25] ∧ 0 ≤ j ∧ j ≤ 25 := by
        simp only [List.mem_cons, List.not_mem_nil, or_false] at hv
        rcases hv with rfl | rfl | rfl | rfl <;> exact ⟨_, rfl, by decide, by decide, by decide⟩
      refine r_ixL g6 e ?_
      walk_at "rd"
      rename_i p7 H7 n7 u7 g7
      have m7 : Mv b H H7 := m3.tr (m4.tr (u5.mv.tr (m6.tr u7.mv)))
      have b7 : Bag H7 b := b6.up u7
      refine lc_R m0 (by omega) (fun D i acc H8 => acc = (List.range i).map (fun n => V.str (nmAt cs f pc n)) ∧ Mv b H H8 ∧ Bag H8 b) (fun D H8 n8 u8 g8 => ⟨rfl, m7.tr u8.mv, b7.up u8⟩) ?_ ?_
      · rintro D i acc H8 nD hi ⟨rfl, m8, b8⟩ hacc hi2 hD
        walk_at "rd"
        refine r_ixS (by decide +kernel) (abc_at (Int.emod_nonneg _ (by decide)) (Int.emod_lt_of_pos _ (by decide))) ?_
        refine ⟨_, _, rfl, rfl, Nat.le_trans (show cs.length + 1 ≤ 100 by omega) (by decide), ?_⟩
        have nDb : D ≠ b := b7.ne nD
        refine LcE.of hD hacc hi2 fun H9 m9 g9 => ?_
        refine ⟨?_, m8.of (b7.fr m7 nD) m9, b8.mv nDb.symm m9⟩
        rw [List.range_succ, List.map_append]
        congr 2
        show V.str ⟨cs.toArray ++ #[((f + pc * (0 + (i : Int))) % 26).toNat + 97]⟩ = V.str (nmAt cs f pc i)
        rw [Int.zero_add]
        unfold nmAt
        congr 2
        simp
      · rintro D acc H8 nD ⟨rfl, m8, b8⟩ hD
        exact k D cs f pc H8 (b7.fr m7 nD) m8 b8 (by omega) hc f0 f1 hpc hD
theorem nmAt_good {st : List Nat} {f pc : Int} {n : Nat} (l : st.length ≤ 5) (h : ∀ c ∈ st, 97 ≤ c ∧ c ≤ 122) : good (nmAt st f pc n) := by
  have e : (nmAt st f pc n).cps.toList = st ++ [((f + pc * n) % 26).toNat + 97] := by simp [nmAt]
  have h0 := Int.emod_nonneg (f + pc * n) (show (26 : Int) ≠ 0 by decide)
  have h1 := Int.emod_lt_of_pos (f + pc * n) (show (0 : Int) < 26 by decide)
  refine ⟨by rw [e]; simp, ?_, fun c hc => ?_⟩
  · show (nmAt st f pc n).cps.size ≤ 6
    rw [← Array.length_toList, e, List.length_append, List.length_singleton]
    omega
  · rw [e] at hc
    rcases List.mem_append.mp hc with hc | hc
    · exact h c hc
    · rw [List.mem_singleton.mp hc]
      omega
theorem nmAt_inj {st : List Nat} {f pc : Int} {n m : Nat} (hp : pc ∈ [1, 3, 5, 25]) (hn : n < 26) (hm : m < 26) (h : nmAt st f pc n = nmAt st f pc m) : n = m := by
  have e : st ++ [((f + pc * n) % 26).toNat + 97] = st ++ [((f + pc * m) % 26).toNat + 97] := by
    have := congrArg (fun s : Str => s.cps.toList) h
    simpa [nmAt] using this
  have e2 := List.append_cancel_left e
  have e3 : ((f + pc * n) % 26).toNat + 97 = ((f + pc * m) % 26).toNat + 97 := by simpa using e2
  simp only [List.mem_cons, List.not_mem_nil, or_false] at hp
  rcases hp with rfl | rfl | rfl | rfl <;> omega
/-! the key -/
def sp_lkey (n : Nat) : Sp := fun vs H Q _ => ∃ (v : V) (d : PyData), vs = [v] ∧ Da H v d ∧ d.canLay0 = true ∧ d.depth < n ∧ n ≤ 60 ∧ kq d = true ∧ kw d ≤ 100000 ∧ ∀ (H' : Hp), Up H H' → Q (.str (lk d)) H'
theorem ok_lkey (T : TX K mg w) : ∀ n, FG P w K mg base CX0 n T.f_lkey T.d_lkey ["thing"] (sp_lkey n) := by
  intro n
  induction n with
  | zero =>
    refine ⟨fun vs H Q E h => ?_, fun A out s H as us vs Q E _ _ _ _ _ h => ?_⟩
    · obtain ⟨v, d, _, _, _, h, _⟩ := h
      exact absurd h (Nat.not_lt_zero _)
    · obtain ⟨v, d, _, _, _, h, _⟩ := h
      exact absurd h (Nat.not_lt_zero _)
  | succ n G_lkey =>
  refine Gd.ok T.F_lkey sc_lkey (fun vs H Q E h => ?_) (fun cdv A out s H vs Q E hg hr h => ?_)
  · obtain ⟨b, m, rfl, _⟩ := h
    rfl
  · obtain ⟨v, d, rfl, hv, hc, hd, hn, hq, hw, k⟩ := h
    have nd := sc_lkey.nd
    have hu := hr.units
    have hr_lkey := hr
    have h200 : (A.deeper (envOfC "_law_key" (defScope s_lkey) s.heap.objs.size T.f_lkey cdv)).units + 200 < cLine := by have := hr.un; omega
    refine ⟨_, (pss_cons (ps_if (PW.pt (pw_or (pt_val (pe_callB call_isi rfl T.z_isinstance (by decide +kernel) (pa_cons (pv 0) (pa_cons (pe_bltn (v := .ty "str") rfl T.z_str (by decide +kernel) rfl) pa_nil)))) (pw_or (pt_cmpR op_isN (pv 0) pe_non (nomark _)) (pw_or1 (pt_cmpR (op_eqD hu) (pv 0) (pe_tup pa_nil) (nomark _)))))) (pss_one (ps_ret (pe_callB (call_repr hg h200) rfl T.z_repr (by decide +kernel) (pa_cons (pv 0) pa_nil)))) pss_nil)
  (pss_cons (ps_if (pt_cmpR (op_eqD hu) (pe_ix ix_tup (pv 0) pe_int (fun _ _ => rfl)) pe_str (nomark _)) (pss_one (ps_ret (pe_op op_add_str (pe_op op_add_str pe_str (pe_bm PySem.F.plainAttrs_str PySem.F.slot_str_join PySem.F.type_str_join mt_join pe_str (pa_cons (pe_callB cr_sortedS rfl T.z_sorted (by decide +kernel) (pa_cons (pe_lc (own := [("one", 1)]) rfl nd (pi_tup (pe_ix ix_tup (pv 0) pe_int (fun _ _ => rfl))) (blkOk_by (N := ["thing", "one"]) (sc := defScope s_lkey) (by decide +kernel)) (fun _ _ _ _ _ => pg_name (i := 1) nd rfl (by first | exact Or.inl rfl | exact Or.inr rfl)) (fun _ _ _ _ _ => pts_nil) (fun _ _ _ _ _ => (pe_g T.c_lkey G_lkey hg hr_lkey rfl pass0 (pa_cons (pv 1) pa_nil)))) pa_nil)) pa_nil))) pe_str))) pss_nil)
  (pss_one (ps_ret (pe_op op_add_str (pe_op op_add_str pe_str (pe_bm PySem.F.plainAttrs_str PySem.F.slot_str_join PySem.F.type_str_join mt_join pe_str (pa_cons (pe_lc (own := [("one", 1)]) rfl nd (pi_tup (pv 0)) (blkOk_by (N := ["thing", "one"]) (sc := defScope s_lkey) (by decide +kernel)) (fun _ _ _ _ _ => pg_name (i := 1) nd rfl (by first | exact Or.inl rfl | exact Or.inr rfl)) (fun _ _ _ _ _ => pts_nil) (fun _ _ _ _ _ => (pe_g T.c_lkey G_lkey hg hr_lkey rfl pass0 (pa_cons (pv 1) pa_nil)))) pa_nil))) pe_str))))), ?_⟩
    walk_at "rd"
    cases d with
    | str x =>
      obtain rfl := hv.str_inv
      refine r_isS ?_
      walk_at "rd"
      have hl := repr_le (x := x) (by simpa [PyData.canLay0] using hc)
      refine ⟨_, .str x, rfl, .str x, rfl, by simp [PyData.depth], ?_, ?_⟩
      · simp only [kw] at hw
        simp only [PyData.shown, sizeLine_eq]
        omega
      · have := k H Up.rf
        simp only [lk] at this
        simp only [PyData.shown]
        exact this
    | none =>
      obtain rfl := hv.non_inv
      refine r_isN ?_
      walk_at "rc"
      refine ⟨_, .none, rfl, .non, rfl, by simp [PyData.depth], by simp only [PyData.shown]; decide +kernel, ?_⟩
      have := k H Up.rf
      simp only [lk] at this
      simp only [PyData.shown]
      exact this
    | tuple ds =>
      obtain ⟨a, xs, rfl, ha, t⟩ := hv.tup_inv
      refine r_isT ha ?_
      walk_at "rc"
      rename_i p1 H1 n1 u1 g1
      rw [depth_tup] at hd
      refine r_eqD (hv.up u1) (.tup g1 .nil) hc (by rw [depth_tup]; omega) rfl (by decide) ?_
      rw [eqv_unit]
      cases ds with
      | nil =>
        walk_at "rc"
        refine ⟨_, .tuple [], rfl, (hv.up u1).dp, rfl, by decide, by rw [shown_unit]; decide +kernel, ?_⟩
        have := k H1 u1
        simp only [lk, lkT] at this
        rw [shown_unit]
        exact this
      | cons d0 dr =>
        cases t with
        | cons t0 tr =>
        rename_i w0 wr
        walk_at "rc"
        have hc' := hc
        rw [canLay_tup] at hc'
        have hq' := hq
        rw [kq_tup, Bool.and_eq_true] at hq'
        rw [kw_tup] at hw
        have c0 := lay_mem hc' (m := d0) List.mem_cons_self
        have z0 := depth_mem (m := d0) (l := d0 :: dr) List.mem_cons_self
        refine r_eqD (t0.up u1) (.str ("|" : Str)) c0 (by omega) (by decide +kernel) (by simp [PyData.depth]) ?_
        rw [eqv_bar]
        have hlk := lk_le _ hc
        rw [kw_tup] at hlk
        cases hb : isBar d0 with
        | true =>
          have hbm : barM dr = true := by
            have := hq'.1
            simpa [kqT, hb] using this
          cases dr with
          | nil => simp [barM] at hbm
          | cons d1 dr2 =>
          cases d1 with
          | tuple ms =>
            have hms : ms.length < 64 := by simpa [barM] using hbm
            cases tr with
            | cons t1 tr2 =>
            obtain ⟨b, ys, rfl, hbt, ty⟩ := t1.tup_inv
            have ly := ty.length
            have cm : PyData.canLayAll0 ms = true := by
              have := lay_mem hc' (m := .tuple ms) (by simp)
              rwa [canLay_tup] at this
            have zm := depth_mem (m := .tuple ms) (l := d0 :: .tuple ms :: dr2) (by simp)
            rw [depth_tup] at zm
            have qm : kqs ms = true := by
              have := kq_mem hq'.2 (m := .tuple ms) (by simp)
              rw [kq_tup, Bool.and_eq_true] at this
              exact this.2
            have wm0 := kw_mem (m := .tuple ms) (l := d0 :: .tuple ms :: dr2) (by simp)
            rw [kw_tup] at wm0
            walk_at "rc"
            refine lc_T (u1 _ _ hbt) (by omega) (fun D i acc H3 => acc = ((ms.take i).map fun m => V.str (lk m)) ∧ Up H H3) (fun D H3 n3 u3 g3 => ⟨rfl, u1.tr u3⟩) (fun D i acc H3 r => r.2 _ _ hbt) ?_ ?_
            · rintro D i y acc H3 nD hy ⟨rfl, u3⟩ hacc hi hD
              obtain ⟨m, hm, dm⟩ := ty.at hy
              have mm : m ∈ ms := List.mem_of_getElem? hm
              walk_at "rd"
              have dp := depth_mem mm
              have wm := kw_mem mm
              refine ⟨y, m, rfl, dm.up u3, lay_mem cm mm, by omega, by omega, kq_mem qm mm, by omega, fun H4 u4 => ?_⟩
              refine LcE.of (u4 _ _ hD) hacc hi fun H5 m5 g5 => ⟨?_, Up.of (u3.tr u4) (u1.fr nD) m5⟩
              rw [List.take_add_one, hm, List.map_append]
              rfl
            · rintro D acc H3 nD ⟨rfl, u3⟩ hD
              rw [ly, List.take_of_length_le (Nat.le_refl _)] at hD
              walk_at "rd"
              refine r_sort (xs := ms.map lk) (by rw [List.map_map]; exact hD) (by rw [List.length_map]; exact hms) fun p4 H4 n4 u4 g4 => ?_
              have l1 := lks_le ms cm
              rw [lks_map] at l1
              have p1 := perm_sum (ssort_perm (ms.map lk))
              have p2 := (ssort_perm (ms.map lk)).length_eq
              rw [List.length_map] at p2
              have a5 : (" " : Str).length = 1 := by decide +kernel
              have jl := join_len (" " : Str) (ssort (ms.map lk))
              have a1 : ("{" : Str).length = 1 := by decide +kernel
              have a2 : ("}" : Str).length = 1 := by decide +kernel
              rw [p1, p2, a5] at jl
              walk_at "rd"
              refine ⟨_, _, _, rfl, rfl, Or.inl (SqL.of g4), by rw [p1, p2, a5]; omega, ?_⟩
              refine ⟨_, _, rfl, rfl, by rw [sizeLine_eq, a1]; omega, ?_⟩
              walk_at "rd"
              refine ⟨_, _, rfl, rfl, by rw [sizeLine_eq, app_len, a1, a2]; omega, ?_⟩
              have := k H4 (u3.tr u4)
              simp only [lk, lkT, hb, if_true, lkM, lks_map] at this
              exact this
          | _ => simp [barM] at hbm
        | false =>
          walk_at "rc"
          have ly := (Das.cons t0 tr).length
          have l1 := lks_le _ hc'
          rw [lks_map] at l1
          refine lc_T (xs := w0 :: wr) (u1 _ _ ha) (by omega) (fun D i acc H3 => acc = (((d0 :: dr).take i).map fun m => V.str (lk m)) ∧ Up H H3) (fun D H3 n3 u3 g3 => ⟨rfl, u1.tr u3⟩) (fun D i acc H3 r => r.2 _ _ ha) ?_ ?_
          · rintro D i y acc H3 nD hy ⟨rfl, u3⟩ hacc hi hD
            obtain ⟨m, hm, dm⟩ := (Das.cons t0 tr).at hy
            have mm : m ∈ d0 :: dr := List.mem_of_getElem? hm
            walk_at "rd"
            have dp := depth_mem mm
            have wm := kw_mem mm
            refine ⟨y, m, rfl, dm.up u3, lay_mem hc' mm, by omega, by omega, kq_mem hq'.2 mm, by omega, fun H4 u4 => ?_⟩
            refine LcE.of (u4 _ _ hD) hacc hi fun H5 m5 g5 => ⟨?_, Up.of (u3.tr u4) (u1.fr nD) m5⟩
            rw [List.take_add_one, hm, List.map_append]
            rfl
          · rintro D acc H3 nD ⟨rfl, u3⟩ hD
            rw [ly, List.take_of_length_le (Nat.le_refl _)] at hD
            have a5 : (" " : Str).length = 1 := by decide +kernel
            have a1 : ("(" : Str).length = 1 := by decide +kernel
            have a2 : (")" : Str).length = 1 := by decide +kernel
            have jl := join_len (" " : Str) ((d0 :: dr).map lk)
            rw [a5, List.length_map] at jl
            walk_at "rd"
            refine ⟨_, _, (d0 :: dr).map lk, rfl, rfl, Or.inl (SqL.of (by rw [List.map_map]; exact hD)), by rw [a5, List.length_map]; omega, ?_⟩
            refine ⟨_, _, rfl, rfl, by rw [sizeLine_eq, a1]; omega, ?_⟩
            walk_at "rd"
            refine ⟨_, _, rfl, rfl, by rw [sizeLine_eq, app_len, a1, a2]; omega, ?_⟩
            have := k H3 u3
            simp only [lk, lkT, hb, lks_map] at this
            exact this
    | _ => cases hv
end

section
variable {P : Program} {w : World} {K : PySem.W.Frag} {mg : Str → Option Value} {base : Heap}
def sp_ljoined : Sp := fun vs H Q _ => ∃ (a : Addr) (xs : List V) (ps : List Gd.P), vs = [.ref a] ∧ H a = some (.lst xs) ∧ Das H xs (encs ps) ∧ (∀ p ∈ ps, Ok 40 90000 p ∧ hok p ∧ memb p ≠ []) ∧ ps ≠ [] ∧ (ps.flatMap memb).length ≤ 1000 ∧
  ∀ (v : V) (H' : Hp), Up H H' → Da H' v (enc (ljoin ps)) → Q v H'
theorem foundP_ne {ps : List Gd.P} (h : ∀ p ∈ ps, memb p ≠ []) (hn : ps ≠ []) : 1 ≤ (foundP ps).length := by
  cases ps with
  | nil => exact absurd rfl hn
  | cons p r =>
    unfold foundP
    have hp := h p List.mem_cons_self
    rw [List.flatMap_cons, List.foldl_append]
    cases hm : memb p with
    | nil => exact absurd hm hp
    | cons m ms =>
      have e : addP [] m = [m] := by simp [addP]
      rw [List.foldl_cons, e]
      have h1 := fold_ge ms [m]
      have h2 := fold_ge (r.flatMap memb) (ms.foldl addP [m])
      simp only [List.length_singleton] at h1
      omega
/-- the inner loop -/
theorem inner {K : PySem.W.Frag} {H H3 H4 : Hp} {D : Ends} {a f q c : Addr} {n : Nat} {E : XK} {x4 : Option V} {x1 : V} {ys fs : List V} {acc ms : List Gd.P} (hn : n = 41)
    (gc : H4 c = some (.tup ys)) (dc : Das H4 ys (encs ms)) (u : Up H H3) (u4 : Up H3 H4) (nf : H f = none) (nq : H q = none) (hfq : f ≠ q) (hf : H3 f = some (.lst fs)) (df : Das H3 fs (encs acc)) (hq : H3 q = some (.lst ((acc.map lkP).map V.str)))
    (hok : ∀ m ∈ ms, Ok 40 90000 m) (hl : acc.length + ms.length ≤ 2000)
    (hd : ∀ (x4 : Option V) (fs : List V) (H5 : Hp), Up H H5 → H5 f = some (.lst fs) → Das H5 fs (encs (ms.foldl addP acc)) → H5 q = some (.lst (((ms.foldl addP acc).map lkP).map V.str)) → D.nx [some (.ref a), some x1, some (.ref f), some (.ref q), x4] H5) :
    ∃ a', V.ref c = V.ref a' ∧ (∃ xs, SqT K H4 a' xs) ∧ ∃ W : Nat → Nat → L2.St → Hp → Prop, (∃ m, W 0 m [some (.ref a), some x1, some (.ref f), some (.ref q), x4] H4) ∧ ∀ i m σ H, W i m σ H →
      ((Itt K a').stop i H ∧ D.nx σ H) ∨ ((Itt K a').go i H ∧ ∃ N : L2.St → Hp → Prop, (∀ σ' H', N σ' H' → ∃ m', m' < m ∧ W (i + 1) m' σ' H') ∧ ∀ x H', (Itt K a').yld i H x H' → gName 4 x σ H' fun σ2 H2 =>
        tIfS (tTest (tOp (rIn K true) (fun σ H Q => tCons (tVar 4) tNil σ H fun vs H1 => sp_lkey n vs H1 Q E) (tVar 3)))
          (tSeq (tDrop (tBM K "list" rAppend (tVar 3) (tCons (fun σ H Q => tCons (tVar 4) tNil σ H fun vs H1 => sp_lkey n vs H1 Q E) tNil)))
            (tDrop (tBM K "list" rAppend (tVar 2) (tCons (tVar 4) tNil)))) tNext { D with nx := N, ct := N, bk := D.nx } σ2 H2) := by
  subst hn
  refine ⟨c, rfl, ⟨ys, SqT.of gc⟩, for_tup (K := K) (a := c) (xs := ys) (fun j σ H5 => ∃ (fs : List V) (x4 : Option V), σ = [some (.ref a), some x1, some (.ref f), some (.ref q), x4] ∧ Up H H5 ∧ H5 c = some (.tup ys) ∧ Das H5 ys (encs ms) ∧ H5 f = some (.lst fs) ∧
      Das H5 fs (encs ((ms.take j).foldl addP acc)) ∧ H5 q = some (.lst ((((ms.take j).foldl addP acc).map lkP).map V.str)))
    ⟨fs, x4, rfl, u.tr u4, gc, dc, u4 _ _ hf, df.up u4, u4 _ _ hq⟩ (fun i σ H5 _ ⟨_, _, _, _, h, _⟩ => SqT.of h) ?_ ?_⟩
  · rintro j y σ H5 hy ⟨fs, x4, rfl, u5, hc, dc, hf, df, hq⟩
    obtain ⟨d, he, dy⟩ := dc.at hy
    rw [encs_map, List.getElem?_map] at he
    cases hm : ms[j]? with
    | none => rw [hm] at he; cases he
    | some m =>
    rw [hm] at he
    obtain rfl := Option.some.inj he
    have mm : m ∈ ms := List.mem_of_getElem? hm
    have om := hok m mm
    have htk : ms.take (j + 1) = ms.take j ++ [m] := by rw [List.take_add_one, hm]; rfl
    have hst : (ms.take (j + 1)).foldl addP acc = addP ((ms.take j).foldl addP acc) m := by rw [htk, List.foldl_append]; rfl
    have fl := fold_len (ms.take j) acc
    rw [List.length_take] at fl
    have lf := df.length
    rw [encs_map, List.length_map] at lf
    walk_at "rd"
    refine ⟨y, enc m, rfl, dy, om.lay, Nat.lt_of_le_of_lt om.dep (by decide), by decide, om.bar, Nat.le_trans om.wgt (by decide), fun H6 u6 => ?_⟩
    walk_at "rd"
    refine r_niL (u6 _ _ hq) ?_
    walk_at "rd"
    refine ifN (fun hc1 => ?_) (fun hc1 => ?_)
    · have hq6 := u6 _ _ hq
      walk_at "rd"
      refine r_tyL hq6 ?_
      walk_at "rd"
      refine ⟨y, enc m, rfl, dy.up u6, om.lay, Nat.lt_of_le_of_lt om.dep (by decide), by decide, om.bar, Nat.le_trans om.wgt (by decide), fun H7 u7 => ?_⟩
      walk_at "rd"
      refine r_app (u7 _ _ hq6) (by rw [List.length_map, List.length_map]; omega) fun H8 m8 g8 => ?_
      have k8 := m8.tk (u7 _ _ hq6)
      have hf8 := m8 _ _ hfq (u7 _ _ (u6 _ _ hf))
      have k58 : Tk H5 H8 := (u6.tr u7).tk.tr k8
      walk_at "rd"
      refine r_tyL hf8 ?_
      walk_at "rd"
      refine r_app hf8 (by omega) fun H9 m9 g9 => ?_
      have k59 : Tk H5 H9 := k58.tr (m9.tk hf8)
      have e : addP ((ms.take j).foldl addP acc) m = (ms.take j).foldl addP acc ++ [m] := if_neg hc1
      refine ⟨_, _, rfl, ((u5.tr (u6.tr u7)).of nq m8).of nf m9, k59 _ _ hc, dc.tk k59, g9, ?_, ?_⟩
      · rw [hst, e, encs_app]
        exact (df.tk k59).app (.cons (dy.tk k59) .nil)
      · rw [hst, e, List.map_append, List.map_append]
        exact m9 _ _ hfq.symm g8
    · walk_at "rd"
      have e : addP ((ms.take j).foldl addP acc) m = (ms.take j).foldl addP acc := if_pos hc1
      refine ⟨fs, _, rfl, u5.tr u6, u6 _ _ hc, dc.up u6, u6 _ _ hf, ?_, ?_⟩
      · rw [hst, e]
        exact df.up u6
      · rw [hst, e]
        exact u6 _ _ hq
  · rintro σ H5 ⟨fs, x4, rfl, u5, hc, dc, hf, df, hq⟩
    have ly := dc.length
    rw [encs_map, List.length_map] at ly
    rw [ly, List.take_of_length_le (Nat.le_refl _)] at df hq
    exact hd x4 fs H5 u5 hf df hq
theorem ok_ljoined (T : TX K mg w) : FG P w K mg base CX0 42 T.f_ljoined T.d_ljoined ["terms"] sp_ljoined := by
  have G_lkey := ok_lkey (P := P) (w := w) (base := base) T 41
  refine Gd.ok T.F_ljoined sc_ljoined (fun vs H Q E h => ?_) (fun cdv A out s H vs Q E hg hr h => ?_)
  · obtain ⟨b, m, ps, rfl, _⟩ := h
    rfl
  · obtain ⟨a, xs, ps, rfl, ha, dx, hok, hne, hlen, k⟩ := h
    have nd := sc_ljoined.nd
    have hr_lkey := hr
    refine ⟨_, (pss_cons (ps_par (i := 2) (j := 3) rfl nd rfl rfl (by decide) rfl rfl (pa_cons (pe_lst pa_nil) (pa_cons (pe_lst pa_nil) pa_nil)) rfl)
  (pss_cons (ps_for PassesOwn.never rfl (pi_list (pv 0)) (pg_name (i := 1) nd rfl (by first | exact Or.inl rfl | exact Or.inr rfl)) (pss_one (ps_for PassesOwn.never rfl (pi_tup (pe_ifExp (pt_cmpR op_eq (pe_ix ix_tup (pv 1) pe_int (fun _ _ => rfl)) pe_str (nomark _)) (pe_ix ix_tup (pv 1) pe_int (fun _ _ => rfl)) (pe_tup (pa_cons (pv 1) pa_nil)))) (pg_name (i := 4) nd rfl (by first | exact Or.inl rfl | exact Or.inr rfl)) (pss_one (ps_if (pt_cmpR op_notIn_seq (pe_g T.c_lkey G_lkey hg hr_lkey rfl pass0 (pa_cons (pv 4) pa_nil)) (pv 3) rfl) (pss_cons (ps_expr (pe_bm PySem.F.plainAttrs_list PySem.F.slot_list_append PySem.F.type_list_append mt_append (pv 3) (pa_cons (pe_g T.c_lkey G_lkey hg hr_lkey rfl pass0 (pa_cons (pv 4) pa_nil)) pa_nil)))
  (pss_one (ps_expr (pe_bm PySem.F.plainAttrs_list PySem.F.slot_list_append PySem.F.type_list_append mt_append (pv 2) (pa_cons (pv 4) pa_nil))))) pss_nil)))))
  (pss_one (ps_ret (pe_ifExp (pt_cmpR op_eq (pe_callB call_len_seq rfl T.z_len PySem.boot_len (pa_cons (pv 2) pa_nil)) pe_int (nomark _)) (pe_ix ix_list (pv 2) pe_int (fun _ _ => rfl)) (pe_tup (pa_cons pe_str (pa_cons (pe_callTy call_tuple_of rfl T.z_tuple (by decide +kernel) (pa_cons (pv 2) pa_nil)) pa_nil)))))))), ?_⟩
    have lx := dx.length
    rw [encs_map, List.length_map] at lx
    walk_at "rd"
    rename_i f H1 n1 u1 g1 q H2 n2 u2 g2
    walk_at "rd"
    have hfq : f ≠ q := ne_of_none g1 n2
    have haf : a ≠ f := ne_of_none ha n1
    have haq : a ≠ q := ne_of_none (u1 _ _ ha) n2
    have nf : H f = none := n1
    have nq : H q = none := u1.fr n2
    refine ⟨a, rfl, ⟨xs, SqL.of (u2 _ _ (u1 _ _ ha))⟩, for_list (K := K) (a := a) (xs := xs) (fun i σ H3 => ∃ (fs : List V) (x1 x4 : Option V), σ = [some (.ref a), x1, some (.ref f), some (.ref q), x4] ∧ Up H H3 ∧ H3 f = some (.lst fs) ∧
        Das H3 fs (encs (((ps.take i).flatMap memb).foldl addP [])) ∧ H3 q = some (.lst (((((ps.take i).flatMap memb).foldl addP []).map lkP).map V.str)))
      ⟨[], none, none, rfl, u1.tr u2, u2 _ _ g1, .nil, g2⟩ (fun i σ H3 _ ⟨_, _, _, _, u3, _⟩ => SqL.of (u3 _ _ ha)) ?_ ?_⟩
    · rintro i x σ H3 hx ⟨fs, x1, x4, rfl, u3, hf, df, hq⟩
      obtain ⟨d, hd, dd⟩ := dx.at hx
      rw [encs_map, List.getElem?_map] at hd
      cases hp : ps[i]? with
      | none => rw [hp] at hd; cases hd
      | some p =>
      rw [hp] at hd
      obtain rfl := Option.some.inj hd
      have pm : p ∈ ps := List.mem_of_getElem? hp
      obtain ⟨okp, hkp, mne⟩ := hok p pm
      have htk : ps.take (i + 1) = ps.take i ++ [p] := by rw [List.take_add_one, hp]; rfl
      have hsub : ((ps.take i).flatMap memb).length + (memb p).length ≤ 1000 := by
        have e1 : ((ps.take (i + 1)).flatMap memb).length ≤ (ps.flatMap memb).length := by
          have := congrArg (fun l : List Gd.P => (l.flatMap memb).length) (List.take_append_drop (i + 1) ps)
          simp only [List.flatMap_append, List.length_append] at this
          omega
        rw [htk, List.flatMap_append, List.length_append, List.flatMap_cons, List.flatMap_nil, List.append_nil] at e1
        omega
      have dp3 := dd.up u3
      obtain ⟨ax, w1, ws, rfl, hax, h1, t1⟩ := enc_inv dp3
      walk_at "rd"
      rw [bar_uni p hkp]
      rcases uni_or p with ⟨ms, rfl⟩ | ⟨hn1, hn2⟩
      · obtain ⟨c, ys, rfl, gc, dc⟩ := h1.tup_inv
        have u4 : Up H3 H3 := Up.rf
        have dc : Das H3 ys (encs (memb (.uni ms))) := dc
        refine ifT rfl ?_
        walk_at "rd"
        refine inner rfl gc dc u3 u4 nf nq hfq hf df hq (fun m hm => okp.memb hm) (by
          have fl := fold_len ((ps.take i).flatMap memb) []
          rw [List.length_nil] at fl
          omega) (fun y4 gs H5 u5 hf5 df5 hq5 => ⟨gs, _, y4, rfl, u5, hf5, ?_, ?_⟩)
        · rw [htk, List.flatMap_append, List.foldl_append, List.flatMap_cons, List.flatMap_nil, List.append_nil]
          exact df5
        · rw [htk, List.flatMap_append, List.foldl_append, List.flatMap_cons, List.flatMap_nil, List.append_nil]
          exact hq5
      · refine ifF hn1 ?_
        walk_at "rd"
        rename_i c H4 n4 u4 gc
        have dc : Das H4 [.ref ax] (encs (memb p)) := by
          rw [hn2]
          exact .cons (dp3.up u4) .nil
        refine inner rfl gc dc u3 u4 nf nq hfq hf df hq (fun m hm => okp.memb hm) (by
          have fl := fold_len ((ps.take i).flatMap memb) []
          rw [List.length_nil] at fl
          omega) (fun y4 gs H5 u5 hf5 df5 hq5 => ⟨gs, _, y4, rfl, u5, hf5, ?_, ?_⟩)
        · rw [htk, List.flatMap_append, List.foldl_append, List.flatMap_cons, List.flatMap_nil, List.append_nil]
          exact df5
        · rw [htk, List.flatMap_append, List.foldl_append, List.flatMap_cons, List.flatMap_nil, List.append_nil]
          exact hq5
    · rintro σ H3 ⟨fs, x1, x4, rfl, u3, hf, df, hq⟩
      rw [lx, List.take_of_length_le (Nat.le_refl _)] at df
      have lf := df.length
      rw [encs_map, List.length_map] at lf
      have fl := fold_len (ps.flatMap memb) []
      rw [List.length_nil] at fl
      walk_at "rd"
      refine ⟨f, fs, rfl, Or.inl (SqL.of hf), ?_⟩
      walk_at "rd"
      have hfp : ((ps.flatMap memb).foldl addP []) = foundP ps := rfl
      rw [hfp] at df lf fl
      refine ifD (fun c => ?_) (fun c => ?_)
      · have l1 : (foundP ps).length = 1 := by omega
        obtain ⟨p, hp⟩ := List.length_eq_one_iff.mp l1
        rw [hp] at df
        obtain ⟨v, rfl, dv⟩ := df.one
        walk_at "rd"
        refine k v H3 u3 ?_
        have e : ljoin ps = p := by unfold ljoin; rw [hp]
        rw [e]
        exact dv
      · walk_at "rd"
        refine ⟨f, fs, rfl, Or.inl ⟨SqL.of hf, fun l hl => ?_⟩⟩
        have u4 : Up H3 (upd H3 l (.tup fs)) := Up.new hl
        walk_at "rd"
        rename_i p5 H5 n5 u5 g5
        refine k _ H5 (u3.tr (u4.tr u5)) ?_
        have e : ljoin ps = .uni (foundP ps) := by
          unfold ljoin
          split
          · rename_i p hp
            rw [hp] at lf
            simp only [List.length_singleton] at lf
            exact absurd (by omega) c
          · rfl
        rw [e]
        exact .tup g5 (.cons (.str _) (.cons (.tup (u5 _ _ upd_same) (df.up (u4.tr u5))) .nil))
end

section
variable {P : Program} {w : World} {K : PySem.W.Frag} {mg : Str → Option Value} {base : Heap}
/-- eleven names stand at q -/
structure Nms (H : Hp) (b q : Addr) (ws : List Str) : Prop where
  at_ : H q = some (.lst (ws.map V.str))
  len : ws.length = 11
  ok : ∀ x ∈ ws, good x
  ne : q ≠ b
theorem Nms.mv {H H' : Hp} {b q : Addr} {ws : List Str} (h : Nms H b q ws) (m : Mv b H H') : Nms H' b q ws := ⟨m _ _ h.ne h.at_, h.len, h.ok, h.ne⟩
theorem Nms.up {H H' : Hp} {b q : Addr} {ws : List Str} (h : Nms H b q ws) (m : Up H H') : Nms H' b q ws := h.mv m.mv
theorem Nms.get {H : Hp} {b q : Addr} {ws : List Str} (h : Nms H b q ws) {i : Int} (h0 : 0 ≤ i) (h1 : i < 11) : ∃ x, good x ∧ atI (ws.map V.str) i = some (.str x) := by
  have l := h.len
  obtain ⟨v, e, hv⟩ := atI_ex (xs := ws.map V.str) h0 (by rw [List.length_map]; omega)
  obtain ⟨x, hx, rfl⟩ := List.mem_map.mp hv
  exact ⟨x, h.ok x hx, e⟩
theorem Nms.wr {H H' : Hp} {b q D : Addr} {ws : List Str} (h : Nms H b q ws) (n : q ≠ D) (m : Mv D H H') : Nms H' b q ws := ⟨m _ _ n h.at_, h.len, h.ok, h.ne⟩
/-- what the drawing defs are handed: the bag, the names, how deep (below n) -/
def sp_draw (n : Nat) (G : Nat → Gd.P → Prop) : Sp := fun vs H Q _ => ∃ (b q : Addr) (ws : List Str) (d : Nat), vs = [.ref b, .ref q, .int d] ∧ Bag H b ∧ Nms H b q ws ∧ d < n ∧ d ≤ 3 ∧
  ∀ (v : V) (p : Gd.P) (H' : Hp), Mv b H H' → Bag H' b → Da H' v (enc p) → G d p → Q v H'
abbrev ItG (d : Nat) (p : Gd.P) : Prop := Cd 2 (5 * d + 3) (Wd d + 60) p
abbrev InG (d : Nat) (p : Gd.P) : Prop := Cd 3 (5 * d + 5) (2 * Wd d + 265) p
theorem ok_litem (T : TX K mg w) {n k : Nat} (hk : 1 ≤ k) (G_lterm : FG P w K mg base CX0 k T.f_lterm T.d_lterm ["bag", "names", "deep"] (sp_draw n TmD)) : FG P w K mg base CX0 (k + 1) T.f_litem T.d_litem ["bag", "names", "deep"] (sp_draw n ItG) := by
  have G_ltake := ok_ltake (P := P) (w := w) (base := base) T
  refine Gd.ok T.F_litem sc_litem (fun vs H Q E h => ?_) (fun cdv A out s H vs Q E hg hr h => ?_)
  · obtain ⟨b, m, ws, d, rfl, _⟩ := h
    rfl
  · obtain ⟨b, q, ws, d, rfl, hb, hq, dn, d3, k⟩ := h
    have nd := sc_litem.nd
    have hr_ltake := hr.mono hk
    have hr_lterm := hr
    have wg := Wd_ge d
    refine ⟨_, (pss_cons (ps_set (i := 3) nd rfl (by first | exact Or.inl rfl | exact Or.inr rfl) (pe_g T.c_ltake G_ltake hg hr_ltake rfl pass0 (pa_cons (pv 0) (pa_cons pe_int pa_nil))))
  (pss_cons (ps_if (pt_cmpR op_eq (pv 3) pe_int (nomark _)) (pss_one (ps_ret (pe_tup (pa_cons pe_str (pa_cons (pe_ix ix_list (pv 1) pe_int (fun _ _ => rfl)) pa_nil))))) pss_nil)
  (pss_cons (ps_set (i := 4) nd rfl (by first | exact Or.inl rfl | exact Or.inr rfl) (pe_g T.c_lterm G_lterm hg hr_lterm rfl pass0 (pa_cons (pv 0) (pa_cons (pv 1) (pa_cons (pv 2) pa_nil)))))
  (pss_one (ps_ret (pe_ifExp (pt_cmpR op_eq (pv 3) pe_int (nomark _)) (pe_tup (pa_cons pe_str (pa_cons (pv 4) pa_nil))) (pv 4))))))), ?_⟩
    walk_at "rd"
    refine ⟨b, 5, rfl, hb, by decide, by decide, fun r H1 r0 r1 m1 b1 => ?_⟩
    have q1 := hq.mv m1
    walk_at "rd"
    refine ifD (fun c => ?_) (fun c => ?_)
    · walk_at "rd"
      obtain ⟨x, gx, ex⟩ := q1.get (i := 4) (by decide) (by decide)
      refine r_ixL q1.at_ ex ?_
      walk_at "rd"
      rename_i p2 H2 n2 u2 g2
      exact k _ (.star x) _ (m1.tr u2.mv) (b1.up u2) (.tup g2 (.cons (.str _) (.cons (.str _) .nil))) ((Cd.star gx).mono (by omega) (by omega))
    · walk_at "rd"
      refine ⟨b, q, ws, d, rfl, b1, q1, dn, d3, fun v p H2 m2 b2 d2 t2 => ?_⟩
      walk_at "rd"
      refine ifD (fun c2 => ?_) (fun c2 => ?_)
      · walk_at "rd"
        rename_i p3 H3 n3 u3 g3
        exact k _ (.dots p) _ (m1.tr (m2.tr u3.mv)) (b2.up u3) (.tup g3 (.cons (.str _) (.cons (d2.up u3) .nil))) (t2.cd.dots.mono (by omega) (by omega))
      · walk_at "rd"
        exact k _ p _ (m1.tr m2) b2 d2 ((t2.cd.up (by decide)).mono (by omega) (by omega))
theorem kws_le {n : Nat} : ∀ {l : List Gd.P}, (∀ p ∈ l, kw (enc p) ≤ n) → kws (encs l) ≤ l.length * (n + 5)
  | [], _ => by simp [encs, kws]
  | p :: r, h => by
    have h1 := h p List.mem_cons_self
    have h2 := kws_le (l := r) fun q hq => h q (List.mem_cons_of_mem _ hq)
    simp only [encs, kws, List.length_cons, Nat.add_mul]
    omega
/-- the state of a comprehension that draws -/
def Drawn (H0 : Hp) (b q : Addr) (ws : List Str) (G : Gd.P → Prop) : Addr → Nat → List V → Hp → Prop := fun _ i acc H =>
  ∃ its : List Gd.P, Das H acc (encs its) ∧ its.length = i ∧ (∀ x ∈ its, G x) ∧ Mv b H0 H ∧ Bag H b ∧ Nms H b q ws
theorem Drawn.turn {H0 H H' H1 : Hp} {b q D : Addr} {ws : List Str} {G : Gd.P → Prop} {i : Nat} {acc : List V} {v : V} {p : Gd.P} (h : Drawn H0 b q ws G D i acc H) (hb : Bag H0 b) (hq : Nms H0 b q ws) (nD : H1 D = none) (hb1 : Bag H1 b) (hq1 : Nms H1 b q ws) (m01 : Mv b H0 H1)
    (m : Mv b H H') (b1 : Bag H' b) (dv : Da H' v (enc p)) (g : G p) (hD : H D = some (.lst acc)) (hacc : acc.length ≤ i) (hi : i < 100000) : LcE D (Drawn H0 b q ws G D) i v H' := by
  obtain ⟨its, da, l, hG, m0, bb, qq⟩ := h
  have nDb : D ≠ b := hb1.ne nD
  have nDq : D ≠ q := (ne_of_none hq1.at_ nD).symm
  refine LcE.of (m _ _ nDb hD) hacc hi fun H2 m2 g2 => ?_
  have k1 : Tk H H' := bb.tk m
  have k2 : Tk H' H2 := m2.tk (m _ _ nDb hD)
  refine ⟨its ++ [p], ?_, by rw [List.length_append, l]; rfl, fun x hx => ?_, (m0.tr m).of (hb1.fr m01 nD) m2, b1.mv nDb.symm m2, (qq.mv m).wr nDq.symm m2⟩
  · rw [encs_app]
    exact (da.tk (k1.tr k2)).app (.cons (dv.tk k2) .nil)
  · rcases List.mem_append.mp hx with hx | hx
    · exact hG x hx
    · rw [List.mem_singleton.mp hx]; exact g
theorem ok_linputs (T : TX K mg w) {n k : Nat} (hk : 1 ≤ k) (G_litem : FG P w K mg base CX0 k T.f_litem T.d_litem ["bag", "names", "deep"] (sp_draw n ItG)) : FG P w K mg base CX0 (k + 1) T.f_linputs T.d_linputs ["bag", "names", "deep"] (sp_draw n InG) := by
  have G_ltake := ok_ltake (P := P) (w := w) (base := base) T
  refine Gd.ok T.F_linputs sc_linputs (fun vs H Q E h => ?_) (fun cdv A out s H vs Q E hg hr h => ?_)
  · obtain ⟨b, m, ws, d, rfl, _⟩ := h
    rfl
  · obtain ⟨b, q, ws, d, rfl, hb, hq, dn, d3, k⟩ := h
    have nd := sc_linputs.nd
    have hr_ltake := hr.mono hk
    have hr_litem := hr
    refine ⟨_, (pss_cons (ps_set (i := 3) nd rfl (by first | exact Or.inl rfl | exact Or.inr rfl) (pe_callTy call_tuple_of rfl T.z_tuple (by decide +kernel) (pa_cons (pe_lc (own := [("turn", 4)]) rfl nd (pi_range1 rfl T.z_range (pa_cons (pe_g T.c_ltake G_ltake hg hr_ltake rfl pass0 (pa_cons (pv 0) (pa_cons pe_int pa_nil))) pa_nil)) (blkOk_by (N := ["bag", "names", "deep", "items", "turn"]) (sc := defScope s_linputs) (by decide +kernel)) (fun _ _ _ _ _ => pg_name (i := 4) nd rfl (by first | exact Or.inl rfl | exact Or.inr rfl)) (fun _ _ _ _ _ => pts_nil) (fun _ _ _ _ _ => (pe_g T.c_litem G_litem hg hr_litem rfl pass0 (pa_cons (pv 0) (pa_cons (pv 1) (pa_cons (pv 2) pa_nil)))))) pa_nil)))
  (pss_one (ps_ret (pe_tup (pa_cons pe_str (pa_cons (pv 3) (pa_cons (pe_ix ix_list (pe_lst (pa_cons pe_non (pa_cons pe_str (pa_cons (pe_ix ix_list (pv 1) pe_int (fun _ _ => rfl)) pa_nil)))) (pe_g T.c_ltake G_ltake hg hr_ltake rfl pass0 (pa_cons (pv 0) (pa_cons pe_int pa_nil))) (fun _ _ => rfl)) pa_nil))))))), ?_⟩
    walk_at "rd"
    refine ⟨b, 3, rfl, hb, by decide, by decide, fun r H1 r0 r1 m1 b1 => ?_⟩
    have q1 := hq.mv m1
    walk_at "rd"
    refine lc_R r0 (by omega) (Drawn H b q ws (ItG d)) (fun D H2 n2 u2 g2 => ⟨[], .nil, rfl, nofun, m1.tr u2.mv, b1.up u2, q1.up u2⟩) ?_ ?_
    · rintro D i acc H2 nD hi hR hacc hi2 hD
      walk_at "rd"
      obtain ⟨its, da, l, hG, m2, b2, q2⟩ := id hR
      refine ⟨b, q, ws, d, rfl, b2, q2, dn, d3, fun v p H3 m3 b3 d3 t3 => ?_⟩
      exact hR.turn hb hq nD b1 q1 m1 m3 b3 d3 t3 hD hacc hi2
    · rintro D acc H2 nD ⟨its, da, l, hG, m2, b2, q2⟩ hD
      walk_at "rd"
      refine ⟨D, acc, rfl, Or.inl ⟨SqL.of hD, fun t ht => ?_⟩⟩
      have u3 : Up H2 (upd H2 t (.tup acc)) := Up.new ht
      have g3 : upd H2 t (.tup acc) t = some (.tup acc) := upd_same
      generalize upd H2 t (.tup acc) = H3 at u3 g3 ⊢
      have q3 := q2.up u3
      walk_at "rd"
      obtain ⟨x, gx, ex⟩ := q3.get (i := 5) (by decide) (by decide)
      refine r_ixL q3.at_ ex ?_
      walk_at "rd"
      rename_i p4 H4 n4 u4 g4
      refine ⟨b, 3, rfl, b2.up (u3.tr u4), by decide, by decide, fun r2 H5 r20 r21 m5 b5 => ?_⟩
      have b4 := b2.up (u3.tr u4)
      have g5 := m5 _ _ (b4.ne' n4 u4 (b2.up u3)) g4
      obtain ⟨v, e, hv⟩ := atI_ex (xs := [V.non, V.str ("..." : Str), V.str x]) r20 (by simpa using r21)
      refine r_ixL g5 e ?_
      obtain ⟨tl, htl, dtl⟩ : ∃ tl, tlok tl ∧ ∀ H, Da H v (tlD tl) := by
        simp only [List.mem_cons, List.not_mem_nil, or_false] at hv
        rcases hv with rfl | rfl | rfl
        · exact ⟨none, trivial, fun H => .non⟩
        · exact ⟨some ("..." : Str), Or.inl rfl, fun H => .str _⟩
        · exact ⟨some x, Or.inr gx, fun H => .str _⟩
      walk_at "rd"
      rename_i p6 H6 n6 u6 g6
      have k5 : Tk H2 H6 := (u3.tr u4).tk.tr ((b4.tk m5).tr u6.tk)
      have k36 : Tk H3 H6 := u4.tk.tr ((b4.tk m5).tr u6.tk)
      refine k _ (.inp its tl) _ (m2.tr ((u3.tr u4).mv.tr (m5.tr u6.mv))) (b5.up u6) (.tup g6 (.cons (.str _) (.cons (.tup (k36 _ _ g3) (da.tk k5)) (.cons (dtl _) .nil)))) ?_
      have hk := kws_le (n := Wd d + 60) fun p hp => (hG p hp).wgt
      have hl2 : its.length ≤ 2 := by omega
      have hm := Nat.mul_le_mul_right (Wd d + 60 + 5) hl2
      exact (Cd.inp (dp := 5 * d + 3) (fun v hv => ⟨_, hG v hv⟩) htl (Nat.le_trans hk hm)).mono (by omega) (by omega)
end

section
variable {P : Program} {w : World} {K : PySem.W.Frag} {mg : Str → Option Value} {base : Heap}
theorem Wd_le {d : Nat} (h : d ≤ 3) : Wd d ≤ 8170 := by
  have : d = 0 ∨ d = 1 ∨ d = 2 ∨ d = 3 := by omega
  rcases this with rfl | rfl | rfl | rfl <;> decide
theorem pow_le {d : Nat} (h : d ≤ 3) : 3 ^ d ≤ 27 := by
  have : d = 0 ∨ d = 1 ∨ d = 2 ∨ d = 3 := by omega
  rcases this with rfl | rfl | rfl | rfl <;> decide
theorem flat_len {d : Nat} (h3 : d ≤ 3) : ∀ {ps : List Gd.P}, (∀ p ∈ ps, TmD d p) → (ps.flatMap memb).length ≤ ps.length * 27
  | [], _ => by simp
  | p :: r, h => by
    have h1 := (h p List.mem_cons_self).mem
    have h2 := flat_len h3 (ps := r) fun q hq => h q (List.mem_cons_of_mem _ hq)
    have := pow_le h3
    rw [List.flatMap_cons, List.length_append, List.length_cons, Nat.add_mul]
    omega
theorem one_pow (d : Nat) : 1 ≤ 3 ^ d := Nat.one_le_pow _ _ (by decide)
theorem TmD_use {d s dp : Nat} {n : Str} {vs : List Gd.P} (h : Cd 0 dp s (.use n vs)) (hd : dp ≤ 5 * d + 2) (hs : s ≤ Wd d) : TmD d (.use n vs) := ⟨h.mono hd hs, one_pow d⟩
theorem TmD_sig {d s dp : Nat} {i r : Gd.P} (h : Cd 0 dp s (.sig i r)) (hd : dp ≤ 5 * d + 2) (hs : s ≤ Wd d) : TmD d (.sig i r) := ⟨h.mono hd hs, one_pow d⟩
theorem ok_lterm (T : TX K mg w) : ∀ n, FG P w K mg base CX0 (43 + 3 * n) T.f_lterm T.d_lterm ["bag", "names", "deep"] (sp_draw n TmD) := by
  intro n
  induction n with
  | zero =>
    refine ⟨fun vs H Q E h => ?_, fun A out s H as us vs Q E _ _ _ _ _ h => ?_⟩
    all_goals
      obtain ⟨b, q, ws, d, _, _, _, h, _⟩ := h
      exact absurd h (Nat.not_lt_zero _)
  | succ n G_lterm =>
  have G_ltake := ok_ltake (P := P) (w := w) (base := base) T
  have G_ljoined := ok_ljoined (P := P) (w := w) (base := base) T
  have G_litem := ok_litem T (by omega) G_lterm
  have G_linputs := ok_linputs T (by omega) G_litem
  show FG P w K mg base CX0 (43 + 3 * n + 2 + 1) _ _ _ _
  refine Gd.ok T.F_lterm sc_lterm (fun vs H Q E h => ?_) (fun cdv A out s H vs Q E hg hr h => ?_)
  · obtain ⟨b, m, ws, d, rfl, _⟩ := h
    rfl
  · obtain ⟨b, q, ws, d, rfl, hb, hq, dn, d3, k⟩ := h
    have nd := sc_lterm.nd
    have hr_ltake := hr.mono (show 1 ≤ 43 + 3 * n + 2 by omega)
    have hr_ljoined := hr.mono (show 42 ≤ 43 + 3 * n + 2 by omega)
    have hr_lterm := hr.mono (show 43 + 3 * n ≤ 43 + 3 * n + 2 by omega)
    have hr_litem := hr.mono (show 43 + 3 * n + 1 ≤ 43 + 3 * n + 2 by omega)
    have hr_linputs := hr
    refine ⟨_, (pss_cons (ps_set (i := 3) nd rfl (by first | exact Or.inl rfl | exact Or.inr rfl) (pe_g T.c_ltake G_ltake hg hr_ltake rfl pass0 (pa_cons (pv 0) (pa_cons (pe_ifExp (pt_cmpR op_gt (pv 2) pe_int (nomark _)) pe_int pe_int) pa_nil))))
  (pss_cons (ps_if (pt_cmpR op_lt (pv 3) pe_int (nomark _)) (pss_one (ps_ret (pe_tup (pa_cons (pe_ix ix_list (pv 1) (pv 3) (fun _ _ => rfl)) (pa_cons (pe_tup pa_nil) pa_nil))))) pss_nil)
  (pss_cons (ps_if (PW.pt (pw_or (pt_cmpR op_eq (pv 3) pe_int (nomark _)) (pw_or1 (pt_cmpR op_eq (pv 3) pe_int (nomark _))))) (pss_one (ps_ret (pe_tup (pa_cons (pe_ix ix_list (pv 1) (pe_ix ix_list (pe_lst (pa_cons pe_int (pa_cons pe_int pa_nil))) (pe_op op_sub (pv 3) pe_int) (fun _ _ => rfl)) (fun _ _ => rfl)) (pa_cons (pe_tup (pa_cons (pe_g T.c_lterm G_lterm hg hr_lterm rfl pass0 (pa_cons (pv 0) (pa_cons (pv 1) (pa_cons (pe_op op_sub (pv 2) pe_int) pa_nil)))) pa_nil)) pa_nil))))) pss_nil)
  (pss_cons (ps_if (PW.pt (pw_or (pt_cmpR op_eq (pv 3) pe_int (nomark _)) (pw_or1 (pt_cmpR op_eq (pv 3) pe_int (nomark _))))) (pss_cons (ps_setLc (i := 4) (own := [("turn", 6)]) rfl nd rfl rfl (sw_true rfl rfl rfl (by decide +kernel)) (pi_range1 rfl T.z_range (pa_cons (pe_g T.c_ltake G_ltake hg hr_ltake rfl pass0 (pa_cons (pv 0) (pa_cons pe_int pa_nil))) pa_nil)) (blkOk_by (N := ["bag", "names", "deep", "way", "items", "row", "turn"]) (sc := defScope s_lterm) (by decide +kernel)) (fun _ _ _ _ _ => pg_name (i := 6) nd rfl (by first | exact Or.inl rfl | exact Or.inr rfl)) (fun _ _ _ _ _ => pts_nil) (fun _ _ _ _ _ => (pe_g T.c_litem G_litem hg hr_litem rfl pass0 (pa_cons (pv 0) (pa_cons (pv 1) (pa_cons (pe_op op_sub (pv 2) pe_int) pa_nil))))))
  (pss_cons (ps_set (i := 5) nd rfl (by first | exact Or.inl rfl | exact Or.inr rfl) (pe_tup (pa_cons pe_str (pa_cons (pe_callTy call_tuple_of rfl T.z_tuple (by decide +kernel) (pa_cons (pv 4) pa_nil)) pa_nil))))
  (pss_cons (ps_if (pt_cmpR op_eq (pv 3) pe_int (nomark _)) (pss_one (ps_ret (pe_tup (pa_cons (pe_ix ix_list (pv 1) pe_int (fun _ _ => rfl)) (pa_cons (pe_tup (pa_cons (pv 5) pa_nil)) pa_nil))))) pss_nil)
  (pss_one (ps_ret (pe_tup (pa_cons (pe_ix ix_list (pv 1) pe_int (fun _ _ => rfl)) (pa_cons (pe_tup (pa_cons (pe_g T.c_lterm G_lterm hg hr_lterm rfl pass0 (pa_cons (pv 0) (pa_cons (pv 1) (pa_cons (pe_op op_sub (pv 2) pe_int) pa_nil)))) (pa_cons (pv 5) pa_nil))) pa_nil)))))))) pss_nil)
  (pss_cons (ps_if (pt_cmpR op_eq (pv 3) pe_int (nomark _)) (pss_one (ps_ret (pe_tup (pa_cons (pe_ix ix_list (pv 1) pe_int (fun _ _ => rfl)) (pa_cons (pe_tup (pa_cons (pe_g T.c_linputs G_linputs hg hr_linputs rfl pass0 (pa_cons (pv 0) (pa_cons (pv 1) (pa_cons (pe_op op_sub (pv 2) pe_int) pa_nil)))) (pa_cons (pe_g T.c_lterm G_lterm hg hr_lterm rfl pass0 (pa_cons (pv 0) (pa_cons (pv 1) (pa_cons (pe_op op_sub (pv 2) pe_int) pa_nil)))) pa_nil))) pa_nil))))) pss_nil)
  (pss_cons (ps_if (pt_cmpR op_eq (pv 3) pe_int (nomark _)) (pss_one (ps_ret (pe_tup (pa_cons pe_str (pa_cons (pe_g T.c_linputs G_linputs hg hr_linputs rfl pass0 (pa_cons (pv 0) (pa_cons (pv 1) (pa_cons (pe_op op_sub (pv 2) pe_int) pa_nil)))) (pa_cons (pe_g T.c_lterm G_lterm hg hr_lterm rfl pass0 (pa_cons (pv 0) (pa_cons (pv 1) (pa_cons (pe_op op_sub (pv 2) pe_int) pa_nil)))) pa_nil)))))) pss_nil)
  (pss_one (ps_ret (pe_g T.c_ljoined G_ljoined hg hr_ljoined rfl pass0 (pa_cons (pe_lc (own := [("turn", 6)]) rfl nd (pi_range1 rfl T.z_range (pa_cons (pe_op op_add pe_int (pe_g T.c_ltake G_ltake hg hr_ltake rfl pass0 (pa_cons (pv 0) (pa_cons pe_int pa_nil)))) pa_nil)) (blkOk_by (N := ["bag", "names", "deep", "way", "items", "row", "turn"]) (sc := defScope s_lterm) (by decide +kernel)) (fun _ _ _ _ _ => pg_name (i := 6) nd rfl (by first | exact Or.inl rfl | exact Or.inr rfl)) (fun _ _ _ _ _ => pts_nil) (fun _ _ _ _ _ => (pe_g T.c_lterm G_lterm hg hr_lterm rfl pass0 (pa_cons (pv 0) (pa_cons (pv 1) (pa_cons (pe_op op_sub (pv 2) pe_int) pa_nil)))))) pa_nil)))))))))), ?_⟩
    walk_at "rd"
    have leaf : ∀ (x : Str) (H' : Hp) (v : V), good x → Da H' v (enc (.use x [])) → Mv b H H' → Bag H' b → Q v H' := fun x H' v gx dv m bb =>
      k _ _ _ m bb dv (TmD_use (Cd.use (dp := 0) (s := 0) (.inl rfl) gx nofun (by simp [encs, kws])) (by omega) (by have := Wd_ge d; omega))
    refine ifD (fun c0 => ?_) (fun c0 => ?_)
    rotate_left
    · have hd0 : d = 0 := by omega
      walk_at "rd"
      refine ⟨b, 4, rfl, hb, by decide, by decide, fun r H1 r0 r1 m1 b1 => ?_⟩
      have q1 := hq.mv m1
      walk_at "rd"
      refine ifD (fun c => ?_) (fun c => absurd r1 c)
      walk_at "rd"
      obtain ⟨x, gx, ex⟩ := q1.get r0 (show r < 11 by omega)
      refine r_ixL q1.at_ ex ?_
      walk_at "rd"
      rename_i p2 H2 n2 u2 g2 p3 H3 n3 u3 g3
      exact leaf x _ _ gx (.tup g3 (.cons (.str _) (.cons (.tup (u3 _ _ g2) .nil) .nil))) (m1.tr (u2.tr u3).mv) (b1.up (u2.tr u3))
    · obtain ⟨e, rfl⟩ : ∃ e, d = e + 1 := ⟨d - 1, by omega⟩
      have he : ((e + 1 : Nat) : Int) - 1 = (e : Int) := by omega
      have we := Wd_ge e
      walk_at "rd"
      refine ⟨b, 12, rfl, hb, by decide, by decide, fun r H1 r0 r1 m1 b1 => ?_⟩
      have q1 := hq.mv m1
      walk_at "rd"
      refine ifD (fun c => ?_) (fun c => ?_)
      · walk_at "rd"
        obtain ⟨x, gx, ex⟩ := q1.get r0 (show r < 11 by omega)
        refine r_ixL q1.at_ ex ?_
        walk_at "rd"
        rename_i p2 H2 n2 u2 g2 p3 H3 n3 u3 g3
        exact leaf x _ _ gx (.tup g3 (.cons (.str _) (.cons (.tup (u3 _ _ g2) .nil) .nil))) (m1.tr (u2.tr u3).mv) (b1.up (u2.tr u3))
      · walk_at "rd"
        refine ifD (fun c => ?_) (fun c => ?_)
        · skip
          subst c
          walk_at "rd"
          rename_i p2 H2 n2 u2 g2
          have q2 := q1.up u2
          obtain ⟨x, gx, ex⟩ := q2.get (i := 6) (by decide) (by decide)
          refine r_ixL q2.at_ ex ?_
          walk_at "rd"
          refine ⟨b, q, ws, e, by rw [he], b1.up u2, q2, by omega, by omega, fun v p H3 m3 b3 d3 t3 => ?_⟩
          walk_at "rd"
          rename_i p4 H4 n4 u4 g4 p5 H5 n5 u5 g5
          exact k _ (.use x [p]) _ (m1.tr (u2.mv.tr (m3.tr (u4.tr u5).mv))) (b3.up (u4.tr u5)) (.tup g5 (.cons (.str _) (.cons (.tup (u5 _ _ g4) (.cons (d3.up (u4.tr u5)) .nil)) .nil)))
            (TmD_use (Cd.use (dp := 5 * e + 2) (s := Wd e + 5) (.inl rfl) gx (fun v hv => ⟨Wd e, by rw [List.mem_singleton.mp hv]; exact t3.cd.up (by decide)⟩) (by have := t3.cd.wgt; simp only [encs, kws]; omega)) (by omega) (by simp only [Wd]; omega))
        · walk_at "rd"
          refine ifD (fun c => ?_) (fun c => ?_)
          · skip
            subst c
            walk_at "rd"
            rename_i p2 H2 n2 u2 g2
            have q2 := q1.up u2
            obtain ⟨x, gx, ex⟩ := q2.get (i := 10) (by decide) (by decide)
            refine r_ixL q2.at_ ex ?_
            walk_at "rd"
            refine ⟨b, q, ws, e, by rw [he], b1.up u2, q2, by omega, by omega, fun v p H3 m3 b3 d3 t3 => ?_⟩
            walk_at "rd"
            rename_i p4 H4 n4 u4 g4 p5 H5 n5 u5 g5
            exact k _ (.use x [p]) _ (m1.tr (u2.mv.tr (m3.tr (u4.tr u5).mv))) (b3.up (u4.tr u5)) (.tup g5 (.cons (.str _) (.cons (.tup (u5 _ _ g4) (.cons (d3.up (u4.tr u5)) .nil)) .nil)))
              (TmD_use (Cd.use (dp := 5 * e + 2) (s := Wd e + 5) (.inl rfl) gx (fun v hv => ⟨Wd e, by rw [List.mem_singleton.mp hv]; exact t3.cd.up (by decide)⟩) (by have := t3.cd.wgt; simp only [encs, kws]; omega)) (by omega) (by simp only [Wd]; omega))
          · walk_at "rd"
            refine ifD (fun c => ?_) (fun c => ?_)
            · skip
              subst c
              walk_at "rd"
              refine ⟨b, 3, rfl, b1, by decide, by decide, fun r2 H2 r20 r21 m2 b2 => ?_⟩
              have q2 := q1.mv m2
              have m02 := m1.tr m2
              walk_at "rd"
              refine lc_R r20 (by omega) (Drawn H b q ws (ItG e)) (fun D H3 n3 u3 g3 => ⟨[], .nil, rfl, nofun, m02.tr u3.mv, b2.up u3, q2.up u3⟩) ?_ ?_
              · rintro D i acc H3 nD hi hR hacc hi2 hD
                walk_at "rd"
                obtain ⟨its, da, l, hG, m3, b3, q3⟩ := id hR
                refine ⟨b, q, ws, e, by rw [he], b3, q3, by omega, by omega, fun v p H4 m4 b4 d4 t4 => ?_⟩
                exact hR.turn hb hq nD b2 q2 m02 m4 b4 d4 t4 hD hacc hi2
              · rintro D acc H3 nD ⟨its, da, l, hG, m3, b3, q3⟩ hD
                walk_at "rd"
                refine ⟨D, acc, rfl, Or.inl ⟨SqL.of hD, fun t ht => ?_⟩⟩
                have u4 : Up H3 (upd H3 t (.tup acc)) := Up.new ht
                have g4 : upd H3 t (.tup acc) t = some (.tup acc) := upd_same
                generalize upd H3 t (.tup acc) = H4 at u4 g4 ⊢
                walk_at "rc"
                rename_i p5 H5 n5 u5 g5
                have q5 := q3.up (u4.tr u5)
                have b5 := b3.up (u4.tr u5)
                have hk := kws_le (n := Wd e + 60) fun p hp => (hG p hp).wgt
                have hl2 : its.length ≤ 2 := by omega
                have hm := Nat.mul_le_mul_right (Wd e + 60 + 5) hl2
                have crow : Cd 1 (5 * e + 5) (2 * (Wd e + 65) + 60) (.row its) := (Cd.row (dp := 5 * e + 3) (fun v hv => ⟨_, hG v hv⟩) (Nat.le_trans hk hm)).mono (by omega) (by omega)
                have drow : Da H5 (.ref p5) (enc (.row its)) := .tup g5 (.cons (.str _) (.cons (.tup (u5 _ _ g4) (da.up (u4.tr u5))) .nil))
                obtain ⟨x, gx, ex⟩ := q5.get (i := 9) (by decide) (by decide)
                refine r_ixL q5.at_ ex ?_
                walk_at "rd"
                rename_i p6 H6 n6 u6 g6 p7 H7 n7 u7 g7
                exact k _ (.use x [.row its]) _ (m3.tr (u4.tr (u5.tr (u6.tr u7))).mv) (b5.up (u6.tr u7)) (.tup g7 (.cons (.str _) (.cons (.tup (u7 _ _ g6) (.cons (drow.up (u6.tr u7)) .nil)) .nil)))
                  (TmD_use (Cd.use (dp := 5 * e + 5) (s := 2 * (Wd e + 65) + 65) (.inl rfl) gx (fun v hv => ⟨2 * (Wd e + 65) + 60, by rw [List.mem_singleton.mp hv]; exact crow⟩) (by have := crow.wgt; simp only [encs, kws]; omega)) (by omega) (by simp only [Wd]; omega))
            · walk_at "rd"
              refine ifD (fun c => ?_) (fun c => ?_)
              · skip
                subst c
                walk_at "rd"
                refine ⟨b, 3, rfl, b1, by decide, by decide, fun r2 H2 r20 r21 m2 b2 => ?_⟩
                have q2 := q1.mv m2
                have m02 := m1.tr m2
                walk_at "rd"
                refine lc_R r20 (by omega) (Drawn H b q ws (ItG e)) (fun D H3 n3 u3 g3 => ⟨[], .nil, rfl, nofun, m02.tr u3.mv, b2.up u3, q2.up u3⟩) ?_ ?_
                · rintro D i acc H3 nD hi hR hacc hi2 hD
                  walk_at "rd"
                  obtain ⟨its, da, l, hG, m3, b3, q3⟩ := id hR
                  refine ⟨b, q, ws, e, by rw [he], b3, q3, by omega, by omega, fun v p H4 m4 b4 d4 t4 => ?_⟩
                  exact hR.turn hb hq nD b2 q2 m02 m4 b4 d4 t4 hD hacc hi2
                · rintro D acc H3 nD ⟨its, da, l, hG, m3, b3, q3⟩ hD
                  walk_at "rd"
                  refine ⟨D, acc, rfl, Or.inl ⟨SqL.of hD, fun t ht => ?_⟩⟩
                  have u4 : Up H3 (upd H3 t (.tup acc)) := Up.new ht
                  have g4 : upd H3 t (.tup acc) t = some (.tup acc) := upd_same
                  generalize upd H3 t (.tup acc) = H4 at u4 g4 ⊢
                  walk_at "rc"
                  rename_i p5 H5 n5 u5 g5
                  have q5 := q3.up (u4.tr u5)
                  have b5 := b3.up (u4.tr u5)
                  have hk := kws_le (n := Wd e + 60) fun p hp => (hG p hp).wgt
                  have hl2 : its.length ≤ 2 := by omega
                  have hm := Nat.mul_le_mul_right (Wd e + 60 + 5) hl2
                  have crow : Cd 1 (5 * e + 5) (2 * (Wd e + 65) + 60) (.row its) := (Cd.row (dp := 5 * e + 3) (fun v hv => ⟨_, hG v hv⟩) (Nat.le_trans hk hm)).mono (by omega) (by omega)
                  have drow : Da H5 (.ref p5) (enc (.row its)) := .tup g5 (.cons (.str _) (.cons (.tup (u5 _ _ g4) (da.up (u4.tr u5))) .nil))
                  obtain ⟨x, gx, ex⟩ := q5.get (i := 7) (by decide) (by decide)
                  refine r_ixL q5.at_ ex ?_
                  walk_at "rd"
                  refine ⟨b, q, ws, e, by rw [he], b5, q5, by omega, by omega, fun v p H6 m6 b6 d6 t6 => ?_⟩
                  have drow6 := drow.tk (b5.tk m6)
                  walk_at "rd"
                  rename_i p7 H7 n7 u7 g7 p8 H8 n8 u8 g8
                  exact k _ (.use x [p, .row its]) _ (m3.tr ((u4.tr u5).mv.tr (m6.tr (u7.tr u8).mv))) (b6.up (u7.tr u8)) (.tup g8 (.cons (.str _) (.cons (.tup (u8 _ _ g7) (.cons (d6.up (u7.tr u8)) (.cons (drow6.up (u7.tr u8)) .nil))) .nil)))
                    (TmD_use (Cd.use (dp := 5 * e + 5) (s := 3 * Wd e + 200) (.inl rfl) gx (fun v hv => by
                      rcases List.mem_cons.mp hv with rfl | hv
                      · exact ⟨Wd e, (t6.cd.up (by decide)).mono (by omega) (Nat.le_refl _)⟩
                      · rw [List.mem_singleton.mp hv]; exact ⟨_, crow⟩) (by have := crow.wgt; have := t6.cd.wgt; simp only [encs, kws]; omega)) (by omega) (by simp only [Wd]; omega))
              · walk_at "rd"
                refine ifD (fun c => ?_) (fun c => ?_)
                · skip
                  subst c
                  walk_at "rd"
                  obtain ⟨x, gx, ex⟩ := q1.get (i := 8) (by decide) (by decide)
                  refine r_ixL q1.at_ ex ?_
                  walk_at "rd"
                  refine ⟨b, q, ws, e, by rw [he], b1, q1, by omega, by omega, fun v2 p2 H2 m2 b2 d2 t2 => ?_⟩
                  have q2 := q1.mv m2
                  walk_at "rd"
                  refine ⟨b, q, ws, e, by rw [he], b2, q2, by omega, by omega, fun v p H3 m3 b3 d3 t3 => ?_⟩
                  have d23 := d2.tk (b2.tk m3)
                  walk_at "rd"
                  rename_i p4 H4 n4 u4 g4 p5 H5 n5 u5 g5
                  exact k _ (.use x [p2, p]) _ (m1.tr (m2.tr (m3.tr (u4.tr u5).mv))) (b3.up (u4.tr u5)) (.tup g5 (.cons (.str _) (.cons (.tup (u5 _ _ g4) (.cons (d23.up (u4.tr u5)) (.cons (d3.up (u4.tr u5)) .nil))) .nil)))
                    (TmD_use (Cd.use (dp := 5 * e + 5) (s := 3 * Wd e + 275) (.inl rfl) gx (fun v hv => by
                      rcases List.mem_cons.mp hv with rfl | hv
                      · exact ⟨_, t2.inV⟩
                      · rw [List.mem_singleton.mp hv]; exact ⟨Wd e, (t3.cd.up (by decide)).mono (by omega) (Nat.le_refl _)⟩) (by have := t2.wgt; have := t3.cd.wgt; simp only [encs, kws]; omega)) (by omega) (by simp only [Wd]; omega))
                · skip
                  walk_at "rd"
                  refine ifD (fun c => ?_) (fun c => ?_)
                  · skip
                    subst c
                    walk_at "rd"
                    refine ⟨b, q, ws, e, by rw [he], b1, q1, by omega, by omega, fun v2 p2 H2 m2 b2 d2 t2 => ?_⟩
                    have q2 := q1.mv m2
                    walk_at "rd"
                    refine ⟨b, q, ws, e, by rw [he], b2, q2, by omega, by omega, fun v p H3 m3 b3 d3 t3 => ?_⟩
                    have d23 := d2.tk (b2.tk m3)
                    walk_at "rd"
                    rename_i p4 H4 n4 u4 g4
                    exact k _ (.sig p2 p) _ (m1.tr (m2.tr (m3.tr u4.mv))) (b3.up u4) (.tup g4 (.cons (.str _) (.cons (d23.up u4) (.cons (d3.up u4) .nil))))
                      (TmD_sig (Cd.sig (dp := 5 * e + 5) (.inl rfl) t2 (t3.cd.mono (by omega) (Nat.le_refl _))) (by omega) (by simp only [Wd]; omega))
                  · skip
                    walk_at "rd"
                    refine ⟨b, 2, rfl, b1, by decide, by decide, fun r2 H2 r20 r21 m2 b2 => ?_⟩
                    have q2 := q1.mv m2
                    have m02 := m1.tr m2
                    walk_at "rd"
                    refine lc_R (show 0 ≤ 2 + r2 by omega) (by omega) (Drawn H b q ws (TmD e)) (fun D H3 n3 u3 g3 => ⟨[], .nil, rfl, nofun, m02.tr u3.mv, b2.up u3, q2.up u3⟩) ?_ ?_
                    · rintro D i acc H3 nD hi hR hacc hi2 hD
                      walk_at "rd"
                      obtain ⟨its, da, l, hG, m3, b3, q3⟩ := id hR
                      refine ⟨b, q, ws, e, by rw [he], b3, q3, by omega, by omega, fun v p H4 m4 b4 d4 t4 => ?_⟩
                      exact hR.turn hb hq nD b2 q2 m02 m4 b4 d4 t4 hD hacc hi2
                    · rintro D acc H3 nD ⟨its, da, l, hG, m3, b3, q3⟩ hD
                      walk_at "rd"
                      have l3 : its.length ≤ 3 := by omega
                      have ne : its ≠ [] := by intro z; rw [z] at l; simp only [List.length_nil] at l; omega
                      have wl := Wd_le (show e ≤ 3 by omega)
                      have mne : ∀ p ∈ its, memb p ≠ [] := fun p hp => memb_ne' (hG p hp).cd.is
                      refine ⟨D, acc, its, rfl, hD, da, fun p hp => ⟨(hG p hp).cd.ok.mono (by omega) (by omega), isK_hok (hG p hp).cd.is, mne p hp⟩, ne, ?_, fun v H4 u4 d4 => ?_⟩
                      · have := flat_len (show e ≤ 3 by omega) hG
                        omega
                      · exact k _ _ _ (m3.tr u4.mv) (b3.up u4) d4 (ljoin_TmD hG ne l3 (by omega) (foundP_ne mne ne))
end

section
variable {P : Program} {w : World} {K : PySem.W.Frag} {mg : Str → Option Value} {base : Heap}
/-- a part, or a tail -/
inductive Z where
  | pt (p : Gd.P)
  | tl (t : Option Str)
def Z.d : Z → PyData
  | .pt p => enc p
  | .tl t => tlD t
def Z.n : Z → Nat
  | .pt p => lsz p
  | .tl none => 0
  | .tl (some _) => 1
def Z.ok : Z → Prop
  | .pt p => ∃ k, isK p k
  | .tl _ => True
def sp_lsize (n : Nat) : Sp := fun vs H Q _ => ∃ (v : V) (z : Z), vs = [v] ∧ Da H v z.d ∧ z.ok ∧ z.d.depth < n ∧ kw z.d ≤ 90000 ∧ ∀ (H' : Hp), Up H H' → Q (.int (z.n : Int)) H'
theorem len_kws : ∀ l : List Gd.P, l.length ≤ kws (encs l)
  | [] => by simp
  | p :: r => by have := len_kws r; simp only [encs, kws, List.length_cons]; omega
/-- the sum over parts -/
theorem sums {K : PySem.W.Frag} {H H1 : Hp} {Q : VK} {σ : L2.St} {n : Nat} {c : Addr} {ys : List V} {qs : List Gd.P} {m : Nat} {E : XK} (u : Up H H1) (hc : H1 c = some (.tup ys)) (dy : Das H1 ys (encs qs)) (hk : ∀ q ∈ qs, ∃ k, isK q k)
    (hd : ∀ q ∈ qs, (enc q).depth < n) (hw : kws (encs qs) ≤ 90000) (hm : wipe (List.set (wipe σ [m]) m (some V.non)) [m] = wipe σ [m]) (hs : ∀ x : V, (List.set (wipe σ [m]) m (some x))[m]? = some (some x)) (hs2 : ∀ x : V, wipe (List.set (wipe σ [m]) m (some x)) [m] = wipe σ [m])
    (k : ∀ (D : Addr) (H2 : Hp), Up H H2 → H2 D = some (.lst ((qs.map fun q => ((lsz q : Nat) : Int)).map V.int)) → Q (.ref D) H2) :
    ∃ a', V.ref c = V.ref a' ∧ (∃ xs, SqT K H1 a' xs) ∧ lcB (Itt K a') (gName m) tYes (fun σ H Q => tCons (tVar m) tNil σ H fun vs H1 => sp_lsize n vs H1 Q E) [m] σ Q H1 := by
  have ly := dy.length
  rw [encs_map, List.length_map] at ly
  have lq := len_kws qs
  refine lc_T hc (by omega) (fun D i acc H2 => acc = ((qs.take i).map fun q => V.int ((lsz q : Nat) : Int)) ∧ Up H H2 ∧ Up H1 H2) (fun D H2 n2 u2 g2 => ⟨rfl, u.tr u2, u2⟩) (fun D i acc H2 r => r.2.2 _ _ hc) ?_ ?_
  · rintro D i y acc H2 nD hy ⟨rfl, u2, u12⟩ hacc hi hD
    obtain ⟨d, he, dx⟩ := dy.at hy
    rw [encs_map, List.getElem?_map] at he
    cases hq : qs[i]? with
    | none => rw [hq] at he; cases he
    | some q =>
    rw [hq] at he
    obtain rfl := Option.some.inj he
    have qm : q ∈ qs := List.mem_of_getElem? hq
    have wm := kw_mem (mem_encs qm)
    walk_at "rd"
    refine ⟨hs2 y, ?_⟩
    walk_at "rd"
    refine r_var (hs y) ?_
    walk_at "rd"
    refine ⟨y, .pt q, rfl, dx.up u12, hk q qm, hd q qm, by show kw (enc q) ≤ _; omega, fun H3 u3 => ?_⟩
    refine LcE.of (u3 _ _ hD) hacc hi fun H4 m4 g4 => ⟨?_, (u2.tr u3).of (u.fr nD) m4, (u12.tr u3).of nD m4⟩
    rw [List.take_add_one, hq, List.map_append]
    rfl
  · rintro D acc H2 nD ⟨rfl, u2, u12⟩ hD
    rw [ly, List.take_of_length_le (Nat.le_refl _)] at hD
    exact k D H2 u2 (by rw [List.map_map]; exact hD)
theorem ok_lsize (T : TX K mg w) : ∀ n, FG P w K mg base CX0 n T.f_lsize T.d_lsize ["thing"] (sp_lsize n) := by
  intro n
  induction n with
  | zero =>
    refine ⟨fun vs H Q E h => ?_, fun A out s H as us vs Q E _ _ _ _ _ h => ?_⟩
    all_goals
      obtain ⟨v, z, _, _, _, h, _⟩ := h
      exact absurd h (Nat.not_lt_zero _)
  | succ n G_lsize =>
  refine Gd.ok T.F_lsize sc_lsize (fun vs H Q E h => ?_) (fun cdv A out s H vs Q E hg hr h => ?_)
  · obtain ⟨b, m, rfl, _⟩ := h
    rfl
  · obtain ⟨v, z, rfl, hv, hz, hd, hw, k⟩ := h
    have nd := sc_lsize.nd
    have hr_lsize := hr
    refine ⟨_, (pss_cons (ps_if (pt_cmpR op_isN (pv 0) pe_non (nomark _)) (pss_one (ps_ret pe_int)) pss_nil)
  (pss_cons (ps_if (pt_val (pe_callB call_isi rfl T.z_isinstance (by decide +kernel) (pa_cons (pv 0) (pa_cons (pe_bltn (v := .ty "str") rfl T.z_str (by decide +kernel) rfl) pa_nil)))) (pss_one (ps_ret pe_int)) pss_nil)
  (pss_cons (ps_if (pt_cmpR op_eq (pe_ix ix_tup (pv 0) pe_int (fun _ _ => rfl)) pe_str (nomark _)) (pss_one (ps_ret pe_int)) pss_nil)
  (pss_cons (ps_if (pt_cmpR op_eq (pe_ix ix_tup (pv 0) pe_int (fun _ _ => rfl)) pe_str (nomark _)) (pss_one (ps_ret (pe_op op_add (pe_callB (cr_sum rfl) rfl T.z_sum (by decide +kernel) (pa_cons (pe_lc (own := [("one", 2)]) rfl nd (pi_tup (pe_ix ix_tup (pv 0) pe_int (fun _ _ => rfl))) (blkOk_by (N := ["thing", "parts", "one"]) (sc := defScope s_lsize) (by decide +kernel)) (fun _ _ _ _ _ => pg_name (i := 2) nd rfl (by first | exact Or.inl rfl | exact Or.inr rfl)) (fun _ _ _ _ _ => pts_nil) (fun _ _ _ _ _ => (pe_g T.c_lsize G_lsize hg hr_lsize rfl pass0 (pa_cons (pv 2) pa_nil)))) pa_nil)) (pe_g T.c_lsize G_lsize hg hr_lsize rfl pass0 (pa_cons (pe_ix ix_tup (pv 0) pe_int (fun _ _ => rfl)) pa_nil))))) pss_nil)
  (pss_cons (ps_if (pt_cmpR op_eq (pe_ix ix_tup (pv 0) pe_int (fun _ _ => rfl)) pe_str (nomark _)) (pss_one (ps_ret (pe_callB (cr_sum rfl) rfl T.z_sum (by decide +kernel) (pa_cons (pe_lc (own := [("one", 2)]) rfl nd (pi_tup (pe_ix ix_tup (pv 0) pe_int (fun _ _ => rfl))) (blkOk_by (N := ["thing", "parts", "one"]) (sc := defScope s_lsize) (by decide +kernel)) (fun _ _ _ _ _ => pg_name (i := 2) nd rfl (by first | exact Or.inl rfl | exact Or.inr rfl)) (fun _ _ _ _ _ => pts_nil) (fun _ _ _ _ _ => (pe_g T.c_lsize G_lsize hg hr_lsize rfl pass0 (pa_cons (pv 2) pa_nil)))) pa_nil)))) pss_nil)
  (pss_cons (ps_set (i := 1) nd rfl (by first | exact Or.inl rfl | exact Or.inr rfl) (pe_ifExp (pt_cmpR op_in_seq (pe_ix ix_tup (pv 0) pe_int (fun _ _ => rfl)) (pe_lst (pa_cons pe_str (pa_cons pe_str pa_nil))) rfl) (pe_slice sl_tupA (pv 0) (po_some pe_int) po_none) (pe_ix ix_tup (pv 0) pe_int (fun _ _ => rfl))))
  (pss_one (ps_ret (pe_op op_add pe_int (pe_callB (cr_sum rfl) rfl T.z_sum (by decide +kernel) (pa_cons (pe_lc (own := [("one", 2)]) rfl nd (pi_tup (pv 1)) (blkOk_by (N := ["thing", "parts", "one"]) (sc := defScope s_lsize) (by decide +kernel)) (fun _ _ _ _ _ => pg_name (i := 2) nd rfl (by first | exact Or.inl rfl | exact Or.inr rfl)) (fun _ _ _ _ _ => pts_nil) (fun _ _ _ _ _ => (pe_g T.c_lsize G_lsize hg hr_lsize rfl pass0 (pa_cons (pv 2) pa_nil)))) pa_nil))))))))))), ?_⟩
    walk_at "rd"
    cases z with
    | tl tl =>
      cases tl with
      | none =>
        obtain rfl := hv.non_inv
        walk_at "rc"
        exact k H Up.rf
      | some s =>
        obtain rfl := hv.str_inv
        walk_at "rc"
        refine r_isS ?_
        walk_at "rc"
        exact k H Up.rf
    | pt p =>
      obtain ⟨kk, hk⟩ := hz
      obtain ⟨a, w1, ws, rfl, ha, h1, t⟩ := enc_inv hv
      walk_at "rc"
      refine r_isT ha ?_
      have hd' : (enc p).depth < n + 1 := hd
      have hw' : kw (enc p) ≤ 90000 := hw
      cases p with
      | star x =>
        dsimp only [Gd.hd] at ha
        walk_at "rc"
        exact k H Up.rf
      | tail x => simp [isK] at hk
      | use x vs =>
        have gx : good x := isK_hok hk
        obtain ⟨e1, e2, e3, e4, e5, e6, e7⟩ := gx.apart
        dsimp only [Gd.hd] at ha
        obtain ⟨c, ys, rfl, hc, dy⟩ := h1.tup_inv
        simp only [isK] at hk
        simp only [enc, PyData.depth, PyData.depthAll, kw, kws] at hd' hw'
        walk_at "rc"
        rename_i p1 H1 n1 u1 g1
        refine sums (m := 2) u1 (u1 _ _ hc) (dy.up u1) (fun q hq => ⟨1, isKs_iff.mp hk.2.2 q hq⟩) (fun q hq => by have := depth_mem (mem_encs hq); omega) (by omega) rfl (fun _ => rfl) (fun _ => rfl) fun D H9 u9 g9 => ?_
        walk_at "rd"
        refine r_sum g9 ?_
        walk_at "rd"
        rw [lszs_sum]
        have := k H9 u9
        simp only [Z.n, lsz] at this
        rw [Int.natCast_add] at this
        exact this
      | uni vs =>
        dsimp only [Gd.hd] at ha
        obtain ⟨c, ys, rfl, hc, dy⟩ := h1.tup_inv
        simp only [isK] at hk
        simp only [enc, PyData.depth, PyData.depthAll, kw, kws] at hd' hw'
        walk_at "rc"
        rename_i p1 H1 n1 u1 g1
        refine sums (m := 2) u1 (u1 _ _ hc) (dy.up u1) (fun q hq => ⟨4, isKs_iff.mp hk.2.2.2 q hq⟩) (fun q hq => by have := depth_mem (mem_encs hq); omega) (by omega) rfl (fun _ => rfl) (fun _ => rfl) fun D H9 u9 g9 => ?_
        walk_at "rd"
        refine r_sum g9 ?_
        walk_at "rd"
        rw [lszs_sum]
        have := k H9 u9
        simp only [Z.n, lsz] at this
        rw [Int.natCast_add] at this
        exact this
      | sig i r =>
        dsimp only [Gd.hd] at ha
        obtain ⟨u, rfl, tu⟩ := t.one
        have dy : Das H [w1, u] (encs [i, r]) := .cons h1 (.cons tu .nil)
        simp only [isK] at hk
        simp only [enc, PyData.depth, PyData.depthAll, kw, kws] at hd' hw'
        walk_at "rc"
        rename_i p1 H1 n1 u1 g1 p2 H2 u2 g2
        refine sums (m := 2) (u1.tr u2) g2 (dy.up (u1.tr u2)) (fun q hq => by
          rcases List.mem_cons.mp hq with rfl | hq
          · exact ⟨3, hk.2.1⟩
          · rw [List.mem_singleton.mp hq]; exact ⟨0, hk.2.2⟩) (fun q hq => by
          rcases List.mem_cons.mp hq with rfl | hq
          · omega
          · rw [List.mem_singleton.mp hq]; omega) (by simp only [encs, kws]; omega) rfl (fun _ => rfl) (fun _ => rfl) fun D H9 u9 g9 => ?_
        walk_at "rd"
        refine r_sum g9 ?_
        walk_at "rd"
        rw [lszs_sum]
        have := k H9 u9
        simp only [Z.n, lsz] at this
        rw [Int.natCast_add] at this
        exact this
      | dots p =>
        dsimp only [Gd.hd] at ha
        have e : ws = [] := by cases t; rfl
        subst e
        have dy : Das H [w1] (encs [p]) := .cons h1 .nil
        simp only [isK] at hk
        simp only [enc, PyData.depth, PyData.depthAll, kw, kws] at hd' hw'
        walk_at "rc"
        rename_i p1 H1 n1 u1 g1 p2 H2 u2 g2
        refine sums (m := 2) (u1.tr u2) g2 (dy.up (u1.tr u2)) (fun q hq => by rw [List.mem_singleton.mp hq]; exact ⟨0, hk.2⟩) (fun q hq => by rw [List.mem_singleton.mp hq]; omega) (by simp only [encs, kws]; omega) rfl (fun _ => rfl) (fun _ => rfl) fun D H9 u9 g9 => ?_
        walk_at "rd"
        refine r_sum g9 ?_
        walk_at "rd"
        rw [lszs_sum]
        have := k H9 u9
        simp only [Z.n, lsz] at this
        rw [Int.natCast_add] at this
        exact this
      | row vs =>
        dsimp only [Gd.hd] at ha
        obtain ⟨c, ys, rfl, hc, dy⟩ := h1.tup_inv
        simp only [isK] at hk
        simp only [enc, PyData.depth, PyData.depthAll, kw, kws] at hd' hw'
        walk_at "rc"
        refine sums (m := 2) Up.rf hc dy (fun q hq => ⟨2, isKs_iff.mp hk.2 q hq⟩) (fun q hq => by have := depth_mem (mem_encs hq); omega) (by omega) rfl (fun _ => rfl) (fun _ => rfl) fun D H9 u9 g9 => ?_
        walk_at "rd"
        refine r_sum g9 ?_
        walk_at "rd"
        rw [lszs_sum]
        have := k H9 u9
        simp only [Z.n, lsz] at this
        exact this
      | inp vs tl =>
        dsimp only [Gd.hd] at ha
        obtain ⟨c, ys, rfl, hc, dy⟩ := h1.tup_inv
        obtain ⟨u, rfl, tu⟩ := t.one
        simp only [isK] at hk
        have ht0 : (tlD tl).depth = 0 := by cases tl <;> simp [tlD, PyData.depth]
        simp only [enc, PyData.depth, PyData.depthAll, kw, kws, ht0] at hd' hw'
        walk_at "rc"
        refine sums (m := 2) Up.rf hc dy (fun q hq => ⟨2, isKs_iff.mp hk.2.1 q hq⟩) (fun q hq => by have := depth_mem (mem_encs hq); omega) (by omega) rfl (fun _ => rfl) (fun _ => rfl) fun D H9 u9 g9 => ?_
        walk_at "rd"
        refine r_sum g9 ?_
        walk_at "rd"
        refine ⟨u, .tl tl, rfl, tu.up u9, trivial, by show (tlD tl).depth < n; omega, by show kw (tlD tl) ≤ _; omega, fun H8 u8 => ?_⟩
        walk_at "rd"
        rw [lszs_sum]
        have := k H8 (u9.tr u8)
        cases tl <;> simp only [Z.n, lsz] at this ⊢ <;> rw [Int.natCast_add] at this <;> exact this
end

mutual
theorem shown_le : ∀ {H : Hp} {v : V} {d : PyData}, Da H v d → d.canLay0 = true → (PyData.shown d).length ≤ kw d
  | _, _, _, .non, _ => by simp only [PyData.shown, kw]; decide +kernel
  | _, _, _, .str x, h => by
    have := repr_le (x := x) (by simpa [PyData.canLay0] using h)
    simp only [PyData.shown, kw]
    omega
  | _, _, .tuple ds, .tup _ t, h => by
    have h1 := showns_le t (by rwa [canLay_tup] at h)
    have j := join_len (", " : Str) (PyData.shownAll ds)
    have l1 : ("(" : Str).length = 1 := by decide +kernel
    have l2 : (", " : Str).length = 2 := by decide +kernel
    have l3 : (if (PyData.shownAll ds).length == 1 then (",)" : String) else ")" : String).toList.length ≤ 2 := by split <;> decide
    have l4 : ∀ b : Bool, ((if b then ",)" else ")" : String) : Str).length ≤ 2 := by decide +kernel
    simp only [PyData.shown, kw, tupleText]
    rw [app_len, app_len, l1]
    have l5 := l4 ((PyData.shownAll ds).length == 1)
    rw [TL.join_eq, l2] at j
    omega
theorem showns_le : ∀ {H : Hp} {vs : List V} {ds : List PyData}, Das H vs ds → PyData.canLayAll0 ds = true → ((PyData.shownAll ds).map (·.length)).sum + (PyData.shownAll ds).length * 2 ≤ kws ds
  | _, _, _, .nil, _ => by simp [PyData.shownAll, kws]
  | _, _, _, .cons (d := d) (ds := ds) h t, e => by
    have hs : (PyData.canLay0 d && PyData.canLayAll0 ds) = true := by simpa [PyData.canLayAll0] using e
    rw [Bool.and_eq_true] at hs
    have h1 := shown_le h hs.1
    have h2 := showns_le t hs.2
    simp only [PyData.shownAll, kws, List.map_cons, List.sum_cons, List.length_cons]
    omega
end
mutual
theorem da_show : ∀ {H : Hp} {v : V} {d : PyData}, Da H v d → d.showable = true
  | _, _, _, .non => rfl
  | _, _, _, .str _ => rfl
  | _, _, _, .tup _ t => by simp only [PyData.showable]; exact das_show t
theorem das_show : ∀ {H : Hp} {vs : List V} {ds : List PyData}, Das H vs ds → PyData.showableAll ds = true
  | _, _, _, .nil => rfl
  | _, _, _, .cons h t => by simp only [PyData.showableAll, da_show h, das_show t, Bool.and_true]
end
mutual
theorem da_eqv : ∀ {H : Hp} {v : V} {d : PyData}, Da H v d → PyData.eqv d d = true
  | _, _, _, .non => by simp [PyData.eqv]
  | _, _, _, .str _ => by simp [PyData.eqv]
  | _, _, _, .tup _ t => by simp only [PyData.eqv]; exact das_eqv t
theorem das_eqv : ∀ {H : Hp} {vs : List V} {ds : List PyData}, Das H vs ds → PyData.eqvAll ds ds = true
  | _, _, _, .nil => by simp [PyData.eqvAll]
  | _, _, _, .cons h t => by simp only [PyData.eqvAll, da_eqv h, das_eqv t, Bool.and_true]
end
theorem r_repr {K : PySem.W.Frag} {H : Hp} {Q : VK} {v : V} {d : PyData} (h : Da H v d) (l : d.canLay0 = true) (dp : d.depth ≤ 180) (w : kw d ≤ 1000000) (q : Q (.str d.shown) H) : rRepr K [v] H Q :=
  ⟨v, d, rfl, h.dp, da_show h, dp, Nat.le_trans (shown_le h l) (Nat.le_trans w (by decide)), q⟩
theorem r_reprI {K : PySem.W.Frag} {H : Hp} {Q : VK} {n : Nat} (h : n ≤ 1000000) (q : Q (.str (PyData.shown (.int (n : Int)))) H) : rRepr K [.int (n : Int)] H Q :=
  ⟨.int n, .int n, rfl, .int _, by
    simp only [PyData.showable, decide_eq_true_eq, Int.natAbs_natCast]
    have : n < 2 ^ 20 := Nat.lt_of_le_of_lt h (by decide)
    by_cases c : n = 0
    · subst c; decide
    · exact Nat.lt_trans ((Nat.log2_lt c).mpr this) (by decide), by simp [PyData.depth], int_text_fits10 (a := (n : Int)) (Nat.lt_of_le_of_lt (by rw [Int.natAbs_natCast]; exact h) (by decide +kernel)), q⟩
section
variable {P : Program} {w : World} {K : PySem.W.Frag} {mg : Str → Option Value} {base : Heap}
def sp_lsmall : Sp := fun vs H Q _ => ∃ (b q : Addr) (ws : List Str) (d : Nat) (mo : Int), vs = [.ref b, .ref q, .int d, .int mo] ∧ Bag H b ∧ Nms H b q ws ∧ d ≤ 3 ∧
  ∀ (v : V) (p : Gd.P) (H' : Hp), Mv b H H' → Bag H' b → Da H' v (enc p) → TmD d p → Q v H'
theorem ok_lsmall (T : TX K mg w) : FG P w K mg base CX0 56 T.f_lsmall T.d_lsmall ["bag", "names", "deep", "most"] sp_lsmall := by
  have G_lterm := ok_lterm (P := P) (w := w) (base := base) T 4
  have G_lsize := ok_lsize (P := P) (w := w) (base := base) T 20
  refine Gd.ok T.F_lsmall sc_lsmall (fun vs H Q E h => ?_) (fun cdv A out s H vs Q E hg hr h => ?_)
  · obtain ⟨b, m, ws, d, mo, rfl, _⟩ := h
    rfl
  · obtain ⟨b, q, ws, d, mo, rfl, hb, hq, d3, k⟩ := h
    have nd := sc_lsmall.nd
    have hr_lterm := hr
    have hr_lsize := hr.mono (show 20 ≤ 55 by decide)
    have wl := Wd_le d3
    refine ⟨_, (pss_cons (ps_for PassesOwn.never rfl (pi_range1 rfl T.z_range (pa_cons pe_int pa_nil)) (pg_name (i := 4) nd rfl (by first | exact Or.inl rfl | exact Or.inr rfl)) (pss_cons (ps_set (i := 5) nd rfl (by first | exact Or.inl rfl | exact Or.inr rfl) (pe_g T.c_lterm G_lterm hg hr_lterm rfl pass0 (pa_cons (pv 0) (pa_cons (pv 1) (pa_cons (pv 2) pa_nil)))))
  (pss_one (ps_if (pt_cmpR op_le (pe_g T.c_lsize G_lsize hg hr_lsize rfl pass0 (pa_cons (pv 5) pa_nil)) (pv 3) (nomark _)) (pss_one (ps_ret (pv 5))) pss_nil))))
  (pss_one (ps_ret (pe_tup (pa_cons (pe_ix ix_list (pv 1) pe_int (fun _ _ => rfl)) (pa_cons (pe_tup pa_nil) pa_nil)))))), ?_⟩
    walk_at "rd"
    refine ⟨by decide, by decide, for_range (lo := 0) (n := 4) (fun i σ H1 => ∃ (x4 x5 : Option V), σ = [some (.ref b), some (.ref q), some (.int d), some (.int mo), x4, x5] ∧ Mv b H H1 ∧ Bag H1 b ∧ Nms H1 b q ws)
      ⟨_, _, rfl, Mv.rf, hb, hq⟩ ?_ ?_⟩
    · rintro i σ H1 hi ⟨x4, x5, rfl, m1, b1, q1⟩
      walk_at "rd"
      refine ⟨b, q, ws, d, rfl, b1, q1, by omega, d3, fun v p H2 m2 b2 d2 t2 => ?_⟩
      walk_at "rd"
      refine ⟨v, .pt p, rfl, d2, ⟨0, t2.cd.is⟩, by have := t2.cd.dep; show (enc p).depth < 20; omega, by have := t2.cd.wgt; show kw (enc p) ≤ _; omega, fun H3 u3 => ?_⟩
      walk_at "rd"
      refine ifD (fun c => ?_) (fun c => ?_)
      · walk_at "rd"
        exact k v p H3 (m1.tr (m2.tr u3.mv)) (b2.up u3) (d2.up u3) t2
      · walk_at "rd"
        exact ⟨_, _, rfl, m1.tr (m2.tr u3.mv), b2.up u3, (q1.mv m2).up u3⟩
    · rintro σ H1 ⟨x4, x5, rfl, m1, b1, q1⟩
      walk_at "rd"
      obtain ⟨x, gx, ex⟩ := q1.get (i := 0) (by decide) (by decide)
      refine r_ixL q1.at_ ex ?_
      walk_at "rd"
      rename_i p2 H2 n2 u2 g2 p3 H3 n3 u3 g3
      exact k _ (.use x []) _ (m1.tr (u2.tr u3).mv) (b1.up (u2.tr u3)) (.tup g3 (.cons (.str _) (.cons (.tup (u3 _ _ g2) .nil) .nil)))
        (TmD_use (Cd.use (dp := 0) (s := 0) (.inl rfl) gx nofun (by simp [encs, kws])) (by omega) (by have := Wd_ge d; omega))
theorem argD_made {H : Hp} {b a : Addr} {xs : List V} {p : Gd.P} (ht : isTm p = true) (hk : hok p) (ha : H a = some (.tup xs)) (da : Das H xs (argD p)) (hb : H b = some (.tup (if Gd.hd p = ("->" : Str) then .str (Gd.hd p) :: xs else [.str (Gd.hd p), .ref a]))) : Da H (.ref b) (enc p) := by
  by_cases c : Gd.hd p = ("->" : Str)
  · rw [if_pos c] at hb
    cases p with
    | sig i r => exact .tup hb (.cons (.str _) da)
    | use n vs => exact absurd c (by have := hk.apart.c; simpa [Gd.hd] using this)
    | uni ms => exact absurd c (by show ¬ (("|" : Str) = ("->" : Str)); decide +kernel)
    | _ => cases ht
  · rw [if_neg c] at hb
    cases p with
    | sig i r => exact absurd rfl c
    | use n vs => exact .tup hb (.cons (.str _) (.cons (.tup ha da) .nil))
    | uni ms => exact .tup hb (.cons (.str _) (.cons (.tup ha da) .nil))
    | _ => cases ht
/-- what repr and == ask of the parts of a term -/
theorem argD_ok {k dp wt : Nat} {p : Gd.P} (h : Cd k dp wt p) (ht : isTm p = true) : (PyData.tuple (argD p)).canLay0 = true ∧ (PyData.tuple (argD p)).depth ≤ dp ∧ kw (.tuple (argD p)) ≤ wt ∧ PyData.strOk (Gd.hd p) = true := by
  have h1 := h.lay
  have h2 := h.dep
  have h4 := h.wgt
  cases p <;> simp only [enc, argD, Gd.hd, PyData.canLay0, PyData.canLayAll0, PyData.depth, PyData.depthAll, kw, kws, Bool.and_true, Bool.and_eq_true] at h1 h2 h4 ⊢
  case use => exact ⟨h1.2, by omega, by omega, h1.1⟩
  case uni => exact ⟨h1.2, by omega, by omega, h1.1⟩
  case sig => exact ⟨h1.2, by omega, by omega, h1.1⟩
  all_goals cases ht
theorem siz_le (p : Gd.P) : siz p ≤ kw (enc p) := Nat.le_trans (List.length_filter_le _ _) (pre_kw p)
theorem good_a : good ("a" : Str) := ⟨by decide +kernel, by decide +kernel, by decide +kernel⟩
def sp_law (K : PySem.W.Frag) : Sp := fun vs H Q _ => ∃ (a : Addr) (ns : List Int), vs = [.ref a] ∧ SqL K H a (ns.map V.int) ∧ ns.length ≤ 63 ∧ ∀ H', Q (.bl true) H'
theorem law_ask (K : PySem.W.Frag) (H : Hp) (a : Addr) (ns : List Int) (hl : ns.length ≤ 63) (ho : Only H) (hs : SqL K H a (ns.map V.int)) : sp_law K [.ref a] H (fun v _ => v = .bl true) fun _ _ _ => False := ⟨a, ns, rfl, hs, hl, fun _ => rfl⟩
def lawK : Nat := 58
theorem ok_law (T : TX K mg w) : FG P w K mg base CX0 lawK T.f_law T.d_law ["script"] (sp_law K) := by
  have G_lbag := ok_lbag (P := P) (w := w) (base := base) T
  have G_lnames := ok_lnames (P := P) (w := w) (base := base) T
  have G_ltake := ok_ltake (P := P) (w := w) (base := base) T
  have G_lsmall := ok_lsmall (P := P) (w := w) (base := base) T
  have G_lsize := ok_lsize (P := P) (w := w) (base := base) T 20
  have G_size := ok_size (P := P) (w := w) (base := base) T
  have G_origin := ok_origin (P := P) (w := w) (base := base) T
  have G_arguments := ok_arguments (P := P) (w := w) (base := base) T
  have G_made := ok_made (P := P) (w := w) (base := base) T
  refine Gd.ok T.F_law sc_law (fun vs H Q E h => ?_) (fun cdv A out s H vs Q E hg hr h => ?_)
  · obtain ⟨a, ns, rfl, _⟩ := h
    rfl
  · obtain ⟨a, ns, rfl, ha, hn, k⟩ := h
    have nd := sc_law.nd
    have hu := hr.units
    have h200 : (A.deeper (envOfC "law" (defScope s_law) s.heap.objs.size T.f_law cdv)).units + 200 < cLine := by have := hr.un; omega
    have hr_lbag := hr.mono (show 1 ≤ 57 by decide)
    have hr_lnames := hr.mono (show 2 ≤ 57 by decide)
    have hr_ltake := hr.mono (show 1 ≤ 57 by decide)
    have hr_lsmall := hr.mono (show 56 ≤ 57 by decide)
    have hr_lsize := hr.mono (show 20 ≤ 57 by decide)
    have hr_size := hr.mono (show 3 ≤ 57 by decide)
    have hr_origin := hr.mono (show 1 ≤ 57 by decide)
    have hr_arguments := hr.mono (show 1 ≤ 57 by decide)
    have hr_made := hr.mono (show 1 ≤ 57 by decide)
    refine ⟨_, (pss_cons (ps_for PassesOwn.never rfl (pi_range1 rfl T.z_range (pa_cons (pe_callB (call_max2 rfl) rfl T.z_max (by decide +kernel) (pa_cons pe_int (pa_cons (pe_callB (call_min2 rfl) rfl T.z_min (by decide +kernel) (pa_cons pe_int (pa_cons (pe_callB call_len_seq rfl T.z_len PySem.boot_len (pa_cons (pv 0) pa_nil)) pa_nil))) pa_nil))) pa_nil)) (pg_name (i := 1) nd rfl (by first | exact Or.inl rfl | exact Or.inr rfl)) (pss_cons (ps_set (i := 2) nd rfl (by first | exact Or.inl rfl | exact Or.inr rfl) (pe_g T.c_lbag G_lbag hg hr_lbag rfl pass0 (pa_cons (pv 0) (pa_cons (pv 1) pa_nil))))
  (pss_cons (ps_set (i := 3) nd rfl (by first | exact Or.inl rfl | exact Or.inr rfl) (pe_g T.c_lnames G_lnames hg hr_lnames rfl pass0 (pa_cons (pv 2) (pa_cons pe_int pa_nil))))
  (pss_one (ps_for PassesOwn.never rfl (pi_range1 rfl T.z_range (pa_cons pe_int pa_nil)) (pg_name (i := 4) nd rfl (by first | exact Or.inl rfl | exact Or.inr rfl)) (pss_cons (ps_set (i := 5) nd rfl (by first | exact Or.inl rfl | exact Or.inr rfl) (pe_g T.c_lsmall G_lsmall hg hr_lsmall rfl pass0 (pa_cons (pv 2) (pa_cons (pv 3) (pa_cons (pe_op op_add pe_int (pe_g T.c_ltake G_ltake hg hr_ltake rfl pass0 (pa_cons (pv 2) (pa_cons pe_int pa_nil)))) (pa_cons pe_int pa_nil))))))
  (pss_cons (ps_if (PW.pt (pw_or (pt_cmpR op_ne (pe_callB (call_repr hg h200) rfl T.z_repr (by decide +kernel) (pa_cons (pe_g T.c_size G_size hg hr_size rfl pass0 (pa_cons (pv 5) pa_nil)) pa_nil)) (pe_callB (call_repr hg h200) rfl T.z_repr (by decide +kernel) (pa_cons (pe_g T.c_lsize G_lsize hg hr_lsize rfl pass0 (pa_cons (pv 5) pa_nil)) pa_nil)) (nomark _)) (pw_or1 (pt_cmpR op_ne (pe_callB (call_repr hg h200) rfl T.z_repr (by decide +kernel) (pa_cons (pe_g T.c_origin G_origin hg hr_origin rfl pass0 (pa_cons (pv 5) pa_nil)) pa_nil)) (pe_callB (call_repr hg h200) rfl T.z_repr (by decide +kernel) (pa_cons (pe_ix ix_tup (pv 5) pe_int (fun _ _ => rfl)) pa_nil)) (nomark _))))) (pss_one (ps_ret pe_bl)) pss_nil)
  (pss_cons (ps_set (i := 6) nd rfl (by first | exact Or.inl rfl | exact Or.inr rfl) (pe_ifExp (pt_cmpR op_eq (pe_ix ix_tup (pv 5) pe_int (fun _ _ => rfl)) pe_str (nomark _)) (pe_slice sl_tupA (pv 5) (po_some pe_int) po_none) (pe_ix ix_tup (pv 5) pe_int (fun _ _ => rfl))))
  (pss_cons (ps_if (PW.pt (pw_or (pt_cmpR op_ne (pe_callB (call_repr hg h200) rfl T.z_repr (by decide +kernel) (pa_cons (pe_g T.c_arguments G_arguments hg hr_arguments rfl pass0 (pa_cons (pv 5) pa_nil)) pa_nil)) (pe_callB (call_repr hg h200) rfl T.z_repr (by decide +kernel) (pa_cons (pv 6) pa_nil)) (nomark _)) (pw_or1 (pt_cmpR op_ne (pe_callB (call_repr hg h200) rfl T.z_repr (by decide +kernel) (pa_cons (pe_g T.c_made G_made hg hr_made rfl pass0 (pa_cons (pe_g T.c_origin G_origin hg hr_origin rfl pass0 (pa_cons (pv 5) pa_nil)) (pa_cons (pe_g T.c_arguments G_arguments hg hr_arguments rfl pass0 (pa_cons (pv 5) pa_nil)) pa_nil))) pa_nil)) (pe_callB (call_repr hg h200) rfl T.z_repr (by decide +kernel) (pa_cons (pv 5) pa_nil)) (nomark _))))) (pss_one (ps_ret pe_bl)) pss_nil)
  (pss_one (ps_if (PW.pt (pw_or (pt_cmpR (op_neD hu) (pe_g T.c_made G_made hg hr_made rfl pass0 (pa_cons (pe_ix ix_tup (pv 5) pe_int (fun _ _ => rfl)) (pa_cons (pv 6) pa_nil))) (pv 5) (nomark _)) (pw_or1 (pt_cmpR op_ne (pe_g T.c_size G_size hg hr_size rfl pass0 (pa_cons (pe_g T.c_made G_made hg hr_made rfl pass0 (pa_cons (pe_g T.c_origin G_origin hg hr_origin rfl pass0 (pa_cons (pv 5) pa_nil)) (pa_cons (pv 6) pa_nil))) pa_nil)) (pe_g T.c_lsize G_lsize hg hr_lsize rfl pass0 (pa_cons (pv 5) pa_nil)) (nomark _))))) (pss_one (ps_ret pe_bl)) pss_nil)))))))))))
  (pss_one (ps_ret (pe_and (pe_cmpR op_eq (pe_g T.c_size G_size hg hr_size rfl pass0 (pa_cons (pe_tup (pa_cons pe_str (pa_cons (pe_tup pa_nil) pa_nil))) pa_nil)) pe_int (nomark _)) (pe_and (pe_cmpR (op_eqD hu) (pe_g T.c_made G_made hg hr_made rfl pass0 (pa_cons pe_str (pa_cons (pe_tup pa_nil) pa_nil))) (pe_tup (pa_cons pe_str (pa_cons (pe_tup pa_nil) pa_nil))) (nomark _)) (pe_one (pe_cmpR op_eq (pe_g T.c_size G_size hg hr_size rfl pass0 (pa_cons (pe_tup (pa_cons pe_str (pa_cons (pe_tup (pa_cons (pe_tup (pa_cons pe_str (pa_cons (pe_tup pa_nil) pa_nil))) pa_nil)) pa_nil))) pa_nil)) pe_int (nomark _)))))))), ?_⟩
    walk_at "rd"
    refine ⟨a, _, rfl, Or.inl ha, ?_⟩
    walk_at "rd"
    generalize ((List.map V.int ns).length : Int) = L
    generalize hj : (if (if L < 2 then L else 2) > 1 then (if L < 2 then L else 2) else 1 : Int) = j
    have hj2 : 0 ≤ j ∧ j ≤ 2 := by
      subst hj
      split <;> split at * <;> omega
    obtain ⟨j0, j2⟩ := hj2
    refine ⟨by omega, by omega, for_range (lo := 0) (n := j.toNat) (fun i σ H1 => ∃ (x1 x2 x3 x4 x5 x6 : Option V), σ = [some (.ref a), x1, x2, x3, x4, x5, x6] ∧ Up H H1) ⟨_, _, _, _, _, _, rfl, Up.rf⟩ ?_ ?_⟩
    · rintro i σ H1 hi ⟨x1, x2, x3, x4, x5, x6, rfl, u1⟩
      walk_at "rd"
      refine ⟨a, _, ns, rfl, SqLup u1 ha, by omega, by omega, fun b H2 n2 u2 b2 => ?_⟩
      walk_at "rd"
      refine ⟨b, 11, rfl, b2, by decide, by decide, fun q st f pc H3 n3 m3 b3 l3 hc f0 f1 hpc g3 => ?_⟩
      have q3 : Nms H3 b q ((List.range 11).map fun n => nmAt st f pc n) := ⟨by rw [List.map_map]; exact g3, by simp, fun x hx => by
        obtain ⟨n, _, rfl⟩ := List.mem_map.mp hx
        exact nmAt_good l3 hc, b2.ne n3⟩
      have nb : H b = none := u1.fr n2
      have u03 : Up H H3 := (u1.tr u2).of nb m3
      generalize (List.range 11).map (fun n => nmAt st f pc n) = ws at q3
      walk_at "rd"
      refine ⟨by decide, by decide, for_range (lo := 0) (n := 14) (fun i' σ H4 => ∃ (x4 x5 x6 : Option V), σ = [some (.ref a), some (.int (0 + i)), some (.ref b), some (.ref q), x4, x5, x6] ∧ Mv b H3 H4 ∧ Bag H4 b ∧ Nms H4 b q ws) ⟨_, _, _, rfl, Mv.rf, b3, q3⟩ ?_ ?_⟩
      · rintro i' σ H4 hi' ⟨x4, x5, x6, rfl, m4, b4, q4⟩
        walk_at "rd"
        refine ⟨b, 3, rfl, b4, by decide, by decide, fun r H5 r0 r1 m5 b5 => ?_⟩
        obtain ⟨rn, rfl⟩ := Int.eq_ofNat_of_zero_le r0
        walk_at "rd"
        refine ⟨b, q, ws, 1 + rn, 60, by rw [show (1 : Int) + (rn : Int) = ((1 + rn : Nat) : Int) by omega], b5, q4.mv m5, by omega, fun v p H6 m6 b6 d6 t6 => ?_⟩
        have hhok := isK_hok t6.cd.is
        have wl := Wd_le (show 1 + rn ≤ 3 by omega)
        have dp6 := t6.cd.dep
        have wg6 := t6.cd.wgt
        have sl6 := siz_le p
        walk_at "rd"
        refine ⟨v, p, rfl, d6, isK_pre p 0 t6.cd.is, by omega, fun H7 u7 => ?_⟩
        walk_at "rd"
        refine r_reprI (by omega) ?_
        walk_at "rd"
        refine ⟨v, .pt p, rfl, d6.up u7, ⟨0, t6.cd.is⟩, by show (enc p).depth < 20; omega, by show kw (enc p) ≤ _; omega, fun H8 u8 => ?_⟩
        walk_at "rd"
        show rRepr _ [.int ((lsz p : Nat) : Int)] _ _
        rw [lsz_siz]
        refine r_reprI (by omega) ?_
        walk_at "rc"
        have u68 := u7.tr u8
        clear u7 u8
        refine ⟨v, p, rfl, d6.up u68, fun H9 u9 => ?_⟩
        have hso : PyData.strOk (Gd.hd p) = true := by
          have := t6.cd.lay
          rw [enc_eq, canLay_tup] at this
          have := lay_mem this (m := .str (Gd.hd p)) (by simp)
          simpa [PyData.canLay0] using this
        have hlen : (Gd.hd p).length ≤ 900 := by
          have h1 := t6.cd.wgt
          rw [enc_eq, kw_tup] at h1
          have := kw_mem (m := .str (Gd.hd p)) (l := .str (Gd.hd p) :: sec p :: more p) (by simp)
          simp only [kw] at this
          omega
        walk_at "rd"
        refine r_repr (d := .str (Gd.hd p)) (.str _) (by simpa [PyData.canLay0] using hso) (by simp [PyData.depth]) (by simp only [kw]; omega) ?_
        walk_at "rd"
        have u69 := u68.tr u9
        clear u68 u9
        obtain ⟨ax, w1, wr, rfl, hax, h1, t1⟩ := enc_inv d6
        refine r_ixT (u69 _ _ hax) at0 ?_
        walk_at "rd"
        refine r_repr (d := .str (Gd.hd p)) (.str _) (by simpa [PyData.canLay0] using hso) (by simp [PyData.depth]) (by simp only [kw]; omega) ?_
        walk_at "rc"
        have hax9 := u69 _ _ hax
        have h19 := h1.up u69
        have t19 := t1.up u69
        cases p with
        | use n vs =>
          have ao := argD_ok t6.cd rfl
          obtain ⟨e1, e2, e3, e4, e5, e6, e7⟩ := good.apart hhok
          dsimp only [Gd.hd] at hax9
          obtain ⟨pa, xs, rfl, g8, dx8⟩ := h19.tup_inv
          refine ifF e3 ?_
          walk_at "rc"
          have u68 : Up H6 H9 := u69
          generalize H9 = H8 at *
          have lxs : xs.length = (argD (.use n vs)).length := dx8.length
          have lax : (argD (.use n vs)).length ≤ kws (argD (.use n vs)) := by
            generalize argD (.use n vs) = l
            induction l with
            | nil => simp
            | cons x r ih => simp only [kws, List.length_cons]; omega
          have wa := ao.2.2.1
          rw [kw_tup] at wa
          have d8 := d6.up u68
          walk_at "rd"
          refine ⟨_, (.use n vs), rfl, d8, hhok, rfl, fun a9 xs9 H9 u9 g9 d9 => ?_⟩
          walk_at "rd"
          refine r_repr (d := .tuple (argD (.use n vs))) (.tup g9 d9) ao.1 (by omega) (by omega) ?_
          walk_at "rd"
          refine r_repr (d := .tuple (argD (.use n vs))) (.tup (u9 _ _ g8) (dx8.up u9)) ao.1 (by omega) (by omega) ?_
          walk_at "rc"
          refine ⟨_, (.use n vs), rfl, d8.up u9, fun H10 u10 => ?_⟩
          walk_at "rd"
          refine ⟨_, (.use n vs), rfl, (d8.up u9).up u10, hhok, rfl, fun a11 xs11 H11 u11 g11 d11 => ?_⟩
          walk_at "rd"
          have l11 := d11.length
          refine ⟨Gd.hd (.use n vs), a11, xs11, rfl, g11, by omega, fun b12 H12 u12 g12 => ?_⟩
          walk_at "rd"
          refine r_repr (d := enc (.use n vs)) (argD_made rfl hhok (u12 _ _ g11) (d11.up u12) g12) t6.cd.lay (by omega) (by omega) ?_
          have u812 : Up H8 H12 := u9.tr (u10.tr (u11.tr u12))
          walk_at "rd"
          refine r_repr (d := enc (.use n vs)) (d8.up u812) t6.cd.lay (by omega) (by omega) ?_
          walk_at "rc"
          refine ⟨Gd.hd (.use n vs), pa, xs, rfl, u812 _ _ g8, by omega, fun b13 H13 u13 g13 => ?_⟩
          walk_at "rd"
          refine r_neD (d := enc (.use n vs)) (e := enc (.use n vs)) (argD_made rfl hhok (u13 _ _ (u812 _ _ g8)) (dx8.up (u812.tr u13)) g13) (d8.up (u812.tr u13)) t6.cd.lay (by omega) t6.cd.lay (by omega) ?_
          rw [da_eqv d6]
          walk_at "rc"
          refine ⟨_, (.use n vs), rfl, d8.up (u812.tr u13), fun H14 u14 => ?_⟩
          walk_at "rd"
          refine ⟨Gd.hd (.use n vs), pa, xs, rfl, u14 _ _ (u13 _ _ (u812 _ _ g8)), by omega, fun b15 H15 u15 g15 => ?_⟩
          walk_at "rd"
          have u815 : Up H8 H15 := u812.tr (u13.tr (u14.tr u15))
          refine ⟨_, (.use n vs), rfl, argD_made rfl hhok (u815 _ _ g8) (dx8.up u815) g15, isK_pre _ 0 t6.cd.is, by omega, fun H16 u16 => ?_⟩
          walk_at "rd"
          refine ⟨_, .pt (.use n vs), rfl, d8.up (u815.tr u16), ⟨0, t6.cd.is⟩, by show (enc _).depth < 20; omega, by show kw (enc _) ≤ _; omega, fun H17 u17 => ?_⟩
          walk_at "rd"
          refine ifN (fun c => absurd (by show ((siz (.use n vs) : Nat) : Int) = ((lsz (.use n vs) : Nat) : Int); rw [lsz_siz]) c) (fun c => ?_)
          walk_at "rd"
          have u617 : Up H6 H17 := u68.tr (u815.tr (u16.tr u17))
          exact ⟨_, _, _, rfl, m4.tr (m5.tr (m6.tr u617.mv)), b6.up u617, ((q4.mv m5).mv m6).up u617⟩
        | uni vs =>
          have ao := argD_ok t6.cd rfl
          dsimp only [Gd.hd] at hax9
          obtain ⟨pa, xs, rfl, g8, dx8⟩ := h19.tup_inv
          refine ifF (show decide (("|" : Str) = ("->" : Str)) = false by decide +kernel) ?_
          walk_at "rc"
          have u68 : Up H6 H9 := u69
          generalize H9 = H8 at *
          have lxs : xs.length = (argD (.uni vs)).length := dx8.length
          have lax : (argD (.uni vs)).length ≤ kws (argD (.uni vs)) := by
            generalize argD (.uni vs) = l
            induction l with
            | nil => simp
            | cons x r ih => simp only [kws, List.length_cons]; omega
          have wa := ao.2.2.1
          rw [kw_tup] at wa
          have d8 := d6.up u68
          walk_at "rd"
          refine ⟨_, (.uni vs), rfl, d8, hhok, rfl, fun a9 xs9 H9 u9 g9 d9 => ?_⟩
          walk_at "rd"
          refine r_repr (d := .tuple (argD (.uni vs))) (.tup g9 d9) ao.1 (by omega) (by omega) ?_
          walk_at "rd"
          refine r_repr (d := .tuple (argD (.uni vs))) (.tup (u9 _ _ g8) (dx8.up u9)) ao.1 (by omega) (by omega) ?_
          walk_at "rc"
          refine ⟨_, (.uni vs), rfl, d8.up u9, fun H10 u10 => ?_⟩
          walk_at "rd"
          refine ⟨_, (.uni vs), rfl, (d8.up u9).up u10, hhok, rfl, fun a11 xs11 H11 u11 g11 d11 => ?_⟩
          walk_at "rd"
          have l11 := d11.length
          refine ⟨Gd.hd (.uni vs), a11, xs11, rfl, g11, by omega, fun b12 H12 u12 g12 => ?_⟩
          walk_at "rd"
          refine r_repr (d := enc (.uni vs)) (argD_made rfl hhok (u12 _ _ g11) (d11.up u12) g12) t6.cd.lay (by omega) (by omega) ?_
          have u812 : Up H8 H12 := u9.tr (u10.tr (u11.tr u12))
          walk_at "rd"
          refine r_repr (d := enc (.uni vs)) (d8.up u812) t6.cd.lay (by omega) (by omega) ?_
          walk_at "rc"
          refine ⟨Gd.hd (.uni vs), pa, xs, rfl, u812 _ _ g8, by omega, fun b13 H13 u13 g13 => ?_⟩
          walk_at "rd"
          refine r_neD (d := enc (.uni vs)) (e := enc (.uni vs)) (argD_made rfl hhok (u13 _ _ (u812 _ _ g8)) (dx8.up (u812.tr u13)) g13) (d8.up (u812.tr u13)) t6.cd.lay (by omega) t6.cd.lay (by omega) ?_
          rw [da_eqv d6]
          walk_at "rc"
          refine ⟨_, (.uni vs), rfl, d8.up (u812.tr u13), fun H14 u14 => ?_⟩
          walk_at "rd"
          refine ⟨Gd.hd (.uni vs), pa, xs, rfl, u14 _ _ (u13 _ _ (u812 _ _ g8)), by omega, fun b15 H15 u15 g15 => ?_⟩
          walk_at "rd"
          have u815 : Up H8 H15 := u812.tr (u13.tr (u14.tr u15))
          refine ⟨_, (.uni vs), rfl, argD_made rfl hhok (u815 _ _ g8) (dx8.up u815) g15, isK_pre _ 0 t6.cd.is, by omega, fun H16 u16 => ?_⟩
          walk_at "rd"
          refine ⟨_, .pt (.uni vs), rfl, d8.up (u815.tr u16), ⟨0, t6.cd.is⟩, by show (enc _).depth < 20; omega, by show kw (enc _) ≤ _; omega, fun H17 u17 => ?_⟩
          walk_at "rd"
          refine ifN (fun c => absurd (by show ((siz (.uni vs) : Nat) : Int) = ((lsz (.uni vs) : Nat) : Int); rw [lsz_siz]) c) (fun c => ?_)
          walk_at "rd"
          have u617 : Up H6 H17 := u68.tr (u815.tr (u16.tr u17))
          exact ⟨_, _, _, rfl, m4.tr (m5.tr (m6.tr u617.mv)), b6.up u617, ((q4.mv m5).mv m6).up u617⟩
        | sig i2 r2 =>
          have ao := argD_ok t6.cd rfl
          dsimp only [Gd.hd] at hax9
          obtain ⟨u, rfl, tu⟩ := t19.one
          refine ifT (show decide (("->" : Str) = ("->" : Str)) = true by decide +kernel) ?_
          walk_at "rc"
          rename_i pa H8 u8 g8
          have u68 : Up H6 H8 := u69.tr u8
          have dx8 : Das H8 [w1, u] (argD (.sig i2 r2)) := .cons (h19.up u8) (.cons (tu.up u8) .nil)
          generalize hxs : [w1, u] = xs at g8 dx8
          have lxs : xs.length = (argD (.sig i2 r2)).length := dx8.length
          have lax : (argD (.sig i2 r2)).length ≤ kws (argD (.sig i2 r2)) := by
            generalize argD (.sig i2 r2) = l
            induction l with
            | nil => simp
            | cons x r ih => simp only [kws, List.length_cons]; omega
          have wa := ao.2.2.1
          rw [kw_tup] at wa
          have d8 := d6.up u68
          walk_at "rd"
          refine ⟨_, (.sig i2 r2), rfl, d8, hhok, rfl, fun a9 xs9 H9 u9 g9 d9 => ?_⟩
          walk_at "rd"
          refine r_repr (d := .tuple (argD (.sig i2 r2))) (.tup g9 d9) ao.1 (by omega) (by omega) ?_
          walk_at "rd"
          refine r_repr (d := .tuple (argD (.sig i2 r2))) (.tup (u9 _ _ g8) (dx8.up u9)) ao.1 (by omega) (by omega) ?_
          walk_at "rc"
          refine ⟨_, (.sig i2 r2), rfl, d8.up u9, fun H10 u10 => ?_⟩
          walk_at "rd"
          refine ⟨_, (.sig i2 r2), rfl, (d8.up u9).up u10, hhok, rfl, fun a11 xs11 H11 u11 g11 d11 => ?_⟩
          walk_at "rd"
          have l11 := d11.length
          refine ⟨Gd.hd (.sig i2 r2), a11, xs11, rfl, g11, by omega, fun b12 H12 u12 g12 => ?_⟩
          walk_at "rd"
          refine r_repr (d := enc (.sig i2 r2)) (argD_made rfl hhok (u12 _ _ g11) (d11.up u12) g12) t6.cd.lay (by omega) (by omega) ?_
          have u812 : Up H8 H12 := u9.tr (u10.tr (u11.tr u12))
          walk_at "rd"
          refine r_repr (d := enc (.sig i2 r2)) (d8.up u812) t6.cd.lay (by omega) (by omega) ?_
          walk_at "rc"
          refine ⟨Gd.hd (.sig i2 r2), pa, xs, rfl, u812 _ _ g8, by omega, fun b13 H13 u13 g13 => ?_⟩
          walk_at "rd"
          refine r_neD (d := enc (.sig i2 r2)) (e := enc (.sig i2 r2)) (argD_made rfl hhok (u13 _ _ (u812 _ _ g8)) (dx8.up (u812.tr u13)) g13) (d8.up (u812.tr u13)) t6.cd.lay (by omega) t6.cd.lay (by omega) ?_
          rw [da_eqv d6]
          walk_at "rc"
          refine ⟨_, (.sig i2 r2), rfl, d8.up (u812.tr u13), fun H14 u14 => ?_⟩
          walk_at "rd"
          refine ⟨Gd.hd (.sig i2 r2), pa, xs, rfl, u14 _ _ (u13 _ _ (u812 _ _ g8)), by omega, fun b15 H15 u15 g15 => ?_⟩
          walk_at "rd"
          have u815 : Up H8 H15 := u812.tr (u13.tr (u14.tr u15))
          refine ⟨_, (.sig i2 r2), rfl, argD_made rfl hhok (u815 _ _ g8) (dx8.up u815) g15, isK_pre _ 0 t6.cd.is, by omega, fun H16 u16 => ?_⟩
          walk_at "rd"
          refine ⟨_, .pt (.sig i2 r2), rfl, d8.up (u815.tr u16), ⟨0, t6.cd.is⟩, by show (enc _).depth < 20; omega, by show kw (enc _) ≤ _; omega, fun H17 u17 => ?_⟩
          walk_at "rd"
          refine ifN (fun c => absurd (by show ((siz (.sig i2 r2) : Nat) : Int) = ((lsz (.sig i2 r2) : Nat) : Int); rw [lsz_siz]) c) (fun c => ?_)
          walk_at "rd"
          have u617 : Up H6 H17 := u68.tr (u815.tr (u16.tr u17))
          exact ⟨_, _, _, rfl, m4.tr (m5.tr (m6.tr u617.mv)), b6.up u617, ((q4.mv m5).mv m6).up u617⟩
        | _ => exact absurd t6.cd.is (by simp [isK])
      · rintro σ H4 ⟨x4, x5, x6, rfl, m4, b4, q4⟩
        exact ⟨_, _, _, _, _, _, rfl, u03.of nb m4⟩
    · rintro σ H1 ⟨x1, x2, x3, x4, x5, x6, rfl, u1⟩
      walk_at "rd"
      rename_i pu H2 n2 u2 g2 pa H3 n3 u3 g3
      have da : Da H3 (.ref pa) (enc (.use ("a" : Str) [])) := .tup g3 (.cons (.str _) (.cons (.tup (u3 _ _ g2) .nil) .nil))
      refine ⟨_, .use ("a" : Str) [], rfl, da, fun q hq => by rw [show q = .use ("a" : Str) [] from by simpa [pre, pres] using hq]; exact good_a, by decide +kernel, fun H4 u4 => ?_⟩
      walk_at "rc"
      rename_i pv H5 n5 u5 g5
      refine ⟨("a" : Str), pv, [], rfl, g5, by simp, fun b6 H6 u6 g6 => ?_⟩
      rw [if_neg (by decide +kernel)] at g6
      have db : Da H6 (.ref b6) (enc (.use ("a" : Str) [])) := .tup g6 (.cons (.str _) (.cons (.tup (u6 _ _ g5) .nil) .nil))
      walk_at "rd"
      rename_i pw H7 n7 u7 g7 px H8 n8 u8 g8
      have dc : Da H8 (.ref px) (enc (.use ("a" : Str) [])) := .tup g8 (.cons (.str _) (.cons (.tup (u8 _ _ g7) .nil) .nil))
      refine r_eqD ((db.up u7).up u8) dc (by decide +kernel) (by decide +kernel) (by decide +kernel) (by decide +kernel) ?_
      rw [da_eqv dc]
      walk_at "rc"
      rename_i p1 H9 n9 u9 g9 p2 H10 n10 u10 g10 p3 H11 n11 u11 g11 p4 H12 n12 u12 g12
      have dd : Da H12 (.ref p4) (enc (.use ("a" : Str) [.row []])) :=
        .tup g12 (.cons (.str _) (.cons (.tup (u12 _ _ g11) (.cons (.tup (u12 _ _ (u11 _ _ g10)) (.cons (.str _) (.cons (.tup (u12 _ _ (u11 _ _ (u10 _ _ g9))) .nil) .nil))) .nil)) .nil))
      refine ⟨_, .use ("a" : Str) [.row []], rfl, dd, fun q hq => ?_, by decide +kernel, fun H13 u13 => ?_⟩
      · have : q = .use ("a" : Str) [.row []] ∨ q = .row [] := by simpa [pre, pres] using hq
        rcases this with rfl | rfl
        · exact good_a
        · exact trivial
      · walk_at "rc"
        exact k _
end

theorem all_mk {l : PySem.W.OpenLaw} {w : World} {K : PySem.W.Frag} {h : Heap} {mg : Str → Option Value} {fa f0 f1 f2 f3 f4 f5 f6 f7 f8 f9 f10 f11 f12 f13 f14 f15 f16 f17 : Addr} (X : K.In h) (G : h.Ns mainGlobals mg) (hfa : mg "law" = some (.ref fa))
    {od0 an0 : Option Addr} {sl0 : Array (Option Value)} {oc0 kV0 dc0 pm0 cd0 ct0 : Value}
    (a0 : PySem.W.nsIn K mainGlobals "parts_of" = some (some (.ref f0)))
    (l0 : K.lookup f0 = some ⟨oc0, od0, .func (PySem.W.fnOf "parts_of" "parts_of" (defArgs s_parts_of) (defBody s_parts_of) (defScope s_parts_of) .none kV0 dc0 pm0 an0 cd0 ct0), sl0⟩) (x0 : PySem.W.codeIn K cd0 "parts_of" = true) (k0 : PySem.W.keepIn K (.ref f0) = true)
    {od1 an1 : Option Addr} {sl1 : Array (Option Value)} {oc1 kV1 dc1 pm1 cd1 ct1 : Value}
    (a1 : PySem.W.nsIn K mainGlobals "all_parts" = some (some (.ref f1)))
    (l1 : K.lookup f1 = some ⟨oc1, od1, .func (PySem.W.fnOf "all_parts" "all_parts" (defArgs s_all_parts) (defBody s_all_parts) (defScope s_all_parts) .none kV1 dc1 pm1 an1 cd1 ct1), sl1⟩) (x1 : PySem.W.codeIn K cd1 "all_parts" = true) (k1 : PySem.W.keepIn K (.ref f1) = true)
    {od2 an2 : Option Addr} {sl2 : Array (Option Value)} {oc2 kV2 dc2 pm2 cd2 ct2 : Value}
    (a2 : PySem.W.nsIn K mainGlobals "is_node" = some (some (.ref f2)))
    (l2 : K.lookup f2 = some ⟨oc2, od2, .func (PySem.W.fnOf "is_node" "is_node" (defArgs s_is_node) (defBody s_is_node) (defScope s_is_node) .none kV2 dc2 pm2 an2 cd2 ct2), sl2⟩) (x2 : PySem.W.codeIn K cd2 "is_node" = true) (k2 : PySem.W.keepIn K (.ref f2) = true)
    {od3 an3 : Option Addr} {sl3 : Array (Option Value)} {oc3 kV3 dc3 pm3 cd3 ct3 : Value}
    (a3 : PySem.W.nsIn K mainGlobals "size" = some (some (.ref f3)))
    (l3 : K.lookup f3 = some ⟨oc3, od3, .func (PySem.W.fnOf "size" "size" (defArgs s_size) (defBody s_size) (defScope s_size) .none kV3 dc3 pm3 an3 cd3 ct3), sl3⟩) (x3 : PySem.W.codeIn K cd3 "size" = true) (k3 : PySem.W.keepIn K (.ref f3) = true)
    {od4 an4 : Option Addr} {sl4 : Array (Option Value)} {oc4 kV4 dc4 pm4 cd4 ct4 : Value}
    (a4 : PySem.W.nsIn K mainGlobals "origin" = some (some (.ref f4)))
    (l4 : K.lookup f4 = some ⟨oc4, od4, .func (PySem.W.fnOf "origin" "origin" (defArgs s_origin) (defBody s_origin) (defScope s_origin) .none kV4 dc4 pm4 an4 cd4 ct4), sl4⟩) (x4 : PySem.W.codeIn K cd4 "origin" = true) (k4 : PySem.W.keepIn K (.ref f4) = true)
    {od5 an5 : Option Addr} {sl5 : Array (Option Value)} {oc5 kV5 dc5 pm5 cd5 ct5 : Value}
    (a5 : PySem.W.nsIn K mainGlobals "arguments" = some (some (.ref f5)))
    (l5 : K.lookup f5 = some ⟨oc5, od5, .func (PySem.W.fnOf "arguments" "arguments" (defArgs s_arguments) (defBody s_arguments) (defScope s_arguments) .none kV5 dc5 pm5 an5 cd5 ct5), sl5⟩) (x5 : PySem.W.codeIn K cd5 "arguments" = true) (k5 : PySem.W.keepIn K (.ref f5) = true)
    {od6 an6 : Option Addr} {sl6 : Array (Option Value)} {oc6 kV6 dc6 pm6 cd6 ct6 : Value}
    (a6 : PySem.W.nsIn K mainGlobals "made" = some (some (.ref f6)))
    (l6 : K.lookup f6 = some ⟨oc6, od6, .func (PySem.W.fnOf "made" "made" (defArgs s_made) (defBody s_made) (defScope s_made) .none kV6 dc6 pm6 an6 cd6 ct6), sl6⟩) (x6 : PySem.W.codeIn K cd6 "made" = true) (k6 : PySem.W.keepIn K (.ref f6) = true)
    {od7 an7 : Option Addr} {sl7 : Array (Option Value)} {oc7 kV7 dc7 pm7 cd7 ct7 : Value}
    (a7 : PySem.W.nsIn K mainGlobals "_law_bag" = some (some (.ref f7)))
    (l7 : K.lookup f7 = some ⟨oc7, od7, .func (PySem.W.fnOf "_law_bag" "_law_bag" (defArgs s_lbag) (defBody s_lbag) (defScope s_lbag) .none kV7 dc7 pm7 an7 cd7 ct7), sl7⟩) (x7 : PySem.W.codeIn K cd7 "_law_bag" = true) (k7 : PySem.W.keepIn K (.ref f7) = true)
    {od8 an8 : Option Addr} {sl8 : Array (Option Value)} {oc8 kV8 dc8 pm8 cd8 ct8 : Value}
    (a8 : PySem.W.nsIn K mainGlobals "_law_take" = some (some (.ref f8)))
    (l8 : K.lookup f8 = some ⟨oc8, od8, .func (PySem.W.fnOf "_law_take" "_law_take" (defArgs s_ltake) (defBody s_ltake) (defScope s_ltake) .none kV8 dc8 pm8 an8 cd8 ct8), sl8⟩) (x8 : PySem.W.codeIn K cd8 "_law_take" = true) (k8 : PySem.W.keepIn K (.ref f8) = true)
    {od9 an9 : Option Addr} {sl9 : Array (Option Value)} {oc9 kV9 dc9 pm9 cd9 ct9 : Value}
    (a9 : PySem.W.nsIn K mainGlobals "_law_names" = some (some (.ref f9)))
    (l9 : K.lookup f9 = some ⟨oc9, od9, .func (PySem.W.fnOf "_law_names" "_law_names" (defArgs s_lnames) (defBody s_lnames) (defScope s_lnames) .none kV9 dc9 pm9 an9 cd9 ct9), sl9⟩) (x9 : PySem.W.codeIn K cd9 "_law_names" = true) (k9 : PySem.W.keepIn K (.ref f9) = true)
    {od10 an10 : Option Addr} {sl10 : Array (Option Value)} {oc10 kV10 dc10 pm10 cd10 ct10 : Value}
    (a10 : PySem.W.nsIn K mainGlobals "_law_key" = some (some (.ref f10)))
    (l10 : K.lookup f10 = some ⟨oc10, od10, .func (PySem.W.fnOf "_law_key" "_law_key" (defArgs s_lkey) (defBody s_lkey) (defScope s_lkey) .none kV10 dc10 pm10 an10 cd10 ct10), sl10⟩) (x10 : PySem.W.codeIn K cd10 "_law_key" = true) (k10 : PySem.W.keepIn K (.ref f10) = true)
    {od11 an11 : Option Addr} {sl11 : Array (Option Value)} {oc11 kV11 dc11 pm11 cd11 ct11 : Value}
    (a11 : PySem.W.nsIn K mainGlobals "_law_joined" = some (some (.ref f11)))
    (l11 : K.lookup f11 = some ⟨oc11, od11, .func (PySem.W.fnOf "_law_joined" "_law_joined" (defArgs s_ljoined) (defBody s_ljoined) (defScope s_ljoined) .none kV11 dc11 pm11 an11 cd11 ct11), sl11⟩) (x11 : PySem.W.codeIn K cd11 "_law_joined" = true) (k11 : PySem.W.keepIn K (.ref f11) = true)
    {od12 an12 : Option Addr} {sl12 : Array (Option Value)} {oc12 kV12 dc12 pm12 cd12 ct12 : Value}
    (a12 : PySem.W.nsIn K mainGlobals "_law_item" = some (some (.ref f12)))
    (l12 : K.lookup f12 = some ⟨oc12, od12, .func (PySem.W.fnOf "_law_item" "_law_item" (defArgs s_litem) (defBody s_litem) (defScope s_litem) .none kV12 dc12 pm12 an12 cd12 ct12), sl12⟩) (x12 : PySem.W.codeIn K cd12 "_law_item" = true) (k12 : PySem.W.keepIn K (.ref f12) = true)
    {od13 an13 : Option Addr} {sl13 : Array (Option Value)} {oc13 kV13 dc13 pm13 cd13 ct13 : Value}
    (a13 : PySem.W.nsIn K mainGlobals "_law_inputs" = some (some (.ref f13)))
    (l13 : K.lookup f13 = some ⟨oc13, od13, .func (PySem.W.fnOf "_law_inputs" "_law_inputs" (defArgs s_linputs) (defBody s_linputs) (defScope s_linputs) .none kV13 dc13 pm13 an13 cd13 ct13), sl13⟩) (x13 : PySem.W.codeIn K cd13 "_law_inputs" = true) (k13 : PySem.W.keepIn K (.ref f13) = true)
    {od14 an14 : Option Addr} {sl14 : Array (Option Value)} {oc14 kV14 dc14 pm14 cd14 ct14 : Value}
    (a14 : PySem.W.nsIn K mainGlobals "_law_term" = some (some (.ref f14)))
    (l14 : K.lookup f14 = some ⟨oc14, od14, .func (PySem.W.fnOf "_law_term" "_law_term" (defArgs s_lterm) (defBody s_lterm) (defScope s_lterm) .none kV14 dc14 pm14 an14 cd14 ct14), sl14⟩) (x14 : PySem.W.codeIn K cd14 "_law_term" = true) (k14 : PySem.W.keepIn K (.ref f14) = true)
    {od15 an15 : Option Addr} {sl15 : Array (Option Value)} {oc15 kV15 dc15 pm15 cd15 ct15 : Value}
    (a15 : PySem.W.nsIn K mainGlobals "_law_size" = some (some (.ref f15)))
    (l15 : K.lookup f15 = some ⟨oc15, od15, .func (PySem.W.fnOf "_law_size" "_law_size" (defArgs s_lsize) (defBody s_lsize) (defScope s_lsize) .none kV15 dc15 pm15 an15 cd15 ct15), sl15⟩) (x15 : PySem.W.codeIn K cd15 "_law_size" = true) (k15 : PySem.W.keepIn K (.ref f15) = true)
    {od16 an16 : Option Addr} {sl16 : Array (Option Value)} {oc16 kV16 dc16 pm16 cd16 ct16 : Value}
    (a16 : PySem.W.nsIn K mainGlobals "_law_small" = some (some (.ref f16)))
    (l16 : K.lookup f16 = some ⟨oc16, od16, .func (PySem.W.fnOf "_law_small" "_law_small" (defArgs s_lsmall) (defBody s_lsmall) (defScope s_lsmall) .none kV16 dc16 pm16 an16 cd16 ct16), sl16⟩) (x16 : PySem.W.codeIn K cd16 "_law_small" = true) (k16 : PySem.W.keepIn K (.ref f16) = true)
    {od17 an17 : Option Addr} {sl17 : Array (Option Value)} {oc17 kV17 dc17 pm17 cd17 ct17 : Value}
    (a17 : PySem.W.nsIn K mainGlobals "law" = some (some (.ref f17)))
    (l17 : K.lookup f17 = some ⟨oc17, od17, .func (PySem.W.fnOf "law" "law" (defArgs s_law) (defBody s_law) (defScope s_law) .none kV17 dc17 pm17 an17 cd17 ct17), sl17⟩) (x17 : PySem.W.codeIn K cd17 "law" = true) (k17 : PySem.W.keepIn K (.ref f17) = true)
    {od_0 : Addr} {es_0 : Array DictEntry} {nn_0 : Nat} (ag_0 : PySem.W.nsIn K mainGlobals "_OTHERS" = some (some (.ref od_0))) (lg_0 : K.lookup od_0 = some ⟨.type "dict", none, .dict es_0 nn_0, #[]⟩) (kg_0 : es_0.toList.map He.keyOf = He.keysIn w.params ["*", "**", "->", "...", "()"]) (sg_0 : (od_0 == sysModules) = false)
    (z_abs : PySem.W.nsIn K mainGlobals "abs" = some none)
    (z_int : PySem.W.nsIn K mainGlobals "int" = some none)
    (z_isinstance : PySem.W.nsIn K mainGlobals "isinstance" = some none)
    (z_len : PySem.W.nsIn K mainGlobals "len" = some none)
    (z_max : PySem.W.nsIn K mainGlobals "max" = some none)
    (z_min : PySem.W.nsIn K mainGlobals "min" = some none)
    (z_range : PySem.W.nsIn K mainGlobals "range" = some none)
    (z_repr : PySem.W.nsIn K mainGlobals "repr" = some none)
    (z_sorted : PySem.W.nsIn K mainGlobals "sorted" = some none)
    (z_str : PySem.W.nsIn K mainGlobals "str" = some none)
    (z_sum : PySem.W.nsIn K mainGlobals "sum" = some none)
    (z_tuple : PySem.W.nsIn K mainGlobals "tuple" = some none)
    : ∃ fd : FuncData, (∀ (s : Shared) (v : Value), BindsTo s fd ⟨[v], []⟩ [("script", v)]) ∧ ∀ base : Heap, K.In base → base.Ns mainGlobals mg → FG l.prog w K mg base CX0 lawK fa fd ["script"] (sp_law K) := by
  have e := hfa.symm.trans (PySem.W.mg_of X G a17)
  cases e
  have F0 := fun_mk (st := s_parts_of) l0 x0 k0
  have b0 := F0.binds (ps := ["part"]) fun _ _ _ _ _ _ us hl => match us, hl with | [_], _ => rfl
  have F1 := fun_mk (st := s_all_parts) l1 x1 k1
  have b1 := F1.binds (ps := ["top"]) fun _ _ _ _ _ _ us hl => match us, hl with | [_], _ => rfl
  have F2 := fun_mk (st := s_is_node) l2 x2 k2
  have b2 := F2.binds (ps := ["part"]) fun _ _ _ _ _ _ us hl => match us, hl with | [_], _ => rfl
  have F3 := fun_mk (st := s_size) l3 x3 k3
  have b3 := F3.binds (ps := ["term"]) fun _ _ _ _ _ _ us hl => match us, hl with | [_], _ => rfl
  have F4 := fun_mk (st := s_origin) l4 x4 k4
  have b4 := F4.binds (ps := ["term"]) fun _ _ _ _ _ _ us hl => match us, hl with | [_], _ => rfl
  have F5 := fun_mk (st := s_arguments) l5 x5 k5
  have b5 := F5.binds (ps := ["term"]) fun _ _ _ _ _ _ us hl => match us, hl with | [_], _ => rfl
  have F6 := fun_mk (st := s_made) l6 x6 k6
  have b6 := F6.binds (ps := ["origin", "arguments"]) fun _ _ _ _ _ _ us hl => match us, hl with | [_, _], _ => rfl
  have F7 := fun_mk (st := s_lbag) l7 x7 k7
  have b7 := F7.binds (ps := ["script", "at"]) fun _ _ _ _ _ _ us hl => match us, hl with | [_, _], _ => rfl
  have F8 := fun_mk (st := s_ltake) l8 x8 k8
  have b8 := F8.binds (ps := ["bag", "many"]) fun _ _ _ _ _ _ us hl => match us, hl with | [_, _], _ => rfl
  have F9 := fun_mk (st := s_lnames) l9 x9 k9
  have b9 := F9.binds (ps := ["bag", "many"]) fun _ _ _ _ _ _ us hl => match us, hl with | [_, _], _ => rfl
  have F10 := fun_mk (st := s_lkey) l10 x10 k10
  have b10 := F10.binds (ps := ["thing"]) fun _ _ _ _ _ _ us hl => match us, hl with | [_], _ => rfl
  have F11 := fun_mk (st := s_ljoined) l11 x11 k11
  have b11 := F11.binds (ps := ["terms"]) fun _ _ _ _ _ _ us hl => match us, hl with | [_], _ => rfl
  have F12 := fun_mk (st := s_litem) l12 x12 k12
  have b12 := F12.binds (ps := ["bag", "names", "deep"]) fun _ _ _ _ _ _ us hl => match us, hl with | [_, _, _], _ => rfl
  have F13 := fun_mk (st := s_linputs) l13 x13 k13
  have b13 := F13.binds (ps := ["bag", "names", "deep"]) fun _ _ _ _ _ _ us hl => match us, hl with | [_, _, _], _ => rfl
  have F14 := fun_mk (st := s_lterm) l14 x14 k14
  have b14 := F14.binds (ps := ["bag", "names", "deep"]) fun _ _ _ _ _ _ us hl => match us, hl with | [_, _, _], _ => rfl
  have F15 := fun_mk (st := s_lsize) l15 x15 k15
  have b15 := F15.binds (ps := ["thing"]) fun _ _ _ _ _ _ us hl => match us, hl with | [_], _ => rfl
  have F16 := fun_mk (st := s_lsmall) l16 x16 k16
  have b16 := F16.binds (ps := ["bag", "names", "deep", "most"]) fun _ _ _ _ _ _ us hl => match us, hl with | [_, _, _, _], _ => rfl
  have F17 := fun_mk (st := s_law) l17 x17 k17
  have b17 := F17.binds (ps := ["script"]) fun _ _ _ _ _ _ us hl => match us, hl with | [_], _ => rfl
  exact ⟨_, fun s v => .of_eq rfl, fun base _ _ => ok_law (P := l.prog) (w := w) (base := base) ({ f_parts_of := _, d_parts_of := _, F_parts_of := F0, c_parts_of := ⟨PySem.W.mg_of X G a0, k0, b0⟩, f_all_parts := _, d_all_parts := _, F_all_parts := F1, c_all_parts := ⟨PySem.W.mg_of X G a1, k1, b1⟩, f_is_node := _, d_is_node := _, F_is_node := F2, c_is_node := ⟨PySem.W.mg_of X G a2, k2, b2⟩, f_size := _, d_size := _, F_size := F3, c_size := ⟨PySem.W.mg_of X G a3, k3, b3⟩, f_origin := _, d_origin := _, F_origin := F4, c_origin := ⟨PySem.W.mg_of X G a4, k4, b4⟩, f_arguments := _, d_arguments := _, F_arguments := F5, c_arguments := ⟨PySem.W.mg_of X G a5, k5, b5⟩, f_made := _, d_made := _, F_made := F6, c_made := ⟨PySem.W.mg_of X G a6, k6, b6⟩, f_lbag := _, d_lbag := _, F_lbag := F7, c_lbag := ⟨PySem.W.mg_of X G a7, k7, b7⟩, f_ltake := _, d_ltake := _, F_ltake := F8, c_ltake := ⟨PySem.W.mg_of X G a8, k8, b8⟩, f_lnames := _, d_lnames := _, F_lnames := F9, c_lnames := ⟨PySem.W.mg_of X G a9, k9, b9⟩, f_lkey := _, d_lkey := _, F_lkey := F10, c_lkey := ⟨PySem.W.mg_of X G a10, k10, b10⟩, f_ljoined := _, d_ljoined := _, F_ljoined := F11, c_ljoined := ⟨PySem.W.mg_of X G a11, k11, b11⟩, f_litem := _, d_litem := _, F_litem := F12, c_litem := ⟨PySem.W.mg_of X G a12, k12, b12⟩, f_linputs := _, d_linputs := _, F_linputs := F13, c_linputs := ⟨PySem.W.mg_of X G a13, k13, b13⟩, f_lterm := _, d_lterm := _, F_lterm := F14, c_lterm := ⟨PySem.W.mg_of X G a14, k14, b14⟩, f_lsize := _, d_lsize := _, F_lsize := F15, c_lsize := ⟨PySem.W.mg_of X G a15, k15, b15⟩, f_lsmall := _, d_lsmall := _, F_lsmall := F16, c_lsmall := ⟨PySem.W.mg_of X G a16, k16, b16⟩, f_law := _, d_law := _, F_law := F17, c_law := ⟨PySem.W.mg_of X G a17, k17, b17⟩, o_OTHERS := _, g_OTHERS := PySem.W.mg_of X G ag_0, D_OTHERS := KD.mk' lg_0 kg_0 sg_0, z_abs := PySem.W.mg_none_of X G z_abs, z_int := PySem.W.mg_none_of X G z_int, z_isinstance := PySem.W.mg_none_of X G z_isinstance, z_len := PySem.W.mg_none_of X G z_len, z_max := PySem.W.mg_none_of X G z_max, z_min := PySem.W.mg_none_of X G z_min, z_range := PySem.W.mg_none_of X G z_range, z_repr := PySem.W.mg_none_of X G z_repr, z_sorted := PySem.W.mg_none_of X G z_sorted, z_str := PySem.W.mg_none_of X G z_str, z_sum := PySem.W.mg_none_of X G z_sum, z_tuple := PySem.W.mg_none_of X G z_tuple } : TX K mg w)⟩
end My
open PySem PySem.W PyProof.Rows
set_option maxRecDepth 100000 in
set_option maxHeartbeats 0 in
theorem PySem.Challenge.cw_aliasparams_k02_sizes_and_parts_holds : PySem.Challenge.rw_aliasparams_k02_sizes_and_parts.Holds := by
  w_on; o_law; k_head; (case hw => w_witness2)
  k_fill
  refine Gd.walk_g (l := PySem.Challenge.rw_aliasparams_k02_sizes_and_parts) (n := 63) (k := My.lawK) (sp := My.sp_law) (x := "script") rfl (by decide) rfl ⟨rfl, by decide, by decide⟩ (fun w h Y => PySem.W.kIn_of Y) ?F (fun K H a ns hl ho hs => My.law_ask K H a ns hl ho hs)
  case F =>
    intro w mg fa h KX G hmg
    refine' My.all_mk (l := PySem.Challenge.rw_aliasparams_k02_sizes_and_parts) KX G hmg ?a0 ?l0 ?x0 ?k0 ?a1 ?l1 ?x1 ?k1 ?a2 ?l2 ?x2 ?k2 ?a3 ?l3 ?x3 ?k3 ?a4 ?l4 ?x4 ?k4 ?a5 ?l5 ?x5 ?k5 ?a6 ?l6 ?x6 ?k6 ?a7 ?l7 ?x7 ?k7 ?a8 ?l8 ?x8 ?k8 ?a9 ?l9 ?x9 ?k9 ?a10 ?l10 ?x10 ?k10 ?a11 ?l11 ?x11 ?k11 ?a12 ?l12 ?x12 ?k12 ?a13 ?l13 ?x13 ?k13 ?a14 ?l14 ?x14 ?k14 ?a15 ?l15 ?x15 ?k15 ?a16 ?l16 ?x16 ?k16 ?a17 ?l17 ?x17 ?k17 ?ag_0 ?lg_0 ?kg_0 ?sg_0 ?z_abs ?z_int ?z_isinstance ?z_len ?z_max ?z_min ?z_range ?z_repr ?z_sorted ?z_str ?z_sum ?z_tuple
    (case a0 => k_is)
    (case l0 => k_is)
    (case x0 => k_is)
    (case k0 => k_is)
    (case a1 => k_is)
    (case l1 => k_is)
    (case x1 => k_is)
    (case k1 => k_is)
    (case a2 => k_is)
    (case l2 => k_is)
    (case x2 => k_is)
    (case k2 => k_is)
    (case a3 => k_is)
    (case l3 => k_is)
    (case x3 => k_is)
    (case k3 => k_is)
    (case a4 => k_is)
    (case l4 => k_is)
    (case x4 => k_is)
    (case k4 => k_is)
    (case a5 => k_is)
    (case l5 => k_is)
    (case x5 => k_is)
    (case k5 => k_is)
    (case a6 => k_is)
    (case l6 => k_is)
    (case x6 => k_is)
    (case k6 => k_is)
    (case a7 => k_is)
    (case l7 => k_is)
    (case x7 => k_is)
    (case k7 => k_is)
    (case a8 => k_is)
    (case l8 => k_is)
    (case x8 => k_is)
    (case k8 => k_is)
    (case a9 => k_is)
    (case l9 => k_is)
    (case x9 => k_is)
    (case k9 => k_is)
    (case a10 => k_is)
    (case l10 => k_is)
    (case x10 => k_is)
    (case k10 => k_is)
    (case a11 => k_is)
    (case l11 => k_is)
    (case x11 => k_is)
    (case k11 => k_is)
    (case a12 => k_is)
    (case l12 => k_is)
    (case x12 => k_is)
    (case k12 => k_is)
    (case a13 => k_is)
    (case l13 => k_is)
    (case x13 => k_is)
    (case k13 => k_is)
    (case a14 => k_is)
    (case l14 => k_is)
    (case x14 => k_is)
    (case k14 => k_is)
    (case a15 => k_is)
    (case l15 => k_is)
    (case x15 => k_is)
    (case k15 => k_is)
    (case a16 => k_is)
    (case l16 => k_is)
    (case x16 => k_is)
    (case k16 => k_is)
    (case a17 => k_is)
    (case l17 => k_is)
    (case x17 => k_is)
    (case k17 => k_is)
    (case ag_0 => k_is)
    (case lg_0 => k_is)
    (case kg_0 => rfl)
    (case sg_0 => decide)
    (case z_abs => k_is)
    (case z_int => k_is)
    (case z_isinstance => k_is)
    (case z_len => k_is)
    (case z_max => k_is)
    (case z_min => k_is)
    (case z_range => k_is)
    (case z_repr => k_is)
    (case z_sorted => k_is)
    (case z_str => k_is)
    (case z_sum => k_is)
    (case z_tuple => k_is)
