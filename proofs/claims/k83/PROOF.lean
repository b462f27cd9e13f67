import PyProof.Rows.All
import Wide.All
import OpenK.AllK
import Wide.FinOn
import HandS.ForMost
import HandS.Flow
import HandS.Style
import HandS.TupAny
import HandS.IsInst
import HandS.Star
import HandS.RaiseMore
import HandS.Evl
import PyProof.StrLawsRepr
import PyProof.FitsReplace
import HandS.Iter
import HandS.CallLocal
import KE.GoesRev
import KE.KDictSum
import HandS.Conv
import HandS.Sort
import HandS.SetKeys
import HandS.WordsDict
import PyProof.P3Eq
import KE.KExcInit
import HandS.ExcInit
import HandS.ExcField
import HandS.ExcIs
import KE.KExcIs
import PyProof.ExcBaseAll.LookupError
import PyProof.ExcBaseAll.IndexError
import PyProof.ExcBaseAll.OverflowError
import PyProof.ExcBaseAll.ArithmeticError
import PyProof.ExcBaseAll.RuntimeError
import PyProof.ExcBaseAll.TypeError
import PyProof.StrBlock2
import HandS.Zip
import KE.GoesMore
import HandS.FStr
import PyProof.Rows.SetFrom
import PyProof.Rows.SortShellAny
import HandS.Set
import HandS.Deep
import HandS.SetFor
import PySem.Challenge.RW_aliasparams_k83_errors
set_option Elab.async false
set_option linter.all false
set_option maxRecDepth 100000
set_option maxHeartbeats 4000000
/-! defs whose promise may rely on that no guard of a text of data stands around -/
namespace Gd
open PySem PySem.Spec PyProof.Rows L2
structure FG (P : Program) (w : World) (K : PySem.W.Frag) (mg : Str → Option Value) (base : Heap)
    (cx : CXT) (k : Nat) (f : Addr) (fd : FuncData) (ps : List Str) (sp : Sp) : Prop where
  len : ∀ vs H Q E, sp vs H Q E →
    vs.length = ps.length
  run : ∀ (A : Around) (out : List Env) (s : Shared) (H : Hp) (as : Args) (us : List Value) (vs : List V) (Q : VK) (E : XK),
    A.guards = some [] → Room k A → Env0 P w K mg base A out s H → BindsTo s fd as (ps.zip us) → Vals vs us → sp vs H Q E →
      codeAny (model P w) A (.call (.ref f) as) (CR cx out P w H s Q E) s
theorem FG.mono {P : Program} {w : World} {K : PySem.W.Frag} {mg : Str → Option Value} {base : Heap}
    {cx : CXT} {j k : Nat} {f : Addr} {fd : FuncData} {ps : List Str} {sp : Sp} (F : FG P w K mg base cx j f fd ps sp) (h : j ≤ k) : FG P w K mg base cx k f fd ps sp :=
  ⟨F.len, fun A out s H as us vs Q E hg hr => F.run A out s H as us vs Q E hg (hr.mono h)⟩
/-- where a def stands that is called by its name -/
structure Cal (K : PySem.W.Frag) (mg : Str → Option Value) (x : Str) (f : Addr) (fd : FuncData) (ps : List Str) : Prop where
  mg : mg x = some (.ref f)
  kp : PySem.W.keepIn K (.ref f) = true
  bd : Binds K fd ps []
section
variable {X : Cx} {cx : CXT} {k : Nat} {f : Addr} {fd : FuncData} {ps : List Str} {sp : Sp} {E : XK} {x : Str} {p pos : Pos} {e : Expr} {es : List Expr} {t : TA}
theorem run_g {pins : List (Addr × Obj)} {σ : L2.St} {H : Hp} {s : Shared} {Q : VK} {us : List Value} {vs : List V}
    (F : FG X.prog X.w X.K X.mg X.base cx k f fd ps sp) (hg : X.A.guards = some []) (hr : Room k X.A) (hb : Binds X.K fd ps []) (hx : Passes cx X E)
    (I : Inv X pins σ H s) (r : Vals vs us) (h : sp vs H Q E) : wpAny (model X.prog X.w) X.A (call (.ref f) us) (EP X pins σ Q) X.xe s := by
  have hl : us.length = ps.length := r.length.symm.trans (F.len _ _ _ _ h)
  have hbt : BindsTo s fd ⟨us, []⟩ (ps.zip us) := by
    have q := hb s us I.kIn (by rw [List.append_nil]; exact hl)
    rw [List.append_nil] at q
    exact q
  refine wpAny_call (codeAny_mono (F.run X.A X.stack s H ⟨us, []⟩ us vs Q E hg hr I.env0 hbt r h) fun res s2 hq => ?_)
  rcases res with er | fl
  · exact hx pins σ H s er s2 I hq
  · rcases fl with u | _ | _ | _
    all_goals first | exact I.after hq | exact hq.elim
theorem pe_g (C : Cal X.K X.mg x f fd ps) (F : FG X.prog X.w X.K X.mg X.base cx k f fd ps sp) (hg : X.A.guards = some []) (hr : Room k X.A) (hgl : Gl X x) (hx : Passes cx X E)
    (ha : PA X (e :: es) t) (hdb : (x == ("__debug__" : Str)) = false := by decide)
    (he : starEach (e :: es) X.env = (false, eval e X.env) :: starEach es X.env := by rfl)
    (hpl : (backTo pos (starEach es X.env)).any (·.1) = false := by rfl) :
    PE X (.Call (.Name x p) (e :: es) [] pos) (fun σ H Q => t σ H fun vs H1 => sp vs H1 Q E) := by
  refine ⟨fun pins s σ H Q I h => wpAny_Call_Name_kw (ld_glob I hgl C.mg ?_ hdb)⟩
  refine PySem.W.callWith_K (h₀ := X.base) I.ok.mod.kin C.kp ?_ he hpl
  exact thn (ha.run pos pins s σ H _ I h) fun us s1 ⟨vs, H1, I1, r, q⟩ => ⟨I1.kIn, run_g F hg hr C.bd hx I1 r q⟩
/-- the body of a def of the text -/
theorem fg_of {P : Program} {w : World} {K : PySem.W.Frag} {mg : Str → Option Value} {base : Heap} {name qual : Str} {prm : Arguments} {body : List Stmt} {sc : Scope} {dV kV doc pm cdv ct oc : Value} {an od : Option Addr}
    {osl : Array (Option Value)} {N : List Str} (lk : K.lookup f = some ⟨oc, od, .func (PySem.W.fnOf name qual prm body sc dV kV doc pm an cdv ct), osl⟩)
    (hcd : PySem.W.codeIn K cdv qual = true) (S : FnScope N ps sc) (len : ∀ vs H Q E, sp vs H Q E → vs.length = ps.length)
    (hbody : ∀ (A : Around) (out : List Env) (s : Shared) (H : Hp) (vs : List V) (Q : VK) (E : XK), (A.deeper (envOfC qual sc s.heap.objs.size f cdv)).guards = some [] → Room k (A.deeper (envOfC qual sc s.heap.objs.size f cdv)) → sp vs H Q E →
      ∃ t, PSs (cxOf cx P w K mg base N qual sc f cdv A out s H E) body t ∧ t { nx := fun _ H' => Q .non H', rt := Q } (start N vs) H) :
    FG P w K mg base cx (k + 1) f (PySem.W.fnOf name qual prm body sc dV kV doc pm an cdv ct) ps sp := by
  refine ⟨len, fun A out s H as us vs Q E hg hr e0 hb r hsp => ?_⟩
  have KX : K.In s.heap := e0.mod.kin.keeps fun b o z => (e0.bs b o z).1
  have lim : s.heap.NoLimit := e0.mod.nolimit.keeps fun b o z => (e0.bs b o z).1
  refine codeAny_call_function hr.depth (KX _ _ lk) rfl S.co S.gen rfl (PySem.W.codeRec_of KX hcd) (hb _ _ _ _ ?_)
  refine wpAny_newFunctionEnv_cells S.kind (fun ⟨n, v⟩ hy => ?_) fun env he s1 z => ?_
  · rcases S.par n (List.of_mem_zip hy).1 with q | q
    · exact Or.inl q
    · exact Or.inr ⟨q, PySem.W.cellsFrom_some _ _ _ (Or.inl q)⟩
  · subst he
    refine ⟨lim.keeps z.toInCall.keep, codeAny_func ?_⟩
    obtain ⟨t, ht, hq⟩ := hbody A out s H vs Q E hg (hr.deeper _) hsp
    have I := inv_start (CX := cx) (P := P) (w := w) (K := K) (mg := mg) (base := base) (E := E) S hr.hd e0 (len _ _ _ _ hsp) r z
    refine wpAny_mono (ht.run [] s1 (start N vs) H _ I hq) (fun fl s2 hs => ?_) fun er s2 hs => hs
    rcases fl with u | _ | _ | _
    · obtain ⟨σ2, H2, J, q⟩ := hs
      exact ⟨V.non, H2, J.os, J.bare, J.base, J.hok, rfl, q⟩
    all_goals first
      | (obtain ⟨v, σ2, H2, J, rv, q⟩ := hs; exact ⟨v, H2, J.os, J.bare, J.base, J.hok, rv, q⟩)
      | (obtain ⟨σ2, H2, J, q⟩ := hs; exact ⟨V.non, H2, J.os, J.bare, J.base, J.hok, rfl, q⟩)
      | (obtain ⟨_, _, _, q⟩ := hs; exact q.elim)
end
section
variable {P : Program} {w : World} {K : PySem.W.Frag} {mg : Str → Option Value} {base : Heap}
theorem ok {x qual : Str} {st : Stmt} {f : Addr} {fd : FuncData} {N ps : List Str} {k : Nat} {sp : Sp} (F : Fun K x qual st f fd) (S : FnScope N ps (defScope st)) (len : ∀ vs H Q E, sp vs H Q E → vs.length = ps.length)
    (hbody : ∀ (cdv : Value) (A : Around) (out : List Env) (s : Shared) (H : Hp) (vs : List V) (Q : VK) (E : XK), (A.deeper (envOfC qual (defScope st) s.heap.objs.size f cdv)).guards = some [] → Room k (A.deeper (envOfC qual (defScope st) s.heap.objs.size f cdv)) → sp vs H Q E →
      ∃ t, PSs (cxOf CX0 P w K mg base N qual (defScope st) f cdv A out s H E).nox (defBody st) t ∧ t { nx := fun _ H' => Q .non H', rt := Q } (start N vs) H) : FG P w K mg base CX0 (k + 1) f fd ps sp := by
  obtain ⟨oc, od, kV, doc, pm, an, cdv, ct, osl, rfl, lk, hcd⟩ := F.ex
  refine fg_of lk hcd S len fun A out s H vs Q E hg hr hsp => ?_
  obtain ⟨t, h, q⟩ := hbody cdv A out s H vs Q E hg hr hsp
  exact ⟨t, h.nox, q⟩
end
end Gd

namespace Gd
open PySem PySem.Spec PyProof.Rows L2
/-! ### xs.extend(a tuple) -/
section
open Sem (wp)
theorem ext_tup (l : Addr) (xs : Array Value) (n : Nat) (b : Addr) (ys : Array Value) (m : Nat) (dd : Option Addr) (sl : Array (Option Value))
    (h0 : ¬(!xs.isEmpty && Builtin.List.listTooLong (xs.size + ys.size)) = true) (h1 : xs.size ≤ sizeLine) (h2 : xs.size + ys.size ≤ sizeLine + 1) :
    Meets (Builtin.«list.extend» ⟨[.ref l, .ref b], []⟩) (fun _ R s =>
      s.heap.get? l = some { cls := .type "list", dict := none, data := .seq xs n, slots := #[] } ∧
      s.heap.get? b = some { cls := .type "tuple", dict := dd, data := .seq ys m, slots := sl } ∧
      R (.ok (.ret Value.none)) { s with heap := s.heap.update l (Obj.mapSeq fun x => x ++ ys), toks := s.toks }) :=
  .of_wp fun prog w A R s h => by
    obtain ⟨hp, g, d, tk, os⟩ := s
    obtain ⟨hl, hb, h⟩ := h
    have f1 := PySem.AutoSeq1.idx_int
    have f2 := PySem.AutoSeq1.sub_tuple_tuple
    have f3 := PySem.AutoSeq1.sub_list_list
    have f4 := PySem.AutoSeq1.sub_tuple_list
    have f5 := PySem.AutoSeq1.sub_list_tuple
    have hz : (xs ++ ys).size ≤ sizeLine + 1 := by rw [Array.size_append]; exact h2
    wp_walk using (wpAny_updateSeq hl rfl (hz := h1) (_hz' := hz)), wpAny_loadPart' hl, wpAny_loadPart' hb
    exact ⟨_, rfl, h⟩
end
def rExtT (K : PySem.W.Frag) : V → List V → Hp → VK → Prop := fun x vs H Q =>
  ∃ l b xs zs, x = .ref l ∧ vs = [.ref b] ∧ H l = some (.lst xs) ∧ SqT K H b zs ∧ xs.length + zs.length ≤ sizeLine ∧ Q .non (upd H l (.lst (xs ++ zs)))
section
variable {X : Cx}
theorem mt_extT : MtM X "list.extend" (rExtT X.K) := by
  rintro pins s σ H x xs v us Q I rx rv ⟨l, b, xs, zs, rfl, rfl, hH, hB, hz, q⟩
  cases rx
  obtain ⟨u, rfl, ru⟩ := rv.one
  cases ru
  obtain ⟨z, its, n, r, hl, e⟩ := I.lstM hH
  obtain ⟨its2, r2, ht, hz2⟩ := I.tuple hB
  have h2 := r2.length
  obtain ⟨⟨cls2, dd2, data2, sl2⟩, ho2, hc2, n2, hd2⟩ := ht
  dsimp only at hc2 hd2
  subst hc2
  subst hd2
  have a1 : its.toArray.size + its2.toArray.size ≤ sizeLine := by
    rw [List.size_toArray, List.size_toArray]
    omega
  have a2 : ¬ (!its.toArray.isEmpty && Builtin.List.listTooLong (its.toArray.size + its2.toArray.size)) = true := by
    rw [notLongL a1, Bool.and_false]
    decide
  have a3 : its.toArray.size ≤ sizeLine := by
    rw [List.size_toArray]
    omega
  refine call_meets F.slot_list_extend ⟨_, e, rfl⟩ F.entry_list_extend (F.args_list_extend_2 _ _)
    (ext_tup l its.toArray n b its2.toArray n2 dd2 sl2 a2 a3 (Nat.le_succ_of_le a1)) ⟨e, ho2, ?_⟩
  refine ⟨.non, _, I.lset (its' := its ++ its2) hH e (by simp) (r.append r2) ?_, rfl, q⟩
  rw [List.length_append]
  omega
end
/-! ### t[::-1], t a tuple (of fewer than two items: its whole? no: a new tuple of the same items) -/
section
variable {prog : Program} {w : World} {A : Around} {E : Value → Shared → Prop} {s : Shared}
theorem backSlice {sl : Addr} {v : Value} {n : Nat} {Q : Int × Int × Nat → Shared → Prop} (hs : s.heap.IsSliceOf sl .none .none v) (pv : IsPart v (some (-1)))
    (h : Q ((n : Int) - 1, -1, n) s) : wpAny (model prog w) A (Builtin.Slice.sliceApplied (.ref sl) (pure (n : Int))) Q E s := by
  obtain ⟨os, hos, hcs, hds⟩ := id hs
  unfold Builtin.Slice.sliceApplied Builtin.Slice.sliceFields
  refine wpAny_bind (wpAny_bind (wpAny_field hos hds (x := .none) rfl (wpAny_bind (wpAny_field hos hds (x := .none) rfl (wpAny_bind (wpAny_field hos hds (x := v) rfl (wpAny_pure ?_)))))))
  refine wpAny_bind (HT.slicePart_ pv ?_)
  show wpAny _ _ (if ((-1 : Int) == 0) = true then _ else _) _ _ s
  rw [if_neg (by decide)]
  refine wpAny_bind (slicePart_none (wpAny_bind (slicePart_none (wpAny_bind (wpAny_pure ?_)))))
  have e1 : Builtin.Slice.sliceAdjust none none (-1) (n : Int) = ((n : Int) - 1, -1) := rfl
  have e2 : Builtin.Slice.slicePlaces ((n : Int) - 1) (-1) (-1) = n := by
    unfold Builtin.Slice.slicePlaces
    rw [if_neg (by decide)]
    split
    · have : ((n : Int) - 1 - -1 - 1) / -(-1) = (n : Int) - 1 := by
        rw [show -(-1 : Int) = 1 from rfl, Int.ediv_one]
        omega
      rw [this]
      omega
    · omega
  show wpAny _ _ (match Builtin.Slice.sliceAdjust none none (-1) (n : Int) with | (lo, hi) => pure (lo, (-1 : Int), Builtin.Slice.slicePlaces lo hi (-1))) _ _ s
  rw [e1]
  show wpAny _ _ (pure ((n : Int) - 1, (-1 : Int), Builtin.Slice.slicePlaces ((n : Int) - 1) (-1) (-1))) _ _ s
  rw [e2]
  exact wpAny_pure h
theorem fm_congr {α : Type} {f g : Nat → Option α} : ∀ l : List Nat, (∀ m, m ∈ l → f m = g m) → l.filterMap f = l.filterMap g
  | [], _ => rfl
  | m :: l, h => by
    simp only [List.filterMap_cons, h m List.mem_cons_self, fm_congr l fun k hk => h k (List.mem_cons_of_mem _ hk)]
theorem fm_all {α : Type} (l : List α) : (List.range l.length).filterMap (fun m => l[m]?) = l := by
  apply List.ext_getElem?
  intro i
  have key : ∀ n, n ≤ l.length → (List.range n).filterMap (fun m => l[m]?) = l.take n := by
    intro n
    induction n with
    | zero => intro _; rfl
    | succ n ih =>
      intro hn
      rw [List.range_succ, List.filterMap_append, ih (by omega), List.filterMap_cons, List.getElem?_eq_getElem (by omega : n < l.length)]
      simp only [List.filterMap_nil]
      exact (List.take_succ_eq_append_getElem (by omega)).symm
  rw [key _ (Nat.le_refl _), List.take_length]
theorem backPick (xs : Array Value) : ((List.range xs.size).filterMap fun (m : Nat) => xs[(((xs.size : Nat) : Int) - 1 + (m : Int) * -1).toNat]?).toArray = xs.toList.reverse.toArray := by
  congr 1
  obtain ⟨l⟩ := xs
  simp only [List.size_toArray, List.getElem?_toArray]
  have e : (List.range l.length).filterMap (fun (m : Nat) => l[((l.length : Int) - 1 + (m : Int) * -1).toNat]?) = (List.range l.reverse.length).filterMap (fun m => l.reverse[m]?) := by
    rw [List.length_reverse]
    apply fm_congr
    intro m hm
    have hm' : m < l.length := List.mem_range.mp hm
    rw [show ((l.length : Int) - 1 + (m : Int) * -1).toNat = l.length - 1 - m by omega, List.getElem?_reverse hm']
  rw [e, fm_all]
theorem getItem_tuple_back {t sl : Addr} {items : Array Value} {v : Value} {Q : Value → Shared → Prop} (ht : IsTup s.heap t items) (hs : s.heap.IsSliceOf sl .none .none v) (pv : IsPart v (some (-1)))
    (h : Q (.ref s.heap.objs.size) { s with heap := s.heap.push { cls := .type "tuple", data := .seq items.toList.reverse.toArray } })
    (hsz : items.size ≤ sizeLine) : wpAny (model prog w) A (getItem (.ref t) (.ref sl)) Q E s := by
  have hfit : sizeOk (.seq items.toList.reverse.toArray) := by
    show items.toList.reverse.toArray.size ≤ sizeLine
    rw [List.size_toArray, List.length_reverse, Array.length_toList]
    exact hsz
  obtain ⟨os, hos, hcs, hds⟩ := id hs
  have hTs : s.TypeIs (.ref sl) "slice" := ⟨os, hos, hcs⟩
  unfold getItem
  try with_reducible refine wpAny_holding ?_
  first | refine wpAny_bind (wpAny_pure ?_) | skip
  refine wpAny_bind (wpAny_sequenceKey ht.typeIs (by decide) ?_)
  refine wpAny_bind (wpAny_callSpecial?_slot (name := Str.ofString "__getitem__") ht.typeIs PyProof.Rows.slot_tuple_getitem
    (wpAny_call_entry PyProof.Rows.slot_tuple_getitem ht.typeIs entry_tuple_getitem ?_ (args_tuple_getitem _ _)))
  show wpAny _ _ (Builtin.Tuple.tupleItemsOf (.ref t) >>= _) _ _ s
  refine wpAny_bind (tupleItemsOf_ ht (wpAny_bind (wpAny_typeOf hTs ?_)))
  rw [if_pos (by decide)]
  refine wpAny_bind (backSlice hs pv ?_)
  have hno : ¬ ((((items.size : Nat) : Int) - 1 == 0 && (-1 : Int) == 1 && items.size == items.size) = true) := by
    simp
  show wpAny _ _ (if (((items.size : Nat) : Int) - 1 == 0 && (-1 : Int) == 1 && items.size == items.size) = true then _ else _) _ _ s
  rw [if_neg hno, backPick]
  first
    | exact wpAny_bind (m := Builtin.Tuple.tupleExact _) (wpAny_newObj_type (wpAny_pure ⟨_, rfl, wpAny_pure h⟩) hfit)
    | exact wpAny_bind (m := Builtin.Tuple.tupleExact _) (wpAny_newObj_type (wpAny_bind (wpAny_pure (wpAny_pure ⟨_, rfl, wpAny_pure h⟩))) hfit)
    | exact wpAny_bind (wpAny_bind (m := Builtin.Tuple.tupleExact _) (wpAny_newObj_type (wpAny_pure (wpAny_pure ⟨_, rfl, wpAny_pure h⟩)) hfit))
    | exact wpAny_bind (wpAny_bind (m := Builtin.Tuple.tupleExact _) (wpAny_newObj_type (wpAny_pure ⟨_, rfl, wpAny_pure h⟩) hfit))
end
def tBackT (K : PySem.W.Frag) (te : TE) : TE := fun σ H Q => te σ H fun x H1 => ∃ a xs, x = .ref a ∧ SqT K H1 a xs ∧ ∀ p, H1 p = none → Q (.ref p) (upd H1 p (.tup xs.reverse))
section
variable {X : Cx}
theorem pe_backT {e : Expr} {te : TE} {k : Nat} {p1 p2 p3 pos : Pos} (he : PE X e te) :
    PE X (.Subscript e (.Slice none none (some (.UnaryOp .USub (.Constant (.int 1) k p1) p2)) p3) pos) (tBackT X.K te) := by
  refine ⟨fun pins s σ H Q I h => Subscript_ (thn (he.run pins s σ H _ I h) fun v s1 ⟨x, H1, I1, r1, a, xs, ex, hx, q⟩ => ?_)⟩
  subst ex
  cases r1
  have st : PO X (some (.UnaryOp .USub (.Constant (.int 1) k p1) p2)) (tPart (tUn (rU fun i => .int (-i)) (tC (.int 1)))) := po_some (pe_un un_neg pe_int)
  refine wpAny_Slice (thn (po_none.run pins s1 σ H1 (fun o H2 => o = none ∧ H2 = H1) I1 ⟨rfl, rfl⟩) fun vl s2 ⟨l, H2, I2, pl, el, e2⟩ => ?_)
  subst el e2
  refine thn (po_none.run pins s2 σ H2 (fun o H3 => o = none ∧ H3 = H2) I2 ⟨rfl, rfl⟩) fun vu s3 ⟨u, H3, I3, pu, eu, e3⟩ => ?_
  subst eu e3
  refine thn (st.run pins s3 σ H3 (fun o H4 => o = some (-1) ∧ H4 = H3) I3 ⟨1, rfl, -1, rfl, rfl, rfl⟩) fun vs s4 ⟨o, H4, I4, ps, eo, e4⟩ => ?_
  subst eo e4
  cases pl
  cases pu
  have I5 : Inv X pins σ H4 { s4 with heap := s4.heap.push { cls := .type "slice", data := .fields #[.none, .none, vs] } } := I4.kept (t' := s4.toks) fun b ob z => Heap.get?_push_of_some _ z
  obtain ⟨its, r, ht, hz⟩ := I5.tuple hx
  have hlen : its.toArray.size ≤ sizeLine := by
    rw [List.size_toArray, ← r.length]
    exact hz
  refine tail_any (ops := [.ref a, .ref s4.heap.objs.size]) ht.typeIs PyProof.Rows.slot_tuple_getitem.lookup ?_ (by with_unfolding_all rfl)
  refine getItem_tuple_back ht (Heap.IsSliceOf.new _ .none .none vs) ps ?_ hlen
  refine ⟨.ref _, _, I5.laid (t' := s4.toks) (o := .tup xs.reverse) (fun b ob z => Heap.get?_push_of_some _ z) (Nat.le_refl _) ?_, rfl, q _ (I5.hok.fresh (Nat.le_refl _))⟩
  exact ⟨by rw [List.length_reverse]; exact hz, its.reverse, r.reverse, ⟨_, Heap.get?_push_size _ rfl, rfl, _, rfl⟩⟩
end
end Gd

namespace Gd
open PySem PySem.Spec PyProof.Rows L2
/-! ### repr(x), x any data -/
def rRepr (K : PySem.W.Frag) : List V → Hp → VK → Prop := fun xs H Q =>
  ∃ x d, xs = [x] ∧ Dp K H x d ∧ d.showable = true ∧ d.depth ≤ 180 ∧ d.shown.length ≤ sizeLine ∧ Q (.str d.shown) H
mutual
theorem dp_plain {K : PySem.W.Frag} {H : Hp} : ∀ {v : V} {d : PyData}, Dp K H v d → d.hasDict = false
  | _, _, .non => by simp only [PyData.hasDict]
  | _, _, .bl _ => by simp only [PyData.hasDict]
  | _, _, .int _ => by simp only [PyData.hasDict]
  | _, _, .str _ => by simp only [PyData.hasDict]
  | _, _, .lst _ h => by simp only [PyData.hasDict]; exact dp_plains h
  | _, _, .tup _ h => by simp only [PyData.hasDict]; exact dp_plains h
theorem dp_plains {K : PySem.W.Frag} {H : Hp} : ∀ {vs : List V} {ds : List PyData}, DpAll K H vs ds → PyData.hasDictAll ds = false
  | _, _, .nil => by simp only [PyData.hasDictAll]
  | _, _, .cons h t => by simp only [PyData.hasDictAll, dp_plain h, dp_plains t, Bool.or_false]
end
section
variable {X : Cx}
theorem call_repr (hg : X.A.guards = some []) (hu : X.A.units + 200 < cLine) : CallR X (.builtin "repr") (rRepr X.K) := by
  rintro pins s σ H xs us Q I r ⟨x, d, rfl, hd, hs, hdp, hz, q⟩
  obtain ⟨u, rfl, ru⟩ := Vals.one r
  have hh := dp_plain hd
  obtain ⟨as, rd⟩ := Dp.reads I d x u hd ru
  cases hd with
  | non => cases ru; exact PySem.P.repr_of_none ⟨.str _, H, I.tok _, ⟨_, rfl⟩, q⟩
  | bl b => cases ru; exact PySem.P.repr_of_bool ⟨.str _, H, I.tok _, ⟨_, rfl⟩, q⟩
  | int i =>
    obtain ⟨t, rfl⟩ := ru
    exact PySem.P.repr_of_int (by simpa [PyData.showable] using hs) ⟨.str _, H, I.tok _, ⟨_, rfl⟩, q⟩
  | str y =>
    obtain ⟨t, rfl⟩ := ru
    exact PySem.P.repr_of_str ⟨.str _, H, I.tok _, ⟨_, rfl⟩, q⟩ hz
  | lst h1 h2 =>
    cases ru
    exact repr_of_reads' rd hs (PyData.noDict_hsm hh) hg (by omega) (fun _ _ e => e) (fun h' t tk hk => ⟨.str _, H, I.kept (t' := tk) hk, ⟨_, rfl⟩, q⟩) hz
  | tup h1 h2 =>
    cases ru
    exact repr_of_reads' rd hs (PyData.noDict_hsm hh) hg (by omega) (fun _ _ e => e) (fun h' t tk hk => ⟨.str _, H, I.kept (t' := tk) hk, ⟨_, rfl⟩, q⟩) hz
end
/-! ### the law's own call -/
theorem law_end {P : Program} {w : World} {K : PySem.W.Frag} {mg mb : Str → Option Value} {k : Nat} {fa a : Addr} {fd : FuncData} {x : Str} {sp : Sp} {s1 : Shared} {us : List Value} {ns : List Int}
    (KX : K.In s1.heap) (gl : s1.heap.Ns mainGlobals mg) (bl : s1.heap.Ns builtinsNs mb) (bb : ∀ x : Str, x ≠ "__name__" → mb x = bootBuiltins x) (lim : s1.heap.NoLimit) (hg : s1.gens = #[])
    (ha : s1.heap.get? a = some { cls := .type "list", data := .seq us.toArray }) (hi : IntsAre us ns) (hl : ns.length ≤ sizeLine) (hr : Room k callerA)
    (F : ∀ base : Heap, K.In base → base.Ns mainGlobals mg → FG P w K mg base CX0 k fa fd [x] sp) (hb : ∀ (s : Shared) (u : Value), BindsTo s fd ⟨[u], []⟩ [(x, u)])
    (hsp : ∀ H : Hp, Only H → SqL K H a (ns.map V.int) → sp [.ref a] H (fun v _ => v = .bl true) fun _ _ _ => False) :
    codeAny (model P w) callerA (.call (.ref fa) ⟨[.ref a], []⟩) (fun r s2 => r = .ok (.ret (.bool true)) ∧ OldK s1.heap s2.heap ∧ s2.os = s1.os ∧ AllBare s2.gens) s1 := by
  have rv := L2.vals_ints hi
  have hlu := hi.length
  -- nothing is tracked, or the script alone
  obtain ⟨H, only, sq, held, alone, own⟩ : ∃ H : Hp, Only H ∧ SqL K H a (ns.map V.int) ∧ HOk P w H s1.heap ∧ (∀ b, H b ≠ none → b = a) ∧ (H a ≠ none → K.lookup a = none) := by
    cases hk : K.lookup a with
    | some o =>
      have e := KX a o hk
      rw [ha] at e
      cases e
      refine ⟨fun _ => none, fun _ => Or.inl rfl, Or.inr ⟨_, us.toArray, _, hk, rfl, rfl, rfl, ?_, ?_⟩, fun b u z => ?_, fun b z => absurd rfl z, fun z => absurd rfl z⟩
      · rw [List.size_toArray, hlu]; exact hl
      · simpa using rv
      · exact nomatch (show (none : Option HO) = some u from z)
    | none =>
      refine ⟨fun b => if b = a then some (.frz { cls := .type "list", data := .seq us.toArray } (.lst (ns.map V.int))) else none, fun b => ?_, Or.inl (Or.inr ⟨_, if_pos rfl⟩), fun b u z => ?_, fun b z => ?_, fun _ => rfl⟩
      · by_cases c : b = a
        · exact Or.inr ⟨_, _, if_pos c⟩
        · exact Or.inl (if_neg c)
      · by_cases c : b = a
        · have z2 := (if_pos c).symm.trans z
          cases z2
          subst c
          exact ⟨ha, by rw [List.length_map]; exact hl, us, _, rv, ha⟩
        · exact nomatch (if_neg c).symm.trans z
      · by_cases c : b = a
        · exact c
        · exact absurd (if_neg c) z
  have away : ∀ {b : Addr} {o : Obj}, s1.heap.get? b = some o → (∀ ws n, o.data ≠ .seq ws n) → H b = none := fun {b o} e nd => by
    cases c : H b with
    | none => rfl
    | some u =>
      have z := alone b (by rw [c]; exact nofun)
      subst z
      rw [ha] at e
      cases e
      exact absurd rfl (nd _ _)
  have ns0 : ∀ {b : Addr} {m : Str → Option Value}, s1.heap.Ns b m → (hidT s1.heap H).Ns b m := fun {b m} ⟨o, es, ep, e, d, r⟩ =>
    ⟨o, es, ep, hidT_get e (away e fun ws n z => nomatch d.symm.trans z), d, r⟩
  have kin : K.In (hidT s1.heap H) := fun b o e => hidT_get (KX b o e) (by
    cases c : H b with
    | none => rfl
    | some u =>
      have z := alone b (by rw [c]; exact nofun)
      subst z
      rw [own (by rw [c]; exact nofun)] at e
      cases e)
  have hM : Mod K mg (hidT s1.heap H) := ⟨kin, ns0 gl, ⟨mb, ns0 bl, bb⟩, let ⟨mc, h1, h2⟩ := lim; ⟨mc, ns0 h1, h2⟩⟩
  have e0 : Env0 P w K mg (hidT s1.heap H) callerA [] s1 H := ⟨rfl, hM, fun b o e => of_hidT e, Nat.le_of_eq (hidT_size _ _), trivial, fun b z => (List.not_mem_nil z).elim, held, .of_eq hg⟩
  refine codeAny_mono ((F _ kin (ns0 gl)).run callerA [] s1 H ⟨[.ref a], []⟩ [.ref a] [.ref a] _ _ rfl hr e0 (hb s1 (.ref a)) (.cons rfl .nil) (hsp H only sq)) fun r s2 h => ?_
  rcases r with er | fl
  · exact False.elim h
  · cases fl
    case ret u =>
      skip
      first
      | exact False.elim h
      | (obtain ⟨v, H2, os, bare, un, held2, r2, q⟩ := h
         have q' : v = .bl true := q
         subst q'
         obtain rfl : u = Value.bool true := r2
         refine ⟨rfl, OldK.of_keep fun b o e => ?_, os, bare⟩
         cases c : H b with
         | none => exact un.keep b o e c (fun z => (List.not_mem_nil z).elim) List.not_mem_nil
         | some y =>
           rcases only b with z | ⟨ob, ys, z⟩
           · rw [c] at z; cases z
           · obtain ⟨e1, _⟩ := held b _ z
             obtain ⟨e2, _⟩ := held2 b _ (un.frzs b ob _ z)
             rw [e] at e1
             cases e1
             exact e2)
    all_goals exact False.elim h
theorem walk_g {l : PySem.W.OpenLaw} {n k : Nat} {q : Program} {loose : List Str} {XP : (Str → Option Value) → Heap → Prop} {YP : World → Heap → Prop} {d : DefRec} {K : Params → PySem.W.Frag} {sp : PySem.W.Frag → Sp} {x : Str}
    (hn : l.most = some n) (hn2 : n ≤ sizeLine) (hdf : d.params.defaults = []) (hr : Room k callerA)
    (hY : ∀ (w : World) (h : Heap), YP w h → (K w.params).In h)
    (F : ∀ (w : World) (mg : Str → Option Value) (fa : Addr) (h : Heap), (K w.params).In h → h.Ns mainGlobals mg → mg d.name = some (.ref fa) →
      ∃ fd : FuncData, (∀ (s : Shared) (u : Value), BindsTo s fd ⟨[u], []⟩ [(x, u)]) ∧
        ∀ base : Heap, (K w.params).In base → base.Ns mainGlobals mg → FG l.prog w (K w.params) mg base CX0 k fa fd [x] (sp (K w.params)))
    (hsp : ∀ (K : PySem.W.Frag) (H : Hp) (a : Addr) (ns : List Int), ns.length ≤ n → Only H → SqL K H a (ns.map V.int) → sp K [.ref a] H (fun v _ => v = .bl true) fun _ _ _ => False) :
    PySem.W.WalkO q loose XP YP l.row.toRowW d [] (fun f vs => PySem.call f vs) := by
  refine Att.attach_call hn hdf fun w s0 s1 mg mb fa o pm cd doc a vs ns G Y ho hd hcd hmg hobj hints hlen hg => ?_
  have KX := hY w _ Y
  obtain ⟨fd, hb, hF⟩ := F w mg fa _ KX G.T.g hmg
  exact law_end KX G.T.g G.T.b G.T.builtins G.T.nolimit hg hobj hints (Nat.le_trans hlen hn2) hr hF hb fun H hO hS => hsp _ H a ns hlen hO hS
end Gd

namespace Gd
open PySem PySem.Spec PyProof.Rows L2
/-! ### how a heap goes on -/
/-- everything stays -/
abbrev Up (H H' : Hp) : Prop := ∀ (a : Addr) (o : HO), H a = some o → H' a = some o
/-- everything but what stands at b stays -/
abbrev Mv (b : Addr) (H H' : Hp) : Prop := ∀ (a : Addr) (o : HO), a ≠ b → H a = some o → H' a = some o
/-- the tuples stay -/
abbrev Tk (H H' : Hp) : Prop := ∀ (a : Addr) (xs : List V), H a = some (.tup xs) → H' a = some (.tup xs)
theorem Up.rf {H : Hp} : Up H H := fun _ _ h => h
theorem Up.tr {H H1 H2 : Hp} (a : Up H H1) (b : Up H1 H2) : Up H H2 := fun x o h => b x o (a x o h)
theorem Up.mv {H H1 : Hp} {b : Addr} (a : Up H H1) : Mv b H H1 := fun x o _ h => a x o h
theorem Mv.rf {b : Addr} {H : Hp} : Mv b H H := fun _ _ _ h => h
theorem Mv.tr {b : Addr} {H H1 H2 : Hp} (a : Mv b H H1) (c : Mv b H1 H2) : Mv b H H2 := fun x o n h => c x o n (a x o n h)
theorem Mv.wr {b : Addr} {H : Hp} {o : HO} : Mv b H (upd H b o) := fun x u n h => by rw [upd_ne n]; exact h
theorem Up.new {H : Hp} {p : Addr} {o : HO} (h : H p = none) : Up H (upd H p o) := fun x u e => by rw [upd_ne (ne_of_none e h)]; exact e
theorem Up.tk {H H1 : Hp} (a : Up H H1) : Tk H H1 := fun x xs h => a x _ h
theorem Mv.tk {b : Addr} {H H1 : Hp} {ys : List V} (a : Mv b H H1) (h : H b = some (.lst ys)) : Tk H H1 := fun x xs e => a x _ (ne_of e h nofun) e
theorem Tk.rf {H : Hp} : Tk H H := fun _ _ h => h
theorem Tk.tr {H H1 H2 : Hp} (a : Tk H H1) (b : Tk H1 H2) : Tk H H2 := fun x o h => b x o (a x o h)
theorem Up.fr {H H1 : Hp} {p : Addr} (a : Up H H1) (h : H1 p = none) : H p = none := by
  cases e : H p with
  | none => rfl
  | some o => rw [a p o e] at h; cases h
theorem Mv.fr {H H1 : Hp} {p b : Addr} {o : HO} (a : Mv b H H1) (hb : H1 b = some o) (h : H1 p = none) : H p = none := by
  cases e : H p with
  | none => rfl
  | some u =>
    by_cases c : p = b
    · subst c; rw [hb] at h; cases h
    · rw [a p u c e] at h; cases h
theorem Up.of {H H1 H2 : Hp} {p : Addr} (a : Up H H1) (n : H p = none) (m : Mv p H1 H2) : Up H H2 := fun x o e => m x o (ne_of_none e n) (a x o e)
theorem Mv.of {H H1 H2 : Hp} {b p : Addr} (a : Mv b H H1) (n : H p = none) (m : Mv p H1 H2) : Mv b H H2 := fun x o c e => m x o (ne_of_none e n) (a x o c e)
/-! ### data of tuples -/
mutual
/-- v is the data d, all of it in tuples -/
inductive Da (H : Hp) : V → PyData → Prop
  | non : Da H .non .none
  | str (x : Str) : Da H (.str x) (.str x)
  | tup {a : Addr} {xs : List V} {ds : List PyData} (h : H a = some (.tup xs)) (t : Das H xs ds) : Da H (.ref a) (.tuple ds)
inductive Das (H : Hp) : List V → List PyData → Prop
  | nil : Das H [] []
  | cons {v : V} {vs : List V} {d : PyData} {ds : List PyData} (h : Da H v d) (t : Das H vs ds) : Das H (v :: vs) (d :: ds)
end
mutual
theorem Da.tk {H H' : Hp} (k : Tk H H') : ∀ {v : V} {d : PyData}, Da H v d → Da H' v d
  | _, _, .non => .non
  | _, _, .str x => .str x
  | _, _, .tup h t => .tup (k _ _ h) (Das.tk k t)
theorem Das.tk {H H' : Hp} (k : Tk H H') : ∀ {vs : List V} {ds : List PyData}, Das H vs ds → Das H' vs ds
  | _, _, .nil => .nil
  | _, _, .cons h t => .cons (Da.tk k h) (Das.tk k t)
end
mutual
theorem Da.dp {K : PySem.W.Frag} {H : Hp} : ∀ {v : V} {d : PyData}, Da H v d → Dp K H v d
  | _, _, .non => .non
  | _, _, .str x => .str x
  | _, _, .tup h t => .tup (SqT.of h) (Das.dp t)
theorem Das.dp {K : PySem.W.Frag} {H : Hp} : ∀ {vs : List V} {ds : List PyData}, Das H vs ds → DpAll K H vs ds
  | _, _, .nil => .nil
  | _, _, .cons h t => .cons (Da.dp h) (Das.dp t)
end
theorem Da.up {H H' : Hp} {v : V} {d : PyData} (h : Da H v d) (k : Up H H') : Da H' v d := h.tk k.tk
theorem Das.up {H H' : Hp} {v : List V} {d : List PyData} (h : Das H v d) (k : Up H H') : Das H' v d := h.tk k.tk
theorem Das.length {H : Hp} : ∀ {vs : List V} {ds : List PyData}, Das H vs ds → vs.length = ds.length
  | _, _, .nil => rfl
  | _, _, .cons _ t => by simp [Das.length t]
theorem Das.app {H : Hp} : ∀ {vs ws : List V} {ds es : List PyData}, Das H vs ds → Das H ws es → Das H (vs ++ ws) (ds ++ es)
  | _, _, _, _, .nil, h => h
  | _, _, _, _, .cons h t, g => .cons h (Das.app t g)
theorem Das.rev {H : Hp} {vs : List V} {ds : List PyData} (h : Das H vs ds) : Das H vs.reverse ds.reverse := by
  induction vs generalizing ds with
  | nil => cases h; exact .nil
  | cons v vs ih =>
    cases h with
    | cons a t =>
      rw [List.reverse_cons, List.reverse_cons]
      exact (ih t).app (.cons a .nil)
theorem Das.get {H : Hp} : ∀ {vs : List V} {ds : List PyData} {i : Nat} {d : PyData}, Das H vs ds → ds[i]? = some d → ∃ v, vs[i]? = some v ∧ Da H v d
  | _, _, _, _, .nil, e => by simp at e
  | _, _, 0, _, .cons h _, e => by
    simp only [List.getElem?_cons_zero, Option.some.injEq] at e
    subst e
    exact ⟨_, by simp, h⟩
  | _, _, i + 1, _, .cons _ t, e => by
    simp only [List.getElem?_cons_succ] at e
    obtain ⟨v, h1, h2⟩ := Das.get t e
    exact ⟨v, by simpa using h1, h2⟩
theorem Das.at {H : Hp} {vs : List V} {ds : List PyData} {i : Nat} {v : V} (h : Das H vs ds) (e : vs[i]? = some v) : ∃ d, ds[i]? = some d ∧ Da H v d := by
  have l := h.length
  have hi : i < ds.length := by rw [← l]; exact (List.getElem?_eq_some_iff.mp e).1
  obtain ⟨w, h1, h2⟩ := h.get (List.getElem?_eq_getElem hi)
  rw [e] at h1
  cases h1
  exact ⟨_, List.getElem?_eq_getElem hi, h2⟩
theorem Da.str_inv {H : Hp} {v : V} {x : Str} (h : Da H v (.str x)) : v = .str x := by cases h; rfl
theorem Da.non_inv {H : Hp} {v : V} (h : Da H v .none) : v = .non := by cases h; rfl
theorem Da.tup_inv {H : Hp} {v : V} {ds : List PyData} (h : Da H v (.tuple ds)) : ∃ a xs, v = .ref a ∧ H a = some (.tup xs) ∧ Das H xs ds := by
  cases h with
  | tup h t => exact ⟨_, _, rfl, h, t⟩
theorem Das.one {H : Hp} {xs : List V} {d : PyData} (h : Das H xs [d]) : ∃ v, xs = [v] ∧ Da H v d := by
  cases h with
  | cons a t => cases t; exact ⟨_, rfl, a⟩
theorem Das.two {H : Hp} {xs : List V} {d e : PyData} (h : Das H xs [d, e]) : ∃ v w, xs = [v, w] ∧ Da H v d ∧ Da H w e := by
  cases h with
  | cons a t =>
    obtain ⟨w, rfl, b⟩ := t.one
    exact ⟨_, _, rfl, a, b⟩
theorem Das.three {H : Hp} {xs : List V} {d e f : PyData} (h : Das H xs [d, e, f]) : ∃ v w u, xs = [v, w, u] ∧ Da H v d ∧ Da H w e ∧ Da H u f := by
  cases h with
  | cons a t =>
    obtain ⟨w, u, rfl, b, c⟩ := t.two
    exact ⟨_, _, _, rfl, a, b, c⟩
/-! ### readings, step by step -/
section
variable {σ : L2.St} {H : Hp} {Q : VK} {ta tb te : TE} {t : TA} {K : PySem.W.Frag} {D : Ends}
theorem r_var {i : Nat} {v : V} (h : σ[i]? = some (some v)) (q : Q v H) : tVar i σ H Q := ⟨v, h, q⟩
theorem r_c {v : V} (q : Q v H) : tC v σ H Q := q
theorem r_op {r : R2} (h : ta σ H fun x H1 => tb σ H1 fun y H2 => r x y H2 Q) : tOp r ta tb σ H Q := h
theorem r_un {r : V → Hp → VK → Prop} (h : ta σ H fun x H1 => r x H1 Q) : tUn r ta σ H Q := h
theorem r_neg {i : Int} {g : Int → V} (q : Q (g i) H) : rU g (.int i) H Q := ⟨i, rfl, q⟩
theorem r_i0 {g : Int → Int → V} {i j : Int} (q : Q (g i j) H) : rI0 g (.int i) (.int j) H Q := ⟨i, j, rfl, rfl, q⟩
theorem r_i {C : Int → Int → Prop} {g : Int → Int → V} {i j : Int} (c : C i j) (q : Q (g i j) H) : rI C g (.int i) (.int j) H Q := ⟨i, j, rfl, rfl, c, q⟩
theorem r_eqI {i j : Int} (q : Q (.bl (decide (i = j))) H) : rEq (.int i) (.int j) H Q := ⟨rfl, by
  have e : decide (V.int i = V.int j) = decide (i = j) := by
    by_cases c : i = j
    · subst c; simp
    · simp [c]
  rw [e]; exact q⟩
theorem r_eqS {x y : Str} (q : Q (.bl (decide (x = y))) H) : rEq (.str x) (.str y) H Q := ⟨rfl, by
  have e : decide (V.str x = V.str y) = decide (x = y) := by
    by_cases c : x = y
    · subst c; simp
    · simp [c]
  rw [e]; exact q⟩
theorem r_neI {i j : Int} (q : Q (.bl (!decide (i = j))) H) : rNe (.int i) (.int j) H Q := ⟨rfl, by
  have e : decide (V.int i = V.int j) = decide (i = j) := by
    by_cases c : i = j
    · subst c; simp
    · simp [c]
  rw [e]; exact q⟩
theorem r_neS {x y : Str} (q : Q (.bl (!decide (x = y))) H) : rNe (.str x) (.str y) H Q := ⟨rfl, by
  have e : decide (V.str x = V.str y) = decide (x = y) := by
    by_cases c : x = y
    · subst c; simp
    · simp [c]
  rw [e]; exact q⟩
theorem r_tup (h : t σ H fun xs H1 => xs.length ≤ 100000 ∧ ∀ p H2, H1 p = none → Up H1 H2 → H2 p = some (.tup xs) → Q (.ref p) H2)
    (mono : ∀ (R R' : List V → Hp → Prop), (∀ a b, R a b → R' a b) → t σ H R → t σ H R') : tTup t σ H Q :=
  mono _ _ (fun xs H1 ⟨l, k⟩ => ⟨Nat.le_trans l (by decide), fun p hp => k p _ hp (Up.new hp) upd_same⟩) h
theorem r_nil {R : List V → Hp → Prop} (q : R [] H) : tNil σ H R := q
theorem r_cons {R : List V → Hp → Prop} (h : ta σ H fun x H1 => t σ H1 fun xs H2 => R (x :: xs) H2) : tCons ta t σ H R := h
/-- a tuple, a list display: behind the items -/
def newT (Q : VK) (xs : List V) (H : Hp) : Prop := xs.length ≤ sizeLine ∧ ∀ p, H p = none → Q (.ref p) (upd H p (.tup xs))
def newL (Q : VK) (xs : List V) (H : Hp) : Prop := xs.length ≤ sizeLine ∧ ∀ p, H p = none → Q (.ref p) (upd H p (.lst xs))
def newB (K : PySem.W.Frag) (Q : VK) (x : V) (H : Hp) : Prop := ∃ a xs, x = .ref a ∧ SqT K H a xs ∧ ∀ p, H p = none → Q (.ref p) (upd H p (.tup xs.reverse))
theorem r_tup' (h : t σ H fun xs H1 => newT Q xs H1) : tTup t σ H Q := h
theorem r_lst' (h : t σ H fun xs H1 => newL Q xs H1) : tLst t σ H Q := h
theorem r_newT {xs : List V} (hn : xs.length ≤ 100000) (h : ∀ p H2, H p = none → Up H H2 → H2 p = some (.tup xs) → Q (.ref p) H2) : newT Q xs H :=
  ⟨Nat.le_trans hn (by decide), fun p hp => h p _ hp (Up.new hp) upd_same⟩
theorem r_newL {xs : List V} (hn : xs.length ≤ 100000) (h : ∀ p H2, H p = none → Up H H2 → H2 p = some (.lst xs) → Q (.ref p) H2) : newL Q xs H :=
  ⟨Nat.le_trans hn (by decide), fun p hp => h p _ hp (Up.new hp) upd_same⟩
theorem r_ifE {c : TT} (h : c σ H fun b H1 => if b = true then ta σ H1 Q else tb σ H1 Q) : tIf c ta tb σ H Q := h
theorem r_test {R : Bool → Hp → Prop} (h : te σ H fun x H1 => ∃ k, x = .bl k ∧ R k H1) : tTest te σ H R := h
theorem r_b {R : Bool → Hp → Prop} (h : te σ H fun x H1 => ∃ k, x = .bl k ∧ R k H1) : tB te σ H R := h
theorem r_bl {b : Bool} {R : Bool → Prop} (h : R b) : ∃ k, V.bl b = .bl k ∧ R k := ⟨b, rfl, h⟩
theorem r_and {c d : TT} {R : Bool → Hp → Prop} (h : c σ H fun b H1 => if b = true then d σ H1 R else R false H1) : tAnd c d σ H R := h
theorem r_or {c d : TT} {R : Bool → Hp → Prop} (h : c σ H fun b H1 => if b = true then R true H1 else d σ H1 R) : tOr c d σ H R := h
theorem r_not {c : TT} {R : Bool → Hp → Prop} (h : c σ H fun b H1 => R (!b) H1) : tNot c σ H R := h
theorem r_andV (h : ta σ H fun x H1 => ∃ k, x = .bl k ∧ if k = true then tb σ H1 Q else Q (.bl false) H1) : tAndV ta tb σ H Q := h
theorem r_orV (h : ta σ H fun x H1 => ∃ k, x = .bl k ∧ if k = true then Q (.bl true) H1 else tb σ H1 Q) : tOrV ta tb σ H Q := h
theorem r_cb {r : List V → Hp → VK → Prop} (h : t σ H fun vs H1 => r vs H1 Q) : tCB r t σ H Q := h
theorem r_bm0 {T : String} {r : V → List V → Hp → VK → Prop} (h : te σ H fun x H1 => tyV K T x H1 ∧ r x [] H1 Q) : tBM0 K T r te σ H Q := h
theorem r_bm {T : String} {r : V → List V → Hp → VK → Prop} (h : te σ H fun x H1 => tyV K T x H1 ∧ t σ H1 fun xs H2 => r x xs H2 Q) : tBM K T r te t σ H Q := h
theorem r_sl {r : V → Option Int → Option Int → Hp → VK → Prop} {tl th : TO} (h : te σ H fun x H1 => tl σ H1 fun l H2 => th σ H2 fun u H3 => r x l u H3 Q) : tSl r te tl th σ H Q := h
theorem r_nop {R : Option Int → Hp → Prop} (q : R none H) : tNoPart σ H R := q
theorem r_part {R : Option Int → Hp → Prop} (h : te σ H fun x H1 => ∃ i, x = .int i ∧ R (some i) H1) : tPart te σ H R := h
theorem r_int {i : Int} {R : Int → Prop} (q : R i) : ∃ j, V.int i = .int j ∧ R j := ⟨i, rfl, q⟩
theorem r_back (h : te σ H fun x H1 => newB K Q x H1) : tBackT K te σ H Q := h
theorem r_ixT {a : Addr} {i : Int} {v : V} {xs : List V} (h : H a = some (.tup xs)) (e : atI xs i = some v) (q : Q v H) : rIxT K (.ref a) (.int i) H Q := ⟨a, xs, i, v, rfl, rfl, SqT.of h, e, q⟩
theorem r_ixL {a : Addr} {i : Int} {v : V} {xs : List V} (h : H a = some (.lst xs)) (e : atI xs i = some v) (q : Q v H) : rIxL K (.ref a) (.int i) H Q := ⟨a, xs, i, v, rfl, rfl, SqL.of h, e, q⟩
theorem r_setL {p : Addr} {xs : List V} {k : Int} {j : Nat} {v : V} {R : Hp → Prop} (h : H p = some (.lst xs)) (e : ixN xs.length k = some j) (q : R (upd H p (.lst (xs.set j v)))) : rSetL (.ref p) (.int k) v H R := ⟨p, xs, k, j, rfl, rfl, h, e, q⟩
theorem r_seq {u : TS} {s : TS} (h : s { D with nx := u D } σ H) : tSeq s u D σ H := h
theorem r_nx (h : D.nx σ H) : tNext D σ H := h
theorem r_ret (h : te σ H D.rt) : tRet te D σ H := h
theorem r_drop (h : te σ H fun _ H1 => D.nx σ H1) : tDrop te D σ H := h
theorem r_asg {g : TG} (h : te σ H fun x H1 => g x σ H1 D.nx) : tAsg te g D σ H := h
theorem r_name {i : Nat} {v : V} {R : L2.St → Hp → Prop} (h : R (σ.set i (some v)) H) : gName i v σ H R := h
theorem r_sub {to ti : TE} {s : TSet} {v : V} {R : L2.St → Hp → Prop} (h : to σ H fun o H1 => ti σ H1 fun i H2 => s o i v H2 fun H3 => R σ H3) : gSub to ti s v σ H R := h
theorem r_ifS {c : TT} {a b : TS} (h : c σ H fun k H1 => if k = true then a D σ H1 else b D σ H1) : tIfS c a b D σ H := h
theorem r_par {i j : Nat} (h : t σ H fun vs H1 => ∃ v w, vs = [v, w] ∧ D.nx ((σ.set i (some v)).set j (some w)) H1) : tPar i j t D σ H := h
theorem r_2 {v w : V} {R : V → V → Prop} (h : R v w) : ∃ x y, [v, w] = [x, y] ∧ R x y := ⟨v, w, rfl, h⟩
theorem r_for {wi : TI} {g : TG} {tb : TS} (h : wi σ H fun J H1 => ∃ W : Nat → Nat → L2.St → Hp → Prop, (∃ m, W 0 m σ H1) ∧ ∀ i m σ H, W i m σ H →
  (J.stop i H ∧ D.nx σ H) ∨ (J.go i H ∧ ∃ N : L2.St → Hp → Prop, (∀ σ' H', N σ' H' → ∃ m', m' < m ∧ W (i + 1) m' σ' H') ∧ ∀ x H', J.yld i H x H' → g x σ H' fun σ2 H2 => tb { D with nx := N, ct := N, bk := D.nx } σ2 H2)) : tFor wi g tb D σ H := h
theorem r_appL {l : Addr} {xs : List V} {y : V} (h : H l = some (.lst xs)) (hl : xs.length < 100000) (q : Q .non (upd H l (.lst (xs ++ [y])))) : rAppend (.ref l) [y] H Q := ⟨l, xs, y, rfl, rfl, h, Nat.lt_of_lt_of_le hl (by decide), q⟩
theorem r_star {R : List V → Hp → Prop} (h : te σ H fun x H1 => ∃ p xs, x = V.ref p ∧ (SqT K H1 p xs ∨ SqL K H1 p xs) ∧ t σ H1 fun ys H2 => R (xs ++ ys) H2) : StX.tStar K te t σ H R := h
theorem ifT {b : Bool} {A B : Prop} (h : b = true) (q : A) : if b = true then A else B := by rw [if_pos h]; exact q
theorem ifF {b : Bool} {A B : Prop} (h : b = false) (q : B) : if b = true then A else B := by rw [if_neg (by rw [h]; decide)]; exact q
theorem ifD {p : Prop} [Decidable p] {A B : Prop} (h1 : p → A) (h2 : ¬ p → B) : if decide p = true then A else B := by
  by_cases c : p
  · rw [if_pos (by simpa using c)]; exact h1 c
  · rw [if_neg (by simpa using c)]; exact h2 c
theorem ifN {p : Prop} [Decidable p] {A B : Prop} (h1 : ¬ p → A) (h2 : p → B) : if (!decide p) = true then A else B := by
  by_cases c : p
  · rw [if_neg (by simpa using c)]; exact h2 c
  · rw [if_pos (by simpa using c)]; exact h1 c
end
end Gd
namespace Gd
open PySem PySem.Spec PyProof.Rows L2
section
variable {σ : L2.St} {H : Hp} {Q : VK} {K : PySem.W.Frag}
theorem eqV_str (a b : Str) : eqV (.str a) (.str b) = decide (b = a) := by
  simp only [eqV]
  by_cases c : b = a
  · subst c; simp
  · simp [c, Ne.symm c]
theorem r_in2 {p : Addr} {a b s : Str} (h : H p = some (.tup [.str a, .str b])) (q : Q (.bl (decide (s = a) || decide (s = b))) H) : rIn K false (.str s) (.ref p) H Q :=
  ⟨p, _, rfl, Or.inr (SqT.of h), rfl, rfl, by
    have e : inV (.str s) [.str a, .str b] = (decide (s = a) || decide (s = b)) := by simp only [inV, List.any_cons, List.any_nil, eqV_str, Bool.or_false]
    simp only [Bool.false_eq_true, if_false]
    rw [e]; exact q⟩
theorem r_ni2 {p : Addr} {a b s : Str} (h : H p = some (.tup [.str a, .str b])) (q : Q (.bl (!(decide (s = a) || decide (s = b)))) H) : rIn K true (.str s) (.ref p) H Q :=
  ⟨p, _, rfl, Or.inr (SqT.of h), rfl, rfl, by
    have e : inV (.str s) [.str a, .str b] = (decide (s = a) || decide (s = b)) := by simp only [inV, List.any_cons, List.any_nil, eqV_str, Bool.or_false]
    simp only [if_true]
    rw [e]; exact q⟩
/-- the slice of a tuple from its first place on: all but the first item -/
theorem r_from1 {a : Addr} {x : V} {xs : List V} (h : H a = some (.tup (x :: xs))) (q : ∀ p H2, Up H H2 → H2 p = some (.tup xs) → Q (.ref p) H2) : rSlA K (.ref a) (some 1) none H Q := by
  have e0 : HT.sIx (x :: xs).length 0 (some 1) = 1 := by
    have := HT.sIx_nat (x :: xs).length 0 1
    rw [show ((1 : Nat) : Int) = 1 from rfl] at this
    rw [this, List.length_cons]
    omega
  have e1 : HT.sIx (x :: xs).length (x :: xs).length none = (x :: xs).length := rfl
  have ec : cutV (x :: xs) (some 1) none = xs := by
    unfold cutV
    rw [e0, e1]
    simp
  refine ⟨a, _, rfl, SqT.of h, fun z => ?_, fun _ p hp => ?_⟩
  · rw [e0] at z; exact absurd z.1 (by decide)
  · rw [ec]; exact q p _ (Up.new hp) upd_same
theorem r_catA {a b : Addr} {xs ys : List V} (ha : H a = some (.tup xs)) (hb : H b = some (.tup ys)) (hl : xs.length + ys.length ≤ 100000) (q : ∀ p H2, Up H H2 → H2 p = some (.tup (xs ++ ys)) → Q (.ref p) H2) : rCatA K (.ref a) (.ref b) H Q := by
  refine ⟨a, b, xs, ys, rfl, rfl, SqT.of ha, SqT.of hb, Nat.le_trans hl (by decide), fun e => ?_, fun _ e => ?_, fun _ _ p hp => q p _ (Up.new hp) upd_same⟩
  · subst e; exact q b H Up.rf hb
  · subst e; exact q a H Up.rf (by rw [List.append_nil]; exact ha)
theorem r_nn {A : Prop} (h : A) : V.non = V.non ∧ A := ⟨rfl, h⟩
theorem r_notN {v : V} (q : Q (.bl (!decide (v = .non))) H) : (fun x y H (Q : VK) => y = V.non ∧ Q (.bl (!decide (x = .non))) H) v .non H Q := ⟨rfl, q⟩
theorem r_bk {a : Addr} {xs : List V} (h : H a = some (.tup xs)) (q : ∀ p H2, H p = none → Up H H2 → H2 p = some (.tup xs.reverse) → Q (.ref p) H2) : newB K Q (.ref a) H :=
  ⟨a, xs, rfl, SqT.of h, fun p hp => q p _ hp (Up.new hp) upd_same⟩
end
end Gd
namespace Gd
open PySem PySem.Spec PyProof.Rows L2
section
variable {σ : L2.St} {H : Hp} {Q : VK} {K : PySem.W.Frag}
theorem r_tyL {l : Addr} {xs : List V} {B : Prop} (h : H l = some (.lst xs)) (q : B) : tyV K "list" (.ref l) H ∧ B := ⟨Or.inl ⟨rfl, _, Or.inl (Or.inl h)⟩, q⟩
theorem r_tyS {x : Str} {B : Prop} (q : B) : tyV K "str" (.str x) H ∧ B := ⟨rfl, q⟩
theorem r_pop {l : Addr} {xs : List V} {y : V} (h : H l = some (.lst (xs ++ [y]))) (q : ∀ H2, Mv l H H2 → H2 l = some (.lst xs) → Q y H2) : rPop (.ref l) [] H Q :=
  ⟨l, _, y, rfl, rfl, h, by simp, by rw [List.dropLast_concat]; exact q _ Mv.wr upd_same⟩
theorem r_app {l : Addr} {xs : List V} {y : V} (h : H l = some (.lst xs)) (hl : xs.length < 100000) (q : ∀ H2, Mv l H H2 → H2 l = some (.lst (xs ++ [y])) → Q .non H2) : rAppend (.ref l) [y] H Q :=
  ⟨l, xs, y, rfl, rfl, h, Nat.lt_of_lt_of_le hl (by decide), q _ Mv.wr upd_same⟩
theorem r_ext {l b : Addr} {xs ys : List V} (h : H l = some (.lst xs)) (hb : H b = some (.tup ys)) (hl : xs.length + ys.length ≤ 100000) (q : ∀ H2, Mv l H H2 → H2 l = some (.lst (xs ++ ys)) → Q .non H2) : rExtT K (.ref l) [.ref b] H Q :=
  ⟨l, b, xs, ys, rfl, rfl, h, SqT.of hb, Nat.le_trans hl (by decide), q _ Mv.wr upd_same⟩
theorem r_truL {l : Addr} {xs : List V} {R : Bool → Prop} (h : H l = some (.lst xs)) (q : R (!xs.isEmpty)) : ∃ k, TruV K (.ref l) H k ∧ R k := ⟨_, Or.inl ⟨xs, SqL.of h, rfl⟩, q⟩
theorem Das.snoc {H : Hp} {ws : List V} {ds : List PyData} {d : PyData} (h : Das H ws (ds ++ [d])) : ∃ vs v, ws = vs ++ [v] ∧ Das H vs ds ∧ Da H v d := by
  induction ds generalizing ws with
  | nil =>
    obtain ⟨v, rfl, hv⟩ := h.one
    exact ⟨[], v, rfl, .nil, hv⟩
  | cons e ds ih =>
    cases h with
    | cons a t =>
      obtain ⟨vs, v, rfl, h1, h2⟩ := ih t
      exact ⟨_ :: vs, v, rfl, .cons a h1, h2⟩
end
end Gd
namespace Gd
open PySem PySem.Spec PyProof.Rows L2
section
variable {σ : L2.St} {H : Hp} {Q : VK} {K : PySem.W.Frag} {te : TE}
theorem r_lenL {l : Addr} {xs : List V} (h : H l = some (.lst xs)) (q : Q (.int xs.length) H) : (fun vs H (Q : VK) => ∃ p ys, vs = [V.ref p] ∧ (SqL K H p ys ∨ SqT K H p ys) ∧ Q (.int ys.length) H) [.ref l] H Q := ⟨l, xs, rfl, Or.inl (SqL.of h), q⟩
def lenN (K : PySem.W.Frag) (Q : VK) (vs : List V) (H : Hp) : Prop := ∃ p ys, vs = [V.ref p] ∧ (SqL K H p ys ∨ SqT K H p ys) ∧ Q (.int ys.length) H
theorem lenN_of {l : Addr} {xs : List V} (h : H l = some (.lst xs)) (q : Q (.int xs.length) H) : ∃ p ys, [V.ref l] = [V.ref p] ∧ (SqL K H p ys ∨ SqT K H p ys) ∧ Q (.int ys.length) H := ⟨l, xs, rfl, Or.inl (SqL.of h), q⟩
end
/-- what holds between two turns of a comprehension: R of the items made so far -/
def LcP (D : Addr) (R : Nat → List V → Hp → Prop) (i : Nat) (H : Hp) : Prop := ∃ acc, R i acc H ∧ acc.length ≤ i ∧ H D = some (.lst acc)
/-- the end of a turn that makes y -/
def LcE (D : Addr) (R : Nat → List V → Hp → Prop) (i : Nat) : VK := fun y H => ∃ acc, H D = some (.lst acc) ∧ acc.length < sizeLine ∧ LcP D R (i + 1) (upd H D (.lst (acc ++ [y])))
theorem LcE.of {D : Addr} {R : Nat → List V → Hp → Prop} {i : Nat} {y : V} {H : Hp} {acc : List V} (h : H D = some (.lst acc)) (l : acc.length ≤ i) (hi : i < 100000) (q : ∀ H2, Mv D H H2 → H2 D = some (.lst (acc ++ [y])) → R (i + 1) (acc ++ [y]) H2) : LcE D R i y H :=
  ⟨acc, h, Nat.lt_of_le_of_lt l (Nat.lt_of_lt_of_le hi (by decide)), acc ++ [y], q _ Mv.wr upd_same, by rw [List.length_append, List.length_singleton]; omega, upd_same⟩
def lcB (J : It) (g : TG) (tt : TT) (te : TE) (vs : List Nat) (σ : L2.St) (Q : VK) (H1 : Hp) : Prop := ∀ D, H1 D = none → ∃ W : Nat → Nat → Hp → Prop, (∃ m, W 0 m (upd H1 D (.lst []))) ∧ ∀ i m H, W i m H →
  (J.stop i H ∧ Q (.ref D) H) ∨ (J.go i H ∧ ∃ Nx : Hp → Prop, (∀ H', Nx H' → ∃ m', m' < m ∧ W (i + 1) m' H') ∧ ∀ x H', J.yld i H x H' → g x (wipe σ vs) H' fun σ2 H2 => wipe σ2 vs = wipe σ vs ∧ tt σ2 H2 fun b H3 =>
    if b = true then te σ2 H3 fun y H4 => ∃ acc, H4 D = some (.lst acc) ∧ acc.length < sizeLine ∧ Nx (upd H4 D (.lst (acc ++ [y]))) else Nx H3)
section
variable {K : PySem.W.Frag} {tl : TE} {g : TG} {tt : TT} {te : TE} {vs : List Nat} {σ : L2.St} {H H1 : Hp} {Q : VK}
theorem r_lc {wi : TI} (h : wi σ H fun J H1 => lcB J g tt te vs σ Q H1) : tLc wi g tt te vs σ H Q := h
theorem r_il {R : It → Hp → Prop} (h : tl σ H fun x H1 => ∃ a, x = V.ref a ∧ (∃ xs, SqL K H1 a xs) ∧ R (Itl K a) H1) : iList K tl σ H R := h
theorem r_it {R : It → Hp → Prop} (h : tl σ H fun x H1 => ∃ a, x = V.ref a ∧ (∃ xs, SqT K H1 a xs) ∧ R (Itt K a) H1) : iTup K tl σ H R := h
theorem r_ir {ta : TA} {R : It → Hp → Prop} (h : ta σ H fun vs H1 => ∃ j : Int, vs = [.int j] ∧ -(2 ^ 62) ≤ j ∧ j < 2 ^ 62 ∧ R (Itr 0 j.toNat) H1) : iRng1 ta σ H R := h
theorem lc_L {a : Addr} {xs : List V} (ha : H1 a = some (.lst xs)) (hl : xs.length ≤ 100000) (R : Addr → Nat → List V → Hp → Prop)
    (h0 : ∀ D H2, H1 D = none → Up H1 H2 → H2 D = some (.lst []) → R D 0 [] H2) (hs : ∀ D i acc H2, R D i acc H2 → H2 a = some (.lst xs))
    (ht : ∀ D i x acc H2, H1 D = none → xs[i]? = some x → R D i acc H2 → acc.length ≤ i → i < 100000 → H2 D = some (.lst acc) →
      g x (wipe σ vs) H2 fun σ2 H3 => wipe σ2 vs = wipe σ vs ∧ tt σ2 H3 fun b H4 => if b = true then te σ2 H4 (LcE D (R D) i) else LcP D (R D) (i + 1) H4)
    (hd : ∀ D acc H2, H1 D = none → R D xs.length acc H2 → H2 D = some (.lst acc) → Q (.ref D) H2) :
    ∃ a', V.ref a = V.ref a' ∧ (∃ xs, SqL K H1 a' xs) ∧ lcB (Itl K a') g tt te vs σ Q H1 :=
  ⟨a, rfl, ⟨xs, SqL.of ha⟩, fun D hn => lc_list (K := K) (a := a) (xs := xs) (LcP D (R D)) ⟨[], h0 D _ hn (Up.new hn) upd_same, Nat.le_refl _, upd_same⟩ (fun i H2 _ ⟨acc, r, _, _⟩ => SqL.of (hs D i acc H2 r))
    (fun i x H2 hx ⟨acc, r, l, e⟩ => ht D i x acc H2 hn hx r l (Nat.lt_of_lt_of_le (List.getElem?_eq_some_iff.mp hx).1 hl) e) fun H2 ⟨acc, r, l, e⟩ => hd D acc H2 hn r e⟩
theorem lc_T {a : Addr} {xs : List V} (ha : H1 a = some (.tup xs)) (hl : xs.length ≤ 100000) (R : Addr → Nat → List V → Hp → Prop)
    (h0 : ∀ D H2, H1 D = none → Up H1 H2 → H2 D = some (.lst []) → R D 0 [] H2) (hs : ∀ D i acc H2, R D i acc H2 → H2 a = some (.tup xs))
    (ht : ∀ D i x acc H2, H1 D = none → xs[i]? = some x → R D i acc H2 → acc.length ≤ i → i < 100000 → H2 D = some (.lst acc) →
      g x (wipe σ vs) H2 fun σ2 H3 => wipe σ2 vs = wipe σ vs ∧ tt σ2 H3 fun b H4 => if b = true then te σ2 H4 (LcE D (R D) i) else LcP D (R D) (i + 1) H4)
    (hd : ∀ D acc H2, H1 D = none → R D xs.length acc H2 → H2 D = some (.lst acc) → Q (.ref D) H2) :
    ∃ a', V.ref a = V.ref a' ∧ (∃ xs, SqT K H1 a' xs) ∧ lcB (Itt K a') g tt te vs σ Q H1 :=
  ⟨a, rfl, ⟨xs, SqT.of ha⟩, fun D hn => lc_tup (K := K) (a := a) (xs := xs) (LcP D (R D)) ⟨[], h0 D _ hn (Up.new hn) upd_same, Nat.le_refl _, upd_same⟩ (fun i H2 _ ⟨acc, r, _, _⟩ => SqT.of (hs D i acc H2 r))
    (fun i x H2 hx ⟨acc, r, l, e⟩ => ht D i x acc H2 hn hx r l (Nat.lt_of_lt_of_le (List.getElem?_eq_some_iff.mp hx).1 hl) e) fun H2 ⟨acc, r, l, e⟩ => hd D acc H2 hn r e⟩
theorem lc_R {j : Int} (j0 : 0 ≤ j) (j1 : j ≤ 100000) (R : Addr → Nat → List V → Hp → Prop)
    (h0 : ∀ D H2, H1 D = none → Up H1 H2 → H2 D = some (.lst []) → R D 0 [] H2)
    (ht : ∀ D (i : Nat) acc H2, H1 D = none → (i : Int) < j → R D i acc H2 → acc.length ≤ i → i < 100000 → H2 D = some (.lst acc) →
      g (.int (0 + i)) (wipe σ vs) H2 fun σ2 H3 => wipe σ2 vs = wipe σ vs ∧ tt σ2 H3 fun b H4 => if b = true then te σ2 H4 (LcE D (R D) i) else LcP D (R D) (i + 1) H4)
    (hd : ∀ D acc H2, H1 D = none → R D j.toNat acc H2 → H2 D = some (.lst acc) → Q (.ref D) H2) :
    -(2 ^ 62) ≤ j ∧ j < 2 ^ 62 ∧ lcB (Itr 0 j.toNat) g tt te vs σ Q H1 :=
  ⟨by omega, by omega, fun D hn => lc_range (lo := 0) (n := j.toNat) (LcP D (R D)) ⟨[], h0 D _ hn (Up.new hn) upd_same, Nat.le_refl _, upd_same⟩
    (fun i H2 hi ⟨acc, r, l, e⟩ => ht D i acc H2 hn (by omega) r l (by omega) e) fun H2 ⟨acc, r, l, e⟩ => hd D acc H2 hn r e⟩
end
end Gd
namespace Gd
open PySem PySem.Spec PyProof.Rows L2
theorem r_wipe {s t : L2.St} {vs : List Nat} {B : Prop} (h : wipe s vs = t) (q : B) : wipe s vs = t ∧ B := ⟨h, q⟩
theorem r_yes {σ : L2.St} {H : Hp} {R : Bool → Hp → Prop} (q : R true H) : tYes σ H R := q
theorem r_t {A B : Prop} (q : A) : if true = true then A else B := by rw [if_pos rfl]; exact q
theorem r_f {A B : Prop} (q : B) : if false = true then A else B := by rw [if_neg (by decide)]; exact q
end Gd
namespace Gd
open PySem PySem.Spec PyProof.Rows L2
theorem r_L1 {i : Int} {R : Int → Prop} (q : R i) : ∃ j, [V.int i] = [V.int j] ∧ R j := ⟨i, rfl, q⟩
theorem r_iB {b : Bool} {A : Int → Prop} {R : Bool → Prop} (q : R b) : (∃ i, [V.bl b] = [V.int i] ∧ A i) ∨ ∃ k, [V.bl b] = [V.bl k] ∧ R k := Or.inr ⟨b, rfl, q⟩
theorem r_L2 {i j : Int} {R : Int → Int → Prop} (q : R i j) : ∃ a b, [V.int i, V.int j] = [V.int a, V.int b] ∧ R a b := ⟨i, j, rfl, q⟩
theorem atI_ex {α : Type} {xs : List α} {i : Int} (h0 : 0 ≤ i) (h1 : i < xs.length) : ∃ v, atI xs i = some v ∧ v ∈ xs := by
  obtain ⟨n, rfl⟩ := Int.eq_ofNat_of_zero_le h0
  have hn : n < xs.length := by omega
  exact ⟨xs[n], atI_nat (List.getElem?_eq_getElem hn), List.getElem_mem hn⟩
theorem atI_lt {α : Type} {xs : List α} {i : Int} (h0 : 0 ≤ i) (h1 : i < xs.length) : ∃ (n : Nat) (v : α), i = n ∧ xs[n]? = some v ∧ atI xs i = some v := by
  obtain ⟨n, rfl⟩ := Int.eq_ofNat_of_zero_le h0
  have hn : n < xs.length := by omega
  exact ⟨n, xs[n], rfl, List.getElem?_eq_getElem hn, atI_nat (List.getElem?_eq_getElem hn)⟩
theorem SqLup {K : PySem.W.Frag} {H H' : Hp} {a : Addr} {xs : List V} (k : Up H H') (h : SqL K H a xs) : SqL K H' a xs := by
  rcases h with h | h
  · rcases h with h | ⟨o, h⟩
    · exact Or.inl (Or.inl (k _ _ h))
    · exact Or.inl (Or.inr ⟨o, k _ _ h⟩)
  · exact Or.inr h
end Gd
namespace Gd
open PySem PySem.Spec PyProof.Rows L2
theorem mul01 {x : Int} {c : Prop} [Decidable c] : CMul x (if c then 1 else 0) := Or.inr ⟨by split <;> decide, by split <;> decide⟩
end Gd
namespace Gd
open PySem PySem.Spec PyProof.Rows L2
section
variable {K : PySem.W.Frag} {σ : L2.St} {H : Hp} {R : L2.St → Hp → Prop}
theorem r_gtup {n : Nat} {t : TGs} {a : Addr} {xs : List V} (h : H a = some (.tup xs)) (l : xs.length = n) (q : t xs σ H R) : gTup K n t (.ref a) σ H R := ⟨a, xs, rfl, SqT.of h, l, q⟩
theorem r_gc {t : TG} {u : TGs} {v : V} {r : List V} (q : t v σ H fun σ2 H2 => u r σ2 H2 R) : gCons t u (v :: r) σ H R := ⟨v, r, rfl, q⟩
theorem r_gn (q : R σ H) : gNil [] σ H R := ⟨rfl, q⟩
theorem r_ixS {z : Str} {i : Int} {c : Nat} {Q : VK} (hl : z.length ≤ 1000000) (h : atI z.cps.toList i = some c) (q : Q (.str ⟨#[c]⟩) H) : rIxS (.str z) (.int i) H Q := ⟨z, i, c, rfl, rfl, Nat.le_trans hl (by decide), h, q⟩
end
end Gd

namespace Gd
open PySem PySem.Spec PyProof.Rows L2
/-! ### texts in order -/
theorem lt_irr : ∀ a : List Nat, ltCps a a = false
  | [] => rfl
  | x :: r => by simp [ltCps, lt_irr r]
theorem lt_tr : ∀ {a b c : List Nat}, ltCps a b = true → ltCps b c = true → ltCps a c = true
  | [], [], _, h, _ => by simp [ltCps] at h
  | [], _ :: _, [], _, h => by simp [ltCps] at h
  | [], _ :: _, _ :: _, _, _ => rfl
  | _ :: _, [], _, h, _ => by simp [ltCps] at h
  | _ :: _, _ :: _, [], _, h => by simp [ltCps] at h
  | x :: r, y :: t, z :: u, h, g => by
    simp only [ltCps, Bool.or_eq_true, decide_eq_true_eq, Bool.and_eq_true, beq_iff_eq] at h g ⊢
    rcases h with h | ⟨h, h'⟩
    · rcases g with g | ⟨g, g'⟩
      · exact Or.inl (by omega)
      · exact Or.inl (by omega)
    · rcases g with g | ⟨g, g'⟩
      · exact Or.inl (by omega)
      · exact Or.inr ⟨by omega, lt_tr h' g'⟩
theorem lt_tot : ∀ {a b : List Nat}, ltCps a b = false → ltCps b a = false → a = b
  | [], [], _, _ => rfl
  | [], _ :: _, h, _ => by simp [ltCps] at h
  | _ :: _, [], _, h => by simp [ltCps] at h
  | x :: r, y :: t, h, g => by
    simp only [ltCps, Bool.or_eq_false_iff, decide_eq_false_iff_not, Bool.and_eq_false_iff, beq_eq_false_iff_ne, ne_eq] at h g
    have e : x = y := by omega
    subst e
    have h1 : ltCps r t = false := h.2.resolve_left (by simp)
    have h2 : ltCps t r = false := g.2.resolve_left (by simp)
    rw [lt_tot h1 h2]
theorem str_ext {x y : Str} (h : x.cps.toList = y.cps.toList) : x = y := by
  obtain ⟨⟨a⟩⟩ := x
  obtain ⟨⟨b⟩⟩ := y
  simp only at h
  rw [h]
def sLe (x y : Str) : Bool := !ltCps y.cps.toList x.cps.toList
theorem sLe_tr {x y z : Str} (h : sLe x y = true) (g : sLe y z = true) : sLe x z = true := by
  simp only [sLe, Bool.not_eq_true'] at h g ⊢
  cases c : ltCps z.cps.toList x.cps.toList with
  | false => rfl
  | true =>
    exfalso
    cases d : ltCps x.cps.toList y.cps.toList with
    | true =>
      have := lt_tr c d
      rw [g] at this; cases this
    | false =>
      have e := lt_tot d h
      rw [e] at c
      rw [g] at c; cases c
theorem sLe_tot (x y : Str) : sLe x y = true ∨ sLe y x = true := by
  simp only [sLe, Bool.not_eq_true']
  cases c : ltCps y.cps.toList x.cps.toList with
  | false => exact Or.inl rfl
  | true =>
    refine Or.inr ?_
    cases d : ltCps x.cps.toList y.cps.toList with
    | false => rfl
    | true =>
      have := lt_tr c d
      rw [lt_irr] at this; cases this
theorem sLe_anti {x y : Str} (h : sLe x y = true) (g : sLe y x = true) : x = y := by
  simp only [sLe, Bool.not_eq_true'] at h g
  exact str_ext (lt_tot g h)
def sIns (x : Str) : List Str → List Str
  | [] => [x]
  | y :: r => if sLe x y then x :: y :: r else y :: sIns x r
def ssort : List Str → List Str
  | [] => []
  | x :: r => sIns x (ssort r)
theorem sIns_perm (x : Str) : ∀ l : List Str, (sIns x l).Perm (x :: l)
  | [] => .refl _
  | y :: r => by
    unfold sIns
    split
    · exact .refl _
    · exact ((sIns_perm x r).cons y).trans (.swap x y r)
theorem ssort_perm : ∀ l : List Str, (ssort l).Perm l
  | [] => .refl _
  | x :: r => (sIns_perm x _).trans ((ssort_perm r).cons x)
theorem sIns_sorted (x : Str) : ∀ l : List Str, l.Pairwise (fun a b => sLe a b = true) → (sIns x l).Pairwise (fun a b => sLe a b = true)
  | [], _ => List.pairwise_singleton ..
  | y :: r, h => by
    obtain ⟨h1, h2⟩ := List.pairwise_cons.mp h
    unfold sIns
    split
    · rename_i c
      refine List.pairwise_cons.mpr ⟨fun z hz => ?_, h⟩
      rcases List.mem_cons.mp hz with rfl | hz
      · exact c
      · exact sLe_tr c (h1 z hz)
    · rename_i c
      refine List.pairwise_cons.mpr ⟨fun z hz => ?_, sIns_sorted x r h2⟩
      rcases List.mem_cons.mp ((sIns_perm x r).mem_iff.mp hz) with rfl | hz
      · exact (sLe_tot _ _).resolve_left c
      · exact h1 z hz
theorem ssort_sorted : ∀ l : List Str, (ssort l).Pairwise (fun a b => sLe a b = true)
  | [] => .nil
  | x :: r => sIns_sorted x _ (ssort_sorted r)
theorem sorted_same : ∀ {l m : List Str}, l.Perm m → l.Pairwise (fun a b => sLe a b = true) → m.Pairwise (fun a b => sLe a b = true) → l = m
  | [], m, p, _, _ => (List.nil_perm.mp p).symm ▸ rfl
  | x :: l, [], p, _, _ => by simp at p
  | x :: l, y :: m, p, h, g => by
    obtain ⟨h1, h2⟩ := List.pairwise_cons.mp h
    obtain ⟨g1, g2⟩ := List.pairwise_cons.mp g
    have e : x = y := by
      by_cases c : x = y
      · exact c
      · have hx : x ∈ m := (List.mem_cons.mp (p.mem_iff.mp List.mem_cons_self)).resolve_left c
        have hy : y ∈ l := (List.mem_cons.mp (p.mem_iff.mpr List.mem_cons_self)).resolve_left (Ne.symm c)
        exact sLe_anti (h1 y hy) (g1 x hx)
    subst e
    rw [sorted_same (List.Perm.cons_inv p) h2 g2]
theorem rising_pair : ∀ {p : Str} {l : List Str}, risingS p l = true → (p :: l).Pairwise (fun a b => sLe a b = true)
  | p, [], _ => List.pairwise_singleton ..
  | p, x :: r, h => by
    have h' : (!ltCps x.cps.toList p.cps.toList && risingS x r) = true := h
    rw [Bool.and_eq_true] at h'
    have t := rising_pair h'.2
    refine List.pairwise_cons.mpr ⟨fun z hz => ?_, t⟩
    rcases List.mem_cons.mp hz with rfl | hz
    · exact h'.1
    · exact sLe_tr h'.1 ((List.pairwise_cons.mp t).1 z hz)
theorem ssort_of {ys xs : List Str} (p : ys.Perm xs) (h : sortedS ys = true) : ys = ssort xs := by
  refine sorted_same (p.trans (ssort_perm xs).symm) ?_ (ssort_sorted xs)
  cases ys with
  | nil => exact .nil
  | cons y r => exact rising_pair h
/-! ### the law's own key -/
def isBar : PyData → Bool
  | .str s => decide (s = ("|" : Str))
  | _ => false
mutual
def lk : PyData → Str
  | .str x => reprText x
  | .none => ("None" : Str)
  | .tuple ds => lkT ds
  | .bool _ => Str.empty
  | .int _ => Str.empty
  | .list _ => Str.empty
  | .dict _ => Str.empty
def lkT : List PyData → Str
  | [] => ("()" : Str)
  | x :: r => if isBar x = true then ("{" : Str) ++ Txt.join (" " : Str) (ssort (lkM r)) ++ ("}" : Str) else ("(" : Str) ++ Txt.join (" " : Str) (lk x :: lks r) ++ (")" : Str)
def lks : List PyData → List Str
  | [] => []
  | x :: r => lk x :: lks r
def lkM : List PyData → List Str
  | [] => []
  | .tuple ms :: _ => lks ms
  | .str _ :: _ => []
  | .none :: _ => []
  | .bool _ :: _ => []
  | .int _ :: _ => []
  | .list _ :: _ => []
  | .dict _ :: _ => []
end
end Gd

namespace Gd
open PySem PySem.Spec PyProof.Rows L2
/-! ### parts of terms -/
inductive P where
  | use (n : Str) (vs : List P)
  | sig (i r : P)
  | uni (ms : List P)
  | row (xs : List P)
  | inp (xs : List P) (tl : Option Str)
  | star (n : Str)
  | dots (t : P)
  | tail (s : Str)
def tlD : Option Str → PyData
  | none => .none
  | some s => .str s
mutual
def enc : P → PyData
  | .use n vs => .tuple [.str n, .tuple (encs vs)]
  | .sig i r => .tuple [.str ("->" : Str), enc i, enc r]
  | .uni ms => .tuple [.str ("|" : Str), .tuple (encs ms)]
  | .row xs => .tuple [.str ("[]" : Str), .tuple (encs xs)]
  | .inp xs tl => .tuple [.str ("()" : Str), .tuple (encs xs), tlD tl]
  | .star n => .tuple [.str ("*" : Str), .str n]
  | .dots t => .tuple [.str ("..." : Str), enc t]
  | .tail s => .tuple [.str ("**" : Str), .str s]
def encs : List P → List PyData
  | [] => []
  | p :: r => enc p :: encs r
end
theorem encs_map : ∀ l : List P, encs l = l.map enc
  | [] => rfl
  | p :: r => by simp [encs, encs_map r]
theorem encs_app (a b : List P) : encs (a ++ b) = encs a ++ encs b := by simp only [encs_map, List.map_append]
/-- the word that a part begins with -/
def hd : P → Str
  | .use n _ => n
  | .sig _ _ => ("->" : Str)
  | .uni _ => ("|" : Str)
  | .row _ => ("[]" : Str)
  | .inp _ _ => ("()" : Str)
  | .star _ => ("*" : Str)
  | .dots _ => ("..." : Str)
  | .tail _ => ("**" : Str)
def sec : P → PyData
  | .use _ vs => .tuple (encs vs)
  | .sig i _ => enc i
  | .uni ms => .tuple (encs ms)
  | .row xs => .tuple (encs xs)
  | .inp xs _ => .tuple (encs xs)
  | .star n => .str n
  | .dots t => enc t
  | .tail s => .str s
def more : P → List PyData
  | .sig _ r => [enc r]
  | .inp _ tl => [tlD tl]
  | _ => []
theorem enc_eq (p : P) : enc p = .tuple (.str (hd p) :: sec p :: more p) := by
  cases p <;> simp [enc, hd, sec, more]
/-- a name: one to six letters -/
def good (n : Str) : Prop := n.cps.toList ≠ [] ∧ n.length ≤ 6 ∧ ∀ c ∈ n.cps.toList, 97 ≤ c ∧ c ≤ 122
theorem good_ne {n m : Str} (h : good n) (hm : ∃ c ∈ m.cps.toList, c < 97) : n ≠ m := by
  rintro rfl
  obtain ⟨c, hc, hl⟩ := hm
  have := (h.2.2 c hc).1
  omega
def tails : Option Str → List P
  | none => []
  | some s => [.tail s]
def parts : P → List P
  | .use _ vs => vs
  | .sig i r => [i, r]
  | .uni ms => ms
  | .row xs => xs
  | .inp xs tl => xs ++ tails tl
  | .star _ => []
  | .dots t => [t]
  | .tail _ => []
def isNd : P → Bool
  | .row _ => false
  | .inp _ _ => false
  | .use _ _ => true
  | .sig _ _ => true
  | .uni _ => true
  | .star _ => true
  | .dots _ => true
  | .tail _ => true
mutual
def pre : P → List P
  | .use n vs => .use n vs :: pres vs
  | .sig i r => .sig i r :: (pre i ++ pre r)
  | .uni ms => .uni ms :: pres ms
  | .row xs => .row xs :: pres xs
  | .inp xs tl => .inp xs tl :: (pres xs ++ tails tl)
  | .star n => [.star n]
  | .dots t => .dots t :: pre t
  | .tail s => [.tail s]
def pres : List P → List P
  | [] => []
  | p :: r => pre p ++ pres r
end
theorem pres_app : ∀ a b : List P, pres (a ++ b) = pres a ++ pres b
  | [], b => by simp [pres]
  | p :: a, b => by simp [pres, pres_app a b]
theorem pres_tails (tl : Option Str) : pres (tails tl) = tails tl := by cases tl <;> simp [tails, pres, pre]
theorem pre_eq (p : P) : pre p = p :: pres (parts p) := by
  cases p <;> simp [pre, parts, pres, pres_app, pres_tails]
theorem pre_ne (p : P) : pre p ≠ [] := by rw [pre_eq]; simp
theorem pres_len : ∀ l : List P, l.length ≤ (pres l).length
  | [] => by simp
  | p :: r => by
    have := pres_len r
    simp only [pres, pre_eq, List.cons_append, List.length_cons, List.length_append]
    omega
def siz (p : P) : Nat := ((pre p).filter isNd).length
mutual
def lsz : P → Nat
  | .use _ vs => 1 + lszs vs
  | .sig i r => 1 + (lsz i + (lsz r + 0))
  | .uni ms => 1 + lszs ms
  | .row xs => lszs xs
  | .inp xs tl => lszs xs + (match tl with | none => 0 | some _ => 1)
  | .star _ => 1
  | .dots t => 1 + (lsz t + 0)
  | .tail _ => 1
def lszs : List P → Nat
  | [] => 0
  | p :: r => lsz p + lszs r
end
mutual
theorem lsz_siz : ∀ p : P, lsz p = siz p
  | .use n vs => by simp [lsz, siz, pre, List.filter_cons, isNd, lszs_siz vs, Nat.add_comm]
  | .sig i r => by
    have h1 := lsz_siz i
    have h2 := lsz_siz r
    simp only [siz] at h1 h2
    simp [lsz, siz, pre, List.filter_cons, isNd, h1, h2, Nat.add_comm]
  | .uni ms => by simp [lsz, siz, pre, List.filter_cons, isNd, lszs_siz ms, Nat.add_comm]
  | .row xs => by simp [lsz, siz, pre, List.filter_cons, isNd, lszs_siz xs]
  | .inp xs none => by simp [lsz, siz, pre, List.filter_cons, isNd, lszs_siz xs, tails]
  | .inp xs (some s) => by simp [lsz, siz, pre, List.filter_cons, isNd, lszs_siz xs, tails]
  | .star n => by simp [lsz, siz, pre, List.filter_cons, isNd]
  | .dots t => by
    have h1 := lsz_siz t
    simp only [siz] at h1
    simp [lsz, siz, pre, List.filter_cons, isNd, h1, Nat.add_comm]
  | .tail s => by simp [lsz, siz, pre, List.filter_cons, isNd]
theorem lszs_siz : ∀ l : List P, lszs l = ((pres l).filter isNd).length
  | [] => by simp [lszs, pres]
  | p :: r => by
    have h1 := lsz_siz p
    simp only [siz] at h1
    simp [lszs, pres, h1, lszs_siz r]
end
/-! ### how large data are -/
mutual
def kw : PyData → Nat
  | .str x => 10 * x.length + 10
  | .tuple ds => 10 + kws ds
  | .none => 10
  | .bool _ => 10
  | .int _ => 10
  | .list _ => 10
  | .dict _ => 10
def kws : List PyData → Nat
  | [] => 0
  | d :: r => kw d + 5 + kws r
end
theorem kws_app : ∀ a b : List PyData, kws (a ++ b) = kws a + kws b
  | [], b => by simp [kws]
  | d :: a, b => by simp [kws, kws_app a b, Nat.add_assoc]
mutual
theorem pre_kw : ∀ p : P, (pre p).length ≤ kw (enc p)
  | .use n vs => by have := pres_kw vs; simp only [pre, enc, kw, kws, List.length_cons]; omega
  | .sig i r => by have := pre_kw i; have := pre_kw r; simp only [pre, enc, kw, kws, List.length_cons, List.length_append]; omega
  | .uni ms => by have := pres_kw ms; simp only [pre, enc, kw, kws, List.length_cons]; omega
  | .row xs => by have := pres_kw xs; simp only [pre, enc, kw, kws, List.length_cons]; omega
  | .inp xs none => by have := pres_kw xs; simp only [pre, enc, kw, kws, List.length_cons, List.length_append, tails, tlD, List.length_nil]; omega
  | .inp xs (some s) => by have := pres_kw xs; simp only [pre, enc, kw, kws, List.length_cons, List.length_append, tails, tlD, List.length_nil]; omega
  | .star n => by simp only [pre, enc, kw, kws, List.length_cons, List.length_nil]; omega
  | .dots t => by have := pre_kw t; simp only [pre, enc, kw, kws, List.length_cons]; omega
  | .tail s => by simp only [pre, enc, kw, kws, List.length_cons, List.length_nil]; omega
theorem pres_kw : ∀ l : List P, (pres l).length ≤ kws (encs l)
  | [] => by simp [pres]
  | p :: r => by have := pre_kw p; have := pres_kw r; simp only [pres, encs, kws, List.length_append]; omega
end
end Gd
namespace Gd
open PySem PySem.Spec PyProof.Rows L2
theorem at0 {α : Type} {x : α} {xs : List α} : atI (x :: xs) 0 = some x := atI_nat (j := 0) rfl
theorem at1 {α : Type} {x y : α} {xs : List α} : atI (x :: y :: xs) 1 = some y := atI_nat (j := 1) rfl
theorem at2 {α : Type} {x y z : α} {xs : List α} : atI (x :: y :: z :: xs) 2 = some z := atI_nat (j := 2) rfl
theorem enc_inv {H : Hp} {v : V} {p : P} (h : Da H v (enc p)) : ∃ a w ws, v = .ref a ∧ H a = some (.tup (.str (hd p) :: w :: ws)) ∧ Da H w (sec p) ∧ Das H ws (more p) := by
  rw [enc_eq] at h
  obtain ⟨a, xs, rfl, ha, t⟩ := h.tup_inv
  cases t with
  | cons h0 t =>
    cases t with
    | cons h1 t =>
      obtain rfl := h0.str_inv
      exact ⟨a, _, _, rfl, ha, h1, t⟩
structure Apart (n : Str) : Prop where
  a : decide (n = ("*" : Str)) = false
  b : decide (n = ("**" : Str)) = false
  c : decide (n = ("->" : Str)) = false
  d : decide (n = ("..." : Str)) = false
  e : decide (n = ("()" : Str)) = false
  f : decide (n = ("[]" : Str)) = false
  g : decide (n = ("|" : Str)) = false
theorem good_bar {n : Str} (h : good n) : n ≠ ("|" : Str) := by
  rintro rfl
  have h1 : (124 : Nat) ∈ ("|" : Str).cps.toList := by decide +kernel
  have := (h.2.2 _ h1).2
  omega
theorem good.apart {n : Str} (h : good n) : Apart n :=
  ⟨decide_eq_false (good_ne h ⟨42, by decide +kernel, by decide⟩), decide_eq_false (good_ne h ⟨42, by decide +kernel, by decide⟩), decide_eq_false (good_ne h ⟨45, by decide +kernel, by decide⟩),
   decide_eq_false (good_ne h ⟨46, by decide +kernel, by decide⟩), decide_eq_false (good_ne h ⟨40, by decide +kernel, by decide⟩), decide_eq_false (good_ne h ⟨91, by decide +kernel, by decide⟩), decide_eq_false (good_bar h)⟩
end Gd
namespace Gd
open PySem PySem.Spec PyProof.Rows L2
/-- a use is named by a name -/
def hok : P → Prop
  | .use n _ => good n
  | _ => True
theorem nd_hd (p : P) (h : hok p) : (!(decide (hd p = ("[]" : Str)) || decide (hd p = ("()" : Str)))) = isNd p := by
  cases p with
  | use n vs =>
    obtain ⟨e1, e2, e3, e4, e5, e6, e7⟩ := good.apart h
    show (!(decide (n = ("[]" : Str)) || decide (n = ("()" : Str)))) = true
    rw [e6, e5]
    rfl
  | sig i r => show (!(decide (("->" : Str) = ("[]" : Str)) || decide (("->" : Str) = ("()" : Str)))) = true; decide +kernel
  | uni ms => show (!(decide (("|" : Str) = ("[]" : Str)) || decide (("|" : Str) = ("()" : Str)))) = true; decide +kernel
  | row ms => show (!(decide (("[]" : Str) = ("[]" : Str)) || decide (("[]" : Str) = ("()" : Str)))) = false; decide +kernel
  | inp ms t => show (!(decide (("()" : Str) = ("[]" : Str)) || decide (("()" : Str) = ("()" : Str)))) = false; decide +kernel
  | star n => show (!(decide (("*" : Str) = ("[]" : Str)) || decide (("*" : Str) = ("()" : Str)))) = true; decide +kernel
  | dots t => show (!(decide (("..." : Str) = ("[]" : Str)) || decide (("..." : Str) = ("()" : Str)))) = true; decide +kernel
  | tail s => show (!(decide (("**" : Str) = ("[]" : Str)) || decide (("**" : Str) = ("()" : Str)))) = true; decide +kernel
end Gd

namespace Gd
open PySem PySem.Spec PyProof.Rows L2
/-! ### the law's key: what its walk asks -/
def barM : List PyData → Bool
  | .tuple ms :: _ => decide (ms.length < 64)
  | _ => false
mutual
/-- each union in it has fewer than 64 members -/
def kq : PyData → Bool
  | .tuple ds => kqT ds && kqs ds
  | .str _ => true
  | .none => true
  | .bool _ => true
  | .int _ => true
  | .list _ => true
  | .dict _ => true
def kqT : List PyData → Bool
  | [] => true
  | x :: r => !isBar x || barM r
def kqs : List PyData → Bool
  | [] => true
  | x :: r => kq x && kqs r
end
theorem join_len (sep : Str) (ys : List Str) : (Txt.join sep ys).length ≤ (ys.map (·.length)).sum + ys.length * sep.length := by
  show (Builtin.Str.glued sep ys).length ≤ _
  rw [PySem.size_glued]
  have : (ys.length - 1) * sep.length ≤ ys.length * sep.length := Nat.mul_le_mul_right _ (Nat.sub_le _ _)
  omega
theorem app_len (a b : Str) : (a ++ b).length = a.length + b.length := by
  show (a.cps ++ b.cps).size = _
  rw [Array.size_append]
  rfl
theorem perm_sum {l m : List Str} (p : l.Perm m) : (l.map (·.length)).sum = (m.map (·.length)).sum := (p.map _).sum_nat
theorem repr_le {x : Str} (h : PyData.strOk x = true) : (reprText x).length ≤ 10 * x.length + 2 :=
  StrLaws.reprText_len x fun c hc => by
    have h2 : x.cps.all (· < 0x110000) = true := h
    have := Array.all_eq_true_iff_forall_mem.mp h2 c (Array.mem_toList_iff.mp hc)
    have h3 : c < 0x110000 := by simpa using this
    omega
mutual
theorem lk_le : ∀ d : PyData, d.canLay0 = true → (lk d).length ≤ kw d
  | .str x, h => by
    have := repr_le (x := x) (by simpa [PyData.canLay0] using h)
    simp only [lk, kw]
    omega
  | .none, _ => by simp only [lk, kw]; decide +kernel
  | .bool _, _ => by simp only [lk, kw]; decide +kernel
  | .int _, _ => by simp only [lk, kw]; decide +kernel
  | .list _, _ => by simp only [lk, kw]; decide +kernel
  | .dict _, _ => by simp only [lk, kw]; decide +kernel
  | .tuple [], _ => by simp only [lk, lkT, kw, kws]; decide +kernel
  | .tuple (x :: r), h => by
    have hs : (PyData.canLay0 x && PyData.canLayAll0 r) = true := by simpa [PyData.canLay0, PyData.canLayAll0] using h
    rw [Bool.and_eq_true] at hs
    have h1 := lk_le x hs.1
    have h2 := lks_le r hs.2
    have h3 := lkM_le r hs.2
    have l1 := lks_length r
    have a1 : ("{" : Str).length = 1 := by decide +kernel
    have a2 : ("}" : Str).length = 1 := by decide +kernel
    have a3 : ("(" : Str).length = 1 := by decide +kernel
    have a4 : (")" : Str).length = 1 := by decide +kernel
    have a5 : (" " : Str).length = 1 := by decide +kernel
    simp only [lk, lkT, kw, kws]
    split
    · have j := join_len (" " : Str) (ssort (lkM r))
      have p1 := perm_sum (ssort_perm (lkM r))
      have p2 := (ssort_perm (lkM r)).length_eq
      rw [app_len, app_len, a1, a2]
      rw [p1, p2, a5] at j
      omega
    · have j := join_len (" " : Str) (lk x :: lks r)
      rw [app_len, app_len, a3, a4]
      rw [a5] at j
      simp only [List.map_cons, List.sum_cons, List.length_cons] at j
      omega
theorem lks_le : ∀ l : List PyData, PyData.canLayAll0 l = true → ((lks l).map (·.length)).sum + l.length ≤ kws l
  | [], _ => by simp [lks, kws]
  | x :: r, h => by
    have hs : (PyData.canLay0 x && PyData.canLayAll0 r) = true := by simpa [PyData.canLayAll0] using h
    rw [Bool.and_eq_true] at hs
    have h1 := lk_le x hs.1
    have h2 := lks_le r hs.2
    simp only [lks, kws, List.map_cons, List.sum_cons, List.length_cons]
    omega
theorem lkM_le : ∀ l : List PyData, PyData.canLayAll0 l = true → ((lkM l).map (·.length)).sum + (lkM l).length ≤ kws l
  | [], _ => by simp [lkM, kws]
  | .tuple ms :: r, h => by
    have hs : (PyData.canLay0 (.tuple ms) && PyData.canLayAll0 r) = true := by simpa [PyData.canLayAll0] using h
    rw [Bool.and_eq_true] at hs
    have h2 := lks_le ms (by simpa [PyData.canLay0] using hs.1)
    have l1 := lks_length ms
    simp only [lkM, kws, kw]
    omega
  | .str _ :: _, _ => by simp [lkM, kws]
  | .none :: _, _ => by simp [lkM, kws]
  | .bool _ :: _, _ => by simp [lkM, kws]
  | .int _ :: _, _ => by simp [lkM, kws]
  | .list _ :: _, _ => by simp [lkM, kws]
  | .dict _ :: _, _ => by simp [lkM, kws]
theorem lks_length : ∀ l : List PyData, (lks l).length = l.length
  | [] => rfl
  | x :: r => by simp [lks, lks_length r]
end
theorem lks_map : ∀ l : List PyData, lks l = l.map lk
  | [] => rfl
  | x :: r => by simp [lks, lks_map r]
theorem eqv_bar (d : PyData) : PyData.eqv d (.str ("|" : Str)) = isBar d := by
  cases d <;> simp only [PyData.eqv, isBar]
  rename_i s
  by_cases c : s = ("|" : Str)
  · subst c; simp
  · simp [c]
theorem eqv_unit (d : PyData) : PyData.eqv d (.tuple []) = (match d with | .tuple [] => true | _ => false) := by
  cases d with
  | tuple ds => cases ds <;> simp [PyData.eqv, PyData.eqvAll]
  | _ => simp [PyData.eqv]
section
variable {σ : L2.St} {H : Hp} {Q : VK} {K : PySem.W.Frag}
theorem r_isS {x : Str} (q : Q (.bl true) H) : rIsi K [.str x, .ty "str"] H Q := ⟨_, _, _, _, true, rfl, .ty _, .base (.str x), kit_ty (by decide +kernel), q⟩
theorem r_isN (q : Q (.bl false) H) : rIsi K [.non, .ty "str"] H Q := ⟨_, _, _, _, false, rfl, .ty _, .base .non, kit_ty (by decide +kernel), q⟩
theorem r_isT {a : Addr} {xs : List V} (h : H a = some (.tup xs)) (q : Q (.bl false) H) : rIsi K [.ref a, .ty "str"] H Q := ⟨_, _, _, _, false, rfl, .ty _, .base (.tup h), kit_ty (by decide +kernel), q⟩
theorem shaped_of {d : PyData} (h : d.canLay0 = true) (l : d.depth ≤ 64) : SeqAt.shaped d = true := by
  show (d.canLay0 && decide (d.depth ≤ 64)) = true
  rw [h, Bool.true_and]
  exact decide_eq_true l
theorem r_eqD {x y : V} {d e : PyData} (hx : Da H x d) (hy : Da H y e) (c1 : d.canLay0 = true) (l1 : d.depth ≤ 64) (c2 : e.canLay0 = true) (l2 : e.depth ≤ 64) (q : Q (.bl (PyData.eqv d e)) H) : rEqD K x y H Q :=
  ⟨d, e, hx.dp, hy.dp, shaped_of c1 l1, shaped_of c2 l2, q⟩
theorem r_neD {x y : V} {d e : PyData} (hx : Da H x d) (hy : Da H y e) (c1 : d.canLay0 = true) (l1 : d.depth ≤ 64) (c2 : e.canLay0 = true) (l2 : e.depth ≤ 64) (q : Q (.bl (!PyData.eqv d e)) H) : rNeD K x y H Q :=
  ⟨d, e, hx.dp, hy.dp, shaped_of c1 l1, shaped_of c2 l2, q⟩
theorem r_sort {a : Addr} {xs : List Str} (h : H a = some (.lst (xs.map V.str))) (hl : xs.length < 64) (q : ∀ p H2, H p = none → Up H H2 → H2 p = some (.lst ((ssort xs).map V.str)) → Q (.ref p) H2) : rSortedS K [.ref a] H Q :=
  ⟨a, xs, rfl, SqL.of h, hl, fun ys p hp hs hn => by
    obtain rfl := ssort_of hp hs
    exact q p _ hn (Up.new hn) upd_same⟩
def joinN (K : PySem.W.Frag) (Q : VK) (x : V) (xs : List V) (H : Hp) : Prop := ∃ a p, ∃ ys : List Str, x = .str a ∧ xs = [.ref p] ∧ (SqL K H p (ys.map V.str) ∨ SqT K H p (ys.map V.str)) ∧
  (ys.map (·.length)).sum + ys.length * a.length ≤ 16777216 ∧ Q (.str (Txt.join a ys)) H
theorem r_join {x : Str} {p : Addr} {ys : List Str} (h : H p = some (.lst (ys.map V.str))) (hl : (ys.map (·.length)).sum + ys.length * x.length ≤ 1000000) (q : Q (.str (Txt.join x ys)) H) :
    ∃ a p', ∃ ys' : List Str, V.str x = .str a ∧ [V.ref p] = [.ref p'] ∧ (SqL K H p' (ys'.map V.str) ∨ SqT K H p' (ys'.map V.str)) ∧ (ys'.map (·.length)).sum + ys'.length * a.length ≤ 16777216 ∧ Q (.str (Txt.join a ys')) H :=
  ⟨x, p, ys, rfl, rfl, Or.inl (SqL.of h), Nat.le_trans hl (by decide), q⟩
theorem r_cat {a b : Str} (hl : a.length + b.length ≤ 10000000) (q : Q (.str (a ++ b)) H) : ∃ i j, V.str a = .str i ∧ V.str b = .str j ∧ i.length + j.length ≤ sizeLine ∧ Q (.str (i ++ j)) H :=
  ⟨a, b, rfl, rfl, Nat.le_trans hl (by decide), q⟩
end
end Gd
namespace Gd
open PySem PySem.Spec PyProof.Rows L2
theorem empty_app (a : Str) : ("" : Str) ++ a = a := by
  show (⟨("" : Str).cps ++ a.cps⟩ : Str) = a
  have e : ("" : Str).cps = #[] := by decide +kernel
  rw [e, Array.empty_append]
theorem chars_join : ∀ cs : List Nat, Txt.join ("" : Str) (cs.map fun c => (⟨#[c]⟩ : Str)) = ⟨cs.toArray⟩ := by
  intro cs
  rw [TL.join_eq]
  induction cs with
  | nil => rfl
  | cons c cs ih =>
    cases cs with
    | nil => rfl
    | cons d cs =>
      show (⟨#[c]⟩ : Str) ++ ("" : Str) ++ Str.join ("" : Str) ((d :: cs).map fun c => (⟨#[c]⟩ : Str)) = _
      rw [ih]
      have e1 : (⟨#[c]⟩ : Str) ++ ("" : Str) = ⟨#[c]⟩ := by
        show (⟨#[c] ++ ("" : Str).cps⟩ : Str) = ⟨#[c]⟩
        have e : ("" : Str).cps = #[] := by decide +kernel
        rw [e, Array.append_empty]
      rw [e1]
      show (⟨#[c] ++ (d :: cs).toArray⟩ : Str) = _
      congr 1
      simp
theorem chars_len (cs : List Nat) : ((cs.map fun c => (⟨#[c]⟩ : Str)).map (·.length)).sum = cs.length := by
  induction cs with
  | nil => rfl
  | cons c cs ih =>
    simp only [List.map_cons, List.sum_cons, List.length_cons] at ih ⊢
    rw [ih]
    show 1 + cs.length = _
    omega
end Gd
namespace Gd
open PySem PySem.Spec PyProof.Rows L2
theorem lay_mem {m : PyData} : ∀ {l : List PyData}, PyData.canLayAll0 l = true → m ∈ l → m.canLay0 = true
  | [], _, h => (List.not_mem_nil h).elim
  | x :: r, e, h => by
    have hs : (PyData.canLay0 x && PyData.canLayAll0 r) = true := by simpa [PyData.canLayAll0] using e
    rw [Bool.and_eq_true] at hs
    rcases List.mem_cons.mp h with rfl | h
    · exact hs.1
    · exact lay_mem hs.2 h
theorem depth_mem {m : PyData} : ∀ {l : List PyData}, m ∈ l → m.depth ≤ PyData.depthAll l
  | [], h => (List.not_mem_nil h).elim
  | x :: r, h => by
    simp only [PyData.depthAll]
    rcases List.mem_cons.mp h with rfl | h
    · omega
    · have := depth_mem h; omega
theorem kq_mem {m : PyData} : ∀ {l : List PyData}, kqs l = true → m ∈ l → kq m = true
  | [], _, h => (List.not_mem_nil h).elim
  | x :: r, e, h => by
    have hs : (kq x && kqs r) = true := by simpa [kqs] using e
    rw [Bool.and_eq_true] at hs
    rcases List.mem_cons.mp h with rfl | h
    · exact hs.1
    · exact kq_mem hs.2 h
theorem kw_mem {m : PyData} : ∀ {l : List PyData}, m ∈ l → kw m + 5 ≤ kws l
  | [], h => (List.not_mem_nil h).elim
  | x :: r, h => by
    simp only [kws]
    rcases List.mem_cons.mp h with rfl | h
    · omega
    · have := kw_mem h; omega
theorem canLay_tup {ds : List PyData} : (PyData.tuple ds).canLay0 = PyData.canLayAll0 ds := by simp [PyData.canLay0]
theorem depth_tup {ds : List PyData} : (PyData.tuple ds).depth = PyData.depthAll ds + 1 := by simp [PyData.depth]
theorem kw_tup {ds : List PyData} : kw (.tuple ds) = 10 + kws ds := by simp [kw]
theorem kq_tup {ds : List PyData} : kq (.tuple ds) = (kqT ds && kqs ds) := by simp [kq]
theorem shown_unit : PyData.shown (.tuple []) = ("()" : Str) := by decide +kernel
end Gd
namespace Gd
open PySem PySem.Spec PyProof.Rows L2
/-! ### terms joined, as the law does it -/
def lkP (p : P) : Str := lk (enc p)
def memb : P → List P
  | .uni ms => ms
  | .use n vs => [.use n vs]
  | .sig i r => [.sig i r]
  | .row xs => [.row xs]
  | .inp xs t => [.inp xs t]
  | .star n => [.star n]
  | .dots t => [.dots t]
  | .tail s => [.tail s]
def addP (acc : List P) (p : P) : List P := if lkP p ∈ acc.map lkP then acc else acc ++ [p]
def foundP (ps : List P) : List P := (ps.flatMap memb).foldl addP []
def ljoin (ps : List P) : P := match foundP ps with
  | [p] => p
  | l => .uni l
/-- what the law's walks ask of a part -/
structure Ok (dp kb : Nat) (p : P) : Prop where
  lay : (enc p).canLay0 = true
  dep : (enc p).depth ≤ dp
  bar : kq (enc p) = true
  wgt : kw (enc p) ≤ kb
theorem Ok.mono {d k d' k' : Nat} {p : P} (h : Ok d k p) (hd : d ≤ d') (hk : k ≤ k') : Ok d' k' p := ⟨h.lay, Nat.le_trans h.dep hd, h.bar, Nat.le_trans h.wgt hk⟩
theorem mem_encs {p : P} {l : List P} (h : p ∈ l) : enc p ∈ encs l := by rw [encs_map]; exact List.mem_map.mpr ⟨p, h, rfl⟩
theorem Ok.uni_len {d k : Nat} {ms : List P} (h : Ok d k (.uni ms)) : ms.length < 64 := by
  have := h.bar
  simp only [enc, kq, kqT, isBar, barM, Bool.and_eq_true] at this
  have h1 := this.1
  simp only [decide_true, Bool.not_true, Bool.false_or, decide_eq_true_eq] at h1
  rwa [encs_map, List.length_map] at h1
theorem Ok.uni {d k : Nat} {ms : List P} (h : Ok d k (.uni ms)) {m : P} (hm : m ∈ ms) : Ok d k m := by
  obtain ⟨h1, h2, h3, h4⟩ := h
  have me := mem_encs hm
  simp only [enc] at h1 h2 h3 h4
  rw [canLay_tup] at h1
  rw [depth_tup] at h2
  rw [kq_tup, Bool.and_eq_true] at h3
  rw [kw_tup] at h4
  have a1 := lay_mem h1 (m := .tuple (encs ms)) (by simp)
  rw [canLay_tup] at a1
  have a2 := depth_mem (m := .tuple (encs ms)) (l := [.str ("|" : Str), .tuple (encs ms)]) (by simp)
  rw [depth_tup] at a2
  have a3 := kq_mem h3.2 (m := .tuple (encs ms)) (by simp)
  rw [kq_tup, Bool.and_eq_true] at a3
  have a4 := kw_mem (m := .tuple (encs ms)) (l := [.str ("|" : Str), .tuple (encs ms)]) (by simp)
  rw [kw_tup] at a4
  have b2 := depth_mem me
  have b4 := kw_mem me
  exact ⟨lay_mem a1 me, by omega, kq_mem a3.2 me, by omega⟩
theorem Ok.memb {d k : Nat} {p m : P} (h : Ok d k p) (hm : m ∈ memb p) : Ok d k m := by
  cases p with
  | uni ms => exact h.uni hm
  | _ => rw [List.mem_singleton.mp hm]; exact h
theorem addP_sub {acc : List P} {p q : P} (h : q ∈ addP acc p) : q ∈ acc ∨ q = p := by
  unfold addP at h
  split at h
  · exact Or.inl h
  · rcases List.mem_append.mp h with h | h
    · exact Or.inl h
    · exact Or.inr (List.mem_singleton.mp h)
theorem addP_len (acc : List P) (p : P) : acc.length ≤ (addP acc p).length ∧ (addP acc p).length ≤ acc.length + 1 := by
  unfold addP
  split
  · omega
  · rw [List.length_append, List.length_singleton]; omega
theorem fold_len : ∀ (l acc : List P), (l.foldl addP acc).length ≤ acc.length + l.length
  | [], acc => by simp
  | p :: r, acc => by
    have h1 := (addP_len acc p).2
    have h2 := fold_len r (addP acc p)
    simp only [List.foldl_cons, List.length_cons]
    omega
theorem fold_ge : ∀ (l acc : List P), acc.length ≤ (l.foldl addP acc).length
  | [], acc => by simp
  | p :: r, acc => by
    have h1 := (addP_len acc p).1
    have h2 := fold_ge r (addP acc p)
    simp only [List.foldl_cons]
    omega
theorem fold_sub {q : P} : ∀ (l acc : List P), q ∈ l.foldl addP acc → q ∈ acc ∨ q ∈ l
  | [], acc, h => Or.inl h
  | p :: r, acc, h => by
    rcases fold_sub r (addP acc p) h with h | h
    · rcases addP_sub h with h | rfl
      · exact Or.inl h
      · exact Or.inr List.mem_cons_self
    · exact Or.inr (List.mem_cons_of_mem _ h)
theorem fold_nd : ∀ (l acc : List P), (acc.map lkP).Nodup → ((l.foldl addP acc).map lkP).Nodup
  | [], acc, h => h
  | p :: r, acc, h => by
    refine fold_nd r _ ?_
    unfold addP
    split
    · exact h
    · rename_i c
      rw [List.map_append]
      exact List.nodup_append.mpr ⟨h, by simp, fun x hx y hy e => by
        rw [List.map_singleton, List.mem_singleton] at hy
        subst hy; subst e; exact c hx⟩
theorem memb_ne (p : P) (h : ∀ ms, p = .uni ms → ms ≠ []) : memb p ≠ [] := by
  cases p with
  | uni ms => exact h ms rfl
  | _ => simp [memb]
theorem bar_hd (p : P) (h : hok p) : decide (hd p = ("|" : Str)) = (match p with | .uni _ => true | _ => false) := by
  cases p with
  | use n vs => exact h.apart.g
  | uni ms => show decide (("|" : Str) = ("|" : Str)) = true; decide +kernel
  | sig i r => show decide (("->" : Str) = ("|" : Str)) = false; decide +kernel
  | row ms => show decide (("[]" : Str) = ("|" : Str)) = false; decide +kernel
  | inp ms t => show decide (("()" : Str) = ("|" : Str)) = false; decide +kernel
  | star n => show decide (("*" : Str) = ("|" : Str)) = false; decide +kernel
  | dots t => show decide (("..." : Str) = ("|" : Str)) = false; decide +kernel
  | tail s => show decide (("**" : Str) = ("|" : Str)) = false; decide +kernel
section
variable {K : PySem.W.Frag} {σ : L2.St} {H : Hp} {Q : VK}
theorem inV_strs (s : Str) (ks : List Str) : inV (.str s) (ks.map V.str) = decide (s ∈ ks) := by
  unfold inV
  induction ks with
  | nil => simp
  | cons k ks ih =>
    simp only [List.map_cons, List.any_cons, ih, eqV_str, List.mem_cons, Bool.decide_or]
theorem r_niL {p : Addr} {s : Str} {ks : List Str} (h : H p = some (.lst (ks.map V.str))) (q : Q (.bl (!decide (s ∈ ks))) H) : rIn K true (.str s) (.ref p) H Q :=
  ⟨p, _, rfl, Or.inl (SqL.of h), rfl, by simp [flatV], by
    simp only [if_true]
    rw [inV_strs]; exact q⟩
theorem r_isL {p : Addr} {s : Str} {ks : List Str} (h : H p = some (.lst (ks.map V.str))) (q : Q (.bl (decide (s ∈ ks))) H) : rIn K false (.str s) (.ref p) H Q :=
  ⟨p, _, rfl, Or.inl (SqL.of h), rfl, by simp [flatV], by
    simp only [Bool.false_eq_true, if_false]
    rw [inV_strs]; exact q⟩
end
end Gd
namespace Gd
open PySem PySem.Spec PyProof.Rows L2
def isUni : P → Bool
  | .uni _ => true
  | .use _ _ => false
  | .sig _ _ => false
  | .row _ => false
  | .inp _ _ => false
  | .star _ => false
  | .dots _ => false
  | .tail _ => false
theorem bar_uni (p : P) (h : hok p) : decide (hd p = ("|" : Str)) = isUni p := by
  rw [bar_hd p h]
  cases p <;> rfl
theorem uni_or (p : P) : (∃ ms, p = .uni ms) ∨ (isUni p = false ∧ memb p = [p]) := by
  cases p with
  | uni ms => exact Or.inl ⟨ms, rfl⟩
  | _ => exact Or.inr ⟨rfl, rfl⟩
end Gd
namespace Gd
open PySem PySem.Spec PyProof.Rows L2
section
variable {H : Hp} {Q : VK} {K : PySem.W.Frag}
theorem r_in2L {p : Addr} {a b s : Str} (h : H p = some (.lst [.str a, .str b])) (q : Q (.bl (decide (s = a) || decide (s = b))) H) : rIn K false (.str s) (.ref p) H Q :=
  ⟨p, _, rfl, Or.inl (SqL.of h), rfl, rfl, by
    have e : inV (.str s) [.str a, .str b] = (decide (s = a) || decide (s = b)) := by simp only [inV, List.any_cons, List.any_nil, eqV_str, Bool.or_false]
    simp only [Bool.false_eq_true, if_false]
    rw [e]; exact q⟩
theorem r_sum {a : Addr} {ns : List Int} (h : H a = some (.lst (ns.map V.int))) (q : Q (.int ns.sum) H) : rSum K [.ref a] H Q := ⟨a, ns, rfl, SqL.of h, q⟩
end
theorem lszs_sum : ∀ qs : List P, (qs.map fun p => ((lsz p : Nat) : Int)).sum = ((lszs qs : Nat) : Int)
  | [] => by simp [lszs]
  | p :: r => by simp [lszs, lszs_sum r]
end Gd

namespace Gd
open PySem PySem.Spec PyProof.Rows L2
/-! ### what is a term: kinds 0 a term, 1 a value, 2 an item, 3 inputs, 4 a member -/
def tlok : Option Str → Prop
  | none => True
  | some s => s = ("..." : Str) ∨ good s
mutual
def isK : P → Nat → Prop
  | .use n vs, k => (k = 0 ∨ k = 1 ∨ k = 2 ∨ k = 4) ∧ good n ∧ isKs vs 1
  | .sig i r, k => (k = 0 ∨ k = 1 ∨ k = 2 ∨ k = 4) ∧ isK i 3 ∧ isK r 0
  | .uni ms, k => (k = 0 ∨ k = 1 ∨ k = 2) ∧ 2 ≤ ms.length ∧ (ms.map lkP).Nodup ∧ isKs ms 4
  | .row xs, k => k = 1 ∧ isKs xs 2
  | .inp xs tl, k => (k = 1 ∨ k = 3) ∧ isKs xs 2 ∧ tlok tl
  | .star n, k => k = 2 ∧ good n
  | .dots t, k => k = 2 ∧ isK t 0
  | .tail _, _ => False
def isKs : List P → Nat → Prop
  | [], _ => True
  | p :: r, k => isK p k ∧ isKs r k
end
theorem isKs_iff {k : Nat} : ∀ {l : List P}, isKs l k ↔ ∀ p ∈ l, isK p k
  | [] => by simp [isKs]
  | p :: r => by simp [isKs, isKs_iff (l := r)]
theorem isK_up {p : P} {k : Nat} (h : isK p 0) (hk : k = 0 ∨ k = 1 ∨ k = 2) : isK p k := by
  cases p <;> simp only [isK] at h ⊢
  case use => exact ⟨by omega, h.2⟩
  case sig => exact ⟨by omega, h.2⟩
  case uni => exact ⟨by omega, h.2⟩
  all_goals first | exact absurd h.1 (by decide) | exact absurd h id
theorem isK_mem {p : P} (h : isK p 4) : isK p 0 := by
  cases p <;> simp only [isK] at h ⊢
  case use => exact ⟨by first | omega | simp, h.2⟩
  case sig => exact ⟨by first | omega | simp, h.2⟩
  all_goals first | exact absurd h.1 (by decide) | exact absurd h id
theorem isK_memb {p m : P} (h : isK p 0) (hm : m ∈ memb p) : isK m 4 := by
  cases p <;> simp only [isK] at h
  case uni ms => exact isKs_iff.mp h.2.2.2 m hm
  case use => rw [List.mem_singleton.mp hm]; simp only [isK]; exact ⟨by decide, h.2⟩
  case sig => rw [List.mem_singleton.mp hm]; simp only [isK]; exact ⟨by decide, h.2⟩
  all_goals first | exact absurd h.1 (by decide) | exact absurd h id
theorem isK_hok {p : P} {k : Nat} (h : isK p k) : hok p := by
  cases p <;> simp only [isK] at h
  case use => exact h.2.1
  all_goals exact trivial
mutual
theorem isK_pre : ∀ (p : P) (k : Nat), isK p k → ∀ q ∈ pre p, hok q
  | .use n vs, k, h, q, hq => by
    simp only [isK] at h
    simp only [pre, List.mem_cons] at hq
    rcases hq with rfl | hq
    · exact h.2.1
    · exact isKs_pre vs 1 h.2.2 q hq
  | .sig i r, k, h, q, hq => by
    simp only [isK] at h
    simp only [pre, List.mem_cons, List.mem_append] at hq
    rcases hq with rfl | hq | hq
    · exact trivial
    · exact isK_pre i 3 h.2.1 q hq
    · exact isK_pre r 0 h.2.2 q hq
  | .uni ms, k, h, q, hq => by
    simp only [isK] at h
    simp only [pre, List.mem_cons] at hq
    rcases hq with rfl | hq
    · exact trivial
    · exact isKs_pre ms 4 h.2.2.2 q hq
  | .row ms, k, h, q, hq => by
    simp only [isK] at h
    simp only [pre, List.mem_cons] at hq
    rcases hq with rfl | hq
    · exact trivial
    · exact isKs_pre ms 2 h.2 q hq
  | .inp ms tl, k, h, q, hq => by
    simp only [isK] at h
    simp only [pre, List.mem_cons, List.mem_append] at hq
    rcases hq with rfl | hq | hq
    · exact trivial
    · exact isKs_pre ms 2 h.2.1 q hq
    · cases tl with
      | none => simp [tails] at hq
      | some s => simp only [tails, List.mem_singleton] at hq; subst hq; exact trivial
  | .star n, k, h, q, hq => by
    simp only [pre, List.mem_singleton] at hq
    subst hq; exact trivial
  | .dots t, k, h, q, hq => by
    simp only [isK] at h
    simp only [pre, List.mem_cons] at hq
    rcases hq with rfl | hq
    · exact trivial
    · exact isK_pre t 0 h.2 q hq
  | .tail s, k, h, q, hq => by
    simp only [pre, List.mem_singleton] at hq
    subst hq; exact trivial
theorem isKs_pre : ∀ (l : List P) (k : Nat), isKs l k → ∀ q ∈ pres l, hok q
  | [], _, _, q, hq => by simp [pres] at hq
  | p :: r, k, h, q, hq => by
    simp only [isKs] at h
    simp only [pres, List.mem_append] at hq
    rcases hq with hq | hq
    · exact isK_pre p k h.1 q hq
    · exact isKs_pre r k h.2 q hq
end
/-! ### sizes of drawn terms -/
def Wd : Nat → Nat
  | 0 => 110
  | d + 1 => 3 * Wd d + 400
theorem Wd_ge : ∀ d, 110 ≤ Wd d
  | 0 => Nat.le_refl _
  | d + 1 => by have := Wd_ge d; simp only [Wd]; omega
structure Cd (k dp wt : Nat) (p : P) : Prop where
  is : isK p k
  lay : (enc p).canLay0 = true
  dep : (enc p).depth ≤ dp
  bar : kq (enc p) = true
  wgt : kw (enc p) ≤ wt
theorem Cd.mono {k dp wt dp' wt' : Nat} {p : P} (h : Cd k dp wt p) (hd : dp ≤ dp') (hw : wt ≤ wt') : Cd k dp' wt' p := ⟨h.is, h.lay, Nat.le_trans h.dep hd, h.bar, Nat.le_trans h.wgt hw⟩
theorem Cd.ok {k dp wt : Nat} {p : P} (h : Cd k dp wt p) : Ok dp wt p := ⟨h.lay, h.dep, h.bar, h.wgt⟩
theorem Cd.up {k dp wt : Nat} {p : P} (h : Cd 0 dp wt p) (hk : k = 0 ∨ k = 1 ∨ k = 2) : Cd k dp wt p := ⟨isK_up h.is hk, h.lay, h.dep, h.bar, h.wgt⟩
theorem Cd.inV {dp wt : Nat} {p : P} (h : Cd 3 dp wt p) : Cd 1 dp wt p := by
  obtain ⟨a, b, c, d, e⟩ := h
  refine ⟨?_, b, c, d, e⟩
  cases p <;> simp only [isK] at a ⊢
  case inp => exact ⟨by decide, a.2⟩
  all_goals first | exact absurd a.1 (by decide) | exact absurd a id
theorem lay_all : ∀ {l : List P}, (∀ p ∈ l, (enc p).canLay0 = true) → PyData.canLayAll0 (encs l) = true
  | [], _ => by simp [encs, PyData.canLayAll0]
  | p :: r, h => by simp [encs, PyData.canLayAll0, h p List.mem_cons_self, lay_all (l := r) fun q hq => h q (List.mem_cons_of_mem _ hq)]
theorem dep_all {n : Nat} : ∀ {l : List P}, (∀ p ∈ l, (enc p).depth ≤ n) → PyData.depthAll (encs l) ≤ n
  | [], _ => by simp [encs, PyData.depthAll]
  | p :: r, h => by
    have h1 := h p List.mem_cons_self
    have h2 := dep_all (l := r) fun q hq => h q (List.mem_cons_of_mem _ hq)
    simp only [encs, PyData.depthAll]
    omega
theorem bar_all : ∀ {l : List P}, (∀ p ∈ l, kq (enc p) = true) → kqs (encs l) = true
  | [], _ => by simp [encs, kqs]
  | p :: r, h => by simp [encs, kqs, h p List.mem_cons_self, bar_all (l := r) fun q hq => h q (List.mem_cons_of_mem _ hq)]
theorem good_lay {n : Str} (h : good n) : PyData.strOk n = true := by
  unfold PyData.strOk
  rw [Array.all_eq_true_iff_forall_mem]
  intro c hc
  have := (h.2.2 c (Array.mem_toList_iff.mpr hc)).2
  exact decide_eq_true (by omega)
theorem bar_first : ∀ p : P, isUni p = false → isBar (enc p) = false := by
  intro p _
  cases p <;> rfl
theorem kqT_cons (x : PyData) (r : List PyData) : kqT (x :: r) = (!isBar x || barM r) := rfl
theorem kqT_encs : ∀ vs : List P, kqT (encs vs) = true
  | [] => rfl
  | v :: r => by
    simp only [encs, kqT]
    cases v <;> simp [enc, isBar]
theorem Cd.use {k dp s : Nat} {n : Str} {vs : List P} (hk : k = 0 ∨ k = 4) (hn : good n) (hv : ∀ v ∈ vs, ∃ w, Cd 1 dp w v) (hs : kws (encs vs) ≤ s) : Cd k (dp + 2) (s + 100) (.use n vs) := by
  refine ⟨?_, ?_, ?_, ?_, ?_⟩
  · simp only [isK]
    exact ⟨by omega, hn, isKs_iff.mpr fun p hp => (hv p hp).choose_spec.is⟩
  · simp only [enc, PyData.canLay0, PyData.canLayAll0, good_lay hn, Bool.true_and, Bool.and_true]
    exact lay_all fun p hp => (hv p hp).choose_spec.lay
  · have := dep_all (n := dp) (l := vs) fun p hp => (hv p hp).choose_spec.dep
    simp only [enc, PyData.depth, PyData.depthAll]
    omega
  · have hb := hn.apart.g
    have h1 := bar_all (l := vs) fun p hp => (hv p hp).choose_spec.bar
    simp only [enc, kq, kqs, kqT_cons, isBar, hb, h1, kqT_encs, Bool.not_false, Bool.true_or, Bool.true_and, Bool.and_true]
  · have := hn.2.1
    simp only [enc, kw, kws]
    omega
theorem Cd.row {dp s : Nat} {xs : List P} (hv : ∀ v ∈ xs, ∃ w, Cd 2 dp w v) (hs : kws (encs xs) ≤ s) : Cd 1 (dp + 2) (s + 60) (.row xs) := by
  have l1 : ("[]" : Str).length = 2 := by decide +kernel
  refine ⟨?_, ?_, ?_, ?_, ?_⟩
  · simp only [isK]
    exact ⟨by trivial, isKs_iff.mpr fun p hp => (hv p hp).choose_spec.is⟩
  · have : PyData.strOk ("[]" : Str) = true := by decide +kernel
    simp only [enc, PyData.canLay0, PyData.canLayAll0, this, Bool.true_and, Bool.and_true]
    exact lay_all fun p hp => (hv p hp).choose_spec.lay
  · have := dep_all (n := dp) (l := xs) fun p hp => (hv p hp).choose_spec.dep
    simp only [enc, PyData.depth, PyData.depthAll]
    omega
  · have hb : decide (("[]" : Str) = ("|" : Str)) = false := by decide +kernel
    have h1 := bar_all (l := xs) fun p hp => (hv p hp).choose_spec.bar
    simp only [enc, kq, kqs, kqT_cons, isBar, hb, h1, kqT_encs, Bool.not_false, Bool.true_or, Bool.true_and, Bool.and_true]
  · simp only [enc, kw, kws, l1]
    omega
theorem Cd.inp {dp s : Nat} {xs : List P} {tl : Option Str} (hv : ∀ v ∈ xs, ∃ w, Cd 2 dp w v) (ht : tlok tl) (hs : kws (encs xs) ≤ s) : Cd 3 (dp + 2) (s + 135) (.inp xs tl) := by
  have l1 : ("()" : Str).length = 2 := by decide +kernel
  have htl : ∀ s, tl = some s → PyData.strOk s = true ∧ s.length ≤ 6 := by
    rintro s rfl
    rcases ht with rfl | h
    · exact ⟨by decide +kernel, by decide +kernel⟩
    · exact ⟨good_lay h, h.2.1⟩
  refine ⟨?_, ?_, ?_, ?_, ?_⟩
  · simp only [isK]
    exact ⟨by decide, isKs_iff.mpr fun p hp => (hv p hp).choose_spec.is, ht⟩
  · have : PyData.strOk ("()" : Str) = true := by decide +kernel
    have h1 := lay_all (l := xs) fun p hp => (hv p hp).choose_spec.lay
    cases tl with
    | none => simp only [enc, tlD, PyData.canLay0, PyData.canLayAll0, this, h1, Bool.true_and, Bool.and_true]
    | some s => simp only [enc, tlD, PyData.canLay0, PyData.canLayAll0, this, h1, (htl s rfl).1, Bool.true_and, Bool.and_true]
  · have := dep_all (n := dp) (l := xs) fun p hp => (hv p hp).choose_spec.dep
    cases tl <;> simp only [enc, tlD, PyData.depth, PyData.depthAll] <;> omega
  · have hb : decide (("()" : Str) = ("|" : Str)) = false := by decide +kernel
    have h1 := bar_all (l := xs) fun p hp => (hv p hp).choose_spec.bar
    cases tl <;> simp only [enc, tlD, kq, kqs, kqT_cons, isBar, hb, h1, kqT_encs, Bool.not_false, Bool.true_or, Bool.true_and, Bool.and_true]
  · cases tl with
    | none => simp only [enc, tlD, kw, kws, l1]; omega
    | some s => have := (htl s rfl).2; simp only [enc, tlD, kw, kws, l1]; omega
theorem Cd.star {n : Str} (hn : good n) : Cd 2 1 110 (.star n) := by
  have l1 : ("*" : Str).length = 1 := by decide +kernel
  have h2 := hn.2.1
  refine ⟨by simp only [isK]; exact ⟨by trivial, hn⟩, ?_, by simp [enc, PyData.depth, PyData.depthAll], ?_, by simp only [enc, kw, kws, l1]; omega⟩
  · have : PyData.strOk ("*" : Str) = true := by decide +kernel
    simp only [enc, PyData.canLay0, PyData.canLayAll0, this, good_lay hn, Bool.and_true]
  · have hb : decide (("*" : Str) = ("|" : Str)) = false := by decide +kernel
    simp only [enc, kq, kqs, kqT_cons, isBar, hb, Bool.not_false, Bool.true_or, Bool.and_true]
theorem Cd.dots {dp w : Nat} {t : P} (h : Cd 0 dp w t) : Cd 2 (dp + 1) (w + 60) (.dots t) := by
  have l1 : ("..." : Str).length = 3 := by decide +kernel
  have := h.wgt
  have := h.dep
  refine ⟨by simp only [isK]; exact ⟨by trivial, h.is⟩, ?_, by simp only [enc, PyData.depth, PyData.depthAll]; omega, ?_, by simp only [enc, kw, kws, l1]; omega⟩
  · have : PyData.strOk ("..." : Str) = true := by decide +kernel
    simp only [enc, PyData.canLay0, PyData.canLayAll0, this, h.lay, Bool.and_true]
  · have hb : decide (("..." : Str) = ("|" : Str)) = false := by decide +kernel
    simp only [enc, kq, kqs, kqT_cons, isBar, hb, h.bar, Bool.not_false, Bool.true_or, Bool.and_true]
theorem Cd.sig {k dp w1 w2 : Nat} {i r : P} (hk : k = 0 ∨ k = 4) (hi : Cd 3 dp w1 i) (hr : Cd 0 dp w2 r) : Cd k (dp + 1) (w1 + w2 + 60) (.sig i r) := by
  have l1 : ("->" : Str).length = 2 := by decide +kernel
  have := hi.wgt
  have := hr.wgt
  have := hi.dep
  have := hr.dep
  refine ⟨by simp only [isK]; exact ⟨by omega, hi.is, hr.is⟩, ?_, by simp only [enc, PyData.depth, PyData.depthAll]; omega, ?_, by simp only [enc, kw, kws, l1]; omega⟩
  · have : PyData.strOk ("->" : Str) = true := by decide +kernel
    simp only [enc, PyData.canLay0, PyData.canLayAll0, this, hi.lay, hr.lay, Bool.and_true]
  · have hb : decide (("->" : Str) = ("|" : Str)) = false := by decide +kernel
    simp only [enc, kq, kqs, kqT_cons, isBar, hb, hi.bar, hr.bar, Bool.not_false, Bool.true_or, Bool.and_true]
theorem Cd.uni {dp s : Nat} {ms : List P} (hv : ∀ v ∈ ms, ∃ w, Cd 4 dp w v) (h2 : 2 ≤ ms.length) (h64 : ms.length < 64) (nd : (ms.map lkP).Nodup) (hs : kws (encs ms) ≤ s) : Cd 0 (dp + 2) (s + 60) (.uni ms) := by
  have l1 : ("|" : Str).length = 1 := by decide +kernel
  refine ⟨?_, ?_, ?_, ?_, ?_⟩
  · simp only [isK]
    exact ⟨by decide, h2, nd, isKs_iff.mpr fun p hp => (hv p hp).choose_spec.is⟩
  · have : PyData.strOk ("|" : Str) = true := by decide +kernel
    simp only [enc, PyData.canLay0, PyData.canLayAll0, this, Bool.true_and, Bool.and_true]
    exact lay_all fun p hp => (hv p hp).choose_spec.lay
  · have := dep_all (n := dp) (l := ms) fun p hp => (hv p hp).choose_spec.dep
    simp only [enc, PyData.depth, PyData.depthAll]
    omega
  · have h1 := bar_all (l := ms) fun p hp => (hv p hp).choose_spec.bar
    have hl : (encs ms).length < 64 := by rw [encs_map, List.length_map]; exact h64
    simp only [enc, kq, kqs, kqT_cons, isBar, barM, h1, kqT_encs, Bool.and_true]
    simp [hl]
  · simp only [enc, kw, kws, l1]
    omega
theorem addP_sl (acc : List P) (p : P) : (addP acc p).Sublist (acc ++ [p]) := by
  unfold addP
  split
  · exact List.sublist_append_left _ _
  · exact .refl _
theorem fold_sl : ∀ (l acc : List P), (l.foldl addP acc).Sublist (acc ++ l)
  | [], acc => by simp
  | p :: r, acc => by
    have h := (fold_sl r (addP acc p)).trans ((addP_sl acc p).append (.refl r))
    simpa using h
theorem kws_sl {l m : List P} (h : l.Sublist m) : kws (encs l) ≤ kws (encs m) := by
  induction h with
  | slnil => exact Nat.le_refl _
  | cons a _ ih => simp only [encs, kws]; omega
  | cons_cons a _ ih => simp only [encs, kws]; omega
/-- a drawn term of depth d -/
structure TmD (d : Nat) (p : P) : Prop where
  cd : Cd 0 (5 * d + 2) (Wd d) p
  mem : (memb p).length ≤ 3 ^ d
theorem TmD.cdm {d : Nat} {p m : P} (h : TmD d p) (hm : m ∈ memb p) : Cd 4 (5 * d + 2) (Wd d) m := by
  have o := h.cd.ok.memb hm
  exact ⟨isK_memb h.cd.is hm, o.lay, o.dep, o.bar, o.wgt⟩
theorem memb_kws {d : Nat} {p : P} (h : TmD d p) : kws (encs (memb p)) ≤ Wd d + 5 := by
  have := h.cd.wgt
  rcases uni_or p with ⟨ms, rfl⟩ | ⟨_, e⟩
  · simp only [enc, kw, kws] at this
    show kws (encs ms) ≤ _
    omega
  · rw [e]
    simp only [encs, kws]
    omega
theorem memb_ne' {p : P} (h : isK p 0) : memb p ≠ [] := by
  rcases uni_or p with ⟨ms, rfl⟩ | ⟨_, e⟩
  · simp only [isK] at h
    intro z
    have : ms = [] := z
    subst this
    exact absurd h.2.1 (by decide)
  · rw [e]; simp
theorem ljoin_TmD {d : Nat} {ps : List P} (h : ∀ p ∈ ps, TmD d p) (hne : ps ≠ []) (h3 : ps.length ≤ 3) (hd : d ≤ 2) (h1 : 1 ≤ (foundP ps).length) : TmD (d + 1) (ljoin ps) := by
  have hm : ∀ m ∈ ps.flatMap memb, Cd 4 (5 * d + 2) (Wd d) m := fun m hm => by
    obtain ⟨p, hp, hmp⟩ := List.mem_flatMap.mp hm
    exact (h p hp).cdm hmp
  have hsl : (foundP ps).Sublist (ps.flatMap memb) := by
    have := fold_sl (ps.flatMap memb) []
    simpa [foundP] using this
  have hf : ∀ m ∈ foundP ps, Cd 4 (5 * d + 2) (Wd d) m := fun m hx => hm m (hsl.subset hx)
  have hk : kws (encs (ps.flatMap memb)) ≤ ps.length * (Wd d + 5) ∧ (ps.flatMap memb).length ≤ ps.length * 3 ^ d := by
    clear hne h3 h1 hm hsl hf
    induction ps with
    | nil => exact ⟨by simp [encs, kws], by simp⟩
    | cons p r ih =>
      obtain ⟨i1, i2⟩ := ih fun q hq => h q (List.mem_cons_of_mem _ hq)
      have a := memb_kws (h p List.mem_cons_self)
      have b := (h p List.mem_cons_self).mem
      rw [List.flatMap_cons, encs_app, kws_app, List.length_append, List.length_cons, Nat.add_mul, Nat.add_mul]
      omega
  have hk2 := kws_sl hsl
  have hl2 := hsl.length_le
  have w3 : ps.length * (Wd d + 5) ≤ 3 * (Wd d + 5) := Nat.mul_le_mul_right _ h3
  have w4 : ps.length * 3 ^ d ≤ 3 * 3 ^ d := Nat.mul_le_mul_right _ h3
  have e3 : 3 ^ (d + 1) = 3 * 3 ^ d := by rw [Nat.pow_succ, Nat.mul_comm]
  have p64 : 3 * 3 ^ d ≤ 27 := by
    have : d = 0 ∨ d = 1 ∨ d = 2 := by omega
    rcases this with rfl | rfl | rfl <;> decide
  have one : 1 ≤ 3 ^ (d + 1) := Nat.one_le_pow _ _ (by decide)
  unfold ljoin
  split
  · rename_i p hp
    have hp4 := hf p (by rw [hp]; exact List.mem_singleton_self p)
    refine ⟨⟨isK_mem hp4.is, hp4.lay, by have := hp4.dep; omega, hp4.bar, by have := hp4.wgt; simp only [Wd]; omega⟩, ?_⟩
    rcases uni_or p with ⟨ms, rfl⟩ | ⟨_, e⟩
    · exact absurd hp4.is (by simp [isK])
    · rw [e]; exact one
  · rename_i hnot
    have h2 : 2 ≤ (foundP ps).length := by
      rcases hfp : foundP ps with _ | ⟨x, _ | ⟨y, r⟩⟩
      · rw [hfp] at h1; exact absurd h1 (by decide)
      · exact absurd hfp (hnot x)
      · simp
    refine ⟨(Cd.uni (dp := 5 * d + 2) (s := 3 * (Wd d + 5)) (fun v hv => ⟨_, hf v hv⟩) h2 (by omega) (fold_nd _ _ (by simp)) (by omega)).mono (by omega) (by simp only [Wd]; omega), ?_⟩
    show (foundP ps).length ≤ _
    omega
end Gd

namespace Gd
open PySem PySem.Spec PyProof.Rows L2
/-! ### a range from its end, and a def handed over -/
def iRevR (ta : TA) : TI := fun σ H R => ta σ H fun vs H1 => ∃ j : Int, vs = [.int j] ∧ 0 ≤ j ∧ j < 2 ^ 61 ∧ R (Itc (j - 1) (-1) j.toNat) H1
theorem size_up {j : Int} (h : 0 ≤ j) : Builtin.Range.rangeSize 0 j 1 = (j.toNat : Int) := by
  rw [rangeSize_one]
  split <;> omega
theorem small_rev {j : Int} (h : 0 ≤ j) (h2 : j < 2 ^ 61) : Builtin.Range.smallRev 0 j 1 = true := by
  unfold Builtin.Range.smallRev
  rw [size_up h]
  simp only [Bool.and_eq_true, Builtin.Range.rangeFitsLong, decide_eq_true_eq]
  omega
section
variable {X : Cx} {tg : Expr}
theorem pi_revR {e : Expr} {ta : TA} {p p2 pos pos2 : Pos} (hg : Gl X "reversed") (hm : X.mg "reversed" = none) (hg2 : Gl X "range") (hm2 : X.mg "range" = none) (ha : PA X [e] ta)
    (hs : starEach [e] X.env = [(false, eval e X.env)] := by rfl)
    (hs2 : starEach [.Call (.Name "range" p2) [e] [] pos2] X.env = (false, eval (.Call (.Name "range" p2) [e] [] pos2) X.env) :: starEach [] X.env := by rfl) :
    PI X tg (.Call (.Name "reversed" p) [.Call (.Name "range" p2) [e] [] pos2] [] pos) (iRevR ta) := by
  refine ⟨fun pins s σ H R I h => ?_⟩
  refine Call_ (ld_blt I hg hm PyProof.Rows.boot_reversed (PyProof.Rows.callWith_type1 (args_cons (Call_ (ld_blt I hg2 hm2 boot_range (PyProof.Rows.callWith_type1 (thn (ha.run pos2 pins s σ H _ I h) fun us s1 ⟨vs, H1, I1, r1, q1⟩ => ?_) hs rfl))) hs2) hs2 rfl))
  obtain ⟨j, e, q1, q2, q⟩ := q1
  subst e
  cases r1 with
  | cons r rr =>
    cases rr
    obtain ⟨t, rfl⟩ := r
    refine call_range_1 (args_nil ?_)
    refine reversed_range (IsRange.new ..) (small_rev q1 q2) (size_up q1) fun h' hit _ k => ?_
    have I2 : Inv X pins σ H1 { s1 with heap := s1.heap.push { cls := .type "range", data := .fields #[.int 0 s1.toks, .int j t, .int 1 (s1.toks + 1)] }, toks := s1.toks + 1 + 1 } := I1.kept fun b o e => Heap.get?_push_of_some _ e
    have I3 := I2.kept (t' := s1.toks + 1 + 1) k
    refine wpAny_pyIter_rangeiter hit ⟨_, [_], _, Itc (j - 1) (-1) j.toNat, H1, rfl, I3, turn_rangeC _ (j - 1) (-1) j.toNat, ?_, fun b hb => ?_, q⟩
    · have e1 : j - 1 + ((0 : Nat) : Int) * (-1) = 0 + ((j.toNat : Int) - 1) * 1 := by omega
      have e2 : ((j.toNat : Nat) : Int) - ((0 : Nat) : Int) = (j.toNat : Int) := by omega
      show IsRangeIter _ _ (j - 1 + ((0 : Nat) : Int) * (-1)) (((j.toNat : Nat) : Int) - ((0 : Nat) : Int)) (-1)
      rw [e1, e2]
      exact hit
    · have e := List.mem_singleton.mp hb
      subst e
      exact I2.fpOk (Nat.le_refl _) (I2.hok.fresh (Nat.le_refl _))
variable {CX : CXT} {k i : Nat} {f : Addr} {fd : FuncData} {ps : List Str} {sp : Sp} {E : XK} {x : Str} {p pos : Pos} {e : Expr} {es : List Expr} {t : TA}
/-- the i-th slot holds the def at f -/
def tGL (i : Nat) (f : Addr) (sp : Sp) (E : XK) (t : TA) : TE := fun σ H Q => σ[i]? = some (some (.ref f)) ∧ t σ H fun vs H1 => sp vs H1 Q E
theorem pe_gL {mx : Str} (C : Cal X.K X.mg mx f fd ps) (F : FG X.prog X.w X.K X.mg X.base CX k f fd ps sp) (hg : X.A.guards = some []) (hr : Room k X.A) (hN : X.N[i]? = some x) (hv : Vis X.env.scope x) (hx : Passes CX X E) (ha : PA X (e :: es) t)
    (hdb : (x == ("__debug__" : Str)) = false := by decide) (hcd : (x == ("__classdict__" : Str)) = false := by decide)
    (he : starEach (e :: es) X.env = (false, eval e X.env) :: starEach es X.env := by rfl) (hpl : (backTo pos (starEach es X.env)).any (·.1) = false := by rfl) : PE X (.Call (.Name x p) (e :: es) [] pos) (tGL i f sp E t) := by
  refine ⟨fun pins s σ H Q I h => ?_⟩
  obtain ⟨hs, ht⟩ := h
  refine wpAny_Call_Name_kw (thn ((pe_var (pos := p) hN hv hdb hcd).run pins s σ H (fun v H1 => v = .ref f ∧ H1 = H) I ⟨.ref f, hs, rfl, rfl⟩) fun u s1 ⟨v, H1, I1, r1, q1⟩ => ?_)
  obtain ⟨rfl, rfl⟩ := q1
  cases r1
  refine PySem.W.callWith_K (h₀ := X.base) I.ok.mod.kin C.kp (thn (ha.run pos pins s1 σ _ _ I1 ht) fun us s2 ⟨vs, H2, I2, r, q⟩ => ⟨I2.kIn, ?_⟩) he hpl
  exact run_g F hg hr C.bd hx I2 r q
end
section
variable {K : PySem.W.Frag} {σ : L2.St} {H : Hp} {Q : VK} {t : TA}
theorem r_gL {i : Nat} {f : Addr} {sp : Sp} {E : XK} (h : σ[i]? = some (some (.ref f))) (q : t σ H fun vs H1 => sp vs H1 Q E) : tGL i f sp E t σ H Q := ⟨h, q⟩
theorem r_revR {ta : TA} {R : It → Hp → Prop} (h : ta σ H fun vs H1 => ∃ j : Int, vs = [.int j] ∧ 0 ≤ j ∧ j < 2 ^ 61 ∧ R (Itc (j - 1) (-1) j.toNat) H1) : iRevR ta σ H R := h
theorem r_rep1 {l : Addr} {x : V} {n : Nat} (h : H l = some (.lst [x])) (hn : n ≤ 100000) (q : ∀ p H2, H p = none → Up H H2 → H2 p = some (.lst (List.replicate n x)) → Q (.ref p) H2) : rRep (.ref l) (.int (n : Int)) H Q := by
  refine ⟨l, n, [x], rfl, rfl, h, by omega, by omega, ?_, fun p hp => ?_⟩
  · simp only [List.length_singleton, Int.toNat_natCast, Nat.one_mul]
    exact Nat.le_trans hn (by decide)
  · have e : (List.replicate (n : Int).toNat [x]).flatten = List.replicate n x := by
      simp only [Int.toNat_natCast]
      clear hn q
      induction n with
      | zero => rfl
      | succ n ih => rw [List.replicate_succ, List.flatten_cons, ih, List.replicate_succ]; rfl
    rw [e]
    exact q p _ hp (Up.new hp) upd_same
theorem cut_nat {α : Type} {xs : List V} {a b : Nat} (ha : a ≤ b) (hb : b ≤ xs.length) : cutV xs (some (a : Int)) (some (b : Int)) = (xs.drop a).take (b - a) := by
  unfold cutV
  rw [HT.sIx_nat, HT.sIx_nat]
  have e1 : min a xs.length = a := by omega
  have e2 : min b xs.length = b := by omega
  simp only [e1, e2]
theorem r_slL {l : Addr} {xs : List V} {a b : Nat} (h : H l = some (.lst xs)) (ha : a ≤ b) (hb : b ≤ xs.length) (q : ∀ p H2, H p = none → Up H H2 → H2 p = some (.lst ((xs.drop a).take (b - a))) → Q (.ref p) H2) : rSlL K (.ref l) (some (a : Int)) (some (b : Int)) H Q :=
  ⟨l, xs, rfl, SqL.of h, fun p hp => by rw [cut_nat (α := V) ha hb]; exact q p _ hp (Up.new hp) upd_same⟩
end
end Gd
namespace Gd
open PySem PySem.Spec PyProof.Rows L2
/-! ### a list or a tuple that is walked -/
def iLT (K : PySem.W.Frag) (tl : TE) : TI := fun σ H R => iList K tl σ H R ∨ iTup K tl σ H R
theorem pi_lt {X : Cx} {tg l : Expr} {tl : TE} (hl : PE X l tl) : PI X tg l (iLT X.K tl) :=
  ⟨fun pins s σ H R I h => h.elim (fun h => (pi_list hl).run pins s σ H R I h) fun h => (pi_tup hl).run pins s σ H R I h⟩
theorem lt_for {K : PySem.W.Frag} {i : Nat} {a : Addr} {xs : List V} {g : TG} {tb : TS} {D : Ends} {σ : L2.St} {H0 H : Hp} (hv : σ[i]? = some (some (.ref a))) (ha : H0 a = some (.lst xs) ∨ H0 a = some (.tup xs))
    (Pv : Nat → L2.St → Hp → Prop) (h0 : Pv 0 σ H) (hk : ∀ i σ H', Pv i σ H' → Up H0 H')
    (hs : ∀ i x σ H, xs[i]? = some x → Pv i σ H → g x σ H fun σ2 H2 => tb { D with nx := Pv (i + 1), ct := Pv (i + 1), bk := D.nx } σ2 H2) (hd : ∀ σ H, Pv xs.length σ H → D.nx σ H) :
    iLT K (tVar i) σ H fun J H1 => ∃ W : Nat → Nat → L2.St → Hp → Prop, (∃ m, W 0 m σ H1) ∧ ∀ i m σ H, W i m σ H →
      (J.stop i H ∧ D.nx σ H) ∨ (J.go i H ∧ ∃ N : L2.St → Hp → Prop, (∀ σ' H', N σ' H' → ∃ m', m' < m ∧ W (i + 1) m' σ' H') ∧ ∀ x H', J.yld i H x H' → g x σ H' fun σ2 H2 => tb { D with nx := N, ct := N, bk := D.nx } σ2 H2) := by
  rcases ha with ha | ha
  · exact Or.inl ⟨_, hv, a, rfl, ⟨xs, SqL.of (hk _ _ _ h0 _ _ ha)⟩, for_list (K := K) (a := a) (xs := xs) Pv h0 (fun i σ H' _ p => SqL.of (hk i σ H' p _ _ ha)) hs hd⟩
  · exact Or.inr ⟨_, hv, a, rfl, ⟨xs, SqT.of (hk _ _ _ h0 _ _ ha)⟩, for_tup (K := K) (a := a) (xs := xs) Pv h0 (fun i σ H' _ p => SqT.of (hk i σ H' p _ _ ha)) hs hd⟩
end Gd

namespace Gd
open PySem PySem.Spec PyProof.Rows L2
/-! ### signs of texts, and lists that are glued -/
def sg (s : Str) : List Nat := s.cps.toList
theorem sg_app (a b : Str) : sg (a ++ b) = sg a ++ sg b := by
  show (a.cps ++ b.cps).toList = _
  simp [sg]
theorem sg_inj {a b : Str} (h : sg a = sg b) : a = b := str_ext h
theorem map_sg_inj : ∀ {l m : List Str}, l.map sg = m.map sg → l = m
  | [], [], _ => rfl
  | [], _ :: _, h => by simp at h
  | _ :: _, [], h => by simp at h
  | a :: l, b :: m, h => by
    simp only [List.map_cons, List.cons.injEq] at h
    rw [sg_inj h.1, map_sg_inj h.2]
def jn (d : Nat) : List (List Nat) → List Nat
  | [] => []
  | [x] => x
  | x :: y :: r => x ++ d :: jn d (y :: r)
theorem sg_join {z : Str} {d : Nat} (hz : sg z = [d]) : ∀ ys : List Str, sg (Txt.join z ys) = jn d (ys.map sg) := by
  intro ys
  rw [TL.join_eq]
  induction ys with
  | nil => show sg Str.empty = []; rfl
  | cons x r ih =>
    cases r with
    | nil => rfl
    | cons y r =>
      show sg (x ++ z ++ Str.join z (y :: r)) = _
      rw [sg_app, sg_app, ih, hz]
      simp [jn]
/-- how deep a row of signs leads: 1 opens, 2 closes, 3 parts -/
def lv (g : Nat → Nat) : Nat → List Nat → Option Nat
  | n, [] => some n
  | n, c :: r => if g c = 1 then lv g (n + 1) r else if g c = 2 then (if n = 0 then none else lv g (n - 1) r) else if g c = 3 ∧ n = 0 then none else lv g n r
theorem lv_app (g : Nat → Nat) : ∀ (a b : List Nat) (n : Nat), lv g n (a ++ b) = (lv g n a).bind fun m => lv g m b
  | [], b, n => rfl
  | c :: a, b, n => by
    simp only [List.cons_append, lv]
    split
    · exact lv_app g a b _
    · split
      · split
        · rfl
        · exact lv_app g a b _
      · split
        · rfl
        · exact lv_app g a b _
theorem lv_up {g : Nat → Nat} (k : Nat) : ∀ {a : List Nat} {n m : Nat}, lv g n a = some m → lv g (n + k) a = some (m + k)
  | [], n, m, h => by simp only [lv, Option.some.injEq] at h ⊢; omega
  | c :: a, n, m, h => by
    simp only [lv] at h ⊢
    split at h
    · rename_i c1
      rw [if_pos c1]
      have := lv_up k h
      rwa [show n + 1 + k = n + k + 1 by omega] at this
    · rename_i c1
      rw [if_neg c1]
      split at h
      · rename_i c2
        rw [if_pos c2]
        split at h
        · cases h
        · rename_i c3
          rw [if_neg (by omega)]
          have := lv_up k h
          rwa [show n - 1 + k = n + k - 1 by omega] at this
      · rename_i c2
        rw [if_neg c2]
        split at h
        · cases h
        · rename_i c3
          rw [if_neg (fun z => c3 ⟨z.1, by omega⟩)]
          exact lv_up k h
def Bal (g : Nat → Nat) (a : List Nat) : Prop := lv g 0 a = some 0
theorem Bal.app {g : Nat → Nat} {a b : List Nat} (h : Bal g a) (k : Bal g b) : Bal g (a ++ b) := by
  unfold Bal at h k ⊢
  rw [lv_app, h]
  exact k
theorem Bal.plain {g : Nat → Nat} : ∀ {a : List Nat}, (∀ c ∈ a, g c = 0) → Bal g a
  | [], _ => rfl
  | c :: a, h => by
    have hc := h c List.mem_cons_self
    have ih := Bal.plain fun x hx => h x (List.mem_cons_of_mem c hx)
    unfold Bal at ih ⊢
    simp only [lv, hc]
    exact ih
theorem Bal.at {g : Nat → Nat} {a : List Nat} (h : Bal g a) (n : Nat) : lv g n a = some n := by
  have := lv_up n h
  rwa [Nat.zero_add] at this
theorem lv_jn {g : Nat → Nat} {d : Nat} (hd : g d = 3) : ∀ {xs : List (List Nat)}, (∀ x ∈ xs, Bal g x) → lv g 1 (jn d xs) = some 1
  | [], _ => rfl
  | [x], h => (h x (by simp)).at 1
  | x :: y :: r, h => by
    rw [jn, lv_app, (h x (by simp)).at 1]
    show lv g 1 (d :: jn d (y :: r)) = some 1
    simp only [lv, hd]
    exact lv_jn hd fun z hz => h z (List.mem_cons_of_mem x hz)
theorem Bal.wrap {g : Nat → Nat} {d o c : Nat} (hd : g d = 3) (ho : g o = 1) (hc : g c = 2) {xs : List (List Nat)} (h : ∀ x ∈ xs, Bal g x) : Bal g (o :: (jn d xs ++ [c])) := by
  unfold Bal
  simp only [lv, ho, if_true]
  rw [lv_app, show 0 + 1 = 1 from rfl, lv_jn hd h]
  show lv g 1 [c] = some 0
  simp [lv, hc]
theorem Bal.cut {g : Nat → Nat} {d : Nat} (hd : g d = 3) {a b s t : List Nat} (h : Bal g a) (k : Bal g b) (e : a ++ d :: s = b ++ d :: t) : a = b ∧ s = t := by
  rcases List.append_eq_append_iff.mp e with ⟨c, hb, hc⟩ | ⟨c, hb, hc⟩
  · cases c with
    | nil => simp only [List.append_nil, List.nil_append, List.cons.injEq] at hb hc; exact ⟨hb.symm, hc.2⟩
    | cons x c =>
      simp only [List.cons_append, List.cons.injEq] at hc
      obtain ⟨rfl, hc⟩ := hc
      unfold Bal at h k
      rw [hb, lv_app, h] at k
      simp [lv, hd] at k
  · cases c with
    | nil => simp only [List.append_nil, List.nil_append, List.cons.injEq] at hb hc; exact ⟨hb, hc.2.symm⟩
    | cons x c =>
      simp only [List.cons_append, List.cons.injEq] at hc
      obtain ⟨rfl, hc⟩ := hc
      unfold Bal at h k
      rw [hb, lv_app, k] at h
      simp [lv, hd] at h
theorem Bal.no {g : Nat → Nat} {d : Nat} (hd : g d = 3) {a s t : List Nat} (h : Bal g a) (e : a = s ++ d :: t) (hs : Bal g s) : False := by
  unfold Bal at h hs
  rw [e, lv_app, hs] at h
  simp [lv, hd] at h
theorem jn_inj {g : Nat → Nat} {d : Nat} (hd : g d = 3) : ∀ {xs ys : List (List Nat)}, (∀ x ∈ xs, Bal g x ∧ x ≠ []) → (∀ y ∈ ys, Bal g y ∧ y ≠ []) → jn d xs = jn d ys → xs = ys
  | [], [], _, _, _ => rfl
  | [], [y], _, k, e => absurd e.symm (k y (by simp)).2
  | [], y :: z :: r, _, k, e => by simp [jn] at e
  | [x], [], h, _, e => absurd e (h x (by simp)).2
  | x :: z :: r, [], _, _, e => by simp [jn] at e
  | [x], [y], _, _, e => by simp only [jn] at e; rw [e]
  | [x], y :: z :: r, h, k, e => ((h x (by simp)).1.no hd e (k y (by simp)).1).elim
  | x :: z :: r, [y], h, k, e => ((k y (by simp)).1.no hd e.symm (h x (by simp)).1).elim
  | x :: z :: r, y :: u :: t, h, k, e => by
    obtain ⟨e1, e2⟩ := Bal.cut hd (h x (by simp)).1 (k y (by simp)).1 e
    rw [e1, jn_inj hd (fun q hq => h q (List.mem_cons_of_mem x hq)) (fun q hq => k q (List.mem_cons_of_mem y hq)) e2]
/-! ### keys that part exactly what is not the same -/
def Sm (f : P → Str) : P → P → Prop
  | .use n vs, .use m ws => n = m ∧ vs.map f = ws.map f
  | .sig i r, .sig j t => f i = f j ∧ f r = f t
  | .uni ms, .uni ns => (ms.map f).Perm (ns.map f)
  | .row xs, .row ys => xs.map f = ys.map f
  | .inp xs s, .inp ys t => xs.map f = ys.map f ∧ s = t
  | .star n, .star m => n = m
  | .dots t, .dots u => f t = f u
  | _, _ => False
def Faith (f : P → Str) : Prop := ∀ (x y : P) (k j : Nat), isK x k → isK y j → (f x = f y ↔ Sm f x y)
theorem map_agree {f g : P → Str} : ∀ {vs ws : List P}, (∀ a ∈ vs, ∀ b ∈ ws, f a = f b → g a = g b) → vs.map f = ws.map f → vs.map g = ws.map g
  | [], [], _, _ => rfl
  | [], _ :: _, _, e => by simp at e
  | _ :: _, [], _, e => by simp at e
  | a :: vs, b :: ws, h, e => by
    simp only [List.map_cons, List.cons.injEq] at e ⊢
    exact ⟨h a (by simp) b (by simp) e.1, map_agree (fun x hx y hy => h x (List.mem_cons_of_mem a hx) y (List.mem_cons_of_mem b hy)) e.2⟩
open Classical in
theorem perm_agree {f g : P → Str} {vs ws : List P} (h : ∀ a ∈ vs ++ ws, ∀ b ∈ vs ++ ws, f a = f b → g a = g b) (e : (vs.map f).Perm (ws.map f)) : (vs.map g).Perm (ws.map g) := by
  let φ : Str → Str := fun v => if z : ∃ a ∈ vs ++ ws, f a = v then g z.choose else Str.empty
  have hφ : ∀ a ∈ vs ++ ws, φ (f a) = g a := fun a ha => by
    have z : ∃ b ∈ vs ++ ws, f b = f a := ⟨a, ha, rfl⟩
    show (if z : ∃ b ∈ vs ++ ws, f b = f a then g z.choose else Str.empty) = g a
    rw [dif_pos z]
    exact h _ z.choose_spec.1 _ ha z.choose_spec.2
  have e1 : vs.map g = (vs.map f).map φ := by
    rw [List.map_map]
    exact List.map_congr_left fun a ha => (hφ a (List.mem_append_left _ ha)).symm
  have e2 : ws.map g = (ws.map f).map φ := by
    rw [List.map_map]
    exact List.map_congr_left fun a ha => (hφ a (List.mem_append_right _ ha)).symm
  rw [e1, e2]
  exact e.map φ
def cnt (p : P) : Nat := (pre p).length
def cnts (l : List P) : Nat := (pres l).length
theorem cnt_mem {p : P} : ∀ {l : List P}, p ∈ l → cnt p ≤ cnts l
  | [], h => (List.not_mem_nil h).elim
  | q :: r, h => by
    simp only [cnts, pres, List.length_append]
    rcases List.mem_cons.mp h with rfl | h
    · simp only [cnt]; omega
    · have := cnt_mem h; simp only [cnts] at this; omega
theorem Faith.agree {f g : P → Str} (hf : Faith f) (hg : Faith g) : ∀ (n : Nat) (x y : P) (k j : Nat), cnt x ≤ n → cnt y ≤ n → isK x k → isK y j → f x = f y → g x = g y
  | 0, x, y, k, j, h, _, _, _, _ => by
    have := pre_eq x
    simp only [cnt, this, List.length_cons] at h
    omega
  | n + 1, x, y, k, j, hx, hy, kx, ky, e => by
    have ih := Faith.agree hf hg n
    rw [hg x y k j kx ky]
    have s := (hf x y k j kx ky).mp e
    have go : ∀ {vs ws : List P} {k' j' : Nat}, cnts vs ≤ n → cnts ws ≤ n → isKs vs k' → isKs ws j' → ∀ a ∈ vs, ∀ b ∈ ws, f a = f b → g a = g b := fun h1 h2 h3 h4 a ha b hb =>
      ih a b _ _ (Nat.le_trans (cnt_mem ha) h1) (Nat.le_trans (cnt_mem hb) h2) (isKs_iff.mp h3 a ha) (isKs_iff.mp h4 b hb)
    cases x with
    | use n vs =>
      cases y with
      | use m ws =>
        simp only [isK] at kx ky
        simp only [cnt, pre, List.length_cons] at hx hy
        exact ⟨s.1, map_agree (go (by simp only [cnts]; omega) (by simp only [cnts]; omega) kx.2.2 ky.2.2) s.2⟩
      | _ => exact s.elim
    | sig a b =>
      cases y with
      | sig c d =>
        simp only [isK] at kx ky
        simp only [cnt, pre, List.length_cons, List.length_append] at hx hy
        exact ⟨ih a c _ _ (by simp only [cnt]; omega) (by simp only [cnt]; omega) kx.2.1 ky.2.1 s.1, ih b d _ _ (by simp only [cnt]; omega) (by simp only [cnt]; omega) kx.2.2 ky.2.2 s.2⟩
      | _ => exact s.elim
    | uni vs =>
      cases y with
      | uni ws =>
        simp only [isK] at kx ky
        simp only [cnt, pre, List.length_cons] at hx hy
        refine perm_agree (fun a ha b hb => ?_) s
        have h1 : ∀ a ∈ vs ++ ws, cnt a ≤ n ∧ isK a 4 := fun a ha => by
          rcases List.mem_append.mp ha with ha | ha
          · exact ⟨Nat.le_trans (cnt_mem ha) (by simp only [cnts]; omega), isKs_iff.mp kx.2.2.2 a ha⟩
          · exact ⟨Nat.le_trans (cnt_mem ha) (by simp only [cnts]; omega), isKs_iff.mp ky.2.2.2 a ha⟩
        exact ih a b _ _ (h1 a ha).1 (h1 b hb).1 (h1 a ha).2 (h1 b hb).2
      | _ => exact s.elim
    | row vs =>
      cases y with
      | row ws =>
        simp only [isK] at kx ky
        simp only [cnt, pre, List.length_cons] at hx hy
        exact map_agree (go (by simp only [cnts]; omega) (by simp only [cnts]; omega) kx.2 ky.2) s
      | _ => exact s.elim
    | inp vs t =>
      cases y with
      | inp ws u =>
        simp only [isK] at kx ky
        simp only [cnt, pre, List.length_cons, List.length_append] at hx hy
        exact ⟨map_agree (go (by simp only [cnts]; omega) (by simp only [cnts]; omega) kx.2.1 ky.2.1) s.1, s.2⟩
      | _ => exact s.elim
    | star a =>
      cases y with
      | star b => exact s
      | _ => exact s.elim
    | dots a =>
      cases y with
      | dots b =>
        simp only [isK] at kx ky
        simp only [cnt, pre, List.length_cons] at hx hy
        exact ih a b _ _ (by simp only [cnt]; omega) (by simp only [cnt]; omega) kx.2 ky.2 s
      | _ => exact s.elim
    | tail a => simp only [isK] at kx
end Gd

namespace Gd
open PySem PySem.Spec PyProof.Rows L2
/-! ### the program's key of a part -/
def tlk : Option Str → List Str
  | none => []
  | some s => [("**" : Str) ++ s]
mutual
def kc : P → Str
  | .use n vs => n ++ ("[" : Str) ++ Txt.join ("," : Str) (kcs vs) ++ ("]" : Str)
  | .sig i r => ("->" : Str) ++ ("[" : Str) ++ Txt.join ("," : Str) [kc i, kc r] ++ ("]" : Str)
  | .uni ms => ("|" : Str) ++ ("[" : Str) ++ Txt.join ("," : Str) (ssort (kcs ms)) ++ ("]" : Str)
  | .row xs => ("[]" : Str) ++ ("[" : Str) ++ Txt.join ("," : Str) (kcs xs) ++ ("]" : Str)
  | .inp xs tl => ("()" : Str) ++ ("[" : Str) ++ Txt.join ("," : Str) (kcs xs ++ tlk tl) ++ ("]" : Str)
  | .star n => ("*" : Str) ++ n
  | .dots t => ("..." : Str) ++ ("[" : Str) ++ Txt.join ("," : Str) [kc t] ++ ("]" : Str)
  | .tail s => ("**" : Str) ++ s
def kcs : List P → List Str
  | [] => []
  | p :: r => kc p :: kcs r
end
theorem kcs_map : ∀ l : List P, kcs l = l.map kc
  | [] => rfl
  | p :: r => by simp [kcs, kcs_map r]
theorem kcs_app (a b : List P) : kcs (a ++ b) = kcs a ++ kcs b := by simp only [kcs_map, List.map_append]
def spl (p : P) (ks : List Str) : Str := match p with
  | .star n => ("*" : Str) ++ n
  | .tail s => ("**" : Str) ++ s
  | .uni _ => ("|" : Str) ++ ("[" : Str) ++ Txt.join ("," : Str) (ssort ks) ++ ("]" : Str)
  | p => hd p ++ ("[" : Str) ++ Txt.join ("," : Str) ks ++ ("]" : Str)
theorem kc_spl (p : P) : kc p = spl p (kcs (parts p)) := by
  cases p with
  | inp xs tl =>
    cases tl with
    | none => simp [kc, spl, parts, tlk, tails, kcs_app, kcs, hd]
    | some s => simp [kc, spl, parts, tlk, tails, kcs_app, kcs, hd]
  | _ => simp [kc, spl, parts, hd, kcs]
def gK (c : Nat) : Nat := if c = 91 then 1 else if c = 93 then 2 else if c = 44 then 3 else 0
def gL (c : Nat) : Nat := if c = 40 ∨ c = 123 then 1 else if c = 41 ∨ c = 125 then 2 else if c = 32 then 3 else 0
theorem s_o : sg ("[" : Str) = [91] := by decide +kernel
theorem s_c : sg ("]" : Str) = [93] := by decide +kernel
theorem s_d : sg ("," : Str) = [44] := by decide +kernel
theorem s_sig : sg ("->" : Str) = [45, 62] := by decide +kernel
theorem s_uni : sg ("|" : Str) = [124] := by decide +kernel
theorem s_row : sg ("[]" : Str) = [91, 93] := by decide +kernel
theorem s_inp : sg ("()" : Str) = [40, 41] := by decide +kernel
theorem s_star : sg ("*" : Str) = [42] := by decide +kernel
theorem s_tail : sg ("**" : Str) = [42, 42] := by decide +kernel
theorem s_dots : sg ("..." : Str) = [46, 46, 46] := by decide +kernel
theorem s_lo : sg ("(" : Str) = [40] := by decide +kernel
theorem s_lc : sg (")" : Str) = [41] := by decide +kernel
theorem s_uo : sg ("{" : Str) = [123] := by decide +kernel
theorem s_uc : sg ("}" : Str) = [125] := by decide +kernel
theorem s_ld : sg (" " : Str) = [32] := by decide +kernel
theorem s_none : sg ("None" : Str) = [78, 111, 110, 101] := by decide +kernel
theorem good_sg {n : Str} (h : good n) : ∀ c ∈ sg n, 97 ≤ c ∧ c ≤ 122 := h.2.2
theorem good_ne' {n : Str} (h : good n) : sg n ≠ [] := h.1
theorem good_K {n : Str} (h : good n) : Bal gK (sg n) := Bal.plain fun c hc => by
  have := good_sg h c hc
  unfold gK
  rw [if_neg (by omega), if_neg (by omega), if_neg (by omega)]
theorem tl_K {s : Str} (h : s = ("..." : Str) ∨ good s) : Bal gK (sg s) := by
  rcases h with rfl | h
  · rw [s_dots]; rfl
  · exact good_K h
/-- the glued text of a part -/
theorem sg_kc (a b : Str) (ks : List Str) : sg (a ++ ("[" : Str) ++ Txt.join ("," : Str) ks ++ ("]" : Str)) = sg a ++ 91 :: (jn 44 (ks.map sg) ++ [93]) := by
  rw [sg_app, sg_app, sg_app, s_o, s_c, sg_join s_d]
  simp
theorem wrapK {ks : List Str} (h : ∀ k ∈ ks, Bal gK (sg k)) : Bal gK (91 :: (jn 44 (ks.map sg) ++ [93])) :=
  Bal.wrap (d := 44) rfl rfl rfl fun x hx => by
    obtain ⟨k, hk, rfl⟩ := List.mem_map.mp hx
    exact h k hk
theorem mem_ssort {k : Str} {ks : List Str} : k ∈ ssort ks ↔ k ∈ ks := (ssort_perm ks).mem_iff
mutual
theorem bal_kc : ∀ (p : P) (k : Nat), isK p k → Bal gK (sg (kc p))
  | .use n vs, k, h => by
    simp only [isK] at h
    rw [kc, sg_kc _ Str.empty]
    exact (good_K h.2.1).app (wrapK (bal_kcs vs 1 h.2.2))
  | .sig i r, k, h => by
    simp only [isK] at h
    rw [kc, sg_kc _ Str.empty, s_sig]
    have h1 := bal_kc i 3 h.2.1
    have h2 := bal_kc r 0 h.2.2
    exact Bal.app (a := [45, 62]) rfl (wrapK fun x hx => by
      rcases List.mem_cons.mp hx with rfl | hx
      · exact h1
      · rw [List.mem_singleton.mp hx]; exact h2)
  | .uni ms, k, h => by
    simp only [isK] at h
    rw [kc, sg_kc _ Str.empty, s_uni]
    have h1 := bal_kcs ms 4 h.2.2.2
    exact Bal.app (a := [124]) rfl (wrapK fun x hx => h1 x (mem_ssort.mp hx))
  | .row xs, k, h => by
    simp only [isK] at h
    rw [kc, sg_kc _ Str.empty, s_row]
    exact Bal.app (a := [91, 93]) rfl (wrapK (bal_kcs xs 2 h.2))
  | .inp xs tl, k, h => by
    simp only [isK] at h
    rw [kc, sg_kc _ Str.empty, s_inp]
    have h1 := bal_kcs xs 2 h.2.1
    refine Bal.app (a := [40, 41]) rfl (wrapK fun x hx => ?_)
    rcases List.mem_append.mp hx with hx | hx
    · exact h1 x hx
    · cases tl with
      | none => simp [tlk] at hx
      | some s =>
        simp only [tlk, List.mem_singleton] at hx
        subst hx
        rw [sg_app, s_tail]
        exact Bal.app (a := [42, 42]) rfl (tl_K h.2.2)
  | .star n, k, h => by
    simp only [isK] at h
    rw [kc, sg_app, s_star]
    exact Bal.app (a := [42]) rfl (good_K h.2)
  | .dots t, k, h => by
    simp only [isK] at h
    rw [kc, sg_kc _ Str.empty, s_dots]
    have h1 := bal_kc t 0 h.2
    exact Bal.app (a := [46, 46, 46]) rfl (wrapK fun x hx => by rw [List.mem_singleton.mp hx]; exact h1)
  | .tail s, k, h => by simp only [isK] at h
theorem bal_kcs : ∀ (l : List P) (k : Nat), isKs l k → ∀ x ∈ kcs l, Bal gK (sg x)
  | [], _, _, x, hx => by simp [kcs] at hx
  | p :: r, k, h, x, hx => by
    simp only [isKs] at h
    simp only [kcs, List.mem_cons] at hx
    rcases hx with rfl | hx
    · exact bal_kc p k h.1
    · exact bal_kcs r k h.2 x hx
end
/-! ### what a key begins with -/
def tg : P → Nat
  | .use _ _ => 0
  | .sig _ _ => 1
  | .uni _ => 2
  | .row _ => 3
  | .inp _ _ => 4
  | .star _ => 5
  | .dots _ => 6
  | .tail _ => 7
def tc (c : Nat) : Nat := if c = 45 then 1 else if c = 124 then 2 else if c = 91 then 3 else if c = 40 then 4 else if c = 42 then 5 else if c = 46 then 6 else 0
theorem hd_tc {p : P} {k : Nat} (h : isK p k) : ∃ c r, sg (hd p) = c :: r ∧ tc c = tg p := by
  cases p with
  | use n vs =>
    simp only [isK] at h
    cases e : sg n with
    | nil => exact absurd e (good_ne' h.2.1)
    | cons c r =>
      refine ⟨c, r, e, ?_⟩
      have := good_sg h.2.1 c (by rw [e]; simp)
      unfold tc
      rw [if_neg (by omega), if_neg (by omega), if_neg (by omega), if_neg (by omega), if_neg (by omega), if_neg (by omega)]
      rfl
  | sig i r => exact ⟨_, _, s_sig, rfl⟩
  | uni ms => exact ⟨_, _, s_uni, rfl⟩
  | row ms => exact ⟨_, _, s_row, rfl⟩
  | inp ms t => exact ⟨_, _, s_inp, rfl⟩
  | star n => exact ⟨_, _, s_star, rfl⟩
  | dots n => exact ⟨_, _, s_dots, rfl⟩
  | tail n => simp only [isK] at h
theorem tg_of {x y : P} {k j : Nat} (kx : isK x k) (ky : isK y j) {s t : List Nat} (e : sg (hd x) ++ s = sg (hd y) ++ t) : tg x = tg y := by
  obtain ⟨c, r, e1, e2⟩ := hd_tc kx
  obtain ⟨d, u, e3, e4⟩ := hd_tc ky
  rw [e1, e3] at e
  simp only [List.cons_append, List.cons.injEq] at e
  rw [← e2, ← e4, e.1]
theorem kc_hd (p : P) : ∃ s, sg (kc p) = sg (hd p) ++ s := by
  cases p <;> first
    | exact ⟨_, by rw [kc, sg_kc _ Str.empty]; rfl⟩
    | exact ⟨_, by rw [kc, sg_app]; rfl⟩
theorem kc_ne {p : P} {k : Nat} (h : isK p k) : sg (kc p) ≠ [] := by
  obtain ⟨c, r, e, _⟩ := hd_tc h
  obtain ⟨s, e2⟩ := kc_hd p
  rw [e2, e]
  simp
theorem kcs_ne {l : List P} {k : Nat} (h : isKs l k) : ∀ x ∈ kcs l, Bal gK (sg x) ∧ sg x ≠ [] := fun x hx => by
  refine ⟨bal_kcs l k h x hx, ?_⟩
  rw [kcs_map] at hx
  obtain ⟨p, hp, rfl⟩ := List.mem_map.mp hx
  exact kc_ne (isKs_iff.mp h p hp)
theorem wrap_inj {g : Nat → Nat} {d : Nat} (hd : g d = 3) {ks ls : List Str} {c : Nat} (h : ∀ x ∈ ks, Bal g (sg x) ∧ sg x ≠ []) (k : ∀ x ∈ ls, Bal g (sg x) ∧ sg x ≠ [])
    (e : jn d (ks.map sg) ++ [c] = jn d (ls.map sg) ++ [c]) : ks = ls := by
  have e1 := List.append_cancel_right e
  refine map_sg_inj (jn_inj hd (fun x hx => ?_) (fun x hx => ?_) e1)
  · obtain ⟨y, hy, rfl⟩ := List.mem_map.mp hx
    exact h y hy
  · obtain ⟨y, hy, rfl⟩ := List.mem_map.mp hx
    exact k y hy
theorem take_name {n m : Str} (hn : good n) (hm : good m) {s t : List Nat} (e : sg n ++ 91 :: s = sg m ++ 91 :: t) : n = m ∧ s = t := by
  have h := good_sg hn
  have k := good_sg hm
  rcases List.append_eq_append_iff.mp e with ⟨c, hb, hc⟩ | ⟨c, hb, hc⟩
  · cases c with
    | nil => simp only [List.append_nil, List.nil_append, List.cons.injEq] at hb hc; exact ⟨sg_inj hb.symm, hc.2⟩
    | cons x c =>
      simp only [List.cons_append, List.cons.injEq] at hc
      obtain ⟨rfl, hc⟩ := hc
      have := k 91 (by rw [hb]; simp)
      omega
  · cases c with
    | nil => simp only [List.append_nil, List.nil_append, List.cons.injEq] at hb hc; exact ⟨sg_inj hb, hc.2.symm⟩
    | cons x c =>
      simp only [List.cons_append, List.cons.injEq] at hc
      obtain ⟨rfl, hc⟩ := hc
      have := h 91 (by rw [hb]; simp)
      omega
theorem perm_sort {l m : List Str} : l.Perm m ↔ ssort l = ssort m :=
  ⟨fun h => sorted_same (((ssort_perm l).trans h).trans (ssort_perm m).symm) (ssort_sorted l) (ssort_sorted m), fun h => ((ssort_perm l).symm.trans (by rw [h])).trans (ssort_perm m)⟩
theorem tlk_ne {tl : Option Str} (h : tlok tl) : ∀ x ∈ tlk tl, Bal gK (sg x) ∧ sg x ≠ [] := fun x hx => by
  cases tl with
  | none => simp [tlk] at hx
  | some s =>
    simp only [tlk, List.mem_singleton] at hx
    subst hx
    rw [sg_app, s_tail]
    exact ⟨Bal.app (a := [42, 42]) rfl (tl_K h), by simp⟩
/-- the keys of items never begin as that of a tail -/
theorem item_tail {p : P} {k : Nat} (h : isK p k) (s : Str) : kc p ≠ ("**" : Str) ++ s := fun e => by
  have e1 := congrArg sg e
  rw [sg_app, s_tail] at e1
  obtain ⟨c, r, e3, e4⟩ := hd_tc h
  obtain ⟨u, e5⟩ := kc_hd p
  have e6 := e1
  rw [e5, e3] at e6
  simp only [List.cons_append, List.nil_append, List.cons.injEq] at e6
  rw [e6.1] at e4
  have e7 : tg p = 5 := e4.symm
  cases p with
  | star n =>
    simp only [isK] at h
    rw [kc, sg_app, s_star] at e1
    simp only [List.cons_append, List.nil_append, List.cons.injEq, true_and] at e1
    have := good_sg h.2 42 (by rw [e1]; simp)
    omega
  | _ => simp [tg] at e7
theorem tails_inj {xs ys : List P} {s t : Option Str} {k j : Nat} (hx : isKs xs k) (hy : isKs ys j) (e : kcs xs ++ tlk s = kcs ys ++ tlk t) : kcs xs = kcs ys ∧ s = t := by
  have no : ∀ {l : List P} {k : Nat}, isKs l k → ∀ u, ("**" : Str) ++ u ∉ kcs l := fun h u hu => by
    rw [kcs_map] at hu
    obtain ⟨p, hp, e⟩ := List.mem_map.mp hu
    exact item_tail (isKs_iff.mp h p hp) u e
  cases s with
  | none =>
    cases t with
    | none => simp only [tlk, List.append_nil] at e; exact ⟨e, rfl⟩
    | some u =>
      simp only [tlk, List.append_nil] at e
      exact absurd (show ("**" : Str) ++ u ∈ kcs xs by rw [e]; simp) (no hx u)
  | some v =>
    cases t with
    | none =>
      simp only [tlk, List.append_nil] at e
      exact absurd (show ("**" : Str) ++ v ∈ kcs ys by rw [← e]; simp) (no hy v)
    | some u =>
      simp only [tlk] at e
      have e1 := List.append_inj' e rfl
      refine ⟨e1.1, ?_⟩
      have e2 : ("**" : Str) ++ v = ("**" : Str) ++ u := by simpa using e1.2
      have e3 := congrArg sg e2
      rw [sg_app, sg_app] at e3
      rw [sg_inj (List.append_cancel_left e3)]
theorem map_kcs {l m : List P} : kcs l = kcs m ↔ l.map kc = m.map kc := by rw [kcs_map, kcs_map]
theorem faith_kc : Faith kc := by
  intro x y k j kx ky
  constructor
  · intro e
    have e1 := congrArg sg e
    obtain ⟨u, e2⟩ := kc_hd x
    obtain ⟨v, e3⟩ := kc_hd y
    have ht : tg x = tg y := tg_of kx ky (by rw [← e2, ← e3]; exact e1)
    clear e2 e3
    cases x with
    | use n vs =>
      cases y with
      | use m ws =>
        simp only [isK] at kx ky
        rw [kc, kc, sg_kc _ Str.empty, sg_kc _ Str.empty] at e1
        obtain ⟨e4, e5⟩ := take_name kx.2.1 ky.2.1 e1
        exact ⟨e4, map_kcs.mp (wrap_inj rfl (kcs_ne kx.2.2) (kcs_ne ky.2.2) e5)⟩
      | _ => simp [tg] at ht
    | sig a b =>
      cases y with
      | sig c d =>
        simp only [isK] at kx ky
        rw [kc, kc, sg_kc _ Str.empty, sg_kc _ Str.empty, s_sig] at e1
        simp only [List.cons_append, List.nil_append, List.cons.injEq, true_and] at e1
        have e4 := wrap_inj (g := gK) rfl (ks := [kc a, kc b]) (ls := [kc c, kc d]) (fun x hx => ?_) (fun x hx => ?_) e1
        · simp only [List.cons.injEq, and_true] at e4
          exact e4
        · rcases List.mem_cons.mp hx with rfl | hx
          · exact ⟨bal_kc _ _ kx.2.1, kc_ne kx.2.1⟩
          · rw [List.mem_singleton.mp hx]; exact ⟨bal_kc _ _ kx.2.2, kc_ne kx.2.2⟩
        · rcases List.mem_cons.mp hx with rfl | hx
          · exact ⟨bal_kc _ _ ky.2.1, kc_ne ky.2.1⟩
          · rw [List.mem_singleton.mp hx]; exact ⟨bal_kc _ _ ky.2.2, kc_ne ky.2.2⟩
      | _ => simp [tg] at ht
    | uni a =>
      cases y with
      | uni b =>
        simp only [isK] at kx ky
        rw [kc, kc, sg_kc _ Str.empty, sg_kc _ Str.empty, s_uni] at e1
        simp only [List.cons_append, List.nil_append, List.cons.injEq, true_and] at e1
        have e4 := wrap_inj (g := gK) rfl (fun x hx => kcs_ne kx.2.2.2 x (mem_ssort.mp hx)) (fun x hx => kcs_ne ky.2.2.2 x (mem_ssort.mp hx)) e1
        rw [kcs_map, kcs_map] at e4
        exact perm_sort.mpr e4
      | _ => simp [tg] at ht
    | row a =>
      cases y with
      | row b =>
        simp only [isK] at kx ky
        rw [kc, kc, sg_kc _ Str.empty, sg_kc _ Str.empty, s_row] at e1
        simp only [List.cons_append, List.nil_append, List.cons.injEq, true_and] at e1
        exact map_kcs.mp (wrap_inj (g := gK) rfl (kcs_ne kx.2) (kcs_ne ky.2) e1)
      | _ => simp [tg] at ht
    | inp a s =>
      cases y with
      | inp b t =>
        simp only [isK] at kx ky
        rw [kc, kc, sg_kc _ Str.empty, sg_kc _ Str.empty, s_inp] at e1
        simp only [List.cons_append, List.nil_append, List.cons.injEq, true_and] at e1
        have e4 := wrap_inj (g := gK) rfl (fun x hx => ?_) (fun x hx => ?_) e1
        · obtain ⟨e5, e6⟩ := tails_inj kx.2.1 ky.2.1 e4
          exact ⟨map_kcs.mp e5, e6⟩
        · rcases List.mem_append.mp hx with hx | hx
          · exact kcs_ne kx.2.1 x hx
          · exact tlk_ne kx.2.2 x hx
        · rcases List.mem_append.mp hx with hx | hx
          · exact kcs_ne ky.2.1 x hx
          · exact tlk_ne ky.2.2 x hx
      | _ => simp [tg] at ht
    | star a =>
      cases y with
      | star b =>
        rw [kc, kc, sg_app, sg_app] at e1
        exact sg_inj (List.append_cancel_left e1)
      | _ => simp [tg] at ht
    | dots a =>
      cases y with
      | dots b =>
        simp only [isK] at kx ky
        rw [kc, kc, sg_kc _ Str.empty, sg_kc _ Str.empty, s_dots] at e1
        simp only [List.cons_append, List.nil_append, List.cons.injEq, true_and] at e1
        have e4 := wrap_inj (g := gK) rfl (ks := [kc a]) (ls := [kc b]) (fun x hx => ?_) (fun x hx => ?_) e1
        · simp only [List.cons.injEq, and_true] at e4
          exact e4
        · rw [List.mem_singleton.mp hx]; exact ⟨bal_kc _ _ kx.2, kc_ne kx.2⟩
        · rw [List.mem_singleton.mp hx]; exact ⟨bal_kc _ _ ky.2, kc_ne ky.2⟩
      | _ => simp [tg] at ht
    | tail a => simp only [isK] at kx
  · intro s
    cases x <;> cases y <;> first
      | exact s.elim
      | (simp only [Sm] at s; simp only [kc, kcs_map, s]; done)
      | (simp only [Sm] at s; simp only [kc, kcs_map, s.1, s.2]; done)
      | (simp only [Sm] at s; simp only [kc, kcs_map]; rw [perm_sort.mp s]; done)
end Gd

namespace Gd
open PySem PySem.Spec PyProof.Rows L2
/-! ### the law's key of a part -/
def par (ks : List Str) : Str := ("(" : Str) ++ Txt.join (" " : Str) ks ++ (")" : Str)
def tlr : Option Str → Str
  | none => ("None" : Str)
  | some s => reprText s
/-- the keys of which the key of a part is glued -/
def lks' : P → List Str
  | .use n vs => [reprText n, par (vs.map lkP)]
  | .sig i r => [reprText ("->" : Str), lkP i, lkP r]
  | .uni ms => ssort (ms.map lkP)
  | .row xs => [reprText ("[]" : Str), par (xs.map lkP)]
  | .inp xs tl => [reprText ("()" : Str), par (xs.map lkP), tlr tl]
  | .star n => [reprText ("*" : Str), reprText n]
  | .dots t => [reprText ("..." : Str), lkP t]
  | .tail s => [reprText ("**" : Str), reprText s]
theorem lks_encs (l : List P) : lks (encs l) = l.map lkP := by
  rw [lks_map, encs_map, List.map_map]
  rfl
theorem enc_bar (p : P) : isBar (enc p) = false := by cases p <;> rfl
theorem lkT_encs (l : List P) : lkT (encs l) = par (l.map lkP) := by
  cases l with
  | nil => decide +kernel
  | cons p r =>
    have h := enc_bar p
    simp only [encs, lkT, h, Bool.false_eq_true, if_false]
    rw [lks_encs]
    rfl
theorem lk_tup (l : List P) : lk (.tuple (encs l)) = par (l.map lkP) := by rw [lk, lkT_encs]
theorem lkT_str {s : Str} {r : List PyData} (h : s ≠ ("|" : Str)) : lkT (.str s :: r) = par (reprText s :: lks r) := by
  have e : isBar (.str s) = false := decide_eq_false h
  simp only [lkT, e, Bool.false_eq_true, if_false, lk]
  rfl
theorem lkP_eq {p : P} {k : Nat} (h : isK p k) (hu : isUni p = false) : lkP p = par (lks' p) := by
  unfold lkP
  cases p with
  | use n vs =>
    simp only [isK] at h
    rw [enc, lk, lkT_str (good_bar h.2.1)]
    simp only [lks, lk_tup, lks']
  | sig i r =>
    rw [enc, lk, lkT_str (by decide +kernel)]
    simp only [lks, lks', lkP]
  | uni ms => cases hu
  | row xs =>
    rw [enc, lk, lkT_str (by decide +kernel)]
    simp only [lks, lk_tup, lks']
  | inp xs tl =>
    rw [enc, lk, lkT_str (by decide +kernel)]
    cases tl with
    | none =>
      simp only [lks, lk_tup, lks', tlD, tlr]
      rw [lk]
    | some s =>
      simp only [lks, lk_tup, lks', tlD, tlr]
      rw [lk]
  | star n =>
    rw [enc, lk, lkT_str (by decide +kernel)]
    simp only [lks, lks', lk]
  | dots t =>
    rw [enc, lk, lkT_str (by decide +kernel)]
    simp only [lks, lks', lkP]
  | tail n => simp only [isK] at h
theorem lkP_uni (ms : List P) : lkP (.uni ms) = ("{" : Str) ++ Txt.join (" " : Str) (ssort (ms.map lkP)) ++ ("}" : Str) := by
  unfold lkP
  rw [enc, lk]
  have e : isBar (.str ("|" : Str)) = true := by decide +kernel
  simp only [lkT, e, if_true, lkM]
  rw [lks_encs]
  rfl
/-! #### how texts are told -/
theorem rc_good : ∀ c, c < 123 → 97 ≤ c → PySem.Builtin.Str.reprChar 39 c = [c] := by
  intro c h1 h2
  have : ∀ d, d < 26 → PySem.Builtin.Str.reprChar 39 (97 + d) = [97 + d] := by decide +kernel
  have e : c = 97 + (c - 97) := by omega
  rw [e]
  exact this _ (by omega)
theorem foldl_good : ∀ (l : List Nat) (acc : Array Nat), (∀ c ∈ l, PySem.Builtin.Str.reprChar 39 c = [c]) → (l.foldl (fun out c => out ++ (PySem.Builtin.Str.reprChar 39 c).toArray) acc).toList = acc.toList ++ l
  | [], acc, _ => by simp
  | c :: r, acc, h => by
    rw [List.foldl_cons, foldl_good r _ fun x hx => h x (List.mem_cons_of_mem c hx), h c List.mem_cons_self]
    simp
theorem sg_repr {n : Str} (h : ∀ c ∈ sg n, PySem.Builtin.Str.reprChar 39 c = [c]) (hq : n.cps.contains 39 = false) : sg (reprText n) = 39 :: (sg n ++ [39]) := by
  have q : reprQuote n = 39 := by
    unfold reprQuote
    rw [hq]
    rfl
  unfold reprText
  rw [q]
  show (Array.push _ 39).toList = _
  rw [Array.toList_push]
  have e : (n.cps.foldl (fun out c => out ++ (PySem.Builtin.Str.reprChar 39 c).toArray) #[39]).toList = #[39].toList ++ sg n := by
    rw [← Array.foldl_toList]
    exact foldl_good _ _ h
  rw [e]
  rfl
theorem good_repr {n : Str} (h : good n) : sg (reprText n) = 39 :: (sg n ++ [39]) := by
  refine sg_repr (fun c hc => ?_) ?_
  · have := good_sg h c hc
    exact rc_good c (by omega) this.1
  · cases e : n.cps.contains 39 with
    | false => rfl
    | true =>
      have h1 : 39 ∈ n.cps := Array.contains_iff_mem.mp e
      have := good_sg h 39 (Array.mem_toList_iff.mpr h1)
      omega
theorem r_sig : sg (reprText ("->" : Str)) = 39 :: (sg ("->" : Str) ++ [39]) := by decide +kernel
theorem r_row : sg (reprText ("[]" : Str)) = 39 :: (sg ("[]" : Str) ++ [39]) := by decide +kernel
theorem r_inp : sg (reprText ("()" : Str)) = 39 :: (sg ("()" : Str) ++ [39]) := by decide +kernel
theorem r_star' : sg (reprText ("*" : Str)) = 39 :: (sg ("*" : Str) ++ [39]) := by decide +kernel
theorem r_dots : sg (reprText ("..." : Str)) = 39 :: (sg ("..." : Str) ++ [39]) := by decide +kernel
theorem repr_hd {p : P} {k : Nat} (h : isK p k) (hu : isUni p = false) : ∃ r, lks' p = reprText (hd p) :: r ∧ sg (reprText (hd p)) = 39 :: (sg (hd p) ++ [39]) := by
  cases p with
  | use n vs =>
    simp only [isK] at h
    exact ⟨_, rfl, good_repr h.2.1⟩
  | sig i r => exact ⟨_, rfl, r_sig⟩
  | uni ms => cases hu
  | row xs => exact ⟨_, rfl, r_row⟩
  | inp xs tl => exact ⟨_, rfl, r_inp⟩
  | star n => exact ⟨_, rfl, r_star'⟩
  | dots t => exact ⟨_, rfl, r_dots⟩
  | tail n => simp only [isK] at h
theorem plain_L {l : List Nat} (h : ∀ c ∈ l, 97 ≤ c ∧ c ≤ 122) : ∀ c ∈ 39 :: (l ++ [39]), gL c = 0 := fun c hc => by
  have e : c = 39 ∨ (97 ≤ c ∧ c ≤ 122) := by
    rcases List.mem_cons.mp hc with rfl | hc
    · exact Or.inl rfl
    · rcases List.mem_append.mp hc with hc | hc
      · exact Or.inr (h c hc)
      · exact Or.inl (List.mem_singleton.mp hc)
  unfold gL
  rw [if_neg (by omega), if_neg (by omega), if_neg (by omega)]
theorem good_L {n : Str} (h : good n) : Bal gL (sg (reprText n)) ∧ sg (reprText n) ≠ [] := by
  rw [good_repr h]
  exact ⟨Bal.plain (plain_L (good_sg h)), by simp⟩
theorem sg_par (ks : List Str) : sg (par ks) = 40 :: (jn 32 (ks.map sg) ++ [41]) := by
  unfold par
  rw [sg_app, sg_app, s_lo, s_lc, sg_join s_ld]
  rfl
theorem sg_uni (ks : List Str) : sg (("{" : Str) ++ Txt.join (" " : Str) ks ++ ("}" : Str)) = 123 :: (jn 32 (ks.map sg) ++ [125]) := by
  rw [sg_app, sg_app, s_uo, s_uc, sg_join s_ld]
  rfl
theorem par_L {ks : List Str} (h : ∀ k ∈ ks, Bal gL (sg k)) : Bal gL (sg (par ks)) ∧ sg (par ks) ≠ [] := by
  rw [sg_par]
  refine ⟨Bal.wrap (d := 32) rfl rfl rfl fun x hx => ?_, by simp⟩
  obtain ⟨k, hk, rfl⟩ := List.mem_map.mp hx
  exact h k hk
theorem tl_L {tl : Option Str} (h : tlok tl) : Bal gL (sg (tlr tl)) ∧ sg (tlr tl) ≠ [] := by
  cases tl with
  | none => rw [tlr, s_none]; exact ⟨rfl, by simp⟩
  | some s =>
    rcases h with rfl | h
    · rw [tlr, r_dots, s_dots]; exact ⟨rfl, by simp⟩
    · exact good_L h
theorem uni_L {ks : List Str} (h : ∀ k ∈ ks, Bal gL (sg k)) : Bal gL (sg (("{" : Str) ++ Txt.join (" " : Str) ks ++ ("}" : Str))) := by
  rw [sg_uni]
  refine Bal.wrap (d := 32) rfl rfl rfl fun x hx => ?_
  obtain ⟨k, hk, rfl⟩ := List.mem_map.mp hx
  exact h k hk
theorem cons_all {α : Type} {p : α → Prop} {a : α} {l : List α} (h : p a) (t : ∀ x ∈ l, p x) : ∀ x ∈ a :: l, p x := fun x hx => by
  rcases List.mem_cons.mp hx with rfl | hx
  · exact h
  · exact t x hx
theorem nil_all {α : Type} {p : α → Prop} : ∀ x ∈ ([] : List α), p x := fun x hx => (List.not_mem_nil hx).elim
abbrev OkL (x : Str) : Prop := Bal gL (sg x) ∧ sg x ≠ []
theorem lkP_ne {p : P} {k : Nat} (h : isK p k) : sg (lkP p) ≠ [] := by
  rcases uni_or p with ⟨ms, rfl⟩ | ⟨hu, _⟩
  · rw [lkP_uni, sg_uni]; simp
  · rw [lkP_eq h hu, sg_par]; simp
mutual
theorem bal_lk : ∀ (p : P) (k : Nat), isK p k → Bal gL (sg (lkP p))
  | .use n vs, k, h => by
    rw [lkP_eq h rfl]
    simp only [isK] at h
    exact (par_L (cons_all (good_L h.2.1).1 (cons_all (par_L (bal_lks vs 1 h.2.2)).1 nil_all))).1
  | .sig i r, k, h => by
    rw [lkP_eq h rfl]
    simp only [isK] at h
    exact (par_L (cons_all (by rw [r_sig, s_sig]; rfl) (cons_all (bal_lk i 3 h.2.1) (cons_all (bal_lk r 0 h.2.2) nil_all)))).1
  | .uni ms, k, h => by
    rw [lkP_uni]
    simp only [isK] at h
    have h1 := bal_lks ms 4 h.2.2.2
    exact uni_L fun x hx => h1 x (mem_ssort.mp hx)
  | .row xs, k, h => by
    rw [lkP_eq h rfl]
    simp only [isK] at h
    exact (par_L (cons_all (by rw [r_row, s_row]; rfl) (cons_all (par_L (bal_lks xs 2 h.2)).1 nil_all))).1
  | .inp xs tl, k, h => by
    rw [lkP_eq h rfl]
    simp only [isK] at h
    exact (par_L (cons_all (by rw [r_inp, s_inp]; rfl) (cons_all (par_L (bal_lks xs 2 h.2.1)).1 (cons_all (tl_L h.2.2).1 nil_all)))).1
  | .star n, k, h => by
    rw [lkP_eq h rfl]
    simp only [isK] at h
    exact (par_L (cons_all (by rw [r_star', s_star]; rfl) (cons_all (good_L h.2).1 nil_all))).1
  | .dots t, k, h => by
    rw [lkP_eq h rfl]
    simp only [isK] at h
    exact (par_L (cons_all (by rw [r_dots, s_dots]; rfl) (cons_all (bal_lk t 0 h.2) nil_all))).1
  | .tail s, k, h => by simp only [isK] at h
theorem bal_lks : ∀ (l : List P) (k : Nat), isKs l k → ∀ x ∈ l.map lkP, Bal gL (sg x)
  | [], _, _, x, hx => by simp at hx
  | p :: r, k, h, x, hx => by
    simp only [isKs] at h
    simp only [List.map_cons, List.mem_cons] at hx
    rcases hx with rfl | hx
    · exact bal_lk p k h.1
    · exact bal_lks r k h.2 x hx
end
theorem lkP_L {p : P} {k : Nat} (h : isK p k) : OkL (lkP p) := ⟨bal_lk p k h, lkP_ne h⟩
theorem lkPs_L {l : List P} {k : Nat} (h : isKs l k) : ∀ x ∈ l.map lkP, OkL x := fun x hx => by
  refine ⟨bal_lks l k h x hx, ?_⟩
  obtain ⟨p, hp, rfl⟩ := List.mem_map.mp hx
  exact lkP_ne (isKs_iff.mp h p hp)
theorem lks_L {p : P} {k : Nat} (h : isK p k) : ∀ x ∈ lks' p, OkL x := by
  cases p with
  | use n vs =>
    simp only [isK] at h
    exact cons_all (good_L h.2.1) (cons_all (par_L (bal_lks vs 1 h.2.2)) nil_all)
  | sig i r =>
    simp only [isK] at h
    exact cons_all (by rw [OkL, r_sig, s_sig]; exact ⟨rfl, by simp⟩) (cons_all (lkP_L h.2.1) (cons_all (lkP_L h.2.2) nil_all))
  | uni ms =>
    simp only [isK] at h
    exact fun x hx => lkPs_L h.2.2.2 x (mem_ssort.mp hx)
  | row xs =>
    simp only [isK] at h
    exact cons_all (by rw [OkL, r_row, s_row]; exact ⟨rfl, by simp⟩) (cons_all (par_L (bal_lks xs 2 h.2)) nil_all)
  | inp xs tl =>
    simp only [isK] at h
    exact cons_all (by rw [OkL, r_inp, s_inp]; exact ⟨rfl, by simp⟩) (cons_all (par_L (bal_lks xs 2 h.2.1)) (cons_all (tl_L h.2.2) nil_all))
  | star n =>
    simp only [isK] at h
    exact cons_all (by rw [OkL, r_star', s_star]; exact ⟨rfl, by simp⟩) (cons_all (good_L h.2) nil_all)
  | dots t =>
    simp only [isK] at h
    exact cons_all (by rw [OkL, r_dots, s_dots]; exact ⟨rfl, by simp⟩) (cons_all (lkP_L h.2) nil_all)
  | tail n => simp only [isK] at h
theorem par_inj {ks ls : List Str} (h : ∀ x ∈ ks, OkL x) (k : ∀ x ∈ ls, OkL x) (e : par ks = par ls) : ks = ls := by
  have e1 := congrArg sg e
  rw [sg_par, sg_par] at e1
  simp only [List.cons.injEq, true_and] at e1
  exact wrap_inj (g := gL) (d := 32) rfl h k e1
theorem repr_inj {n m : Str} (hn : good n) (hm : good m) (e : reprText n = reprText m) : n = m := by
  have e1 := congrArg sg e
  rw [good_repr hn, good_repr hm] at e1
  simp only [List.cons.injEq, true_and] at e1
  exact sg_inj (List.append_cancel_right e1)
theorem tlr_inj {s t : Option Str} (hs : tlok s) (ht : tlok t) (e : tlr s = tlr t) : s = t := by
  have e1 := congrArg sg e
  have ex : ∀ {u : Option Str}, tlok u → sg (tlr u) = match u with | none => [78, 111, 110, 101] | some v => 39 :: (sg v ++ [39]) := fun {u} h => by
    cases u with
    | none => exact s_none
    | some v =>
      rcases h with rfl | h
      · exact r_dots
      · exact good_repr h
  rw [ex hs, ex ht] at e1
  cases s <;> cases t
  · rfl
  · simp at e1
  · simp at e1
  · simp only [List.cons.injEq, true_and] at e1
    rw [sg_inj (List.append_cancel_right e1)]
theorem faith_lk : Faith lkP := by
  intro x y k j kx ky
  constructor
  · intro e
    rcases uni_or x with ⟨a, rfl⟩ | ⟨ux, _⟩
    · rcases uni_or y with ⟨b, rfl⟩ | ⟨uy, _⟩
      · have hx := lks_L kx
        have hy := lks_L ky
        rw [lkP_uni, lkP_uni] at e
        have e1 := congrArg sg e
        rw [sg_uni, sg_uni] at e1
        simp only [List.cons.injEq, true_and] at e1
        exact perm_sort.mpr (wrap_inj (g := gL) (d := 32) rfl hx hy e1)
      · rw [lkP_uni, lkP_eq ky uy] at e
        have e1 := congrArg sg e
        rw [sg_uni, sg_par] at e1
        simp at e1
    · rcases uni_or y with ⟨b, rfl⟩ | ⟨uy, _⟩
      · rw [lkP_uni, lkP_eq kx ux] at e
        have e1 := congrArg sg e
        rw [sg_uni, sg_par] at e1
        simp at e1
      · rw [lkP_eq kx ux, lkP_eq ky uy] at e
        have e1 := par_inj (lks_L kx) (lks_L ky) e
        obtain ⟨u, e2, e3⟩ := repr_hd kx ux
        obtain ⟨v, e4, e5⟩ := repr_hd ky uy
        have ht : tg x = tg y := by
          have e6 := e1
          rw [e2, e4] at e6
          simp only [List.cons.injEq] at e6
          have e7 := congrArg sg e6.1
          rw [e3, e5] at e7
          simp only [List.cons.injEq, true_and] at e7
          exact tg_of kx ky e7
        clear e2 e4 e3 e5
        cases x with
        | use n vs =>
          cases y with
          | use m ws =>
            simp only [isK] at kx ky
            simp only [lks', List.cons.injEq, and_true] at e1
            exact ⟨repr_inj kx.2.1 ky.2.1 e1.1, par_inj (lkPs_L kx.2.2) (lkPs_L ky.2.2) e1.2⟩
          | _ => simp [tg] at ht
        | sig a b =>
          cases y with
          | sig c d =>
            simp only [lks', List.cons.injEq, and_true, true_and] at e1
            exact e1
          | _ => simp [tg] at ht
        | uni a => cases ux
        | row a =>
          cases y with
          | row b =>
            simp only [isK] at kx ky
            simp only [lks', List.cons.injEq, and_true, true_and] at e1
            exact par_inj (lkPs_L kx.2) (lkPs_L ky.2) e1
          | _ => simp [tg] at ht
        | inp a s =>
          cases y with
          | inp b t =>
            simp only [isK] at kx ky
            simp only [lks', List.cons.injEq, and_true, true_and] at e1
            exact ⟨par_inj (lkPs_L kx.2.1) (lkPs_L ky.2.1) e1.1, tlr_inj kx.2.2 ky.2.2 e1.2⟩
          | _ => simp [tg] at ht
        | star a =>
          cases y with
          | star b =>
            simp only [isK] at kx ky
            simp only [lks', List.cons.injEq, and_true, true_and] at e1
            exact repr_inj kx.2 ky.2 e1
          | _ => simp [tg] at ht
        | dots a =>
          cases y with
          | dots b =>
            simp only [lks', List.cons.injEq, and_true, true_and] at e1
            exact e1
          | _ => simp [tg] at ht
        | tail a => simp only [isK] at kx
  · intro s
    rcases uni_or x with ⟨a, rfl⟩ | ⟨ux, _⟩
    · cases y with
      | uni b => rw [lkP_uni, lkP_uni, perm_sort.mp s]
      | _ => exact s.elim
    · have uy : isUni y = false := by
        cases x <;> cases y <;> first
          | exact s.elim
          | rfl
          | (simp [isUni] at ux; done)
      rw [lkP_eq kx ux, lkP_eq ky uy]
      cases x <;> cases y <;> first
        | exact s.elim
        | (simp [isUni] at ux; done)
        | (simp only [Sm] at s; simp only [lks', s]; done)
        | (simp only [Sm] at s; simp only [lks', s.1, s.2]; done)
/-- both keys tell the same -/
theorem kc_lk {x y : P} {k j : Nat} (kx : isK x k) (ky : isK y j) : kc x = kc y ↔ lkP x = lkP y :=
  ⟨faith_kc.agree faith_lk _ x y k j (Nat.le_max_left _ _) (Nat.le_max_right _ _) kx ky, faith_lk.agree faith_kc _ x y k j (Nat.le_max_left _ _) (Nat.le_max_right _ _) kx ky⟩
end Gd

namespace Gd
open PySem PySem.Spec PyProof.Rows L2
/-! ### all parts, level by level -/
mutual
theorem pre_part : ∀ (p : P) {q r : P}, q ∈ pre p → r ∈ parts q → r ∈ pre p
  | .use n vs, q, r, hq, hr => by
    simp only [pre, List.mem_cons] at hq ⊢
    rcases hq with rfl | hq
    · exact Or.inr (pres_self hr)
    · exact Or.inr (pres_part vs hq hr)
  | .sig i t, q, r, hq, hr => by
    simp only [pre, List.mem_cons, List.mem_append] at hq ⊢
    rcases hq with rfl | hq | hq
    · simp only [parts, List.mem_cons, List.not_mem_nil, or_false] at hr
      rcases hr with rfl | rfl
      · exact Or.inr (Or.inl (by rw [pre_eq]; simp))
      · exact Or.inr (Or.inr (by rw [pre_eq]; simp))
    · exact Or.inr (Or.inl (pre_part i hq hr))
    · exact Or.inr (Or.inr (pre_part t hq hr))
  | .uni ms, q, r, hq, hr => by
    simp only [pre, List.mem_cons] at hq ⊢
    rcases hq with rfl | hq
    · exact Or.inr (pres_self hr)
    · exact Or.inr (pres_part ms hq hr)
  | .row xs, q, r, hq, hr => by
    simp only [pre, List.mem_cons] at hq ⊢
    rcases hq with rfl | hq
    · exact Or.inr (pres_self hr)
    · exact Or.inr (pres_part xs hq hr)
  | .inp xs tl, q, r, hq, hr => by
    simp only [pre, List.mem_cons, List.mem_append] at hq ⊢
    rcases hq with rfl | hq | hq
    · simp only [parts, List.mem_append] at hr
      rcases hr with hr | hr
      · exact Or.inr (Or.inl (pres_self hr))
      · exact Or.inr (Or.inr hr)
    · exact Or.inr (Or.inl (pres_part xs hq hr))
    · cases tl with
      | none => simp [tails] at hq
      | some s =>
        simp only [tails, List.mem_singleton] at hq
        subst hq
        simp [parts] at hr
  | .star n, q, r, hq, hr => by
    simp only [pre, List.mem_singleton] at hq
    subst hq
    simp [parts] at hr
  | .dots t, q, r, hq, hr => by
    simp only [pre, List.mem_cons] at hq ⊢
    rcases hq with rfl | hq
    · simp only [parts, List.mem_singleton] at hr
      subst hr
      exact Or.inr (by rw [pre_eq]; simp)
    · exact Or.inr (pre_part t hq hr)
  | .tail s, q, r, hq, hr => by
    simp only [pre, List.mem_singleton] at hq
    subst hq
    simp [parts] at hr
theorem pres_part : ∀ (l : List P) {q r : P}, q ∈ pres l → r ∈ parts q → r ∈ pres l
  | [], q, r, hq, _ => by simp [pres] at hq
  | p :: l, q, r, hq, hr => by
    simp only [pres, List.mem_append] at hq ⊢
    rcases hq with hq | hq
    · exact Or.inl (pre_part p hq hr)
    · exact Or.inr (pres_part l hq hr)
theorem pres_self : ∀ {l : List P} {r : P}, r ∈ l → r ∈ pres l
  | [], _, h => (List.not_mem_nil h).elim
  | p :: l, r, h => by
    simp only [pres, List.mem_append]
    rcases List.mem_cons.mp h with rfl | h
    · exact Or.inl (by rw [pre_eq]; simp)
    · exact Or.inr (pres_self h)
end
theorem self_pre (p : P) : p ∈ pre p := by rw [pre_eq]; simp
/-- what a walk through all parts may rely on -/
def hokU (q : P) : Prop := hok q ∧ (isUni q = true → (parts q).length < 64) ∧ kw (enc q) ≤ 90000
mutual
theorem kw_pre : ∀ (p : P), ∀ q ∈ pre p, kw (enc q) ≤ kw (enc p)
  | .use n vs, q, hq => by
    simp only [pre, List.mem_cons] at hq
    rcases hq with rfl | hq
    · exact Nat.le_refl _
    · have := kws_pre vs q hq
      simp only [enc, kw, kws]; omega
  | .sig i t, q, hq => by
    simp only [pre, List.mem_cons, List.mem_append] at hq
    rcases hq with rfl | hq | hq
    · exact Nat.le_refl _
    · have := kw_pre i q hq
      simp only [enc, kw, kws]; omega
    · have := kw_pre t q hq
      simp only [enc, kw, kws]; omega
  | .uni ms, q, hq => by
    simp only [pre, List.mem_cons] at hq
    rcases hq with rfl | hq
    · exact Nat.le_refl _
    · have := kws_pre ms q hq
      simp only [enc, kw, kws]; omega
  | .row xs, q, hq => by
    simp only [pre, List.mem_cons] at hq
    rcases hq with rfl | hq
    · exact Nat.le_refl _
    · have := kws_pre xs q hq
      simp only [enc, kw, kws]; omega
  | .inp xs tl, q, hq => by
    simp only [pre, List.mem_cons, List.mem_append] at hq
    rcases hq with rfl | hq | hq
    · exact Nat.le_refl _
    · have := kws_pre xs q hq
      simp only [enc, kw, kws]; omega
    · cases tl with
      | none => simp [tails] at hq
      | some s =>
        simp only [tails, List.mem_singleton] at hq
        subst hq
        have e1 : ("**" : Str).length = 2 := by decide +kernel
        have e2 : ("()" : Str).length = 2 := by decide +kernel
        simp only [enc, kw, kws, tlD, e1, e2]
        omega
  | .star n, q, hq => by
    simp only [pre, List.mem_singleton] at hq
    subst hq
    exact Nat.le_refl _
  | .dots t, q, hq => by
    simp only [pre, List.mem_cons] at hq
    rcases hq with rfl | hq
    · exact Nat.le_refl _
    · have := kw_pre t q hq
      simp only [enc, kw, kws]; omega
  | .tail s, q, hq => by
    simp only [pre, List.mem_singleton] at hq
    subst hq
    exact Nat.le_refl _
theorem kws_pre : ∀ (l : List P), ∀ q ∈ pres l, kw (enc q) ≤ kws (encs l)
  | [], q, hq => by simp [pres] at hq
  | p :: l, q, hq => by
    simp only [pres, List.mem_append] at hq
    rcases hq with hq | hq
    · have := kw_pre p q hq
      simp only [encs, kws]; omega
    · have := kws_pre l q hq
      simp only [encs, kws]; omega
end
theorem slen_app (a b : Str) : (a ++ b).length = a.length + b.length := by
  show (a.cps ++ b.cps).size = _
  rw [Array.size_append]
  rfl
theorem slen_join (z : Str) (ys : List Str) : (Txt.join z ys).length ≤ (ys.map (·.length)).sum + ys.length * z.length := by
  rw [TL.join_eq]
  induction ys with
  | nil => exact Nat.zero_le _
  | cons x r ih =>
    cases r with
    | nil =>
      show x.length ≤ _
      simp
    | cons y r =>
      show (x ++ z ++ Str.join z (y :: r)).length ≤ _
      rw [slen_app, slen_app]
      simp only [List.map_cons, List.sum_cons, List.length_cons] at ih ⊢
      rw [Nat.add_mul (r.length + 1) 1, Nat.one_mul]
      omega
theorem sum_ssort (l : List Str) : ((ssort l).map (·.length)).sum = (l.map (·.length)).sum := ((ssort_perm l).map _).sum_nat
theorem len_ssort (l : List Str) : (ssort l).length = l.length := (ssort_perm l).length_eq
theorem l_o : ("[" : Str).length = 1 := by decide +kernel
theorem l_c : ("]" : Str).length = 1 := by decide +kernel
theorem l_d : ("," : Str).length = 1 := by decide +kernel
mutual
theorem kc_len : ∀ p : P, (kc p).length ≤ kw (enc p)
  | .use n vs => by
    have h := kcs_len vs
    have j := slen_join ("," : Str) (kcs vs)
    simp only [kc, slen_app, l_o, l_c, enc, kw, kws]
    rw [l_d, Nat.mul_one] at j
    omega
  | .sig i t => by
    have h1 := kc_len i
    have h2 := kc_len t
    have j := slen_join ("," : Str) [kc i, kc t]
    have e1 : ("->" : Str).length = 2 := by decide +kernel
    simp only [kc, slen_app, l_o, l_c, enc, kw, kws, e1]
    simp only [l_d, List.map_cons, List.map_nil, List.sum_cons, List.sum_nil, List.length_cons, List.length_nil] at j
    omega
  | .uni vs => by
    have h := kcs_len vs
    have j := slen_join ("," : Str) (ssort (kcs vs))
    have e1 : ("|" : Str).length = 1 := by decide +kernel
    simp only [kc, slen_app, l_o, l_c, enc, kw, kws, e1]
    rw [l_d, Nat.mul_one, sum_ssort, len_ssort] at j
    omega
  | .row vs => by
    have h := kcs_len vs
    have j := slen_join ("," : Str) (kcs vs)
    have e1 : ("[]" : Str).length = 2 := by decide +kernel
    simp only [kc, slen_app, l_o, l_c, enc, kw, kws, e1]
    rw [l_d, Nat.mul_one] at j
    omega
  | .inp vs tl => by
    have h := kcs_len vs
    have j := slen_join ("," : Str) (kcs vs ++ tlk tl)
    have e1 : ("()" : Str).length = 2 := by decide +kernel
    simp only [kc, slen_app, l_o, l_c, enc, kw, kws, e1]
    rw [l_d, Nat.mul_one, List.map_append, List.sum_append, List.length_append] at j
    cases tl with
    | none =>
      simp only [tlk, List.map_nil, List.sum_nil, List.length_nil] at j
      simp only [tlk, tlD, kw]
      omega
    | some s =>
      have e2 : ("**" : Str).length = 2 := by decide +kernel
      simp only [tlk, List.map_cons, List.map_nil, List.sum_cons, List.sum_nil, List.length_cons, List.length_nil, slen_app, e2] at j
      simp only [tlk, tlD, kw]
      omega
  | .star n => by
    have e1 : ("*" : Str).length = 1 := by decide +kernel
    simp only [kc, slen_app, enc, kw, kws, e1]
    omega
  | .dots t => by
    have h1 := kc_len t
    have j := slen_join ("," : Str) [kc t]
    have e1 : ("..." : Str).length = 3 := by decide +kernel
    simp only [kc, slen_app, l_o, l_c, enc, kw, kws, e1]
    simp only [l_d, List.map_cons, List.map_nil, List.sum_cons, List.sum_nil, List.length_cons, List.length_nil] at j
    omega
  | .tail s => by
    have e1 : ("**" : Str).length = 2 := by decide +kernel
    simp only [kc, slen_app, enc, kw, kws, e1]
    omega
theorem kcs_len : ∀ l : List P, ((kcs l).map (·.length)).sum + (kcs l).length ≤ kws (encs l)
  | [] => by simp [kcs, kws, encs]
  | p :: l => by
    have h1 := kc_len p
    have h2 := kcs_len l
    simp only [kcs, encs, kws, List.map_cons, List.sum_cons, List.length_cons]
    omega
end
theorem kcs_parts (q : P) : ((kcs (parts q)).map (·.length)).sum + (kcs (parts q)).length ≤ kw (enc q) := by
  have h := kcs_len (parts q)
  cases q with
  | inp xs tl =>
    cases tl with
    | none => simp only [parts, tails, List.append_nil, enc, kw, kws] at h ⊢; omega
    | some s =>
      have h2 := kcs_len xs
      have e2 : ("**" : Str).length = 2 := by decide +kernel
      simp only [parts, tails, kcs_app, kcs, kc, List.map_append, List.sum_append, List.length_append, List.map_cons, List.map_nil, List.sum_cons, List.sum_nil, List.length_cons, List.length_nil, slen_app, e2, enc, kw, kws, tlD]
      omega
  | _ => simp only [parts, encs, enc, kw, kws] at h ⊢ <;> omega
/-! #### the list of all parts, each with the place of its own -/
def LO (L : List P) (i : Nat) : Nat := 1 + ((L.take i).flatMap parts).length
theorem LO_app {L M : List P} {i : Nat} (h : i ≤ L.length) : LO (L ++ M) i = LO L i := by
  unfold LO
  rw [List.take_append_of_le_length h]
theorem take_flat {L : List P} {i : Nat} {y : P} (h : L[i]? = some y) : (L.take (i + 1)).flatMap parts = (L.take i).flatMap parts ++ parts y := by
  rw [List.take_add_one, h, List.flatMap_append]
  simp
theorem LO_next {L : List P} {i : Nat} {y : P} (h : L[i]? = some y) : LO L (i + 1) = LO L i + (parts y).length := by
  unfold LO
  rw [take_flat h, List.length_append]
  omega
theorem LO_own {p : P} {L : List P} (e : L = p :: L.flatMap parts) {i : Nat} {y : P} (h : L[i]? = some y) : (L.drop (LO L i)).take (LO L (i + 1) - LO L i) = parts y ∧ LO L (i + 1) ≤ L.length := by
  have e1 : L.flatMap parts = ((L.take i).flatMap parts ++ parts y) ++ (L.drop (i + 1)).flatMap parts := by
    rw [← take_flat h, ← List.flatMap_append, List.take_append_drop]
  have e2 : L.length = 1 + (L.flatMap parts).length := by
    have := congrArg List.length e
    rw [List.length_cons] at this
    omega
  refine ⟨?_, ?_⟩
  · have e3 : L.drop (LO L i) = parts y ++ (L.drop (i + 1)).flatMap parts := by
      unfold LO
      have : L.drop (1 + ((L.take i).flatMap parts).length) = (L.flatMap parts).drop ((L.take i).flatMap parts).length := by
        conv => lhs; rw [e]
        rw [Nat.add_comm, List.drop_succ_cons]
        congr 2
        congr 1
        conv => lhs; rw [← e]
      rw [this, e1, List.append_assoc, List.drop_left]
    rw [e3, LO_next h, Nat.add_sub_cancel_left, List.take_left]
  · rw [LO_next h, e2, e1]
    simp only [List.length_append, LO]
    omega
end Gd

namespace Gd
open PySem PySem.Spec PyProof.Rows L2
/-! ### parts with the members of unions in another order -/
inductive A2 {α β : Type} (R : α → β → Prop) : List α → List β → Prop
  | nil : A2 R [] []
  | cons {a : α} {b : β} {l : List α} {m : List β} (h : R a b) (t : A2 R l m) : A2 R (a :: l) (b :: m)
theorem A2.app {α β : Type} {R : α → β → Prop} : ∀ {l l' : List α} {m m' : List β}, A2 R l m → A2 R l' m' → A2 R (l ++ l') (m ++ m')
  | _, _, _, _, .nil, h => h
  | _, _, _, _, .cons h t, g => .cons h (A2.app t g)
theorem A2.len {α β : Type} {R : α → β → Prop} : ∀ {l : List α} {m : List β}, A2 R l m → l.length = m.length
  | _, _, .nil => rfl
  | _, _, .cons _ t => by simp [A2.len t]
theorem A2.map {α β γ : Type} {R : α → β → Prop} {f : α → γ} {g : β → γ} (hR : ∀ a b, R a b → g b = f a) : ∀ {l : List α} {m : List β}, A2 R l m → m.map g = l.map f
  | _, _, .nil => rfl
  | _, _, .cons h t => by simp [hR _ _ h, A2.map hR t]
theorem encs_len (l : List P) : (encs l).length = l.length := by rw [encs_map, List.length_map]
structure Mx (p q : P) : Prop where
  is : ∀ k, isK p k → isK q k
  lk : lkP q = lkP p
  dep : (enc q).depth = (enc p).depth
  wgt : kw (enc q) = kw (enc p)
  lay : (enc q).canLay0 = (enc p).canLay0
  bar : kq (enc q) = kq (enc p)
theorem depths_eq : ∀ l : List PyData, PyData.depthAll l = (l.map PyData.depth).foldr max 0
  | [] => rfl
  | x :: r => by simp [PyData.depthAll, depths_eq r]
theorem kws_eq : ∀ l : List PyData, kws l = (l.map fun d => kw d + 5).sum
  | [] => rfl
  | x :: r => by simp [kws, kws_eq r]
theorem lays_eq : ∀ l : List PyData, PyData.canLayAll0 l = (l.map PyData.canLay0).all id
  | [] => rfl
  | x :: r => by simp [PyData.canLayAll0, lays_eq r]
theorem kqs_eq : ∀ l : List PyData, kqs l = (l.map kq).all id
  | [] => rfl
  | x :: r => by simp [kqs, kqs_eq r]
theorem foldr_max_perm {l m : List Nat} (h : l.Perm m) : l.foldr max 0 = m.foldr max 0 := by
  induction h with
  | nil => rfl
  | cons x _ ih => simp only [List.foldr_cons, ih]
  | swap x y l => simp only [List.foldr_cons]; omega
  | trans _ _ h1 h2 => exact h1.trans h2
theorem all_perm {l m : List Bool} (h : l.Perm m) : l.all id = m.all id := by
  induction h with
  | nil => rfl
  | cons x _ ih => simp only [List.all_cons, ih]
  | swap x y l => simp only [List.all_cons]; cases id x <;> cases id y <;> rfl
  | trans _ _ h1 h2 => exact h1.trans h2
/-- what lists of parts share when their items do, one by one and up to order -/
structure Mz (l m : List P) : Prop where
  is : ∀ k, isKs l k → isKs m k
  len : m.length = l.length
  lks : (m.map lkP).Perm (l.map lkP)
  dep : PyData.depthAll (encs m) = PyData.depthAll (encs l)
  wgt : kws (encs m) = kws (encs l)
  lay : PyData.canLayAll0 (encs m) = PyData.canLayAll0 (encs l)
  bar : kqs (encs m) = kqs (encs l)
theorem Mz.of {l l1 m : List P} (hp : l1.Perm l) (h : A2 Mx l1 m) : Mz l m where
  is := fun k hk => by
    have h1 : isKs l1 k := isKs_iff.mpr fun p hp' => isKs_iff.mp hk p (hp.mem_iff.mp hp')
    clear hp hk
    induction h with
    | nil => exact h1
    | cons a t ih =>
      simp only [isKs] at h1 ⊢
      exact ⟨a.is _ h1.1, ih h1.2⟩
  len := by rw [← h.len, hp.length_eq]
  lks := by rw [h.map (g := lkP) fun a b r => r.lk]; exact hp.map _
  dep := by
    rw [depths_eq, depths_eq, encs_map, encs_map, List.map_map, List.map_map, h.map (f := PyData.depth ∘ enc) (g := PyData.depth ∘ enc) fun a b r => r.dep]
    exact foldr_max_perm (hp.map _)
  wgt := by
    rw [kws_eq, kws_eq, encs_map, encs_map, List.map_map, List.map_map, h.map (f := (fun d => kw d + 5) ∘ enc) (g := (fun d => kw d + 5) ∘ enc) fun a b r => by simp only [Function.comp, r.wgt]]
    exact (hp.map _).sum_nat
  lay := by
    rw [lays_eq, lays_eq, encs_map, encs_map, List.map_map, List.map_map, h.map (f := PyData.canLay0 ∘ enc) (g := PyData.canLay0 ∘ enc) fun a b r => r.lay]
    exact all_perm (hp.map _)
  bar := by
    rw [kqs_eq, kqs_eq, encs_map, encs_map, List.map_map, List.map_map, h.map (f := kq ∘ enc) (g := kq ∘ enc) fun a b r => r.bar]
    exact all_perm (hp.map _)
theorem A2.mz {l m : List P} (h : A2 Mx l m) : Mz l m := .of (.refl _) h
theorem A2.lk {l m : List P} (h : A2 Mx l m) : m.map lkP = l.map lkP := h.map fun a b r => r.lk
theorem Mx.rf {p : P} : Mx p p := ⟨fun _ h => h, rfl, rfl, rfl, rfl, rfl⟩
theorem Mx.use {n : Str} {vs ws : List P} {j : Nat} (hk : isK (.use n vs) j) (h : A2 Mx vs ws) : Mx (.use n vs) (.use n ws) where
  is := fun k hk => by simp only [isK] at hk ⊢; exact ⟨hk.1, hk.2.1, h.mz.is _ hk.2.2⟩
  lk := by
    have h2 : isK (.use n ws) j := by simp only [isK] at hk ⊢; exact ⟨hk.1, hk.2.1, h.mz.is _ hk.2.2⟩
    rw [lkP_eq hk rfl, lkP_eq h2 rfl]
    simp only [lks', h.lk]
  dep := by simp only [enc, PyData.depth, PyData.depthAll, h.mz.dep]
  wgt := by simp only [enc, kw, kws, h.mz.wgt]
  lay := by simp only [enc, PyData.canLay0, PyData.canLayAll0, h.mz.lay]
  bar := by simp only [enc, kq_tup, kqs, kqT_cons, barM, kqT_encs, h.mz.bar, encs_len, h.mz.len]
theorem Mx.sig {i r i' r' : P} {j : Nat} (hk : isK (.sig i r) j) (h1 : Mx i i') (h2 : Mx r r') : Mx (.sig i r) (.sig i' r') where
  is := fun k hk => by simp only [isK] at hk ⊢; exact ⟨hk.1, h1.is _ hk.2.1, h2.is _ hk.2.2⟩
  lk := by
    have h3 : isK (.sig i' r') j := by simp only [isK] at hk ⊢; exact ⟨hk.1, h1.is _ hk.2.1, h2.is _ hk.2.2⟩
    rw [lkP_eq hk rfl, lkP_eq h3 rfl]
    simp only [lks', h1.lk, h2.lk]
  dep := by simp only [enc, PyData.depth, PyData.depthAll, h1.dep, h2.dep]
  wgt := by simp only [enc, kw, kws, h1.wgt, h2.wgt]
  lay := by simp only [enc, PyData.canLay0, PyData.canLayAll0, h1.lay, h2.lay]
  bar := by
    have e : isBar (.str ("->" : Str)) = false := by decide +kernel
    simp only [enc, kq, kqs, kqT, e, Bool.not_false, Bool.true_or, h1.bar, h2.bar]
theorem Mx.uni {ms l1 ns : List P} {j : Nat} (hk : isK (.uni ms) j) (hp : l1.Perm ms) (h : A2 Mx l1 ns) : Mx (.uni ms) (.uni ns) := by
  have z := Mz.of hp h
  exact {
    is := fun k hk => by
      simp only [isK] at hk ⊢
      exact ⟨hk.1, by rw [z.len]; exact hk.2.1, z.lks.nodup_iff.mpr hk.2.2.1, z.is _ hk.2.2.2⟩
    lk := by rw [lkP_uni, lkP_uni, perm_sort.mp z.lks]
    dep := by simp only [enc, PyData.depth, PyData.depthAll, z.dep]
    wgt := by simp only [enc, kw, kws, z.wgt]
    lay := by simp only [enc, PyData.canLay0, PyData.canLayAll0, z.lay]
    bar := by simp only [enc, kq_tup, kqs, kqT_cons, barM, kqT_encs, z.bar, encs_len, z.len] }
theorem Mx.row {vs ws : List P} {j : Nat} (hk : isK (.row vs) j) (h : A2 Mx vs ws) : Mx (.row vs) (.row ws) where
  is := fun k hk => by simp only [isK] at hk ⊢; exact ⟨hk.1, h.mz.is _ hk.2⟩
  lk := by
    have h2 : isK (.row ws) j := by simp only [isK] at hk ⊢; exact ⟨hk.1, h.mz.is _ hk.2⟩
    rw [lkP_eq hk rfl, lkP_eq h2 rfl]
    simp only [lks', h.lk]
  dep := by simp only [enc, PyData.depth, PyData.depthAll, h.mz.dep]
  wgt := by simp only [enc, kw, kws, h.mz.wgt]
  lay := by simp only [enc, PyData.canLay0, PyData.canLayAll0, h.mz.lay]
  bar := by simp only [enc, kq_tup, kqs, kqT_cons, barM, kqT_encs, h.mz.bar, encs_len, h.mz.len]
theorem Mx.inp {vs ws : List P} {tl : Option Str} {j : Nat} (hk : isK (.inp vs tl) j) (h : A2 Mx vs ws) : Mx (.inp vs tl) (.inp ws tl) where
  is := fun k hk => by simp only [isK] at hk ⊢; exact ⟨hk.1, h.mz.is _ hk.2.1, hk.2.2⟩
  lk := by
    have h2 : isK (.inp ws tl) j := by simp only [isK] at hk ⊢; exact ⟨hk.1, h.mz.is _ hk.2.1, hk.2.2⟩
    rw [lkP_eq hk rfl, lkP_eq h2 rfl]
    simp only [lks', h.lk]
  dep := by simp only [enc, PyData.depth, PyData.depthAll, h.mz.dep]
  wgt := by simp only [enc, kw, kws, h.mz.wgt]
  lay := by simp only [enc, PyData.canLay0, PyData.canLayAll0, h.mz.lay]
  bar := by simp only [enc, kq_tup, kqs, kqT_cons, barM, kqT_encs, h.mz.bar, encs_len, h.mz.len]
theorem Mx.dots {t u : P} {j : Nat} (hk : isK (.dots t) j) (h : Mx t u) : Mx (.dots t) (.dots u) where
  is := fun k hk => by simp only [isK] at hk ⊢; exact ⟨hk.1, h.is _ hk.2⟩
  lk := by
    have h2 : isK (.dots u) j := by simp only [isK] at hk ⊢; exact ⟨hk.1, h.is _ hk.2⟩
    rw [lkP_eq hk rfl, lkP_eq h2 rfl]
    simp only [lks', h.lk]
  dep := by simp only [enc, PyData.depth, PyData.depthAll, h.dep]
  wgt := by simp only [enc, kw, kws, h.wgt]
  lay := by simp only [enc, PyData.canLay0, PyData.canLayAll0, h.lay]
  bar := by
    have e : isBar (.str ("..." : Str)) = false := by decide +kernel
    simp only [enc, kq, kqs, kqT, e, Bool.not_false, Bool.true_or, h.bar]
theorem A2.snoc {α β : Type} {R : α → β → Prop} {l : List α} {m : List β} {a : α} {b : β} (h : A2 R l m) (r : R a b) : A2 R (l ++ [a]) (m ++ [b]) := h.app (.cons r .nil)
theorem A2.two {α β : Type} {R : α → β → Prop} {a b : α} {m : List β} (h : A2 R [a, b] m) : ∃ c d, m = [c, d] ∧ R a c ∧ R b d := by
  cases h with
  | cons x t =>
    cases t with
    | cons y t => cases t; exact ⟨_, _, rfl, x, y⟩
theorem A2.three {α β : Type} {R : α → β → Prop} {a b c : α} {m : List β} (h : A2 R [a, b, c] m) : ∃ d e f, m = [d, e, f] ∧ R a d ∧ R b e ∧ R c f := by
  cases h with
  | cons x t =>
    obtain ⟨d, e, rfl, y, z⟩ := t.two
    exact ⟨_, d, e, rfl, x, y, z⟩
/-! #### what the law puts into another order -/
inductive Th where
  | pt (p : P)
  | sq (ps : List P)
  | wd (s : Str)
  | no
def Th.d : Th → PyData
  | .pt p => enc p
  | .sq ps => .tuple (encs ps)
  | .wd s => .str s
  | .no => .none
def Th.ok : Th → Prop
  | .pt p => ∃ k, isK p k
  | .sq ps => ∀ p ∈ ps, ∃ k, isK p k
  | .wd _ => True
  | .no => True
def MT : Th → Th → Prop
  | .pt p, .pt q => Mx p q
  | .sq ps, .sq qs => A2 Mx ps qs
  | .wd s, .wd t => s = t
  | .no, .no => True
  | _, _ => False
def tlT : Option Str → Th
  | none => .no
  | some s => .wd s
theorem tlT_d (t : Option Str) : (tlT t).d = tlD t := by cases t <;> rfl
/-- what stands directly in a part -/
def Th.subs : P → List Th
  | .use n vs => [.wd n, .sq vs]
  | .sig i r => [.wd ("->" : Str), .pt i, .pt r]
  | .uni ms => [.wd ("|" : Str), .sq ms]
  | .row xs => [.wd ("[]" : Str), .sq xs]
  | .inp xs tl => [.wd ("()" : Str), .sq xs, tlT tl]
  | .star n => [.wd ("*" : Str), .wd n]
  | .dots t => [.wd ("..." : Str), .pt t]
  | .tail s => [.wd ("**" : Str), .wd s]
theorem subs_d (p : P) : enc p = .tuple ((Th.subs p).map Th.d) := by
  cases p with
  | inp xs tl => cases tl <;> simp [enc, Th.subs, Th.d, tlT, tlD]
  | _ => simp [enc, Th.subs, Th.d]
theorem subs_ok {p : P} {k : Nat} (h : isK p k) : ∀ z ∈ Th.subs p, z.ok := by
  have ks : ∀ {l : List P} {j : Nat}, isKs l j → ∀ q ∈ l, ∃ k, isK q k := fun h q hq => ⟨_, isKs_iff.mp h q hq⟩
  intro z hz
  cases p <;> simp only [isK] at h <;> simp only [Th.subs, List.mem_cons, List.not_mem_nil, or_false] at hz
  case use => rcases hz with rfl | rfl; exact trivial; exact ks h.2.2
  case sig => rcases hz with rfl | rfl | rfl; exact trivial; exact ⟨_, h.2.1⟩; exact ⟨_, h.2.2⟩
  case uni => rcases hz with rfl | rfl; exact trivial; exact ks h.2.2.2
  case row => rcases hz with rfl | rfl; exact trivial; exact ks h.2
  case inp xs tl => rcases hz with rfl | rfl | rfl; exact trivial; exact ks h.2.1; cases tl <;> exact trivial
  case star => rcases hz with rfl | rfl <;> exact trivial
  case dots => rcases hz with rfl | rfl; exact trivial; exact ⟨_, h.2⟩
/-- a part of the mixed things, put together again -/
theorem subs_mx {p : P} {k : Nat} (h : isK p k) (hu : isUni p = false) {zs : List Th} (m : A2 MT (Th.subs p) zs) : ∃ q, Mx p q ∧ enc q = .tuple (zs.map Th.d) := by
  have wd : ∀ {s : Str} {z : Th}, MT (.wd s) z → z = .wd s := fun {s z} h => by
    cases z with
    | wd t => rw [show s = t from h]
    | _ => exact h.elim
  have sq : ∀ {l : List P} {z : Th}, MT (.sq l) z → ∃ m, z = .sq m ∧ A2 Mx l m := fun {l z} h => by
    cases z with
    | sq t => exact ⟨t, rfl, h⟩
    | _ => exact h.elim
  have pt : ∀ {l : P} {z : Th}, MT (.pt l) z → ∃ m, z = .pt m ∧ Mx l m := fun {l z} h => by
    cases z with
    | pt t => exact ⟨t, rfl, h⟩
    | _ => exact h.elim
  cases p with
  | use n vs =>
    obtain ⟨z1, z2, rfl, a, b⟩ := m.two
    obtain rfl := wd a
    obtain ⟨l, rfl, b⟩ := sq b
    exact ⟨.use n l, .use h b, by simp [enc, Th.d]⟩
  | sig i r =>
    obtain ⟨z1, z2, z3, rfl, a, b, c⟩ := m.three
    obtain rfl := wd a
    obtain ⟨l, rfl, b⟩ := pt b
    obtain ⟨l2, rfl, c⟩ := pt c
    exact ⟨.sig l l2, .sig h b c, by simp [enc, Th.d]⟩
  | uni ms => simp [isUni] at hu
  | row xs =>
    obtain ⟨z1, z2, rfl, a, b⟩ := m.two
    obtain rfl := wd a
    obtain ⟨l, rfl, b⟩ := sq b
    exact ⟨.row l, .row h b, by simp [enc, Th.d]⟩
  | inp xs tl =>
    obtain ⟨z1, z2, z3, rfl, a, b, c⟩ := m.three
    obtain rfl := wd a
    obtain ⟨l, rfl, b⟩ := sq b
    cases tl with
    | none =>
      have : z3 = .no := by
        cases z3 with
        | no => rfl
        | _ => exact c.elim
      subst this
      exact ⟨.inp l none, .inp h b, by simp [enc, Th.d, tlD]⟩
    | some s =>
      obtain rfl := wd c
      exact ⟨.inp l (some s), .inp h b, by simp [enc, Th.d, tlD]⟩
  | star n =>
    obtain ⟨z1, z2, rfl, a, b⟩ := m.two
    obtain rfl := wd a
    obtain rfl := wd b
    exact ⟨.star n, .rf, by simp [enc, Th.d]⟩
  | dots t =>
    obtain ⟨z1, z2, rfl, a, b⟩ := m.two
    obtain rfl := wd a
    obtain ⟨l, rfl, b⟩ := pt b
    exact ⟨.dots l, .dots h b, by simp [enc, Th.d]⟩
  | tail s => simp only [isK] at h
end Gd
namespace Gd
open PySem PySem.Spec PyProof.Rows L2
theorem A2.pts : ∀ {ps : List P} {zs : List Th}, A2 MT (ps.map Th.pt) zs → ∃ qs, zs = qs.map Th.pt ∧ A2 Mx ps qs
  | [], _, h => by cases h; exact ⟨[], rfl, .nil⟩
  | p :: ps, _, h => by
    cases h with
    | cons a t =>
      obtain ⟨qs, rfl, h⟩ := A2.pts t
      rename_i z
      cases z with
      | pt q => exact ⟨q :: qs, rfl, .cons a h⟩
      | _ => exact a.elim
theorem pts_d (qs : List P) : (qs.map Th.pt).map Th.d = encs qs := by rw [List.map_map, encs_map]; rfl
theorem A2.uncons {α β : Type} {R : α → β → Prop} {a : α} {l : List α} {m : List β} (h : A2 R (a :: l) m) : ∃ b t, m = b :: t ∧ R a b ∧ A2 R l t := by
  cases h with
  | cons x t => exact ⟨_, _, rfl, x, t⟩
end Gd
namespace Gd
open PySem PySem.Spec PyProof.Rows L2
theorem erase_perm {α : Type} {q : α} : ∀ {l : List α} {k : Nat}, l[k]? = some q → (q :: l.eraseIdx k).Perm l
  | [], _, h => by simp at h
  | x :: l, 0, h => by
    simp only [List.getElem?_cons_zero, Option.some.injEq] at h
    subst h
    exact .refl _
  | x :: l, k + 1, h => by
    simp only [List.getElem?_cons_succ] at h
    rw [List.eraseIdx_cons_succ]
    exact (List.Perm.swap x q _).trans ((erase_perm h).cons x)
theorem Das.erase {H : Hp} : ∀ {vs : List V} {ds : List PyData} (k : Nat), Das H vs ds → Das H (vs.eraseIdx k) (ds.eraseIdx k)
  | _, _, _, .nil => by simp only [List.eraseIdx_nil]; exact .nil
  | _, _, 0, .cons _ t => t
  | _, _, k + 1, .cons h t => by
    simp only [List.eraseIdx_cons_succ]
    exact .cons h (Das.erase k t)
theorem encs_erase : ∀ (l : List P) (k : Nat), (encs l).eraseIdx k = encs (l.eraseIdx k)
  | [], _ => by simp [encs]
  | p :: l, 0 => by simp [encs]
  | p :: l, k + 1 => by simp [encs, encs_erase l k]
theorem seq_of {k n : Nat} (h : k < n) : seqIndex? (k : Int) n = some k := by
  refine (ixN_seq (j := k) ?_).1
  unfold ixN
  rw [if_pos (by omega)]
  simp only [Int.toNat_natCast]
  rw [if_pos (by omega)]
end Gd

namespace Gd
open PySem PySem.Spec PyProof.Rows L2
/-! ### terms that are near to others -/
theorem ljoin_Cd {dp s : Nat} {ps : List P} (h : ∀ p ∈ ps, ∃ w, Cd 0 dp w p) (hl : (ps.flatMap memb).length < 64) (hs : kws (encs (ps.flatMap memb)) ≤ s) (h1 : 1 ≤ (foundP ps).length) : Cd 0 (dp + 2) (s + 60) (ljoin ps) := by
  have hm : ∀ m ∈ ps.flatMap memb, ∃ w, Cd 4 dp w m := fun m hm => by
    obtain ⟨p, hp, hmp⟩ := List.mem_flatMap.mp hm
    obtain ⟨w, hc⟩ := h p hp
    have o := hc.ok.memb hmp
    exact ⟨w, isK_memb hc.is hmp, o.lay, o.dep, o.bar, o.wgt⟩
  have hsl : (foundP ps).Sublist (ps.flatMap memb) := by
    have := fold_sl (ps.flatMap memb) []
    simpa [foundP] using this
  have hf : ∀ m ∈ foundP ps, ∃ w, Cd 4 dp w m := fun m hx => hm m (hsl.subset hx)
  have hk2 := kws_sl hsl
  have hl2 := hsl.length_le
  have nd : ((foundP ps).map lkP).Nodup := fold_nd (ps.flatMap memb) [] (by simp)
  unfold ljoin
  split
  · rename_i p hp
    obtain ⟨w, hc⟩ := hf p (by rw [hp]; simp)
    have hw : kw (enc p) ≤ s := by
      rw [hp] at hk2
      simp only [encs, kws] at hk2
      omega
    exact ⟨isK_mem hc.is, hc.lay, Nat.le_trans hc.dep (by omega), hc.bar, by omega⟩
  · rename_i hne
    refine Cd.uni hf ?_ (by omega) nd (by omega)
    rcases hfp : foundP ps with _ | ⟨p, _ | ⟨q, r⟩⟩
    · rw [hfp] at h1; simp at h1
    · exact absurd hfp (hne p)
    · simp
theorem lsz_pos {p : P} (h : isK p 4) : 1 ≤ lsz p := by
  cases p <;> simp only [isK] at h <;> simp only [lsz]
  case use => omega
  case sig => omega
  all_goals omega
theorem lszs_len : ∀ {l : List P}, isKs l 4 → l.length ≤ lszs l
  | [], _ => by simp
  | p :: r, h => by
    simp only [isKs] at h
    have h1 := lsz_pos h.1
    have h2 := lszs_len h.2
    simp only [lszs, List.length_cons]
    omega
theorem memb_siz {p : P} {k : Nat} (h : isK p 0) : (memb p).length ≤ siz p + 1 := by
  rcases uni_or p with ⟨ms, rfl⟩ | ⟨_, e⟩
  · simp only [isK] at h
    have := lszs_len h.2.2.2
    rw [← lsz_siz]
    simp only [lsz]
    show ms.length ≤ _
    omega
  · rw [e]; simp
theorem lsz_mem {p : P} : ∀ {l : List P}, p ∈ l → lsz p ≤ lszs l
  | [], h => (List.not_mem_nil h).elim
  | q :: r, h => by
    simp only [lszs]
    rcases List.mem_cons.mp h with rfl | h
    · omega
    · have := lsz_mem h; omega
/-- what stands in a use -/
theorem Cd.in_use {k dp wt : Nat} {n : Str} {vs : List P} (h : Cd k dp wt (.use n vs)) : good n ∧ kws (encs vs) + 50 ≤ wt ∧ ∀ v ∈ vs, Cd 1 (dp - 2) (kw (enc v)) v ∧ 2 + (enc v).depth ≤ dp := by
  obtain ⟨h1, h2, h3, h4, h5⟩ := h
  simp only [isK] at h1
  simp only [enc, PyData.canLay0, PyData.canLayAll0, Bool.and_eq_true] at h2
  simp only [enc, PyData.depth, PyData.depthAll] at h3
  simp only [enc, kq_tup, kqs, Bool.and_eq_true] at h4
  simp only [enc, kw, kws] at h5
  have hl : 1 ≤ n.length := by
    have := h1.2.1.1
    have e : n.length = n.cps.toList.length := by simp [Str.length]
    rw [e]
    cases hc : n.cps.toList with
    | nil => exact absurd hc this
    | cons a b => simp
  refine ⟨h1.2.1, by omega, fun v hv => ?_⟩
  have me := mem_encs hv
  have a2 := depth_mem me
  exact ⟨⟨isKs_iff.mp h1.2.2 v hv, lay_mem h2.2.1 me, by omega, kq_mem h4.2.2.1.2 me, Nat.le_refl _⟩, by omega⟩
theorem Cd.in_row {k dp wt : Nat} {xs : List P} (h : Cd k dp wt (.row xs)) : kws (encs xs) + 60 ≤ wt ∧ 2 ≤ dp ∧ ∀ v ∈ xs, Cd 2 (dp - 2) (kw (enc v)) v := by
  obtain ⟨h1, h2, h3, h4, h5⟩ := h
  have l1 : ("[]" : Str).length = 2 := by decide +kernel
  simp only [isK] at h1
  simp only [enc, PyData.canLay0, PyData.canLayAll0, Bool.and_eq_true] at h2
  simp only [enc, PyData.depth, PyData.depthAll] at h3
  simp only [enc, kq_tup, kqs, Bool.and_eq_true] at h4
  simp only [enc, kw, kws, l1] at h5
  refine ⟨by omega, by omega, fun v hv => ?_⟩
  have me := mem_encs hv
  have a2 := depth_mem me
  exact ⟨isKs_iff.mp h1.2 v hv, lay_mem h2.2.1 me, by omega, kq_mem h4.2.2.1.2 me, Nat.le_refl _⟩
theorem Cd.in_inp {k dp wt : Nat} {xs : List P} {tl : Option Str} (h : Cd k dp wt (.inp xs tl)) : kws (encs xs) + 75 ≤ wt ∧ 2 ≤ dp ∧ tlok tl ∧ ∀ v ∈ xs, Cd 2 (dp - 2) (kw (enc v)) v := by
  obtain ⟨h1, h2, h3, h4, h5⟩ := h
  have l1 : ("()" : Str).length = 2 := by decide +kernel
  simp only [isK] at h1
  simp only [enc, PyData.canLay0, PyData.canLayAll0, Bool.and_eq_true] at h2
  simp only [enc, PyData.depth, PyData.depthAll] at h3
  simp only [enc, kq_tup, kqs, Bool.and_eq_true] at h4
  simp only [enc, kw, kws, l1] at h5
  have ht : 10 ≤ kw (tlD tl) := by cases tl <;> simp only [tlD, kw] <;> omega
  refine ⟨by omega, by omega, h1.2.2, fun v hv => ?_⟩
  have me := mem_encs hv
  have a2 := depth_mem me
  exact ⟨isKs_iff.mp h1.2.1 v hv, lay_mem h2.2.1 me, by omega, kq_mem h4.2.2.1.2 me, Nat.le_refl _⟩
theorem Cd.in_sig {k dp wt : Nat} {i r : P} (h : Cd k dp wt (.sig i r)) : kw (enc i) + kw (enc r) + 55 ≤ wt ∧ Cd 3 (dp - 1) (kw (enc i)) i ∧ Cd 0 (dp - 1) (kw (enc r)) r ∧ 1 + (enc r).depth ≤ dp ∧ 1 + (enc i).depth ≤ dp := by
  obtain ⟨h1, h2, h3, h4, h5⟩ := h
  have l1 : ("->" : Str).length = 2 := by decide +kernel
  simp only [isK] at h1
  simp only [enc, PyData.canLay0, PyData.canLayAll0, Bool.and_eq_true] at h2
  simp only [enc, PyData.depth, PyData.depthAll] at h3
  simp only [enc, kq_tup, kqs, Bool.and_eq_true] at h4
  simp only [enc, kw, kws, l1] at h5
  exact ⟨by omega, ⟨h1.2.1, h2.2.1, by omega, h4.2.2.1, Nat.le_refl _⟩, ⟨h1.2.2, h2.2.2.1, by omega, h4.2.2.2.1, Nat.le_refl _⟩, by omega, by omega⟩
theorem Cd.tight {k dp wt : Nat} {p : P} (h : Cd k dp wt p) : Cd k (enc p).depth (kw (enc p)) p := ⟨h.is, h.lay, Nat.le_refl _, h.bar, Nat.le_refl _⟩
/-- a near term -/
def Nr (p q : P) : Prop := Cd 0 ((enc p).depth + 8) (2 * kw (enc p) + 1000) q
theorem kws_rev (l : List P) : kws (encs l.reverse) = kws (encs l) := by
  rw [kws_eq, kws_eq, encs_map, encs_map, List.map_reverse, List.map_reverse, List.sum_reverse]
theorem kws_take1 (l : List P) : kws (encs (l.take 1)) ≤ kws (encs l) := kws_sl (List.take_sublist 1 l)
/-- one value of a use in the place of another -/
theorem Nr.use {dp wt at' : Nat} {n : Str} {vs : List P} {v v' : P} (h : Cd 0 dp wt (.use n vs)) (ha : vs[at']? = some v) (hv : Cd 1 ((enc (.use n vs)).depth + 6) (2 * kw (enc v) + 1000) v') : Nr (.use n vs) (.use n (vs.take at' ++ v' :: vs.drop (at' + 1))) := by
  obtain ⟨h1, h2, h3⟩ := h.tight.in_use
  have hlt := (List.getElem?_eq_some_iff.mp ha).1
  have e : kws (encs vs) = kws (encs (vs.take at')) + (kw (enc v) + 5) + kws (encs (vs.drop (at' + 1))) := by
    have e1 : vs = vs.take at' ++ v :: vs.drop (at' + 1) := by
      rw [← (List.getElem?_eq_some_iff.mp ha).2, ← List.drop_eq_getElem_cons hlt, List.take_append_drop]
    conv => lhs; rw [e1]
    rw [encs_app, kws_app]
    simp only [encs, kws]
    omega
  have := hv.wgt
  refine (Cd.use (k := 0) (dp := (enc (.use n vs)).depth + 6) (s := 2 * kws (encs vs) + 1000) (.inl rfl) h1 (fun x hx => ?_) ?_).mono (by omega) (by omega)
  · rcases List.mem_append.mp hx with hx | hx
    · exact ⟨_, (h3 x (List.mem_of_mem_take hx)).1.mono (by omega) (Nat.le_refl _)⟩
    · rcases List.mem_cons.mp hx with rfl | hx
      · exact ⟨_, hv⟩
      · exact ⟨_, (h3 x (List.mem_of_mem_drop hx)).1.mono (by omega) (Nat.le_refl _)⟩
  · rw [encs_app, kws_app]
    simp only [encs, kws]
    omega
theorem row_near {xs : List P} {dp wt : Nat} (h : Cd 1 dp wt (.row xs)) : Cd 1 dp (2 * wt) (.row (xs.reverse ++ xs.take 1)) := by
  obtain ⟨h1, h2, h3⟩ := h.in_row
  refine (Cd.row (dp := dp - 2) (s := 2 * kws (encs xs)) (fun x hx => ?_) ?_).mono (by omega) (by omega)
  · rcases List.mem_append.mp hx with hx | hx
    · exact ⟨_, h3 x (List.mem_reverse.mp hx)⟩
    · exact ⟨_, h3 x (List.mem_of_mem_take hx)⟩
  · rw [encs_app, kws_app, kws_rev]
    have := kws_take1 xs
    omega
theorem inp_near {xs : List P} {tl : Option Str} {k dp wt : Nat} (h : Cd k dp wt (.inp xs tl)) : Cd 1 dp (2 * wt) (.inp xs.reverse none) := by
  obtain ⟨h1, h2, _, h3⟩ := h.in_inp
  refine ((Cd.inp (dp := dp - 2) (s := kws (encs xs)) (tl := none) (fun x hx => ⟨_, h3 x (List.mem_reverse.mp hx)⟩) trivial ?_).inV).mono (by omega) (by omega)
  rw [kws_rev]
  exact Nat.le_refl _
theorem Nr.sig {dp wt : Nat} {xs : List P} {tl : Option Str} {r r' : P} (h : Cd 0 dp wt (.sig (.inp xs tl) r)) (hr : Nr r r') : Nr (.sig (.inp xs tl) r) (.sig (.inp (xs.drop 1) tl) r') := by
  obtain ⟨h1, h2, h3, h4, h5⟩ := h.tight.in_sig
  obtain ⟨i1, i2, i3, i4⟩ := h2.in_inp
  have a := kws_sl (List.drop_sublist 1 xs)
  have i := Cd.inp (dp := (enc (.sig (.inp xs tl) r)).depth + 5) (s := kws (encs xs)) (tl := tl) (fun x hx => ⟨_, (i4 x (List.mem_of_mem_drop hx)).mono (by omega) (Nat.le_refl _)⟩) i3 a
  exact (Cd.sig (k := 0) (dp := (enc (.sig (.inp xs tl) r)).depth + 7) (.inl rfl) i (hr.mono (by omega) (Nat.le_refl _))).mono (by omega) (by omega)
theorem memb_kws' {p : P} : kws (encs (memb p)) ≤ kw (enc p) + 5 := by
  rcases uni_or p with ⟨ms, rfl⟩ | ⟨_, e⟩
  · show kws (encs ms) ≤ _
    simp only [enc, kw, kws]
    omega
  · rw [e]
    simp only [encs, kws]
    omega
/-- a small term of its own -/
structure So (s : P) : Prop where
  cd : Cd 0 6 400 s
  nu : isUni s = false
theorem Nr.some {p s : P} (h : So s) : Nr p s := h.cd.mono (by omega) (by omega)
theorem So.memb {s : P} (h : So s) : Gd.memb s = [s] := by
  rcases uni_or s with ⟨ms, rfl⟩ | ⟨_, e⟩
  · have := h.nu; cases this
  · exact e
theorem Nr.join {dp wt : Nat} {p s : P} (h : Cd 0 dp wt p) (hs : So s) (hz : siz p ≤ 50) (h1 : 1 ≤ (foundP [p, s]).length) : Nr p (ljoin [p, s]) := by
  have a := memb_siz (k := 0) h.is
  have b := memb_kws' (p := p)
  have c := hs.cd.wgt
  refine (ljoin_Cd (dp := (enc p).depth + 6) (s := kw (enc p) + 5 + 405) (fun q hq => ?_) ?_ ?_ h1).mono (by omega) (by omega)
  · rcases List.mem_cons.mp hq with rfl | hq
    · exact ⟨_, h.tight.mono (by omega) (Nat.le_refl _)⟩
    · rw [List.mem_singleton.mp hq]
      exact ⟨_, hs.cd.mono (by omega) (Nat.le_refl _)⟩
  · simp only [List.flatMap_cons, List.flatMap_nil, List.append_nil, List.length_append, hs.memb, List.length_singleton]
    omega
  · simp only [List.flatMap_cons, List.flatMap_nil, List.append_nil, encs_app, kws_app, hs.memb, encs, kws]
    omega
theorem Cd.in_uni {k dp wt : Nat} {ms : List P} (h : Cd k dp wt (.uni ms)) : kws (encs ms) + 40 ≤ wt ∧ 2 ≤ dp ∧ 2 ≤ ms.length ∧ ∀ v ∈ ms, Cd 4 (dp - 2) (kw (enc v)) v := by
  obtain ⟨h1, h2, h3, h4, h5⟩ := h
  have l1 : ("|" : Str).length = 1 := by decide +kernel
  simp only [isK] at h1
  simp only [enc, PyData.canLay0, PyData.canLayAll0, Bool.and_eq_true] at h2
  simp only [enc, PyData.depth, PyData.depthAll] at h3
  simp only [enc, kq_tup, kqs, Bool.and_eq_true] at h4
  simp only [enc, kw, kws, l1] at h5
  refine ⟨by omega, by omega, h1.2.1, fun v hv => ?_⟩
  have me := mem_encs hv
  have a2 := depth_mem me
  exact ⟨isKs_iff.mp h1.2.2.2 v hv, lay_mem h2.2.1 me, by omega, kq_mem h4.2.2.1.2 me, Nat.le_refl _⟩
theorem memb4 {m : P} (h : isK m 4) : memb m = [m] := by
  rcases uni_or m with ⟨ms, rfl⟩ | ⟨_, e⟩
  · simp only [isK] at h
    omega
  · exact e
theorem Cd.of4 {dp wt : Nat} {p : P} (h : Cd 4 dp wt p) : Cd 0 dp wt p := ⟨isK_mem h.is, h.lay, h.dep, h.bar, h.wgt⟩
theorem flat4 : ∀ {l : List P}, (∀ m ∈ l, isK m 4) → l.flatMap memb = l
  | [], _ => rfl
  | m :: l, h => by rw [List.flatMap_cons, memb4 (h m List.mem_cons_self), flat4 fun x hx => h x (List.mem_cons_of_mem m hx)]; rfl
theorem Nr.join1 {dp wt : Nat} {ms : List P} {s : P} (h : Cd 0 dp wt (.uni ms)) (hs : So s) (hz : siz (.uni ms) ≤ 50) (h1 : 1 ≤ (foundP (ms.drop 1 ++ [s])).length) : Nr (.uni ms) (ljoin (ms.drop 1 ++ [s])) ∧ ((ms.drop 1 ++ [s]).flatMap memb).length ≤ 60 := by
  have a := memb_siz (k := 0) h.is
  obtain ⟨i1, i2, _, i3⟩ := h.tight.in_uni
  have c := hs.cd.wgt
  have e : (ms.drop 1 ++ [s]).flatMap memb = ms.drop 1 ++ [s] := by
    rw [List.flatMap_append, flat4 fun m hm => (i3 m (List.mem_of_mem_drop hm)).is]
    simp [hs.memb]
  have l : (ms.drop 1).length ≤ ms.length := (List.drop_sublist 1 ms).length_le
  have a' : ms.length ≤ siz (.uni ms) + 1 := a
  have b := kws_sl (List.drop_sublist 1 ms)
  refine ⟨(ljoin_Cd (dp := (enc (.uni ms)).depth + 6) (s := kw (enc (.uni ms)) + 405) (fun q hq => ?_) ?_ ?_ h1).mono (by omega) (by omega), ?_⟩
  · rcases List.mem_append.mp hq with hq | hq
    · exact ⟨_, (i3 q (List.mem_of_mem_drop hq)).of4.mono (by omega) (Nat.le_refl _)⟩
    · rw [List.mem_singleton.mp hq]
      exact ⟨_, hs.cd.mono (by omega) (Nat.le_refl _)⟩
  · rw [e, List.length_append, List.length_singleton]; omega
  · rw [e, encs_app, kws_app]
    simp only [encs, kws]
    omega
  · rw [e, List.length_append, List.length_singleton]; omega
theorem no_all {α : Type} {p : α → Prop} : ∀ v ∈ ([] : List α), p v := fun v hv => (List.not_mem_nil hv).elim
theorem So.use0 {n : Str} (h : good n) : So (.use n []) := ⟨(Cd.use (k := 0) (dp := 0) (s := 0) (vs := []) (.inl rfl) h no_all (by simp [encs, kws])).mono (by omega) (by omega), rfl⟩
theorem So.row0 {n : Str} (h : good n) : So (.use n [.row []]) := by
  have l1 : ("[]" : Str).length = 2 := by decide +kernel
  have hr : Cd 1 2 60 (.row []) := (Cd.row (dp := 0) (s := 0) (xs := []) no_all (by simp [encs, kws])).mono (by omega) (by omega)
  exact ⟨(Cd.use (k := 0) (dp := 2) (s := 70) (vs := [.row []]) (.inl rfl) h (fun v hv => by rw [List.mem_singleton.mp hv]; exact ⟨60, hr⟩) (by simp only [encs, enc, kws, kw, l1]; omega)).mono (by omega) (by omega), rfl⟩
theorem So.row1 {n m : Str} (h : good n) (hm : good m) : So (.use n [.row [.use m []]]) := by
  have h1 := (So.use0 hm).cd
  have e : kw (enc (.use m [])) ≤ 110 := by have := hm.2.1; simp only [enc, encs, kw, kws]; omega
  have c : Cd 2 2 110 (.use m []) := ⟨by simp only [isK, isKs]; exact ⟨by decide, hm, trivial⟩, h1.lay, by simp [enc, encs, PyData.depth, PyData.depthAll], h1.bar, e⟩
  have hr : Cd 1 4 (115 + 60) (.row [.use m []]) := Cd.row (dp := 2) (s := 115) (fun v hv => by rw [List.mem_singleton.mp hv]; exact ⟨110, c⟩) (by simp only [encs, kws]; omega)
  have hw := hr.wgt
  exact ⟨(Cd.use (k := 0) (dp := 4) (s := 180) (.inl rfl) h (fun v hv => by rw [List.mem_singleton.mp hv]; exact ⟨_, hr⟩) (by simp only [encs, kws]; omega)).mono (by omega) (by omega), rfl⟩
section
variable {H : Hp} {Q : VK} {K : PySem.W.Frag}
theorem r_slA {a : Addr} {xs : List V} {lo hi : Option Int} (h : H a = some (.tup xs)) (q : ∀ p H2, Up H H2 → H2 p = some (.tup (cutV xs lo hi)) → Q (.ref p) H2) : rSlA K (.ref a) lo hi H Q := by
  refine ⟨a, xs, rfl, SqT.of h, fun z => ?_, fun _ p hp => q p _ (Up.new hp) upd_same⟩
  have e : cutV xs lo hi = xs := by
    unfold cutV
    rw [z.1, z.2]
    simp
  exact q a H Up.rf (by rw [e]; exact h)
theorem cut_from {xs : List V} {k : Nat} : cutV xs (some (k : Int)) none = xs.drop k := by
  unfold cutV
  rw [HT.sIx_nat]
  show (xs.drop (min k xs.length)).take (xs.length - min k xs.length) = _
  by_cases c : k ≤ xs.length
  · rw [Nat.min_eq_left c, List.take_of_length_le (by rw [List.length_drop]; omega)]
  · rw [Nat.min_eq_right (by omega), List.drop_of_length_le (by omega : xs.length ≤ k), List.drop_length]
    simp
theorem cut_to {xs : List V} {k : Nat} : cutV xs none (some (k : Int)) = xs.take k := by
  unfold cutV
  rw [HT.sIx_nat]
  show (xs.drop 0).take (min k xs.length - 0) = _
  rw [List.drop_zero, Nat.sub_zero]
  by_cases c : k ≤ xs.length
  · rw [Nat.min_eq_left c]
  · rw [Nat.min_eq_right (by omega), List.take_length, List.take_of_length_le (by omega)]
theorem r_ni2L {p : Addr} {a b s : Str} (h : H p = some (.lst [.str a, .str b])) (q : Q (.bl (!(decide (s = a) || decide (s = b)))) H) : rIn K true (.str s) (.ref p) H Q :=
  ⟨p, _, rfl, Or.inl (SqL.of h), rfl, rfl, by
    have e : inV (.str s) [.str a, .str b] = (decide (s = a) || decide (s = b)) := by simp only [inV, List.any_cons, List.any_nil, eqV_str, Bool.or_false]
    simp only [if_true]
    rw [e]; exact q⟩
theorem Das.take {H : Hp} : ∀ {vs : List V} {ds : List PyData} (k : Nat), Das H vs ds → Das H (vs.take k) (ds.take k)
  | _, _, 0, _ => by simp only [List.take_zero]; exact .nil
  | _, _, k + 1, .nil => .nil
  | _, _, k + 1, .cons h t => .cons h (Das.take k t)
theorem Das.drop {H : Hp} : ∀ {vs : List V} {ds : List PyData} (k : Nat), Das H vs ds → Das H (vs.drop k) (ds.drop k)
  | _, _, 0, h => by simp only [List.drop_zero]; exact h
  | _, _, k + 1, .nil => .nil
  | _, _, k + 1, .cons _ t => Das.drop k t
theorem encs_take (l : List P) (k : Nat) : (encs l).take k = encs (l.take k) := by rw [encs_map, encs_map, List.map_take]
theorem encs_drop (l : List P) (k : Nat) : (encs l).drop k = encs (l.drop k) := by rw [encs_map, encs_map, List.map_drop]
theorem encs_rev (l : List P) : (encs l).reverse = encs l.reverse := by rw [encs_map, encs_map, List.map_reverse]
end
end Gd
namespace Gd
open PySem PySem.Spec PyProof.Rows L2
theorem hd_val {p : P} (h : isK p 1) : (∃ xs, p = .row xs) ∨ (∃ xs tl, p = .inp xs tl) ∨ (decide (hd p = ("[]" : Str)) = false ∧ decide (hd p = ("()" : Str)) = false ∧ isK p 0) := by
  cases p with
  | row xs => exact Or.inl ⟨_, rfl⟩
  | inp xs tl => exact Or.inr (Or.inl ⟨_, _, rfl⟩)
  | use n vs =>
    simp only [isK] at h
    refine Or.inr (Or.inr ⟨h.2.1.apart.f, h.2.1.apart.e, ?_⟩)
    simp only [isK]
    exact ⟨by decide, h.2.1, h.2.2⟩
  | sig i r =>
    refine Or.inr (Or.inr ⟨by show decide (("->" : Str) = ("[]" : Str)) = false; decide +kernel, by show decide (("->" : Str) = ("()" : Str)) = false; decide +kernel, ?_⟩)
    simp only [isK] at h ⊢
    exact ⟨by decide, h.2.1, h.2.2⟩
  | uni ms =>
    refine Or.inr (Or.inr ⟨by show decide (("|" : Str) = ("[]" : Str)) = false; decide +kernel, by show decide (("|" : Str) = ("()" : Str)) = false; decide +kernel, ?_⟩)
    simp only [isK] at h ⊢
    exact ⟨by decide, h.2.1, h.2.2.1, h.2.2.2⟩
  | star n => simp [isK] at h
  | dots t => simp [isK] at h
  | tail s => simp [isK] at h
theorem r_andB {A B : TT} {σ : L2.St} {H : Hp} {R : Bool → Hp → Prop} {b1 b2 : Bool} (h1 : ∀ R' : Bool → Hp → Prop, R' b1 H → A σ H R') (h2 : ∀ R' : Bool → Hp → Prop, (∀ H2, Up H H2 → R' b2 H2) → B σ H R') (q : ∀ H2, Up H H2 → R (b1 && b2) H2) : tAnd A B σ H R := by
  refine r_and (h1 _ ?_)
  cases b1 with
  | true =>
    rw [if_pos rfl]
    exact h2 _ fun H2 u2 => q H2 u2
  | false =>
    rw [if_neg (by decide)]
    exact q H Up.rf
end Gd
namespace Gd
open PySem PySem.Spec PyProof.Rows L2
theorem kws_ge : ∀ l : List P, 30 * l.length ≤ kws (encs l)
  | [] => by simp
  | p :: r => by
    have := kws_ge r
    simp only [encs, kws, List.length_cons]
    rw [enc_eq, kw_tup]
    simp only [kws, kw]
    omega
end Gd

namespace Gd
open PySem PySem.Spec PyProof.Rows L2
/-! ### what every part of a drawn term keeps -/
theorem kq_enc (p : P) : kq (enc p) = (kqT (.str (hd p) :: sec p :: more p) && (kq (sec p) && kqs (more p))) := by
  rw [enc_eq, kq_tup]
  simp only [kqs, kq, Bool.true_and]
mutual
theorem uni_pre : ∀ (p : P), kq (enc p) = true → ∀ q ∈ pre p, isUni q = true → (parts q).length < 64
  | .use n vs, h, q, hq, hu => by
    simp only [pre, List.mem_cons] at hq
    simp only [enc, kq_tup, kqs, Bool.and_eq_true] at h
    rcases hq with rfl | hq
    · simp [isUni] at hu
    · exact unis_pre vs h.2.2.1.2 q hq hu
  | .sig i r, h, q, hq, hu => by
    simp only [pre, List.mem_cons, List.mem_append] at hq
    simp only [enc, kq_tup, kqs, Bool.and_eq_true] at h
    rcases hq with rfl | hq | hq
    · simp [isUni] at hu
    · exact uni_pre i h.2.2.1 q hq hu
    · exact uni_pre r h.2.2.2.1 q hq hu
  | .uni ms, h, q, hq, hu => by
    simp only [pre, List.mem_cons] at hq
    simp only [enc, kq_tup, kqs, kqT_cons, barM, Bool.and_eq_true] at h
    rcases hq with rfl | hq
    · have e : isBar (.str ("|" : Str)) = true := by decide +kernel
      rw [e, encs_len] at h
      have := h.1
      simp only [Bool.not_true, Bool.false_or, decide_eq_true_eq] at this
      exact this
    · exact unis_pre ms h.2.2.1.2 q hq hu
  | .row xs, h, q, hq, hu => by
    simp only [pre, List.mem_cons] at hq
    simp only [enc, kq_tup, kqs, Bool.and_eq_true] at h
    rcases hq with rfl | hq
    · simp [isUni] at hu
    · exact unis_pre xs h.2.2.1.2 q hq hu
  | .inp xs tl, h, q, hq, hu => by
    simp only [pre, List.mem_cons, List.mem_append] at hq
    simp only [enc, kq_tup, kqs, Bool.and_eq_true] at h
    rcases hq with rfl | hq | hq
    · simp [isUni] at hu
    · exact unis_pre xs h.2.2.1.2 q hq hu
    · cases tl with
      | none => simp [tails] at hq
      | some s =>
        simp only [tails, List.mem_singleton] at hq
        subst hq
        simp [isUni] at hu
  | .star n, h, q, hq, hu => by
    simp only [pre, List.mem_singleton] at hq
    subst hq
    simp [isUni] at hu
  | .dots t, h, q, hq, hu => by
    simp only [pre, List.mem_cons] at hq
    simp only [enc, kq_tup, kqs, Bool.and_eq_true] at h
    rcases hq with rfl | hq
    · simp [isUni] at hu
    · exact uni_pre t h.2.2.1 q hq hu
  | .tail s, h, q, hq, hu => by
    simp only [pre, List.mem_singleton] at hq
    subst hq
    simp [isUni] at hu
theorem unis_pre : ∀ (l : List P), kqs (encs l) = true → ∀ q ∈ pres l, isUni q = true → (parts q).length < 64
  | [], _, q, hq, _ => by simp [pres] at hq
  | p :: l, h, q, hq, hu => by
    simp only [pres, List.mem_append] at hq
    simp only [encs, kqs, Bool.and_eq_true] at h
    rcases hq with hq | hq
    · exact uni_pre p h.1 q hq hu
    · exact unis_pre l h.2 q hq hu
end
theorem Cd.hokU {k dp wt : Nat} {p : P} (h : Cd k dp wt p) (hw : wt ≤ 90000) : ∀ q ∈ pre p, hokU q := fun q hq =>
  ⟨isK_pre p k h.is q hq, uni_pre p h.bar q hq, Nat.le_trans (kw_pre p q hq) (Nat.le_trans h.wgt hw)⟩
section
variable {H : Hp} {Q : VK} {K : PySem.W.Frag}
theorem r_neB {i j : Bool} (q : Q (.bl (!decide (i = j))) H) : rNe (.bl i) (.bl j) H Q := ⟨rfl, by
  have e : decide (V.bl i = V.bl j) = decide (i = j) := by
    by_cases c : i = j
    · subst c; simp
    · simp [c]
  rw [e]; exact q⟩
theorem r_isB {i j : Bool} (q : Q (.bl (decide (i = j))) H) : L2.rIsB (.bl i) (.bl j) H Q := ⟨i, j, rfl, rfl, q⟩
theorem r_notB {i j : Bool} (q : Q (.bl (!decide (i = j))) H) : L2.rNotB (.bl i) (.bl j) H Q := ⟨i, j, rfl, rfl, q⟩
/-- repr of a list of two truths -/
theorem r_repr2 {a : Addr} {x y : Bool} (h : H a = some (.lst [.bl x, .bl y])) (q : Q (.str (PyData.shown (.list [.bool x, .bool y]))) H) : rRepr K [.ref a] H Q := by
  refine ⟨_, .list [.bool x, .bool y], rfl, .lst (SqL.of h) (.cons (.bl x) (.cons (.bl y) .nil)), rfl, by simp [PyData.depth, PyData.depthAll], ?_, q⟩
  cases x <;> cases y <;> decide +kernel
end
end Gd
namespace Gd
open PySem PySem.Spec PyProof.Rows L2
/-! ### the terms directly in a term -/
def argP : P → List P
  | .use _ vs => vs
  | .sig i r => [i, r]
  | .uni ms => ms
  | _ => []
def inn : P → List P
  | .row xs => xs
  | .inp xs _ => xs
  | p => [p]
def one1 : P → List P
  | .dots t => [t]
  | .star _ => []
  | p => [p]
def tin (p : P) : List P := (argP p).flatMap fun q => (inn q).flatMap one1
theorem argP_K {p q : P} {k : Nat} (h : isK p k) (hq : q ∈ argP p) : ∃ j, isK q j := by
  cases p with
  | use n vs => simp only [isK] at h; exact ⟨_, isKs_iff.mp h.2.2 q hq⟩
  | sig i r =>
    simp only [isK] at h
    rcases List.mem_cons.mp hq with rfl | hq
    · exact ⟨_, h.2.1⟩
    · rw [List.mem_singleton.mp hq]; exact ⟨_, h.2.2⟩
  | uni ms => simp only [isK] at h; exact ⟨_, isKs_iff.mp h.2.2.2 q hq⟩
  | _ => exact (List.not_mem_nil hq).elim
theorem inn_or {q : P} {k : Nat} (h : isK q k) : (isNd q = false ∧ sec q = .tuple (encs (inn q)) ∧ ∀ x ∈ inn q, ∃ j, isK x j) ∨ (isNd q = true ∧ inn q = [q]) := by
  cases q with
  | row xs => simp only [isK] at h; exact Or.inl ⟨rfl, rfl, fun x hx => ⟨_, isKs_iff.mp h.2 x hx⟩⟩
  | inp xs tl => simp only [isK] at h; exact Or.inl ⟨rfl, rfl, fun x hx => ⟨_, isKs_iff.mp h.2.1 x hx⟩⟩
  | _ => exact Or.inr ⟨rfl, rfl⟩
theorem arg_or {p : P} (h : isK p 0) : (∃ i r, p = .sig i r) ∨ (decide (hd p = ("->" : Str)) = false ∧ sec p = .tuple (encs (argP p))) := by
  cases p with
  | use n vs => simp only [isK] at h; exact Or.inr ⟨h.2.1.apart.c, rfl⟩
  | sig i r => exact Or.inl ⟨_, _, rfl⟩
  | uni ms => exact Or.inr ⟨by show decide (("|" : Str) = ("->" : Str)) = false; decide +kernel, rfl⟩
  | _ => simp [isK] at h
theorem one_or {x : P} {k : Nat} (h : isK x k) : (∃ t, x = .dots t) ∨ (∃ n, x = .star n) ∨ (decide (hd x = ("..." : Str)) = false ∧ decide (hd x = ("*" : Str)) = false ∧ one1 x = [x]) := by
  cases x with
  | dots t => exact Or.inl ⟨_, rfl⟩
  | star n => exact Or.inr (Or.inl ⟨_, rfl⟩)
  | use n vs => simp only [isK] at h; exact Or.inr (Or.inr ⟨h.2.1.apart.d, h.2.1.apart.a, rfl⟩)
  | sig i r => exact Or.inr (Or.inr ⟨by show decide (("->" : Str) = ("..." : Str)) = false; decide +kernel, by show decide (("->" : Str) = ("*" : Str)) = false; decide +kernel, rfl⟩)
  | uni ms => exact Or.inr (Or.inr ⟨by show decide (("|" : Str) = ("..." : Str)) = false; decide +kernel, by show decide (("|" : Str) = ("*" : Str)) = false; decide +kernel, rfl⟩)
  | row ms => exact Or.inr (Or.inr ⟨by show decide (("[]" : Str) = ("..." : Str)) = false; decide +kernel, by show decide (("[]" : Str) = ("*" : Str)) = false; decide +kernel, rfl⟩)
  | inp ms t => exact Or.inr (Or.inr ⟨by show decide (("()" : Str) = ("..." : Str)) = false; decide +kernel, by show decide (("()" : Str) = ("*" : Str)) = false; decide +kernel, rfl⟩)
  | tail s => simp [isK] at h
/-- a part's key is shorter -/
theorem key_lt_join {x : Str} {ks : List Str} (a : Str) (h : x ∈ ks) : x.length < (a ++ ("[" : Str) ++ Txt.join ("," : Str) ks ++ ("]" : Str)).length := by
  have := TL.join_eq ("," : Str) ks
  rw [this]
  have j := join_mem_le ("," : Str) ks x h
  simp only [slen_app, l_o, l_c]
  omega
theorem kc_part {p q : P} (h : q ∈ parts p) : (kc q).length < (kc p).length := by
  have hm : ∀ {l : List P}, q ∈ l → kc q ∈ kcs l := fun h => by rw [kcs_map]; exact List.mem_map.mpr ⟨q, h, rfl⟩
  cases p with
  | use n vs => rw [kc]; exact key_lt_join _ (hm h)
  | sig i r =>
    rw [kc.eq_2]
    refine key_lt_join _ ?_
    rcases List.mem_cons.mp h with rfl | h
    · simp
    · rw [List.mem_singleton.mp h]; simp
  | uni ms => rw [kc.eq_3]; exact key_lt_join _ (mem_ssort.mpr (hm h))
  | row xs => rw [kc.eq_4]; exact key_lt_join _ (hm h)
  | inp xs tl =>
    rw [kc.eq_5]
    refine key_lt_join _ ?_
    rcases List.mem_append.mp h with h | h
    · exact List.mem_append_left _ (hm h)
    · cases tl with
      | none => simp [tails] at h
      | some s =>
        simp only [tails, List.mem_singleton] at h
        subst h
        simp [tlk, kc]
  | star n => simp [parts] at h
  | dots t =>
    rw [kc.eq_7]
    refine key_lt_join _ ?_
    simp only [parts, List.mem_singleton] at h
    subst h
    simp
  | tail s => simp [parts] at h
theorem tin_lt {p t : P} (h : t ∈ tin p) : (kc t).length < (kc p).length := by
  obtain ⟨q, hq, ht⟩ := List.mem_flatMap.mp h
  obtain ⟨x, hx, hy⟩ := List.mem_flatMap.mp ht
  have h1 : q ∈ parts p := by cases p <;> first | exact hq | exact (List.not_mem_nil hq).elim
  have h2 : x = q ∨ x ∈ parts q := by
    cases q <;> first
      | exact Or.inl (List.mem_singleton.mp hx)
      | exact Or.inr hx
      | exact Or.inr (List.mem_append_left _ hx)
  have h3 : t = x ∨ t ∈ parts x := by
    cases x <;> first
      | exact Or.inl (List.mem_singleton.mp hy)
      | exact Or.inr hy
      | exact (List.not_mem_nil hy).elim
  have a := kc_part h1
  have b : (kc x).length ≤ (kc q).length := by
    rcases h2 with rfl | h2
    · exact Nat.le_refl _
    · exact Nat.le_of_lt (kc_part h2)
  have c : (kc t).length ≤ (kc x).length := by
    rcases h3 with rfl | h3
    · exact Nat.le_refl _
    · exact Nat.le_of_lt (kc_part h3)
  omega
end Gd
namespace Gd
open PySem PySem.Spec PyProof.Rows L2
theorem one1_len (x : P) : (one1 x).length ≤ 1 := by cases x <;> simp [one1]
theorem flat_one : ∀ l : List P, (l.flatMap one1).length ≤ l.length
  | [] => by simp
  | x :: r => by
    have a := one1_len x
    have b := flat_one r
    rw [List.flatMap_cons, List.length_append, List.length_cons]
    omega
theorem inn_len (q : P) : (inn q).length ≤ (pre q).length := by
  rw [pre_eq]
  have h := pres_len (parts q)
  cases q with
  | row xs => simp only [inn, parts, List.length_cons] at h ⊢; omega
  | inp xs tl => simp only [inn, parts, List.length_cons, List.length_append] at h ⊢; omega
  | _ => simp [inn]
theorem tin_flat : ∀ l : List P, (l.flatMap fun q => (inn q).flatMap one1).length ≤ (pres l).length
  | [] => by simp
  | q :: r => by
    have a := flat_one (inn q)
    have b := inn_len q
    have c := tin_flat r
    rw [List.flatMap_cons, List.length_append]
    simp only [pres, List.length_append]
    omega
theorem tin_len (p : P) : (tin p).length ≤ (pre p).length := by
  have h := tin_flat (argP p)
  unfold tin
  have e : (pres (argP p)).length ≤ (pre p).length := by
    cases p <;> simp [argP, pre, pres]
  omega
theorem flat_take {f : P → List P} {l : List P} {i : Nat} : ((l.take i).flatMap f).length ≤ (l.flatMap f).length := by
  have := congrArg (fun m : List P => (m.flatMap f).length) (List.take_append_drop i l)
  simp only [List.flatMap_append, List.length_append] at this
  omega
end Gd

namespace Gd
open PySem PySem.Spec PyProof.Rows L2
/-! ### the terms in a term -/
theorem Cd.in_dots {k dp wt : Nat} {t : P} (h : Cd k dp wt (.dots t)) : Cd 0 dp wt t := by
  obtain ⟨h1, h2, h3, h4, h5⟩ := h
  simp only [isK] at h1
  simp only [enc, PyData.canLay0, PyData.canLayAll0, Bool.and_eq_true] at h2
  simp only [enc, PyData.depth, PyData.depthAll] at h3
  simp only [enc, kq_tup, kqs, Bool.and_eq_true] at h4
  simp only [enc, kw, kws] at h5
  exact ⟨h1.2, h2.2.1, by omega, h4.2.2.1, by omega⟩
theorem Cd.item {dp wt : Nat} {x t : P} (h : Cd 2 dp wt x) (ht : t ∈ one1 x) : Cd 0 dp wt t := by
  have hi := h.is
  cases x with
  | dots s => simp only [one1, List.mem_singleton] at ht; subst ht; exact h.in_dots
  | star n => exact (List.not_mem_nil ht).elim
  | row xs => simp [isK] at hi
  | inp xs tl => simp [isK] at hi
  | tail s => simp [isK] at hi
  | use n vs => simp only [one1, List.mem_singleton] at ht; subst ht; exact ⟨by simp only [isK] at hi ⊢; exact ⟨by first | exact .inl rfl | simp, hi.2⟩, h.lay, h.dep, h.bar, h.wgt⟩
  | sig i r => simp only [one1, List.mem_singleton] at ht; subst ht; exact ⟨by simp only [isK] at hi ⊢; exact ⟨by first | exact .inl rfl | simp, hi.2⟩, h.lay, h.dep, h.bar, h.wgt⟩
  | uni ms => simp only [one1, List.mem_singleton] at ht; subst ht; exact ⟨by simp only [isK] at hi ⊢; exact ⟨by first | exact .inl rfl | simp, hi.2⟩, h.lay, h.dep, h.bar, h.wgt⟩
theorem kw_in {x : P} {l : List P} (h : x ∈ l) : kw (enc x) ≤ kws (encs l) := by
  induction l with
  | nil => exact (List.not_mem_nil h).elim
  | cons a r ih =>
    simp only [encs, kws]
    rcases List.mem_cons.mp h with rfl | h
    · omega
    · have := ih h; omega
theorem Cd.arg {j dp wt : Nat} {q t : P} (h : Cd j dp wt q) (hj : j ≠ 2) (ht : t ∈ (inn q).flatMap one1) : Cd 0 dp wt t := by
  have hi := h.is
  obtain ⟨x, hx, hy⟩ := List.mem_flatMap.mp ht
  cases q with
  | row xs =>
    obtain ⟨a, b, c⟩ := h.in_row
    have := kw_in hx
    exact ((c x hx).item hy).mono (by omega) (by simp only [inn] at this; omega)
  | inp xs tl =>
    obtain ⟨a, b, _, c⟩ := h.in_inp
    have := kw_in hx
    exact ((c x hx).item hy).mono (by omega) (by simp only [inn] at this; omega)
  | dots s => simp only [isK] at hi; exact absurd hi.1 hj
  | star n => simp only [isK] at hi; exact absurd hi.1 hj
  | tail s => simp [isK] at hi
  | use n vs =>
    simp only [inn, List.mem_singleton] at hx; subst hx
    simp only [one1, List.mem_singleton] at hy; subst hy; exact ⟨by simp only [isK] at hi ⊢; exact ⟨by first | exact .inl rfl | simp, hi.2⟩, h.lay, h.dep, h.bar, h.wgt⟩
  | sig i r =>
    simp only [inn, List.mem_singleton] at hx; subst hx
    simp only [one1, List.mem_singleton] at hy; subst hy; exact ⟨by simp only [isK] at hi ⊢; exact ⟨by first | exact .inl rfl | simp, hi.2⟩, h.lay, h.dep, h.bar, h.wgt⟩
  | uni ms =>
    simp only [inn, List.mem_singleton] at hx; subst hx
    simp only [one1, List.mem_singleton] at hy; subst hy; exact ⟨by simp only [isK] at hi ⊢; exact ⟨by first | exact .inl rfl | simp, hi.2⟩, h.lay, h.dep, h.bar, h.wgt⟩
theorem Cd.tin {dp wt : Nat} {p t : P} (h : Cd 0 dp wt p) (ht : t ∈ tin p) : Cd 0 dp wt t := by
  have hi := h.is
  obtain ⟨q, hq, hu⟩ := List.mem_flatMap.mp ht
  clear ht
  cases p with
  | use n vs =>
    obtain ⟨_, b, c⟩ := h.in_use
    have := kw_in (l := vs) hq
    exact ((c q hq).1.arg (by decide) hu).mono (by omega) (by omega)
  | sig i r =>
    obtain ⟨b, c, d, _⟩ := h.in_sig
    rcases List.mem_cons.mp hq with rfl | hq
    · exact (c.arg (by decide) hu).mono (by omega) (by omega)
    · rw [List.mem_singleton.mp hq] at hu; exact (d.arg (by decide) hu).mono (by omega) (by omega)
  | uni ms =>
    obtain ⟨b, _, _, c⟩ := h.in_uni
    have := kw_in (l := ms) hq
    exact ((c q hq).arg (by decide) hu).mono (by omega) (by omega)
  | _ => exact (List.not_mem_nil hq).elim
theorem Cd.argw {dp wt : Nat} {p q : P} (h : Cd 0 dp wt p) (hq : q ∈ argP p) : kw (enc q) ≤ wt := by
  have hi := h.is
  cases p with
  | use n vs =>
    obtain ⟨_, b, c⟩ := h.in_use
    have := kw_in (l := vs) hq
    omega
  | sig i r =>
    obtain ⟨b, c, d, _⟩ := h.in_sig
    rcases List.mem_cons.mp hq with rfl | hq
    · omega
    · rw [List.mem_singleton.mp hq]; omega
  | uni ms =>
    obtain ⟨b, _, _, c⟩ := h.in_uni
    have := kw_in (l := ms) hq
    omega
  | _ => exact (List.not_mem_nil hq).elim
/-- a list of terms -/
def Got (H : Hp) (s : Addr) (ps : List P) : Prop := ∃ xs, H s = some (.lst xs) ∧ Das H xs (encs ps) ∧ ∀ p ∈ ps, Cd 0 40 90000 p
theorem Got.up {H H' : Hp} {s : Addr} {ps : List P} (h : Got H s ps) (u : Up H H') : Got H' s ps := by
  obtain ⟨xs, a, b, c⟩ := h
  exact ⟨xs, u _ _ a, b.up u, c⟩
theorem Got.mv {H H' : Hp} {s b : Addr} {ps : List P} (h : Got H s ps) (hb : Tk H H') (n : s ≠ b) (m : Mv b H H') : Got H' s ps := by
  obtain ⟨xs, a, c, d⟩ := h
  exact ⟨xs, m _ _ n a, c.tk hb, d⟩
theorem Got.snoc {H : Hp} {s : Addr} {xs : List V} {ps : List P} (a : H s = some (.lst xs)) (b : Das H xs (encs ps)) (c : ∀ p ∈ ps, Cd 0 40 90000 p) : Got H s ps := ⟨xs, a, b, c⟩
theorem das_at {H : Hp} {xs : List V} {ps : List P} {i : Nat} {x : V} (h : Das H xs (encs ps)) (e : xs[i]? = some x) : ∃ p, ps[i]? = some p ∧ Da H x (enc p) := by
  obtain ⟨d, hd, dd⟩ := h.at e
  rw [encs_map, List.getElem?_map] at hd
  obtain ⟨p, hp, rfl⟩ := Option.map_eq_some_iff.mp hd
  exact ⟨p, hp, dd⟩
theorem das_len {H : Hp} {xs : List V} {ps : List P} (h : Das H xs (encs ps)) : xs.length = ps.length := by
  have := h.length
  rwa [encs_map, List.length_map] at this
theorem tin_keys {p : P} : decide (kc p ∈ (tin p).map kc) = false := by
  refine decide_eq_false fun h => ?_
  obtain ⟨t, ht, e⟩ := List.mem_map.mp h
  have := tin_lt ht
  rw [e] at this
  omega
/-! ### keys have small signs -/
theorem sok_app {a b : Str} (ha : PyData.strOk a = true) (hb : PyData.strOk b = true) : PyData.strOk (a ++ b) = true := by
  unfold PyData.strOk at *
  show (a.cps ++ b.cps).all _ = true
  rw [Array.all_append, ha, hb]
  rfl
theorem sok_join {z : Str} (hz : PyData.strOk z = true) : ∀ ks : List Str, (∀ k ∈ ks, PyData.strOk k = true) → PyData.strOk (Txt.join z ks) = true := by
  intro ks
  rw [TL.join_eq]
  induction ks with
  | nil => intro _; unfold Str.join; decide +kernel
  | cons x r ih =>
    intro h
    cases r with
    | nil => exact h x List.mem_cons_self
    | cons y r => exact sok_app (sok_app (h x List.mem_cons_self) hz) (ih fun k hk => h k (List.mem_cons_of_mem _ hk))
theorem sok_key {a : Str} {ks : List Str} (ha : PyData.strOk a = true) (h : ∀ k ∈ ks, PyData.strOk k = true) : PyData.strOk (a ++ ("[" : Str) ++ Txt.join ("," : Str) ks ++ ("]" : Str)) = true :=
  sok_app (sok_app (sok_app ha (by decide +kernel)) (sok_join (by decide +kernel) ks h)) (by decide +kernel)
theorem sok_tail {tl : Option Str} (h : tlok tl) : ∀ k ∈ tlk tl, PyData.strOk k = true := by
  intro k hk
  cases tl with
  | none => simp [tlk] at hk
  | some s =>
    simp only [tlk, List.mem_singleton] at hk
    subst hk
    rcases h with rfl | h
    · decide +kernel
    · exact sok_app (by decide +kernel) (good_lay h)
mutual
theorem kc_sok : ∀ (p : P) (k : Nat), isK p k → PyData.strOk (kc p) = true
  | .use n vs, k, h => by simp only [isK] at h; rw [kc]; exact sok_key (good_lay h.2.1) (kcs_sok vs 1 h.2.2)
  | .sig i r, k, h => by
    simp only [isK] at h; rw [kc.eq_2]
    refine sok_key (by decide +kernel) fun k hk => ?_
    rcases List.mem_cons.mp hk with rfl | hk
    · exact kc_sok i 3 h.2.1
    · rw [List.mem_singleton.mp hk]; exact kc_sok r 0 h.2.2
  | .uni ms, k, h => by simp only [isK] at h; rw [kc.eq_3]; exact sok_key (by decide +kernel) fun k hk => kcs_sok ms 4 h.2.2.2 k (mem_ssort.mp hk)
  | .row xs, k, h => by simp only [isK] at h; rw [kc.eq_4]; exact sok_key (by decide +kernel) (kcs_sok xs 2 h.2)
  | .inp xs tl, k, h => by
    simp only [isK] at h; rw [kc.eq_5]
    refine sok_key (by decide +kernel) fun k hk => ?_
    rcases List.mem_append.mp hk with hk | hk
    · exact kcs_sok xs 2 h.2.1 k hk
    · exact sok_tail h.2.2 k hk
  | .star n, k, h => by simp only [isK] at h; rw [kc.eq_6]; exact sok_app (by decide +kernel) (good_lay h.2)
  | .dots t, k, h => by
    simp only [isK] at h; rw [kc.eq_7]
    refine sok_key (by decide +kernel) fun k hk => ?_
    rw [List.mem_singleton.mp hk]; exact kc_sok t 0 h.2
  | .tail s, k, h => by simp [isK] at h
theorem kcs_sok : ∀ (l : List P) (k : Nat), isKs l k → ∀ x ∈ kcs l, PyData.strOk x = true
  | [], _, _, x, hx => (List.not_mem_nil hx).elim
  | p :: r, k, h, x, hx => by
    simp only [isKs] at h
    rcases List.mem_cons.mp hx with rfl | hx
    · exact kc_sok p k h.1
    · exact kcs_sok r k h.2 x hx
end
theorem txt_lay : ∀ {l : List Str}, (∀ x ∈ l, PyData.strOk x = true) → PyData.canLayAll0 (l.map PyData.str) = true ∧ PyData.depthAll (l.map PyData.str) = 0
  | [], _ => ⟨rfl, rfl⟩
  | x :: r, h => by
    obtain ⟨a, b⟩ := txt_lay fun y hy => h y (List.mem_cons_of_mem x hy)
    simp [PyData.canLayAll0, PyData.canLay0, PyData.depthAll, PyData.depth, a, b, h x List.mem_cons_self]
theorem txt_eqv : ∀ (l m : List Str), PyData.eqvAll (l.map PyData.str) (m.map PyData.str) = decide (l = m)
  | [], [] => by simp [PyData.eqvAll]
  | [], _ :: _ => by simp [PyData.eqvAll]
  | _ :: _, [] => by simp [PyData.eqvAll]
  | x :: r, y :: s => by
    have := txt_eqv r s
    simp only [List.map_cons, PyData.eqvAll, PyData.eqv, this]
    by_cases c : x = y <;> simp [c]
section
variable {H : Hp} {Q : VK} {K : PySem.W.Frag}
theorem strs_dp : ∀ l : List Str, DpAll K H (l.map V.str) (l.map PyData.str)
  | [] => .nil
  | x :: r => .cons (.str x) (strs_dp r)
theorem r_eqTx {a b : Addr} {l m : List Str} (ha : H a = some (.lst (l.map V.str))) (hb : H b = some (.lst (m.map V.str))) (h1 : ∀ x ∈ l, PyData.strOk x = true) (h2 : ∀ x ∈ m, PyData.strOk x = true) (q : Q (.bl (decide (l = m))) H) : rEqD K (.ref a) (.ref b) H Q := by
  obtain ⟨a1, a2⟩ := txt_lay h1
  obtain ⟨b1, b2⟩ := txt_lay h2
  refine ⟨.list (l.map .str), .list (m.map .str), .lst (SqL.of ha) (strs_dp l), .lst (SqL.of hb) (strs_dp m), shaped_of (by simp [PyData.canLay0, a1]) (by simp [PyData.depth, a2]), shaped_of (by simp [PyData.canLay0, b1]) (by simp [PyData.depth, b2]), ?_⟩
  simp only [PyData.eqv, txt_eqv]
  exact q
theorem r_neTx {a b : Addr} {l m : List Str} (ha : H a = some (.lst (l.map V.str))) (hb : H b = some (.lst (m.map V.str))) (h1 : ∀ x ∈ l, PyData.strOk x = true) (h2 : ∀ x ∈ m, PyData.strOk x = true) (q : Q (.bl (!decide (l = m))) H) : rNeD K (.ref a) (.ref b) H Q := by
  obtain ⟨a1, a2⟩ := txt_lay h1
  obtain ⟨b1, b2⟩ := txt_lay h2
  refine ⟨.list (l.map .str), .list (m.map .str), .lst (SqL.of ha) (strs_dp l), .lst (SqL.of hb) (strs_dp m), shaped_of (by simp [PyData.canLay0, a1]) (by simp [PyData.depth, a2]), shaped_of (by simp [PyData.canLay0, b1]) (by simp [PyData.depth, b2]), ?_⟩
  simp only [PyData.eqv, txt_eqv]
  exact q
theorem r_catL {a b : Addr} {xs ys : List V} (ha : H a = some (.lst xs)) (hb : H b = some (.lst ys)) (hl : xs.length + ys.length ≤ 100000) (q : ∀ p H2, H p = none → Up H H2 → H2 p = some (.lst (xs ++ ys)) → Q (.ref p) H2) : rCat (.ref a) (.ref b) H Q :=
  ⟨a, b, xs, ys, rfl, rfl, ha, hb, by rw [sizeLine_eq]; omega, fun p hp => q p _ hp (Up.new hp) upd_same⟩
theorem r_slTo {l : Addr} {xs : List V} {k : Nat} (h : H l = some (.lst xs)) (q : ∀ p H2, H p = none → Up H H2 → H2 p = some (.lst (xs.take k)) → Q (.ref p) H2) : rSlL K (.ref l) none (some (k : Int)) H Q :=
  ⟨l, xs, rfl, SqL.of h, fun p hp => by rw [cut_to]; exact q p _ hp (Up.new hp) upd_same⟩
end
end Gd

namespace Gd
open PySem PySem.Spec PyProof.Rows L2
/-! ### defs with *args -/
def FS (P : Program) (w : World) (K : PySem.W.Frag) (mg : Str → Option Value) (base : Heap) (cx : CXT) (k : Nat) (f : Addr) (sp : Sp) : Prop :=
  ∀ (A : Around) (out : List Env) (s : Shared) (H : Hp) (us : List Value) (vs : List V) (Q : VK) (E : XK),
    A.guards = some [] → Room k A → Env0 P w K mg base A out s H → Vals vs us → sp vs H Q E → codeAny (model P w) A (.call (.ref f) ⟨us, []⟩) (CR cx out P w H s Q E) s
structure CalS (K : PySem.W.Frag) (mg : Str → Option Value) (x : Str) (f : Addr) : Prop where
  mg : mg x = some (.ref f)
  kp : PySem.W.keepIn K (.ref f) = true
section
variable {X : Cx} {cx : CXT} {k : Nat} {f : Addr} {sp : Sp} {E : XK} {x : Str} {p pos : Pos} {e : Expr} {es : List Expr} {t : TA}
theorem run_s {pins : List (Addr × Obj)} {σ : L2.St} {H : Hp} {s : Shared} {Q : VK} {us : List Value} {vs : List V}
    (F : FS X.prog X.w X.K X.mg X.base cx k f sp) (hg : X.A.guards = some []) (hr : Room k X.A) (hx : Passes cx X E)
    (I : Inv X pins σ H s) (r : Vals vs us) (h : sp vs H Q E) : wpAny (model X.prog X.w) X.A (call (.ref f) us) (EP X pins σ Q) X.xe s := by
  refine wpAny_call (codeAny_mono (F X.A X.stack s H us vs Q E hg hr I.env0 r h) fun res s2 hq => ?_)
  rcases res with er | fl
  · exact hx pins σ H s er s2 I hq
  · rcases fl with u | _ | _ | _
    all_goals first | exact I.after hq | exact hq.elim
theorem pe_s (C : CalS X.K X.mg x f) (F : FS X.prog X.w X.K X.mg X.base cx k f sp) (hg : X.A.guards = some []) (hr : Room k X.A) (hgl : Gl X x) (hx : Passes cx X E)
    (ha : PA X (e :: es) t) (hdb : (x == ("__debug__" : Str)) = false := by decide)
    (he : starEach (e :: es) X.env = (false, eval e X.env) :: starEach es X.env := by rfl)
    (hpl : (backTo pos (starEach es X.env)).any (·.1) = false := by rfl) :
    PE X (.Call (.Name x p) (e :: es) [] pos) (fun σ H Q => t σ H fun vs H1 => sp vs H1 Q E) := by
  refine ⟨fun pins s σ H Q I h => wpAny_Call_Name_kw (ld_glob I hgl C.mg ?_ hdb)⟩
  refine PySem.W.callWith_K (h₀ := X.base) I.ok.mod.kin C.kp ?_ he hpl
  exact thn (ha.run pos pins s σ H _ I h) fun us s1 ⟨vs, H1, I1, r, q⟩ => ⟨I1.kIn, run_s F hg hr hx I1 r q⟩
theorem pe_s1 {sp_ : Pos} {te : TE} (C : CalS X.K X.mg x f) (F : FS X.prog X.w X.K X.mg X.base cx k f sp) (hg : X.A.guards = some []) (hr : Room k X.A) (hgl : Gl X x) (hx : Passes cx X E) (he : PE X e te) (hd : (x == ("__debug__" : Str)) = false := by decide)
    (hst : starEach [.Starred e sp_] X.env = [(true, eval e X.env)] := by rfl) :
    PE X (.Call (.Name x p) [.Starred e sp_] [] pos) (fun σ H Q => te σ H fun y H1 => ∃ a xs, y = V.ref a ∧ (SqT X.K H1 a xs ∨ SqL X.K H1 a xs) ∧ sp xs H1 Q E) := by
  refine ⟨fun pins s σ H Q I h => ?_⟩
  refine wpAny_Call_Name_kw (ld_glob I hgl C.mg ?_ hd)
  refine PySem.W.callWith_S (h₀ := X.base) I.ok.mod.kin C.kp (thn (he.run pins s σ H _ I h) fun v s1 ⟨y, H1, I1, ry, a, xs, ey, hxs, q⟩ => ?_) hst
  subst ey
  obtain rfl : v = Value.ref a := ry
  exact StX.star_any I1 hxs fun us s2 I2 rv => ⟨I2.kIn, run_s F hg hr hx I2 rv q⟩
end
section
variable {P : Program} {w : World} {K : PySem.W.Frag} {mg : Str → Option Value} {base : Heap}
theorem okS {x qual : Str} {st : Stmt} {f : Addr} {fd : FuncData} {N : List Str} {pv : Str} {k : Nat} {sp : Sp} (F : Fun K x qual st f fd) (S : FnScope N [pv] (defScope st))
    (hb : ∀ (kV doc pm cdv ct : Value) (an : Option Addr) (rest : List Value), bindArgs (PySem.W.fnOf x qual (defArgs st) (defBody st) (defScope st) .none kV doc pm an cdv ct) ⟨rest, []⟩ = (newTuple rest >>= fun t => pure [(pv, t)]))
    (hbody : ∀ (cdv : Value) (A : Around) (out : List Env) (s : Shared) (H : Hp) (vs : List V) (Q : VK) (E : XK), (A.deeper (envOfC qual (defScope st) s.heap.objs.size f cdv)).guards = some [] → Room k (A.deeper (envOfC qual (defScope st) s.heap.objs.size f cdv)) → sp vs H Q E →
      ∃ t, PSs (cxOf CX0 P w K mg base N qual (defScope st) f cdv A out s H E).nox (defBody st) t ∧ t { nx := fun _ H' => Q .non H', rt := Q } (start N vs) H) :
    FS P w K mg base CX0 (k + 1) f (fun vs H Q E => vs.length ≤ sizeLine ∧ ∀ p, H p = Option.none → sp [V.ref p] (upd H p (.tup vs)) Q E) := by
  obtain ⟨oc, od, kV, doc, pm, an, cdv, ct, osl, rfl, lk, hcd⟩ := F.ex
  intro A outer s H us vs Q E hg hr e0 r hsp
  obtain ⟨hz, hq⟩ := hsp
  have hn : H s.heap.objs.size = Option.none := e0.hok.fresh (Nat.le_refl _)
  have hl2 : us.length ≤ sizeLine := by rw [← r.length]; exact hz
  refine StX.run_bnd lk hcd S hr e0 (G := fun xs H2 => ∃ p, H p = Option.none ∧ xs = [V.ref p] ∧ H2 = upd H p (.tup vs)) (fun A' Ex Q' h => ?_) fun s2 H2 xs ⟨p, hp, ex, eH⟩ hr' => ?_
  · rw [hb]
    refine wpAny_bind (wpAny_newTuple (wpAny_pure ?_) hl2)
    have new : ObjOk P w (upd H s.heap.objs.size (.tup vs)) (s.heap.push ({ cls := .type "tuple", data := .seq us.toArray } : Obj)) s.heap.objs.size (.tup vs) := ⟨hz, us, r, ⟨_, Heap.get?_push_size _ rfl, rfl, _, rfl⟩⟩
    have un := StX.un_laid (fs := frs outer) (s := s) (o := ({ cls := .type "tuple", data := .seq us.toArray } : Obj)) (u := .tup vs) hn
    exact h _ _ [V.ref s.heap.objs.size] [Value.ref s.heap.objs.size] (StX.env0_laid e0 new) un rfl (fun e s' z => False.elim z) (.cons rfl .nil) rfl ⟨_, hn, rfl, rfl⟩
  · subst ex eH
    obtain ⟨t, h, q⟩ := hbody cdv A outer s2 _ _ Q E hg hr' (hq p hp)
    exact ⟨t, h.nox, q⟩
end
/-! ### tuple(d.values()) -/
section
variable {prog : Program} {w : World} {A : Around} {E : Value → Shared → Prop} {s : Shared} {r d : Addr} {n : Nat} {Pv : Nat → Value → Prop} {OK : Heap → Prop}
theorem code_tuple_new_src {Q₁ : Value → Shared → Prop} (K : PySem.W.KdlSrc prog w "dict_values" r d n Pv OK) (hh : A.handled = none) (hok : OK s.heap) (hn : n ≤ sizeLine)
    (h : ∀ (h' : Heap) (tk : Nat) (acc : Array Value), (∀ b o, s.heap.get? b = some o → h'.get? b = some o) → ItemsOf Pv acc n →
      Q₁ (.ref h'.objs.size) { s with heap := h'.push { cls := .type "tuple", data := .seq acc }, toks := tk }) :
    codeAny (model prog w) A (.call (.builtin "tuple.__new__") ⟨[.type "tuple", .ref r], []⟩) (wants Q₁ E) s := by
  refine codeAny_of_tree ?_
  show wpAny _ A.in1 (do checkBuiltinCall "tuple.__new__" ⟨[.type "tuple", .ref r], []⟩; again (.builtin "tuple.__new__" ⟨[.type "tuple", .ref r], []⟩)) _ _ s
  refine wpAny_bind (wpAny_of_eq (F.newCall_tuple_1 _) (wpAny_pure ⟨plainId_quiet F.plain_tuple_new _, codeAny_builtin F.entry_tuple_new ?_⟩))
  rw [Around.under_plainId F.plain_tuple_new _]
  have hsub := sub_tuple_self
  have hinit := init_tuple_lookup
  have hmh := madeHere_tuple
  have hTI : s.TypeIs (.ref r) "dict_values" := K.type s hok
  have hh1 : A.in1.handled = none := hh
  wp_walk using wpAny_typeOf hTI, PySem.W.kdu_collect (A := A.in1) K hh1 hok hn
  intro h' tk acc hk hacc
  show wpAny _ _ (Builtin.Tuple.tupleExact acc.toList.toArray >>= fun v => ret v) _ _ _
  unfold Builtin.Tuple.tupleExact
  refine wpAny_bind (wpAny_newObj_type ?_ (by show acc.toList.toArray.size ≤ sizeLine; simp only [Array.toArray_toList]; rw [hacc.1]; omega))
  refine wpAny_pure ?_
  have e : acc.toList.toArray = acc := by simp
  rw [e]
  exact h h' tk acc hk hacc
theorem call_tuple_src {Q : Value → Shared → Prop} (K : PySem.W.KdlSrc prog w "dict_values" r d n Pv OK) (hh : A.handled = none) (hok : OK s.heap) (hn : n ≤ sizeLine)
    (hQ : ∀ (h' : Heap) (tk : Nat) (acc : Array Value), (∀ b o, s.heap.get? b = some o → h'.get? b = some o) → ItemsOf Pv acc n →
      Q (.ref h'.objs.size) { s with heap := h'.push { cls := .type "tuple", data := .seq acc }, toks := tk }) :
    wpAny (model prog w) A (call (.type "tuple") [.ref r]) Q E s := by
  refine callType_codes (Q₁ := fun obj s₁ => s₁.TypeIs obj "tuple" ∧ Q obj s₁) F.called_tuple (F.typeCall_tuple_1 _) F.entry_object_init
    (code_tuple_new_src (A := A.in1) K hh hok hn fun h' tk acc hk hacc => ⟨⟨_, Heap.get?_push_size _ rfl, rfl⟩, hQ h' tk acc hk hacc⟩) fun obj s₁ h₁ => ?_
  exact ⟨h₁.1, F.args_object_init_2 obj _, object_init_meets F.called_tuple.init.lookup F.called_tuple.made (by decide) prog w A.in1 _ s₁ ⟨h₁.1, rfl, h₁.2⟩⟩
end
def tTupVals (td : TE) : TE := fun σ H Q => td σ H fun x H1 => ∃ a kvs, x = V.ref a ∧ H1 a = some (.dK kvs) ∧ ∀ q, H1 q = none → Q (.ref q) (upd H1 q (.tup (kvs.map (·.2))))
section
variable {X : Cx} {o : Expr} {p pos apos mpos : Pos} {td : TE}
theorem pe_tupVals (hc : X.calm = true) (hg : Gl X "tuple") (hm : X.mg "tuple" = none) (hd : PE X o td) (hbase : attributeBase o "values" X.env (eval o X.env) = eval o X.env := by rfl) (hline : (apos.endLine == mpos.line) = true := by rfl)
    (hse : starEach [Expr.Call (.Attribute o "values" apos) [] [] mpos] X.env = [(false, eval (Expr.Call (.Attribute o "values" apos) [] [] mpos) X.env)] := by rfl) :
    PE X (.Call (.Name "tuple" p) [.Call (.Attribute o "values" apos) [] [] mpos] [] pos) (tTupVals td) := by
  refine ⟨fun pins s σ H Q I h => ?_⟩
  refine Call_ (ld_blt I hg hm boot_tuple (PyProof.Rows.callWith_type1 (args_cons ?_ hse) hse))
  refine wpAny_Call_method0_late hbase hline (thn (hd.run pins s σ H _ I h) fun v s1 ⟨x, H1, I1, r1, a, kvs, ex, ha, q⟩ => ?_)
  subst ex
  obtain rfl : v = Value.ref a := r1
  obtain ⟨hz, hsys, vs, rel, dof⟩ := dk_of I1.hok ha
  obtain ⟨ep, dat⟩ := dof.dictAt
  have dat' := dat
  obtain ⟨ob, es, ho, ex, hdat, hko, hpr, hnd⟩ := dat'
  refine ⟨"dict", "dict.values", F.plainAttrs_dict, F.slot_dict_values, F.type_dict_values, ⟨ob, ho, ex.1⟩, fun b e => ?_, Calls.callWith_builtin rfl (PySem.evalArgs_none ?_)⟩
  · cases e
    exact ⟨ob, ho, ex.2.1⟩
  refine call_meetsIn F.slot_dict_values ⟨ob, ho, ex.1⟩ F.entry_dict_values (F.args_dict_values_1 _) (meets_dict_values (mixKind X.prog X.w) a hsys) ⟨⟨vs, dof⟩, ?_⟩
  have k1 : ∀ b u, s1.heap.get? b = some u → (s1.heap.push { cls := .type "dict_values", data := .fields #[.ref a] }).get? b = some u := fun b u e => Heap.get?_push_of_some _ e
  have dat1 : (s1.heap.push { cls := .type "dict_values", data := .fields #[.ref a] }).DictAt (mixKind X.prog X.w) a vs ep := dat.keep k1
  have hl : vs.length = kvs.length := (KV.length rel).symm
  refine args_nil ?_
  refine call_tuple_src (n := vs.length) (PySem.W.kdl_values (knd := mixKind X.prog X.w) (kvs := vs) (r := s1.heap.objs.size) (d := a) (ep := ep)) (I.ok.hd hc) ⟨⟨_, Heap.get?_push_size _ rfl, rfl, rfl⟩, dat1⟩ (by omega) fun h' tk acc hk hacc => ?_
  have I2 : Inv X pins σ H1 { s1 with heap := h', toks := tk } := I1.kept (t' := tk) fun b u e => hk b u (k1 b u e)
  have rv : Vals (kvs.map (·.2)) acc.toList := by
    refine vals_of_at (by rw [List.length_map]; show kvs.length = acc.size; rw [hacc.1, hl]) fun j y u h1 h2 => ?_
    obtain ⟨k, hkv⟩ := hacc.2 j u (by rw [← h2, Array.getElem?_toList])
    obtain ⟨z, h3, h4⟩ := KV.at' rel hkv
    rw [List.getElem?_map, h3] at h1
    obtain rfl := Option.some.inj h1
    exact h4
  exact ⟨.ref h'.objs.size, upd H1 h'.objs.size (.tup (kvs.map (·.2))), I2.laid (t' := tk) (fun c o e => Heap.get?_push_of_some _ e) (Nat.le_refl _) (show ObjOk X.prog X.w _ _ _ (.tup _) from ⟨by rw [List.length_map]; exact hz, acc.toList, rv, by rw [Array.toArray_toList]; exact IsTup.new _ _⟩), rfl, q _ (I2.hok.fresh (Nat.le_refl _))⟩
end
end Gd

namespace Gd
open PySem PySem.Spec PyProof.Rows L2
/-! ### repr of a term -/
theorem join_sum : ∀ ts : List Str, (Str.join (", " : Str) ts).length ≤ (ts.map (·.length)).sum + 2 * ts.length := by
  intro ts
  have h := slen_join (", " : Str) ts
  have e : (", " : Str).length = 2 := by decide +kernel
  rw [TL.join_eq, e] at h
  omega
theorem tupText_le (ts : List Str) : (tupleText ts).length ≤ (ts.map (·.length)).sum + 2 * ts.length + 3 := by
  have h := join_sum ts
  have e1 : ("(" : Str).length = 1 := by decide +kernel
  have e2 : (",)" : Str).length = 2 := by decide +kernel
  have e3 : (")" : Str).length = 1 := by decide +kernel
  unfold tupleText
  rw [slen_app, slen_app, e1]
  split <;> omega
mutual
theorem Da.shown {H : Hp} : ∀ {v : V} {d : PyData}, Da H v d → d.canLay0 = true → d.showable = true ∧ d.shown.length ≤ kw d
  | _, _, .non, _ => by
    have e : ("None" : Str).length = 4 := by decide +kernel
    simp only [PyData.showable, PyData.shown, kw, e]
    exact ⟨trivial, by omega⟩
  | _, _, .str x, h => by
    simp only [PyData.canLay0] at h
    have := repr_le h
    simp only [PyData.showable, PyData.shown, kw]
    exact ⟨trivial, by omega⟩
  | _, _, .tup (ds := ds) _ t, h => by
    simp only [PyData.canLay0] at h
    obtain ⟨h1, h2⟩ := Das.shown t h
    simp only [PyData.showable, PyData.shown, kw]
    exact ⟨h1, by have := tupText_le (PyData.shownAll ds); omega⟩
theorem Das.shown {H : Hp} : ∀ {vs : List V} {ds : List PyData}, Das H vs ds → PyData.canLayAll0 ds = true → PyData.showableAll ds = true ∧ ((PyData.shownAll ds).map (·.length)).sum + 2 * (PyData.shownAll ds).length ≤ kws ds
  | _, _, .nil, _ => by simp [PyData.showableAll, PyData.shownAll, kws]
  | _, _, .cons h t, c => by
    simp only [PyData.canLayAll0, Bool.and_eq_true] at c
    obtain ⟨a1, a2⟩ := Da.shown h c.1
    obtain ⟨b1, b2⟩ := Das.shown t c.2
    simp only [PyData.showableAll, PyData.shownAll, kws, List.map_cons, List.sum_cons, List.length_cons, a1, b1, Bool.and_self]
    exact ⟨trivial, by omega⟩
end
section
variable {H : Hp} {Q : VK} {K : PySem.W.Frag}
theorem r_reprD {v : V} {d : PyData} (h : Da H v d) (c : d.canLay0 = true) (l : d.depth ≤ 180) (w : kw d ≤ 1000000) (q : Q (.str d.shown) H) : rRepr K [v] H Q := by
  obtain ⟨a, b⟩ := h.shown c
  exact ⟨v, d, rfl, h.dp, a, l, by rw [sizeLine_eq]; omega, q⟩
end
/-! ### joining -/
theorem fold_id : ∀ (l acc : List P), ((acc ++ l).map lkP).Nodup → l.foldl addP acc = acc ++ l
  | [], acc, _ => by simp
  | p :: r, acc, h => by
    have h1 : lkP p ∉ acc.map lkP := by
      intro hm
      rw [List.map_append, List.map_cons] at h
      exact (List.nodup_append.mp h).2.2 _ hm _ List.mem_cons_self rfl
    rw [List.foldl_cons, show addP acc p = acc ++ [p] from if_neg h1, fold_id r (acc ++ [p]) (by rw [List.append_assoc]; exact h), List.append_assoc]
    rfl
theorem fold_skip : ∀ (l acc : List P), (∀ m ∈ l, lkP m ∈ acc.map lkP) → l.foldl addP acc = acc
  | [], acc, _ => rfl
  | p :: r, acc, h => by
    rw [List.foldl_cons, show addP acc p = acc from if_pos (h p List.mem_cons_self)]
    exact fold_skip r acc fun m hm => h m (List.mem_cons_of_mem _ hm)
theorem memb_nd {p : P} (h : isK p 0) : ((memb p).map lkP).Nodup := by
  cases p with
  | uni ms => simp only [isK] at h; exact h.2.2.1
  | _ => simp [memb]
theorem foundP_one {p : P} (h : isK p 0) : foundP [p] = memb p := by
  unfold foundP
  rw [List.flatMap_cons, List.flatMap_nil, List.append_nil, fold_id _ _ (by rw [List.nil_append]; exact memb_nd h), List.nil_append]
def asP (l : List P) : P := match l with
  | [p] => p
  | l => .uni l
theorem asP_memb {p : P} (h : isK p 0) : asP (memb p) = p := by
  cases p with
  | uni ms =>
    simp only [isK] at h
    obtain ⟨_, h2, _⟩ := h
    show asP ms = .uni ms
    match ms, h2 with
    | _ :: _ :: _, _ => rfl
  | _ => rfl
theorem ljoin_asP (ps : List P) : ljoin ps = asP (foundP ps) := rfl
theorem ljoin_one {p : P} (h : isK p 0) : ljoin [p] = p := by rw [ljoin_asP, foundP_one h, asP_memb h]
theorem lk_memb {p q : P} (hp : isK p 0) (hq : isK q 0) (e : lkP q = lkP p) : ∀ m ∈ memb q, lkP m ∈ (memb p).map lkP := by
  have s := (faith_lk q p 0 0 hq hp).mp e
  intro m hm
  cases q with
  | uni ns =>
    cases p with
    | uni ms => exact s.mem_iff.mp (List.mem_map.mpr ⟨m, hm, rfl⟩)
    | _ => exact s.elim
  | use n vs =>
    cases p with
    | uni ms => exact s.elim
    | _ => rw [List.mem_singleton.mp hm, e]; simp [memb]
  | sig i r =>
    cases p with
    | uni ms => exact s.elim
    | _ => rw [List.mem_singleton.mp hm, e]; simp [memb]
  | _ => simp [isK] at hq
theorem ljoin_two {p q : P} (hp : isK p 0) (hq : isK q 0) (e : lkP q = lkP p) : ljoin [p, q] = p := by
  have h : foundP [p, q] = memb p := by
    have h1 := foundP_one hp
    unfold foundP at h1 ⊢
    rw [List.flatMap_cons, List.flatMap_nil, List.append_nil] at h1
    rw [List.flatMap_cons, List.flatMap_cons, List.flatMap_nil, List.append_nil, List.foldl_append, h1]
    exact fold_skip _ _ (lk_memb hp hq e)
  rw [ljoin_asP, h, asP_memb hp]
/-- the program's key tells the same when members are left out -/
theorem kc_mem {acc : List P} {m : P} (ha : ∀ p ∈ acc, isK p 4) (hm : isK m 4) : kc m ∈ acc.map kc ↔ lkP m ∈ acc.map lkP := by
  constructor
  · intro h
    obtain ⟨p, hp, e⟩ := List.mem_map.mp h
    exact List.mem_map.mpr ⟨p, hp, (kc_lk (ha p hp) hm).mp e⟩
  · intro h
    obtain ⟨p, hp, e⟩ := List.mem_map.mp h
    exact List.mem_map.mpr ⟨p, hp, (kc_lk (ha p hp) hm).mpr e⟩
/-- a dict of members by their keys -/
structure Mb (H : Hp) (kvs : List (Key × V)) (fs : List P) : Prop where
  ks : kvs.map (·.1) = fs.map fun p => (Sum.inr (kc p) : Key)
  vs : Das H (kvs.map (·.2)) (encs fs)
theorem Mb.up {H H' : Hp} {kvs : List (Key × V)} {fs : List P} (h : Mb H kvs fs) (k : Tk H H') : Mb H' kvs fs := ⟨h.ks, h.vs.tk k⟩
theorem Mb.len {H : Hp} {kvs : List (Key × V)} {fs : List P} (h : Mb H kvs fs) : kvs.length = fs.length := by
  have := congrArg List.length h.ks
  simpa using this
theorem Mb.no {H : Hp} {kvs : List (Key × V)} {fs : List P} {m : P} (h : Mb H kvs fs) (hf : ∀ p ∈ fs, isK p 4) (hm : isK m 4) (n : valV kvs (Sum.inr (kc m) : Key) = none) : addP fs m = fs ++ [m] := by
  refine if_neg fun c => ?_
  have c2 := (kc_mem hf hm).mpr c
  refine valV_not n ?_
  rw [h.ks]
  obtain ⟨p, hp, e⟩ := List.mem_map.mp c2
  exact List.mem_map.mpr ⟨p, hp, by rw [e]⟩
theorem Mb.yes {H : Hp} {kvs : List (Key × V)} {fs : List P} {m : P} {v : V} (h : Mb H kvs fs) (hf : ∀ p ∈ fs, isK p 4) (hm : isK m 4) (n : valV kvs (Sum.inr (kc m) : Key) = some v) : addP fs m = fs := by
  refine if_pos ?_
  refine (kc_mem hf hm).mp ?_
  have c := valV_in n
  rw [h.ks] at c
  obtain ⟨p, hp, e⟩ := List.mem_map.mp c
  exact List.mem_map.mpr ⟨p, hp, Sum.inr.inj e⟩
theorem Mb.put {H : Hp} {kvs : List (Key × V)} {fs : List P} {m : P} {v : V} (h : Mb H kvs fs) (d : Da H v (enc m)) (n : valV kvs (Sum.inr (kc m) : Key) = none) : Mb H (putK kvs (Sum.inr (kc m) : Key) v) (fs ++ [m]) := by
  rw [putK_new v n]
  refine ⟨?_, ?_⟩
  · rw [List.map_append, List.map_append, h.ks]; rfl
  · rw [List.map_append, encs_app]
    exact h.vs.app (.cons d .nil)
end Gd
namespace Gd
open PySem PySem.Spec PyProof.Rows L2
theorem fold_is {l : List P} (h : ∀ p ∈ l, isK p 4) : ∀ q ∈ l.foldl addP [], isK q 4 := fun q hq => by
  rcases fold_sub l [] hq with h1 | h1
  · exact (List.not_mem_nil h1).elim
  · exact h q h1
theorem dv_one {H : Hp} {ps : List P} (hl : ps.length = 1) {xs : List V} (d : Das H xs (encs ps)) : ∃ v p, xs = [v] ∧ ps = [p] ∧ Da H v (enc p) := by
  obtain ⟨p, rfl⟩ := List.length_eq_one_iff.mp hl
  obtain ⟨v, rfl, dv⟩ := d.one
  exact ⟨v, p, rfl, rfl, dv⟩
theorem flat_snoc {ps : List P} {i : Nat} {p : P} (h : ps[i]? = some p) : (ps.take (i + 1)).flatMap memb = (ps.take i).flatMap memb ++ memb p := by
  rw [List.take_add_one, h, Option.toList_some, List.flatMap_append, List.flatMap_cons, List.flatMap_nil, List.append_nil]
end Gd
namespace Gd
open PySem PySem.Spec PyProof.Rows L2
section
variable {σ : L2.St} {H : Hp} {Q : VK} {td ty tx : TE}
theorem r_dnew (q : ∀ p H2, H p = none → Up H H2 → H2 p = some (.dK []) → Q (.ref p) H2) : tDNewK σ H Q := fun p hp => q p _ hp (Up.new hp) upd_same
theorem r_dsd (h : td σ H fun x H1 => ∃ a, x = .ref a ∧ IsD H1 a ∧ ty σ H1 fun y H2 => tx σ H2 fun z H3 => ∃ (kvs : List (Key × V)) (k : Key), H3 a = some (.dK kvs) ∧ y = kV k ∧ kvs.length < sizeLine ∧
  (∀ v, valV kvs k = some v → Q v H3) ∧ (valV kvs k = none → Q z (upd H3 a (.dK (putK kvs k z))))) : tDSetd td ty tx σ H Q := h
theorem r_tvs (h : td σ H fun x H1 => ∃ a kvs, x = V.ref a ∧ H1 a = some (.dK kvs) ∧ ∀ q, H1 q = none → Q (.ref q) (upd H1 q (.tup (kvs.map (·.2))))) : tTupVals td σ H Q := h
theorem isD_of {H : Hp} {a : Addr} {kvs : List (Key × V)} (h : H a = some (.dK kvs)) : IsD H a := .inl ⟨kvs, .inl h⟩
end
end Gd
namespace Gd
open PySem PySem.Spec PyProof.Rows L2
/-! ### lists of terms with few members -/
structure Tj (p : P) : Prop where
  cd : Cd 0 20 3000 p
  mem : (memb p).length ≤ 9
theorem Tj.cd0 {p : P} (h : Tj p) : Cd 0 40 90000 p := h.cd.mono (by omega) (by omega)
theorem mem_len {p q : P} (hp : isK p 0) (hq : isK q 0) (e : lkP q = lkP p) : (memb q).length = (memb p).length := by
  have s := (faith_lk q p 0 0 hq hp).mp e
  cases q with
  | uni ns =>
    cases p with
    | uni ms => have := s.length_eq; simpa [memb] using this
    | _ => exact s.elim
  | use n vs =>
    cases p with
    | uni ms => exact s.elim
    | _ => rfl
  | sig i r =>
    cases p with
    | uni ms => exact s.elim
    | _ => rfl
  | _ => simp [isK] at hq
theorem Mx.cd {k dp wt : Nat} {p q : P} (h : Mx p q) (c : Cd k dp wt p) : Cd k dp wt q := ⟨h.is k c.is, by rw [h.lay]; exact c.lay, by rw [h.dep]; exact c.dep, by rw [h.bar]; exact c.bar, by rw [h.wgt]; exact c.wgt⟩
theorem Mx.tj {p q : P} (h : Mx p q) (c : Tj p) : Tj q := ⟨h.cd c.cd, by rw [mem_len c.cd.is (h.is 0 c.cd.is) h.lk]; exact c.mem⟩
theorem TmD.tj {p : P} (h : TmD 2 p) : Tj p := ⟨h.cd.mono (by decide) (by simp only [Wd]; omega), Nat.le_trans h.mem (by decide)⟩
theorem flat_mem : ∀ {ps : List P}, (∀ p ∈ ps, Tj p) → (ps.flatMap memb).length ≤ 9 * ps.length
  | [], _ => by simp
  | p :: r, h => by
    have h1 := (h p List.mem_cons_self).mem
    have h2 := flat_mem (ps := r) fun q hq => h q (List.mem_cons_of_mem _ hq)
    rw [List.flatMap_cons, List.length_append, List.length_cons]
    omega
theorem flat_kws : ∀ {ps : List P}, (∀ p ∈ ps, Tj p) → kws (encs (ps.flatMap memb)) ≤ 3005 * ps.length
  | [], _ => by simp [encs, kws]
  | p :: r, h => by
    have h1 := (h p List.mem_cons_self).cd.wgt
    have h3 := memb_kws' (p := p)
    have h2 := flat_kws (ps := r) fun q hq => h q (List.mem_cons_of_mem _ hq)
    rw [List.flatMap_cons, encs_app, kws_app, List.length_cons]
    omega
def GotR (R : P → Prop) (H : Hp) (s : Addr) (ps : List P) : Prop := ∃ xs, H s = some (.lst xs) ∧ Das H xs (encs ps) ∧ ∀ p ∈ ps, R p
theorem GotR.up {R : P → Prop} {H H' : Hp} {s : Addr} {ps : List P} (h : GotR R H s ps) (u : Up H H') : GotR R H' s ps := by
  obtain ⟨xs, a, b, c⟩ := h
  exact ⟨xs, u _ _ a, b.up u, c⟩
theorem GotR.mv {R : P → Prop} {H H' : Hp} {s b : Addr} {ps : List P} (h : GotR R H s ps) (hb : Tk H H') (n : s ≠ b) (m : Mv b H H') : GotR R H' s ps := by
  obtain ⟨xs, a, c, d⟩ := h
  exact ⟨xs, m _ _ n a, c.tk hb, d⟩
theorem lkP_use {n m : Str} (hn : good n) (hm : good m) (e : lkP (.use n []) = lkP (.use m [])) : n = m := by
  have kn : isK (.use n []) 0 := by simp only [isK, isKs]; exact ⟨by first | exact .inl rfl | simp, hn, trivial⟩
  have km : isK (.use m []) 0 := by simp only [isK, isKs]; exact ⟨by first | exact .inl rfl | simp, hm, trivial⟩
  exact ((faith_lk _ _ 0 0 kn km).mp e).1
end Gd
namespace Gd
open PySem PySem.Spec PyProof.Rows L2
section
variable {H : Hp} {Q : VK} {K : PySem.W.Frag}
theorem r_neSelf {x y : V} {d : PyData} (hx : Da H x d) (hy : Da H y d) (c : d.canLay0 = true) (l : d.depth ≤ 64) (q : Q (.bl false) H) : rNeD K x y H Q :=
  r_neD hx hy c l c l (by rw [SeqAt.eqv_refl d c]; exact q)
theorem r_eqSelf {x y : V} {d : PyData} (hx : Da H x d) (hy : Da H y d) (c : d.canLay0 = true) (l : d.depth ≤ 64) (q : Q (.bl true) H) : rEqD K x y H Q :=
  r_eqD hx hy c l c l (by rw [SeqAt.eqv_refl d c]; exact q)
end
theorem tj_pair {x y : Str} (hx : good x) (hy : good y) (n : x ≠ y) : Tj (.uni [.use x [], .use y []]) := by
  have ca : ∀ x : Str, good x → Cd 4 2 100 (.use x []) := fun x hx => (Cd.use (k := 4) (dp := 0) (s := 0) (vs := []) (.inr rfl) hx no_all (by simp [encs, kws])).mono (by omega) (by omega)
  refine ⟨(Cd.uni (dp := 2) (s := 210) (fun v hv => ?_) (by simp) (by simp) ?_ ?_).mono (by omega) (by omega), by simp [memb]⟩
  · rcases List.mem_cons.mp hv with rfl | hv
    · exact ⟨_, ca x hx⟩
    · rw [List.mem_singleton.mp hv]; exact ⟨_, ca y hy⟩
  · simp only [List.map_cons, List.map_nil, List.nodup_cons, List.mem_singleton, List.not_mem_nil, not_false_eq_true, List.nodup_nil, and_true]
    exact fun e => n (lkP_use hx hy e)
  · have := (ca x hx).wgt
    have := (ca y hy).wgt
    simp only [encs, kws]
    omega
theorem ljoin_cd {ps : List P} (h : ∀ p ∈ ps, Tj p) (h1 : 1 ≤ ps.length) (h5 : ps.length ≤ 6) : Cd 0 22 20000 (ljoin ps) := by
  have a := flat_mem h
  have b := flat_kws h
  have hn : ps ≠ [] := fun e => by rw [e] at h1; exact absurd h1 (by simp)
  have f1 : 1 ≤ (foundP ps).length := by
    cases ps with
    | nil => exact absurd rfl hn
    | cons p r =>
      unfold foundP
      rw [List.flatMap_cons, List.foldl_append]
      cases hm : memb p with
      | nil => exact absurd hm (memb_ne' (h p List.mem_cons_self).cd.is)
      | cons m ms =>
        have e : addP [] m = [m] := by simp [addP]
        rw [List.foldl_cons, e]
        have h1 := fold_ge ms [m]
        have h2 := fold_ge (r.flatMap memb) (ms.foldl addP [m])
        simp only [List.length_singleton] at h1
        omega
  exact (ljoin_Cd (dp := 20) (s := 18100) (fun p hp => ⟨_, (h p hp).cd⟩) (by omega) (by omega) f1).mono (by omega) (by omega)
end Gd

/-! own errors over any built-in one -/
namespace Gd
open PySem PySem.F
open Builtin Builtin.ObjectAttr
/-- at C: an error class of the program; bm: what stands above it; made by newId -/
def ErrAt (h : Heap) (C : Addr) (bm : List Value) (newId : String) : Prop :=
  ∃ nm q N bs hd sn sub ab col dd k0 k1 k2 k3 k5, h.get? C = some (excClassObj nm q C N bs bm hd sn sub ab col dd k0 k1 k2 k3 k5 newId)
/-- what is asked of what stands above: B made it, and it is of no kind that is made otherwise -/
structure Above (B : String) (bm : List Value) : Prop where
  hB : bm.contains (.type B) = true
  hA : bm.contains (.type "AttributeError") = false
  hN : bm.contains (.type "NameError") = false
/-- how the built-in one is laid -/
structure LaysB (L initId : String) : Prop where
  init : Slot L "__init__" initId
  entry : entryFor table initId = some Builtin.«BaseException.__init__»
  split : splitId initId = some (L, "__init__")
  kind : builtinKind initId = some .slot
  row : Manifest.signature? initId = some ⟨.positional, "*", L, .self, [⟨"args", .varPos, false⟩]⟩
  star : (L != "*") = true
theorem LaysB.of {L newId initId : String} (F : ExcCallFacts L newId initId) : LaysB L initId := ⟨F.init, F.initEntry, F.initSplit, F.initKind, F.initRow, F.noStar⟩
theorem lays_KeyError : LaysB "KeyError" "KeyError.__init__" where
  init := by
    refine .of (owner := "KeyError") (n := "__init__") ?_ ?_ ?_ ?_ ?_ ?_
    · rw [typeLookup_type, builtinLookup_eq_fast]; kernel_rfl
    · decide +kernel
    · decide +kernel
    · decide +kernel
    · first | exact Or.inl (by decide +kernel) | exact Or.inr (by decide +kernel)
    · rw [isSubtype_type]; kernel_rfl
  entry :=
    entryFor_alias (id' := "BaseException.__init__") (by
      rw [fastTable_eq_tree]
      kernel_rfl) (by first | rfl | decide +kernel) (by decide +kernel)
      (by
        rw [fastTable_eq_tree]
        kernel_rfl)
  split := by kernel_rfl
  kind := by kernel_rfl
  row := by kernel_rfl
  star := by decide +kernel
section
variable {M : Model} {A : Around} {E : Value → Shared → Prop} {s : Shared} {C : Addr} {bm bmB : List Value} {B newId initId L : String}
theorem err_new_check (F : ExcBaseFacts B newId initId bmB) (U : Above B bm) (hC : ErrAt s.heap C bm newId) {rest : List Value} {Q : Unit → Shared → Prop} (hq : Q () s) : wpAny M A (checkBuiltinCall newId ⟨.ref C :: rest, []⟩) Q E s := by
  obtain ⟨h, g, d, t, os⟩ := s
  obtain ⟨nm, q, N, bs, hd, sn, sub, ab, col, dd, k0, k1, k2, k3, k5, hC⟩ := hC
  have inB : (Value.ref C :: bm).contains (.type B) = true := by rw [List.contains_cons, U.hB, Bool.or_true]
  have st := F.noStar
  simp only [F.newKind, checkBuiltinCall, F.newRow, F.newSplit]
  repeat (first
    | refine wpAny_loadPart_at hC ?_
    | (refine wpAny_isSubtype_exc hC ?_
       rw [inB])
    | refine wpAny_staticBase_exc hC ?_
    | refine wpAny_madeBy_exc hC ?_
    | simp only [bne_self_eq_false, Bool.false_eq_true, if_false]
    | wp_step)
  exact hq
theorem err_init_check (I : LaysB L initId) (hL : bm.contains (.type L) = true) (hC : ErrAt s.heap C bm newId) {e : Addr} {oe : Obj} {rest : List Value} {Q : Unit → Shared → Prop} (he : s.heap.get? e = some oe) (hc : oe.cls = .ref C) (hq : Q () s) :
    wpAny M A (checkBuiltinCall initId ⟨.ref e :: rest, []⟩) Q E s := by
  obtain ⟨h, g, d, t, os⟩ := s
  obtain ⟨nm, q, N, bs, hd, sn, sub, ab, col, dd, k0, k1, k2, k3, k5, hC⟩ := hC
  have inL : (Value.ref C :: bm).contains (.type L) = true := by rw [List.contains_cons, hL, Bool.or_true]
  have st := I.star
  simp only [I.kind, checkBuiltinCall, I.row, I.split]
  repeat (first
    | (with_reducible refine wpAny_loadPart_at he ?_
       rw [hc])
    | with_reducible refine wpAny_loadPart_at hC ?_
    | (with_reducible refine wpAny_isSubtype_exc hC ?_
       rw [inL])
    | wp_step)
  refine wpAny_onRaise ?_
  have ok : ∀ (a b : String) (n : Nat), Bind.check ⟨.positional, "*", L, .self, [⟨"args", .varPos, false⟩]⟩ a b n (List.map (fun x => x.fst) ({ pos := Value.ref e :: rest } : Args).kw) = pure () := fun a b n => check_star_args _ _ _ _ _ _
  rw [ok]
  exact wpAny_pure hq
end
section
variable {prog : Program} {w : World} {A : Around} {E : Value → Shared → Prop} {R : Result → Shared → Prop} {s : Shared} {C : Addr} {bm bmB : List Value} {B newId initId L : String}
/-- the object of an error that is being made, its arguments at t -/
abbrev errO (C t : Addr) : Obj := { cls := .ref C, data := .fields #[.ref t, .none, .none, .none, .bool false, .none] }
def bornH (h : Heap) (C : Addr) (rest : List Value) : Heap := (h.push { cls := .type "tuple", data := .seq rest.toArray }).push (errO C h.objs.size)
theorem born_old {h : Heap} {C : Addr} {rest : List Value} {b : Addr} {o : Obj} (e : h.get? b = some o) : (bornH h C rest).get? b = some o := Heap.get?_push_of_some _ (Heap.get?_push_of_some _ e)
theorem born_at {h : Heap} {C : Addr} {rest : List Value} : (bornH h C rest).get? (h.objs.size + 1) = some (errO C h.objs.size) := by
  unfold bornH
  heap_get
theorem ErrAt.keep {h h' : Heap} (hC : ErrAt h C bm newId) (k : ∀ b o, h.get? b = some o → h'.get? b = some o) : ErrAt h' C bm newId := by
  obtain ⟨nm, q, N, bs, hd, sn, sub, ab, col, dd, k0, k1, k2, k3, k5, hC⟩ := hC
  exact ⟨nm, q, N, bs, hd, sn, sub, ab, col, dd, k0, k1, k2, k3, k5, k _ _ hC⟩
theorem err_new (F : ExcBaseFacts B newId initId bmB) (U : Above B bm) (hC : ErrAt s.heap C bm newId) {rest : List Value} (hl : rest.length ≤ sizeLine)
    (hq : R (.ok (.ret (.ref (s.heap.objs.size + 1)))) { s with heap := bornH s.heap C rest }) : codeAny (model prog w) A (.builtin newId ⟨.ref C :: rest, []⟩) R s := by
  obtain ⟨h, g, d, t, os⟩ := s
  obtain ⟨nm, q, N, bs, hd, sn, sub, ab, col, dd, k0, k1, k2, k3, k5, hC⟩ := hC
  have en := F.ends
  have inB : (Value.ref C :: bm).contains (.type B) = true := by rw [List.contains_cons, U.hB, Bool.or_true]
  have noA : (Value.ref C :: bm).contains (.type "AttributeError") = false := by rw [List.contains_cons, U.hA]; rfl
  have noN : (Value.ref C :: bm).contains (.type "NameError") = false := by rw [List.contains_cons, U.hN]; rfl
  refine codeAny_builtinAt F.entry ?_
  unfold Builtin.«BaseException.__new__»
  refine wpAt_bind ?_
  show wpAt _ _ _ (stack >>= _) _ _ _
  refine wpAt_bind (wpAt_stack fun _ _ => wpAt_of_wpAny ?_)
  wp_walk
  refine wpAt_of_wpAny ?_
  rw [F.owner]
  repeat (first
    | with_reducible refine wpAny_madeHere_exc F.canon hC ?_
    | with_reducible refine wpAny_loadPart_at hC ?_
    | (with_reducible refine wpAny_isSubtype_exc hC ?_
       first
         | rw [inB]
         | rw [noA]
         | rw [noN])
    | wp_step)
  show R _ _
  rw [Heap.size_push]
  exact hq
/-- the class is called: the object is born, then its own __init__ -/
theorem err_type_call (F : ExcBaseFacts B newId initId bmB) (U : Above B bm) (hC : ErrAt s.heap C bm newId) {rest : List Value} {fI : Addr} {Q : Fin → Shared → Prop} (hl : rest.length ≤ sizeLine)
    (hi : W.Looks (model prog w) s.heap (typeLookup (.ref C) "__init__") (some (.ref fI))) (hb : ∀ self, W.Looks (model prog w) s.heap (bindSpecial (.ref fI) self) (.ref fI, [self]))
    (hq : codeAny (model prog w) A (.call (.ref fI) ⟨.ref (s.heap.objs.size + 1) :: rest, []⟩) (fun r s' => match r with
      | .ok (.ret v) => v = .none ∧ Q (.done (.ret (.ref (s.heap.objs.size + 1)))) s'
      | .ok _ => False
      | .error e => E e s') { s with heap := bornH s.heap C rest }) :
    wpAny (model prog w) A (Builtin.«type.__call__» ⟨.ref C :: rest, []⟩) Q E s := by
  have hC' := hC
  obtain ⟨h, g, d, t, os⟩ := s
  obtain ⟨nm, q, N, bs, hd, sn, sub, ab, col, dd, k0, k1, k2, k3, k5, hCo⟩ := hC'
  repeat (first
    | with_reducible refine wpAny_loadPart_at hCo ?_
    | with_reducible refine wpAny_madeBy_exc hCo ?_
    | wp_step)
  refine codeAny_call_builtin_code (Code.quiet_builtin _ F.quiet) (err_new_check F U hC ?_)
  refine err_new F U hC hl ?_
  show wpAny _ _ _ _ _ _
  have hB := born_at (h := h) (C := C) (rest := rest)
  have hC2 := born_old (C := C) (rest := rest) hCo
  have inC : (Value.ref C :: bm).contains (.ref C) = true := by simp
  have hi2 := hi.keeps (fun b o e => born_old (C := C) (rest := rest) e)
  have hb2 := (hb (.ref (h.objs.size + 1))).keeps (fun b o e => born_old (C := C) (rest := rest) e)
  unfold isInstance
  repeat (first
    | with_reducible refine wpAny_loadPart_at hB ?_
    | (with_reducible refine wpAny_isSubtype_exc hC2 ?_
       rw [inC])
    | wp_step)
  show wpAny _ _ (typeLookup (.ref C) _) _ _ _
  refine hi2.at ?_
  refine wpAny_holding (wpAny_bind (hb2.at ?_))
  refine wpAny_bind (wpAny_call (codeAny_mono hq fun r s' z => ?_))
  match r, z with
  | .ok (.ret v), ⟨e, z⟩ =>
    subst e
    first
      | exact wpAny_pure (wpAny_pure z)
      | (wp_walk
         exact z)
  | .error e, z => exact z
end
end Gd

namespace Gd
open PySem PySem.F
open Builtin Builtin.ObjectAttr
section
variable {prog : Program} {w : World} {A : Around} {E : Value → Shared → Prop} {R : Result → Shared → Prop} {s : Shared} {C : Addr} {bm bmB : List Value} {B newId initId L : String}
/-- C(..), its own __init__ at fI -/
theorem err_call (F : ExcBaseFacts B newId initId bmB) (U : Above B bm) (hC : ErrAt s.heap C bm newId) {rest : List Value} {fI : Addr} (hl : rest.length ≤ sizeLine)
    (hi : W.Looks (model prog w) s.heap (typeLookup (.ref C) "__init__") (some (.ref fI))) (hb : ∀ self, W.Looks (model prog w) s.heap (bindSpecial (.ref fI) self) (.ref fI, [self]))
    (hq : codeAny (model prog w) (A.under (.builtin "type.__call__" ⟨.ref C :: rest, []⟩)) (.call (.ref fI) ⟨.ref (s.heap.objs.size + 1) :: rest, []⟩) (W.InitBack (s.heap.objs.size + 1) R) { s with heap := bornH s.heap C rest }) :
    codeAny (model prog w) A (.call (.ref C) ⟨rest, []⟩) R s := by
  have hC' := hC
  have t1 := tc_lookup
  have t2 := tc_bind (.ref C)
  obtain ⟨h, g, d, t, os⟩ := s
  obtain ⟨nm, q, N, bs, hd, sn, sub, ab, col, dd, k0, k1, k2, k3, k5, hCo⟩ := hC'
  have isT : Shared.TypeIs ⟨h, g, d, t, os⟩ (.ref C) "type" := ⟨_, hCo, rfl⟩
  refine codeAny_of_tree ?_
  show wpAny _ _ (callAny (.ref C) _) _ _ _
  repeat (any_goals (first
    | assumption
    | with_reducible refine wpAny_loadPart_at hCo ?_
    | wp_step))
  refine ⟨rfl, codeAny_call_builtin_at (Code.quiet_builtin _ (by decide +kernel)) entry_typeCall (wpAny_check_type_call_sub hCo (err_type_call F U hC hl hi hb ?_))⟩
  refine codeAny_mono hq fun r s' z => ?_
  match r, z with
  | .ok (.ret v), z => exact z
  | .error e, z => exact z
/-- the built-in one's __init__: the arguments are laid anew -/
theorem err_init_run (I : LaysB L initId) (hL : bm.contains (.type L) = true) (hC : ErrAt s.heap C bm newId) {e t0 : Addr} {rest : List Value} (he : s.heap.get? e = some (errO C t0)) (hl : rest.length ≤ sizeLine)
    (hq : ∀ h' t1, (∀ b o, b ≠ e → s.heap.get? b = some o → h'.get? b = some o) → h'.get? e = some (errO C t1) → R (.ok (.ret .none)) { s with heap := h' }) :
    codeAny (model prog w) A (.call (.builtin initId) ⟨.ref e :: rest, []⟩) R s := by
  obtain ⟨h, g, d, t, os⟩ := s
  refine codeAny_call_builtin I.init.plain I.entry (err_init_check I hL hC he rfl ?_)
  wp_walk
  refine hq _ h.objs.size (fun b o hb ho => (Heap.get?_update_other _ _ (Ne.symm hb)).trans (Heap.get?_push_of_some _ ho)) ?_
  exact (Heap.get?_update_self _ (Heap.get?_push_of_some _ he) rfl).trans rfl
end
theorem store_KeyError : StoreFacts "KeyError" (["KeyError", "LookupError", "Exception", "BaseException", "object"].map Value.type) "object.__setattr__" "object" where
  mro := by kernel_rfl
  slot := by
    refine .of (owner := "object") (n := "__setattr__") ?_ ?_ ?_ ?_ ?_ ?_
    · rw [typeLookup_type, builtinLookup_eq_fast]; kernel_rfl
    · decide +kernel
    · decide +kernel
    · decide +kernel
    · first | exact Or.inl (by decide +kernel) | exact Or.inr (by decide +kernel)
    · rw [isSubtype_type]; kernel_rfl
  entry := entry_object_sa
  kind := by decide +kernel
  split := by decide +kernel
  hasOwner := by decide +kernel
  args := fun a b c => by unfold argsOk; kernel_rfl
  passes := fun self => by kernel_rfl
section
variable {prog : Program} {w : World} {A : Around} {R : Result → Shared → Prop} {s : Shared} {x C : Addr} {bmB : List Value} {B : String} {K : W.Frag} {name : Str} {tk : Tok} {v : Value} {fv : Array Value} {cd : ClassData}
/-- the first field: the dict is laid -/
theorem err_store_new (SF : StoreFacts B bmB "object.__setattr__" "object") (X : K.In s.heap) (hx : s.heap.get? x = some { cls := .ref C, data := .fields fv }) (ov : W.excOver K C bmB = true) (ht : W.takerIn K C name = some none) (hcd : W.clsIn K C = some cd) (hd : cd.hasDict = true)
    (hq : ∀ h' tk' dx, (∀ b o, b ≠ x → s.heap.get? b = some o → h'.get? b = some o) → s.heap.objs.size ≤ dx → dx ≠ x → h'.get? x = some { cls := .ref C, dict := some dx, data := .fields fv } →
      h'.Ns1 dx (fun y => if y = name then some v else none) → R (.ok (.ret .none)) { s with heap := h', toks := tk' }) :
    codeAny (model prog w) A (.call (.builtin "object.__setattr__") ⟨[.ref x, .str name tk, v], []⟩) R s := by
  have J : W.InstAt s.heap x { cls := .ref C, data := .fields fv } C none := ⟨hx, rfl, rfl, trivial⟩
  have hk : W.Looks (model prog w) s.heap (classData C) cd := W.looks_clsIn X hcd
  refine W.osa_openX SF X J ov ht fun b => ?_
  obtain ⟨hp, g, d, t, os⟩ := s
  have xs : x ≠ hp.objs.size := Nat.ne_of_lt (Heap.lt_size hx)
  show wpAny _ _ (storeInOwnDict (.ref x) (.ref C) (.str name tk) name v b) _ _ _
  obtain ⟨nm, bs, mro, ns, qn, hdd, sn, sb, ab, col, del⟩ := cd
  obtain rfl : hdd = true := hd
  unfold storeInOwnDict ownDictForStores
  repeat (first
    | with_reducible refine HandSPX.store_in_new ?_ ?_
    | with_reducible refine wpAny_loadPart_at hx ?_
    | with_reducible refine hk.at ?_
    | wp_step)
  · exact ⟨_, #[], _, (Heap.get?_update_ne _ _ _ _ xs.symm).trans (Heap.get?_push_at rfl rfl), rfl, fun e he => absurd he (by simp), fun _ => rfl⟩
  · intro h' tk' hn' hs
    have hx2 := Heap.get?_push_of_some { cls := .type "dict", data := .dict #[] } hx
    refine hq h' tk' hp.objs.size (fun b o hb ho => ?_) (Nat.le_refl _) xs.symm ?_ hn'
    · rw [hs.2 b (Nat.ne_of_lt (Heap.lt_size ho))]
      exact (Heap.get?_update_ne _ _ _ _ hb).trans (Heap.get?_push_of_some _ ho)
    · rw [hs.2 x xs]
      exact Heap.get?_update_self _ hx2 rfl
/-- a further one -/
theorem err_store_old (SF : StoreFacts B bmB "object.__setattr__" "object") (X : K.In s.heap) {dx : Addr} {m0 : Str → Option Value} {ns : List Str} (hx : s.heap.get? x = some { cls := .ref C, dict := some dx, data := .fields fv }) (hn : s.heap.Ns1 dx m0) (hw : Within m0 ns) (hl : ns.length ≤ 1000)
    (ov : W.excOver K C bmB = true) (ht : W.takerIn K C name = some none) (hcd : W.clsIn K C = some cd) (hd : cd.hasDict = true)
    (hq : ∀ h' tk', (∀ b o, b ≠ dx → s.heap.get? b = some o → h'.get? b = some o) → h'.Ns1 dx (fun y => if y = name then some v else m0 y) → R (.ok (.ret .none)) { s with heap := h', toks := tk' }) :
    codeAny (model prog w) A (.call (.builtin "object.__setattr__") ⟨[.ref x, .str name tk, v], []⟩) R s := by
  obtain ⟨oD, esD, epD, hoD, hdD, _⟩ := hn.count hw
  have J : W.InstAt s.heap x { cls := .ref C, dict := some dx, data := .fields fv } C (some oD) := ⟨hx, rfl, rfl, hoD⟩
  have hk : W.Looks (model prog w) s.heap (classData C) cd := W.looks_clsIn X hcd
  refine W.osa_openX SF X J ov ht fun b => ?_
  obtain ⟨hp, g, d, t, os⟩ := s
  show wpAny _ _ (storeInOwnDict (.ref x) (.ref C) (.str name tk) name v b) _ _ _
  obtain ⟨nm, bs, mro, nsA, qn, hdd, sn, sb, ab, col, del⟩ := cd
  obtain rfl : hdd = true := hd
  unfold storeInOwnDict ownDictForStores
  repeat (first
    | with_reducible refine OEX.store_in_old hn hw hl ?_
    | with_reducible refine wpAny_loadPart_at hx ?_
    | with_reducible refine hk.at ?_
    | wp_step)
  intro h' tk' hn' hs
  exact hq h' tk' (fun c o hc ho => (hs.2 c hc).trans ho) hn'
end
end Gd

namespace Gd
open PySem PySem.Spec PyProof.Rows L2
/-- a built-in class over which errors of the program stand: L, by name; B made it -/
structure Base (L initId B newId : String) (bm : List Value) : Prop where
  by_ : ∃ iB bB, ExcBaseFacts B newId iB bB
  up : Above B bm
  lay : LaysB L initId
  hasL : bm.contains (.type L) = true
  st : StoreFacts L bm "object.__setattr__" "object"
/-- what the written part says of an error class over it -/
structure ErrK (K : PySem.W.Frag) (C : Addr) (newId : String) (bm : List Value) : Prop where
  at_ : ∃ nm q N bs sn sub ab col dd k0 k1 k2 k3 k5, K.lookup C = some (excClassObj nm q C N bs bm true sn sub ab col dd k0 k1 k2 k3 k5 newId)
  sa : PySem.W.findIn K (.ref C) "__setattr__" = some (some (.builtin "object.__setattr__"))
  ov : PySem.W.excOver K C bm = true
  xf : XfC K C
  xc : ExcC K C
  kp : PySem.W.keepIn K (.ref C) = true
theorem ErrK.err {K : PySem.W.Frag} {C : Addr} {newId : String} {bm : List Value} (T : ErrK K C newId bm) {h : Heap} (X : K.In h) : ErrAt h C bm newId := by
  obtain ⟨nm, q, N, bs, sn, sub, ab, col, dd, k0, k1, k2, k3, k5, e⟩ := T.at_
  exact ⟨nm, q, N, bs, true, sn, sub, ab, col, dd, k0, k1, k2, k3, k5, X _ _ e⟩
theorem ErrK.cd {K : PySem.W.Frag} {C : Addr} {newId : String} {bm : List Value} (T : ErrK K C newId bm) : ∃ cd, PySem.W.clsIn K C = some cd ∧ cd.hasDict = true := by
  obtain ⟨nm, q, N, bs, sn, sub, ab, col, dd, k0, k1, k2, k3, k5, e⟩ := T.at_
  refine ⟨{ name := nm, bases := bs, mro := .ref C :: bm, ns := N, qualname := q, hasDict := true, slotNames := sn, subclasses := sub, abstract := ab, collection := col, hasDel := false }, ?_, rfl⟩
  unfold PySem.W.clsIn
  rw [e]
  try rfl
theorem taker_none {K : PySem.W.Frag} {C : Addr} {f : Str} (h : PySem.W.findIn K (.ref C) f = some none) : PySem.W.takerIn K C f = some none := by
  unfold PySem.W.takerIn
  rw [h]
  try rfl
section
variable {X : Cx} {pins : List (Addr × Obj)} {σ : L2.St} {H : Hp} {s : Shared} {a C dx : Addr} {fs : List (Str × V)} {newId initId B L : String} {bm : List Value}
/-- its dict has come -/
theorem inv_born (I : Inv X pins σ H s) (e : H a = some (exo a C none)) {h' : Heap} {t' : Nat} {t1 : Addr} {m : Str → Option Value} (k : ∀ b o, b ≠ a → s.heap.get? b = some o → h'.get? b = some o) (dn : s.heap.objs.size ≤ dx)
    (hx : h'.get? a = some ({ cls := .ref C, dict := some dx, data := .fields #[.ref t1, .none, .none, .none, .bool false, .none] } : Obj)) (hn : h'.Ns1 dx m) (r : ∀ g, RelO (fs.lookup g) (m g)) :
    Inv X pins σ (upd (upd H dx (exd dx fs)) a (exo a C (some dx))) { s with heap := h', toks := t' } := by
  have fr : H dx = none := I.hok.fresh dn
  have old : ∀ {b o}, s.heap.get? b = some o → b ≠ dx := fun z => Nat.ne_of_lt (Nat.lt_of_lt_of_le (Heap.lt_size z) dn)
  have nota : ∀ {b}, H b = none → b ≠ a := fun n z => by
    rw [z, e] at n
    exact absurd n nofun
  have same : ∀ {c u}, H c = some u → c ≠ a → upd (upd H dx (exd dx fs)) a (exo a C (some dx)) c = H c := fun {c u} z n => by rw [upd_ne n, upd_ne (ne_of_none z fr)]
  have un : Un X.fs [] H (upd (upd H dx (exd dx fs)) a (exo a C (some dx))) s.heap h' :=
    { keep := fun b o z n _ _ => k b o (nota n) z
      slot := fun b o z n _ _ => ⟨o.slots, k b o (nota n) z⟩
      free := fun b o z n _ => (upd_ne (nota n)).trans ((upd_ne (old z)).trans n)
      there := fun b o z _ => if hb : b = a then ⟨_, hb ▸ hx⟩ else ⟨o, k b o hb z⟩
      tups := fun b xs z => (same z (at_ne e z exo_tup)).trans z
      frzs := fun b o v z => (same z (at_ne e z exo_frz)).trans z
      tbls := fun b ps z => ⟨#[], by rw [same z (at_ne e z exo_tbl), z]; simp⟩ }
  refine I.un (t' := t') un fun b o z => ?_
  by_cases ha : b = a
  · subst ha
    rw [upd_same] at z
    obtain rfl := Option.some.inj z
    exact exo_ok hx
  rw [upd_ne ha] at z
  by_cases hd : b = dx
  · subst hd
    rw [upd_same] at z
    obtain rfl := Option.some.inj z
    exact exd_ok hn r
  rw [upd_ne hd] at z
  exact (I.hok b o z).stay (fun c v hc y => k c v (hc.elim (fun h => h ▸ ha) fun h => at_ne e h exo_own) y) (fun c hc => (same hc (at_ne e hc exo_own)).trans hc) fun c xs hc => (same hc (at_ne e hc exo_tup)).trans hc
theorem est_new (D : Base L initId B newId bm) (T : ErrK X.K C newId bm) (I : Inv X pins σ H s) (e : H a = some (exo a C none)) {f : Str} (hno : PySem.W.findIn X.K (.ref C) f = some none) {y : V} {u : Value} (ry : RelV y u) {Q : Unit → Shared → Prop} {E : Value → Shared → Prop} {A : Around}
    (h : ∀ dx s', H dx = none → dx ≠ a → Inv X pins σ (upd (upd H dx (exd dx [(f, y)])) a (exo a C (some dx))) s' → Q () s') : wpAny (model X.prog X.w) A (setAttr (.ref a) f u) Q E s := by
  obtain ⟨cd, hcd, hd⟩ := T.cd
  obtain ⟨t1, ho⟩ := exo_at I.hok e
  refine PySem.W.set_plain I.kIn (ox := { cls := .ref C, dict := none, data := .fields #[.ref t1, .none, .none, .none, .bool false, .none] }) (od := none) ⟨ho, rfl, rfl, trivial⟩ T.sa ?_
  refine err_store_new D.st I.kIn ho T.ov (taker_none hno) hcd hd fun h' tk' dx k dn dne hx hn => ?_
  exact h dx _ (I.hok.fresh dn) dne (inv_born (t' := tk') I e k dn hx hn (relO_put (fs := []) ry fun _ => True.intro))
theorem est_old (D : Base L initId B newId bm) (T : ErrK X.K C newId bm) (I : Inv X pins σ H s) (e : H a = some (exo a C (some dx))) (ed : H dx = some (exd dx fs)) (hl : fs.length ≤ 900) {f : Str} (hno : PySem.W.findIn X.K (.ref C) f = some none) {y : V} {u : Value} (ry : RelV y u) {Q : Unit → Shared → Prop}
    {E : Value → Shared → Prop} {A : Around} (h : ∀ s', Inv X pins σ (upd H dx (exd dx ((f, y) :: fs))) s' → Q () s') : wpAny (model X.prog X.w) A (setAttr (.ref a) f u) Q E s := by
  obtain ⟨cd, hcd, hd⟩ := T.cd
  obtain ⟨t1, ho⟩ := exo_at I.hok e
  obtain ⟨m, hns, rel⟩ := exd_at I.hok ed
  have hw := within_of rel
  obtain ⟨oD, _, _, hoD, _, _⟩ := hns.count hw
  refine PySem.W.set_plain I.kIn (ox := { cls := .ref C, dict := some dx, data := .fields #[.ref t1, .none, .none, .none, .bool false, .none] }) (od := some oD) ⟨ho, rfl, rfl, hoD⟩ T.sa ?_
  refine err_store_old D.st I.kIn ho hns hw (by rw [List.length_map]; omega) T.ov (taker_none hno) hcd hd fun h' tk' k hn => ?_
  have ex : ∃ o, h'.get? dx = some o := hn.elim fun o z => z.elim fun _ z => z.elim fun _ z => ⟨o, z.1⟩
  exact h _ (I.write (t' := tk') (x := dx) (e := dx) (o := exd dx ((f, y) :: fs)) (by rw [ed]; trivial) (.inl rfl) k ex (exd_ok hn (relO_put ry rel)))
/-- B.__init__(self, ..) -/
theorem einit (D : Base L initId B newId bm) (T : ErrK X.K C newId bm) (I : Inv X pins σ H s) (e : H a = some (exo a C none)) {us : List Value} (hl : us.length ≤ sizeLine) {Q : Value → Shared → Prop} {E : Value → Shared → Prop} {A : Around}
    (h : ∀ s', Inv X pins σ H s' → Q .none s') : wpAny (model X.prog X.w) A (call (.builtin initId) (.ref a :: us)) Q E s := by
  obtain ⟨t1, ho⟩ := exo_at I.hok e
  refine wpAny_call (err_init_run D.lay D.hasL (T.err I.kIn) ho hl fun h' t2 k hx => ?_)
  have J := I.write (t' := s.toks) (x := a) (e := a) (o := exo a C none) (by rw [e]; trivial) (.inl rfl) k ⟨_, hx⟩ (exo_ok hx)
  have eq : upd H a (exo a C none) = H := funext fun b => if hb : b = a then by rw [hb, upd_same, e] else upd_ne hb
  rw [eq] at J
  exact h _ J
end
end Gd

namespace Gd
open PySem PySem.Spec PyProof.Rows L2
/-! ### readings -/
/-- L.__init__(self, ..) -/
def tEin (K : PySem.W.Frag) (L initId : String) (ta : TA) : TE := fun σ H Q => ta σ H fun vs H1 => ∃ (a C : Addr) (ws : List V) (B newId : String) (bm : List Value), vs = .ref a :: ws ∧ ws.length ≤ 1000 ∧ Base L initId B newId bm ∧ ErrK K C newId bm ∧ H1 a = some (exo a C none) ∧ Q .non H1
/-- self.f = e -/
def tEst (K : PySem.W.Frag) (f : Str) (to te : TE) : TS := fun D σ H => te σ H fun y H1 => to σ H1 fun x H2 => ∃ (a C : Addr) (L initId B newId : String) (bm : List Value), x = .ref a ∧ Base L initId B newId bm ∧ ErrK K C newId bm ∧ PySem.W.findIn K (.ref C) f = some none ∧
  ((H2 a = some (exo a C none) ∧ ∀ dx, H2 dx = none → dx ≠ a → D.nx σ (upd (upd H2 dx (exd dx [(f, y)])) a (exo a C (some dx)))) ∨
    ∃ (dx : Addr) (fs : List (Str × V)), H2 a = some (exo a C (some dx)) ∧ H2 dx = some (exd dx fs) ∧ fs.length ≤ 900 ∧ D.nx σ (upd H2 dx (exd dx ((f, y) :: fs))))
/-- C(..), C's own __init__ keeping sp -/
def tMkE (C : Addr) (sp : Sp) (E : XK) (ta : TA) : TE := fun σ H Q => ta σ H fun vs H1 => vs.length ≤ 1000 ∧ ∀ a, H1 a = none → sp (.ref a :: vs) (upd H1 a (exo a C none)) (fun v H2 => v = .non ∧ Q (.ref a) H2) E
/-- x.f -/
def tFld (K : PySem.W.Frag) (f : Str) (te : TE) : TE := fun σ H Q => te σ H fun x H1 => ∃ (a C dx : Addr) (fs : List (Str × V)) (v : V), x = .ref a ∧ XfC K C ∧ PySem.W.findIn K (.ref C) f = some none ∧ H1 a = some (exo a C (some dx)) ∧ H1 dx = some (exd dx fs) ∧ fs.lookup f = some v ∧ Q v H1
section
variable {X : Cx} {o e : Expr} {es : List Expr} {to te : TE} {ta : TA} {f : Str} {p p' p1 p2 pos : Pos} {L initId B newId : String} {bm : List Value}
theorem pe_einit {pl : Sem Bool} (hg : Gl X (Str.ofString L)) (hm : X.mg (Str.ofString L) = none) (bo : bootBuiltins (Str.ofString L) = some (.type L)) (ty : typeOf (.type L) = pure (.type "type")) (ns : Manifest.isStub L = false)
    (fc : PySem.W.findCls X.K (.type L) (.type "type") "__init__" = some (.val (.builtin initId))) (ha : PA X (e :: es) ta)
    (hc : eval (.Call (.Attribute (.Name (Str.ofString L) p1) "__init__" p2) (e :: es) [] pos) X.env = (do
      let ov ← eval (.Name (Str.ofString L) p1) X.env
      standAt p2.atName
      let (f, first) ← holding [ov] (getMethod ov "__init__" pl)
      callWith pos f first (backTo pos (starEach (e :: es) X.env)) (backToKw pos (keywordEach [] X.env))) := by rfl)
    (n1 : Str.ofString L ≠ "__name__" := by decide) (n2 : (Str.ofString L == ("__debug__" : Str)) = false := by decide) (hh : PySem.W.handedIn (.builtin initId) = true := by decide +kernel)
    (he : starEach (e :: es) X.env = (false, eval e X.env) :: starEach es X.env := by rfl) (hpl : (backTo pos (starEach es X.env)).any (·.1) = false := by rfl) :
    PE X (.Call (.Attribute (.Name (Str.ofString L) p1) "__init__" p2) (e :: es) [] pos) (tEin X.K L initId ta) := by
  refine ⟨fun pins s σ H Q I h => PySem.W.methodCall_KW (ld_blt I hg hm bo ?_ n1 n2) hc⟩
  obtain ⟨m, fr⟩ := I.fr
  refine PySem.W.method_type fr I.ok.mod.kin ty ns fc hh ?_
  show wpAny _ _ (callWith pos (Value.builtin initId) [] (backTo pos (starEach (e :: es) X.env)) []) _ _ _
  refine callWith_method1 (thn (ha.run pos pins _ σ H _ (I.tok _) h) fun us s1 ⟨vs, H1, I1, r1, a, C, ws, B, newId, bm, ev, hl, D, T, ea, q⟩ => ?_) he hpl
  subst ev
  cases r1 with
  | @cons _ u0 _ ur ra rr =>
    obtain rfl : u0 = Value.ref a := ra
    exact einit D T I1 ea (by rw [← Paired.length rr, sizeLine_eq]; omega) fun s' J => ⟨.non, H1, J, rfl, q⟩
theorem ps_est (ho : PE X o to) (he : PE X e te) (hs : swapsWith e (some (.Attribute o f p')) pos.line X.env = pure false := by rfl) : PS X (.Assign [.Attribute o f p'] e pos) (tEst X.K f to te) := by
  refine ⟨fun pins s σ H D I h => plainObj_wpAny_Assign_Attribute ?_ hs⟩
  refine thn (he.run pins s σ H _ I h) fun v s1 ⟨y, H1, I1, ry, q1⟩ => thn (ho.run pins s1 σ H1 _ I1 q1) fun u s2 ⟨x, H2, I2, rx, a, C, L, initId, B, newId, bm, ex, Db, T, hno, q⟩ => ?_
  subst ex
  obtain rfl : u = Value.ref a := rx
  rcases q with ⟨ea, q⟩ | ⟨dx, fs, ea, ed, hl, q⟩
  · exact est_new Db T I2 ea hno ry fun dx s' n ne J => ⟨σ, _, J, q dx n ne⟩
  · exact est_old Db T I2 ea ed hl hno ry fun s' J => ⟨σ, _, J, q⟩
theorem pe_fldE (he : PE X e te) (hb : attributeBase e f X.env (eval e X.env) = eval e X.env := by rfl) : PE X (.Attribute e f pos) (tFld X.K f te) := by
  refine ⟨fun pins s σ H Q I h => attr_of hb (thn (he.run pins s σ H _ I h) fun u s1 ⟨x, H1, I1, rx, a, C, dx, fs, v, ex, T, hno, ea, ed, l, q⟩ => ?_)⟩
  subst ex
  obtain rfl : u = Value.ref a := rx
  obtain ⟨t1, ho⟩ := exo_at I1.hok ea
  obtain ⟨m, hns, rel⟩ := exd_at I1.hok ed
  obtain ⟨od, hod, look⟩ := lookIn_ns hns
  obtain ⟨u, hu, ru⟩ := RelO.some_of (v := v) (o := m f) (by rw [← l]; exact rel f)
  have J : PySem.W.InstAt s1.heap a { cls := .ref C, dict := some dx, data := .fields #[.ref t1, .none, .none, .none, .bool false, .none] } C (some od) := ⟨ho, rfl, rfl, hod⟩
  exact HandSPX.exc_get I1.kIn J T.ga T.gg T.exC (PySem.W.findObj_own T.hdC hno rfl (by rw [look, hu])) (handed_of ru) ⟨v, H1, I1.tok _, ru, q⟩
end
section
variable {X : Cx} {e : Expr} {es : List Expr} {ta : TA} {p pos : Pos} {L initId B newId : String} {bm : List Value} {cx : CXT} {x : Str} {C fI : Addr} {k : Nat} {fd : FuncData} {ps : List Str} {sp : Sp} {E : XK}
/-- the class called with values that are there -/
theorem mk_run (D : Base L initId B newId bm) (T : ErrK X.K C newId bm) (iC : PySem.W.findIn X.K (.ref C) "__init__" = some (some (.ref fI))) (tI : PySem.W.typeIn X.K (.ref fI) = some (.type "function")) (F1 : FG X.prog X.w X.K X.mg X.base cx k fI fd ps sp) (hg : X.A.guards = some [])
    (hr : Room (k + 1) X.A) (hb : Binds X.K fd ps []) (hx : Passes cx X E) {pins : List (Addr × Obj)} {σ : L2.St} {H : Hp} {s : Shared} {Q : VK} {us : List Value} {vs : List V} (I : Inv X pins σ H s) (r : Vals vs us)
    (h : vs.length ≤ 1000 ∧ ∀ a, H a = none → sp (.ref a :: vs) (upd H a (exo a C none)) (fun v H2 => v = .non ∧ Q (.ref a) H2) E) : wpAny (model X.prog X.w) X.A (call (.ref C) us) (EP X pins σ Q) X.xe s := by
  obtain ⟨hz, h⟩ := h
  obtain ⟨iB, bB, F⟩ := D.by_
  have le := Nat.le_succ s.heap.objs.size
  have q := h (s.heap.objs.size + 1) (I.hok.fresh le)
  have J : Inv X pins σ (upd H (s.heap.objs.size + 1) (exo (s.heap.objs.size + 1) C none)) { s with heap := bornH s.heap C us } := I.laid (t' := s.toks) (fun b o e => born_old e) le (exo_ok born_at)
  have r2 : Vals (V.ref (s.heap.objs.size + 1) :: vs) (Value.ref (s.heap.objs.size + 1) :: us) := .cons rfl r
  have hl : (Value.ref (s.heap.objs.size + 1) :: us).length = ps.length := r2.length.symm.trans (F1.len _ _ _ _ q)
  have hbt : BindsTo { s with heap := bornH s.heap C us } fd ⟨Value.ref (s.heap.objs.size + 1) :: us, []⟩ (ps.zip (Value.ref (s.heap.objs.size + 1) :: us)) := by
    have z := hb { s with heap := bornH s.heap C us } (Value.ref (s.heap.objs.size + 1) :: us) J.kIn (by rw [List.append_nil]; exact hl)
    rw [List.append_nil] at z
    exact z
  refine wpAny_call (err_call F D.up (T.err I.kIn) (by rw [← r.length, sizeLine_eq]; omega) (PySem.W.looks_findIn I.kIn iC) (fun self => PySem.W.bind_fn I.kIn self tI)
    (codeAny_mono (F1.run _ X.stack _ _ ⟨Value.ref (s.heap.objs.size + 1) :: us, []⟩ _ _ _ E (by exact hg) (hr.make C us []) (J.env0.make C us []) hbt r2 q) fun res s2 z => ?_))
  match res, z with
  | .error er, z => exact hx pins σ _ _ er s2 J z
  | .ok (.ret u), z =>
    obtain ⟨v, H2, os2, bare2, un2, hok2, rv, ev, q2⟩ := z
    subst ev
    exact ⟨rv, .ref (s.heap.objs.size + 1), H2, J.call' (ch := []) os2 un2 hok2 bare2 (fun b z => absurd z (by simp)), rfl, q2⟩
theorem pe_mkE (D : Base L initId B newId bm) (T : ErrK X.K C newId bm) (iC : PySem.W.findIn X.K (.ref C) "__init__" = some (some (.ref fI))) (tI : PySem.W.typeIn X.K (.ref fI) = some (.type "function")) (F1 : FG X.prog X.w X.K X.mg X.base cx k fI fd ps sp) (hg : X.A.guards = some [])
    (hr : Room (k + 1) X.A) (hb : Binds X.K fd ps []) (hx : Passes cx X E) (hgl : Gl X x) (hm : X.mg x = some (.ref C)) (ha : PA X (e :: es) ta)
    (hdb : (x == ("__debug__" : Str)) = false := by decide) (he : starEach (e :: es) X.env = (false, eval e X.env) :: starEach es X.env := by rfl) (hpl : (backTo pos (starEach es X.env)).any (·.1) = false := by rfl) :
    PE X (.Call (.Name x p) (e :: es) [] pos) (tMkE C sp E ta) := by
  refine ⟨fun pins s σ H Q I h => wpAny_Call_Name_kw (ld_glob I hgl hm ?_ hdb)⟩
  exact PySem.W.callWith_K (h₀ := X.base) I.ok.mod.kin T.kp (thn (ha.run pos pins s σ H _ I h) fun us s1 ⟨vs, H1, I1, r, q⟩ => ⟨I1.kIn, mk_run D T iC tI F1 hg hr hb hx I1 r q⟩) he hpl
theorem pe_mkE0 (D : Base L initId B newId bm) (T : ErrK X.K C newId bm) (iC : PySem.W.findIn X.K (.ref C) "__init__" = some (some (.ref fI))) (tI : PySem.W.typeIn X.K (.ref fI) = some (.type "function")) (F1 : FG X.prog X.w X.K X.mg X.base cx k fI fd ps sp) (hg : X.A.guards = some [])
    (hr : Room (k + 1) X.A) (hb : Binds X.K fd ps []) (hx : Passes cx X E) (hgl : Gl X x) (hm : X.mg x = some (.ref C)) (hdb : (x == ("__debug__" : Str)) = false := by decide) :
    PE X (.Call (.Name x p) [] [] pos) (tMkE C sp E tNil) := by
  refine ⟨fun pins s σ H Q I h => wpAny_Call_Name_kw (ld_glob I hgl hm ?_ hdb)⟩
  exact PySem.W.callWith_K0 I.kIn T.kp (mk_run D T iC tI F1 hg hr hb hx I .nil h)
end
end Gd

namespace Gd
open PySem PySem.Spec PyProof.Rows L2
/-! ### isinstance of an error that is a value -/
/-- an error of the program, with its dict or without -/
def ErrV (H : Hp) (a C : Addr) : Prop := H a = some (exo a C none) ∨ ∃ dx fs, H a = some (exo a C (some dx)) ∧ H dx = some (exd dx fs)
def rIsX (K : PySem.W.Frag) : List V → Hp → VK → Prop := fun xs H Q => ∃ (a C : Addr) (c : V) (u : Value) (b : Bool), xs = [.ref a, c] ∧ ClsV c u ∧ ExcC K C ∧ ErrV H a C ∧ PySem.W.kitOne K (.ref C) u = some b ∧ Q (.bl b) H
def rIsXT (K : PySem.W.Frag) : List V → Hp → VK → Prop := fun xs H Q => ∃ (a C tp : Addr) (cs : List V) (us : List Value) (b : Bool), xs = [.ref a, .ref tp] ∧ H tp = some (.tup cs) ∧ Paired ClsV cs us ∧ ExcC K C ∧ ErrV H a C ∧ PySem.W.kitAny K (.ref C) us = some b ∧ Q (.bl b) H
section
variable {X : Cx} {pins : List (Addr × Obj)} {σ : L2.St} {H : Hp} {s : Shared} {a C : Addr}
theorem err_inst (I : Inv X pins σ H s) (h : ErrV H a C) : ∃ ox od, PySem.W.InstAt s.heap a ox C od := by
  rcases h with h | ⟨dx, fs, h, hd⟩
  · obtain ⟨t1, ho⟩ := exo_at I.hok h
    exact ⟨_, none, ho, rfl, rfl, trivial⟩
  · obtain ⟨t1, ho⟩ := exo_at I.hok h
    obtain ⟨m, hns, _⟩ := exd_at I.hok hd
    obtain ⟨od, hod, _⟩ := lookIn_ns hns
    exact ⟨_, some od, ho, rfl, rfl, hod⟩
theorem err_kit {K : PySem.W.Frag} {ox : Obj} {od : Option Obj} (T : ExcC K C) : PySem.W.KitX K (.ref a) (.ref C) (fun h => PySem.W.InstAt h a ox C od) := by
  have hc : (PySem.W.clsIn K C).isSome = true := by
    obtain ⟨cd, e, _⟩ := PySem.W.any_some T.hd
    rw [e]
    rfl
  exact PySem.W.kitx_exc hc T.hg T.hk T.hs T.ha T.hn T.ht T.hm
theorem call_isX : CallR X (.builtin "isinstance") (rIsX X.K) := by
  intro pins s σ H xs us Q I r h
  obtain ⟨a, C, c, u, b, rfl, k, T, ev, e, q⟩ := h
  obtain ⟨u1, u2, rfl, r1, r2⟩ := vals2 r
  obtain rfl := k.eq r2
  obtain rfl : u1 = Value.ref a := r1
  obtain ⟨ox, od, J⟩ := err_inst I ev
  exact PySem.W.kia_one (err_kit (ox := ox) (od := od) T) I.kIn J e nofun fun tk => ⟨.bl b, H, I.tok tk, rfl, q⟩
theorem call_isXT : CallR X (.builtin "isinstance") (rIsXT X.K) := by
  intro pins s σ H xs us Q I r h
  obtain ⟨a, C, tp, cs, ws, b, rfl, hT, k, T, ev, e, q⟩ := h
  obtain ⟨u1, u2, rfl, r1, r2⟩ := vals2 r
  obtain rfl : u1 = Value.ref a := r1
  obtain rfl : u2 = Value.ref tp := r2
  obtain ⟨ox, od, J⟩ := err_inst I ev
  have htp : ObjOk X.prog X.w H s.heap tp (.tup cs) := I.hok tp _ hT
  obtain ⟨_, its, rv, ⟨oc, odd, dt, sl⟩, h1, h2, n, h3⟩ := htp
  obtain rfl := ClsV.all k rv
  simp only at h2 h3
  subst h2 h3
  exact PySem.W.kia_tup (err_kit (ox := ox) (od := od) T) I.kIn J h1 e nofun fun tk => ⟨.bl b, H, I.tok tk, rfl, q⟩
end
end Gd

namespace Gd
open PySem PySem.Spec PyProof.Rows L2
/-- the classes above, by their names -/
abbrev upTo (ns : List String) : List Value := (ns ++ ["BaseException", "object"]).map Value.type
theorem base_ValueError : Base "ValueError" "ValueError.__init__" "ValueError" "ValueError.__new__" (upTo ["ValueError", "Exception"]) :=
  ⟨⟨_, _, F.excBase_ValueError⟩, ⟨by decide +kernel, by decide +kernel, by decide +kernel⟩, .of F.excCall_ValueError, by decide +kernel, F.store_ValueError⟩
theorem base_LookupError : Base "LookupError" "LookupError.__init__" "LookupError" "LookupError.__new__" (upTo ["LookupError", "Exception"]) :=
  ⟨⟨_, _, F.excBase_LookupError⟩, ⟨by decide +kernel, by decide +kernel, by decide +kernel⟩, .of F.excCall_LookupError, by decide +kernel, F.store_LookupError⟩
theorem base_IndexError : Base "IndexError" "IndexError.__init__" "IndexError" "IndexError.__new__" (upTo ["IndexError", "LookupError", "Exception"]) :=
  ⟨⟨_, _, F.excBase_IndexError⟩, ⟨by decide +kernel, by decide +kernel, by decide +kernel⟩, .of F.excCall_IndexError, by decide +kernel, F.store_IndexError⟩
theorem base_OverflowError : Base "OverflowError" "OverflowError.__init__" "OverflowError" "OverflowError.__new__" (upTo ["OverflowError", "ArithmeticError", "Exception"]) :=
  ⟨⟨_, _, F.excBase_OverflowError⟩, ⟨by decide +kernel, by decide +kernel, by decide +kernel⟩, .of F.excCall_OverflowError, by decide +kernel, F.store_OverflowError⟩
theorem base_ArithmeticError : Base "ArithmeticError" "ArithmeticError.__init__" "ArithmeticError" "ArithmeticError.__new__" (upTo ["ArithmeticError", "Exception"]) :=
  ⟨⟨_, _, F.excBase_ArithmeticError⟩, ⟨by decide +kernel, by decide +kernel, by decide +kernel⟩, .of F.excCall_ArithmeticError, by decide +kernel, F.store_ArithmeticError⟩
theorem base_RuntimeError : Base "RuntimeError" "RuntimeError.__init__" "RuntimeError" "RuntimeError.__new__" (upTo ["RuntimeError", "Exception"]) :=
  ⟨⟨_, _, F.excBase_RuntimeError⟩, ⟨by decide +kernel, by decide +kernel, by decide +kernel⟩, .of F.excCall_RuntimeError, by decide +kernel, F.store_RuntimeError⟩
theorem base_TypeError : Base "TypeError" "TypeError.__init__" "TypeError" "TypeError.__new__" (upTo ["TypeError", "Exception"]) :=
  ⟨⟨_, _, F.excBase_TypeError⟩, ⟨by decide +kernel, by decide +kernel, by decide +kernel⟩, .of F.excCall_TypeError, by decide +kernel, F.store_TypeError⟩
theorem base_KeyError : Base "KeyError" "KeyError.__init__" "LookupError" "LookupError.__new__" (upTo ["KeyError", "LookupError", "Exception"]) :=
  ⟨⟨_, _, F.excBase_LookupError⟩, ⟨by decide +kernel, by decide +kernel, by decide +kernel⟩, lays_KeyError, by decide +kernel, store_KeyError⟩
theorem boot_err {x : String} (h : bootBuiltins (Str.ofString x) = some (.type x)) : bootBuiltins (Str.ofString x) = some (.type x) := h
theorem boot_ValueError : bootBuiltins (Str.ofString "ValueError") = some (.type "ValueError") := by decide +kernel
theorem tp_ValueError : typeOf (.type "ValueError") = pure (.type "type") := by kernel_rfl
theorem boot_LookupError : bootBuiltins (Str.ofString "LookupError") = some (.type "LookupError") := by decide +kernel
theorem tp_LookupError : typeOf (.type "LookupError") = pure (.type "type") := by kernel_rfl
theorem boot_IndexError : bootBuiltins (Str.ofString "IndexError") = some (.type "IndexError") := by decide +kernel
theorem tp_IndexError : typeOf (.type "IndexError") = pure (.type "type") := by kernel_rfl
theorem boot_OverflowError : bootBuiltins (Str.ofString "OverflowError") = some (.type "OverflowError") := by decide +kernel
theorem tp_OverflowError : typeOf (.type "OverflowError") = pure (.type "type") := by kernel_rfl
theorem boot_ArithmeticError : bootBuiltins (Str.ofString "ArithmeticError") = some (.type "ArithmeticError") := by decide +kernel
theorem tp_ArithmeticError : typeOf (.type "ArithmeticError") = pure (.type "type") := by kernel_rfl
theorem boot_RuntimeError : bootBuiltins (Str.ofString "RuntimeError") = some (.type "RuntimeError") := by decide +kernel
theorem tp_RuntimeError : typeOf (.type "RuntimeError") = pure (.type "type") := by kernel_rfl
theorem boot_TypeError : bootBuiltins (Str.ofString "TypeError") = some (.type "TypeError") := by decide +kernel
theorem tp_TypeError : typeOf (.type "TypeError") = pure (.type "type") := by kernel_rfl
theorem boot_KeyError : bootBuiltins (Str.ofString "KeyError") = some (.type "KeyError") := by decide +kernel
theorem tp_KeyError : typeOf (.type "KeyError") = pure (.type "type") := by kernel_rfl
end Gd

namespace Gd
open PySem PySem.Spec PyProof.Rows L2
/-! ### a text, times -/
def rMulS : R2 := fun x y H Q => ∃ (s : Str) (n : Int), x = .str s ∧ y = .int n ∧ MulOk s n ∧ Q (.str (PySem.Txt.mul s n)) H
theorem op_mulS {X : Cx} : OpR X (binaryOp .Mult) rMulS := by
  intro pins s σ H x y v u Q I rx ry h
  obtain ⟨i, j, rfl, rfl, hz, q⟩ := h
  obtain ⟨t, rfl⟩ := rx
  obtain ⟨t', rfl⟩ := ry
  exact SB.mul hz fun t' tk => ⟨.str _, H, I.tok _, ⟨_, rfl⟩, q⟩
theorem r_mul6 {H : Hp} {Q : VK} {z w : Str} (hz : PySem.Txt.mul z 6 = w) (hl : z.length = 1) (q : Q (.str w) H) : rMulS (.str z) (.int 6) H Q :=
  ⟨z, 6, rfl, rfl, ⟨by decide, fun _ _ => by rw [hl]; decide, fun _ _ => by rw [hl]; decide +kernel⟩, by rw [hz]; exact q⟩
/-! ### what stands in a term -/
theorem lsz_arg {p : P} (h : isK p 0) : lsz p = 1 + lszs (argP p) := by
  cases p with
  | use n vs => simp [lsz, argP]
  | sig i r => simp [lsz, argP, lszs, Nat.add_assoc]
  | uni ms => simp [lsz, argP]
  | _ => simp [isK] at h
def withA : P → List P → P
  | .use n _, qs => .use n qs
  | .uni _, qs => .uni qs
  | .sig _ _, [i, r] => .sig i r
  | p, _ => p
theorem withA_arg {p : P} (h : isK p 0) : withA p (argP p) = p := by
  cases p with
  | use n vs => rfl
  | sig i r => rfl
  | uni ms => rfl
  | _ => simp [isK] at h
theorem Mx.args {p : P} {qs : List P} (h : isK p 0) (a : A2 Mx (argP p) qs) : Mx p (withA p qs) ∧ hd (withA p qs) = hd p ∧ argP (withA p qs) = qs := by
  cases p with
  | use n vs => exact ⟨Mx.use h a, rfl, rfl⟩
  | uni ms => exact ⟨Mx.uni h (List.Perm.refl _) a, rfl, rfl⟩
  | sig i r =>
    cases a with
    | cons h1 t =>
      cases t with
      | cons h2 t =>
        cases t
        exact ⟨Mx.sig h h1 h2, rfl, rfl⟩
  | _ => simp [isK] at h
theorem made_da {H : Hp} {b a : Addr} {q : P} {xs : List V} (hq : isK q 0) (g : H b = some (.tup (if hd q = ("->" : Str) then .str (hd q) :: xs else [.str (hd q), .ref a]))) (ga : H a = some (.tup xs)) (d : Das H xs (encs (argP q))) : Da H (.ref b) (enc q) := by
  cases q with
  | use n vs =>
    simp only [isK] at hq
    rw [if_neg (show ¬ hd (.use n vs) = ("->" : Str) from of_decide_eq_false hq.2.1.apart.c)] at g
    exact .tup g (.cons (.str _) (.cons (.tup ga d) .nil))
  | sig i r =>
    rw [if_pos (show hd (.sig i r) = ("->" : Str) from rfl)] at g
    exact .tup g (.cons (.str _) d)
  | uni ms =>
    rw [if_neg (show ¬ hd (.uni ms) = ("->" : Str) from by show ¬ ("|" : Str) = ("->" : Str); decide +kernel)] at g
    exact .tup g (.cons (.str _) (.cons (.tup ga d) .nil))
  | _ => simp [isK] at hq
theorem arg_k {p q : P} (h : isK p 0) (hq : q ∈ argP p) : ∃ k, isK q k ∧ k ≠ 2 := by
  cases p with
  | use n vs => simp only [isK] at h; exact ⟨1, isKs_iff.mp h.2.2 q hq, by decide⟩
  | sig i r =>
    simp only [isK] at h
    rcases List.mem_cons.mp hq with rfl | hq
    · exact ⟨3, h.2.1, by decide⟩
    · rw [List.mem_singleton.mp hq]; exact ⟨0, h.2.2, by decide⟩
  | uni ms => simp only [isK] at h; exact ⟨4, isKs_iff.mp h.2.2.2 q hq, by decide⟩
  | _ => simp [isK] at h
theorem Cd.argc {dp wt : Nat} {p q : P} (h : Cd 0 dp wt p) (hq : q ∈ argP p) : ∃ k, k ≠ 2 ∧ Cd k (dp - 1) wt q ∧ 1 + (enc q).depth ≤ dp := by
  have hw := h.argw hq
  cases p with
  | use n vs =>
    obtain ⟨_, b, c⟩ := h.in_use
    obtain ⟨c1, c2⟩ := c q hq
    exact ⟨1, by decide, c1.mono (by omega) hw, by omega⟩
  | sig i r =>
    obtain ⟨b, c, d, e, f⟩ := h.in_sig
    rcases List.mem_cons.mp hq with rfl | hq
    · exact ⟨3, by decide, c.mono (by omega) hw, f⟩
    · have hq := List.mem_singleton.mp hq
      subst hq
      exact ⟨0, by decide, d.mono (by omega) hw, e⟩
  | uni ms =>
    obtain ⟨b, d, _, c⟩ := h.in_uni
    have c1 := c q hq
    have := c1.dep
    exact ⟨4, by decide, c1.mono (by omega) hw, by omega⟩
  | _ => exact (List.not_mem_nil hq).elim
/-! ### keys that differ -/
theorem kc_name {n m : Str} {vs ws : List P} (h1 : isK (.use n vs) 0) (h2 : isK (.use m ws) 0) (ne : n ≠ m) : kc (.use n vs) ≠ kc (.use m ws) := fun e => ne ((faith_kc _ _ 0 0 h1 h2).mp e).1
theorem kc_less {n : Str} {vs : List P} (h1 : isK (.use n vs) 0) (h2 : isK (.use n (vs.drop 1)) 0) (ne : vs ≠ []) : kc (.use n vs) ≠ kc (.use n (vs.drop 1)) := fun e => by
  have h := congrArg List.length ((faith_kc _ _ 0 0 h1 h2).mp e).2
  rw [List.length_map, List.length_map, List.length_drop] at h
  have : vs.length ≠ 0 := fun z => ne (List.eq_nil_of_length_eq_zero z)
  omega
theorem Cd.named {dp wt : Nat} {n m : Str} {vs : List P} (h : Cd 0 dp wt (.use n vs)) (hm : good m) : Cd 0 dp (wt + 100) (.use m vs) := by
  obtain ⟨_, b, c⟩ := h.in_use
  have hd := h.dep
  have h2 : 2 ≤ dp := by simp only [enc, PyData.depth, PyData.depthAll] at hd; omega
  exact (Cd.use (k := 0) (dp := dp - 2) (s := wt) (.inl rfl) hm (fun v hv => ⟨_, (c v hv).1⟩) (by omega)).mono (by omega) (Nat.le_refl _)
theorem Cd.less {dp wt : Nat} {n : Str} {vs : List P} (h : Cd 0 dp wt (.use n vs)) : Cd 0 dp (wt + 100) (.use n (vs.drop 1)) := by
  obtain ⟨g, b, c⟩ := h.in_use
  have hd := h.dep
  have h2 : 2 ≤ dp := by simp only [enc, PyData.depth, PyData.depthAll] at hd; omega
  exact (Cd.use (k := 0) (dp := dp - 2) (s := wt) (.inl rfl) g (fun v hv => ⟨_, (c v (List.mem_of_mem_drop hv)).1⟩) (by have := kws_sl (List.drop_sublist 1 vs); omega)).mono (by omega) (Nat.le_refl _)
/-! ### members joined one by one -/
theorem asP_k {l : List P} (h : ∀ m ∈ l, isK m 4) (hn : l ≠ []) (nd : (l.map lkP).Nodup) : isK (asP l) 0 ∧ memb (asP l) = l := by
  match l, hn with
  | [p], _ => exact ⟨isK_mem (h p List.mem_cons_self), memb4 (h p List.mem_cons_self)⟩
  | p :: q :: r, _ =>
    refine ⟨?_, rfl⟩
    show isK (.uni (p :: q :: r)) 0
    simp only [isK]
    exact ⟨by first | exact .inl rfl | simp, by simp, nd, isKs_iff.mpr h⟩
theorem asP_step {l : List P} {m : P} (h : ∀ x ∈ l ++ [m], isK x 4) (hn : l ≠ []) (nd : ((l ++ [m]).map lkP).Nodup) : ljoin [asP l, m] = asP (l ++ [m]) := by
  have nl : (l.map lkP).Nodup := by
    rw [List.map_append] at nd
    exact (List.nodup_append.mp nd).1
  obtain ⟨k1, e1⟩ := asP_k (fun x hx => h x (List.mem_append_left _ hx)) hn nl
  have e2 : foundP [asP l, m] = l ++ [m] := by
    unfold foundP
    rw [List.flatMap_cons, List.flatMap_cons, List.flatMap_nil, List.append_nil, e1, memb4 (h m (List.mem_append_right _ List.mem_cons_self))]
    exact fold_id (l ++ [m]) [] (by rw [List.nil_append]; exact nd)
  rw [ljoin_asP, e2]
theorem nd_take {l : List P} {i : Nat} (nd : (l.map lkP).Nodup) : ((l.take i).map lkP).Nodup := by
  rw [List.map_take]
  exact nd.sublist (List.take_sublist _ _)
end Gd
namespace Gd
open PySem PySem.Spec PyProof.Rows L2
theorem kinds {p : P} {k : Nat} (h : isK p k) : (∃ n, p = .star n) ∨ (∃ t, p = .dots t) ∨
    ((decide (hd p = ("*" : Str)) = false ∧ decide (hd p = ("..." : Str)) = false ∧ (decide (hd p = ("[]" : Str)) || decide (hd p = ("()" : Str))) = true) ∧ sec p = .tuple (encs (inn p)) ∧ ∀ q ∈ inn p, isK q 2) ∨
    ((decide (hd p = ("*" : Str)) = false ∧ decide (hd p = ("..." : Str)) = false ∧ (decide (hd p = ("[]" : Str)) || decide (hd p = ("()" : Str))) = false) ∧ isK p 0) := by
  cases p with
  | star n => exact .inl ⟨_, rfl⟩
  | dots t => exact .inr (.inl ⟨_, rfl⟩)
  | tail s => simp [isK] at h
  | row xs =>
    simp only [isK] at h
    exact .inr (.inr (.inl ⟨⟨by show decide (("[]" : Str) = ("*" : Str)) = false; decide +kernel, by show decide (("[]" : Str) = ("..." : Str)) = false; decide +kernel, by show (decide (("[]" : Str) = ("[]" : Str)) || decide (("[]" : Str) = ("()" : Str))) = true; decide +kernel⟩, rfl, fun q hq => isKs_iff.mp h.2 q hq⟩))
  | inp xs tl =>
    simp only [isK] at h
    exact .inr (.inr (.inl ⟨⟨by show decide (("()" : Str) = ("*" : Str)) = false; decide +kernel, by show decide (("()" : Str) = ("..." : Str)) = false; decide +kernel, by show (decide (("()" : Str) = ("[]" : Str)) || decide (("()" : Str) = ("()" : Str))) = true; decide +kernel⟩, rfl, fun q hq => isKs_iff.mp h.2.1 q hq⟩))
  | use n vs =>
    simp only [isK] at h
    have a := h.2.1.apart
    refine .inr (.inr (.inr ⟨⟨a.a, a.d, ?_⟩, ?_⟩))
    · show (decide (n = ("[]" : Str)) || decide (n = ("()" : Str))) = false
      rw [a.f, a.e]; rfl
    · simp only [isK]; exact ⟨by first | exact .inl rfl | simp, h.2⟩
  | sig i r =>
    refine .inr (.inr (.inr ⟨⟨by show decide (("->" : Str) = ("*" : Str)) = false; decide +kernel, by show decide (("->" : Str) = ("..." : Str)) = false; decide +kernel, by show (decide (("->" : Str) = ("[]" : Str)) || decide (("->" : Str) = ("()" : Str))) = false; decide +kernel⟩, ?_⟩))
    simp only [isK] at h ⊢
    exact ⟨by first | exact .inl rfl | simp, h.2⟩
  | uni ms =>
    refine .inr (.inr (.inr ⟨⟨by show decide (("|" : Str) = ("*" : Str)) = false; decide +kernel, by show decide (("|" : Str) = ("..." : Str)) = false; decide +kernel, by show (decide (("|" : Str) = ("[]" : Str)) || decide (("|" : Str) = ("()" : Str))) = false; decide +kernel⟩, ?_⟩))
    simp only [isK] at h ⊢
    exact ⟨by first | exact .inl rfl | simp, h.2⟩
/-- what stands in a row or inputs -/
theorem Cd.innc {k dp wt : Nat} {p q : P} (h : Cd k dp wt p) (hn : isNd p = false) (hq : q ∈ inn p) : Cd 2 dp wt q ∧ (enc q).depth + 2 ≤ (enc p).depth := by
  cases p with
  | row xs =>
    obtain ⟨a, b, c⟩ := h.tight.in_row
    have c1 := c q hq
    have := c1.dep
    have hw := h.wgt
    have hd := h.dep
    have := kw_in (l := xs) hq
    exact ⟨c1.mono (by omega) (by omega), by omega⟩
  | inp xs tl =>
    obtain ⟨a, b, _, c⟩ := h.tight.in_inp
    have c1 := c q hq
    have := c1.dep
    have hw := h.wgt
    have hd := h.dep
    have := kw_in (l := xs) hq
    exact ⟨c1.mono (by omega) (by omega), by omega⟩
  | _ => simp [isNd] at hn
end Gd
namespace Gd
open PySem PySem.Spec PyProof.Rows L2
theorem argP_len (p : P) : (argP p).length ≤ (pre p).length := by
  cases p with
  | use n vs => have := pres_len vs; simp only [argP, pre, List.length_cons]; omega
  | uni ms => have := pres_len ms; simp only [argP, pre, List.length_cons]; omega
  | sig i r =>
    rw [pre]
    rw [pre_eq i, pre_eq r]
    simp only [argP, List.length_cons, List.length_nil, List.length_append]
    omega
  | _ => simp [argP]
end Gd
namespace Gd
theorem lszs_snoc : ∀ (l : List P) (q : P), lszs (l ++ [q]) = lszs l + lsz q
  | [], q => by simp [lszs]
  | p :: r, q => by
    have := lszs_snoc r q
    simp only [List.cons_append, lszs, this]
    omega
end Gd
namespace Gd
open PySem PySem.Spec PyProof.Rows L2
theorem Cd.asP {dp wt i : Nat} {ms : List P} (h : Cd 0 dp wt (.uni ms)) : Cd 0 dp (wt + 60) (asP (ms.take (i + 1))) := by
  obtain ⟨b, d2, l2, c⟩ := h.in_uni
  have l64 := h.ok.uni_len
  have nd : (ms.map lkP).Nodup := by have := h.is; simp only [isK] at this; exact this.2.2.1
  have hl : (ms.take (i + 1)).length = min (i + 1) ms.length := List.length_take
  have hs := kws_sl (List.take_sublist (i + 1) ms)
  have cm : ∀ v ∈ ms.take (i + 1), Cd 4 (dp - 2) (kw (enc v)) v := fun v hv => c v (List.mem_of_mem_take hv)
  match hm : ms.take (i + 1) with
  | [] => rw [hm] at hl; simp only [List.length_nil] at hl; omega
  | [p] =>
    have cp := cm p (by rw [hm]; simp)
    have := kw_in (x := p) (l := ms) (List.mem_of_mem_take (i := i + 1) (by rw [hm]; simp))
    exact (cp.of4).mono (by omega) (by omega)
  | p :: q :: r =>
    rw [hm] at cm hs hl
    have n2 : ((p :: q :: r).map lkP).Nodup := by rw [← hm]; exact nd_take nd
    exact (Cd.uni (dp := dp - 2) (s := wt) (fun v hv => ⟨_, cm v hv⟩) (by simp) (by omega) n2 (by omega)).mono (by omega) (Nat.le_refl _)
end Gd
namespace Gd
theorem A2.lenE {α β : Type} {R : α → β → Prop} : ∀ {l : List α} {m : List β}, A2 R l m → l.length = m.length
  | _, _, .nil => rfl
  | _, _, .cons _ t => by rw [List.length_cons, List.length_cons, A2.lenE t]
end Gd

namespace Gd
open PySem PySem.Spec PyProof.Rows L2
/-! ### zip of a tuple and a list -/
def ItzM (K : PySem.W.Frag) (a b : Addr) : It where
  go i H := ∃ (xs ys : List V) (x y : V), SqT K H a xs ∧ SqL K H b ys ∧ xs[i]? = some x ∧ ys[i]? = some y
  yld i H v H' := ∃ T x y, v = .ref T ∧ H T = none ∧ H' = upd H T (.tup [x, y]) ∧ (∀ xs, SqT K H a xs → xs[i]? = some x) ∧ ∀ ys, SqL K H b ys → ys[i]? = some y
  stop i H := ∃ xs ys : List V, SqT K H a xs ∧ SqL K H b ys ∧ i ≤ xs.length ∧ i ≤ ys.length ∧ (xs.length = i ∨ ys.length = i)
theorem sep_of {a b z TI TO i1 i2 : Addr} (D : ZipApart z TI TO i1 i2 a b) (h1 : i1 ≠ b) (h2 : i2 ≠ a) : ZipSep2 z TI TO i1 i2 [i1, a] [i2, b] where
  TIz := D.TIz
  TOz := D.TOz
  TITO := D.TITO
  TIi1 := D.TIi1
  mem1 := by simp
  zf1 := by simp [D.i1z.symm, D.l1z.symm]
  Tf1 := by simp [D.TOi1, D.l1TO.symm]
  TIi2 := D.TIi2
  mem2 := by simp
  zf2 := by simp [D.i2z.symm, D.l2z.symm]
  Tf2 := by simp [D.TOi2, D.l2TO.symm]
  sep1_2 := by simp [D.i12, h1]
  sep2_1 := by simp [D.i12.symm, h2]
/-- the five cells of a zip -/
theorem in5 {c z TI TO i1 i2 : Addr} (h : c ∈ [z, TI, TO, i1, i2]) : c = z ∨ c = TI ∨ c = TO ∨ c = i1 ∨ c = i2 := by simpa using h
theorem turn_zipM {P : Program} {w : World} {K : PySem.W.Frag} {elts : List Expr} {kk : Nat} {tpos : Pos} {a b z TI TO i1 i2 : Addr} (D : ZipApart z TI TO i1 i2 a b) :
    Turn P w K (.Tuple elts kk tpos) (ItzM K a b) [z, TI, TO, i1, i2] z (fun i h => IsZip h z TI TO .none ∧ IsTupOf2 h TI (.ref i1) (.ref i2) ∧ (∃ x y, IsTupOf2 h TO x y) ∧ h.IsTupleIter i1 a i ∧ h.IsListIter i2 b i) where
  mem := by simp
  obj := fun i h ⟨hz, hTI, ⟨x, y, hTO⟩, ⟨o1, e1, _, d1⟩, ⟨o2, e2, _, d2⟩⟩ c hc => by
    rcases in5 hc with rfl | rfl | rfl | rfl | rfl
    · exact ⟨_, hz, nofun⟩
    · exact ⟨_, hTI, nofun⟩
    · exact ⟨_, hTO, nofun⟩
    · exact ⟨o1, e1, fun v q => by rw [d1] at q; cases q⟩
    · exact ⟨o2, e2, fun v q => by rw [d2] at q; cases q⟩
  keep := fun i h h' ⟨hz, hTI, ⟨x, y, hTO⟩, h1, h2⟩ k => ⟨k z (by simp) _ hz, k TI (by simp) _ hTI, ⟨x, y, k TO (by simp) _ hTO⟩, h1.at fun o q => k i1 (by simp) o q, h2.at fun o q => k i2 (by simp) o q⟩
  item := by
    intro X hP hw hK hc i pins s σ H E I hf ⟨hz, hTI, ⟨x0, y0, hTO⟩, h1, h2⟩ ⟨xs, ys, x, y, qx, qy, hx, hy⟩
    subst hP hw hK
    obtain ⟨us, ru, pu, _⟩ := I.tuple qx
    obtain ⟨ws, rw', pw, _⟩ := I.list qy
    obtain ⟨u, hu, ru1⟩ := ru.get hx
    obtain ⟨w1, hw, rw1⟩ := rw'.get hy
    have hcal := I.ok.hd hc
    have lu : i < us.toArray.size := by rw [List.size_toArray]; exact (List.getElem?_eq_some_iff.mp hu).1
    have lw : i < ws.toArray.size := by rw [List.size_toArray]; exact (List.getElem?_eq_some_iff.mp hw).1
    have hb1 : i1 ≠ b := fun e => by
      obtain ⟨o1, e1, c1, _⟩ := h1
      obtain ⟨ob, e2, c2, _⟩ := pw.isList
      rw [e, e2] at e1
      obtain rfl := Option.some.inj e1
      rw [c2] at c1
      exact absurd c1 (by decide)
    have hb2 : i2 ≠ a := fun e => by
      obtain ⟨o1, e1, c1, _⟩ := h2
      obtain ⟨ob, e2, c2, _⟩ := pu
      rw [e, e2] at e1
      obtain rfl := Option.some.inj e1
      rw [c2] at c1
      exact absurd c1 (by decide)
    refine wpAny_pyNext_zipD2_item (sep_of D hb1 hb2) (Draws.tuple (A := X.A.in1) hcal i1 a D.l1i1 us.toArray) (Draws.list (A := X.A.in1) hcal i2 b D.l2i2 ws.toArray) hz hTI hTO ⟨h1, pu⟩ ⟨h2, pw.isList⟩ lu lw fun v1 v2 h' tk q1 q2 hz' TO' s1 s2 hT hsz hk => ?_
    obtain rfl : u = v1 := by
      have : us[i]? = some v1 := by simpa using q1
      rw [hu] at this
      exact Option.some.inj this
    obtain rfl : w1 = v2 := by
      have : ws[i]? = some v2 := by simpa using q2
      rw [hw] at this
      exact Option.some.inj this
    have zl : z < s.heap.objs.size := Heap.lt_size hz
    refine ⟨_, rfl, wpAny_letOwnedTupleGo_zip (s := { s with heap := h', toks := tk }) hz' fun h'' z'' sb => ?_⟩
    have kp : ∀ c o, c ∉ [z, TI, TO, i1, i2] → s.heap.get? c = some o → h''.get? c = some o := fun c o nc q => by
      simp only [List.mem_cons, List.not_mem_nil, or_false, not_or] at nc
      exact (sb.2 c nc.1).trans (hk c o nc.1 nc.2.2.1 nc.2.2.2.1 nc.2.2.2.2 q)
    have g2 : h''.get? s.heap.objs.size = some { cls := .type "tuple", data := .seq #[u, w1] } := (sb.2 _ (Nat.ne_of_gt zl)).trans hT
    have new : ObjOk X.prog X.w (upd H s.heap.objs.size (.tup [x, y])) h'' s.heap.objs.size (.tup [x, y]) :=
      ⟨by show 2 ≤ sizeLine; decide, [u, w1], .cons ru1 (.cons rw1 .nil), ⟨_, g2, rfl, _, rfl⟩⟩
    have J : Inv X pins σ (upd H s.heap.objs.size (.tup [x, y])) { s with heap := h'', toks := tk } := I.turnedNew (t' := tk) (ch := [z, TI, TO, i1, i2]) kp hf (Nat.le_refl _) new
    refine ⟨.ref s.heap.objs.size, _, J, rfl, ⟨_, x, y, rfl, I.hok.fresh (Nat.le_refl _), rfl, fun l hl => by rw [I.tuple_inj hl qx]; exact hx, fun l hl => by rw [I.list_inj hl qy]; exact hy⟩, ⟨z'', (sb.2 _ D.TIz).trans (hk _ _ D.TIz D.TITO D.TIi1 D.TIi2 hTI), ⟨u, w1, (sb.2 _ D.TOz).trans TO'⟩, s1.1.at fun o q => (sb.2 _ D.i1z).trans q, s2.1.at fun o q => (sb.2 _ D.i2z).trans q⟩, fun c hcm => ?_⟩
    have hlt : c < s.heap.objs.size := by
      rcases in5 hcm with rfl | rfl | rfl | rfl | rfl
      · exact zl
      · exact Heap.lt_size hTI
      · exact Heap.lt_size hTO
      · obtain ⟨_, e1, _⟩ := h1; exact Heap.lt_size e1
      · obtain ⟨_, e2, _⟩ := h2; exact Heap.lt_size e2
    rw [upd_ne (Nat.ne_of_lt hlt)]
    exact (hf c hcm).1
  done := by
    intro X hP hw hK hc i pins s σ H E I hf ⟨hz, hTI, ⟨x0, y0, hTO⟩, h1, h2⟩ ⟨xs, ys, qx, qy, l1, l2, hend⟩
    subst hP hw hK
    obtain ⟨us, ru, pu, _⟩ := I.tuple qx
    obtain ⟨ws, rw', pw, _⟩ := I.list qy
    have e1 := ru.length
    have e2 := rw'.length
    have hcal := I.ok.hd hc
    have hb1 : i1 ≠ b := fun e => by
      obtain ⟨o1, e1, c1, _⟩ := h1
      obtain ⟨ob, e2, c2, _⟩ := pw.isList
      rw [e, e2] at e1
      obtain rfl := Option.some.inj e1
      rw [c2] at c1
      exact absurd c1 (by decide)
    have hb2 : i2 ≠ a := fun e => by
      obtain ⟨o1, e1, c1, _⟩ := h2
      obtain ⟨ob, e2, c2, _⟩ := pu
      rw [e, e2] at e1
      obtain rfl := Option.some.inj e1
      rw [c2] at c1
      exact absurd c1 (by decide)
    refine wpAny_pyNext_zipD2_end (sep_of D hb1 hb2) (Draws.tuple (A := X.A.in1) hcal i1 a D.l1i1 us.toArray) (Draws.list (A := X.A.in1) hcal i2 b D.l2i2 ws.toArray) hz hTI hTO ⟨h1, pu⟩ ⟨h2, pw.isList⟩ (by rw [List.size_toArray]; omega) (by rw [List.size_toArray]; omega) (by rw [List.size_toArray, List.size_toArray]; omega) fun h' tk hk => ⟨rfl, I.turnedL (t' := tk) (ch := [z, TI, TO, i1, i2]) (fun c o nc q => ?_) hf⟩
    simp only [List.mem_cons, List.not_mem_nil, or_false, not_or] at nc
    exact hk c o nc.1 nc.2.2.1 nc.2.2.2.1 nc.2.2.2.2 q
  self := fun A i s Q E st h => wpAny_pyIter_zip st.1 h
def iZipM (K : PySem.W.Frag) (ta : TA) : TI := fun σ H R => ta σ H fun vs H1 => ∃ a b xs ys, vs = [.ref a, .ref b] ∧ SqT K H1 a xs ∧ SqL K H1 b ys ∧ R (ItzM K a b) H1
end Gd
namespace Gd
open PySem PySem.Spec PyProof.Rows L2
theorem pi_zipM {X : Cx} {e e2 : Expr} {ta : TA} {p pos tpos : Pos} {elts : List Expr} {kk : Nat} (hg : Gl X "zip") (hm : X.mg "zip" = none) (ha : PA X [e, e2] ta)
    (hs : starEach [e, e2] X.env = (false, eval e X.env) :: starEach [e2] X.env := by rfl) (hpl : (backTo pos (starEach [e2] X.env)).any (·.1) = false := by rfl) :
    PI X (.Tuple elts kk tpos) (.Call (.Name "zip" p) [e, e2] [] pos) (iZipM X.K ta) := by
  refine ⟨fun pins s σ H R I h => ?_⟩
  refine Call_ (ld_blt I hg hm PyProof.Rows.boot_zip (PyProof.Rows.callWith_type1 (thn (ha.run pos pins s σ H _ I h) fun us s1 ⟨vs, H1, I1, r1, a, b, xs, ys, ex, qx, qy, q⟩ => ?_) hs hpl))
  subst ex
  cases r1 with
  | cons r rr =>
    cases rr with
    | cons r' rr =>
      cases rr
      cases r
      cases r'
      obtain ⟨us, ru, pu, _⟩ := I1.tuple qx
      obtain ⟨ws, rw', pw, _⟩ := I1.list qy
      obtain ⟨oa, ga, _⟩ := id pu
      have la : a < s1.heap.objs.size := Heap.lt_size ga
      have lb : b < s1.heap.objs.size := pw.lt
      refine zip_begins2 (begins_tuple a us.toArray) (begins_list b ws.toArray) pu pw.isList fun h' hz hTI hTO g1 g2 hsz hk => wpAny_pyIter_zip hz ?_
      have I2 : Inv X pins σ H1 { s1 with heap := h' } := I1.kept (t' := s1.toks) hk
      refine ⟨s1.heap.objs.size + 4, [s1.heap.objs.size + 4, s1.heap.objs.size + 2, s1.heap.objs.size + 3, s1.heap.objs.size, s1.heap.objs.size + 1], _, _, H1, rfl, I2, turn_zipM (PySem.W.ktu_apart s1.heap.objs.size a b la lb), ⟨hz, hTI, ⟨_, _, hTO⟩, ⟨_, g1, rfl, rfl⟩, ⟨_, g2, rfl, rfl⟩⟩, fun c hcm => ?_, q⟩
      have le : s1.heap.objs.size ≤ c := by
        rcases in5 hcm with rfl | rfl | rfl | rfl | rfl <;> first | exact Nat.le_add_right _ _ | exact Nat.le_refl _
      exact I1.fpOk le (I1.hok.fresh le)
section
variable {K : PySem.W.Frag} {g : TG} {tt : TT} {te : TE} {vs : List Nat} {σ : L2.St} {H1 : Hp} {Q : VK}
theorem r_izM {ta : TA} {σ : L2.St} {H : Hp} {R : It → Hp → Prop} (h : ta σ H fun vs H1 => ∃ a b xs ys, vs = [V.ref a, .ref b] ∧ SqT K H1 a xs ∧ SqL K H1 b ys ∧ R (ItzM K a b) H1) : iZipM K ta σ H R := h
theorem lc_Z {a b : Addr} {xs ys : List V} (ha : H1 a = some (.tup xs)) (hb : H1 b = some (.lst ys)) (hl : xs.length = ys.length) (h5 : xs.length ≤ 100000) (R : Addr → Nat → List V → Hp → Prop)
    (h0 : ∀ D H2, H1 D = none → Up H1 H2 → H2 D = some (.lst []) → R D 0 [] H2) (hs : ∀ D i acc H2, R D i acc H2 → H2 a = some (.tup xs) ∧ H2 b = some (.lst ys))
    (ht : ∀ D i x y T acc H2, H1 D = none → xs[i]? = some x → ys[i]? = some y → R D i acc H2 → acc.length ≤ i → i < 100000 → H2 D = some (.lst acc) → H2 T = none →
      ∀ H3, Up H2 H3 → H3 T = some (.tup [x, y]) → g (.ref T) (wipe σ vs) H3 fun σ2 H3 => wipe σ2 vs = wipe σ vs ∧ tt σ2 H3 fun b H4 => if b = true then te σ2 H4 (LcE D (R D) i) else LcP D (R D) (i + 1) H4)
    (hd : ∀ D acc H2, H1 D = none → R D xs.length acc H2 → H2 D = some (.lst acc) → Q (.ref D) H2) :
    ∃ a' b' xs ys, [V.ref a, V.ref b] = [V.ref a', V.ref b'] ∧ SqT K H1 a' xs ∧ SqL K H1 b' ys ∧ lcB (ItzM K a' b') g tt te vs σ Q H1 := by
  refine ⟨a, b, xs, ys, rfl, SqT.of ha, SqL.of hb, fun D hn => ?_⟩
  refine ⟨fun i m H => m = xs.length - i ∧ i ≤ xs.length ∧ LcP D (R D) i H, ⟨xs.length, by simp, Nat.zero_le _, [], h0 D _ hn (Up.new hn) upd_same, Nat.le_refl _, upd_same⟩, ?_⟩
  rintro i m H ⟨rfl, hi, acc, r, l, e⟩
  obtain ⟨e1, e2⟩ := hs D i acc H r
  by_cases hlt : i < xs.length
  · have hx : xs[i]? = some xs[i] := List.getElem?_eq_getElem hlt
    have hy : ys[i]? = some (ys[i]'(by omega)) := List.getElem?_eq_getElem (by omega)
    refine .inr ⟨⟨xs, ys, _, _, SqT.of e1, SqL.of e2, hx, hy⟩, LcP D (R D) (i + 1), fun H' p' => ⟨xs.length - (i + 1), by omega, rfl, hlt, p'⟩, fun v H' ⟨T, x, y, ev, hT, eH, f1, f2⟩ => ?_⟩
    subst ev eH
    exact ht D i x y T acc H hn (f1 xs (SqT.of e1)) (f2 ys (SqL.of e2)) r l (by omega) e hT _ (Up.new hT) upd_same
  · have ei : i = xs.length := by omega
    subst ei
    exact .inl ⟨⟨xs, ys, SqT.of e1, SqL.of e2, Nat.le_refl _, by omega, Or.inl rfl⟩, hd D acc H hn r e⟩
end
end Gd

namespace Gd
open PySem PySem.Spec PyProof.Rows L2
/-! ### texts of parts -/
def parT (m : P) (hs : List Str) (t : Str) : Str := if hd m ∈ hs then ("(" : Str) ++ t ++ (")" : Str) else t
def asV (m : P) (t : Str) : Str := if hd m = ("()" : Str) then ("[" : Str) ++ t ++ ("]" : Str) else t
def isR0 : P → Bool
  | .row [] => true
  | _ => false
def valsT : List P → List Str → List Str
  | v :: vs, t :: ts => if isR0 v = true then valsT vs ts else asV v t :: valsT vs ts
  | _, _ => []
def parsT (hs : List Str) : List P → List Str → List Str
  | v :: vs, t :: ts => parT v hs t :: parsT hs vs ts
  | _, _ => []
def tlx (s : Str) : Str := if s = ("..." : Str) then s else ("**" : Str) ++ s
def tltx : Option Str → List Str
  | none => []
  | some s => [tlx s]
def fin : P → List Str → Str
  | .use n vs, ts => if vs = [] then n else n ++ ("[" : Str) ++ Txt.join (", " : Str) (valsT vs ts) ++ ("]" : Str)
  | .sig _ r, [t0, t1] => ("(" : Str) ++ t0 ++ (") -> " : Str) ++ parT r [("|" : Str)] t1
  | .uni ms, ts => Txt.join (" | " : Str) (parsT [("->" : Str)] ms ts)
  | .row _, ts => Txt.join (", " : Str) ts
  | .inp _ _, ts => Txt.join (", " : Str) ts
  | .star n, _ => ("*" : Str) ++ n
  | .dots t, [t0] => parT t [("|" : Str), ("->" : Str)] t0 ++ ("..." : Str)
  | .tail s, _ => tlx s
  | _, _ => ("" : Str)
mutual
def tx : P → Str
  | .use n vs => fin (.use n vs) (txs vs)
  | .sig i r => fin (.sig i r) [tx i, tx r]
  | .uni ms => fin (.uni ms) (txs ms)
  | .row xs => fin (.row xs) (txs xs)
  | .inp xs tl => fin (.inp xs tl) (txs xs ++ tltx tl)
  | .star n => fin (.star n) []
  | .dots t => fin (.dots t) [tx t]
  | .tail s => fin (.tail s) []
def txs : List P → List Str
  | [] => []
  | p :: r => tx p :: txs r
end
theorem txs_map : ∀ l : List P, txs l = l.map tx
  | [] => rfl
  | p :: r => by simp [txs, txs_map r]
theorem tx_fin (p : P) : tx p = fin p (txs (parts p)) := by
  cases p with
  | inp xs tl =>
    rw [tx]
    cases tl with
    | none => simp [parts, tails, tltx]
    | some s => simp [parts, tails, tltx, txs_map, tx, fin]
  | star n => rw [tx]; rfl
  | tail s => rw [tx]; rfl
  | _ => rw [tx]; rfl
/-! how long they are -/
theorem parT_len (m : P) (hs : List Str) (t : Str) : (parT m hs t).length ≤ t.length + 2 := by
  have e1 : ("(" : Str).length = 1 := by decide +kernel
  have e2 : (")" : Str).length = 1 := by decide +kernel
  unfold parT
  split
  · rw [slen_app, slen_app, e1, e2]; omega
  · omega
theorem asV_len (m : P) (t : Str) : (asV m t).length ≤ t.length + 2 := by
  unfold asV
  split
  · rw [slen_app, slen_app, l_o, l_c]; omega
  · omega
theorem valsT_len : ∀ (vs : List P) (ts : List Str), ((valsT vs ts).map (·.length)).sum + 2 * (valsT vs ts).length ≤ (ts.map (·.length)).sum + 4 * ts.length
  | [], ts => by simp [valsT]
  | _ :: _, [] => by simp [valsT]
  | v :: vs, t :: ts => by
    have h := valsT_len vs ts
    have h2 := asV_len v t
    simp only [valsT]
    split
    · simp only [List.map_cons, List.sum_cons, List.length_cons]; omega
    · simp only [List.map_cons, List.sum_cons, List.length_cons]; omega
theorem parsT_len (hs : List Str) : ∀ (vs : List P) (ts : List Str), ((parsT hs vs ts).map (·.length)).sum + 3 * (parsT hs vs ts).length ≤ (ts.map (·.length)).sum + 5 * ts.length
  | [], ts => by simp [parsT]
  | _ :: _, [] => by simp [parsT]
  | v :: vs, t :: ts => by
    have h := parsT_len hs vs ts
    have h2 := parT_len v hs t
    simp only [parsT, List.map_cons, List.sum_cons, List.length_cons]
    omega
theorem tlx_len (s : Str) : (tlx s).length ≤ s.length + 2 := by
  have e : ("**" : Str).length = 2 := by decide +kernel
  unfold tlx
  split
  · omega
  · rw [slen_app, e]; omega
theorem cs_len : (", " : Str).length = 2 := by decide +kernel
theorem bar_len : (" | " : Str).length = 3 := by decide +kernel
mutual
theorem tx_len : ∀ p : P, (tx p).length ≤ kw (enc p)
  | .use n vs => by
    have h := txs_len vs
    have j := slen_join (", " : Str) (valsT vs (txs vs))
    have v := valsT_len vs (txs vs)
    rw [tx]
    simp only [fin, enc, kw, kws]
    split
    · omega
    · rw [slen_app, slen_app, slen_app, l_o, l_c]
      rw [cs_len] at j
      omega
  | .sig i r => by
    have h1 := tx_len i
    have h2 := tx_len r
    have h3 := parT_len r [("|" : Str)] (tx r)
    have e1 : ("(" : Str).length = 1 := by decide +kernel
    have e2 : (") -> " : Str).length = 5 := by decide +kernel
    rw [tx]
    simp only [fin, enc, kw, kws]
    rw [slen_app, slen_app, slen_app, e1, e2]
    omega
  | .uni ms => by
    have h := txs_len ms
    have j := slen_join (" | " : Str) (parsT [("->" : Str)] ms (txs ms))
    have v := parsT_len [("->" : Str)] ms (txs ms)
    rw [tx]
    simp only [fin, enc, kw, kws]
    rw [bar_len] at j
    omega
  | .row xs => by
    have h := txs_len xs
    have j := slen_join (", " : Str) (txs xs)
    rw [tx]
    simp only [fin, enc, kw, kws]
    rw [cs_len] at j
    omega
  | .inp xs tl => by
    have h := txs_len xs
    have j := slen_join (", " : Str) (txs xs ++ tltx tl)
    rw [tx]
    simp only [fin, enc, kw, kws]
    rw [cs_len, List.map_append, List.sum_append, List.length_append] at j
    have e : ((tltx tl).map (·.length)).sum + 2 * (tltx tl).length ≤ kw (tlD tl) := by
      cases tl with
      | none => simp [tltx]
      | some s =>
        have := tlx_len s
        simp only [tltx, tlD, kw, List.map_cons, List.map_nil, List.sum_cons, List.sum_nil, List.length_cons, List.length_nil]
        omega
    omega
  | .star n => by
    have e : ("*" : Str).length = 1 := by decide +kernel
    rw [tx]
    simp only [fin, enc, kw, kws, slen_app, e]
    omega
  | .dots t => by
    have h := tx_len t
    have h3 := parT_len t [("|" : Str), ("->" : Str)] (tx t)
    have e : ("..." : Str).length = 3 := by decide +kernel
    rw [tx]
    simp only [fin, enc, kw, kws, slen_app, e]
    omega
  | .tail s => by
    have := tlx_len s
    rw [tx]
    simp only [fin, enc, kw, kws]
    omega
theorem txs_len : ∀ l : List P, ((txs l).map (·.length)).sum + 5 * (txs l).length ≤ kws (encs l)
  | [] => by simp [txs]
  | p :: r => by
    have h1 := tx_len p
    have h2 := txs_len r
    simp only [txs, encs, kws, List.map_cons, List.sum_cons, List.length_cons]
    omega
end
/-! a value that is a row without items -/
theorem eqv_row0 {v : P} {k : Nat} (h : isK v k) : PyData.eqv (enc v) (.tuple [.str ("[]" : Str), .tuple []]) = isR0 v := by
  cases v with
  | use n vs =>
    simp only [isK] at h
    have := h.2.1.apart.f
    simp only [enc, PyData.eqv, PyData.eqvAll, isR0]
    rw [show (n == ("[]" : Str)) = false from beq_eq_false_iff_ne.mpr (of_decide_eq_false this)]
    rfl
  | sig i r => simp only [enc, PyData.eqv, PyData.eqvAll, isR0]; rw [show (("->" : Str) == ("[]" : Str)) = false from by decide +kernel]; rfl
  | uni ms => simp only [enc, PyData.eqv, PyData.eqvAll, isR0]; rw [show (("|" : Str) == ("[]" : Str)) = false from by decide +kernel]; rfl
  | row xs =>
    cases xs with
    | nil => simp [enc, encs, PyData.eqv, PyData.eqvAll, isR0]
    | cons a r => simp [enc, encs, PyData.eqv, PyData.eqvAll, isR0]
  | inp xs tl => simp only [enc, PyData.eqv, PyData.eqvAll, isR0]; rw [show (("()" : Str) == ("[]" : Str)) = false from by decide +kernel]; rfl
  | star n => simp only [enc, PyData.eqv, PyData.eqvAll, isR0]; rw [show (("*" : Str) == ("[]" : Str)) = false from by decide +kernel]; rfl
  | dots t => simp only [enc, PyData.eqv, PyData.eqvAll, isR0]; rw [show (("..." : Str) == ("[]" : Str)) = false from by decide +kernel]; rfl
  | tail s => simp [isK] at h
end Gd
namespace Gd
open PySem PySem.Spec PyProof.Rows L2
theorem eqv_row0' {v : P} (h : hok v) : PyData.eqv (enc v) (.tuple [.str ("[]" : Str), .tuple []]) = isR0 v := by
  cases v with
  | use n vs =>
    have := good.apart (n := n) h
    simp only [enc, PyData.eqv, PyData.eqvAll, isR0]
    rw [show (n == ("[]" : Str)) = false from beq_eq_false_iff_ne.mpr (of_decide_eq_false this.f)]
    rfl
  | tail s => simp only [enc, PyData.eqv, PyData.eqvAll, isR0]; rw [show (("**" : Str) == ("[]" : Str)) = false from by decide +kernel]; rfl
  | sig i r => simp only [enc, PyData.eqv, PyData.eqvAll, isR0]; rw [show (("->" : Str) == ("[]" : Str)) = false from by decide +kernel]; rfl
  | uni ms => simp only [enc, PyData.eqv, PyData.eqvAll, isR0]; rw [show (("|" : Str) == ("[]" : Str)) = false from by decide +kernel]; rfl
  | row xs =>
    cases xs with
    | nil => simp [enc, encs, PyData.eqv, PyData.eqvAll, isR0]
    | cons a r => simp [enc, encs, PyData.eqv, PyData.eqvAll, isR0]
  | inp xs tl => simp only [enc, PyData.eqv, PyData.eqvAll, isR0]; rw [show (("()" : Str) == ("[]" : Str)) = false from by decide +kernel]; rfl
  | star n => simp only [enc, PyData.eqv, PyData.eqvAll, isR0]; rw [show (("*" : Str) == ("[]" : Str)) = false from by decide +kernel]; rfl
  | dots t => simp only [enc, PyData.eqv, PyData.eqvAll, isR0]; rw [show (("..." : Str) == ("[]" : Str)) = false from by decide +kernel]; rfl
mutual
theorem lay_pre : ∀ (p : P), (enc p).canLay0 = true → ∀ q ∈ pre p, (enc q).canLay0 = true ∧ (enc q).depth ≤ (enc p).depth
  | .use n vs, h, q, hq => by
    simp only [pre, List.mem_cons] at hq
    rcases hq with rfl | hq
    · exact ⟨h, Nat.le_refl _⟩
    · simp only [enc, PyData.canLay0, PyData.canLayAll0, Bool.and_eq_true] at h
      obtain ⟨a, b⟩ := lays_pre vs h.2.1 q hq
      refine ⟨a, ?_⟩
      simp only [enc, PyData.depth, PyData.depthAll] at b ⊢
      omega
  | .sig i r, h, q, hq => by
    simp only [pre, List.mem_cons, List.mem_append] at hq
    rcases hq with rfl | hq | hq
    · exact ⟨h, Nat.le_refl _⟩
    · simp only [enc, PyData.canLay0, PyData.canLayAll0, Bool.and_eq_true] at h
      obtain ⟨a, b⟩ := lay_pre i h.2.1 q hq
      refine ⟨a, ?_⟩
      simp only [enc, PyData.depth, PyData.depthAll] at b ⊢
      omega
    · simp only [enc, PyData.canLay0, PyData.canLayAll0, Bool.and_eq_true] at h
      obtain ⟨a, b⟩ := lay_pre r h.2.2.1 q hq
      refine ⟨a, ?_⟩
      simp only [enc, PyData.depth, PyData.depthAll] at b ⊢
      omega
  | .uni ms, h, q, hq => by
    simp only [pre, List.mem_cons] at hq
    rcases hq with rfl | hq
    · exact ⟨h, Nat.le_refl _⟩
    · simp only [enc, PyData.canLay0, PyData.canLayAll0, Bool.and_eq_true] at h
      obtain ⟨a, b⟩ := lays_pre ms h.2.1 q hq
      refine ⟨a, ?_⟩
      simp only [enc, PyData.depth, PyData.depthAll] at b ⊢
      omega
  | .row xs, h, q, hq => by
    simp only [pre, List.mem_cons] at hq
    rcases hq with rfl | hq
    · exact ⟨h, Nat.le_refl _⟩
    · simp only [enc, PyData.canLay0, PyData.canLayAll0, Bool.and_eq_true] at h
      obtain ⟨a, b⟩ := lays_pre xs h.2.1 q hq
      refine ⟨a, ?_⟩
      simp only [enc, PyData.depth, PyData.depthAll] at b ⊢
      omega
  | .inp xs tl, h, q, hq => by
    simp only [pre, List.mem_cons, List.mem_append] at hq
    rcases hq with rfl | hq | hq
    · exact ⟨h, Nat.le_refl _⟩
    · simp only [enc, PyData.canLay0, PyData.canLayAll0, Bool.and_eq_true] at h
      obtain ⟨a, b⟩ := lays_pre xs h.2.1 q hq
      refine ⟨a, ?_⟩
      simp only [enc, PyData.depth, PyData.depthAll] at b ⊢
      omega
    · cases tl with
      | none => simp [tails] at hq
      | some s =>
        simp only [tails, List.mem_singleton] at hq
        subst hq
        simp only [enc, tlD, PyData.canLay0, PyData.canLayAll0, Bool.and_eq_true] at h
        refine ⟨?_, ?_⟩
        · simp only [enc, PyData.canLay0, PyData.canLayAll0, Bool.and_eq_true]
          exact ⟨by decide +kernel, h.2.2.1, trivial⟩
        · simp only [enc, PyData.depth, PyData.depthAll]
          omega
  | .star n, h, q, hq => by
    simp only [pre, List.mem_singleton] at hq
    subst hq
    exact ⟨h, Nat.le_refl _⟩
  | .dots t, h, q, hq => by
    simp only [pre, List.mem_cons] at hq
    rcases hq with rfl | hq
    · exact ⟨h, Nat.le_refl _⟩
    · simp only [enc, PyData.canLay0, PyData.canLayAll0, Bool.and_eq_true] at h
      obtain ⟨a, b⟩ := lay_pre t h.2.1 q hq
      refine ⟨a, ?_⟩
      simp only [enc, PyData.depth, PyData.depthAll] at b ⊢
      omega
  | .tail s, h, q, hq => by
    simp only [pre, List.mem_singleton] at hq
    subst hq
    exact ⟨h, Nat.le_refl _⟩
theorem lays_pre : ∀ (l : List P), PyData.canLayAll0 (encs l) = true → ∀ q ∈ pres l, (enc q).canLay0 = true ∧ (enc q).depth ≤ PyData.depthAll (encs l)
  | [], _, q, hq => by simp [pres] at hq
  | p :: r, h, q, hq => by
    simp only [encs, PyData.canLayAll0, Bool.and_eq_true] at h
    simp only [pres, List.mem_append] at hq
    simp only [encs, PyData.depthAll]
    rcases hq with hq | hq
    · obtain ⟨a, b⟩ := lay_pre p h.1 q hq
      exact ⟨a, by omega⟩
    · obtain ⟨a, b⟩ := lays_pre r h.2 q hq
      exact ⟨a, by omega⟩
end
structure hokW (q : P) : Prop where
  ok : hok q
  wt : kw (enc q) ≤ 90000
  lay : (enc q).canLay0 = true
  dep : (enc q).depth ≤ 60
  sub : ∀ v ∈ parts q, hok v
theorem Cd.hokW {k dp wt : Nat} {p : P} (h : Cd k dp wt p) (hw : wt ≤ 90000) (hd : dp ≤ 60) : ∀ q ∈ pre p, hokW q := fun q hq => by
  obtain ⟨a, b⟩ := lay_pre p h.lay q hq
  have w1 := h.wgt
  have d1 := h.dep
  obtain ⟨_, _, w2⟩ := h.hokU hw q hq
  exact ⟨isK_pre p k h.is q hq, w2, a, by omega, fun v hv => isK_pre p k h.is v (pre_part p hq hv)⟩
end Gd

namespace Gd
open PySem PySem.Spec PyProof.Rows L2
section
variable {K : PySem.W.Frag} {σ : L2.St} {H : Hp} {Q : Str → Hp → Prop} {acc s : Str} {ts : List TE} {te : TE}
theorem r_js0 (q : Q acc H) : tJs [] acc σ H Q := q
theorem r_jsC (hl : (acc ++ s).length ≤ sizeLine) (q : tJs ts (acc ++ s) σ H Q) : tJs (tC (.str s) :: ts) acc σ H Q := ⟨s, rfl, hl, q⟩
theorem r_jsF (h : te σ H fun x H1 => ∃ y : Str, x = .str y ∧ y.length ≤ sizeLine ∧ (acc ++ y).length ≤ sizeLine ∧ tJs ts (acc ++ y) σ H1 Q) (mono : ∀ (R R' : V → Hp → Prop), (∀ x H1, R x H1 → R' x H1) → te σ H R → te σ H R') : tJs (tFmt te :: ts) acc σ H Q :=
  mono _ _ (fun x H1 ⟨y, ex, hy, hl, q⟩ => Or.inl ⟨y, ex, hy, y, rfl, hl, q⟩) h
theorem r_jsV {i : Nat} (hv : σ[i]? = some (some (.str s))) (hs : s.length ≤ sizeLine) (hl : (acc ++ s).length ≤ sizeLine) (q : tJs ts (acc ++ s) σ H Q) : tJs (tFmt (tVar i) :: ts) acc σ H Q :=
  ⟨_, hv, Or.inl ⟨s, rfl, hs, s, rfl, hl, q⟩⟩
theorem r_fmt {Q : VK} (h : te σ H fun x H1 => (∃ y : Str, x = .str y ∧ y.length ≤ sizeLine ∧ Q (.str y) H1) ∨ ∃ i : Int, x = .int i ∧ i.natAbs.log2 < 1920 ∧ Q (.str (toString i)) H1) : tFmt te σ H Q := h
theorem r_jsT (h : tFmt te σ H fun x H1 => ∃ y : Str, x = .str y ∧ (acc ++ y).length ≤ sizeLine ∧ tJs ts (acc ++ y) σ H1 Q) : tJs (tFmt te :: ts) acc σ H Q := h
end
section
variable {H : Hp} {Q : VK} {K : PySem.W.Frag}
theorem emp_app (s : Str) : Str.empty ++ s = s := by
  show (⟨Str.empty.cps ++ s.cps⟩ : Str) = s
  have : Str.empty.cps = #[] := rfl
  rw [this, Array.empty_append]
end
end Gd
namespace Gd
open PySem PySem.Spec PyProof.Rows L2
section
variable {H : Hp} {Q : VK} {K : PySem.W.Frag}
theorem r_isTp {p : Addr} {s : Str} {ks : List Str} (h : H p = some (.tup (ks.map V.str))) (q : Q (.bl (decide (s ∈ ks))) H) : rIn K false (.str s) (.ref p) H Q :=
  ⟨p, _, rfl, Or.inr (SqT.of h), rfl, by simp [flatV], by
    simp only [Bool.false_eq_true, if_false]
    rw [inV_strs]; exact q⟩
end
theorem valsT_snoc : ∀ (vs : List P) (ts : List Str) (v : P) (t : Str), vs.length = ts.length → valsT (vs ++ [v]) (ts ++ [t]) = valsT vs ts ++ (if isR0 v = true then [] else [asV v t])
  | [], [], v, t, _ => by simp only [List.nil_append, valsT]
  | [], _ :: _, _, _, h => by simp at h
  | _ :: _, [], _, _, h => by simp at h
  | a :: vs, b :: ts, v, t, h => by
    have ih := valsT_snoc vs ts v t (by simpa using h)
    simp only [List.cons_append, valsT, ih]
    split <;> simp
theorem parsT_snoc (hs : List Str) : ∀ (vs : List P) (ts : List Str) (v : P) (t : Str), vs.length = ts.length → parsT hs (vs ++ [v]) (ts ++ [t]) = parsT hs vs ts ++ [parT v hs t]
  | [], [], v, t, _ => rfl
  | [], _ :: _, _, _, h => by simp at h
  | _ :: _, [], _, _, h => by simp at h
  | a :: vs, b :: ts, v, t, h => by
    have ih := parsT_snoc hs vs ts v t (by simpa using h)
    simp only [List.cons_append, parsT, ih]
theorem valsT_le (vs : List P) (ts : List Str) : (valsT vs ts).length ≤ vs.length := by
  induction vs generalizing ts with
  | nil => simp [valsT]
  | cons a r ih =>
    cases ts with
    | nil => simp [valsT]
    | cons t ts =>
      have := ih ts
      simp only [valsT]
      split
      · simp only [List.length_cons]; omega
      · simp only [List.length_cons]; omega
theorem txs_at {l : List P} {i : Nat} {p : P} (h : l[i]? = some p) : (txs l)[i]? = some (tx p) := by rw [txs_map, List.getElem?_map, h]; rfl
theorem txs_take (l : List P) (i : Nat) : (txs l).take i = txs (l.take i) := by rw [txs_map, txs_map, List.map_take]
theorem txs_ln (l : List P) : (txs l).length = l.length := by rw [txs_map, List.length_map]
theorem tx_le {p : P} {n : Nat} (h : kw (enc p) ≤ n) : (tx p).length ≤ n := Nat.le_trans (tx_len p) h
end Gd
namespace Gd
open PySem PySem.Spec PyProof.Rows L2
section
variable {X : Cx} {K : PySem.W.Frag}
theorem op_neDk (hK : X.K = K) (hu : X.A.units + 64 < cLine) : OpR X (compareOp .NotEq) (rNeD K) := hK ▸ op_neD hu
theorem pg_tupK {es : List Expr} {k : Nat} {t : TGs} {n : Nat} {pos : Pos} (hK : X.K = K) (hc : X.calm = true) (h : PGs X es t)
    (hn : (assignEach es X.env).length = n := by rfl) (hst : (assignEach es X.env).findIdx? (·.1) = none := by rfl) : PG X (.Tuple es k pos) (gTup K n t) := hK ▸ pg_tup hc h hn hst
end
end Gd

namespace Gd
open PySem PySem.Spec PyProof.Rows L2
theorem s_assoc (a b c : Str) : a ++ b ++ c = a ++ (b ++ c) := by
  show (⟨(a.cps ++ b.cps) ++ c.cps⟩ : Str) = ⟨a.cps ++ (b.cps ++ c.cps)⟩
  rw [Array.append_assoc]
theorem join_two (z : Str) : ∀ {a b : List Str}, a ≠ [] → b ≠ [] → Txt.join z (a ++ b) = Txt.join z a ++ (z ++ Txt.join z b) := by
  intro a b ha hb
  rw [TL.join_eq, TL.join_eq, TL.join_eq]
  induction a with
  | nil => exact absurd rfl ha
  | cons x r ih =>
    cases r with
    | nil =>
      cases b with
      | nil => exact absurd rfl hb
      | cons y s =>
        show x ++ z ++ Str.join z (y :: s) = x ++ (z ++ Str.join z (y :: s))
        exact s_assoc _ _ _
    | cons y s =>
      have h := ih (by simp)
      show x ++ z ++ Str.join z ((y :: s) ++ b) = (x ++ z ++ Str.join z (y :: s)) ++ (z ++ Str.join z b)
      rw [h]
      exact (s_assoc _ _ _).symm
def flatT : P → List Str
  | .row xs => txs xs
  | v => [asV v (tx v)]
theorem asV_row (xs : List P) (t : Str) : asV (.row xs) t = t := if_neg (show ¬ ("[]" : Str) = ("()" : Str) by decide +kernel)
theorem flatT_or (v : P) : (∃ xs, v = .row xs) ∨ (isR0 v = false ∧ flatT v = [asV v (tx v)]) := by
  cases v with
  | row xs => exact .inl ⟨xs, rfl⟩
  | _ => exact .inr ⟨rfl, rfl⟩
theorem tx_row (xs : List P) : tx (.row xs) = Txt.join (", " : Str) (txs xs) := by rw [tx]; rfl
theorem flat_nil : ∀ vs : List P, vs.flatMap flatT = [] ↔ valsT vs (txs vs) = []
  | [] => by simp [valsT]
  | v :: vs => by
    have ih := flat_nil vs
    simp only [List.flatMap_cons, txs, valsT]
    rcases flatT_or v with ⟨xs, rfl⟩ | ⟨h1, h2⟩
    · cases xs with
      | nil => simp only [flatT, txs, List.nil_append, isR0, if_true]; exact ih
      | cons a r => simp [flatT, txs, isR0]
    · rw [h2, h1]
      simp
theorem join_flat : ∀ vs : List P, Txt.join (", " : Str) (vs.flatMap flatT) = Txt.join (", " : Str) (valsT vs (txs vs))
  | [] => by simp [valsT]
  | v :: vs => by
    have ih := join_flat vs
    have hn := flat_nil vs
    have one : ∀ t : Str, Txt.join (", " : Str) [t] = t := fun t => by rw [TL.join_eq]; rfl
    have key : ∀ (l : List Str) (t : Str), l ≠ [] → Txt.join (", " : Str) l = t → Txt.join (", " : Str) (l ++ vs.flatMap flatT) = Txt.join (", " : Str) (t :: valsT vs (txs vs)) := fun l t hl e => by
      by_cases h : vs.flatMap flatT = []
      · rw [h, hn.mp h, List.append_nil, e, one]
      · have h2 : valsT vs (txs vs) ≠ [] := fun z => h (hn.mpr z)
        rw [join_two _ hl h, show t :: valsT vs (txs vs) = [t] ++ valsT vs (txs vs) from rfl, join_two _ (by simp) h2, e, one, ih]
    simp only [List.flatMap_cons, txs, valsT]
    rcases flatT_or v with ⟨xs, rfl⟩ | ⟨h1, h2⟩
    · cases xs with
      | nil =>
        simp only [flatT, txs, List.nil_append, isR0, if_true]
        exact ih
      | cons a r =>
        rw [show isR0 (.row (a :: r)) = false from rfl, if_neg (by decide), asV_row]
        exact key _ _ (by simp [flatT, txs]) (tx_row _).symm
    · rw [h2, h1, if_neg (by decide)]
      exact key _ _ (by simp) (one _)
theorem parT4 {m : P} {t : Str} (h : isK m 4) : parT m [("|" : Str), ("->" : Str)] t = parT m [("->" : Str)] t := by
  have hb : hd m ≠ ("|" : Str) := by
    cases m with
    | use n vs => simp only [isK] at h; exact of_decide_eq_false h.2.1.apart.g
    | sig i r => show ¬ ("->" : Str) = ("|" : Str); decide +kernel
    | _ => simp [isK] at h
  unfold parT
  simp only [List.mem_cons, List.not_mem_nil, or_false, hb, false_or]
theorem flat_len : ∀ vs : List P, ((vs.flatMap flatT).map (·.length)).sum + 2 * (vs.flatMap flatT).length ≤ kws (encs vs)
  | [] => by simp
  | v :: vs => by
    have ih := flat_len vs
    rw [List.flatMap_cons, List.map_append, List.sum_append, List.length_append]
    simp only [encs, kws]
    have h : ((flatT v).map (·.length)).sum + 2 * (flatT v).length ≤ kw (enc v) + 5 := by
      rcases flatT_or v with ⟨xs, rfl⟩ | ⟨h1, h2⟩
      · have := txs_len xs
        simp only [flatT, enc, kw, kws]
        omega
      · rw [h2]
        have a := asV_len v (tx v)
        have b := tx_len v
        simp only [List.map_cons, List.map_nil, List.sum_cons, List.sum_nil, List.length_cons, List.length_nil]
        omega
    omega
end Gd

namespace Gd
open PySem PySem.Spec PyProof.Rows
/-! ### len(set(texts)) -/
def dd1 (l : List Str) (k : Str) : List Str := if k ∈ l then l else l ++ [k]
def dd (l : List Str) : List Str := l.foldl dd1 []
theorem dd_mem (x : Str) : ∀ (l acc : List Str), x ∈ l.foldl dd1 acc ↔ x ∈ acc ∨ x ∈ l
  | [], acc => by simp
  | k :: r, acc => by
    rw [List.foldl_cons, dd_mem x r]
    unfold dd1
    split
    · rename_i h
      constructor
      · rintro (h1 | h1)
        · exact .inl h1
        · exact .inr (List.mem_cons_of_mem _ h1)
      · rintro (h1 | h1)
        · exact .inl h1
        · rcases List.mem_cons.mp h1 with rfl | h1
          · exact .inl h
          · exact .inr h1
    · simp only [List.mem_append, List.mem_cons, List.not_mem_nil, false_or, or_false, or_assoc]
theorem dd_len : ∀ (l acc : List Str), (l.foldl dd1 acc).length ≤ acc.length + l.length
  | [], acc => by simp
  | k :: r, acc => by
    have := dd_len r (dd1 acc k)
    have h : (dd1 acc k).length ≤ acc.length + 1 := by
      unfold dd1
      split
      · omega
      · rw [List.length_append, List.length_singleton]; omega
    rw [List.foldl_cons, List.length_cons]
    omega
theorem dd_snoc (l : List Str) (k : Str) : dd (l ++ [k]) = dd1 (dd l) k := by unfold dd; rw [List.foldl_append]; rfl
theorem dd_has (l : List Str) (x : Str) : x ∈ dd l ↔ x ∈ l := by have := dd_mem x l []; simpa [dd] using this
section
variable {prog : Program} {w : World} {A : Around} {R : Result → Shared → Prop} {I : Addr} {fp wr : List Addr} {G : Array GenState → Array GenState → Prop} {n : Nat} {Pv : Nat → Value → Prop} {St : Nat → Shared → Prop}
/-- the cells of a set stand where nothing of theirs is written -/
theorem setOf_keep {K : Type} [DecidableEq K] {knd : KeyKind prog w K} {h h' : Heap} {a : Addr} {S : K → Bool} {m : Nat} (x : h.SetOf knd a S m) (k : ∀ o, h.get? a = some o → h'.get? a = some o) : h'.SetOf knd a S m := by
  obtain ⟨o, es, ep, t, ho, r⟩ := x
  exact ⟨o, es, ep, t, k o ho, r⟩
theorem set_fill (ks : List Str) (W : WalksS prog w A.in1 I fp wr G n Pv St) (S : Addr) (hSf : S ∉ fp) (hn : n = ks.length)
    (hval : ∀ i v, Pv i v → ∃ k t, ks[i]? = some k ∧ v = .str k t) (hb : n + 1 < scanBound) :
    ∀ (m i : Nat) (s : Shared), i + m = n → St i s → s.heap.SetOf (strKind prog w) S (fun x => decide (x ∈ ks.take i)) (dd (ks.take i)).length →
      (∀ s', Moved (S :: wr) G s s' → s'.heap.SetOf (strKind prog w) S (fun x => decide (x ∈ ks)) (dd ks).length → R (.ok (.ret .none)) s') →
      codeAny (model prog w) A (.builtin "set.update.loop" ⟨[.ref S, .ref I], []⟩) R s
  | 0, i, s, e, st, hS, hR => by
    have hin : i = n := by omega
    subst hin
    refine codeAny_builtin F.entry_set_update_loop ?_
    rw [Around.under_plainId F.plain_set_update_loop _]
    show wpAny _ A.in1 (pyNext (.ref I) >>= _) _ _ s
    refine wpAny_bind (W.done s _ _ st fun s' hm => wpAny_pure (hR s' (hm.mono fun b hb => List.mem_cons_of_mem _ hb) ?_))
    rw [List.take_of_length_le (by omega)] at hS
    exact setOf_keep hS fun o ho => hm.heap S _ (fun h => hSf (W.sub _ h)) ho
  | m + 1, i, s, e, st, hS, hR => by
    have hlt : i < n := by omega
    refine codeAny_builtin F.entry_set_update_loop ?_
    rw [Around.under_plainId F.plain_set_update_loop _]
    show wpAny _ A.in1 (pyNext (.ref I) >>= _) _ _ s
    refine wpAny_bind (W.item i s _ _ hlt st fun v s' hP st' hm => ?_)
    obtain ⟨k, t, hk, rfl⟩ := hval i v hP
    have hS' := setOf_keep hS fun o ho => hm.heap S _ (fun h => hSf (W.sub _ h)) ho
    have ln := dd_len (ks.take i) []
    rw [List.length_nil, List.length_take] at ln
    show wpAny _ A.in1 (holding [Value.str k t] (setAdd S (.str k t)) >>= _) _ _ s'
    refine wpAny_bind (wpAny_holding ?_)
    unfold setAdd
    refine wpAny_holding (wpAny_bind ((strKind prog w).pyHash (k := k) (strKind_is _ _ _ _) ?_))
    refine wpAny_setAddHashed_of (knd := strKind prog w) (s := { s' with toks := s'.toks + 1 }) (strKind_is _ _ _ _) rfl hS' (by unfold dd; omega) fun h' hsb hS2 => ?_
    have et : ks.take (i + 1) = ks.take i ++ [k] := by rw [List.take_add_one, hk]; rfl
    have hS3 : h'.SetOf (strKind prog w) S (fun x => decide (x ∈ ks.take (i + 1))) (dd (ks.take (i + 1))).length := by
      refine SetOf_congr hS2 (fun x => ?_) ?_
      · rw [et]
        simp only [List.mem_append, List.mem_singleton, Bool.decide_or]
      · rw [et, dd_snoc]
        unfold dd1
        by_cases c : k ∈ ks.take i
        · rw [if_pos ((dd_has _ _).mpr c), if_pos (decide_eq_true c)]
        · rw [if_neg (fun h => c ((dd_has _ _).mp h)), if_neg (by simpa using c), List.length_append, List.length_singleton]
    refine wpAny_pure ⟨plainId_quiet F.plain_set_update_loop _, set_fill ks W S hSf hn hval hb m (i + 1) _ (by omega) (W.frame _ s' _ _ st' (Nat.le_succ _) fun b hb o q => ?_) hS3 fun s'' hm'' hS'' => ?_⟩
    · rw [hsb.2 b (fun h => hSf (by rw [← h]; exact hb))]; exact q
    · refine hR s'' (Moved.trans W.gtrans ((hm.mono fun b hb => List.mem_cons_of_mem _ hb).then_heap (Nat.le_succ _) fun b o hb q => ?_) hm'') hS''
      rw [hsb.2 b (fun h => hb (by rw [h]; exact List.mem_cons_self))]; exact q
end
end Gd
namespace Gd
open PySem PySem.Spec PyProof.Rows
section
variable {prog : Program} {w : World} {A : Around} {E : Value → Shared → Prop} {s : Shared}
/-- a new set without items -/
abbrev set0 (led : Bool) : Obj := { cls := .type "set", dict := none, data := .set #[] 0 (.fresh 0 0 led) }
theorem call_set_texts {l : Addr} {items : Array Value} {ks : List Str} {Q : Value → Shared → Prop} (hh : A.handled = none) (hl : s.heap.IsList l items)
    (hi : ∀ (i : Nat) (v : Value), items[i]? = some v → ∃ k t, ks[i]? = some k ∧ v = .str k t) (hn : items.size = ks.length) (hb : items.size + 1 < scanBound)
    (h : ∀ (h' : Heap) (tk : Nat), h'.SetOf (strKind prog w) s.heap.objs.size (fun x => decide (x ∈ ks)) (dd ks).length → (∀ b o, b < s.heap.objs.size → s.heap.get? b = some o → h'.get? b = some o) → Q (.ref s.heap.objs.size) { s with heap := h', toks := tk }) :
    wpAny (model prog w) A (call (.type "set") [.ref l]) Q E s := by
  obtain ⟨c, tl, hmro⟩ := F.called_set.mro
  have hmade := F.called_set.made
  have hsub := F.called_set.sub
  refine wpAny_call (codeAny_of_tree ?_)
  show wpAny _ _ (callAny (.type "set") _) _ _ _
  refine wpAny_pure ⟨Code.quiet_builtin _ (by decide +kernel), codeAny_builtin F.entry_type_call ?_⟩
  rw [Around.under_plain (weight_type_call_type "set" [.ref l] []) rfl]
  have h1 := F.called_set.notType
  have h2 := F.called_set.canCreate
  have hct := F.typeCall_set_1 (.ref l)
  repeat (any_goals (first | assumption | wp_step))
  refine codeAny_mono (code_set_new_1 (.ref l) (E := E) (Q₁ := fun obj s₁ => ∃ led : Bool, obj = .ref s.heap.objs.size ∧ s₁ = { s with heap := s.heap.push (set0 led) }) fun led => ⟨led, rfl, rfl⟩) fun r s₁ hr => ?_
  rcases r with e | fl
  · exact hr
  rcases fl with _ | obj | _ | _
  all_goals try exact hr.elim
  obtain ⟨led, rfl, rfl⟩ := hr
  have hS : (s.heap.push (set0 led)).get? s.heap.objs.size = some (set0 led) := Heap.get?_push_size _ rfl
  have hT : Shared.TypeIs { s with heap := s.heap.push (set0 led) } (.ref s.heap.objs.size) "set" := ⟨_, hS, rfl⟩
  have hli := F.called_set.init.lookup
  have hbi := F.called_set.init.bind (.ref s.heap.objs.size)
  repeat (any_goals (first | assumption | wp_step))
  refine codeAny_mono (codeAny_call_builtin (R := wants (fun r s₂ => r = .none ∧ ∃ h' tk, s₂ = { s with heap := h', toks := tk } ∧ h'.SetOf (strKind prog w) s.heap.objs.size (fun x => decide (x ∈ ks)) (dd ks).length ∧
      (∀ b o, b < s.heap.objs.size → s.heap.get? b = some o → h'.get? b = some o)) E) F.called_set.init.plain F.entry_set_init (check_set_init_1 hT ?_)) fun r₂ s₂ hr₂ => ?_
  · obtain ⟨ol, hol, hcl, nl, hdl⟩ := hl
    obtain ⟨ocls, odict, odata, oslots⟩ := ol
    simp only at hcl hdl
    subst hcl; subst hdl
    have hol' : (s.heap.push (set0 led)).get? l = some { cls := .type "list", dict := odict, data := .seq items nl, slots := oslots } := Heap.get?_push_of_some _ hol
    have hsls := F.sub_list_set
    have hslf := F.sub_list_frozenset
    have hne : (Value.type "list" == Value.type "dict") = false := by decide
    have hl1 : (s.heap.push (set0 led)).IsList l items := ⟨_, hol', rfl, nl, rfl⟩
    unfold Builtin.«set.__init__» noKeywords Builtin.Frozenset.updateFrom
    generalize hPI : pyIter = PI
    wp_walk
    subst hPI
    refine wpAny_pyIter_list hl1 ?_
    refine wpAny_bind (wpAny_runValue ?_)
    have lS : l < s.heap.objs.size := Heap.lt_size hol
    have sz : (s.heap.push (set0 led)).objs.size = s.heap.objs.size + 1 := Heap.size_push _ _
    have hh3 : A.in1.in1.in1.handled = none := by simp [hh]
    have nI : l ≠ (s.heap.push (set0 led)).objs.size := by rw [sz]; exact Nat.ne_of_lt (Nat.lt_succ_of_lt lS)
    have nS : s.heap.objs.size ∉ [(s.heap.push (set0 led)).objs.size, l] := by
      rw [sz]
      simp only [List.mem_cons, List.not_mem_nil, or_false, not_or]
      exact ⟨Nat.ne_of_lt (Nat.lt_succ_self _), Nat.ne_of_gt lS⟩
    refine set_fill ks ((Walks.list hh3 _ l nI items).toS) s.heap.objs.size nS hn hi hb items.size 0 _ (by omega) ⟨⟨_, Heap.get?_push_size _ rfl, rfl, rfl⟩, hl1.push _⟩ ?_ fun s' hm hS' => ?_
    · have g : ((s.heap.push (set0 led)).push { cls := .type "list_iterator", data := .fields #[.ref l, .int 0 0] }).get? s.heap.objs.size = some (set0 led) := Heap.get?_push_of_some _ hS
      exact SetOf_congr ((setObjOf_fresh (knd := strKind prog w) led).setOf g (by unfold scanBound; omega)) (fun _ => by simp) rfl
    · obtain ⟨h', g', d', tk', os'⟩ := s'
      obtain rfl : g' = s.gens := hm.gens
      obtain rfl : d' = s.drawn := hm.drawn
      obtain rfl : os' = s.os := hm.os
      show wpAny _ _ _ _ _ _
      refine wpAny_pure ?_
      show wpAny _ _ (ret Value.none) _ _ _
      refine wpAny_pure ⟨rfl, h', tk', rfl, hS', fun b o hb e => ?_⟩
      refine hm.heap b o ?_ (Heap.get?_push_of_some _ (Heap.get?_push_of_some _ e))
      simp only [List.mem_cons, List.not_mem_nil, or_false, not_or]
      exact ⟨Nat.ne_of_lt hb, by rw [sz]; exact Nat.ne_of_lt (Nat.lt_succ_of_lt hb)⟩
  · rcases r₂ with e | fl₂
    · exact hr₂
    rcases fl₂ with _ | r | _ | _
    all_goals try exact hr₂.elim
    obtain ⟨rfl, h', tk, rfl, hS', hk'⟩ := hr₂
    repeat (any_goals (first | assumption | wp_step))
    exact h _ _ hS' hk'
end
end Gd

namespace Gd
open PySem PySem.Spec PyProof.Rows L2
def tLenSetTx (K : PySem.W.Frag) (ta : TE) : TE := fun σ H Q => ta σ H fun x H1 => ∃ (l : Addr) (ks : List Str), x = .ref l ∧ SqL K H1 l (ks.map V.str) ∧ ks.length ≤ 4000 ∧ Q (.int ((dd ks).length : Nat)) H1
theorem vals_texts {ks : List Str} {us : List Value} (h : Vals (ks.map V.str) us) : ∀ (i : Nat) (v : Value), us[i]? = some v → ∃ k t, ks[i]? = some k ∧ v = .str k t := by
  intro i v hv
  have hl := h.length
  rw [List.length_map] at hl
  have hi : i < ks.length := by rw [hl]; exact (List.getElem?_eq_some_iff.mp hv).1
  have hk : ks[i]? = some ks[i] := List.getElem?_eq_getElem hi
  obtain ⟨u, hu, ru⟩ := h.get (i := i) (x := V.str ks[i]) (by rw [List.getElem?_map, hk]; rfl)
  rw [hv] at hu
  obtain rfl := Option.some.inj hu
  obtain ⟨t, rfl⟩ := ru
  exact ⟨_, t, hk, rfl⟩
theorem pe_lenSetTx {X : Cx} {a : Expr} {ta : TE} {p p2 q pos : Pos} (hg : Gl X "len") (hm : X.mg "len" = none) (hg2 : Gl X "set") (hm2 : X.mg "set" = none) (ha : PE X a ta) (hc : X.calm = true := by rfl)
    (na : starEach [a] X.env = (false, eval a X.env) :: starEach [] X.env := by rfl) : PE X (.Call (.Name "len" p) [.Call (.Name "set" p2) [a] [] q] [] pos) (tLenSetTx X.K ta) := by
  refine ⟨fun pins s σ H Q I h => ?_⟩
  refine Call_ (ld_blt I hg hm boot_len (callWith_builtin1 (args_cons ?_ rfl) rfl rfl))
  refine Call_ (ld_blt I hg2 hm2 boot_set (callWith_type1 (args_cons (thn (ha.run pins s σ H _ I h) fun v s1 ⟨x, H1, I1, r1, l, ks, ex, hq, hl, q1⟩ => args_nil ?_) na) na rfl))
  subst ex
  cases r1
  obtain ⟨us, r, pl, hz⟩ := I1.list hq
  have hlen : us.toArray.size = ks.length := by rw [List.size_toArray, ← r.length, List.length_map]
  have ln := dd_len ks []
  rw [List.length_nil] at ln
  refine call_set_texts (ks := ks) (I1.ok.hd hc) pl.isList (fun i v hv => vals_texts r i v (by simpa using hv)) hlen (by rw [hlen]; unfold scanBound; omega) fun h' tk hS hk => args_nil ?_
  obtain ⟨o, es, ep, t, ho, hex, hd, _, _, _, hf, hn⟩ := hS
  have I2 : Inv X pins σ H1 { s1 with heap := h', toks := tk } := I1.kept fun b o e => hk b o (Heap.lt_size e) e
  exact call_len_set ho hex hd hf (by rw [hn]; unfold dd; omega) ⟨.int ((dd ks).length : Nat), H1, I2.tok _, ⟨_, by rw [hn]⟩, q1⟩
theorem r_lenSet {K : PySem.W.Frag} {ta : TE} {σ : L2.St} {H : Hp} {Q : VK} (h : ta σ H fun x H1 => ∃ (l : Addr) (ks : List Str), x = .ref l ∧ SqL K H1 l (ks.map V.str) ∧ ks.length ≤ 4000 ∧ Q (.int ((dd ks).length : Nat)) H1) : tLenSetTx K ta σ H Q := h
/-- as many different ones as there are: no two are the same -/
theorem dd_nodup : ∀ (l acc : List Str), acc.Nodup → ((l.foldl dd1 acc).length = acc.length + l.length ↔ (acc ++ l).Nodup)
  | [], acc, h => by simp [h]
  | k :: r, acc, h => by
    rw [List.foldl_cons, List.length_cons]
    by_cases c : k ∈ acc
    · have e : dd1 acc k = acc := if_pos c
      have := dd_len r acc
      rw [e]
      constructor
      · intro z; omega
      · intro z
        exact absurd rfl ((List.nodup_append.mp z).2.2 k c k List.mem_cons_self)
    · have e : dd1 acc k = acc ++ [k] := if_neg c
      rw [e]
      have nd : (acc ++ [k]).Nodup := by
        rw [List.nodup_append]
        exact ⟨h, by simp, fun a ha b hb => by rw [List.mem_singleton.mp hb]; exact fun z => c (z ▸ ha)⟩
      have ih := dd_nodup r (acc ++ [k]) nd
      rw [List.length_append, List.length_singleton, List.append_assoc] at ih
      rw [show acc.length + (r.length + 1) = acc.length + 1 + r.length from by omega]
      exact ih
theorem dd_all {l : List Str} : (dd l).length = l.length ↔ l.Nodup := by
  have := dd_nodup l [] List.nodup_nil
  simpa [dd] using this
end Gd

namespace Gd
open PySem PySem.Spec PyProof.Rows L2
/-! ### a set of texts that can be walked -/
/-- the table rises and can be walked -/
def Wkd (w : World) (t : SetTable) : Prop := Ris t.place.toList ∧ (w.params.followText "set-order" = true ∨ t.led = true)
def SetT {P : Program} {w : World} {κ : Type} [DecidableEq κ] (knd : KeyKind P w κ) (h : Heap) (a : Addr) (S : κ → Bool) (n : Nat) : Prop :=
  ∃ o es ep t, h.get? a = some o ∧ o.ExactSet ∧ o.data = .set es ep t ∧ ElemsOf knd es.toList ∧ (∀ k, S k = true ↔ ∃ e ∈ es.toList, knd.is k e.2 = true) ∧
    es.size < scanBound ∧ t.fits es.size = true ∧ es.size = n ∧ Wkd w t
section
variable {P : Program} {w : World} {κ : Type} [DecidableEq κ] {knd : KeyKind P w κ} {A : Around} {E : Value → Shared → Prop} {s : Shared} {a : Addr} {S : κ → Bool} {n : Nat}
theorem SetT.keep {h h' : Heap} (x : SetT knd h a S n) (k : ∀ o, h.get? a = some o → h'.get? a = some o) : SetT knd h' a S n := by
  obtain ⟨o, es, ep, t, ho, r⟩ := x
  exact ⟨o, es, ep, t, k o ho, r⟩
theorem SetT.congr {h : Heap} {S' : κ → Bool} {n' : Nat} (x : SetT knd h a S n) (e : ∀ k, S k = S' k) (en : n = n') : SetT knd h a S' n' := by
  obtain rfl : S = S' := funext e
  subst en
  exact x
theorem gave_rule {M : Sem Unit} {r : Bool → Sem Unit} (h : ∀ b, r b = pure () ∨ ∃ x, r b = rule x) (b : Bool) {s₁ : Shared} {Q' : Unit → Shared → Prop} (q : Q' () s₁) : wpAny (model P w) A (r b) Q' E s₁ := by
  rcases h b with e | ⟨x, e⟩
  · rw [e]; exact wpAny_pure q
  · rw [e]; exact wpAny_rule q
theorem setT_tail {g : Bool → Sem Unit} (hg : ∀ (b : Bool) (s₁ : Shared) (Q' : Unit → Shared → Prop), Q' () s₁ → wpAny (model P w) A (g b) Q' E s₁)
    {o : Obj} {es es1 : Array (Int × Value)} {ep : Nat} {t t2 : SetTable} {S' : κ → Bool} (ho : s.heap.get? a = some o) (hex : o.ExactSet) (hd : o.data = .set es ep t)
    (g1 : ElemsOf knd es1.toList) (m1 : ∀ k, S' k = true ↔ ∃ e ∈ es1.toList, knd.is k e.2 = true) (hb : es1.size < scanBound) (hf : t2.fits es1.size = true) (hw : Wkd w t2) {wasDummy : Bool} {R : Option Bool → Shared → Prop}
    (hR : ∀ h', Heap.SameBut a s.heap h' → SetT knd h' a S' es1.size → R (some true) { s with heap := h' }) :
    wpAny (model P w) A (do
        storeSet a es1 t2
        if (!wasDummy && t2.tooFull) = true then do
            g (relayAll t2 es1 (SetTable.grown es1.size)).2.2
            storeSet a (relayAll t2 es1 (SetTable.grown es1.size)).1 (relayAll t2 es1 (SetTable.grown es1.size)).2.1
            pure (some true)
          else pure (some true)) R E s := by
  refine wpAny_bind (wpAny_storeSet_of ho hd ?_ (fits_of_scanBound hb))
  have ho1 := store_at (es' := es1) (t' := t2) ho hd
  have sb := Heap.SameBut.update s.heap a (Obj.putSet es1 t2)
  split
  · obtain ⟨p1, p2, p3, p4⟩ : (relayAll t2 es1 (SetTable.grown es1.size)).1.toList.Perm es1.toList ∧ (relayAll t2 es1 (SetTable.grown es1.size)).2.1.fits (relayAll t2 es1 (SetTable.grown es1.size)).1.size = true ∧
        Ris (relayAll t2 es1 (SetTable.grown es1.size)).2.1.place.toList ∧ (relayAll t2 es1 (SetTable.grown es1.size)).2.1.led = t2.led :=
      ⟨relayAll_perm _ _ _, relayAll_fits _ _ _, relayAll_ris _ _ _, relayAll_led _ _ _⟩
    generalize relayAll t2 es1 (SetTable.grown es1.size) = Z at p1 p2 p3 p4 ⊢
    have sz : Z.1.size = es1.size := by rw [← Array.length_toList, p1.length_eq, Array.length_toList]
    refine wpAny_bind (hg _ _ _ ?_)
    refine wpAny_bind (wpAny_storeSet_of ho1 rfl ?_ (fits_of_scanBound (by rw [sz]; exact hb)))
    have ho2 := store_at (es' := Z.1) (t' := Z.2.1) ho1 rfl
    refine wpAny_pure (hR _ (sb.trans (Heap.SameBut.update _ a _)) ⟨_, Z.1, _, Z.2.1, ho2, hex, rfl, fun e he => g1 e (p1.mem_iff.mp he), fun k => (m1 k).trans ?_, by rw [sz]; exact hb, p2, sz, p3, hw.2.imp id fun z => by rw [p4]; exact z⟩)
    exact ⟨fun ⟨e, he, q⟩ => ⟨e, p1.mem_iff.mpr he, q⟩, fun ⟨e, he, q⟩ => ⟨e, p1.mem_iff.mp he, q⟩⟩
  · exact wpAny_pure (hR _ sb ⟨_, es1, _, t2, ho1, hex, rfl, g1, m1, hb, hf, rfl, hw⟩)
end
end Gd
namespace Gd
open PySem PySem.Spec PyProof.Rows L2
section
variable {P : Program} {w : World} {κ : Type} [DecidableEq κ] {knd : KeyKind P w κ} {A : Around} {E : Value → Shared → Prop} {s : Shared} {a : Addr} {S : κ → Bool} {n : Nat}
theorem setT_add {k : κ} {x : Value} {Q : Bool → Shared → Prop} (hkey : knd.is k x = true) (hsc : x.scannable = true) (R : SetT knd s.heap a S n) (room : n + 1 < scanBound)
    (hQ : ∀ h', Heap.SameBut a s.heap h' → SetT knd h' a (fun j => S j || decide (j = k)) (if S k = true then n else n + 1) → Q (!S k) { s with heap := h' }) :
    wpAny (model P w) A (setAddHashed a x (knd.hash k)) Q E s := by
  obtain ⟨o, es, ep, t, ho, hex, hd, hel, hm, hb, hf, hn, hw⟩ := R
  unfold setAddHashed setAddHashedIn
  refine wpAny_holding (wpAny_bind (wpAny_setState_of ho hd hf ?_))
  dsimp only
  rw [byScan_of hsc hb hel]
  simp only [↓reduceIte]
  unfold setAddByScan
  refine wpAny_bind (wpAny_bind (wpAny_rule (wpAny_bind (wpAny_setScan_of hkey ho hd hf hel ?_))))
  cases hfi : List.findIdx? (fun e => knd.is k e.2) es.toList with
  | some j =>
    dsimp only
    obtain ⟨hj, pj, _⟩ := List.findIdx?_eq_some_iff_getElem.mp hfi
    have hSk : S k = true := (hm k).2 ⟨_, List.getElem_mem hj, pj⟩
    have z := hQ s.heap (Heap.SameBut.refl a s.heap) ⟨o, es, ep, t, ho, hex, hd, hel, fun i => by
      rw [Bool.or_eq_true, decide_eq_true_eq, ← hm i]
      exact ⟨fun z => z.elim id fun e => e ▸ hSk, .inl⟩, hb, hf, by rw [if_pos hSk]; exact hn, hw⟩
    rw [hSk] at z
    exact wpAny_pure (wpAny_pure z)
  | none =>
    dsimp only
    have no : ∀ e ∈ es.toList, knd.is k e.2 = false := fun e he => by simpa using List.findIdx?_eq_none_iff.mp hfi e he
    have hSk : S k = false := by
      cases q : S k with
      | false => rfl
      | true =>
        obtain ⟨e, he, h⟩ := (hm k).1 q
        rw [no e he] at h
        cases h
    have rul : ∀ (b : Bool) {s₁ : Shared} {Q' : Unit → Shared → Prop}, Q' () s₁ → wpAny (model P w) A (match b with | true => rule "set.scan.the-table-gave-way" | false => pure ()) Q' E s₁ :=
      fun b s₁ Q' q => by cases b <;> first | exact wpAny_pure q | exact wpAny_rule q
    obtain ⟨p1, p2, p3, p4⟩ : (layNew t es (knd.hash k) x).1.toList.Perm (es.push (knd.hash k, x)).toList ∧ (layNew t es (knd.hash k) x).2.1.fits (layNew t es (knd.hash k) x).1.size = true ∧
        Ris (layNew t es (knd.hash k) x).2.1.place.toList ∧ (layNew t es (knd.hash k) x).2.1.led = t.led := ⟨layNew_perm _ _ _ _, layNew_fits _ _ _ _, layNew_ris _ _ _ _ hw.1, layNew_led _ _ _ _⟩
    generalize layNew t es (knd.hash k) x = Z at p1 p2 p3 p4 ⊢
    obtain ⟨es1, t1, wasDummy, gave⟩ := Z
    dsimp only at p1 p2 p3 p4 ⊢
    rw [Array.toList_push] at p1
    have pc : es1.toList.Perm ((knd.hash k, x) :: es.toList) := p1.trans (List.perm_append_singleton _ _)
    have g1 : ElemsOf knd es1.toList := fun e he => by
      rcases List.mem_cons.mp (pc.mem_iff.mp he) with z | z
      · rw [z]; exact ⟨⟨k, hkey, rfl⟩, hsc⟩
      · exact hel e z
    have m1 : ∀ i, (S i || decide (i = k)) = true ↔ ∃ e ∈ es1.toList, knd.is i e.2 = true := fun i => by
      rw [Bool.or_eq_true, decide_eq_true_eq, hm i]
      constructor
      · rintro (⟨e, he, h⟩ | rfl)
        · exact ⟨e, pc.mem_iff.mpr (List.mem_cons_of_mem _ he), h⟩
        · exact ⟨_, pc.mem_iff.mpr List.mem_cons_self, hkey⟩
      · rintro ⟨e, he, h⟩
        rcases List.mem_cons.mp (pc.mem_iff.mp he) with z | z
        · rw [z] at h; exact .inr (knd.inj _ _ _ h hkey)
        · exact .inl ⟨e, z, h⟩
    have sz : es1.size = n + 1 := by rw [← Array.length_toList, pc.length_eq, List.length_cons, Array.length_toList, hn]
    have hb1 : es1.size < scanBound := by rw [sz]; exact room
    have hw1 : Wkd w t1 := ⟨p3, hw.2.imp id fun z => by rw [p4]; exact z⟩
    have fin : ∀ h', Heap.SameBut a s.heap h' → SetT knd h' a (fun j => S j || decide (j = k)) es1.size → Q true { s with heap := h' } := fun h' sb r => by
      have q := hQ h' sb
      rw [hSk] at q
      rw [sz] at r
      exact q r
    have gg : ∀ (b : Bool) (s₁ : Shared) (Q' : Unit → Shared → Prop), Q' () s₁ → wpAny (model P w) A (match b with | true => rule "set.scan.the-table-gave-way" | false => pure ()) Q' E s₁ := fun b s₁ Q' q => rul b q
    refine wpAny_bind (rul _ ?_)
    split
    · refine wpAny_bind ?_
      rw [hashByValue_scannable 8 hsc]
      refine wpAny_pure ?_
      refine setT_tail ?_ ho hex hd g1 m1 hb1 ?_ ?_ ?_
      · intro b s₁ Q' q; cases b <;> first | exact wpAny_pure q | exact wpAny_rule q
      · first | (split <;> first | exact p2 | exact SetTable.fits_plain_off p2) | exact p2
      · first | (split <;> exact hw1) | exact hw1
      · intro h' sb r; dsimp only; exact wpAny_pure (fin h' sb r)
    · refine wpAny_bind (wpAny_pure ?_)
      simp only [↓reduceIte]
      refine setT_tail ?_ ho hex hd g1 m1 hb1 p2 hw1 ?_
      · intro b s₁ Q' q; cases b <;> first | exact wpAny_pure q | exact wpAny_rule q
      · intro h' sb r; dsimp only; exact wpAny_pure (fin h' sb r)
end
end Gd
namespace Gd
open PySem PySem.Spec PyProof.Rows L2
/-! filling it from a list of texts -/
section
variable {prog : Program} {w : World} {A : Around} {R : Result → Shared → Prop} {I : Addr} {fp wr : List Addr} {G : Array GenState → Array GenState → Prop} {n : Nat} {Pv : Nat → Value → Prop} {St : Nat → Shared → Prop}
theorem setT_fill (ks : List Str) (W : WalksS prog w A.in1 I fp wr G n Pv St) (S : Addr) (hSf : S ∉ fp) (hn : n = ks.length)
    (hval : ∀ i v, Pv i v → ∃ k t, ks[i]? = some k ∧ v = .str k t) (hb : n + 1 < scanBound) :
    ∀ (m i : Nat) (s : Shared), i + m = n → St i s → SetT (PySem.strKind prog w) s.heap S (fun x => decide (x ∈ ks.take i)) (dd (ks.take i)).length →
      (∀ s', Moved (S :: wr) G s s' → SetT (PySem.strKind prog w) s'.heap S (fun x => decide (x ∈ ks)) (dd ks).length → R (.ok (.ret .none)) s') →
      codeAny (model prog w) A (.builtin "set.update.loop" ⟨[.ref S, .ref I], []⟩) R s
  | 0, i, s, e, st, hS, hR => by
    have hin : i = n := by omega
    subst hin
    refine codeAny_builtin PyProof.Rows.F.entry_set_update_loop ?_
    rw [Around.under_plainId PyProof.Rows.F.plain_set_update_loop _]
    show wpAny _ A.in1 (pyNext (.ref I) >>= _) _ _ s
    refine wpAny_bind (W.done s _ _ st fun s' hm => wpAny_pure (hR s' (hm.mono fun b hb => List.mem_cons_of_mem _ hb) ?_))
    rw [List.take_of_length_le (by omega)] at hS
    exact hS.keep fun o ho => hm.heap S _ (fun h => hSf (W.sub _ h)) ho
  | m + 1, i, s, e, st, hS, hR => by
    have hlt : i < n := by omega
    refine codeAny_builtin PyProof.Rows.F.entry_set_update_loop ?_
    rw [Around.under_plainId PyProof.Rows.F.plain_set_update_loop _]
    show wpAny _ A.in1 (pyNext (.ref I) >>= _) _ _ s
    refine wpAny_bind (W.item i s _ _ hlt st fun v s' hP st' hm => ?_)
    obtain ⟨k, t, hk, rfl⟩ := hval i v hP
    have hS' := hS.keep fun o ho => hm.heap S _ (fun h => hSf (W.sub _ h)) ho
    have ln := dd_len (ks.take i) []
    rw [List.length_nil, List.length_take] at ln
    show wpAny _ A.in1 (holding [Value.str k t] (setAdd S (.str k t)) >>= _) _ _ s'
    refine wpAny_bind (wpAny_holding ?_)
    unfold setAdd
    refine wpAny_holding (wpAny_bind ((PySem.strKind prog w).pyHash (k := k) (strKind_is _ _ _ _) ?_))
    refine setT_add (knd := PySem.strKind prog w) (s := { s' with toks := s'.toks + 1 }) (strKind_is _ _ _ _) rfl hS' (by unfold dd; omega) fun h' hsb hS2 => ?_
    have et : ks.take (i + 1) = ks.take i ++ [k] := by rw [List.take_add_one, hk]; rfl
    have hS3 : SetT (PySem.strKind prog w) h' S (fun x => decide (x ∈ ks.take (i + 1))) (dd (ks.take (i + 1))).length := by
      refine hS2.congr (fun x => ?_) ?_
      · rw [et]
        simp only [List.mem_append, List.mem_singleton, Bool.decide_or]
      · rw [et, dd_snoc]
        unfold dd1
        by_cases c : k ∈ ks.take i
        · rw [if_pos ((dd_has _ _).mpr c), if_pos (decide_eq_true c)]
        · rw [if_neg (fun h => c ((dd_has _ _).mp h)), if_neg (by simpa using c), List.length_append, List.length_singleton]
    refine wpAny_pure ⟨plainId_quiet PyProof.Rows.F.plain_set_update_loop _, setT_fill ks W S hSf hn hval hb m (i + 1) _ (by omega) (W.frame _ s' _ _ st' (Nat.le_succ _) fun b hb o q => ?_) hS3 fun s'' hm'' hS'' => ?_⟩
    · rw [hsb.2 b (fun h => hSf (by rw [← h]; exact hb))]; exact q
    · refine hR s'' (Moved.trans W.gtrans ((hm.mono fun b hb => List.mem_cons_of_mem _ hb).then_heap (Nat.le_succ _) fun b o hb q => ?_) hm'') hS''
      rw [hsb.2 b (fun h => hb (by rw [h]; exact List.mem_cons_self))]; exact q
end
/-! each one once -/
theorem dd_nd : ∀ (l acc : List Str), acc.Nodup → (l.foldl dd1 acc).Nodup
  | [], acc, h => h
  | k :: r, acc, h => by
    rw [List.foldl_cons]
    refine dd_nd r _ ?_
    unfold dd1
    split
    · exact h
    · rename_i c
      rw [List.nodup_append]
      exact ⟨h, by simp, fun a ha b hb => by rw [List.mem_singleton.mp hb]; exact fun z => c (z ▸ ha)⟩
theorem perm_of_sub : ∀ {l m : List Str}, l.Nodup → (∀ x ∈ l, x ∈ m) → m.length = l.length → m.Perm l
  | [], m, _, _, h => by
    have : m = [] := List.eq_nil_of_length_eq_zero (by simpa using h)
    rw [this]
  | x :: r, m, nd, sub, h => by
    obtain ⟨nx, nr⟩ := List.nodup_cons.mp nd
    have hx : x ∈ m := sub x List.mem_cons_self
    have pe := List.perm_cons_erase hx
    have hl := pe.length_eq
    rw [List.length_cons] at hl h
    have ih := perm_of_sub (l := r) (m := m.erase x) nr (fun y hy => by
      have ym := sub y (List.mem_cons_of_mem _ hy)
      exact (List.mem_erase_of_ne (fun z : y = x => nx (by rw [← z]; exact hy))).mpr ym) (by omega)
    exact pe.trans (ih.cons x)
end Gd
namespace Gd
open PySem PySem.Spec PyProof.Rows L2
section
variable {P : Program} {w : World} {A : Around} {E : Value → Shared → Prop} {s : Shared}
abbrev setL (w : World) : Obj := set0 (!w.params.followText "set-order")
theorem setL_ok {h : Heap} {a : Addr} {o : Obj} (e : h.get? a = some (setL w)) : SetT (PySem.strKind P w) h a (fun x => decide (x ∈ ([] : List Str))) 0 :=
  ⟨_, #[], 0, _, e, ⟨rfl, rfl, rfl⟩, rfl, (fun e he => by simp at he), (fun k => by simp), (by decide), (by rfl), rfl, List.Pairwise.nil, by
    show _ ∨ (!w.params.followText "set-order") = true
    cases w.params.followText "set-order"
    · exact .inr rfl
    · exact .inl rfl⟩
theorem code_set_of (a : Value) {Q₁ : Value → Shared → Prop} (h : Q₁ (.ref s.heap.objs.size) { s with heap := s.heap.push (setL w) }) :
    codeAny (model P w) A (.call (.builtin "set.__new__") ⟨[.type "set", a], []⟩) (wants Q₁ E) s := by
  refine codeAny_of_tree ?_
  show wpAny _ A.in1 (do checkBuiltinCall "set.__new__" ⟨[.type "set", a], []⟩; again (.builtin "set.__new__" ⟨[.type "set", a], []⟩)) _ _ s
  refine wpAny_bind (wpAny_of_eq (PySem.F.newCall_set_1 a) (wpAny_pure ⟨plainId_quiet PySem.F.plain_set_new _, codeAny_builtin PySem.F.entry_set_new ?_⟩))
  rw [Around.under_plainId PySem.F.plain_set_new _]
  unfold Builtin.«set.__new__» Builtin.Frozenset.newClass
  have hsub := sub_set_self
  obtain ⟨hp, g, d, tk, os⟩ := s
  dsimp only
  wp_walk
  refine wpAny_askSetting (wpAny_pure ?_)
  dsimp only
  simp only [newObj]
  refine wpAny_bind (wpAny_alloc (wpAny_pure ?_))
  exact wpAny_pure h
theorem strs_out : ∀ {vs : List Value}, (∀ v ∈ vs, ∃ k t, v = Value.str k t) → ∃ ss, StrsAre vs ss
  | [], _ => ⟨[], .nil⟩
  | v :: vs, h => by
    obtain ⟨k, t, rfl⟩ := h v List.mem_cons_self
    obtain ⟨ss, hs⟩ := strs_out fun x hx => h x (List.mem_cons_of_mem _ hx)
    exact ⟨_, .cons k t hs⟩
theorem strs_mem : ∀ {vs : List Value} {ss : List Str} {k : Str} {t : Tok}, StrsAre vs ss → Value.str k t ∈ vs → k ∈ ss
  | _, _, k, t, .nil, h => (List.not_mem_nil h).elim
  | _, _, k, t, .cons x u r, h => by
    rcases List.mem_cons.mp h with e | h
    · cases e; exact List.mem_cons_self
    · exact List.mem_cons_of_mem _ (strs_mem r h)
theorem sorted_setT {a : Addr} {ks : List Str} {Q : Value → Shared → Prop} (R : SetT (PySem.strKind P w) s.heap a (fun x => decide (x ∈ ks)) (dd ks).length) (hh : A.handled = none) (hz : (dd ks).length ≤ sizeLine)
    (hQ : ∀ s' p (out : Array Value) (c : Nat) (ys : List Str), (∀ b o, s.heap.get? b = some o → s'.heap.get? b = some o) → s'.gens = s.gens → s'.os = s.os → s.heap.objs.size ≤ p →
      s'.heap.get? p = some (seqObj "list" out c) → StrsAre out.toList ys → ys.Perm (dd ks) → sortedS ys = true → Q (.ref p) s') :
    wpAny (model P w) A (call (.builtin "sorted") [.ref a]) Q E s := by
  obtain ⟨o, es, ep, t, ho, hex, hd, hel, hm, hb, hf, hn, hr, hl⟩ := R
  refine Calls.call_function_entry kind_sorted plain_sorted entry_sorted (args_sorted1 _) ?_
  unfold Builtin.«sorted»
  refine wpAny_bind (m := checkCount "sorted" 1 1 _) (wpAny_pure ?_)
  refine wpAny_bind (collect_set (A := A.in1) hh ⟨o, ho, hex.1, hd⟩ hf hb hr hl fun s1 vs k1 z1 g1 o1 pm => ?_)
  have lv : vs.length = (dd ks).length := by rw [pm.length_eq, List.length_map, Array.length_toList]; exact hn
  have key : ∀ v ∈ vs, ∃ k t, v = Value.str k t := fun v hv => by
    obtain ⟨e, he, rfl⟩ := List.mem_map.mp (pm.mem_iff.mp hv)
    obtain ⟨⟨k, hk, _⟩, _⟩ := hel e he
    cases hv2 : e.2 <;> rw [hv2] at hk <;> simp [PySem.strKind, Value.isStrOf] at hk
    exact ⟨_, _, rfl⟩
  obtain ⟨ss, hS⟩ := strs_out key
  have ps : ss.Perm (dd ks) := by
    refine perm_of_sub (dd_nd ks [] List.nodup_nil) (fun x hx => ?_) ?_
    · have hx2 : x ∈ ks := (dd_has ks x).mp hx
      obtain ⟨e, he, h⟩ := (hm x).mp (decide_eq_true hx2)
      cases hv2 : e.2 <;> rw [hv2] at h <;> simp [PySem.strKind, Value.isStrOf] at h
      subst h
      exact strs_mem hS (pm.mem_iff.mpr (List.mem_map.mpr ⟨e, he, hv2⟩))
    · rw [← StrsAre.length hS]; exact lv
  have hoL : (s1.heap.push (seqObj "list" vs.toArray 0)).get? s1.heap.objs.size = some (seqObj "list" vs.toArray 0) := Heap.get?_push_size _ rfl
  refine wpAny_bind (wpAny_newList ?_ (by rw [lv]; exact hz))
  refine wpAny_bind (wpAny_holding (wpAny_call_entry slot_list_sort ⟨_, hoL, rfl⟩ entry_list_sort (list_sort_treeKAny strKind_oneLt hoL hS.keysOf (fun v₁ v₂ rest e => keyKind_strs (by rw [← e]; exact hS)) (by rw [lv]; exact hz) fun st' hp hs => ⟨_, rfl, ?_⟩) (args_list_sort _)))
  obtain ⟨ys, b1, b2, b3⟩ := sorted_out_str hS hp hs
  obtain ⟨c, hc⟩ := sortedHeap_at (vs := vs) (out := (arrOf st').map (·.2)) hoL
  refine wpAny_pure ⟨_, rfl, hQ _ s1.heap.objs.size ((arrOf st').map (·.2)) c ys (fun b u e => ?_) g1 o1 z1 hc b1 (b2.trans ps) b3⟩
  have q := k1 b u e
  have lt := Heap.lt_size q
  show (sortedHeap (s1.heap.push (seqObj "list" vs.toArray 0)) s1.heap.objs.size vs _).get? b = some u
  rw [sortedHeap_old (Nat.ne_of_lt lt) (by rw [size_push']; exact Nat.lt_succ_of_lt lt)]
  exact Heap.get?_push_of_some _ q
end
end Gd
namespace Gd
open PySem PySem.Spec PyProof.Rows
section
variable {prog : Program} {w : World} {A : Around} {E : Value → Shared → Prop} {s : Shared}
theorem call_set_textsT {l : Addr} {items : Array Value} {ks : List Str} {Q : Value → Shared → Prop} (hh : A.handled = none) (hl : s.heap.IsList l items)
    (hi : ∀ (i : Nat) (v : Value), items[i]? = some v → ∃ k t, ks[i]? = some k ∧ v = .str k t) (hn : items.size = ks.length) (hb : items.size + 1 < scanBound)
    (h : ∀ (h' : Heap) (tk : Nat), SetT (PySem.strKind prog w) h' s.heap.objs.size (fun x => decide (x ∈ ks)) (dd ks).length → (∀ b o, b < s.heap.objs.size → s.heap.get? b = some o → h'.get? b = some o) → Q (.ref s.heap.objs.size) { s with heap := h', toks := tk }) :
    wpAny (model prog w) A (call (.type "set") [.ref l]) Q E s := by
  obtain ⟨c, tl, hmro⟩ := F.called_set.mro
  have hmade := F.called_set.made
  have hsub := F.called_set.sub
  refine wpAny_call (codeAny_of_tree ?_)
  show wpAny _ _ (callAny (.type "set") _) _ _ _
  refine wpAny_pure ⟨Code.quiet_builtin _ (by decide +kernel), codeAny_builtin F.entry_type_call ?_⟩
  rw [Around.under_plain (weight_type_call_type "set" [.ref l] []) rfl]
  have h1 := F.called_set.notType
  have h2 := F.called_set.canCreate
  have hct := F.typeCall_set_1 (.ref l)
  repeat (any_goals (first | assumption | wp_step))
  refine codeAny_mono (code_set_of (.ref l) (E := E) (Q₁ := fun obj s₁ => obj = .ref s.heap.objs.size ∧ s₁ = { s with heap := s.heap.push (setL w) }) ⟨rfl, rfl⟩) fun r s₁ hr => ?_
  rcases r with e | fl
  · exact hr
  rcases fl with _ | obj | _ | _
  all_goals try exact hr.elim
  obtain ⟨rfl, rfl⟩ := hr
  have hS : (s.heap.push (setL w)).get? s.heap.objs.size = some (setL w) := Heap.get?_push_size _ rfl
  have hT : Shared.TypeIs { s with heap := s.heap.push (setL w) } (.ref s.heap.objs.size) "set" := ⟨_, hS, rfl⟩
  have hli := F.called_set.init.lookup
  have hbi := F.called_set.init.bind (.ref s.heap.objs.size)
  repeat (any_goals (first | assumption | wp_step))
  refine codeAny_mono (codeAny_call_builtin (R := wants (fun r s₂ => r = .none ∧ ∃ h' tk, s₂ = { s with heap := h', toks := tk } ∧ SetT (PySem.strKind prog w) h' s.heap.objs.size (fun x => decide (x ∈ ks)) (dd ks).length ∧
      (∀ b o, b < s.heap.objs.size → s.heap.get? b = some o → h'.get? b = some o)) E) F.called_set.init.plain F.entry_set_init (check_set_init_1 hT ?_)) fun r₂ s₂ hr₂ => ?_
  · obtain ⟨ol, hol, hcl, nl, hdl⟩ := hl
    obtain ⟨ocls, odict, odata, oslots⟩ := ol
    simp only at hcl hdl
    subst hcl; subst hdl
    have hol' : (s.heap.push (setL w)).get? l = some { cls := .type "list", dict := odict, data := .seq items nl, slots := oslots } := Heap.get?_push_of_some _ hol
    have hsls := F.sub_list_set
    have hslf := F.sub_list_frozenset
    have hne : (Value.type "list" == Value.type "dict") = false := by decide
    have hl1 : (s.heap.push (setL w)).IsList l items := ⟨_, hol', rfl, nl, rfl⟩
    unfold Builtin.«set.__init__» noKeywords Builtin.Frozenset.updateFrom
    generalize hPI : pyIter = PI
    wp_walk
    subst hPI
    refine wpAny_pyIter_list hl1 ?_
    refine wpAny_bind (wpAny_runValue ?_)
    have lS : l < s.heap.objs.size := Heap.lt_size hol
    have sz : (s.heap.push (setL w)).objs.size = s.heap.objs.size + 1 := Heap.size_push _ _
    have hh3 : A.in1.in1.in1.handled = none := by simp [hh]
    have nI : l ≠ (s.heap.push (setL w)).objs.size := by rw [sz]; exact Nat.ne_of_lt (Nat.lt_succ_of_lt lS)
    have nS : s.heap.objs.size ∉ [(s.heap.push (setL w)).objs.size, l] := by
      rw [sz]
      simp only [List.mem_cons, List.not_mem_nil, or_false, not_or]
      exact ⟨Nat.ne_of_lt (Nat.lt_succ_self _), Nat.ne_of_gt lS⟩
    refine setT_fill ks ((Walks.list hh3 _ l nI items).toS) s.heap.objs.size nS hn hi hb items.size 0 _ (by omega) ⟨⟨_, Heap.get?_push_size _ rfl, rfl, rfl⟩, hl1.push _⟩ ?_ fun s' hm hS' => ?_
    · have g : ((s.heap.push (setL w)).push { cls := .type "list_iterator", data := .fields #[.ref l, .int 0 0] }).get? s.heap.objs.size = some (setL w) := Heap.get?_push_of_some _ hS
      exact (setL_ok (P := prog) (o := setL w) g).congr (fun _ => by simp) rfl
    · obtain ⟨h', g', d', tk', os'⟩ := s'
      obtain rfl : g' = s.gens := hm.gens
      obtain rfl : d' = s.drawn := hm.drawn
      obtain rfl : os' = s.os := hm.os
      show wpAny _ _ _ _ _ _
      refine wpAny_pure ?_
      show wpAny _ _ (ret Value.none) _ _ _
      refine wpAny_pure ⟨rfl, h', tk', rfl, hS', fun b o hb e => ?_⟩
      refine hm.heap b o ?_ (Heap.get?_push_of_some _ (Heap.get?_push_of_some _ e))
      simp only [List.mem_cons, List.not_mem_nil, or_false, not_or]
      exact ⟨Nat.ne_of_lt hb, by rw [sz]; exact Nat.ne_of_lt (Nat.lt_succ_of_lt hb)⟩
  · rcases r₂ with e | fl₂
    · exact hr₂
    rcases fl₂ with _ | r | _ | _
    all_goals try exact hr₂.elim
    obtain ⟨rfl, h', tk, rfl, hS', hk'⟩ := hr₂
    repeat (any_goals (first | assumption | wp_step))
    exact h _ _ hS' hk'
end
end Gd

namespace Gd
open PySem PySem.Spec PyProof.Rows L2
def tSortedSetTx (K : PySem.W.Frag) (ta : TE) : TE := fun σ H Q => ta σ H fun x H1 => ∃ (l : Addr) (ks : List Str), x = .ref l ∧ SqL K H1 l (ks.map V.str) ∧ ks.length ≤ 4000 ∧
  ∀ p, H1 p = none → Q (.ref p) (upd H1 p (.lst ((ssort (dd ks)).map V.str)))
theorem pe_sortedSetTx {X : Cx} {a : Expr} {ta : TE} {p p2 q pos : Pos} (hg : Gl X "sorted") (hm : X.mg "sorted" = none) (hg2 : Gl X "set") (hm2 : X.mg "set" = none) (ha : PE X a ta) (hc : X.calm = true := by rfl)
    (na : starEach [a] X.env = (false, eval a X.env) :: starEach [] X.env := by rfl) : PE X (.Call (.Name "sorted" p) [.Call (.Name "set" p2) [a] [] q] [] pos) (tSortedSetTx X.K ta) := by
  refine ⟨fun pins s σ H Q I h => ?_⟩
  refine Call_ (ld_blt I hg hm (show bootBuiltins ("sorted" : Str) = some (.builtin "sorted") from by decide +kernel) (callWith_builtin1 (args_cons ?_ rfl) rfl rfl))
  refine Call_ (ld_blt I hg2 hm2 boot_set (callWith_type1 (args_cons (thn (ha.run pins s σ H _ I h) fun v s1 ⟨x, H1, I1, r1, l, ks, ex, hq, hl, q1⟩ => args_nil ?_) na) na rfl))
  subst ex
  cases r1
  obtain ⟨us, r, pl, hz⟩ := I1.list hq
  have hlen : us.toArray.size = ks.length := by rw [List.size_toArray, ← r.length, List.length_map]
  have ln := dd_len ks []
  rw [List.length_nil] at ln
  have hsz : (dd ks).length ≤ 4000 := by unfold dd; omega
  refine call_set_textsT (ks := ks) (I1.ok.hd hc) pl.isList (fun i v hv => vals_texts r i v (by simpa using hv)) hlen (by rw [hlen]; unfold scanBound; omega) fun h' tk hS hk => args_nil ?_
  have I2 : Inv X pins σ H1 { s1 with heap := h', toks := tk } := I1.kept fun b o e => hk b o (Heap.lt_size e) e
  refine sorted_setT hS (I2.ok.hd hc) (by rw [sizeLine_eq]; omega) fun s' p out c ys k g o hp hg hi pm so => ?_
  obtain rfl := ssort_of pm so
  have hlen : ((ssort (dd ks)).map V.str).length ≤ sizeLine := by rw [List.length_map, (ssort_perm _).length_eq, sizeLine_eq]; omega
  have hn : H1 p = none := I2.hok.fresh hp
  have J : Inv X pins σ (upd H1 p (.lst ((ssort (dd ks)).map V.str))) { { s1 with heap := h', toks := tk } with heap := s'.heap, gens := s'.gens, drawn := s'.drawn, toks := s'.toks } :=
    I2.call (ch := []) (Un.laid k hp hn) (I2.hok.laid k hp ⟨hlen, out.toList, c, vals_of_strs hi, hg⟩) (by rw [g]; exact I2.bare) (fun _ z => nomatch z)
  have e : s' = { { s1 with heap := h', toks := tk } with heap := s'.heap, gens := s'.gens, drawn := s'.drawn, toks := s'.toks } := by
    cases s'
    cases s1
    cases o
    rfl
  rw [e]
  exact ⟨.ref p, _, J, rfl, q1 p hn⟩
theorem r_sset {K : PySem.W.Frag} {H : Hp} {Q : VK} {a : Addr} {ks : List Str} (h : H a = some (.lst (ks.map V.str))) (hl : ks.length ≤ 4000) (q : ∀ p H2, H p = none → Up H H2 → H2 p = some (.lst ((ssort (dd ks)).map V.str)) → Q (.ref p) H2) :
    ∃ (l : Addr) (ks : List Str), V.ref a = .ref l ∧ SqL K H l (ks.map V.str) ∧ ks.length ≤ 4000 ∧ ∀ p, H p = none → Q (.ref p) (upd H p (.lst ((ssort (dd ks)).map V.str))) :=
  ⟨a, ks, rfl, SqL.of h, hl, fun p hn => q p _ hn (Up.new hn) upd_same⟩
theorem r_lset {K : PySem.W.Frag} {H : Hp} {Q : VK} {a : Addr} {ks : List Str} (h : H a = some (.lst (ks.map V.str))) (hl : ks.length ≤ 4000) (q : Q (.int ((dd ks).length : Nat)) H) :
    ∃ (l : Addr) (ks : List Str), V.ref a = .ref l ∧ SqL K H l (ks.map V.str) ∧ ks.length ≤ 4000 ∧ Q (.int ((dd ks).length : Nat)) H :=
  ⟨a, ks, rfl, SqL.of h, hl, q⟩
end Gd

namespace Gd
open PySem PySem.Spec PyProof.Rows L2
/-! ### joining in groups -/
theorem fold_keys : ∀ (l acc : List P) (x : Str), x ∈ (l.foldl addP acc).map lkP ↔ x ∈ acc.map lkP ∨ x ∈ l.map lkP
  | [], acc, x => by simp
  | p :: r, acc, x => by
    rw [List.foldl_cons, fold_keys r _ x, List.map_cons, List.mem_cons]
    unfold addP
    split
    · rename_i h
      constructor
      · rintro (a | a)
        · exact .inl a
        · exact .inr (.inr a)
      · rintro (a | rfl | a)
        · exact .inl a
        · exact .inl h
        · exact .inr a
    · rw [List.map_append, List.mem_append, List.map_singleton, List.mem_singleton]
      constructor
      · rintro ((a | a) | a)
        · exact .inl a
        · exact .inr (.inl a)
        · exact .inr (.inr a)
      · rintro (a | a | a)
        · exact .inl (.inl a)
        · exact .inl (.inr a)
        · exact .inr a
theorem fold_fold : ∀ (b acc : List P) (n : Nat), b.length = n → (b.foldl addP []).foldl addP acc = b.foldl addP acc
  | b, acc, 0, h => by rw [List.eq_nil_of_length_eq_zero h]; rfl
  | b, acc, n + 1, h => by
    have hb : b ≠ [] := fun e => by rw [e] at h; simp at h
    obtain ⟨c, m, rfl⟩ : ∃ c m, b = c ++ [m] := ⟨b.dropLast, b.getLast hb, (List.dropLast_concat_getLast hb).symm⟩
    have hc : c.length = n := by simpa using h
    rw [List.foldl_append, List.foldl_append, List.foldl_cons, List.foldl_nil, List.foldl_cons, List.foldl_nil]
    have ih := fold_fold c acc n hc
    by_cases k : lkP m ∈ (c.foldl addP []).map lkP
    · rw [show addP (c.foldl addP []) m = c.foldl addP [] from if_pos k, ih]
      have k2 : lkP m ∈ (c.foldl addP acc).map lkP := (fold_keys c acc _).mpr (.inr (((fold_keys c [] _).mp k).resolve_left (by simp)))
      exact (if_pos k2).symm
    · rw [show addP (c.foldl addP []) m = c.foldl addP [] ++ [m] from if_neg k, List.foldl_append, ih]
      rfl
theorem fold_ndA : ∀ (l acc : List P), (acc.map lkP).Nodup → ((l.foldl addP acc).map lkP).Nodup
  | [], acc, h => h
  | p :: r, acc, h => by
    rw [List.foldl_cons]
    refine fold_ndA r _ ?_
    unfold addP
    split
    · exact h
    · rename_i c
      rw [List.map_append, List.nodup_append]
      exact ⟨h, by simp, fun a ha b hb => by
        rw [List.map_singleton, List.mem_singleton] at hb
        rw [hb]
        exact fun z => c (z ▸ ha)⟩
theorem fold_dd : ∀ (l acc : List P), (l.foldl addP acc).map lkP = (l.map lkP).foldl dd1 (acc.map lkP)
  | [], acc => rfl
  | p :: r, acc => by
    rw [List.foldl_cons, List.map_cons, List.foldl_cons, fold_dd r]
    congr 1
    unfold addP dd1
    split
    · rfl
    · rw [List.map_append]; rfl
theorem fold_subA : ∀ (l acc : List P) (x : P), x ∈ l.foldl addP acc → x ∈ acc ∨ x ∈ l
  | [], acc, x, h => .inl h
  | p :: r, acc, x, h => by
    rcases fold_subA r _ x h with h | h
    · unfold addP at h
      split at h
      · exact .inl h
      · rcases List.mem_append.mp h with h | h
        · exact .inl h
        · rw [List.mem_singleton.mp h]; exact .inr List.mem_cons_self
    · exact .inr (List.mem_cons_of_mem _ h)
theorem foundP_nd (ps : List P) : ((foundP ps).map lkP).Nodup := fold_ndA _ [] List.nodup_nil
theorem foundP_dd (ps : List P) : dd ((ps.flatMap memb).map lkP) = (foundP ps).map lkP := (fold_dd _ []).symm
theorem memb_self {m : P} (h : isK m 4) : memb m = [m] := by
  cases m <;> first | rfl | (simp [isK] at h)
theorem memb_asP {l : List P} (h : ∀ m ∈ l, isK m 4) : memb (asP l) = l := by
  match l, h with
  | [], _ => rfl
  | [m], h => exact memb_self (h m List.mem_cons_self)
  | _ :: _ :: _, _ => rfl
theorem foundP_is {ps : List P} (h : ∀ p ∈ ps, isK p 0) : ∀ m ∈ foundP ps, isK m 4 := fold_is fun m hm => by
  obtain ⟨p, hp, hm⟩ := List.mem_flatMap.mp hm
  exact isK_memb (h p hp) hm
theorem memb_ljoin {ps : List P} (h : ∀ p ∈ ps, isK p 0) : memb (ljoin ps) = foundP ps := memb_asP (foundP_is h)
/-- two joined groups, joined -/
theorem ljoin_app {g h : List P} (hg : ∀ p ∈ g, isK p 0) (hh : ∀ p ∈ h, isK p 0) : ljoin [ljoin g, ljoin h] = ljoin (g ++ h) := by
  have e : foundP [ljoin g, ljoin h] = foundP (g ++ h) := by
    show (([ljoin g, ljoin h]).flatMap memb).foldl addP [] = ((g ++ h).flatMap memb).foldl addP []
    rw [List.flatMap_cons, List.flatMap_cons, List.flatMap_nil, List.append_nil, memb_ljoin hg, memb_ljoin hh, List.flatMap_append, List.foldl_append, List.foldl_append]
    unfold foundP
    rw [fold_fold _ [] _ rfl, fold_fold _ _ _ rfl]
  exact congrArg asP e
theorem ljoin_self {g : List P} (hg : ∀ p ∈ g, isK p 0) : ljoin [ljoin g] = ljoin g := by
  have e : foundP [ljoin g] = foundP g := by
    show (([ljoin g]).flatMap memb).foldl addP [] = (g.flatMap memb).foldl addP []
    rw [List.flatMap_cons, List.flatMap_nil, List.append_nil, memb_ljoin hg]
    unfold foundP
    rw [fold_fold _ [] _ rfl]
  exact congrArg asP e
/-- the same members in another order: the same key -/
theorem lk_asP {l m : List P} (p : (l.map lkP).Perm (m.map lkP)) : lkP (asP l) = lkP (asP m) := by
  have hl := p.length_eq
  simp only [List.length_map] at hl
  have two : ∀ l m : List P, (l.map lkP).Perm (m.map lkP) → lkP (.uni l) = lkP (.uni m) := fun l m p => by
    rw [lkP_uni, lkP_uni]
    rw [perm_sort.mp p]
  match l, m, hl, p with
  | [], [], _, _ => rfl
  | [a], [b], _, p => exact List.singleton_perm_singleton.mp p
  | a :: b :: l, c :: d :: m, _, p => exact two _ _ p
theorem lk_ljoin_rev {ps : List P} : lkP (ljoin ps.reverse) = lkP (ljoin ps) := by
  refine lk_asP ?_
  refine (List.perm_ext_iff_of_nodup (foundP_nd _) (foundP_nd _)).mpr fun x => ?_
  unfold foundP
  rw [fold_keys, fold_keys]
  simp
theorem foundP_sub {ps : List P} {x : P} (h : x ∈ foundP ps) : x ∈ ps.flatMap memb := (fold_subA _ [] x h).resolve_left (by simp)
end Gd
namespace Gd
open PySem PySem.Spec PyProof.Rows L2
/-! ### groups of terms -/
structure Grp (ps : List P) (gs : List (List P)) : Prop where
  flat : gs.flatten = ps
  ne : ∀ g ∈ gs, g ≠ []
theorem flatten_len : ∀ {gs : List (List P)}, (∀ g ∈ gs, g ≠ []) → gs.length ≤ gs.flatten.length
  | [], _ => Nat.le_refl _
  | g :: r, h => by
    have ih := flatten_len (gs := r) fun x hx => h x (List.mem_cons_of_mem _ hx)
    have h1 : g ≠ [] := h g List.mem_cons_self
    have : 1 ≤ g.length := by cases g with | nil => exact absurd rfl h1 | cons _ _ => simp
    rw [List.flatten_cons, List.length_append, List.length_cons]
    omega
theorem Grp.len {ps : List P} {gs : List (List P)} (h : Grp ps gs) : gs.length ≤ ps.length := by
  rw [← h.flat]; exact flatten_len h.ne
theorem Grp.len1 {ps : List P} {gs : List (List P)} (h : Grp ps gs) (l : 1 ≤ ps.length) : 1 ≤ gs.length := by
  cases gs with
  | nil =>
    have := h.flat
    rw [List.flatten_nil] at this
    rw [← this] at l
    exact absurd l (by simp)
  | cons _ _ => simp
theorem Grp.sub {ps : List P} {gs : List (List P)} (h : Grp ps gs) {g : List P} (hg : g ∈ gs) : ∀ p ∈ g, p ∈ ps := fun p hp => by
  rw [← h.flat]; exact List.mem_flatten.mpr ⟨g, hg, hp⟩
theorem Grp.glen {ps : List P} {gs : List (List P)} (h : Grp ps gs) {g : List P} (hg : g ∈ gs) : 1 ≤ g.length ∧ g.length ≤ ps.length := by
  constructor
  · have := h.ne g hg
    cases g with | nil => exact absurd rfl this | cons _ _ => simp
  · obtain ⟨a, b, rfl⟩ := List.append_of_mem hg
    rw [← h.flat, List.flatten_append, List.flatten_cons, List.length_append, List.length_append]
    omega
theorem Grp.start (ps : List P) : Grp ps (ps.map fun p => [p]) := ⟨by induction ps with
  | nil => rfl
  | cons p r ih => rw [List.map_cons, List.flatten_cons, ih]; rfl, fun g hg => by
  obtain ⟨p, _, rfl⟩ := List.mem_map.mp hg
  exact List.cons_ne_nil _ _⟩
theorem Grp.start_enc {ps : List P} (h : ∀ p ∈ ps, isK p 0) : encs ((ps.map fun p => [p]).map ljoin) = encs ps := by
  rw [List.map_map]
  congr 1
  conv => rhs; rw [← List.map_id ps]
  exact List.map_congr_left fun p hp => ljoin_one (h p hp)
theorem cut2 {α : Type} {l : List α} {n : Nat} {a b : α} (ha : l[n]? = some a) (hb : l[n + 1]? = some b) : l = l.take n ++ (a :: b :: l.drop (n + 2)) := by
  obtain ⟨h1, e1⟩ := List.getElem?_eq_some_iff.mp ha
  obtain ⟨h2, e2⟩ := List.getElem?_eq_some_iff.mp hb
  conv => lhs; rw [← List.take_append_drop n l]
  rw [List.drop_eq_getElem_cons h1, List.drop_eq_getElem_cons h2, e1, e2]
theorem Grp.step {ps : List P} {gs : List (List P)} {n : Nat} {g h : List P} (x : Grp ps gs) (hg : gs[n]? = some g) (hh : gs[n + 1]? = some h) : Grp ps (gs.take n ++ [g ++ h] ++ gs.drop (n + 2)) := by
  refine ⟨?_, fun y hy => ?_⟩
  · rw [← x.flat]
    conv => rhs; rw [cut2 hg hh]
    simp
  · rcases List.mem_append.mp hy with hy | hy
    · rcases List.mem_append.mp hy with hy | hy
      · exact x.ne y (List.mem_of_mem_take hy)
      · rw [List.mem_singleton.mp hy]
        have := x.ne g (List.mem_of_getElem? hg)
        simp [this]
    · exact x.ne y (List.mem_of_mem_drop hy)
theorem das_take {H : Hp} {xs : List V} {ps : List P} (h : Das H xs (encs ps)) (n : Nat) : Das H (xs.take n) (encs (ps.take n)) := by rw [← encs_take]; exact h.take n
theorem das_drop {H : Hp} {xs : List V} {ps : List P} (h : Das H xs (encs ps)) (n : Nat) : Das H (xs.drop n) (encs (ps.drop n)) := by rw [← encs_drop]; exact h.drop n
theorem ljoin_len {ps : List P} (h : ∀ p ∈ ps, Tj p) : (memb (ljoin ps)).length ≤ 9 * ps.length := by
  rw [memb_ljoin fun p hp => (h p hp).cd.is]
  have := fold_len (ps.flatMap memb) []
  have := flat_mem h
  unfold foundP
  simp only [List.length_nil] at *
  omega
section
variable {H : Hp} {Q : VK} {K : PySem.W.Frag}
theorem r_slFrom {l : Addr} {xs : List V} {k : Nat} (h : H l = some (.lst xs)) (q : ∀ p H2, H p = none → Up H H2 → H2 p = some (.lst (xs.drop k)) → Q (.ref p) H2) : rSlL K (.ref l) (some (k : Int)) none H Q :=
  ⟨l, xs, rfl, SqL.of h, fun p hp => by rw [cut_from]; exact q p _ hp (Up.new hp) upd_same⟩
end
theorem op_inDk {X : Cx} {K : PySem.W.Frag} (hK : X.K = K) (hu : X.A.units + 65 < cLine) : OpR X (compareOp .In) (rInD K) := hK ▸ op_inD hu
end Gd

namespace Gd
open PySem PySem.Spec PyProof.Rows L2
/-! ### the law's keys have small signs -/
theorem sok_sg {x : Str} : PyData.strOk x = true ↔ ∀ c ∈ sg x, c < 0x110000 := by
  unfold PyData.strOk sg
  rw [Array.all_eq_true_iff_forall_mem]
  simp only [decide_eq_true_eq, Array.mem_toList_iff]
theorem sok_repr {n : Str} (h : good n) : PyData.strOk (reprText n) = true := by
  have h2 := sok_sg.mp (good_lay h)
  rw [sok_sg, good_repr h]
  intro c hc
  rcases List.mem_cons.mp hc with rfl | hc
  · decide
  · rcases List.mem_append.mp hc with hc | hc
    · exact h2 c hc
    · rw [List.mem_singleton.mp hc]; decide
theorem sok_par {ks : List Str} (h : ∀ k ∈ ks, PyData.strOk k = true) : PyData.strOk (par ks) = true :=
  sok_app (sok_app (by decide +kernel) (sok_join (by decide +kernel) ks h)) (by decide +kernel)
theorem sok_two {P : Str → Prop} {a b : Str} (ha : P a) (hb : P b) : ∀ k ∈ [a, b], P k := fun k hk => by
  simp only [List.mem_cons, List.not_mem_nil, or_false] at hk
  rcases hk with rfl | rfl
  · exact ha
  · exact hb
theorem sok_three {P : Str → Prop} {a b c : Str} (ha : P a) (hb : P b) (hc : P c) : ∀ k ∈ [a, b, c], P k := fun k hk => by
  simp only [List.mem_cons, List.not_mem_nil, or_false] at hk
  rcases hk with rfl | rfl | rfl
  · exact ha
  · exact hb
  · exact hc
theorem sok_tlr {tl : Option Str} (h : tlok tl) : PyData.strOk (tlr tl) = true := by
  cases tl with
  | none => decide +kernel
  | some s =>
    rcases h with rfl | h
    · decide +kernel
    · exact sok_repr h
mutual
theorem lk_sok : ∀ (p : P) (k : Nat), isK p k → PyData.strOk (lkP p) = true
  | .use n vs, k, h => by
    have h' := h
    simp only [isK] at h'
    rw [lkP_eq h rfl]
    exact sok_par (sok_two (sok_repr h'.2.1) (sok_par (lks_sok vs 1 h'.2.2)))
  | .sig i r, k, h => by
    have h' := h
    simp only [isK] at h'
    rw [lkP_eq h rfl]
    exact sok_par (sok_three (by decide +kernel) (lk_sok i 3 h'.2.1) (lk_sok r 0 h'.2.2))
  | .uni ms, k, h => by
    simp only [isK] at h
    rw [lkP_uni]
    exact sok_app (sok_app (by decide +kernel) (sok_join (by decide +kernel) _ fun k hk => lks_sok ms 4 h.2.2.2 k (mem_ssort.mp hk))) (by decide +kernel)
  | .row xs, k, h => by
    have h' := h
    simp only [isK] at h'
    rw [lkP_eq h rfl]
    exact sok_par (sok_two (by decide +kernel) (sok_par (lks_sok xs 2 h'.2)))
  | .inp xs tl, k, h => by
    have h' := h
    simp only [isK] at h'
    rw [lkP_eq h rfl]
    exact sok_par (sok_three (by decide +kernel) (sok_par (lks_sok xs 2 h'.2.1)) (sok_tlr h'.2.2))
  | .star n, k, h => by
    have h' := h
    simp only [isK] at h'
    rw [lkP_eq h rfl]
    exact sok_par (sok_two (by decide +kernel) (sok_repr h'.2))
  | .dots t, k, h => by
    have h' := h
    simp only [isK] at h'
    rw [lkP_eq h rfl]
    exact sok_par (sok_two (by decide +kernel) (lk_sok t 0 h'.2))
  | .tail s, k, h => by simp [isK] at h
theorem lks_sok : ∀ (l : List P) (k : Nat), isKs l k → ∀ x ∈ l.map lkP, PyData.strOk x = true
  | [], _, _, x, hx => (List.not_mem_nil hx).elim
  | p :: r, k, h, x, hx => by
    simp only [isKs] at h
    rcases List.mem_cons.mp hx with rfl | hx
    · exact lk_sok p k h.1
    · exact lks_sok r k h.2 x hx
end
/-! ### lists of data, told -/
theorem textFrom_le : ∀ (ts : List Str) (k : Nat) (acc : Str), (textFrom k acc ts).length ≤ acc.length + (ts.map (·.length)).sum + 2 * ts.length
  | [], k, acc => by simp [textFrom]
  | t :: ts, k, acc => by
    have ih := textFrom_le ts (k + 1) (acc ++ (if k > 0 then ", " else "" : String) ++ t)
    have h2 : ((if k > 0 then ", " else "" : String) : Str).length ≤ 2 := by
      split
      · exact Nat.le_of_eq (by decide +kernel)
      · exact Nat.le_trans (Nat.le_of_eq (show ("" : Str).length = 0 by decide +kernel)) (by decide)
    rw [slen_app, slen_app] at ih
    simp only [textFrom, List.map_cons, List.sum_cons, List.length_cons]
    omega
theorem listText_le (ts : List Str) : (listText ts).length ≤ (ts.map (·.length)).sum + 2 * ts.length + 3 := by
  have h := textFrom_le ts 0 ("[" : Str)
  have a1 : ("[" : Str).length = 1 := by decide +kernel
  have a2 : ("]" : Str).length = 1 := by decide +kernel
  unfold listText
  rw [slen_app]
  omega
section
variable {H : Hp} {Q : VK} {K : PySem.W.Frag}
theorem r_reprL3 {a : Addr} {x y z : V} {d : PyData} (h : H a = some (.lst [x, y, z])) (hx : Da H x d) (hy : Da H y d) (hz : Da H z d) (c : d.canLay0 = true) (l : d.depth ≤ 170) (w : kw d ≤ 100000) (q : Q (.str (PyData.list [d, d, d]).shown) H) : rRepr K [.ref a] H Q := by
  obtain ⟨a1, b1⟩ := hx.shown c
  refine ⟨.ref a, .list [d, d, d], rfl, .lst (SqL.of h) (Das.cons hx (.cons hy (.cons hz .nil))).dp, ?_, ?_, ?_, q⟩
  · simp [PyData.showable, PyData.showableAll, a1]
  · simp only [PyData.depth, PyData.depthAll]; omega
  · have := listText_le (PyData.shownAll [d, d, d])
    simp only [PyData.shownAll, List.map_cons, List.map_nil, List.sum_cons, List.sum_nil, List.length_cons, List.length_nil] at this
    rw [sizeLine_eq]
    show (listText (PyData.shownAll [d, d, d])).length ≤ _
    simp only [PyData.shownAll]
    omega
theorem r_sortedSet {ta : TE} {σ : L2.St} (h : ta σ H fun x H1 => ∃ (l : Addr) (ks : List Str), x = .ref l ∧ SqL K H1 l (ks.map V.str) ∧ ks.length ≤ 4000 ∧
  ∀ p, H1 p = none → Q (.ref p) (upd H1 p (.lst ((ssort (dd ks)).map V.str)))) : tSortedSetTx K ta σ H Q := h
/-- a member that is in the list as it is -/
theorem r_inP {v : V} {a : Addr} {ys : List V} {p : P} {ps : List P} (hv : Da H v (enc p)) (h : H a = some (.lst ys)) (dy : Das H ys (encs ps)) (hp : p ∈ ps) (c : PyData.canLayAll0 (encs ps) = true) (l : PyData.depthAll (encs ps) ≤ 63) (q : Q (.bl true) H) : rInD K v (.ref a) H Q := by
  have me := mem_encs hp
  have c1 := lay_mem c me
  have d1 := depth_mem me
  refine ⟨enc p, encs ps, hv.dp, .lst (SqL.of h) dy.dp, shaped_of c1 (by omega), shaped_of (by simpa [PyData.canLay0] using c) (by simp only [PyData.depth]; omega), ?_⟩
  rw [show ((encs ps).any fun z => PyData.eqv z (enc p)) = true from List.any_eq_true.mpr ⟨enc p, me, SeqAt.eqv_refl _ c1⟩]
  exact q
end
theorem memb_cd {p m : P} (h : Cd 0 40 90000 p) (hm : m ∈ memb p) : Cd 4 40 90000 m :=
  have o := h.ok.memb hm
  ⟨isK_memb h.is hm, o.lay, o.dep, o.bar, o.wgt⟩
theorem flat_cd {ps : List P} (h : ∀ p ∈ ps, Tj p) {m : P} (hm : m ∈ ps.flatMap memb) : Cd 4 40 90000 m := by
  obtain ⟨p, hp, hm⟩ := List.mem_flatMap.mp hm
  exact memb_cd (h p hp).cd0 hm
theorem sok_lks {l : List P} (h : ∀ m ∈ l, isK m 4) : ∀ x ∈ l.map lkP, PyData.strOk x = true := fun x hx => by
  obtain ⟨m, hm, rfl⟩ := List.mem_map.mp hx
  exact lk_sok m 4 (h m hm)
theorem foundP_len (ps : List P) : (foundP ps).length ≤ (ps.flatMap memb).length := by
  have := fold_len (ps.flatMap memb) []
  simpa [foundP] using this
theorem depth_le {l : List P} {n : Nat} (h : ∀ m ∈ l, (enc m).depth ≤ n) : PyData.depthAll (encs l) ≤ n := by
  induction l with
  | nil => simp [encs, PyData.depthAll]
  | cons p r ih =>
    have h1 := h p List.mem_cons_self
    have h2 := ih fun m hm => h m (List.mem_cons_of_mem _ hm)
    simp only [encs, PyData.depthAll]
    omega
theorem r_revT {K : PySem.W.Frag} {te : TE} {σ : L2.St} {H : Hp} {Q : VK} (h : te σ H fun x H1 => ∃ a xs, x = .ref a ∧ SqL K H1 a xs ∧ ∀ p, H1 p = none → Q (.ref p) (upd H1 p (.lst xs.reverse))) : tRevL K te σ H Q := h
end Gd

namespace Gd
open PySem PySem.Spec PyProof.Rows L2
/-! ### fields of any kind -/
mutual
inductive Vd (H : Hp) : V → PyData → Prop
  | non : Vd H .non .none
  | bl (b : Bool) : Vd H (.bl b) (.bool b)
  | int (i : Int) : Vd H (.int i) (.int i)
  | str (x : Str) : Vd H (.str x) (.str x)
  | tup {a : Addr} {xs : List V} {ds : List PyData} (h : H a = some (.tup xs)) (t : Vds H xs ds) : Vd H (.ref a) (.tuple ds)
  | lst {a : Addr} {xs : List V} {ds : List PyData} (h : H a = some (.lst xs)) (t : Vds H xs ds) : Vd H (.ref a) (.list ds)
inductive Vds (H : Hp) : List V → List PyData → Prop
  | nil : Vds H [] []
  | cons {v : V} {vs : List V} {d : PyData} {ds : List PyData} (h : Vd H v d) (t : Vds H vs ds) : Vds H (v :: vs) (d :: ds)
end
mutual
theorem Vd.up {H H' : Hp} (k : Up H H') : ∀ {v : V} {d : PyData}, Vd H v d → Vd H' v d
  | _, _, .non => .non
  | _, _, .bl b => .bl b
  | _, _, .int i => .int i
  | _, _, .str x => .str x
  | _, _, .tup h t => .tup (k _ _ h) (Vds.up k t)
  | _, _, .lst h t => .lst (k _ _ h) (Vds.up k t)
theorem Vds.up {H H' : Hp} (k : Up H H') : ∀ {vs : List V} {ds : List PyData}, Vds H vs ds → Vds H' vs ds
  | _, _, .nil => .nil
  | _, _, .cons h t => .cons (Vd.up k h) (Vds.up k t)
end
mutual
theorem Vd.dp {K : PySem.W.Frag} {H : Hp} : ∀ {v : V} {d : PyData}, Vd H v d → Dp K H v d
  | _, _, .non => .non
  | _, _, .bl b => .bl b
  | _, _, .int i => .int i
  | _, _, .str x => .str x
  | _, _, .tup h t => .tup (SqT.of h) (Vds.dp t)
  | _, _, .lst h t => .lst (SqL.of h) (Vds.dp t)
theorem Vds.dp {K : PySem.W.Frag} {H : Hp} : ∀ {vs : List V} {ds : List PyData}, Vds H vs ds → DpAll K H vs ds
  | _, _, .nil => .nil
  | _, _, .cons h t => .cons (Vd.dp h) (Vds.dp t)
end
/-- small enough to be told -/
structure Sml (d : PyData) : Prop where
  sh : d.showable = true
  dep : d.depth ≤ 4
  len : d.shown.length ≤ 100
/-- a field as the law draws it -/
def Fld (H : Hp) (v : V) (d : PyData) : Prop := Vd H v d ∧ Sml d
theorem Fld.up {H H' : Hp} {v : V} {d : PyData} (h : Fld H v d) (k : Up H H') : Fld H' v d := ⟨h.1.up k, h.2⟩
section
variable {H : Hp} {Q : VK} {K : PySem.W.Frag}
theorem r_reprF {v : V} {d : PyData} (h : Fld H v d) (q : Q (.str d.shown) H) : rRepr K [v] H Q :=
  ⟨v, d, rfl, h.1.dp, h.2.sh, Nat.le_trans h.2.dep (by decide), by rw [sizeLine_eq]; have := h.2.len; omega, q⟩
theorem vds_all {d : PyData} : ∀ {xs : List V}, (∀ x ∈ xs, Vd H x d) → Vds H xs (List.replicate xs.length d)
  | [], _ => .nil
  | x :: r, h => .cons (h x List.mem_cons_self) (vds_all fun y hy => h y (List.mem_cons_of_mem _ hy))
theorem rep_facts {d : PyData} (s : Sml d) (n : Nat) : PyData.showableAll (List.replicate n d) = true ∧ PyData.depthAll (List.replicate n d) ≤ 4 ∧ ((PyData.shownAll (List.replicate n d)).map (·.length)).sum ≤ 100 * n ∧ (PyData.shownAll (List.replicate n d)).length = n := by
  induction n with
  | zero => simp [PyData.showableAll, PyData.depthAll, PyData.shownAll]
  | succ n ih =>
    obtain ⟨a, b, c, e⟩ := ih
    have h1 := s.dep
    have h2 := s.len
    simp only [List.replicate_succ, PyData.showableAll, PyData.depthAll, PyData.shownAll, List.map_cons, List.sum_cons, List.length_cons, s.sh, a, Bool.and_self, e]
    refine ⟨trivial, by omega, by omega, trivial⟩
/-- repr of a list of n fields that all tell the same -/
theorem r_reprFs {a : Addr} {xs : List V} {d : PyData} (h : H a = some (.lst xs)) (hx : ∀ x ∈ xs, Vd H x d) (s : Sml d) (hn : xs.length ≤ 100) (q : Q (.str (PyData.list (List.replicate xs.length d)).shown) H) : rRepr K [.ref a] H Q := by
  obtain ⟨f1, f2, f3, f4⟩ := rep_facts s xs.length
  refine ⟨.ref a, .list (List.replicate xs.length d), rfl, .lst (SqL.of h) (vds_all hx).dp, f1, by simp only [PyData.depth]; omega, ?_, q⟩
  have := listText_le (PyData.shownAll (List.replicate xs.length d))
  rw [sizeLine_eq]
  show (listText (PyData.shownAll (List.replicate xs.length d))).length ≤ _
  omega
end
end Gd

namespace Gd
open PySem PySem.Spec PyProof.Rows L2
/-! ### found.count(True) -/
def isTr (v : Value) : Bool := match v with
  | .bool b => b
  | _ => false
theorem bools_of : ∀ {bs : List Bool} {us : List Value}, Vals (bs.map V.bl) us → us = bs.map Value.bool
  | [], _, h => by cases h; rfl
  | b :: r, _, h => by
    cases h with
    | cons h t =>
      rw [bools_of t, List.map_cons]
      congr 1
theorem count_bools (bs : List Bool) : (bs.map Value.bool).countP isTr = bs.count true := by
  induction bs with
  | nil => rfl
  | cons b r ih =>
    rw [List.map_cons, List.countP_cons, List.count_cons, ih]
    cases b <;> rfl
def rCntB (K : PySem.W.Frag) : V → List V → Hp → VK → Prop := fun x xs H Q => ∃ (p : Addr) (bs : List Bool), x = .ref p ∧ xs = [.bl true] ∧ SqL K H p (bs.map V.bl) ∧ Q (.int (bs.count true : Nat)) H
theorem mt_countB {X : Cx} : MtR X "list.count" (rCntB X.K) := by
  intro pins s σ H x xs v us Q I rx rxs h
  obtain ⟨p, bs, rfl, rfl, hs, q⟩ := h
  obtain rfl : v = Value.ref p := rx
  obtain ⟨u, rfl, ru⟩ := rxs.one
  obtain rfl : u = Value.bool true := ru
  obtain ⟨its, rv, ⟨⟨cls, dd, data, sl⟩, n, ho, hc, hdn, hd⟩, _⟩ := I.list hs
  simp only at hc hd
  subst hc hd
  obtain rfl := bools_of rv
  refine call_meets PySem.F.slot_list_count ⟨_, ho, rfl⟩ PySem.F.entry_list_count (PySem.F.args_list_count_2 _ _) (SeqAt.list_countAt p (bs.map Value.bool).toArray n dd sl (.bool true) isTr) ⟨ho, fun y hy => ?_, ?_⟩
  · have hy : y ∈ bs.map Value.bool := by simpa using hy
    obtain ⟨b, _, rfl⟩ := List.mem_map.mp hy
    have e : isTr (.bool b) = (b == true) := by cases b <;> rfl
    rw [e]
    exact SeqAt.EqAt.bool_bool b true
  · refine ⟨.int (bs.count true : Nat), H, I.tok _, ⟨s.toks, ?_⟩, q⟩
    show Value.int (((bs.map Value.bool).toArray.toList.countP isTr : Nat) : Int) s.toks = Value.int ((bs.count true : Nat) : Int) s.toks
    rw [List.toList_toArray, count_bools]
section
variable {K : PySem.W.Frag} {σ : L2.St} {H : Hp} {Q : VK} {D : Ends} {L initId : String} {ta : TA} {to te : TE} {f : Str}
theorem r_nxE {g b c : L2.St → Hp → Prop} {r : VK} (h : g σ H) : ({ nx := g, rt := r, bk := b, ct := c } : Ends).nx σ H := h
theorem r_ein (h : ta σ H fun vs H1 => ∃ (a C : Addr) (ws : List V) (B newId : String) (bm : List Value), vs = .ref a :: ws ∧ ws.length ≤ 1000 ∧ Base L initId B newId bm ∧ ErrK K C newId bm ∧ H1 a = some (exo a C none) ∧ Q .non H1) : tEin K L initId ta σ H Q := h
theorem r_est (h : te σ H fun y H1 => to σ H1 fun x H2 => ∃ (a C : Addr) (L initId B newId : String) (bm : List Value), x = .ref a ∧ Base L initId B newId bm ∧ ErrK K C newId bm ∧ PySem.W.findIn K (.ref C) f = some none ∧
    ((H2 a = some (exo a C none) ∧ ∀ dx, H2 dx = none → dx ≠ a → D.nx σ (upd (upd H2 dx (exd dx [(f, y)])) a (exo a C (some dx)))) ∨
      ∃ (dx : Addr) (fs : List (Str × V)), H2 a = some (exo a C (some dx)) ∧ H2 dx = some (exd dx fs) ∧ fs.length ≤ 900 ∧ D.nx σ (upd H2 dx (exd dx ((f, y) :: fs))))) : tEst K f to te D σ H := h
theorem r_fldE (h : te σ H fun x H1 => ∃ (a C dx : Addr) (fs : List (Str × V)) (v : V), x = .ref a ∧ XfC K C ∧ PySem.W.findIn K (.ref C) f = some none ∧ H1 a = some (exo a C (some dx)) ∧ H1 dx = some (exd dx fs) ∧ fs.lookup f = some v ∧ Q v H1) : tFld K f te σ H Q := h
theorem r_mkE {C : Addr} {sp : Sp} {E : XK} (h : ta σ H fun vs H1 => vs.length ≤ 1000 ∧ ∀ a, H1 a = none → sp (.ref a :: vs) (upd H1 a (exo a C none)) (fun v H2 => v = .non ∧ Q (.ref a) H2) E) : tMkE C sp E ta σ H Q := h
end
end Gd

namespace Gd
open PySem PySem.Spec PyProof.Rows L2
/-- an exception's class, all in one -/
def exB (K : PySem.W.Frag) (D : Addr) : Bool :=
  decide (PySem.W.findIn K (.ref D) "__getattribute__" = some (some (.builtin "BaseException.__getattribute__"))) && (decide (PySem.W.findIn K (.ref D) "__getattr__" = some none) &&
    (decide (PySem.W.subIn K (.ref D) (.type "BaseException") = some true) && (PySem.W.hasDictIn K D && (decide (PySem.W.findIn K (.ref D) "__class__" = some (some (.builtin "object.__class__"))) &&
      (decide (PySem.W.specialIn K (.builtin "object.__class__") "__get__" = some (some (.builtin "getset_descriptor.__get__"))) && (decide (PySem.W.takesIn K (.builtin "object.__class__") = some true) &&
        decide (PySem.W.mroIn K D (.type "object") = some true)))))))
theorem exB_ok {K : PySem.W.Frag} {D : Addr} (h : exB K D = true) : ExcC K D := by
  unfold exB at h
  simp only [Bool.and_eq_true, decide_eq_true_eq] at h
  obtain ⟨a, b, c, d, e, f, g, i⟩ := h
  exact ⟨a, b, c, d, e, f, g, i⟩
theorem ErrK.mk' {K : PySem.W.Frag} {C N : Addr} {newId : String} {bm bs sub : List Value} {nm q : Str} {sn : List Str} {ab : Bool} {col : Option Bool} {dd : Option Addr} {k0 k1 k2 k3 k5 : Option Value}
    (l : K.lookup C = some (excClassObj nm q C N bs bm true sn sub ab col dd k0 k1 k2 k3 k5 newId)) (sa : PySem.W.findIn K (.ref C) "__setattr__" = some (some (.builtin "object.__setattr__")))
    (ov : PySem.W.excOver K C bm = true) (xf : L2.xfB K C = true) (xc : exB K C = true) (kp : PySem.W.keepIn K (.ref C) = true) : ErrK K C newId bm :=
  ⟨⟨_, _, _, _, _, _, _, _, _, _, _, _, _, _, l⟩, sa, ov, xfB_ok xf, exB_ok xc, kp⟩
/-- which error class is which -/
def kitTab (K : PySem.W.Frag) (cs : List Addr) : Bool := cs.all fun c => cs.all fun d => decide (PySem.W.kitOne K (.ref c) (.ref d) = some (decide (c = d)))
theorem kitTab_ok {K : PySem.W.Frag} {cs : List Addr} (h : kitTab K cs = true) {c d : Addr} (hc : c ∈ cs) (hd : d ∈ cs) : PySem.W.kitOne K (.ref c) (.ref d) = some (decide (c = d)) := by
  have h1 := List.all_eq_true.mp h c hc
  exact of_decide_eq_true (List.all_eq_true.mp h1 d hd)
/-- which stands under which built-in one -/
def kitB (K : PySem.W.Frag) (ps : List (Addr × String × Bool)) : Bool := ps.all fun p => decide (PySem.W.kitOne K (.ref p.1) (.type p.2.1) = some p.2.2)
theorem kitB_ok {K : PySem.W.Frag} {ps : List (Addr × String × Bool)} (h : kitB K ps = true) {c : Addr} {L : String} {b : Bool} (hp : (c, L, b) ∈ ps) : PySem.W.kitOne K (.ref c) (.type L) = some b :=
  of_decide_eq_true (List.all_eq_true.mp h _ hp)
theorem count_one {c : Addr} : ∀ {cs : List Addr}, cs.Nodup → c ∈ cs → (cs.map fun d => decide (c = d)).count true = 1
  | [], _, h => (List.not_mem_nil h).elim
  | d :: r, nd, h => by
    rw [List.nodup_cons] at nd
    rw [List.map_cons, List.count_cons]
    rcases List.mem_cons.mp h with rfl | h
    · have : (r.map fun d => decide (c = d)).count true = 0 := by
        rw [List.count_eq_zero]
        intro hm
        obtain ⟨x, hx, e⟩ := List.mem_map.mp hm
        have := of_decide_eq_true e
        subst this
        exact nd.1 hx
      rw [this]; simp
    · have ne : c ≠ d := fun e => nd.1 (e ▸ h)
      rw [count_one nd.2 h]
      simp [ne]
end Gd
namespace Gd
open PySem PySem.Spec PyProof.Rows L2
section
variable {K : PySem.W.Frag} {H : Hp} {Q : VK} {a C D : Addr}
theorem ErrV.up {H' : Hp} (h : ErrV H a C) (u : Up H H') : ErrV H' a C := by
  rcases h with h | ⟨dx, fs, h, hd⟩
  · exact .inl (u _ _ h)
  · exact .inr ⟨dx, fs, u _ _ h, u _ _ hd⟩
theorem r_isX {b : Bool} (hT : ExcC K C) (hv : ErrV H a C) (e : PySem.W.kitOne K (.ref C) (.ref D) = some b) (q : Q (.bl b) H) : rIsX K [.ref a, .ref D] H Q :=
  ⟨a, C, .ref D, .ref D, b, rfl, .own D, hT, hv, e, q⟩
theorem r_isB1 {L : String} {b : Bool} (hT : ExcC K C) (hv : ErrV H a C) (e : PySem.W.kitOne K (.ref C) (.type L) = some b) (q : Q (.bl b) H) : rIsX K [.ref a, .ty L] H Q :=
  ⟨a, C, .ty L, .type L, b, rfl, .ty L, hT, hv, e, q⟩
theorem r_isBT {L M : String} {tp : Addr} (hT : ExcC K C) (hv : ErrV H a C) (ht : H tp = some (.tup [.ty L, .ty M])) (e : PySem.W.kitOne K (.ref C) (.type L) = some false) (e2 : PySem.W.kitOne K (.ref C) (.type M) = some false) (q : Q (.bl false) H) : rIsXT K [.ref a, .ref tp] H Q :=
  ⟨a, C, tp, _, [.type L, .type M], false, rfl, ht, .cons (.ty L) (.cons (.ty M) .nil), hT, hv, by simp [PySem.W.kitAny, e, e2], q⟩
theorem r_cntB {p : Addr} {bs : List Bool} (h : H p = some (.lst (bs.map V.bl))) (q : Q (.int (bs.count true : Nat)) H) : rCntB K (.ref p) [.bl true] H Q := ⟨p, bs, rfl, rfl, SqL.of h, q⟩
end
end Gd
namespace Gd
open PySem PySem.Spec PyProof.Rows L2
section
variable {X : Cx} {K : PySem.W.Frag}
theorem call_isXK (hK : X.K = K) : CallR X (.builtin "isinstance") (rIsX K) := hK ▸ call_isX
theorem call_isXTK (hK : X.K = K) : CallR X (.builtin "isinstance") (rIsXT K) := hK ▸ call_isXT
end
section
variable {K : PySem.W.Frag} {H : Hp} {Q : VK}
theorem r_all {a : Addr} {bs : List Bool} (h : H a = some (.lst (bs.map V.bl))) (q : Q (.bl (bs.all id)) H) : rAll K [.ref a] H Q := ⟨a, bs, rfl, SqL.of h, q⟩
end
/-- an error with its fields -/
def ErrF (H : Hp) (a C : Addr) (fs : List (Str × V)) : Prop := ∃ dx, H a = some (exo a C (some dx)) ∧ H dx = some (exd dx fs)
theorem ErrF.up {H H' : Hp} {a C : Addr} {fs : List (Str × V)} (h : ErrF H a C fs) (u : Up H H') : ErrF H' a C fs := let ⟨dx, x, y⟩ := h; ⟨dx, u _ _ x, u _ _ y⟩
theorem ErrF.v {H : Hp} {a C : Addr} {fs : List (Str × V)} (h : ErrF H a C fs) : ErrV H a C := let ⟨dx, x, y⟩ := h; .inr ⟨dx, fs, x, y⟩
section
variable {K : PySem.W.Frag} {σ : L2.St} {H : Hp} {Q : VK} {f : Str} {te : TE}
theorem r_fldV {i : Nat} {a C : Addr} {fs : List (Str × V)} {v : V} (hi : σ[i]? = some (some (.ref a))) (xf : XfC K C) (nf : PySem.W.findIn K (.ref C) f = some none) (h : ErrF H a C fs) (l : fs.lookup f = some v) (q : Q v H) : tFld K f (tVar i) σ H Q := by
  obtain ⟨dx, x, y⟩ := h
  exact ⟨.ref a, hi, a, C, dx, fs, v, rfl, xf, nf, x, y, l, q⟩
theorem r_fldL {i : Nat} {l a C : Addr} {j : Int} {xs : List V} {fs : List (Str × V)} {v : V} (hi : σ[i]? = some (some (.ref l))) (hl : H l = some (.lst xs)) (hx : atI xs j = some (.ref a)) (xf : XfC K C)
    (nf : PySem.W.findIn K (.ref C) f = some none) (h : ErrF H a C fs) (lk : fs.lookup f = some v) (q : Q v H) : tFld K f (tOp (rIxL K) (tVar i) (tC (.int j))) σ H Q := by
  obtain ⟨dx, x, y⟩ := h
  unfold tFld
  refine r_op (r_var hi (r_c (r_ixL hl hx ?_)))
  exact ⟨a, C, dx, fs, v, rfl, xf, nf, x, y, lk, q⟩
theorem r_fldX {a C : Addr} {fs : List (Str × V)} {v : V} (xf : XfC K C) (nf : PySem.W.findIn K (.ref C) f = some none) (h : ErrF H a C fs) (l : fs.lookup f = some v) (q : Q v H) :
    ∃ (a' C dx : Addr) (fs : List (Str × V)) (v : V), V.ref a = .ref a' ∧ XfC K C ∧ PySem.W.findIn K (.ref C) f = some none ∧ H a' = some (exo a' C (some dx)) ∧ H dx = some (exd dx fs) ∧ fs.lookup f = some v ∧ Q v H := by
  obtain ⟨dx, x, y⟩ := h
  exact ⟨a, C, dx, fs, v, rfl, xf, nf, x, y, l, q⟩
end
section
variable {σ : L2.St} {H : Hp} {ta : TA}
theorem r_par3 {D} {i j l : Nat} (h : ta σ H fun vs H1 => ∃ u v w, vs = [u, v, w] ∧ D.nx (((σ.set i (some u)).set j (some v)).set l (some w)) H1) : tPar3 i j l ta D σ H := h
theorem r_3 {u v w : V} {R : V → V → V → Prop} (h : R u v w) : ∃ x y z, [u, v, w] = [x, y, z] ∧ R x y z := ⟨u, v, w, rfl, h⟩
end
end Gd

namespace My
open PySem PySem.Spec PyProof.Rows L2 Gd
local macro_rules | `(tactic| walk_at "ar") => `(tactic| first
  | omega
  | exact Or.inr ⟨by decide, by decide⟩ | exact Or.inl ⟨by decide, by decide⟩
  | exact mul01
  | exact ⟨by omega, by omega⟩ | exact ⟨by omega, by omega, by omega⟩ | exact ⟨by decide, by decide, by omega⟩
  | exact Or.inr ⟨by omega, by omega⟩ | exact Or.inl ⟨by omega, by omega⟩ | decide)
local macro_rules | `(tactic| walk_at "hp") => `(tactic| first | assumption | exact upd_same | (refine' (by assumption : Up _ _) _ _ ?_; walk_at "hp"))
local macro_rules | `(tactic| walk_at "da") => `(tactic| first | assumption | ((refine' Da.up ?k1 ?k2); (case k2 => assumption); (case k1 => walk_at "da")) | ((refine' Das.up ?k1 ?k2); (case k2 => assumption); (case k1 => walk_at "da")))
local macro_rules | `(tactic| walk_at "up") => `(tactic| first | assumption | exact Up.rf | ((refine' Up.tr ?k1 ?k2); (case k2 => assumption); (case k1 => walk_at "up")))
local macro_rules | `(tactic| walk_at "rd1") => `(tactic| first
  | ((with_reducible refine' r_var ?k1 ?_); (case k1 => exact rfl))
  | (with_reducible refine' r_c ?_) | (with_reducible refine' r_op ?_) | (with_reducible refine' r_seq ?_)
  | (with_reducible refine' r_i0 ?_) | ((with_reducible refine' r_i ?k1 ?_); (case k1 => walk_at "ar"))
  | (with_reducible refine' r_eqI ?_) | (with_reducible refine' r_eqS ?_) | (with_reducible refine' r_neI ?_) | (with_reducible refine' r_neS ?_)
  | (with_reducible refine' r_nil ?_) | (with_reducible refine' r_cons ?_) | (with_reducible refine' r_tup' ?_) | (with_reducible refine' r_lst' ?_)
  | ((with_reducible refine' r_newT ?k1 ?_); (case k1 => first | decide | (simp; done) | (simp; omega)); intro _ _ _ _ _)
  | ((with_reducible refine' r_newL ?k1 ?_); (case k1 => first | decide | (simp; done) | (simp; omega)); intro _ _ _ _ _)
  | (with_reducible refine' r_ifE ?_) | (with_reducible refine' r_test ?_) | (with_reducible refine' r_b ?_) | (with_reducible refine' r_bl ?_)
  | (with_reducible refine' r_and ?_) | (with_reducible refine' r_or ?_) | (with_reducible refine' r_not ?_) | (with_reducible refine' r_andV ?_) | (with_reducible refine' r_orV ?_)
  | (with_reducible refine' r_cb ?_) | (with_reducible refine' r_bm0 ?_) | (with_reducible refine' r_bm ?_) | (with_reducible refine' r_sl ?_)
  | (with_reducible refine' r_nop ?_) | (with_reducible refine' r_part ?_) | (with_reducible refine' r_int ?_) | (with_reducible refine' r_un ?_) | (with_reducible refine' r_neg ?_) | (with_reducible refine' r_back ?_)
  | ((with_reducible refine' r_ixT ?k1 ?k2 ?_); (case k1 => walk_at "hp"); (case k2 => first | exact at0 | exact at1 | exact at2 | exact rfl))
  | ((with_reducible refine' r_ixL ?k1 ?k2 ?_); (case k1 => walk_at "hp"); (case k2 => exact rfl))
  | ((with_reducible refine' r_setL ?k1 ?k2 ?_); (case k1 => walk_at "hp"); (case k2 => exact rfl))
  | ((with_reducible refine' r_in2 ?k1 ?_); (case k1 => walk_at "hp")) | ((with_reducible refine' r_ni2 ?k1 ?_); (case k1 => walk_at "hp"))
  | ((with_reducible refine' r_from1 ?k1 ?_); (case k1 => walk_at "hp"); intro _ _ _ _)
  | ((with_reducible refine' r_catA ?k1 ?k2 ?k3 ?_); (case k1 => walk_at "hp"); (case k2 => walk_at "hp"); (case k3 => first | decide | (simp; omega) | omega); intro _ _ _ _)
  | ((with_reducible refine' r_bk ?k1 ?_); (case k1 => walk_at "hp"); intro _ _ _ _ _)
  | (with_reducible refine' r_nn ?_) | ((with_reducible refine' r_in2L ?k1 ?_); (case k1 => walk_at "hp"))
  | ((with_reducible refine' r_wipe ?k1 ?_); (case k1 => exact rfl)) | (with_reducible refine' r_yes ?_) | (with_reducible refine' r_t ?_) | (with_reducible refine' r_f ?_)
  | (with_reducible refine' r_tyS ?_) | ((with_reducible refine' r_gtup ?k1 ?k2 ?_); (case k1 => walk_at "hp"); (case k2 => exact rfl)) | (with_reducible refine' r_gc ?_) | (with_reducible refine' r_gn ?_)
  | (with_reducible refine' r_L1 ?_) | (with_reducible refine' r_iB ?_) | (with_reducible refine' r_L2 ?_)
  | (with_reducible refine' r_lc ?_) | (with_reducible refine' r_il ?_) | (with_reducible refine' r_it ?_) | (with_reducible refine' r_ir ?_)
  | (with_reducible refine' r_nx ?_) | (with_reducible refine' r_ret ?_) | (with_reducible refine' r_drop ?_) | (with_reducible refine' r_asg ?_) | (with_reducible refine' r_name ?_)
  | (with_reducible refine' r_sub ?_) | (with_reducible refine' r_ifS ?_) | (with_reducible refine' r_par ?_) | (with_reducible refine' r_2 ?_) | (with_reducible refine' r_for ?_) | (with_reducible refine' r_star ?_) | (with_reducible refine' r_notInKd ?_) | (with_reducible refine' r_inKd ?_))
local macro_rules | `(tactic| walk_at "rd") => `(tactic| repeat walk_at "rd1")
local macro_rules | `(tactic| walk_at "cf") => `(tactic| first
  | ((with_reducible refine' ifT ?k1 ?_); (case k1 => decide +kernel)) | ((with_reducible refine' ifF ?k1 ?_); (case k1 => decide +kernel))
  | ((with_reducible refine' ifF ?k1 ?_); (case k1 => (simp; done))) | ((with_reducible refine' ifT ?k1 ?_); (case k1 => (simp; done)))
  | ((with_reducible refine' ifF ?k1 ?_); (case k1 => (simp [*]; done))) | ((with_reducible refine' ifT ?k1 ?_); (case k1 => (simp [*]; done))))
local macro_rules | `(tactic| walk_at "rc") => `(tactic| repeat (first | walk_at "rd1" | walk_at "cf"))
local macro_rules | `(tactic| walk_at "rn1") => `(tactic| first
  | ((with_reducible refine' r_var ?k1 ?_); (case k1 => exact rfl))
  | (with_reducible refine' r_c ?_) | (with_reducible refine' r_op ?_) | (with_reducible refine' r_seq ?_)
  | (with_reducible refine' r_i0 ?_) | ((with_reducible refine' r_i ?k1 ?_); (case k1 => walk_at "ar"))
  | (with_reducible refine' r_eqI ?_) | (with_reducible refine' r_eqS ?_) | (with_reducible refine' r_neI ?_) | (with_reducible refine' r_neS ?_)
  | (with_reducible refine' r_nil ?_) | (with_reducible refine' r_cons ?_) | (with_reducible refine' r_tup' ?_) | (with_reducible refine' r_lst' ?_)
  | ((with_reducible refine' r_newT ?k1 ?_); (case k1 => first | decide | (simp; done) | (simp; omega)); intro _ _ _ _ _)
  | ((with_reducible refine' r_newL ?k1 ?_); (case k1 => first | decide | (simp; done) | (simp; omega)); intro _ _ _ _ _)
  | (with_reducible refine' r_ifE ?_) | (with_reducible refine' r_test ?_) | (with_reducible refine' r_b ?_) | (with_reducible refine' r_bl ?_)
  | (with_reducible refine' r_or ?_) | (with_reducible refine' r_not ?_) | (with_reducible refine' r_andV ?_) | (with_reducible refine' r_orV ?_)
  | (with_reducible refine' r_cb ?_) | (with_reducible refine' r_bm0 ?_) | (with_reducible refine' r_bm ?_) | (with_reducible refine' r_sl ?_)
  | (with_reducible refine' r_nop ?_) | (with_reducible refine' r_part ?_) | (with_reducible refine' r_int ?_) | (with_reducible refine' r_un ?_) | (with_reducible refine' r_neg ?_) | (with_reducible refine' r_back ?_)
  | ((with_reducible refine' r_ixT ?k1 ?k2 ?_); (case k1 => walk_at "hp"); (case k2 => first | exact at0 | exact at1 | exact at2 | exact rfl))
  | ((with_reducible refine' r_ixL ?k1 ?k2 ?_); (case k1 => walk_at "hp"); (case k2 => exact rfl))
  | ((with_reducible refine' r_setL ?k1 ?k2 ?_); (case k1 => walk_at "hp"); (case k2 => exact rfl))
  | ((with_reducible refine' r_in2 ?k1 ?_); (case k1 => walk_at "hp")) | ((with_reducible refine' r_ni2 ?k1 ?_); (case k1 => walk_at "hp"))
  | ((with_reducible refine' r_from1 ?k1 ?_); (case k1 => walk_at "hp"); intro _ _ _ _)
  | ((with_reducible refine' r_catA ?k1 ?k2 ?k3 ?_); (case k1 => walk_at "hp"); (case k2 => walk_at "hp"); (case k3 => first | decide | (simp; omega) | omega); intro _ _ _ _)
  | ((with_reducible refine' r_bk ?k1 ?_); (case k1 => walk_at "hp"); intro _ _ _ _ _)
  | (with_reducible refine' r_nn ?_) | ((with_reducible refine' r_in2L ?k1 ?_); (case k1 => walk_at "hp"))
  | ((with_reducible refine' r_wipe ?k1 ?_); (case k1 => exact rfl)) | (with_reducible refine' r_yes ?_) | (with_reducible refine' r_t ?_) | (with_reducible refine' r_f ?_)
  | (with_reducible refine' r_tyS ?_) | ((with_reducible refine' r_gtup ?k1 ?k2 ?_); (case k1 => walk_at "hp"); (case k2 => exact rfl)) | (with_reducible refine' r_gc ?_) | (with_reducible refine' r_gn ?_)
  | (with_reducible refine' r_L1 ?_) | (with_reducible refine' r_iB ?_) | (with_reducible refine' r_L2 ?_)
  | (with_reducible refine' r_lc ?_) | (with_reducible refine' r_il ?_) | (with_reducible refine' r_it ?_) | (with_reducible refine' r_ir ?_)
  | (with_reducible refine' r_nx ?_) | (with_reducible refine' r_ret ?_) | (with_reducible refine' r_drop ?_) | (with_reducible refine' r_asg ?_) | (with_reducible refine' r_name ?_)
  | (with_reducible refine' r_sub ?_) | (with_reducible refine' r_ifS ?_) | (with_reducible refine' r_par ?_) | (with_reducible refine' r_2 ?_) | (with_reducible refine' r_for ?_) | (with_reducible refine' r_star ?_) | (with_reducible refine' r_notInKd ?_) | (with_reducible refine' r_inKd ?_))
local macro_rules | `(tactic| walk_at "rn") => `(tactic| repeat (first | walk_at "rn1" | walk_at "cf"))

def top (i : Nat) : Stmt := PySem.Challenge.pw_aliasparams_k83_errors.main.body.getD i (.Pass ⟨0, 0, 0, 0⟩)
def inC : Stmt → Stmt
  | .ClassDef _ _ _ (b :: _) _ _ _ _ _ _ _ => b
  | s => s
abbrev s_i_NoBook : Stmt := inC (top 1)
theorem sc_i_NoBook : FnScope ["self", "position"] ["self", "position"] (defScope s_i_NoBook) := ⟨rfl, rfl, rfl, by decide +kernel, rfl, by decide +kernel, by decide +kernel⟩

abbrev s_i_NoName : Stmt := inC (top 2)
theorem sc_i_NoName : FnScope ["self", "name"] ["self", "name"] (defScope s_i_NoName) := ⟨rfl, rfl, rfl, by decide +kernel, rfl, by decide +kernel, by decide +kernel⟩

abbrev s_i_NoTerm : Stmt := inC (top 3)
theorem sc_i_NoTerm : FnScope ["self", "number", "reason"] ["self", "number", "reason"] (defScope s_i_NoTerm) := ⟨rfl, rfl, rfl, by decide +kernel, rfl, by decide +kernel, by decide +kernel⟩

abbrev s_i_NoArgument : Stmt := inC (top 4)
theorem sc_i_NoArgument : FnScope ["self", "position", "reason"] ["self", "position", "reason"] (defScope s_i_NoArgument) := ⟨rfl, rfl, rfl, by decide +kernel, rfl, by decide +kernel, by decide +kernel⟩

abbrev s_i_WrongCount : Stmt := inC (top 5)
theorem sc_i_WrongCount : FnScope ["self", "given", "needed"] ["self", "given", "needed"] (defScope s_i_WrongCount) := ⟨rfl, rfl, rfl, by decide +kernel, rfl, by decide +kernel, by decide +kernel⟩

abbrev s_i_TooLarge : Stmt := inC (top 6)
theorem sc_i_TooLarge : FnScope ["self", "limit"] ["self", "limit"] (defScope s_i_TooLarge) := ⟨rfl, rfl, rfl, by decide +kernel, rfl, by decide +kernel, by decide +kernel⟩

abbrev s_i_OtherShape : Stmt := inC (top 7)
theorem sc_i_OtherShape : FnScope ["self", "one", "other"] ["self", "one", "other"] (defScope s_i_OtherShape) := ⟨rfl, rfl, rfl, by decide +kernel, rfl, by decide +kernel, by decide +kernel⟩

abbrev s_i_NoText : Stmt := inC (top 8)
theorem sc_i_NoText : FnScope ["self", "text"] ["self", "text"] (defScope s_i_NoText) := ⟨rfl, rfl, rfl, by decide +kernel, rfl, by decide +kernel, by decide +kernel⟩

abbrev s_i_NoClaim : Stmt := inC (top 9)
theorem sc_i_NoClaim : FnScope ["self", "claim"] ["self", "claim"] (defScope s_i_NoClaim) := ⟨rfl, rfl, rfl, by decide +kernel, rfl, by decide +kernel, by decide +kernel⟩

abbrev s_i_NoChange : Stmt := inC (top 10)
theorem sc_i_NoChange : FnScope ["self", "name"] ["self", "name"] (defScope s_i_NoChange) := ⟨rfl, rfl, rfl, by decide +kernel, rfl, by decide +kernel, by decide +kernel⟩

abbrev s_i_NoCommand : Stmt := inC (top 11)
theorem sc_i_NoCommand : FnScope ["self"] ["self"] (defScope s_i_NoCommand) := ⟨rfl, rfl, rfl, by decide +kernel, rfl, by decide +kernel, by decide +kernel⟩

abbrev s_i_NothingToUndo : Stmt := inC (top 12)
theorem sc_i_NothingToUndo : FnScope ["self"] ["self"] (defScope s_i_NothingToUndo) := ⟨rfl, rfl, rfl, by decide +kernel, rfl, by decide +kernel, by decide +kernel⟩

abbrev s_lbag : Stmt := top 14
theorem sc_lbag : FnScope ["script", "at", "cell", "digits", "mixed"] ["script", "at"] (defScope s_lbag) := ⟨rfl, rfl, rfl, by decide +kernel, rfl, by decide +kernel, by decide +kernel⟩

abbrev s_ltake : Stmt := top 15
theorem sc_ltake : FnScope ["bag", "many", "digit"] ["bag", "many"] (defScope s_ltake) := ⟨rfl, rfl, rfl, by decide +kernel, rfl, by decide +kernel, by decide +kernel⟩

abbrev s_lvalue : Stmt := top 16
theorem sc_lvalue : FnScope ["bag", "some"] ["bag"] (defScope s_lvalue) := ⟨rfl, rfl, rfl, by decide +kernel, rfl, by decide +kernel, by decide +kernel⟩

abbrev s_lis_one_of : Stmt := top 17
theorem sc_lis_one_of : FnScope ["error", "found"] ["error"] (defScope s_lis_one_of) := ⟨rfl, rfl, rfl, by decide +kernel, rfl, by decide +kernel, by decide +kernel⟩

abbrev s_lvalues_right : Stmt := top 18
theorem sc_lvalues_right : FnScope ["one", "other", "faults", "fields", "error"] ["one", "other"] (defScope s_lvalues_right) := ⟨rfl, rfl, rfl, by decide +kernel, rfl, by decide +kernel, by decide +kernel⟩

abbrev s_lothers_right : Stmt := top 19
theorem sc_lothers_right : FnScope ["one", "other", "faults", "fields", "under", "name", "argument", "count", "large", "shape", "change", "error"] ["one", "other"] (defScope s_lothers_right) := ⟨rfl, rfl, rfl, by decide +kernel, rfl, by decide +kernel, by decide +kernel⟩

abbrev s_law : Stmt := top 20
theorem sc_law : FnScope ["script", "at", "bag", "turn", "one", "other"] ["script"] (defScope s_law) := ⟨rfl, rfl, rfl, by decide +kernel, rfl, by decide +kernel, by decide +kernel⟩

structure TX (K : PySem.W.Frag) (mg : Str → Option Value) where
  f_i_NoBook : Addr
  d_i_NoBook : FuncData
  F_i_NoBook : Fun K "__init__" "NoBook.__init__" s_i_NoBook f_i_NoBook d_i_NoBook
  b_i_NoBook : Binds K d_i_NoBook ["self", "position"] []
  k_NoBook : Addr
  m_NoBook : mg "NoBook" = some (.ref k_NoBook)
  e_NoBook : ErrK K k_NoBook "ValueError.__new__" (upTo ["ValueError", "Exception"])
  i_NoBook : PySem.W.findIn K (.ref k_NoBook) "__init__" = some (some (.ref f_i_NoBook))
  t_NoBook : PySem.W.typeIn K (.ref f_i_NoBook) = some (.type "function")
  n_NoBook_position : PySem.W.findIn K (.ref k_NoBook) "position" = some none
  f_i_NoName : Addr
  d_i_NoName : FuncData
  F_i_NoName : Fun K "__init__" "NoName.__init__" s_i_NoName f_i_NoName d_i_NoName
  b_i_NoName : Binds K d_i_NoName ["self", "name"] []
  k_NoName : Addr
  m_NoName : mg "NoName" = some (.ref k_NoName)
  e_NoName : ErrK K k_NoName "LookupError.__new__" (upTo ["KeyError", "LookupError", "Exception"])
  i_NoName : PySem.W.findIn K (.ref k_NoName) "__init__" = some (some (.ref f_i_NoName))
  t_NoName : PySem.W.typeIn K (.ref f_i_NoName) = some (.type "function")
  n_NoName_name : PySem.W.findIn K (.ref k_NoName) "name" = some none
  f_i_NoTerm : Addr
  d_i_NoTerm : FuncData
  F_i_NoTerm : Fun K "__init__" "NoTerm.__init__" s_i_NoTerm f_i_NoTerm d_i_NoTerm
  b_i_NoTerm : Binds K d_i_NoTerm ["self", "number", "reason"] []
  k_NoTerm : Addr
  m_NoTerm : mg "NoTerm" = some (.ref k_NoTerm)
  e_NoTerm : ErrK K k_NoTerm "ValueError.__new__" (upTo ["ValueError", "Exception"])
  i_NoTerm : PySem.W.findIn K (.ref k_NoTerm) "__init__" = some (some (.ref f_i_NoTerm))
  t_NoTerm : PySem.W.typeIn K (.ref f_i_NoTerm) = some (.type "function")
  n_NoTerm_number : PySem.W.findIn K (.ref k_NoTerm) "number" = some none
  n_NoTerm_reason : PySem.W.findIn K (.ref k_NoTerm) "reason" = some none
  f_i_NoArgument : Addr
  d_i_NoArgument : FuncData
  F_i_NoArgument : Fun K "__init__" "NoArgument.__init__" s_i_NoArgument f_i_NoArgument d_i_NoArgument
  b_i_NoArgument : Binds K d_i_NoArgument ["self", "position", "reason"] []
  k_NoArgument : Addr
  m_NoArgument : mg "NoArgument" = some (.ref k_NoArgument)
  e_NoArgument : ErrK K k_NoArgument "LookupError.__new__" (upTo ["LookupError", "Exception"])
  i_NoArgument : PySem.W.findIn K (.ref k_NoArgument) "__init__" = some (some (.ref f_i_NoArgument))
  t_NoArgument : PySem.W.typeIn K (.ref f_i_NoArgument) = some (.type "function")
  n_NoArgument_position : PySem.W.findIn K (.ref k_NoArgument) "position" = some none
  n_NoArgument_reason : PySem.W.findIn K (.ref k_NoArgument) "reason" = some none
  f_i_WrongCount : Addr
  d_i_WrongCount : FuncData
  F_i_WrongCount : Fun K "__init__" "WrongCount.__init__" s_i_WrongCount f_i_WrongCount d_i_WrongCount
  b_i_WrongCount : Binds K d_i_WrongCount ["self", "given", "needed"] []
  k_WrongCount : Addr
  m_WrongCount : mg "WrongCount" = some (.ref k_WrongCount)
  e_WrongCount : ErrK K k_WrongCount "IndexError.__new__" (upTo ["IndexError", "LookupError", "Exception"])
  i_WrongCount : PySem.W.findIn K (.ref k_WrongCount) "__init__" = some (some (.ref f_i_WrongCount))
  t_WrongCount : PySem.W.typeIn K (.ref f_i_WrongCount) = some (.type "function")
  n_WrongCount_given : PySem.W.findIn K (.ref k_WrongCount) "given" = some none
  n_WrongCount_needed : PySem.W.findIn K (.ref k_WrongCount) "needed" = some none
  f_i_TooLarge : Addr
  d_i_TooLarge : FuncData
  F_i_TooLarge : Fun K "__init__" "TooLarge.__init__" s_i_TooLarge f_i_TooLarge d_i_TooLarge
  b_i_TooLarge : Binds K d_i_TooLarge ["self", "limit"] []
  k_TooLarge : Addr
  m_TooLarge : mg "TooLarge" = some (.ref k_TooLarge)
  e_TooLarge : ErrK K k_TooLarge "OverflowError.__new__" (upTo ["OverflowError", "ArithmeticError", "Exception"])
  i_TooLarge : PySem.W.findIn K (.ref k_TooLarge) "__init__" = some (some (.ref f_i_TooLarge))
  t_TooLarge : PySem.W.typeIn K (.ref f_i_TooLarge) = some (.type "function")
  n_TooLarge_limit : PySem.W.findIn K (.ref k_TooLarge) "limit" = some none
  f_i_OtherShape : Addr
  d_i_OtherShape : FuncData
  F_i_OtherShape : Fun K "__init__" "OtherShape.__init__" s_i_OtherShape f_i_OtherShape d_i_OtherShape
  b_i_OtherShape : Binds K d_i_OtherShape ["self", "one", "other"] []
  k_OtherShape : Addr
  m_OtherShape : mg "OtherShape" = some (.ref k_OtherShape)
  e_OtherShape : ErrK K k_OtherShape "ArithmeticError.__new__" (upTo ["ArithmeticError", "Exception"])
  i_OtherShape : PySem.W.findIn K (.ref k_OtherShape) "__init__" = some (some (.ref f_i_OtherShape))
  t_OtherShape : PySem.W.typeIn K (.ref f_i_OtherShape) = some (.type "function")
  n_OtherShape_one : PySem.W.findIn K (.ref k_OtherShape) "one" = some none
  n_OtherShape_other : PySem.W.findIn K (.ref k_OtherShape) "other" = some none
  f_i_NoText : Addr
  d_i_NoText : FuncData
  F_i_NoText : Fun K "__init__" "NoText.__init__" s_i_NoText f_i_NoText d_i_NoText
  b_i_NoText : Binds K d_i_NoText ["self", "text"] []
  k_NoText : Addr
  m_NoText : mg "NoText" = some (.ref k_NoText)
  e_NoText : ErrK K k_NoText "ValueError.__new__" (upTo ["ValueError", "Exception"])
  i_NoText : PySem.W.findIn K (.ref k_NoText) "__init__" = some (some (.ref f_i_NoText))
  t_NoText : PySem.W.typeIn K (.ref f_i_NoText) = some (.type "function")
  n_NoText_text : PySem.W.findIn K (.ref k_NoText) "text" = some none
  f_i_NoClaim : Addr
  d_i_NoClaim : FuncData
  F_i_NoClaim : Fun K "__init__" "NoClaim.__init__" s_i_NoClaim f_i_NoClaim d_i_NoClaim
  b_i_NoClaim : Binds K d_i_NoClaim ["self", "claim"] []
  k_NoClaim : Addr
  m_NoClaim : mg "NoClaim" = some (.ref k_NoClaim)
  e_NoClaim : ErrK K k_NoClaim "ValueError.__new__" (upTo ["ValueError", "Exception"])
  i_NoClaim : PySem.W.findIn K (.ref k_NoClaim) "__init__" = some (some (.ref f_i_NoClaim))
  t_NoClaim : PySem.W.typeIn K (.ref f_i_NoClaim) = some (.type "function")
  n_NoClaim_claim : PySem.W.findIn K (.ref k_NoClaim) "claim" = some none
  f_i_NoChange : Addr
  d_i_NoChange : FuncData
  F_i_NoChange : Fun K "__init__" "NoChange.__init__" s_i_NoChange f_i_NoChange d_i_NoChange
  b_i_NoChange : Binds K d_i_NoChange ["self", "name"] []
  k_NoChange : Addr
  m_NoChange : mg "NoChange" = some (.ref k_NoChange)
  e_NoChange : ErrK K k_NoChange "RuntimeError.__new__" (upTo ["RuntimeError", "Exception"])
  i_NoChange : PySem.W.findIn K (.ref k_NoChange) "__init__" = some (some (.ref f_i_NoChange))
  t_NoChange : PySem.W.typeIn K (.ref f_i_NoChange) = some (.type "function")
  n_NoChange_name : PySem.W.findIn K (.ref k_NoChange) "name" = some none
  f_i_NoCommand : Addr
  d_i_NoCommand : FuncData
  F_i_NoCommand : Fun K "__init__" "NoCommand.__init__" s_i_NoCommand f_i_NoCommand d_i_NoCommand
  b_i_NoCommand : Binds K d_i_NoCommand ["self"] []
  k_NoCommand : Addr
  m_NoCommand : mg "NoCommand" = some (.ref k_NoCommand)
  e_NoCommand : ErrK K k_NoCommand "TypeError.__new__" (upTo ["TypeError", "Exception"])
  i_NoCommand : PySem.W.findIn K (.ref k_NoCommand) "__init__" = some (some (.ref f_i_NoCommand))
  t_NoCommand : PySem.W.typeIn K (.ref f_i_NoCommand) = some (.type "function")
  f_i_NothingToUndo : Addr
  d_i_NothingToUndo : FuncData
  F_i_NothingToUndo : Fun K "__init__" "NothingToUndo.__init__" s_i_NothingToUndo f_i_NothingToUndo d_i_NothingToUndo
  b_i_NothingToUndo : Binds K d_i_NothingToUndo ["self"] []
  k_NothingToUndo : Addr
  m_NothingToUndo : mg "NothingToUndo" = some (.ref k_NothingToUndo)
  e_NothingToUndo : ErrK K k_NothingToUndo "RuntimeError.__new__" (upTo ["RuntimeError", "Exception"])
  i_NothingToUndo : PySem.W.findIn K (.ref k_NothingToUndo) "__init__" = some (some (.ref f_i_NothingToUndo))
  t_NothingToUndo : PySem.W.typeIn K (.ref f_i_NothingToUndo) = some (.type "function")
  f_lbag : Addr
  d_lbag : FuncData
  F_lbag : Fun K "_law_bag" "_law_bag" s_lbag f_lbag d_lbag
  c_lbag : Cal K mg "_law_bag" f_lbag d_lbag ["script", "at"]
  f_ltake : Addr
  d_ltake : FuncData
  F_ltake : Fun K "_law_take" "_law_take" s_ltake f_ltake d_ltake
  c_ltake : Cal K mg "_law_take" f_ltake d_ltake ["bag", "many"]
  f_lvalue : Addr
  d_lvalue : FuncData
  F_lvalue : Fun K "_law_value" "_law_value" s_lvalue f_lvalue d_lvalue
  c_lvalue : Cal K mg "_law_value" f_lvalue d_lvalue ["bag"]
  f_lis_one_of : Addr
  d_lis_one_of : FuncData
  F_lis_one_of : Fun K "_law_is_one_of" "_law_is_one_of" s_lis_one_of f_lis_one_of d_lis_one_of
  c_lis_one_of : Cal K mg "_law_is_one_of" f_lis_one_of d_lis_one_of ["error"]
  f_lvalues_right : Addr
  d_lvalues_right : FuncData
  F_lvalues_right : Fun K "_law_values_right" "_law_values_right" s_lvalues_right f_lvalues_right d_lvalues_right
  c_lvalues_right : Cal K mg "_law_values_right" f_lvalues_right d_lvalues_right ["one", "other"]
  f_lothers_right : Addr
  d_lothers_right : FuncData
  F_lothers_right : Fun K "_law_others_right" "_law_others_right" s_lothers_right f_lothers_right d_lothers_right
  c_lothers_right : Cal K mg "_law_others_right" f_lothers_right d_lothers_right ["one", "other"]
  f_law : Addr
  d_law : FuncData
  F_law : Fun K "law" "law" s_law f_law d_law
  c_law : Cal K mg "law" f_law d_law ["script"]
  z_abs : mg "abs" = none
  z_all : mg "all" = none
  z_isinstance : mg "isinstance" = none
  z_len : mg "len" = none
  z_max : mg "max" = none
  z_min : mg "min" = none
  z_range : mg "range" = none
  z_repr : mg "repr" = none
  z_str : mg "str" = none
  z_ArithmeticError : mg "ArithmeticError" = none
  z_IndexError : mg "IndexError" = none
  z_KeyError : mg "KeyError" = none
  z_LookupError : mg "LookupError" = none
  z_OverflowError : mg "OverflowError" = none
  z_RuntimeError : mg "RuntimeError" = none
  z_TypeError : mg "TypeError" = none
  z_ValueError : mg "ValueError" = none
  z_ZeroDivisionError : mg "ZeroDivisionError" = none
  kit : kitTab K [k_NoArgument, k_NoBook, k_NoChange, k_NoClaim, k_NoCommand, k_NoName, k_NoTerm, k_NoText, k_NothingToUndo, k_OtherShape, k_TooLarge, k_WrongCount] = true
  knd : [k_NoArgument, k_NoBook, k_NoChange, k_NoClaim, k_NoCommand, k_NoName, k_NoTerm, k_NoText, k_NothingToUndo, k_OtherShape, k_TooLarge, k_WrongCount].Nodup
  kbt : kitB K [(k_NoArgument, "ArithmeticError", false), (k_NoArgument, "IndexError", false), (k_NoArgument, "KeyError", false), (k_NoArgument, "LookupError", true), (k_NoArgument, "OverflowError", false), (k_NoArgument, "RuntimeError", false), (k_NoArgument, "TypeError", false), (k_NoArgument, "ValueError", false), (k_NoArgument, "ZeroDivisionError", false), (k_NoBook, "ArithmeticError", false), (k_NoBook, "IndexError", false), (k_NoBook, "KeyError", false), (k_NoBook, "LookupError", false), (k_NoBook, "OverflowError", false), (k_NoBook, "RuntimeError", false), (k_NoBook, "TypeError", false), (k_NoBook, "ValueError", true), (k_NoBook, "ZeroDivisionError", false), (k_NoChange, "ArithmeticError", false), (k_NoChange, "IndexError", false), (k_NoChange, "KeyError", false), (k_NoChange, "LookupError", false), (k_NoChange, "OverflowError", false), (k_NoChange, "RuntimeError", true), (k_NoChange, "TypeError", false), (k_NoChange, "ValueError", false), (k_NoChange, "ZeroDivisionError", false), (k_NoClaim, "ArithmeticError", false), (k_NoClaim, "IndexError", false), (k_NoClaim, "KeyError", false), (k_NoClaim, "LookupError", false), (k_NoClaim, "OverflowError", false), (k_NoClaim, "RuntimeError", false), (k_NoClaim, "TypeError", false), (k_NoClaim, "ValueError", true), (k_NoClaim, "ZeroDivisionError", false), (k_NoCommand, "ArithmeticError", false), (k_NoCommand, "IndexError", false), (k_NoCommand, "KeyError", false), (k_NoCommand, "LookupError", false), (k_NoCommand, "OverflowError", false), (k_NoCommand, "RuntimeError", false), (k_NoCommand, "TypeError", true), (k_NoCommand, "ValueError", false), (k_NoCommand, "ZeroDivisionError", false), (k_NoName, "ArithmeticError", false), (k_NoName, "IndexError", false), (k_NoName, "KeyError", true), (k_NoName, "LookupError", true), (k_NoName, "OverflowError", false), (k_NoName, "RuntimeError", false), (k_NoName, "TypeError", false), (k_NoName, "ValueError", false), (k_NoName, "ZeroDivisionError", false), (k_NoTerm, "ArithmeticError", false), (k_NoTerm, "IndexError", false), (k_NoTerm, "KeyError", false), (k_NoTerm, "LookupError", false), (k_NoTerm, "OverflowError", false), (k_NoTerm, "RuntimeError", false), (k_NoTerm, "TypeError", false), (k_NoTerm, "ValueError", true), (k_NoTerm, "ZeroDivisionError", false), (k_NoText, "ArithmeticError", false), (k_NoText, "IndexError", false), (k_NoText, "KeyError", false), (k_NoText, "LookupError", false), (k_NoText, "OverflowError", false), (k_NoText, "RuntimeError", false), (k_NoText, "TypeError", false), (k_NoText, "ValueError", true), (k_NoText, "ZeroDivisionError", false), (k_NothingToUndo, "ArithmeticError", false), (k_NothingToUndo, "IndexError", false), (k_NothingToUndo, "KeyError", false), (k_NothingToUndo, "LookupError", false), (k_NothingToUndo, "OverflowError", false), (k_NothingToUndo, "RuntimeError", true), (k_NothingToUndo, "TypeError", false), (k_NothingToUndo, "ValueError", false), (k_NothingToUndo, "ZeroDivisionError", false), (k_OtherShape, "ArithmeticError", true), (k_OtherShape, "IndexError", false), (k_OtherShape, "KeyError", false), (k_OtherShape, "LookupError", false), (k_OtherShape, "OverflowError", false), (k_OtherShape, "RuntimeError", false), (k_OtherShape, "TypeError", false), (k_OtherShape, "ValueError", false), (k_OtherShape, "ZeroDivisionError", false), (k_TooLarge, "ArithmeticError", true), (k_TooLarge, "IndexError", false), (k_TooLarge, "KeyError", false), (k_TooLarge, "LookupError", false), (k_TooLarge, "OverflowError", true), (k_TooLarge, "RuntimeError", false), (k_TooLarge, "TypeError", false), (k_TooLarge, "ValueError", false), (k_TooLarge, "ZeroDivisionError", false), (k_WrongCount, "ArithmeticError", false), (k_WrongCount, "IndexError", true), (k_WrongCount, "KeyError", false), (k_WrongCount, "LookupError", true), (k_WrongCount, "OverflowError", false), (k_WrongCount, "RuntimeError", false), (k_WrongCount, "TypeError", false), (k_WrongCount, "ValueError", false), (k_WrongCount, "ZeroDivisionError", false)] = true
  ci_ArithmeticError : PySem.W.findCls K (.type "ArithmeticError") (.type "type") "__init__" = some (.val (.builtin "ArithmeticError.__init__"))
  ci_IndexError : PySem.W.findCls K (.type "IndexError") (.type "type") "__init__" = some (.val (.builtin "IndexError.__init__"))
  ci_KeyError : PySem.W.findCls K (.type "KeyError") (.type "type") "__init__" = some (.val (.builtin "KeyError.__init__"))
  ci_LookupError : PySem.W.findCls K (.type "LookupError") (.type "type") "__init__" = some (.val (.builtin "LookupError.__init__"))
  ci_OverflowError : PySem.W.findCls K (.type "OverflowError") (.type "type") "__init__" = some (.val (.builtin "OverflowError.__init__"))
  ci_RuntimeError : PySem.W.findCls K (.type "RuntimeError") (.type "type") "__init__" = some (.val (.builtin "RuntimeError.__init__"))
  ci_TypeError : PySem.W.findCls K (.type "TypeError") (.type "type") "__init__" = some (.val (.builtin "TypeError.__init__"))
  ci_ValueError : PySem.W.findCls K (.type "ValueError") (.type "type") "__init__" = some (.val (.builtin "ValueError.__init__"))
section
variable {P : Program} {w : World} {K : PySem.W.Frag} {mg : Str → Option Value} {base : Heap}
/-- a first field is stored: the error has its dict, nothing else has changed -/
def Got1 (H H' : Hp) (a C : Addr) (f : Str) (y : V) : Prop := ∃ dx, H dx = none ∧ H' a = some (exo a C (some dx)) ∧ H' dx = some (exd dx [(f, y)]) ∧ ∀ p o, p ≠ a → H p = some o → H' p = some o
def sp_i1 (C : Addr) (f : Str) : Sp := fun vs H Q _ => ∃ (a : Addr) (y : V), vs = [.ref a, y] ∧ H a = some (exo a C none) ∧ ∀ H', Got1 H H' a C f y → Q .non H'
/-- two fields -/
def Got2 (H H' : Hp) (a C : Addr) (f g : Str) (y z : V) : Prop := ∃ dx, H dx = none ∧ H' a = some (exo a C (some dx)) ∧ H' dx = some (exd dx [(g, z), (f, y)]) ∧ ∀ p o, p ≠ a → H p = some o → H' p = some o
def sp_i2 (C : Addr) (f g : Str) : Sp := fun vs H Q _ => ∃ (a : Addr) (y z : V), vs = [.ref a, y, z] ∧ H a = some (exo a C none) ∧ ∀ H', Got2 H H' a C f g y z → Q .non H'
def sp_i0 (C : Addr) : Sp := fun vs H Q _ => ∃ a : Addr, vs = [.ref a] ∧ H a = some (exo a C none) ∧ Q .non H
theorem ok_i_NoBook (T : TX K mg) : FG P w K mg base CX0 1 T.f_i_NoBook T.d_i_NoBook ["self", "position"] (sp_i1 T.k_NoBook "position") := by
  refine Gd.ok T.F_i_NoBook sc_i_NoBook (fun vs H Q E h => ?_) (fun cdv A out s H vs Q E hg hr h => ?_)
  · obtain ⟨a, y, rfl, _⟩ := h
    rfl
  · obtain ⟨a, y, rfl, ha, k⟩ := h
    have nd := sc_i_NoBook.nd
    refine ⟨_, (pss_cons (ps_expr (pe_einit (L := "ValueError") (initId := "ValueError.__init__") rfl T.z_ValueError boot_ValueError tp_ValueError (by decide +kernel) T.ci_ValueError (pa_cons (pv 0) (pa_cons pe_str pa_nil))))
  (pss_one (ps_est (pv 0) (pv 1)))), ?_⟩
    walk_at "rd"
    refine r_ein ?_
    walk_at "rd"
    refine ⟨a, T.k_NoBook, _, _, _, _, rfl, by simp, base_ValueError, T.e_NoBook, ha, ?_⟩
    refine r_nxE ?_
    walk_at "rd"
    refine r_est ?_
    walk_at "rd"
    refine ⟨a, T.k_NoBook, _, _, _, _, _, rfl, base_ValueError, T.e_NoBook, T.n_NoBook_position, Or.inl ⟨ha, fun dx n1 ne => ?_⟩⟩
    exact k _ ⟨dx, n1, upd_same, (upd_ne ne).trans upd_same, fun p o hp e => (upd_ne hp).trans ((upd_ne (ne_of_none e n1)).trans e)⟩
theorem ok_i_NoName (T : TX K mg) : FG P w K mg base CX0 1 T.f_i_NoName T.d_i_NoName ["self", "name"] (sp_i1 T.k_NoName "name") := by
  refine Gd.ok T.F_i_NoName sc_i_NoName (fun vs H Q E h => ?_) (fun cdv A out s H vs Q E hg hr h => ?_)
  · obtain ⟨a, y, rfl, _⟩ := h
    rfl
  · obtain ⟨a, y, rfl, ha, k⟩ := h
    have nd := sc_i_NoName.nd
    refine ⟨_, (pss_cons (ps_expr (pe_einit (L := "KeyError") (initId := "KeyError.__init__") rfl T.z_KeyError boot_KeyError tp_KeyError (by decide +kernel) T.ci_KeyError (pa_cons (pv 0) (pa_cons pe_str pa_nil))))
  (pss_one (ps_est (pv 0) (pv 1)))), ?_⟩
    walk_at "rd"
    refine r_ein ?_
    walk_at "rd"
    refine ⟨a, T.k_NoName, _, _, _, _, rfl, by simp, base_KeyError, T.e_NoName, ha, ?_⟩
    refine r_nxE ?_
    walk_at "rd"
    refine r_est ?_
    walk_at "rd"
    refine ⟨a, T.k_NoName, _, _, _, _, _, rfl, base_KeyError, T.e_NoName, T.n_NoName_name, Or.inl ⟨ha, fun dx n1 ne => ?_⟩⟩
    exact k _ ⟨dx, n1, upd_same, (upd_ne ne).trans upd_same, fun p o hp e => (upd_ne hp).trans ((upd_ne (ne_of_none e n1)).trans e)⟩
theorem ok_i_TooLarge (T : TX K mg) : FG P w K mg base CX0 1 T.f_i_TooLarge T.d_i_TooLarge ["self", "limit"] (sp_i1 T.k_TooLarge "limit") := by
  refine Gd.ok T.F_i_TooLarge sc_i_TooLarge (fun vs H Q E h => ?_) (fun cdv A out s H vs Q E hg hr h => ?_)
  · obtain ⟨a, y, rfl, _⟩ := h
    rfl
  · obtain ⟨a, y, rfl, ha, k⟩ := h
    have nd := sc_i_TooLarge.nd
    refine ⟨_, (pss_cons (ps_expr (pe_einit (L := "OverflowError") (initId := "OverflowError.__init__") rfl T.z_OverflowError boot_OverflowError tp_OverflowError (by decide +kernel) T.ci_OverflowError (pa_cons (pv 0) (pa_cons pe_str pa_nil))))
  (pss_one (ps_est (pv 0) (pv 1)))), ?_⟩
    walk_at "rd"
    refine r_ein ?_
    walk_at "rd"
    refine ⟨a, T.k_TooLarge, _, _, _, _, rfl, by simp, base_OverflowError, T.e_TooLarge, ha, ?_⟩
    refine r_nxE ?_
    walk_at "rd"
    refine r_est ?_
    walk_at "rd"
    refine ⟨a, T.k_TooLarge, _, _, _, _, _, rfl, base_OverflowError, T.e_TooLarge, T.n_TooLarge_limit, Or.inl ⟨ha, fun dx n1 ne => ?_⟩⟩
    exact k _ ⟨dx, n1, upd_same, (upd_ne ne).trans upd_same, fun p o hp e => (upd_ne hp).trans ((upd_ne (ne_of_none e n1)).trans e)⟩
theorem ok_i_NoText (T : TX K mg) : FG P w K mg base CX0 1 T.f_i_NoText T.d_i_NoText ["self", "text"] (sp_i1 T.k_NoText "text") := by
  refine Gd.ok T.F_i_NoText sc_i_NoText (fun vs H Q E h => ?_) (fun cdv A out s H vs Q E hg hr h => ?_)
  · obtain ⟨a, y, rfl, _⟩ := h
    rfl
  · obtain ⟨a, y, rfl, ha, k⟩ := h
    have nd := sc_i_NoText.nd
    refine ⟨_, (pss_cons (ps_expr (pe_einit (L := "ValueError") (initId := "ValueError.__init__") rfl T.z_ValueError boot_ValueError tp_ValueError (by decide +kernel) T.ci_ValueError (pa_cons (pv 0) (pa_cons pe_str pa_nil))))
  (pss_one (ps_est (pv 0) (pv 1)))), ?_⟩
    walk_at "rd"
    refine r_ein ?_
    walk_at "rd"
    refine ⟨a, T.k_NoText, _, _, _, _, rfl, by simp, base_ValueError, T.e_NoText, ha, ?_⟩
    refine r_nxE ?_
    walk_at "rd"
    refine r_est ?_
    walk_at "rd"
    refine ⟨a, T.k_NoText, _, _, _, _, _, rfl, base_ValueError, T.e_NoText, T.n_NoText_text, Or.inl ⟨ha, fun dx n1 ne => ?_⟩⟩
    exact k _ ⟨dx, n1, upd_same, (upd_ne ne).trans upd_same, fun p o hp e => (upd_ne hp).trans ((upd_ne (ne_of_none e n1)).trans e)⟩
theorem ok_i_NoClaim (T : TX K mg) : FG P w K mg base CX0 1 T.f_i_NoClaim T.d_i_NoClaim ["self", "claim"] (sp_i1 T.k_NoClaim "claim") := by
  refine Gd.ok T.F_i_NoClaim sc_i_NoClaim (fun vs H Q E h => ?_) (fun cdv A out s H vs Q E hg hr h => ?_)
  · obtain ⟨a, y, rfl, _⟩ := h
    rfl
  · obtain ⟨a, y, rfl, ha, k⟩ := h
    have nd := sc_i_NoClaim.nd
    refine ⟨_, (pss_cons (ps_expr (pe_einit (L := "ValueError") (initId := "ValueError.__init__") rfl T.z_ValueError boot_ValueError tp_ValueError (by decide +kernel) T.ci_ValueError (pa_cons (pv 0) (pa_cons pe_str pa_nil))))
  (pss_one (ps_est (pv 0) (pv 1)))), ?_⟩
    walk_at "rd"
    refine r_ein ?_
    walk_at "rd"
    refine ⟨a, T.k_NoClaim, _, _, _, _, rfl, by simp, base_ValueError, T.e_NoClaim, ha, ?_⟩
    refine r_nxE ?_
    walk_at "rd"
    refine r_est ?_
    walk_at "rd"
    refine ⟨a, T.k_NoClaim, _, _, _, _, _, rfl, base_ValueError, T.e_NoClaim, T.n_NoClaim_claim, Or.inl ⟨ha, fun dx n1 ne => ?_⟩⟩
    exact k _ ⟨dx, n1, upd_same, (upd_ne ne).trans upd_same, fun p o hp e => (upd_ne hp).trans ((upd_ne (ne_of_none e n1)).trans e)⟩
theorem ok_i_NoChange (T : TX K mg) : FG P w K mg base CX0 1 T.f_i_NoChange T.d_i_NoChange ["self", "name"] (sp_i1 T.k_NoChange "name") := by
  refine Gd.ok T.F_i_NoChange sc_i_NoChange (fun vs H Q E h => ?_) (fun cdv A out s H vs Q E hg hr h => ?_)
  · obtain ⟨a, y, rfl, _⟩ := h
    rfl
  · obtain ⟨a, y, rfl, ha, k⟩ := h
    have nd := sc_i_NoChange.nd
    refine ⟨_, (pss_cons (ps_expr (pe_einit (L := "RuntimeError") (initId := "RuntimeError.__init__") rfl T.z_RuntimeError boot_RuntimeError tp_RuntimeError (by decide +kernel) T.ci_RuntimeError (pa_cons (pv 0) (pa_cons pe_str pa_nil))))
  (pss_one (ps_est (pv 0) (pv 1)))), ?_⟩
    walk_at "rd"
    refine r_ein ?_
    walk_at "rd"
    refine ⟨a, T.k_NoChange, _, _, _, _, rfl, by simp, base_RuntimeError, T.e_NoChange, ha, ?_⟩
    refine r_nxE ?_
    walk_at "rd"
    refine r_est ?_
    walk_at "rd"
    refine ⟨a, T.k_NoChange, _, _, _, _, _, rfl, base_RuntimeError, T.e_NoChange, T.n_NoChange_name, Or.inl ⟨ha, fun dx n1 ne => ?_⟩⟩
    exact k _ ⟨dx, n1, upd_same, (upd_ne ne).trans upd_same, fun p o hp e => (upd_ne hp).trans ((upd_ne (ne_of_none e n1)).trans e)⟩
theorem ok_i_NoTerm (T : TX K mg) : FG P w K mg base CX0 1 T.f_i_NoTerm T.d_i_NoTerm ["self", "number", "reason"] (sp_i2 T.k_NoTerm "number" "reason") := by
  refine Gd.ok T.F_i_NoTerm sc_i_NoTerm (fun vs H Q E h => ?_) (fun cdv A out s H vs Q E hg hr h => ?_)
  · obtain ⟨a, y, z, rfl, _⟩ := h
    rfl
  · obtain ⟨a, y, z, rfl, ha, k⟩ := h
    have nd := sc_i_NoTerm.nd
    refine ⟨_, (pss_cons (ps_expr (pe_einit (L := "ValueError") (initId := "ValueError.__init__") rfl T.z_ValueError boot_ValueError tp_ValueError (by decide +kernel) T.ci_ValueError (pa_cons (pv 0) (pa_cons pe_str pa_nil))))
  (pss_cons (ps_est (pv 0) (pv 1))
  (pss_one (ps_est (pv 0) (pv 2))))), ?_⟩
    walk_at "rd"
    refine r_ein ?_
    walk_at "rd"
    refine ⟨a, T.k_NoTerm, _, _, _, _, rfl, by simp, base_ValueError, T.e_NoTerm, ha, ?_⟩
    refine r_nxE ?_
    walk_at "rd"
    refine r_est ?_
    walk_at "rd"
    refine ⟨a, T.k_NoTerm, _, _, _, _, _, rfl, base_ValueError, T.e_NoTerm, T.n_NoTerm_number, Or.inl ⟨ha, fun dx n1 ne => ?_⟩⟩
    refine r_nxE ?_
    walk_at "rd"
    refine r_est ?_
    walk_at "rd"
    refine ⟨a, T.k_NoTerm, _, _, _, _, _, rfl, base_ValueError, T.e_NoTerm, T.n_NoTerm_reason, Or.inr ⟨dx, _, upd_same, (upd_ne ne).trans upd_same, by simp, ?_⟩⟩
    exact k _ ⟨dx, n1, (upd_ne ne.symm).trans upd_same, upd_same, fun p o hp e => (upd_ne (ne_of_none e n1)).trans ((upd_ne hp).trans ((upd_ne (ne_of_none e n1)).trans e))⟩
theorem ok_i_NoArgument (T : TX K mg) : FG P w K mg base CX0 1 T.f_i_NoArgument T.d_i_NoArgument ["self", "position", "reason"] (sp_i2 T.k_NoArgument "position" "reason") := by
  refine Gd.ok T.F_i_NoArgument sc_i_NoArgument (fun vs H Q E h => ?_) (fun cdv A out s H vs Q E hg hr h => ?_)
  · obtain ⟨a, y, z, rfl, _⟩ := h
    rfl
  · obtain ⟨a, y, z, rfl, ha, k⟩ := h
    have nd := sc_i_NoArgument.nd
    refine ⟨_, (pss_cons (ps_expr (pe_einit (L := "LookupError") (initId := "LookupError.__init__") rfl T.z_LookupError boot_LookupError tp_LookupError (by decide +kernel) T.ci_LookupError (pa_cons (pv 0) (pa_cons pe_str pa_nil))))
  (pss_cons (ps_est (pv 0) (pv 1))
  (pss_one (ps_est (pv 0) (pv 2))))), ?_⟩
    walk_at "rd"
    refine r_ein ?_
    walk_at "rd"
    refine ⟨a, T.k_NoArgument, _, _, _, _, rfl, by simp, base_LookupError, T.e_NoArgument, ha, ?_⟩
    refine r_nxE ?_
    walk_at "rd"
    refine r_est ?_
    walk_at "rd"
    refine ⟨a, T.k_NoArgument, _, _, _, _, _, rfl, base_LookupError, T.e_NoArgument, T.n_NoArgument_position, Or.inl ⟨ha, fun dx n1 ne => ?_⟩⟩
    refine r_nxE ?_
    walk_at "rd"
    refine r_est ?_
    walk_at "rd"
    refine ⟨a, T.k_NoArgument, _, _, _, _, _, rfl, base_LookupError, T.e_NoArgument, T.n_NoArgument_reason, Or.inr ⟨dx, _, upd_same, (upd_ne ne).trans upd_same, by simp, ?_⟩⟩
    exact k _ ⟨dx, n1, (upd_ne ne.symm).trans upd_same, upd_same, fun p o hp e => (upd_ne (ne_of_none e n1)).trans ((upd_ne hp).trans ((upd_ne (ne_of_none e n1)).trans e))⟩
theorem ok_i_WrongCount (T : TX K mg) : FG P w K mg base CX0 1 T.f_i_WrongCount T.d_i_WrongCount ["self", "given", "needed"] (sp_i2 T.k_WrongCount "given" "needed") := by
  refine Gd.ok T.F_i_WrongCount sc_i_WrongCount (fun vs H Q E h => ?_) (fun cdv A out s H vs Q E hg hr h => ?_)
  · obtain ⟨a, y, z, rfl, _⟩ := h
    rfl
  · obtain ⟨a, y, z, rfl, ha, k⟩ := h
    have nd := sc_i_WrongCount.nd
    refine ⟨_, (pss_cons (ps_expr (pe_einit (L := "IndexError") (initId := "IndexError.__init__") rfl T.z_IndexError boot_IndexError tp_IndexError (by decide +kernel) T.ci_IndexError (pa_cons (pv 0) (pa_cons pe_str pa_nil))))
  (pss_cons (ps_est (pv 0) (pv 1))
  (pss_one (ps_est (pv 0) (pv 2))))), ?_⟩
    walk_at "rd"
    refine r_ein ?_
    walk_at "rd"
    refine ⟨a, T.k_WrongCount, _, _, _, _, rfl, by simp, base_IndexError, T.e_WrongCount, ha, ?_⟩
    refine r_nxE ?_
    walk_at "rd"
    refine r_est ?_
    walk_at "rd"
    refine ⟨a, T.k_WrongCount, _, _, _, _, _, rfl, base_IndexError, T.e_WrongCount, T.n_WrongCount_given, Or.inl ⟨ha, fun dx n1 ne => ?_⟩⟩
    refine r_nxE ?_
    walk_at "rd"
    refine r_est ?_
    walk_at "rd"
    refine ⟨a, T.k_WrongCount, _, _, _, _, _, rfl, base_IndexError, T.e_WrongCount, T.n_WrongCount_needed, Or.inr ⟨dx, _, upd_same, (upd_ne ne).trans upd_same, by simp, ?_⟩⟩
    exact k _ ⟨dx, n1, (upd_ne ne.symm).trans upd_same, upd_same, fun p o hp e => (upd_ne (ne_of_none e n1)).trans ((upd_ne hp).trans ((upd_ne (ne_of_none e n1)).trans e))⟩
theorem ok_i_OtherShape (T : TX K mg) : FG P w K mg base CX0 1 T.f_i_OtherShape T.d_i_OtherShape ["self", "one", "other"] (sp_i2 T.k_OtherShape "one" "other") := by
  refine Gd.ok T.F_i_OtherShape sc_i_OtherShape (fun vs H Q E h => ?_) (fun cdv A out s H vs Q E hg hr h => ?_)
  · obtain ⟨a, y, z, rfl, _⟩ := h
    rfl
  · obtain ⟨a, y, z, rfl, ha, k⟩ := h
    have nd := sc_i_OtherShape.nd
    refine ⟨_, (pss_cons (ps_expr (pe_einit (L := "ArithmeticError") (initId := "ArithmeticError.__init__") rfl T.z_ArithmeticError boot_ArithmeticError tp_ArithmeticError (by decide +kernel) T.ci_ArithmeticError (pa_cons (pv 0) (pa_cons pe_str pa_nil))))
  (pss_cons (ps_est (pv 0) (pv 1))
  (pss_one (ps_est (pv 0) (pv 2))))), ?_⟩
    walk_at "rd"
    refine r_ein ?_
    walk_at "rd"
    refine ⟨a, T.k_OtherShape, _, _, _, _, rfl, by simp, base_ArithmeticError, T.e_OtherShape, ha, ?_⟩
    refine r_nxE ?_
    walk_at "rd"
    refine r_est ?_
    walk_at "rd"
    refine ⟨a, T.k_OtherShape, _, _, _, _, _, rfl, base_ArithmeticError, T.e_OtherShape, T.n_OtherShape_one, Or.inl ⟨ha, fun dx n1 ne => ?_⟩⟩
    refine r_nxE ?_
    walk_at "rd"
    refine r_est ?_
    walk_at "rd"
    refine ⟨a, T.k_OtherShape, _, _, _, _, _, rfl, base_ArithmeticError, T.e_OtherShape, T.n_OtherShape_other, Or.inr ⟨dx, _, upd_same, (upd_ne ne).trans upd_same, by simp, ?_⟩⟩
    exact k _ ⟨dx, n1, (upd_ne ne.symm).trans upd_same, upd_same, fun p o hp e => (upd_ne (ne_of_none e n1)).trans ((upd_ne hp).trans ((upd_ne (ne_of_none e n1)).trans e))⟩
theorem ok_i_NoCommand (T : TX K mg) : FG P w K mg base CX0 1 T.f_i_NoCommand T.d_i_NoCommand ["self"] (sp_i0 T.k_NoCommand) := by
  refine Gd.ok T.F_i_NoCommand sc_i_NoCommand (fun vs H Q E h => ?_) (fun cdv A out s H vs Q E hg hr h => ?_)
  · obtain ⟨a, rfl, _⟩ := h
    rfl
  · obtain ⟨a, rfl, ha, k⟩ := h
    have nd := sc_i_NoCommand.nd
    refine ⟨_, (pss_one (ps_expr (pe_einit (L := "TypeError") (initId := "TypeError.__init__") rfl T.z_TypeError boot_TypeError tp_TypeError (by decide +kernel) T.ci_TypeError (pa_cons (pv 0) (pa_cons pe_str pa_nil))))), ?_⟩
    walk_at "rd"
    refine r_ein ?_
    walk_at "rd"
    exact ⟨a, T.k_NoCommand, _, _, _, _, rfl, by simp, base_TypeError, T.e_NoCommand, ha, k⟩
theorem ok_i_NothingToUndo (T : TX K mg) : FG P w K mg base CX0 1 T.f_i_NothingToUndo T.d_i_NothingToUndo ["self"] (sp_i0 T.k_NothingToUndo) := by
  refine Gd.ok T.F_i_NothingToUndo sc_i_NothingToUndo (fun vs H Q E h => ?_) (fun cdv A out s H vs Q E hg hr h => ?_)
  · obtain ⟨a, rfl, _⟩ := h
    rfl
  · obtain ⟨a, rfl, ha, k⟩ := h
    have nd := sc_i_NothingToUndo.nd
    refine ⟨_, (pss_one (ps_expr (pe_einit (L := "RuntimeError") (initId := "RuntimeError.__init__") rfl T.z_RuntimeError boot_RuntimeError tp_RuntimeError (by decide +kernel) T.ci_RuntimeError (pa_cons (pv 0) (pa_cons pe_str pa_nil))))), ?_⟩
    walk_at "rd"
    refine r_ein ?_
    walk_at "rd"
    exact ⟨a, T.k_NothingToUndo, _, _, _, _, rfl, by simp, base_RuntimeError, T.e_NothingToUndo, ha, k⟩
end

def Bag (H : Hp) (b : Addr) : Prop := ∃ x y z : Int, H b = some (.lst [.int x, .int y, .int z]) ∧ 0 ≤ y ∧ y < 2147483648
theorem Bag.up {H H' : Hp} {b : Addr} (h : Bag H b) (k : Up H H') : Bag H' b := let ⟨x, y, z, e, r⟩ := h; ⟨x, y, z, k _ _ e, r⟩
theorem Bag.ne {H : Hp} {b p : Addr} (h : Bag H b) (n : H p = none) : p ≠ b := let ⟨_, _, _, e, _⟩ := h; (ne_of_none e n).symm
theorem Bag.ne' {H H' : Hp} {b p : Addr} (h : Bag H' b) (n : H p = none) (u : Up H H') (hb : Bag H b) : p ≠ b := hb.ne n
theorem Bag.fr {H H' : Hp} {b p : Addr} (h : Bag H' b) (m : Mv b H H') (n : H' p = none) : H p = none := let ⟨_, _, _, e, _⟩ := h; m.fr e n
theorem Bag.tk {H H' : Hp} {b : Addr} (h : Bag H b) (m : Mv b H H') : Tk H H' := let ⟨_, _, _, e, _⟩ := h; m.tk e
theorem Bag.mv {H H' : Hp} {b p : Addr} (h : Bag H b) (ne : b ≠ p) (m : Mv p H H') : Bag H' b := let ⟨x, y, z, e, r⟩ := h; ⟨x, y, z, m _ _ ne e, r⟩
def sp_ltake : Sp := fun vs H Q _ => ∃ (b : Addr) (m : Int), vs = [.ref b, .int m] ∧ Bag H b ∧ 1 ≤ m ∧ m ≤ 1000 ∧
  ∀ (r : Int) (H' : Hp), 0 ≤ r → r < m → Mv b H H' → Bag H' b → Q (.int r) H'
section
variable {P : Program} {w : World} {K : PySem.W.Frag} {mg : Str → Option Value} {base : Heap}
theorem ok_ltake (T : TX K mg) : FG P w K mg base CX0 1 T.f_ltake T.d_ltake ["bag", "many"] sp_ltake := by
  refine Gd.ok T.F_ltake sc_ltake (fun vs H Q E h => ?_) (fun cdv A out s H vs Q E hg hr h => ?_)
  · obtain ⟨b, m, rfl, _⟩ := h
    rfl
  · obtain ⟨b, m, rfl, ⟨x, y, z, hb, y0, y1⟩, m0, m1, k⟩ := h
    have nd := sc_ltake.nd
    refine ⟨_, (pss_cons (ps_if (pt_cmpR op_gt (pe_ix ix_list (pv 0) pe_int (fun _ _ => rfl)) pe_int (nomark _)) (pss_cons (ps_set (i := 2) nd rfl (by first | exact Or.inl rfl | exact Or.inr rfl) (pe_op op_mod (pe_ix ix_list (pv 0) pe_int (fun _ _ => rfl)) (pv 1)))
  (pss_cons (ps_asg (pe_op op_fdiv (pe_ix ix_list (pv 0) pe_int (fun _ _ => rfl)) (pv 1)) (pg_sub (pv 0) pe_int set_list))
  (pss_one (ps_ret (pv 2))))) pss_nil)
  (pss_cons (ps_asg (pe_op op_add (pe_ix ix_list (pv 0) pe_int (fun _ _ => rfl)) pe_int) (pg_sub (pv 0) pe_int set_list))
  (pss_cons (ps_asg (pe_op op_mod (pe_op op_add (pe_op op_add (pe_op op_mul (pe_ix ix_list (pv 0) pe_int (fun _ _ => rfl)) pe_int) (pe_op op_mul pe_int (pe_ix ix_list (pv 0) pe_int (fun _ _ => rfl)))) pe_int) pe_int) (pg_sub (pv 0) pe_int set_list))
  (pss_one (ps_ret (pe_op op_mod (pe_op op_fdiv (pe_op op_mod (pe_op op_pow (pe_op op_fdiv (pe_ix ix_list (pv 0) pe_int (fun _ _ => rfl)) pe_int) pe_int) pe_int) pe_int) (pv 1))))))), ?_⟩
    walk_at "rd"
    refine ifD (fun c => ?_) (fun c => ?_)
    · walk_at "rd"
      exact k _ _ (Int.emod_nonneg _ (by omega)) (Int.emod_lt_of_pos _ (by omega)) Mv.wr ⟨_, _, _, upd_same, y0, y1⟩
    · walk_at "rd"
      refine k _ _ (Int.emod_nonneg _ (by omega)) (Int.emod_lt_of_pos _ (by omega)) (Mv.wr.tr Mv.wr) ⟨_, _, _, upd_same, ?_, ?_⟩
      · exact Int.emod_nonneg _ (by decide)
      · have := Int.emod_lt_of_pos (y * 69621 + 9157 * (z + 1) + 3) (show (0 : Int) < 2147483587 by decide)
        omega
def sp_lbag (K : PySem.W.Frag) : Sp := fun vs H Q _ => ∃ (a : Addr) (i : Int) (ns : List Int), vs = [.ref a, .int i] ∧ SqL K H a (ns.map V.int) ∧ 0 ≤ i ∧ i ≤ 10 ∧
  ∀ (b : Addr) (H' : Hp), H b = none → Up H H' → Bag H' b → Q (.ref b) H'
theorem ok_lbag (T : TX K mg) : FG P w K mg base CX0 1 T.f_lbag T.d_lbag ["script", "at"] (sp_lbag K) := by
  refine Gd.ok T.F_lbag sc_lbag (fun vs H Q E h => ?_) (fun cdv A out s H vs Q E hg hr h => ?_)
  · obtain ⟨b, m, ns, rfl, _⟩ := h
    rfl
  · obtain ⟨a, i, ns, rfl, ha, i0, i1, k⟩ := h
    have nd := sc_lbag.nd
    refine ⟨_, (pss_cons (ps_set (i := 2) nd rfl (by first | exact Or.inl rfl | exact Or.inr rfl) (pe_ifExp (pt_cmpR op_lt (pv 1) (pe_callB call_len_seq rfl T.z_len PySem.boot_len (pa_cons (pv 0) pa_nil)) (nomark _)) (pe_ix ix_list (pv 0) (pv 1) (fun _ _ => rfl)) pe_int))
  (pss_cons (ps_set (i := 3) nd rfl (by first | exact Or.inl rfl | exact Or.inr rfl) (pe_ifExp (pt_cmpR op_ge (pe_callB call_abs rfl T.z_abs (by decide +kernel) (pa_cons (pv 2) pa_nil)) (pe_op op_pow pe_int pe_int) (nomark _)) (pe_callB call_abs rfl T.z_abs (by decide +kernel) (pa_cons (pv 2) pa_nil)) pe_int))
  (pss_cons (ps_set (i := 4) nd rfl (by first | exact Or.inl rfl | exact Or.inr rfl) (pe_op op_mod (pe_op op_pow (pe_op op_add (pe_op op_add (pe_op op_mod (pv 2) pe_int) (pe_op op_mul pe_int (pv 1))) pe_int) pe_int) pe_int))
  (pss_one (ps_ret (pe_lst (pa_cons (pv 3) (pa_cons (pe_op op_mod (pe_op op_add (pe_op op_add (pe_op op_mul (pv 4) pe_int) (pe_op op_mul pe_int (pv 1))) pe_int) pe_int) (pa_cons (pv 1) pa_nil))))))))), ?_⟩
    have em : ∀ x : Int, 0 ≤ x % 2147483587 ∧ x % 2147483587 < 2147483587 := fun x => ⟨Int.emod_nonneg _ (by decide), Int.emod_lt_of_pos _ (by decide)⟩
    walk_at "rd"
    refine ⟨a, _, rfl, Or.inl ha, ?_⟩
    walk_at "rd"
    refine ifD (fun c => ?_) (fun c => ?_)
    · obtain ⟨v, e, hv⟩ := atI_ex (xs := ns.map V.int) i0 (by rw [List.length_map] at c ⊢; exact c)
      obtain ⟨n, _, rfl⟩ := List.mem_map.mp hv
      have em1 := em n
      walk_at "rd"
      refine ⟨a, _, i, _, rfl, rfl, ha, e, ?_⟩
      walk_at "rd"
      refine ifD (fun c2 => ?_) (fun c2 => ?_)
      · walk_at "rd"
        rename_i b H1 n1 u1 g1
        refine k b H1 n1 u1 ⟨_, _, _, g1, Int.emod_nonneg _ (by decide), Int.lt_trans (Int.emod_lt_of_pos _ (by decide)) (by decide)⟩
      · walk_at "rd"
        rename_i b H1 n1 u1 g1
        refine k b H1 n1 u1 ⟨_, _, _, g1, Int.emod_nonneg _ (by decide), Int.lt_trans (Int.emod_lt_of_pos _ (by decide)) (by decide)⟩
    · have em1 := em 0
      walk_at "rd"
      refine ifD (fun c2 => ?_) (fun c2 => ?_)
      · walk_at "rd"
        rename_i b H1 n1 u1 g1
        refine k b H1 n1 u1 ⟨_, _, _, g1, Int.emod_nonneg _ (by decide), Int.lt_trans (Int.emod_lt_of_pos _ (by decide)) (by decide)⟩
      · walk_at "rd"
        rename_i b H1 n1 u1 g1
        refine k b H1 n1 u1 ⟨_, _, _, g1, Int.emod_nonneg _ (by decide), Int.lt_trans (Int.emod_lt_of_pos _ (by decide)) (by decide)⟩
def sp_lvalue : Sp := fun vs H Q _ => ∃ (b : Addr), vs = [.ref b] ∧ Bag H b ∧ ∀ (v : V) (d : PyData) (H' : Hp), Mv b H H' → Bag H' b → (∀ (H'' : Hp), Mv b H' H'' → Fld H'' v d) → Q v H'
theorem ok_lvalue (T : TX K mg) : FG P w K mg base CX0 2 T.f_lvalue T.d_lvalue ["bag"] sp_lvalue := by
  have G_ltake := ok_ltake (P := P) (w := w) (base := base) T
  refine Gd.ok T.F_lvalue sc_lvalue (fun vs H Q E h => ?_) (fun cdv A out s H vs Q E hg hr h => ?_)
  · obtain ⟨b, rfl, _⟩ := h
    rfl
  · obtain ⟨b, rfl, hb, k⟩ := h
    have nd := sc_lvalue.nd
    have hr_ltake := hr
    refine ⟨_, (pss_cons (ps_set (i := 1) nd rfl (by first | exact Or.inl rfl | exact Or.inr rfl) (pe_lst (pa_cons pe_non (pa_cons pe_bl (pa_cons pe_int (pa_cons (pe_un un_neg pe_int) (pa_cons (pe_op op_pow pe_int pe_int) (pa_cons pe_str (pa_cons pe_str (pa_cons (pe_tup pa_nil) (pa_cons (pe_tup (pa_cons pe_str (pa_cons pe_int pa_nil))) (pa_cons (pe_lst pa_nil) (pa_cons (pe_lst (pa_cons pe_non pa_nil)) (pa_cons (pe_tup (pa_cons (pe_tup pa_nil) (pa_cons pe_str pa_nil))) pa_nil))))))))))))))
  (pss_one (ps_ret (pe_ix ix_list (pv 1) (pe_g T.c_ltake G_ltake hg hr_ltake rfl pass0 (pa_cons (pv 0) (pa_cons pe_int pa_nil))) (fun _ _ => rfl))))), ?_⟩
    walk_at "rd"
    rename_i p1 H1 n1 u1 g1 p2 H2 n2 u2 g2 p3 H3 n3 u3 g3 p4 H4 n4 u4 g4 p5 H5 n5 u5 g5 p6 H6 n6 u6 g6 p7 H7 n7 u7 g7
    have u07 : Up H H7 := u1.tr (u2.tr (u3.tr (u4.tr (u5.tr (u6.tr u7)))))
    refine ⟨b, 12, rfl, hb.up u07, by decide, by decide, fun r H8 r0 r1 m8 b8 => ?_⟩
    obtain ⟨bx, by_, bz, ebg, _⟩ := hb
    have hne7 : p7 ≠ b := fun e => by
      subst e
      rw [(u1.tr (u2.tr (u3.tr (u4.tr (u5.tr u6))))) _ _ ebg] at n7
      cases n7
    have k8 : Tk H7 H8 := m8.tk (u07 _ _ ebg)
    have g78 := m8 _ _ hne7 g7
    have e1 := k8 _ _ ((u2.tr (u3.tr (u4.tr (u5.tr (u6.tr u7))))) _ _ g1)
    have e2 := k8 _ _ ((u3.tr (u4.tr (u5.tr (u6.tr u7)))) _ _ g2)
    have hne3 : p3 ≠ b := fun e => by
      subst e
      rw [(u1.tr u2) _ _ ebg] at n3
      cases n3
    have hne4 : p4 ≠ b := fun e => by
      subst e
      rw [(u1.tr (u2.tr u3)) _ _ ebg] at n4
      cases n4
    have e3 := m8 _ _ hne3 ((u4.tr (u5.tr (u6.tr u7))) _ _ g3)
    have e4 := m8 _ _ hne4 ((u5.tr (u6.tr u7)) _ _ g4)
    have e5 := k8 _ _ ((u6.tr u7) _ _ g5)
    have e6 := k8 _ _ (u7 _ _ g6)
    have hm : Mv b H H8 := u07.mv.tr m8
    have hr12 : r = 0 ∨ r = 1 ∨ r = 2 ∨ r = 3 ∨ r = 4 ∨ r = 5 ∨ r = 6 ∨ r = 7 ∨ r = 8 ∨ r = 9 ∨ r = 10 ∨ r = 11 := by omega
    walk_at "rd"
    rcases hr12 with rfl | rfl | rfl | rfl | rfl | rfl | rfl | rfl | rfl | rfl | rfl | rfl
    · refine r_ixL g78 (v := .non) (atI_nat (j := 0) rfl) ?_
      exact k _ (.none) H8 hm b8 fun H9 m9 => ⟨.non, ⟨by decide +kernel, by decide +kernel, by decide +kernel⟩⟩
    · refine r_ixL g78 (v := .bl true) (atI_nat (j := 1) rfl) ?_
      exact k _ (.bool true) H8 hm b8 fun H9 m9 => ⟨.bl _, ⟨by decide +kernel, by decide +kernel, by decide +kernel⟩⟩
    · refine r_ixL g78 (v := .int 0) (atI_nat (j := 2) rfl) ?_
      exact k _ (.int 0) H8 hm b8 fun H9 m9 => ⟨.int _, ⟨by decide +kernel, by decide +kernel, by decide +kernel⟩⟩
    · refine r_ixL g78 (v := .int (-1)) (atI_nat (j := 3) rfl) ?_
      exact k _ (.int (-1)) H8 hm b8 fun H9 m9 => ⟨.int _, ⟨by decide +kernel, by decide +kernel, by decide +kernel⟩⟩
    · refine r_ixL g78 (v := .int (10 ^ Int.toNat 30)) (atI_nat (j := 4) rfl) ?_
      exact k _ (.int (10 ^ Int.toNat 30)) H8 hm b8 fun H9 m9 => ⟨.int _, ⟨by decide +kernel, by decide +kernel, by decide +kernel⟩⟩
    · refine r_ixL g78 (v := .str ("" : Str)) (atI_nat (j := 5) rfl) ?_
      exact k _ (.str ("" : Str)) H8 hm b8 fun H9 m9 => ⟨.str _, ⟨by decide +kernel, by decide +kernel, by decide +kernel⟩⟩
    · refine r_ixL g78 (v := .str ("field" : Str)) (atI_nat (j := 6) rfl) ?_
      exact k _ (.str ("field" : Str)) H8 hm b8 fun H9 m9 => ⟨.str _, ⟨by decide +kernel, by decide +kernel, by decide +kernel⟩⟩
    · refine r_ixL g78 (v := .ref p1) (atI_nat (j := 7) rfl) ?_
      exact k _ (.tuple []) H8 hm b8 fun H9 m9 => ⟨.tup ((b8.tk m9) _ _ e1) .nil, ⟨by decide +kernel, by decide +kernel, by decide +kernel⟩⟩
    · refine r_ixL g78 (v := .ref p2) (atI_nat (j := 8) rfl) ?_
      exact k _ (.tuple [.str ("a" : Str), .int 1]) H8 hm b8 fun H9 m9 => ⟨.tup ((b8.tk m9) _ _ e2) (.cons (.str _) (.cons (.int _) .nil)), ⟨by decide +kernel, by decide +kernel, by decide +kernel⟩⟩
    · refine r_ixL g78 (v := .ref p3) (atI_nat (j := 9) rfl) ?_
      exact k _ (.list []) H8 hm b8 fun H9 m9 => ⟨.lst (m9 _ _ hne3 e3) .nil, ⟨by decide +kernel, by decide +kernel, by decide +kernel⟩⟩
    · refine r_ixL g78 (v := .ref p4) (atI_nat (j := 10) rfl) ?_
      exact k _ (.list [.none]) H8 hm b8 fun H9 m9 => ⟨.lst (m9 _ _ hne4 e4) (.cons .non .nil), ⟨by decide +kernel, by decide +kernel, by decide +kernel⟩⟩
    · refine r_ixL g78 (v := .ref p6) (atI_nat (j := 11) rfl) ?_
      exact k _ (.tuple [.tuple [], .str ("b" : Str)]) H8 hm b8 fun H9 m9 => ⟨.tup ((b8.tk m9) _ _ e6) (.cons (.tup ((b8.tk m9) _ _ e5) .nil) (.cons (.str _) .nil)), ⟨by decide +kernel, by decide +kernel, by decide +kernel⟩⟩
end

section
variable {P : Program} {w : World} {K : PySem.W.Frag} {mg : Str → Option Value} {base : Heap}
def clsL (T : TX K mg) : List Addr := [T.k_NoArgument, T.k_NoBook, T.k_NoChange, T.k_NoClaim, T.k_NoCommand, T.k_NoName, T.k_NoTerm, T.k_NoText, T.k_NothingToUndo, T.k_OtherShape, T.k_TooLarge, T.k_WrongCount]
theorem cls_kit (T : TX K mg) {C D : Addr} (hC : C ∈ clsL T) (hD : D ∈ clsL T) : PySem.W.kitOne K (.ref C) (.ref D) = some (decide (C = D)) := kitTab_ok T.kit hC hD
def sp_lis1 (T : TX K mg) : Sp := fun vs H Q _ => ∃ (a C : Addr), vs = [.ref a] ∧ C ∈ clsL T ∧ ExcC K C ∧ ErrV H a C ∧ ∀ (H' : Hp), Up H H' → Q (.int 1) H'
theorem ok_lis_one_of (T : TX K mg) : FG P w K mg base CX0 1 T.f_lis_one_of T.d_lis_one_of ["error"] (sp_lis1 T) := by
  refine Gd.ok T.F_lis_one_of sc_lis_one_of (fun vs H Q E h => ?_) (fun cdv A out s H vs Q E hg hr h => ?_)
  · obtain ⟨a, C, rfl, _⟩ := h
    rfl
  · obtain ⟨a, C, rfl, hC, hT, hv, k⟩ := h
    have nd := sc_lis_one_of.nd
    refine ⟨_, (pss_cons (ps_set (i := 1) nd rfl (by first | exact Or.inl rfl | exact Or.inr rfl) (pe_lst (pa_cons (pe_callB call_isX rfl T.z_isinstance (by decide +kernel) (pa_cons (pv 0) (pa_cons (pe_glob (v := .ref T.k_NoArgument) rfl T.m_NoArgument rfl) pa_nil))) (pa_cons (pe_callB call_isX rfl T.z_isinstance (by decide +kernel) (pa_cons (pv 0) (pa_cons (pe_glob (v := .ref T.k_NoBook) rfl T.m_NoBook rfl) pa_nil))) (pa_cons (pe_callB call_isX rfl T.z_isinstance (by decide +kernel) (pa_cons (pv 0) (pa_cons (pe_glob (v := .ref T.k_NoChange) rfl T.m_NoChange rfl) pa_nil))) pa_nil)))))
  (pss_cons (ps_set (i := 1) nd rfl (by first | exact Or.inl rfl | exact Or.inr rfl) (pe_op op_cat (pv 1) (pe_lst (pa_cons (pe_callB call_isX rfl T.z_isinstance (by decide +kernel) (pa_cons (pv 0) (pa_cons (pe_glob (v := .ref T.k_NoClaim) rfl T.m_NoClaim rfl) pa_nil))) (pa_cons (pe_callB call_isX rfl T.z_isinstance (by decide +kernel) (pa_cons (pv 0) (pa_cons (pe_glob (v := .ref T.k_NoCommand) rfl T.m_NoCommand rfl) pa_nil))) (pa_cons (pe_callB call_isX rfl T.z_isinstance (by decide +kernel) (pa_cons (pv 0) (pa_cons (pe_glob (v := .ref T.k_NoName) rfl T.m_NoName rfl) pa_nil))) pa_nil))))))
  (pss_cons (ps_set (i := 1) nd rfl (by first | exact Or.inl rfl | exact Or.inr rfl) (pe_op op_cat (pv 1) (pe_lst (pa_cons (pe_callB call_isX rfl T.z_isinstance (by decide +kernel) (pa_cons (pv 0) (pa_cons (pe_glob (v := .ref T.k_NoTerm) rfl T.m_NoTerm rfl) pa_nil))) (pa_cons (pe_callB call_isX rfl T.z_isinstance (by decide +kernel) (pa_cons (pv 0) (pa_cons (pe_glob (v := .ref T.k_NoText) rfl T.m_NoText rfl) pa_nil))) (pa_cons (pe_callB call_isX rfl T.z_isinstance (by decide +kernel) (pa_cons (pv 0) (pa_cons (pe_glob (v := .ref T.k_NothingToUndo) rfl T.m_NothingToUndo rfl) pa_nil))) pa_nil))))))
  (pss_cons (ps_set (i := 1) nd rfl (by first | exact Or.inl rfl | exact Or.inr rfl) (pe_op op_cat (pv 1) (pe_lst (pa_cons (pe_callB call_isX rfl T.z_isinstance (by decide +kernel) (pa_cons (pv 0) (pa_cons (pe_glob (v := .ref T.k_OtherShape) rfl T.m_OtherShape rfl) pa_nil))) (pa_cons (pe_callB call_isX rfl T.z_isinstance (by decide +kernel) (pa_cons (pv 0) (pa_cons (pe_glob (v := .ref T.k_TooLarge) rfl T.m_TooLarge rfl) pa_nil))) (pa_cons (pe_callB call_isX rfl T.z_isinstance (by decide +kernel) (pa_cons (pv 0) (pa_cons (pe_glob (v := .ref T.k_WrongCount) rfl T.m_WrongCount rfl) pa_nil))) pa_nil))))))
  (pss_one (ps_ret (pe_bm PySem.F.plainAttrs_list PySem.F.slot_list_count PySem.F.type_list_count mt_countB (pv 1) (pa_cons pe_bl pa_nil)))))))), ?_⟩
    walk_at "rd"
    refine r_isX hT (hv.up Up.rf) (cls_kit T hC (D := T.k_NoArgument) (by simp [clsL])) ?_
    walk_at "rd"
    refine r_isX hT (hv.up Up.rf) (cls_kit T hC (D := T.k_NoBook) (by simp [clsL])) ?_
    walk_at "rd"
    refine r_isX hT (hv.up Up.rf) (cls_kit T hC (D := T.k_NoChange) (by simp [clsL])) ?_
    walk_at "rd"
    rename_i p1 H1 n1 u1 g1
    walk_at "rd"
    refine r_isX hT (hv.up u1) (cls_kit T hC (D := T.k_NoClaim) (by simp [clsL])) ?_
    walk_at "rd"
    refine r_isX hT (hv.up u1) (cls_kit T hC (D := T.k_NoCommand) (by simp [clsL])) ?_
    walk_at "rd"
    refine r_isX hT (hv.up u1) (cls_kit T hC (D := T.k_NoName) (by simp [clsL])) ?_
    walk_at "rd"
    rename_i p2 H2 n2 u2 g2
    refine r_catL (u2 _ _ g1) g2 (by simp) fun p3 H3 n3 u3 g3 => ?_
    walk_at "rd"
    refine r_isX hT (hv.up (u1.tr (u2.tr u3))) (cls_kit T hC (D := T.k_NoTerm) (by simp [clsL])) ?_
    walk_at "rd"
    refine r_isX hT (hv.up (u1.tr (u2.tr u3))) (cls_kit T hC (D := T.k_NoText) (by simp [clsL])) ?_
    walk_at "rd"
    refine r_isX hT (hv.up (u1.tr (u2.tr u3))) (cls_kit T hC (D := T.k_NothingToUndo) (by simp [clsL])) ?_
    walk_at "rd"
    rename_i p4 H4 n4 u4 g4
    refine r_catL (u4 _ _ g3) g4 (by simp) fun p5 H5 n5 u5 g5 => ?_
    walk_at "rd"
    refine r_isX hT (hv.up ((u1.tr (u2.tr u3)).tr (u4.tr u5))) (cls_kit T hC (D := T.k_OtherShape) (by simp [clsL])) ?_
    walk_at "rd"
    refine r_isX hT (hv.up ((u1.tr (u2.tr u3)).tr (u4.tr u5))) (cls_kit T hC (D := T.k_TooLarge) (by simp [clsL])) ?_
    walk_at "rd"
    refine r_isX hT (hv.up ((u1.tr (u2.tr u3)).tr (u4.tr u5))) (cls_kit T hC (D := T.k_WrongCount) (by simp [clsL])) ?_
    walk_at "rd"
    rename_i p6 H6 n6 u6 g6
    refine r_catL (u6 _ _ g5) g6 (by simp) fun p7 H7 n7 u7 g7 => ?_
    walk_at "rd"
    refine r_tyL g7 ?_
    walk_at "rd"
    have gf : H7 p7 = some (.lst (((clsL T).map fun d => decide (C = d)).map V.bl)) := g7
    refine r_cntB gf ?_
    rw [show ((clsL T).map fun d => decide (C = d)).count true = 1 from count_one T.knd hC]
    exact k _ (((u1.tr (u2.tr u3)).tr (u4.tr u5)).tr (u6.tr u7))
end

section
variable {P : Program} {w : World} {K : PySem.W.Frag} {mg : Str → Option Value} {base : Heap}
/-- one field: made -/
theorem mk1 {C : Addr} {f : Str} {H : Hp} {y : V} {Q : VK} {E : XK} (k : ∀ a H', H a = none → Up H H' → ErrF H' a C [(f, y)] → Q (.ref a) H') :
    [y].length ≤ 1000 ∧ ∀ a, H a = none → sp_i1 C f (.ref a :: [y]) (upd H a (exo a C none)) (fun v H2 => v = .non ∧ Q (.ref a) H2) E := by
  refine ⟨by simp, fun a n => ⟨a, y, rfl, upd_same, fun H' ⟨dx, nx, e1, e2, e3⟩ => ⟨rfl, k a H' n (fun p o hp => e3 p o (ne_of_none hp n) (by rw [upd_ne (ne_of_none hp n)]; exact hp)) ⟨dx, e1, e2⟩⟩⟩⟩
theorem mk2 {C : Addr} {f g : Str} {H : Hp} {y z : V} {Q : VK} {E : XK} (k : ∀ a H', H a = none → Up H H' → ErrF H' a C [(g, z), (f, y)] → Q (.ref a) H') :
    [y, z].length ≤ 1000 ∧ ∀ a, H a = none → sp_i2 C f g (.ref a :: [y, z]) (upd H a (exo a C none)) (fun v H2 => v = .non ∧ Q (.ref a) H2) E := by
  refine ⟨by simp, fun a n => ⟨a, y, z, rfl, upd_same, fun H' ⟨dx, nx, e1, e2, e3⟩ => ⟨rfl, k a H' n (fun p o hp => e3 p o (ne_of_none hp n) (by rw [upd_ne (ne_of_none hp n)]; exact hp)) ⟨dx, e1, e2⟩⟩⟩⟩
def ErrN (H : Hp) (a C : Addr) : Prop := H a = some (exo a C none)
theorem mk0 {C : Addr} {H : Hp} {Q : VK} {E : XK} (k : ∀ a H', H a = none → Up H H' → H' a = some (exo a C none) → Q (.ref a) H') :
    ([] : List V).length ≤ 1000 ∧ ∀ a, H a = none → sp_i0 C (.ref a :: []) (upd H a (exo a C none)) (fun v H2 => v = .non ∧ Q (.ref a) H2) E :=
  ⟨by simp, fun a n => ⟨a, rfl, upd_same, rfl, k a _ n (Up.new n) upd_same⟩⟩
theorem r_mk1 {C : Addr} {f : Str} {σ : L2.St} {H : Hp} {y : V} {Q : VK} {E : XK} {i : Nat} (hi : σ[i]? = some (some y)) (k : ∀ a H', H a = none → Up H H' → ErrF H' a C [(f, y)] → Q (.ref a) H') :
    tMkE C (sp_i1 C f) E (tCons (tVar i) tNil) σ H Q := r_mkE (r_cons (r_var hi (r_nil (mk1 k))))
theorem r_mk2 {C : Addr} {f g : Str} {σ : L2.St} {H : Hp} {y z : V} {Q : VK} {E : XK} {i j : Nat} (hi : σ[i]? = some (some y)) (hj : σ[j]? = some (some z)) (k : ∀ a H', H a = none → Up H H' → ErrF H' a C [(g, z), (f, y)] → Q (.ref a) H') :
    tMkE C (sp_i2 C f g) E (tCons (tVar i) (tCons (tVar j) tNil)) σ H Q := r_mkE (r_cons (r_var hi (r_cons (r_var hj (r_nil (mk2 k))))))
theorem r_mk0 {C : Addr} {σ : L2.St} {H : Hp} {Q : VK} {E : XK} (k : ∀ a H', H a = none → Up H H' → ErrV H' a C → Q (.ref a) H') :
    tMkE C (sp_i0 C) E tNil σ H Q := r_mkE (r_nil (mk0 fun a H' n u e => k a H' n u (.inl e)))
def sp_lright : Sp := fun vs H Q _ => ∃ (v1 v2 : V) (d1 d2 : PyData), vs = [v1, v2] ∧ Fld H v1 d1 ∧ Fld H v2 d2 ∧ ∀ (H' : Hp), Up H H' → Q (.bl true) H'
theorem ok_lvalues_right (T : TX K mg) : FG P w K mg base CX0 3 T.f_lvalues_right T.d_lvalues_right ["one", "other"] sp_lright := by
  have G_i_NoBook := ok_i_NoBook (P := P) (w := w) (base := base) T
  have G_i_NoTerm := ok_i_NoTerm (P := P) (w := w) (base := base) T
  have G_i_NoText := ok_i_NoText (P := P) (w := w) (base := base) T
  have G_i_NoClaim := ok_i_NoClaim (P := P) (w := w) (base := base) T
  have G_lis_one_of := ok_lis_one_of (P := P) (w := w) (base := base) T
  refine Gd.ok T.F_lvalues_right sc_lvalues_right (fun vs H Q E h => ?_) (fun cdv A out s H vs Q E hg hr h => ?_)
  · obtain ⟨v1, v2, d1, d2, rfl, _⟩ := h
    rfl
  · obtain ⟨v1, v2, d1, d2, rfl, f1, f2, k⟩ := h
    have nd := sc_lvalues_right.nd
    have hu := hr.units
    have h200 : (A.deeper (envOfC "_law_values_right" (defScope s_lvalues_right) s.heap.objs.size T.f_lvalues_right cdv)).units + 200 < cLine := by have := hr.un; omega
    have hr_i_NoBook := hr
    have hr_i_NoTerm := hr
    have hr_i_NoText := hr
    have hr_i_NoClaim := hr
    have hr_i := hr
    have hr_lis_one_of := hr.mono (show 1 ≤ 2 by decide)
    refine ⟨_, (pss_cons (ps_set (i := 2) nd rfl (by first | exact Or.inl rfl | exact Or.inr rfl) (pe_lst (pa_cons (pe_mkE base_ValueError T.e_NoBook T.i_NoBook T.t_NoBook G_i_NoBook hg hr_i T.b_i_NoBook pass0 rfl T.m_NoBook (pa_cons (pv 0) pa_nil)) (pa_cons (pe_mkE base_ValueError T.e_NoTerm T.i_NoTerm T.t_NoTerm G_i_NoTerm hg hr_i T.b_i_NoTerm pass0 rfl T.m_NoTerm (pa_cons (pv 0) (pa_cons (pv 1) pa_nil))) (pa_cons (pe_mkE base_ValueError T.e_NoText T.i_NoText T.t_NoText G_i_NoText hg hr_i T.b_i_NoText pass0 rfl T.m_NoText (pa_cons (pv 0) pa_nil)) (pa_cons (pe_mkE base_ValueError T.e_NoClaim T.i_NoClaim T.t_NoClaim G_i_NoClaim hg hr_i T.b_i_NoClaim pass0 rfl T.m_NoClaim (pa_cons (pv 0) pa_nil)) pa_nil))))))
  (pss_cons (ps_if (pt_not (pt_val (pe_callB (cr_all rfl) rfl T.z_all (by decide +kernel) (pa_cons (pe_lc (own := [("error", 4)]) rfl nd (pi_list (pv 2)) (blkOk_by (N := ["one", "other", "faults", "fields", "error"]) (sc := defScope s_lvalues_right) (by decide +kernel)) (fun _ _ _ _ _ => pg_name (i := 4) nd rfl (by first | exact Or.inl rfl | exact Or.inr rfl)) (fun _ _ _ _ _ => pts_nil) (fun _ _ _ _ _ => (pe_and (pe_callB (call_isXK (K := K) rfl) rfl T.z_isinstance (by decide +kernel) (pa_cons (pv 4) (pa_cons (pe_bltn (v := .ty "ValueError") rfl T.z_ValueError boot_ValueError rfl) pa_nil))) (pe_one (pe_cmpR op_eq (pe_g T.c_lis_one_of G_lis_one_of hg hr_lis_one_of rfl pass0 (pa_cons (pv 4) pa_nil)) pe_int (nomark _)))))) pa_nil)))) (pss_one (ps_ret pe_bl)) pss_nil)
  (pss_cons (ps_set (i := 3) nd rfl (by first | exact Or.inl rfl | exact Or.inr rfl) (pe_lst (pa_cons (pe_fldE (pe_ix ix_list (pv 2) pe_int (fun _ _ => rfl))) (pa_cons (pe_fldE (pe_ix ix_list (pv 2) pe_int (fun _ _ => rfl))) (pa_cons (pe_fldE (pe_ix ix_list (pv 2) pe_int (fun _ _ => rfl))) (pa_cons (pe_fldE (pe_ix ix_list (pv 2) pe_int (fun _ _ => rfl))) pa_nil))))))
  (pss_one (ps_ret (pe_and (pe_cmpR op_eq (pe_callB (call_repr hg h200) rfl T.z_repr (by decide +kernel) (pa_cons (pv 3) pa_nil)) (pe_callB (call_repr hg h200) rfl T.z_repr (by decide +kernel) (pa_cons (pe_op op_rep (pe_lst (pa_cons (pv 0) pa_nil)) pe_int) pa_nil)) (nomark _)) (pe_one (pe_cmpR op_eq (pe_callB (call_repr hg h200) rfl T.z_repr (by decide +kernel) (pa_cons (pe_fldE (pe_ix ix_list (pv 2) pe_int (fun _ _ => rfl))) pa_nil)) (pe_callB (call_repr hg h200) rfl T.z_repr (by decide +kernel) (pa_cons (pv 1) pa_nil)) (nomark _))))))))), ?_⟩
    walk_at "rd"
    refine r_mk1 rfl fun a1 H1 n1 u1 e1 => ?_
    walk_at "rd"
    refine r_mk2 rfl rfl fun a2 H2 n2 u2 e2 => ?_
    walk_at "rd"
    refine r_mk1 rfl fun a3 H3 n3 u3 e3 => ?_
    walk_at "rd"
    refine r_mk1 rfl fun a4 H4 n4 u4 e4 => ?_
    walk_at "rd"
    rename_i l5 H5 n5 u5 g5
    have x1 := e1.up (u2.tr (u3.tr (u4.tr u5)))
    have x2 := e2.up (u3.tr (u4.tr u5))
    have x3 := e3.up (u4.tr u5)
    have x4 := e4.up u5
    have hall : ∀ (i : Nat) (x : V), [V.ref a1, .ref a2, .ref a3, .ref a4][i]? = some x → ∃ a C fs, x = .ref a ∧ C ∈ clsL T ∧ ExcC K C ∧ ErrF H5 a C fs ∧ PySem.W.kitOne K (.ref C) (.type "ValueError") = some true := by
      intro i x hx
      rcases i with _ | _ | _ | _ | i
      · cases hx
        exact ⟨a1, T.k_NoBook, _, rfl, by simp [clsL], T.e_NoBook.xc, x1, kitB_ok T.kbt (by simp)⟩
      · cases hx
        exact ⟨a2, T.k_NoTerm, _, rfl, by simp [clsL], T.e_NoTerm.xc, x2, kitB_ok T.kbt (by simp)⟩
      · cases hx
        exact ⟨a3, T.k_NoText, _, rfl, by simp [clsL], T.e_NoText.xc, x3, kitB_ok T.kbt (by simp)⟩
      · cases hx
        exact ⟨a4, T.k_NoClaim, _, rfl, by simp [clsL], T.e_NoClaim.xc, x4, kitB_ok T.kbt (by simp)⟩
      · simp at hx
    refine lc_L g5 (by simp) (fun D i acc H6 => acc = List.replicate i (V.bl true) ∧ Up H5 H6) (fun D H6 n6 u6 g6 => ⟨rfl, u6⟩) (fun D i acc H6 r => r.2 _ _ g5) ?_ ?_
    · rintro D i x acc H6 nD hx ⟨rfl, u6⟩ hacc hi hD
      obtain ⟨a, C, fs, rfl, hC, hT, he, hk⟩ := hall i x hx
      walk_at "rd"
      refine r_isB1 hT (he.up u6).v hk ?_
      refine ⟨true, rfl, ?_⟩
      rw [if_pos rfl]
      walk_at "rd"
      refine ⟨a, C, rfl, hC, hT, (he.up u6).v, fun H7 u7 => ?_⟩
      walk_at "rd"
      refine LcE.of (u7 _ _ hD) hacc hi fun H8 m8 g8 => ⟨?_, (u6.tr u7).of nD m8⟩
      rw [List.replicate_succ']
      rfl
    · rintro D acc H6 nD ⟨rfl, u6⟩ hD
      walk_at "rd"
      refine r_all (bs := [true, true, true, true]) hD ?_
      walk_at "rd"
      refine ifF rfl ?_
      have y1 := x1.up u6
      have y2 := x2.up u6
      have y3 := x3.up u6
      have y4 := x4.up u6
      have g6 := u6 _ _ g5
      walk_at "rd"
      refine r_fldL rfl g6 (atI_nat (j := 0) rfl) T.e_NoBook.xf T.n_NoBook_position y1 rfl ?_
      walk_at "rd"
      refine r_fldL rfl g6 (atI_nat (j := 1) rfl) T.e_NoTerm.xf T.n_NoTerm_number y2 (v := v1) rfl ?_
      walk_at "rd"
      refine r_fldL rfl g6 (atI_nat (j := 2) rfl) T.e_NoText.xf T.n_NoText_text y3 rfl ?_
      walk_at "rd"
      refine r_fldL rfl g6 (atI_nat (j := 3) rfl) T.e_NoClaim.xf T.n_NoClaim_claim y4 rfl ?_
      walk_at "rd"
      rename_i l7 H7 n7 u7 g7
      have f17 := f1.up (u1.tr (u2.tr (u3.tr (u4.tr (u5.tr (u6.tr u7))))))
      refine r_reprFs (d := d1) g7 (by intro x hx; simp only [List.mem_cons, List.not_mem_nil, or_false, or_self] at hx; rw [hx]; exact f17.1) f17.2 (by simp) ?_
      walk_at "rd"
      rename_i l8 H8 n8 u8 g8
      refine r_rep1 (n := 4) g8 (by decide) fun l9 H9 n9 u9 g9 => ?_
      have f19 := f17.up (u8.tr u9)
      walk_at "rd"
      refine r_reprFs (d := d1) g9 (by intro x hx; rw [List.eq_of_mem_replicate hx]; exact f19.1) f19.2 (by simp) ?_
      walk_at "rd"
      refine ifT (by simp) ?_
      have f29 := f2.up (u1.tr (u2.tr (u3.tr (u4.tr (u5.tr (u6.tr (u7.tr (u8.tr u9))))))))
      walk_at "rd"
      refine r_fldL rfl ((u7.tr (u8.tr u9)) _ _ g6) (atI_nat (j := 1) rfl) T.e_NoTerm.xf T.n_NoTerm_reason (y2.up (u7.tr (u8.tr u9))) (v := v2) rfl ?_
      walk_at "rd"
      refine r_reprF f29 ?_
      walk_at "rd"
      refine r_reprF f29 ?_
      walk_at "rd"
      rw [decide_eq_true rfl]
      exact k _ (u1.tr (u2.tr (u3.tr (u4.tr (u5.tr (u6.tr (u7.tr (u8.tr u9))))))))
end

section
variable {P : Program} {w : World} {K : PySem.W.Frag} {mg : Str → Option Value} {base : Heap}
theorem boot_ZeroDivisionError : bootBuiltins (Str.ofString "ZeroDivisionError") = some (.type "ZeroDivisionError") := by decide +kernel
theorem ok_lothers_right (T : TX K mg) : FG P w K mg base CX0 3 T.f_lothers_right T.d_lothers_right ["one", "other"] sp_lright := by
  have G_i_NoName := ok_i_NoName (P := P) (w := w) (base := base) T
  have G_i_NoArgument := ok_i_NoArgument (P := P) (w := w) (base := base) T
  have G_i_WrongCount := ok_i_WrongCount (P := P) (w := w) (base := base) T
  have G_i_TooLarge := ok_i_TooLarge (P := P) (w := w) (base := base) T
  have G_i_OtherShape := ok_i_OtherShape (P := P) (w := w) (base := base) T
  have G_i_NoChange := ok_i_NoChange (P := P) (w := w) (base := base) T
  have G_i_NoCommand := ok_i_NoCommand (P := P) (w := w) (base := base) T
  have G_i_NothingToUndo := ok_i_NothingToUndo (P := P) (w := w) (base := base) T
  have G_lis_one_of := ok_lis_one_of (P := P) (w := w) (base := base) T
  refine Gd.ok T.F_lothers_right sc_lothers_right (fun vs H Q E h => ?_) (fun cdv A out s H vs Q E hg hr h => ?_)
  · obtain ⟨v1, v2, d1, d2, rfl, _⟩ := h
    rfl
  · obtain ⟨v1, v2, d1, d2, rfl, f1, f2, k⟩ := h
    have nd := sc_lothers_right.nd
    have hu := hr.units
    have h200 : (A.deeper (envOfC "_law_others_right" (defScope s_lothers_right) s.heap.objs.size T.f_lothers_right cdv)).units + 200 < cLine := by have := hr.un; omega
    have hr_i := hr
    have hr_lis_one_of := hr.mono (show 1 ≤ 2 by decide)
    refine ⟨_, (pss_cons (ps_par3 (i := 5) (j := 6) (l := 7) rfl nd rfl rfl rfl (by decide) (by decide) (by decide) rfl rfl rfl (pa_cons (pe_mkE base_KeyError T.e_NoName T.i_NoName T.t_NoName G_i_NoName hg hr_i T.b_i_NoName pass0 rfl T.m_NoName (pa_cons (pv 0) pa_nil)) (pa_cons (pe_mkE base_LookupError T.e_NoArgument T.i_NoArgument T.t_NoArgument G_i_NoArgument hg hr_i T.b_i_NoArgument pass0 rfl T.m_NoArgument (pa_cons (pv 0) (pa_cons (pv 1) pa_nil))) (pa_cons (pe_mkE base_IndexError T.e_WrongCount T.i_WrongCount T.t_WrongCount G_i_WrongCount hg hr_i T.b_i_WrongCount pass0 rfl T.m_WrongCount (pa_cons (pv 0) (pa_cons (pv 1) pa_nil))) pa_nil))) rfl)
  (pss_cons (ps_par3 (i := 8) (j := 9) (l := 10) rfl nd rfl rfl rfl (by decide) (by decide) (by decide) rfl rfl rfl (pa_cons (pe_mkE base_OverflowError T.e_TooLarge T.i_TooLarge T.t_TooLarge G_i_TooLarge hg hr_i T.b_i_TooLarge pass0 rfl T.m_TooLarge (pa_cons (pv 0) pa_nil)) (pa_cons (pe_mkE base_ArithmeticError T.e_OtherShape T.i_OtherShape T.t_OtherShape G_i_OtherShape hg hr_i T.b_i_OtherShape pass0 rfl T.m_OtherShape (pa_cons (pv 0) (pa_cons (pv 1) pa_nil))) (pa_cons (pe_mkE base_RuntimeError T.e_NoChange T.i_NoChange T.t_NoChange G_i_NoChange hg hr_i T.b_i_NoChange pass0 rfl T.m_NoChange (pa_cons (pv 0) pa_nil)) pa_nil))) rfl)
  (pss_cons (ps_set (i := 2) nd rfl (by first | exact Or.inl rfl | exact Or.inr rfl) (pe_lst (pa_cons (pv 5) (pa_cons (pv 6) (pa_cons (pv 7) (pa_cons (pv 8) (pa_cons (pv 9) (pa_cons (pv 10) (pa_cons (pe_mkE0 base_TypeError T.e_NoCommand T.i_NoCommand T.t_NoCommand G_i_NoCommand hg hr_i T.b_i_NoCommand pass0 rfl T.m_NoCommand) (pa_cons (pe_mkE0 base_RuntimeError T.e_NothingToUndo T.i_NothingToUndo T.t_NothingToUndo G_i_NothingToUndo hg hr_i T.b_i_NothingToUndo pass0 rfl T.m_NothingToUndo) pa_nil))))))))))
  (pss_cons (ps_if (pt_not (pt_val (pe_callB (cr_all rfl) rfl T.z_all (by decide +kernel) (pa_cons (pe_lc (own := [("error", 11)]) rfl nd (pi_list (pv 2)) (blkOk_by (N := ["one", "other", "faults", "fields", "under", "name", "argument", "count", "large", "shape", "change", "error"]) (sc := defScope s_lothers_right) (by decide +kernel)) (fun _ _ _ _ _ => pg_name (i := 11) nd rfl (by first | exact Or.inl rfl | exact Or.inr rfl)) (fun _ _ _ _ _ => pts_nil) (fun _ _ _ _ _ => (pe_cmpR op_eq (pe_g T.c_lis_one_of G_lis_one_of hg hr_lis_one_of rfl pass0 (pa_cons (pv 11) pa_nil)) pe_int (nomark _)))) pa_nil)))) (pss_one (ps_ret pe_bl)) pss_nil)
  (pss_cons (ps_set (i := 3) nd rfl (by first | exact Or.inl rfl | exact Or.inr rfl) (pe_lst (pa_cons (pe_fldE (pv 5)) (pa_cons (pe_fldE (pv 6)) (pa_cons (pe_fldE (pv 7)) (pa_cons (pe_fldE (pv 8)) (pa_cons (pe_fldE (pv 9)) (pa_cons (pe_fldE (pv 10)) pa_nil))))))))
  (pss_cons (ps_if (PW.pt (pw_or (pt_cmpR op_ne (pe_callB (call_repr hg h200) rfl T.z_repr (by decide +kernel) (pa_cons (pv 3) pa_nil)) (pe_callB (call_repr hg h200) rfl T.z_repr (by decide +kernel) (pa_cons (pe_op op_rep (pe_lst (pa_cons (pv 0) pa_nil)) pe_int) pa_nil)) (nomark _)) (pw_or1 (pt_cmpR op_ne (pe_callB (call_repr hg h200) rfl T.z_repr (by decide +kernel) (pa_cons (pe_lst (pa_cons (pe_fldE (pv 6)) (pa_cons (pe_fldE (pv 7)) (pa_cons (pe_fldE (pv 9)) pa_nil)))) pa_nil)) (pe_callB (call_repr hg h200) rfl T.z_repr (by decide +kernel) (pa_cons (pe_op op_rep (pe_lst (pa_cons (pv 1) pa_nil)) pe_int) pa_nil)) (nomark _))))) (pss_one (ps_ret pe_bl)) pss_nil)
  (pss_cons (ps_set (i := 4) nd rfl (by first | exact Or.inl rfl | exact Or.inr rfl) (pe_lst (pa_cons (pe_callB call_isX rfl T.z_isinstance (by decide +kernel) (pa_cons (pv 5) (pa_cons (pe_bltn (v := .ty "KeyError") rfl T.z_KeyError boot_KeyError rfl) pa_nil))) (pa_cons (pe_callB call_isX rfl T.z_isinstance (by decide +kernel) (pa_cons (pv 6) (pa_cons (pe_bltn (v := .ty "LookupError") rfl T.z_LookupError boot_LookupError rfl) pa_nil))) (pa_cons (pe_callB call_isX rfl T.z_isinstance (by decide +kernel) (pa_cons (pv 7) (pa_cons (pe_bltn (v := .ty "IndexError") rfl T.z_IndexError boot_IndexError rfl) pa_nil))) pa_nil)))))
  (pss_cons (ps_set (i := 4) nd rfl (by first | exact Or.inl rfl | exact Or.inr rfl) (pe_op op_cat (pv 4) (pe_lst (pa_cons (pe_callB call_isX rfl T.z_isinstance (by decide +kernel) (pa_cons (pv 8) (pa_cons (pe_bltn (v := .ty "OverflowError") rfl T.z_OverflowError boot_OverflowError rfl) pa_nil))) (pa_cons (pe_callB call_isX rfl T.z_isinstance (by decide +kernel) (pa_cons (pv 9) (pa_cons (pe_bltn (v := .ty "ArithmeticError") rfl T.z_ArithmeticError boot_ArithmeticError rfl) pa_nil))) pa_nil)))))
  (pss_cons (ps_set (i := 4) nd rfl (by first | exact Or.inl rfl | exact Or.inr rfl) (pe_op op_cat (pv 4) (pe_lst (pa_cons (pe_callB call_isX rfl T.z_isinstance (by decide +kernel) (pa_cons (pv 10) (pa_cons (pe_bltn (v := .ty "RuntimeError") rfl T.z_RuntimeError boot_RuntimeError rfl) pa_nil))) (pa_cons (pe_callB call_isX rfl T.z_isinstance (by decide +kernel) (pa_cons (pe_mkE0 base_TypeError T.e_NoCommand T.i_NoCommand T.t_NoCommand G_i_NoCommand hg hr_i T.b_i_NoCommand pass0 rfl T.m_NoCommand) (pa_cons (pe_bltn (v := .ty "TypeError") rfl T.z_TypeError boot_TypeError rfl) pa_nil))) pa_nil)))))
  (pss_cons (ps_if (PW.pt (pw_or (pt_val (pe_callB call_isXT rfl T.z_isinstance (by decide +kernel) (pa_cons (pv 6) (pa_cons (pe_tup (pa_cons (pe_bltn (v := .ty "KeyError") rfl T.z_KeyError boot_KeyError rfl) (pa_cons (pe_bltn (v := .ty "IndexError") rfl T.z_IndexError boot_IndexError rfl) pa_nil))) pa_nil)))) (pw_or1 (pt_val (pe_callB call_isXT rfl T.z_isinstance (by decide +kernel) (pa_cons (pv 9) (pa_cons (pe_tup (pa_cons (pe_bltn (v := .ty "OverflowError") rfl T.z_OverflowError boot_OverflowError rfl) (pa_cons (pe_bltn (v := .ty "ZeroDivisionError") rfl T.z_ZeroDivisionError boot_ZeroDivisionError rfl) pa_nil))) pa_nil))))))) (pss_one (ps_ret pe_bl)) pss_nil)
  (pss_one (ps_ret (pe_and (pe_callB (cr_all rfl) rfl T.z_all (by decide +kernel) (pa_cons (pv 4) pa_nil)) (pe_one (pe_callB call_isX rfl T.z_isinstance (by decide +kernel) (pa_cons (pe_mkE0 base_RuntimeError T.e_NothingToUndo T.i_NothingToUndo T.t_NothingToUndo G_i_NothingToUndo hg hr_i T.b_i_NothingToUndo pass0 rfl T.m_NothingToUndo) (pa_cons (pe_bltn (v := .ty "RuntimeError") rfl T.z_RuntimeError boot_RuntimeError rfl) pa_nil))))))))))))))))), ?_⟩
    walk_at "rd"
    refine r_par3 ?_
    walk_at "rd"
    refine r_mk1 rfl fun a1 H1 n1 u1 e1 => ?_
    walk_at "rd"
    refine r_mk2 rfl rfl fun a2 H2 n2 u2 e2 => ?_
    walk_at "rd"
    refine r_mk2 rfl rfl fun a3 H3 n3 u3 e3 => ?_
    walk_at "rd"
    refine r_3 ?_
    walk_at "rd"
    refine r_par3 ?_
    walk_at "rd"
    refine r_mk1 rfl fun a5 H5 n5 u5 e5 => ?_
    walk_at "rd"
    refine r_mk2 rfl rfl fun a6 H6 n6 u6 e6 => ?_
    walk_at "rd"
    refine r_mk1 rfl fun a7 H7 n7 u7 e7 => ?_
    walk_at "rd"
    refine r_3 ?_
    walk_at "rd"
    refine r_mk0 fun a9 H9 n9 u9 e9 => ?_
    walk_at "rd"
    refine r_mk0 fun a10 H10 n10 u10 e10 => ?_
    walk_at "rd"
    rename_i l11 H11 n11 u11 g11
    have x1 := e1.up (u2.tr (u3.tr (u5.tr (u6.tr (u7.tr (u9.tr (u10.tr u11)))))))
    have x2 := e2.up (u3.tr (u5.tr (u6.tr (u7.tr (u9.tr (u10.tr u11))))))
    have x3 := e3.up (u5.tr (u6.tr (u7.tr (u9.tr (u10.tr u11)))))
    have x5 := e5.up (u6.tr (u7.tr (u9.tr (u10.tr u11))))
    have x6 := e6.up (u7.tr (u9.tr (u10.tr u11)))
    have x7 := e7.up (u9.tr (u10.tr u11))
    have x9 := ErrV.up e9 (u10.tr u11)
    have x10 := ErrV.up e10 u11
    have hall : ∀ (i : Nat) (x : V), [V.ref a1, .ref a2, .ref a3, .ref a5, .ref a6, .ref a7, .ref a9, .ref a10][i]? = some x → ∃ a C, x = .ref a ∧ C ∈ clsL T ∧ ExcC K C ∧ ErrV H11 a C := by
      intro i x hx
      rcases i with _ | _ | _ | _ | _ | _ | _ | _ | i
      · cases hx
        exact ⟨a1, T.k_NoName, rfl, by simp [clsL], T.e_NoName.xc, x1.v⟩
      · cases hx
        exact ⟨a2, T.k_NoArgument, rfl, by simp [clsL], T.e_NoArgument.xc, x2.v⟩
      · cases hx
        exact ⟨a3, T.k_WrongCount, rfl, by simp [clsL], T.e_WrongCount.xc, x3.v⟩
      · cases hx
        exact ⟨a5, T.k_TooLarge, rfl, by simp [clsL], T.e_TooLarge.xc, x5.v⟩
      · cases hx
        exact ⟨a6, T.k_OtherShape, rfl, by simp [clsL], T.e_OtherShape.xc, x6.v⟩
      · cases hx
        exact ⟨a7, T.k_NoChange, rfl, by simp [clsL], T.e_NoChange.xc, x7.v⟩
      · cases hx
        exact ⟨a9, T.k_NoCommand, rfl, by simp [clsL], T.e_NoCommand.xc, x9⟩
      · cases hx
        exact ⟨a10, T.k_NothingToUndo, rfl, by simp [clsL], T.e_NothingToUndo.xc, x10⟩
      · simp at hx
    refine lc_L g11 (by simp) (fun D i acc H12 => acc = List.replicate i (V.bl true) ∧ Up H11 H12) (fun D H12 n12 u12 g12 => ⟨rfl, u12⟩) (fun D i acc H12 r => r.2 _ _ g11) ?_ ?_
    · rintro D i x acc H12 nD hx ⟨rfl, u12⟩ hacc hi hD
      obtain ⟨a, C, rfl, hC, hT, he⟩ := hall i x hx
      walk_at "rd"
      refine ⟨a, C, rfl, hC, hT, he.up u12, fun H13 u13 => ?_⟩
      walk_at "rd"
      refine LcE.of (u13 _ _ hD) hacc hi fun H14 m14 g14 => ⟨?_, (u12.tr u13).of nD m14⟩
      rw [List.replicate_succ']
      rfl
    · rintro D acc H12 nD ⟨rfl, u12⟩ hD
      walk_at "rd"
      refine r_all (bs := [true, true, true, true, true, true, true, true]) hD ?_
      walk_at "rd"
      refine ifF rfl ?_
      have y1 := x1.up u12
      have y2 := x2.up u12
      have y3 := x3.up u12
      have y5 := x5.up u12
      have y6 := x6.up u12
      have y7 := x7.up u12
      have u012 : Up H H12 := u1.tr (u2.tr (u3.tr (u5.tr (u6.tr (u7.tr (u9.tr (u10.tr (u11.tr u12))))))))
      have f112 := f1.up u012
      have f212 := f2.up u012
      walk_at "rd"
      refine r_fldV rfl T.e_NoName.xf T.n_NoName_name y1 (v := v1) rfl ?_
      walk_at "rd"
      refine r_fldV rfl T.e_NoArgument.xf T.n_NoArgument_position y2 (v := v1) rfl ?_
      walk_at "rd"
      refine r_fldV rfl T.e_WrongCount.xf T.n_WrongCount_given y3 (v := v1) rfl ?_
      walk_at "rd"
      refine r_fldV rfl T.e_TooLarge.xf T.n_TooLarge_limit y5 (v := v1) rfl ?_
      walk_at "rd"
      refine r_fldV rfl T.e_OtherShape.xf T.n_OtherShape_one y6 (v := v1) rfl ?_
      walk_at "rd"
      refine r_fldV rfl T.e_NoChange.xf T.n_NoChange_name y7 (v := v1) rfl ?_
      walk_at "rd"
      rename_i l13 H13 n13 u13 g13
      have f113 := f112.up u13
      refine r_reprFs (d := d1) g13 (by intro x hx; simp only [List.mem_cons, List.not_mem_nil, or_false, or_self] at hx; rw [hx]; exact f113.1) f113.2 (by simp) ?_
      walk_at "rd"
      rename_i l14 H14 n14 u14 g14
      refine r_rep1 (n := 6) g14 (by decide) fun l15 H15 n15 u15 g15 => ?_
      have f115 := f113.up (u14.tr u15)
      walk_at "rd"
      refine r_reprFs (d := d1) g15 (by intro x hx; rw [List.eq_of_mem_replicate hx]; exact f115.1) f115.2 (by simp) ?_
      walk_at "rd"
      refine ifF (by simp) ?_
      walk_at "rd"
      refine r_fldV rfl T.e_NoArgument.xf T.n_NoArgument_reason (y2.up (u13.tr (u14.tr u15))) (v := v2) rfl ?_
      walk_at "rd"
      refine r_fldV rfl T.e_WrongCount.xf T.n_WrongCount_needed (y3.up (u13.tr (u14.tr u15))) (v := v2) rfl ?_
      walk_at "rd"
      refine r_fldV rfl T.e_OtherShape.xf T.n_OtherShape_other (y6.up (u13.tr (u14.tr u15))) (v := v2) rfl ?_
      walk_at "rd"
      rename_i l16 H16 n16 u16 g16
      have f216 := f212.up (u13.tr (u14.tr (u15.tr u16)))
      refine r_reprFs (d := d2) g16 (by intro x hx; simp only [List.mem_cons, List.not_mem_nil, or_false, or_self] at hx; rw [hx]; exact f216.1) f216.2 (by simp) ?_
      walk_at "rd"
      rename_i l17 H17 n17 u17 g17
      refine r_rep1 (n := 3) g17 (by decide) fun l18 H18 n18 u18 g18 => ?_
      have f218 := f216.up (u17.tr u18)
      walk_at "rd"
      refine r_reprFs (d := d2) g18 (by intro x hx; rw [List.eq_of_mem_replicate hx]; exact f218.1) f218.2 (by simp) ?_
      walk_at "rd"
      refine ifF (by simp) ?_
      have uA := u12.tr (u13.tr (u14.tr (u15.tr (u16.tr (u17.tr u18)))))
      have z1 := x1.up uA
      have z2 := x2.up uA
      have z3 := x3.up uA
      have z5 := x5.up uA
      have z6 := x6.up uA
      have z7 := x7.up uA
      walk_at "rd"
      refine r_isB1 T.e_NoName.xc z1.v (kitB_ok (b := true) T.kbt (by simp)) ?_
      walk_at "rd"
      refine r_isB1 T.e_NoArgument.xc z2.v (kitB_ok (b := true) T.kbt (by simp)) ?_
      walk_at "rd"
      refine r_isB1 T.e_WrongCount.xc z3.v (kitB_ok (b := true) T.kbt (by simp)) ?_
      walk_at "rd"
      rename_i l19 H19 n19 u19 g19
      refine r_isB1 T.e_TooLarge.xc (z5.up u19).v (kitB_ok (b := true) T.kbt (by simp)) ?_
      walk_at "rd"
      refine r_isB1 T.e_OtherShape.xc (z6.up u19).v (kitB_ok (b := true) T.kbt (by simp)) ?_
      walk_at "rd"
      rename_i l20 H20 n20 u20 g20
      refine r_catL (u20 _ _ g19) g20 (by decide) fun l21 H21 n21 u21 g21 => ?_
      walk_at "rd"
      refine r_isB1 T.e_NoChange.xc (z7.up (u19.tr (u20.tr u21))).v (kitB_ok (b := true) T.kbt (by simp)) ?_
      walk_at "rd"
      refine r_mk0 fun a22 H22 n22 u22 e22 => ?_
      walk_at "rd"
      refine r_isB1 T.e_NoCommand.xc e22 (kitB_ok (b := true) T.kbt (by simp)) ?_
      walk_at "rd"
      rename_i l23 H23 n23 u23 g23
      refine r_catL ((u22.tr u23) _ _ g21) g23 (by decide) fun l24 H24 n24 u24 g24 => ?_
      walk_at "rd"
      rename_i p25 H25 n25 u25 g25
      have uB := u19.tr (u20.tr (u21.tr (u22.tr (u23.tr (u24.tr u25)))))
      refine r_isBT T.e_NoArgument.xc (z2.up uB).v g25 (kitB_ok T.kbt (by simp)) (kitB_ok T.kbt (by simp)) ?_
      walk_at "rd"
      walk_at "rd"
      rename_i p26 H26 n26 u26 g26
      refine r_isBT T.e_OtherShape.xc (z6.up (uB.tr u26)).v g26 (kitB_ok T.kbt (by simp)) (kitB_ok T.kbt (by simp)) ?_
      walk_at "rd"
      refine r_all (bs := [true, true, true, true, true, true, true]) ((u25.tr u26) _ _ g24) ?_
      walk_at "rd"
      refine ifT rfl ?_
      walk_at "rd"
      refine r_mk0 fun a27 H27 n27 u27 e27 => ?_
      walk_at "rd"
      refine r_isB1 T.e_NothingToUndo.xc e27 (kitB_ok (b := true) T.kbt (by simp)) ?_
      walk_at "rd"
      exact k _ (u012.tr (u13.tr (u14.tr (u15.tr (u16.tr (u17.tr (u18.tr (uB.tr (u26.tr u27)))))))))
end

section
variable {P : Program} {w : World} {K : PySem.W.Frag} {mg : Str → Option Value} {base : Heap}
def sp_law (K : PySem.W.Frag) : Sp := fun vs H Q _ => ∃ (a : Addr) (ns : List Int), vs = [.ref a] ∧ SqL K H a (ns.map V.int) ∧ ns.length ≤ 63 ∧ ∀ H', Q (.bl true) H'
theorem law_ask (K : PySem.W.Frag) (H : Hp) (a : Addr) (ns : List Int) (hl : ns.length ≤ 63) (ho : Only H) (hs : SqL K H a (ns.map V.int)) : sp_law K [.ref a] H (fun v _ => v = .bl true) fun _ _ _ => False := ⟨a, ns, rfl, hs, hl, fun _ => rfl⟩
def lawK : Nat := 64
theorem ok_law (T : TX K mg) : FG P w K mg base CX0 lawK T.f_law T.d_law ["script"] (sp_law K) := by
  have G_lbag := ok_lbag (P := P) (w := w) (base := base) T
  have G_lvalue := ok_lvalue (P := P) (w := w) (base := base) T
  have G_lvalues_right := ok_lvalues_right (P := P) (w := w) (base := base) T
  have G_lothers_right := ok_lothers_right (P := P) (w := w) (base := base) T
  refine Gd.ok T.F_law sc_law (fun vs H Q E h => ?_) (fun cdv A out s H vs Q E hg hr h => ?_)
  · obtain ⟨a, ns, rfl, _⟩ := h
    rfl
  · obtain ⟨a, ns, rfl, ha, hn, k⟩ := h
    have nd := sc_law.nd
    have hr_lbag := hr.mono (show 1 ≤ 63 by decide)
    have hr_lvalue := hr.mono (show 2 ≤ 63 by decide)
    have hr_lvalues_right := hr.mono (show 3 ≤ 63 by decide)
    have hr_lothers_right := hr.mono (show 3 ≤ 63 by decide)
    refine ⟨_, (pss_cons (ps_for PassesOwn.never rfl (pi_range1 rfl T.z_range (pa_cons (pe_callB (call_max2 rfl) rfl T.z_max (by decide +kernel) (pa_cons pe_int (pa_cons (pe_callB (call_min2 rfl) rfl T.z_min (by decide +kernel) (pa_cons pe_int (pa_cons (pe_callB call_len_seq rfl T.z_len PySem.boot_len (pa_cons (pv 0) pa_nil)) pa_nil))) pa_nil))) pa_nil)) (pg_name (i := 1) nd rfl (by first | exact Or.inl rfl | exact Or.inr rfl)) (pss_cons (ps_set (i := 2) nd rfl (by first | exact Or.inl rfl | exact Or.inr rfl) (pe_g T.c_lbag G_lbag hg hr_lbag rfl pass0 (pa_cons (pv 0) (pa_cons (pv 1) pa_nil))))
  (pss_one (ps_for PassesOwn.never rfl (pi_range1 rfl T.z_range (pa_cons pe_int pa_nil)) (pg_name (i := 3) nd rfl (by first | exact Or.inl rfl | exact Or.inr rfl)) (pss_cons (ps_par (i := 4) (j := 5) rfl nd rfl rfl (by decide) rfl rfl (pa_cons (pe_g T.c_lvalue G_lvalue hg hr_lvalue rfl pass0 (pa_cons (pv 2) pa_nil)) (pa_cons (pe_g T.c_lvalue G_lvalue hg hr_lvalue rfl pass0 (pa_cons (pv 2) pa_nil)) pa_nil)) rfl)
  (pss_one (ps_if (PW.pt (pw_or (pt_not (pt_val (pe_g T.c_lvalues_right G_lvalues_right hg hr_lvalues_right rfl pass0 (pa_cons (pv 4) (pa_cons (pv 5) pa_nil))))) (pw_or1 (pt_not (pt_val (pe_g T.c_lothers_right G_lothers_right hg hr_lothers_right rfl pass0 (pa_cons (pv 4) (pa_cons (pv 5) pa_nil)))))))) (pss_one (ps_ret pe_bl)) pss_nil)))))))
  (pss_one (ps_ret pe_bl))), ?_⟩
    walk_at "rd"
    refine ⟨a, _, rfl, Or.inl ha, ?_⟩
    walk_at "rd"
    generalize ((List.map V.int ns).length : Int) = L
    generalize hj : (if (if L < 2 then L else 2) > 1 then (if L < 2 then L else 2) else 1 : Int) = j
    have hj2 : 0 ≤ j ∧ j ≤ 2 := by
      subst hj
      split <;> split at * <;> omega
    obtain ⟨j0, j2⟩ := hj2
    refine ⟨by omega, by omega, for_range (lo := 0) (n := j.toNat) (fun i σ H1 => ∃ (x1 x2 x3 x4 x5 : Option V), σ = [some (.ref a), x1, x2, x3, x4, x5] ∧ Up H H1) ⟨_, _, _, _, _, rfl, Up.rf⟩ ?_ ?_⟩
    · rintro i σ H1 hi ⟨x1, x2, x3, x4, x5, rfl, u1⟩
      walk_at "rd"
      refine ⟨a, _, ns, rfl, SqLup u1 ha, by omega, by omega, fun b H2 n2 u2 b2 => ?_⟩
      have nb : H b = none := u1.fr n2
      walk_at "rd"
      refine ⟨by decide, by decide, for_range (lo := 0) (n := 10) (fun i' σ H4 => ∃ (x3 x4 x5 : Option V), σ = [some (.ref a), some (.int (0 + i)), some (.ref b), x3, x4, x5] ∧ Mv b H2 H4 ∧ Bag H4 b) ⟨_, _, _, rfl, Mv.rf, b2⟩ ?_ ?_⟩
      · rintro i' σ H4 hi' ⟨x3, x4, x5, rfl, m4, b4⟩
        walk_at "rd"
        refine ⟨b, rfl, b4, fun v1 d1 H5 m5 b5 f5 => ?_⟩
        walk_at "rd"
        refine ⟨b, rfl, b5, fun v2 d2 H6 m6 b6 f6 => ?_⟩
        have f56 := f5 _ m6
        have f66 := f6 _ Mv.rf
        walk_at "rd"
        refine ⟨v1, v2, d1, d2, rfl, f56, f66, fun H7 u7 => ?_⟩
        walk_at "rd"
        refine ifF (by simp) ?_
        walk_at "rd"
        refine ⟨v1, v2, d1, d2, rfl, f56.up u7, f66.up u7, fun H8 u8 => ?_⟩
        walk_at "rd"
        exact ⟨_, _, _, rfl, m4.tr (m5.tr (m6.tr (u7.tr u8).mv)), (b6.up u7).up u8⟩
      · rintro σ H4 ⟨x3, x4, x5, rfl, m4, b4⟩
        walk_at "rd"
        exact ⟨_, _, _, _, _, rfl, (u1.tr u2).of nb m4⟩
    · rintro σ H1 ⟨x1, x2, x3, x4, x5, rfl, u1⟩
      walk_at "rd"
      exact k _
end

theorem all_mk {l : PySem.W.OpenLaw} {w : World} {K : PySem.W.Frag} {h : Heap} {mg : Str → Option Value} {fa f0 f1 f2 f3 f4 f5 f6 f7 f8 f9 f10 f11 f12 f13 f14 f15 f16 f17 f18 : Addr} (X : K.In h) (G : h.Ns mainGlobals mg) (hfa : mg "law" = some (.ref fa))
    {kc0 nc0 : Addr} {bs0 sb0 : List Value} {nm0 qn0 : Str} {sn0 : List Str} {ab0 : Bool} {col0 : Option Bool} {dd0 : Option Addr} {ka0 kb0 kc_0 kd0 ke0 : Option Value}
    (ac0 : PySem.W.nsIn K mainGlobals "NoBook" = some (some (.ref kc0))) (lc0 : K.lookup kc0 = some (excClassObj nm0 qn0 kc0 nc0 bs0 (upTo ["ValueError", "Exception"]) true sn0 sb0 ab0 col0 dd0 ka0 kb0 kc_0 kd0 ke0 "ValueError.__new__"))
    (sc0 : PySem.W.findIn K (.ref kc0) "__setattr__" = some (some (.builtin "object.__setattr__"))) (ov0 : PySem.W.excOver K kc0 (upTo ["ValueError", "Exception"]) = true) (xf0 : L2.xfB K kc0 = true) (xe0 : exB K kc0 = true) (kk0 : PySem.W.keepIn K (.ref kc0) = true)
    (ic0 : PySem.W.findIn K (.ref kc0) "__init__" = some (some (.ref f0))) (tc0 : PySem.W.typeIn K (.ref f0) = some (.type "function"))
    (nf0_position : PySem.W.findIn K (.ref kc0) "position" = some none)
    {kc1 nc1 : Addr} {bs1 sb1 : List Value} {nm1 qn1 : Str} {sn1 : List Str} {ab1 : Bool} {col1 : Option Bool} {dd1 : Option Addr} {ka1 kb1 kc_1 kd1 ke1 : Option Value}
    (ac1 : PySem.W.nsIn K mainGlobals "NoName" = some (some (.ref kc1))) (lc1 : K.lookup kc1 = some (excClassObj nm1 qn1 kc1 nc1 bs1 (upTo ["KeyError", "LookupError", "Exception"]) true sn1 sb1 ab1 col1 dd1 ka1 kb1 kc_1 kd1 ke1 "LookupError.__new__"))
    (sc1 : PySem.W.findIn K (.ref kc1) "__setattr__" = some (some (.builtin "object.__setattr__"))) (ov1 : PySem.W.excOver K kc1 (upTo ["KeyError", "LookupError", "Exception"]) = true) (xf1 : L2.xfB K kc1 = true) (xe1 : exB K kc1 = true) (kk1 : PySem.W.keepIn K (.ref kc1) = true)
    (ic1 : PySem.W.findIn K (.ref kc1) "__init__" = some (some (.ref f1))) (tc1 : PySem.W.typeIn K (.ref f1) = some (.type "function"))
    (nf1_name : PySem.W.findIn K (.ref kc1) "name" = some none)
    {kc2 nc2 : Addr} {bs2 sb2 : List Value} {nm2 qn2 : Str} {sn2 : List Str} {ab2 : Bool} {col2 : Option Bool} {dd2 : Option Addr} {ka2 kb2 kc_2 kd2 ke2 : Option Value}
    (ac2 : PySem.W.nsIn K mainGlobals "NoTerm" = some (some (.ref kc2))) (lc2 : K.lookup kc2 = some (excClassObj nm2 qn2 kc2 nc2 bs2 (upTo ["ValueError", "Exception"]) true sn2 sb2 ab2 col2 dd2 ka2 kb2 kc_2 kd2 ke2 "ValueError.__new__"))
    (sc2 : PySem.W.findIn K (.ref kc2) "__setattr__" = some (some (.builtin "object.__setattr__"))) (ov2 : PySem.W.excOver K kc2 (upTo ["ValueError", "Exception"]) = true) (xf2 : L2.xfB K kc2 = true) (xe2 : exB K kc2 = true) (kk2 : PySem.W.keepIn K (.ref kc2) = true)
    (ic2 : PySem.W.findIn K (.ref kc2) "__init__" = some (some (.ref f2))) (tc2 : PySem.W.typeIn K (.ref f2) = some (.type "function"))
    (nf2_number : PySem.W.findIn K (.ref kc2) "number" = some none)
    (nf2_reason : PySem.W.findIn K (.ref kc2) "reason" = some none)
    {kc3 nc3 : Addr} {bs3 sb3 : List Value} {nm3 qn3 : Str} {sn3 : List Str} {ab3 : Bool} {col3 : Option Bool} {dd3 : Option Addr} {ka3 kb3 kc_3 kd3 ke3 : Option Value}
    (ac3 : PySem.W.nsIn K mainGlobals "NoArgument" = some (some (.ref kc3))) (lc3 : K.lookup kc3 = some (excClassObj nm3 qn3 kc3 nc3 bs3 (upTo ["LookupError", "Exception"]) true sn3 sb3 ab3 col3 dd3 ka3 kb3 kc_3 kd3 ke3 "LookupError.__new__"))
    (sc3 : PySem.W.findIn K (.ref kc3) "__setattr__" = some (some (.builtin "object.__setattr__"))) (ov3 : PySem.W.excOver K kc3 (upTo ["LookupError", "Exception"]) = true) (xf3 : L2.xfB K kc3 = true) (xe3 : exB K kc3 = true) (kk3 : PySem.W.keepIn K (.ref kc3) = true)
    (ic3 : PySem.W.findIn K (.ref kc3) "__init__" = some (some (.ref f3))) (tc3 : PySem.W.typeIn K (.ref f3) = some (.type "function"))
    (nf3_position : PySem.W.findIn K (.ref kc3) "position" = some none)
    (nf3_reason : PySem.W.findIn K (.ref kc3) "reason" = some none)
    {kc4 nc4 : Addr} {bs4 sb4 : List Value} {nm4 qn4 : Str} {sn4 : List Str} {ab4 : Bool} {col4 : Option Bool} {dd4 : Option Addr} {ka4 kb4 kc_4 kd4 ke4 : Option Value}
    (ac4 : PySem.W.nsIn K mainGlobals "WrongCount" = some (some (.ref kc4))) (lc4 : K.lookup kc4 = some (excClassObj nm4 qn4 kc4 nc4 bs4 (upTo ["IndexError", "LookupError", "Exception"]) true sn4 sb4 ab4 col4 dd4 ka4 kb4 kc_4 kd4 ke4 "IndexError.__new__"))
    (sc4 : PySem.W.findIn K (.ref kc4) "__setattr__" = some (some (.builtin "object.__setattr__"))) (ov4 : PySem.W.excOver K kc4 (upTo ["IndexError", "LookupError", "Exception"]) = true) (xf4 : L2.xfB K kc4 = true) (xe4 : exB K kc4 = true) (kk4 : PySem.W.keepIn K (.ref kc4) = true)
    (ic4 : PySem.W.findIn K (.ref kc4) "__init__" = some (some (.ref f4))) (tc4 : PySem.W.typeIn K (.ref f4) = some (.type "function"))
    (nf4_given : PySem.W.findIn K (.ref kc4) "given" = some none)
    (nf4_needed : PySem.W.findIn K (.ref kc4) "needed" = some none)
    {kc5 nc5 : Addr} {bs5 sb5 : List Value} {nm5 qn5 : Str} {sn5 : List Str} {ab5 : Bool} {col5 : Option Bool} {dd5 : Option Addr} {ka5 kb5 kc_5 kd5 ke5 : Option Value}
    (ac5 : PySem.W.nsIn K mainGlobals "TooLarge" = some (some (.ref kc5))) (lc5 : K.lookup kc5 = some (excClassObj nm5 qn5 kc5 nc5 bs5 (upTo ["OverflowError", "ArithmeticError", "Exception"]) true sn5 sb5 ab5 col5 dd5 ka5 kb5 kc_5 kd5 ke5 "OverflowError.__new__"))
    (sc5 : PySem.W.findIn K (.ref kc5) "__setattr__" = some (some (.builtin "object.__setattr__"))) (ov5 : PySem.W.excOver K kc5 (upTo ["OverflowError", "ArithmeticError", "Exception"]) = true) (xf5 : L2.xfB K kc5 = true) (xe5 : exB K kc5 = true) (kk5 : PySem.W.keepIn K (.ref kc5) = true)
    (ic5 : PySem.W.findIn K (.ref kc5) "__init__" = some (some (.ref f5))) (tc5 : PySem.W.typeIn K (.ref f5) = some (.type "function"))
    (nf5_limit : PySem.W.findIn K (.ref kc5) "limit" = some none)
    {kc6 nc6 : Addr} {bs6 sb6 : List Value} {nm6 qn6 : Str} {sn6 : List Str} {ab6 : Bool} {col6 : Option Bool} {dd6 : Option Addr} {ka6 kb6 kc_6 kd6 ke6 : Option Value}
    (ac6 : PySem.W.nsIn K mainGlobals "OtherShape" = some (some (.ref kc6))) (lc6 : K.lookup kc6 = some (excClassObj nm6 qn6 kc6 nc6 bs6 (upTo ["ArithmeticError", "Exception"]) true sn6 sb6 ab6 col6 dd6 ka6 kb6 kc_6 kd6 ke6 "ArithmeticError.__new__"))
    (sc6 : PySem.W.findIn K (.ref kc6) "__setattr__" = some (some (.builtin "object.__setattr__"))) (ov6 : PySem.W.excOver K kc6 (upTo ["ArithmeticError", "Exception"]) = true) (xf6 : L2.xfB K kc6 = true) (xe6 : exB K kc6 = true) (kk6 : PySem.W.keepIn K (.ref kc6) = true)
    (ic6 : PySem.W.findIn K (.ref kc6) "__init__" = some (some (.ref f6))) (tc6 : PySem.W.typeIn K (.ref f6) = some (.type "function"))
    (nf6_one : PySem.W.findIn K (.ref kc6) "one" = some none)
    (nf6_other : PySem.W.findIn K (.ref kc6) "other" = some none)
    {kc7 nc7 : Addr} {bs7 sb7 : List Value} {nm7 qn7 : Str} {sn7 : List Str} {ab7 : Bool} {col7 : Option Bool} {dd7 : Option Addr} {ka7 kb7 kc_7 kd7 ke7 : Option Value}
    (ac7 : PySem.W.nsIn K mainGlobals "NoText" = some (some (.ref kc7))) (lc7 : K.lookup kc7 = some (excClassObj nm7 qn7 kc7 nc7 bs7 (upTo ["ValueError", "Exception"]) true sn7 sb7 ab7 col7 dd7 ka7 kb7 kc_7 kd7 ke7 "ValueError.__new__"))
    (sc7 : PySem.W.findIn K (.ref kc7) "__setattr__" = some (some (.builtin "object.__setattr__"))) (ov7 : PySem.W.excOver K kc7 (upTo ["ValueError", "Exception"]) = true) (xf7 : L2.xfB K kc7 = true) (xe7 : exB K kc7 = true) (kk7 : PySem.W.keepIn K (.ref kc7) = true)
    (ic7 : PySem.W.findIn K (.ref kc7) "__init__" = some (some (.ref f7))) (tc7 : PySem.W.typeIn K (.ref f7) = some (.type "function"))
    (nf7_text : PySem.W.findIn K (.ref kc7) "text" = some none)
    {kc8 nc8 : Addr} {bs8 sb8 : List Value} {nm8 qn8 : Str} {sn8 : List Str} {ab8 : Bool} {col8 : Option Bool} {dd8 : Option Addr} {ka8 kb8 kc_8 kd8 ke8 : Option Value}
    (ac8 : PySem.W.nsIn K mainGlobals "NoClaim" = some (some (.ref kc8))) (lc8 : K.lookup kc8 = some (excClassObj nm8 qn8 kc8 nc8 bs8 (upTo ["ValueError", "Exception"]) true sn8 sb8 ab8 col8 dd8 ka8 kb8 kc_8 kd8 ke8 "ValueError.__new__"))
    (sc8 : PySem.W.findIn K (.ref kc8) "__setattr__" = some (some (.builtin "object.__setattr__"))) (ov8 : PySem.W.excOver K kc8 (upTo ["ValueError", "Exception"]) = true) (xf8 : L2.xfB K kc8 = true) (xe8 : exB K kc8 = true) (kk8 : PySem.W.keepIn K (.ref kc8) = true)
    (ic8 : PySem.W.findIn K (.ref kc8) "__init__" = some (some (.ref f8))) (tc8 : PySem.W.typeIn K (.ref f8) = some (.type "function"))
    (nf8_claim : PySem.W.findIn K (.ref kc8) "claim" = some none)
    {kc9 nc9 : Addr} {bs9 sb9 : List Value} {nm9 qn9 : Str} {sn9 : List Str} {ab9 : Bool} {col9 : Option Bool} {dd9 : Option Addr} {ka9 kb9 kc_9 kd9 ke9 : Option Value}
    (ac9 : PySem.W.nsIn K mainGlobals "NoChange" = some (some (.ref kc9))) (lc9 : K.lookup kc9 = some (excClassObj nm9 qn9 kc9 nc9 bs9 (upTo ["RuntimeError", "Exception"]) true sn9 sb9 ab9 col9 dd9 ka9 kb9 kc_9 kd9 ke9 "RuntimeError.__new__"))
    (sc9 : PySem.W.findIn K (.ref kc9) "__setattr__" = some (some (.builtin "object.__setattr__"))) (ov9 : PySem.W.excOver K kc9 (upTo ["RuntimeError", "Exception"]) = true) (xf9 : L2.xfB K kc9 = true) (xe9 : exB K kc9 = true) (kk9 : PySem.W.keepIn K (.ref kc9) = true)
    (ic9 : PySem.W.findIn K (.ref kc9) "__init__" = some (some (.ref f9))) (tc9 : PySem.W.typeIn K (.ref f9) = some (.type "function"))
    (nf9_name : PySem.W.findIn K (.ref kc9) "name" = some none)
    {kc10 nc10 : Addr} {bs10 sb10 : List Value} {nm10 qn10 : Str} {sn10 : List Str} {ab10 : Bool} {col10 : Option Bool} {dd10 : Option Addr} {ka10 kb10 kc_10 kd10 ke10 : Option Value}
    (ac10 : PySem.W.nsIn K mainGlobals "NoCommand" = some (some (.ref kc10))) (lc10 : K.lookup kc10 = some (excClassObj nm10 qn10 kc10 nc10 bs10 (upTo ["TypeError", "Exception"]) true sn10 sb10 ab10 col10 dd10 ka10 kb10 kc_10 kd10 ke10 "TypeError.__new__"))
    (sc10 : PySem.W.findIn K (.ref kc10) "__setattr__" = some (some (.builtin "object.__setattr__"))) (ov10 : PySem.W.excOver K kc10 (upTo ["TypeError", "Exception"]) = true) (xf10 : L2.xfB K kc10 = true) (xe10 : exB K kc10 = true) (kk10 : PySem.W.keepIn K (.ref kc10) = true)
    (ic10 : PySem.W.findIn K (.ref kc10) "__init__" = some (some (.ref f10))) (tc10 : PySem.W.typeIn K (.ref f10) = some (.type "function"))
    {kc11 nc11 : Addr} {bs11 sb11 : List Value} {nm11 qn11 : Str} {sn11 : List Str} {ab11 : Bool} {col11 : Option Bool} {dd11 : Option Addr} {ka11 kb11 kc_11 kd11 ke11 : Option Value}
    (ac11 : PySem.W.nsIn K mainGlobals "NothingToUndo" = some (some (.ref kc11))) (lc11 : K.lookup kc11 = some (excClassObj nm11 qn11 kc11 nc11 bs11 (upTo ["RuntimeError", "Exception"]) true sn11 sb11 ab11 col11 dd11 ka11 kb11 kc_11 kd11 ke11 "RuntimeError.__new__"))
    (sc11 : PySem.W.findIn K (.ref kc11) "__setattr__" = some (some (.builtin "object.__setattr__"))) (ov11 : PySem.W.excOver K kc11 (upTo ["RuntimeError", "Exception"]) = true) (xf11 : L2.xfB K kc11 = true) (xe11 : exB K kc11 = true) (kk11 : PySem.W.keepIn K (.ref kc11) = true)
    (ic11 : PySem.W.findIn K (.ref kc11) "__init__" = some (some (.ref f11))) (tc11 : PySem.W.typeIn K (.ref f11) = some (.type "function"))
    (kit : kitTab K [kc3, kc0, kc9, kc8, kc10, kc1, kc2, kc7, kc11, kc6, kc5, kc4] = true) (knd : [kc3, kc0, kc9, kc8, kc10, kc1, kc2, kc7, kc11, kc6, kc5, kc4].Nodup) (kbt : kitB K [(kc3, "ArithmeticError", false), (kc3, "IndexError", false), (kc3, "KeyError", false), (kc3, "LookupError", true), (kc3, "OverflowError", false), (kc3, "RuntimeError", false), (kc3, "TypeError", false), (kc3, "ValueError", false), (kc3, "ZeroDivisionError", false), (kc0, "ArithmeticError", false), (kc0, "IndexError", false), (kc0, "KeyError", false), (kc0, "LookupError", false), (kc0, "OverflowError", false), (kc0, "RuntimeError", false), (kc0, "TypeError", false), (kc0, "ValueError", true), (kc0, "ZeroDivisionError", false), (kc9, "ArithmeticError", false), (kc9, "IndexError", false), (kc9, "KeyError", false), (kc9, "LookupError", false), (kc9, "OverflowError", false), (kc9, "RuntimeError", true), (kc9, "TypeError", false), (kc9, "ValueError", false), (kc9, "ZeroDivisionError", false), (kc8, "ArithmeticError", false), (kc8, "IndexError", false), (kc8, "KeyError", false), (kc8, "LookupError", false), (kc8, "OverflowError", false), (kc8, "RuntimeError", false), (kc8, "TypeError", false), (kc8, "ValueError", true), (kc8, "ZeroDivisionError", false), (kc10, "ArithmeticError", false), (kc10, "IndexError", false), (kc10, "KeyError", false), (kc10, "LookupError", false), (kc10, "OverflowError", false), (kc10, "RuntimeError", false), (kc10, "TypeError", true), (kc10, "ValueError", false), (kc10, "ZeroDivisionError", false), (kc1, "ArithmeticError", false), (kc1, "IndexError", false), (kc1, "KeyError", true), (kc1, "LookupError", true), (kc1, "OverflowError", false), (kc1, "RuntimeError", false), (kc1, "TypeError", false), (kc1, "ValueError", false), (kc1, "ZeroDivisionError", false), (kc2, "ArithmeticError", false), (kc2, "IndexError", false), (kc2, "KeyError", false), (kc2, "LookupError", false), (kc2, "OverflowError", false), (kc2, "RuntimeError", false), (kc2, "TypeError", false), (kc2, "ValueError", true), (kc2, "ZeroDivisionError", false), (kc7, "ArithmeticError", false), (kc7, "IndexError", false), (kc7, "KeyError", false), (kc7, "LookupError", false), (kc7, "OverflowError", false), (kc7, "RuntimeError", false), (kc7, "TypeError", false), (kc7, "ValueError", true), (kc7, "ZeroDivisionError", false), (kc11, "ArithmeticError", false), (kc11, "IndexError", false), (kc11, "KeyError", false), (kc11, "LookupError", false), (kc11, "OverflowError", false), (kc11, "RuntimeError", true), (kc11, "TypeError", false), (kc11, "ValueError", false), (kc11, "ZeroDivisionError", false), (kc6, "ArithmeticError", true), (kc6, "IndexError", false), (kc6, "KeyError", false), (kc6, "LookupError", false), (kc6, "OverflowError", false), (kc6, "RuntimeError", false), (kc6, "TypeError", false), (kc6, "ValueError", false), (kc6, "ZeroDivisionError", false), (kc5, "ArithmeticError", true), (kc5, "IndexError", false), (kc5, "KeyError", false), (kc5, "LookupError", false), (kc5, "OverflowError", true), (kc5, "RuntimeError", false), (kc5, "TypeError", false), (kc5, "ValueError", false), (kc5, "ZeroDivisionError", false), (kc4, "ArithmeticError", false), (kc4, "IndexError", true), (kc4, "KeyError", false), (kc4, "LookupError", true), (kc4, "OverflowError", false), (kc4, "RuntimeError", false), (kc4, "TypeError", false), (kc4, "ValueError", false), (kc4, "ZeroDivisionError", false)] = true)
    (ci_ArithmeticError : PySem.W.findCls K (.type "ArithmeticError") (.type "type") "__init__" = some (.val (.builtin "ArithmeticError.__init__")))
    (ci_IndexError : PySem.W.findCls K (.type "IndexError") (.type "type") "__init__" = some (.val (.builtin "IndexError.__init__")))
    (ci_KeyError : PySem.W.findCls K (.type "KeyError") (.type "type") "__init__" = some (.val (.builtin "KeyError.__init__")))
    (ci_LookupError : PySem.W.findCls K (.type "LookupError") (.type "type") "__init__" = some (.val (.builtin "LookupError.__init__")))
    (ci_OverflowError : PySem.W.findCls K (.type "OverflowError") (.type "type") "__init__" = some (.val (.builtin "OverflowError.__init__")))
    (ci_RuntimeError : PySem.W.findCls K (.type "RuntimeError") (.type "type") "__init__" = some (.val (.builtin "RuntimeError.__init__")))
    (ci_TypeError : PySem.W.findCls K (.type "TypeError") (.type "type") "__init__" = some (.val (.builtin "TypeError.__init__")))
    (ci_ValueError : PySem.W.findCls K (.type "ValueError") (.type "type") "__init__" = some (.val (.builtin "ValueError.__init__")))
    (z_ArithmeticError : PySem.W.nsIn K mainGlobals "ArithmeticError" = some none)
    (z_IndexError : PySem.W.nsIn K mainGlobals "IndexError" = some none)
    (z_KeyError : PySem.W.nsIn K mainGlobals "KeyError" = some none)
    (z_LookupError : PySem.W.nsIn K mainGlobals "LookupError" = some none)
    (z_OverflowError : PySem.W.nsIn K mainGlobals "OverflowError" = some none)
    (z_RuntimeError : PySem.W.nsIn K mainGlobals "RuntimeError" = some none)
    (z_TypeError : PySem.W.nsIn K mainGlobals "TypeError" = some none)
    (z_ValueError : PySem.W.nsIn K mainGlobals "ValueError" = some none)
    (z_ZeroDivisionError : PySem.W.nsIn K mainGlobals "ZeroDivisionError" = some none)
    {od0 an0 : Option Addr} {sl0 : Array (Option Value)} {oc0 kV0 dc0 pm0 cd0 ct0 : Value}
    (l0 : K.lookup f0 = some ⟨oc0, od0, .func (PySem.W.fnOf "__init__" "NoBook.__init__" (defArgs s_i_NoBook) (defBody s_i_NoBook) (defScope s_i_NoBook) .none kV0 dc0 pm0 an0 cd0 ct0), sl0⟩) (x0 : PySem.W.codeIn K cd0 "NoBook.__init__" = true) (k0 : PySem.W.keepIn K (.ref f0) = true)
    {od1 an1 : Option Addr} {sl1 : Array (Option Value)} {oc1 kV1 dc1 pm1 cd1 ct1 : Value}
    (l1 : K.lookup f1 = some ⟨oc1, od1, .func (PySem.W.fnOf "__init__" "NoName.__init__" (defArgs s_i_NoName) (defBody s_i_NoName) (defScope s_i_NoName) .none kV1 dc1 pm1 an1 cd1 ct1), sl1⟩) (x1 : PySem.W.codeIn K cd1 "NoName.__init__" = true) (k1 : PySem.W.keepIn K (.ref f1) = true)
    {od2 an2 : Option Addr} {sl2 : Array (Option Value)} {oc2 kV2 dc2 pm2 cd2 ct2 : Value}
    (l2 : K.lookup f2 = some ⟨oc2, od2, .func (PySem.W.fnOf "__init__" "NoTerm.__init__" (defArgs s_i_NoTerm) (defBody s_i_NoTerm) (defScope s_i_NoTerm) .none kV2 dc2 pm2 an2 cd2 ct2), sl2⟩) (x2 : PySem.W.codeIn K cd2 "NoTerm.__init__" = true) (k2 : PySem.W.keepIn K (.ref f2) = true)
    {od3 an3 : Option Addr} {sl3 : Array (Option Value)} {oc3 kV3 dc3 pm3 cd3 ct3 : Value}
    (l3 : K.lookup f3 = some ⟨oc3, od3, .func (PySem.W.fnOf "__init__" "NoArgument.__init__" (defArgs s_i_NoArgument) (defBody s_i_NoArgument) (defScope s_i_NoArgument) .none kV3 dc3 pm3 an3 cd3 ct3), sl3⟩) (x3 : PySem.W.codeIn K cd3 "NoArgument.__init__" = true) (k3 : PySem.W.keepIn K (.ref f3) = true)
    {od4 an4 : Option Addr} {sl4 : Array (Option Value)} {oc4 kV4 dc4 pm4 cd4 ct4 : Value}
    (l4 : K.lookup f4 = some ⟨oc4, od4, .func (PySem.W.fnOf "__init__" "WrongCount.__init__" (defArgs s_i_WrongCount) (defBody s_i_WrongCount) (defScope s_i_WrongCount) .none kV4 dc4 pm4 an4 cd4 ct4), sl4⟩) (x4 : PySem.W.codeIn K cd4 "WrongCount.__init__" = true) (k4 : PySem.W.keepIn K (.ref f4) = true)
    {od5 an5 : Option Addr} {sl5 : Array (Option Value)} {oc5 kV5 dc5 pm5 cd5 ct5 : Value}
    (l5 : K.lookup f5 = some ⟨oc5, od5, .func (PySem.W.fnOf "__init__" "TooLarge.__init__" (defArgs s_i_TooLarge) (defBody s_i_TooLarge) (defScope s_i_TooLarge) .none kV5 dc5 pm5 an5 cd5 ct5), sl5⟩) (x5 : PySem.W.codeIn K cd5 "TooLarge.__init__" = true) (k5 : PySem.W.keepIn K (.ref f5) = true)
    {od6 an6 : Option Addr} {sl6 : Array (Option Value)} {oc6 kV6 dc6 pm6 cd6 ct6 : Value}
    (l6 : K.lookup f6 = some ⟨oc6, od6, .func (PySem.W.fnOf "__init__" "OtherShape.__init__" (defArgs s_i_OtherShape) (defBody s_i_OtherShape) (defScope s_i_OtherShape) .none kV6 dc6 pm6 an6 cd6 ct6), sl6⟩) (x6 : PySem.W.codeIn K cd6 "OtherShape.__init__" = true) (k6 : PySem.W.keepIn K (.ref f6) = true)
    {od7 an7 : Option Addr} {sl7 : Array (Option Value)} {oc7 kV7 dc7 pm7 cd7 ct7 : Value}
    (l7 : K.lookup f7 = some ⟨oc7, od7, .func (PySem.W.fnOf "__init__" "NoText.__init__" (defArgs s_i_NoText) (defBody s_i_NoText) (defScope s_i_NoText) .none kV7 dc7 pm7 an7 cd7 ct7), sl7⟩) (x7 : PySem.W.codeIn K cd7 "NoText.__init__" = true) (k7 : PySem.W.keepIn K (.ref f7) = true)
    {od8 an8 : Option Addr} {sl8 : Array (Option Value)} {oc8 kV8 dc8 pm8 cd8 ct8 : Value}
    (l8 : K.lookup f8 = some ⟨oc8, od8, .func (PySem.W.fnOf "__init__" "NoClaim.__init__" (defArgs s_i_NoClaim) (defBody s_i_NoClaim) (defScope s_i_NoClaim) .none kV8 dc8 pm8 an8 cd8 ct8), sl8⟩) (x8 : PySem.W.codeIn K cd8 "NoClaim.__init__" = true) (k8 : PySem.W.keepIn K (.ref f8) = true)
    {od9 an9 : Option Addr} {sl9 : Array (Option Value)} {oc9 kV9 dc9 pm9 cd9 ct9 : Value}
    (l9 : K.lookup f9 = some ⟨oc9, od9, .func (PySem.W.fnOf "__init__" "NoChange.__init__" (defArgs s_i_NoChange) (defBody s_i_NoChange) (defScope s_i_NoChange) .none kV9 dc9 pm9 an9 cd9 ct9), sl9⟩) (x9 : PySem.W.codeIn K cd9 "NoChange.__init__" = true) (k9 : PySem.W.keepIn K (.ref f9) = true)
    {od10 an10 : Option Addr} {sl10 : Array (Option Value)} {oc10 kV10 dc10 pm10 cd10 ct10 : Value}
    (l10 : K.lookup f10 = some ⟨oc10, od10, .func (PySem.W.fnOf "__init__" "NoCommand.__init__" (defArgs s_i_NoCommand) (defBody s_i_NoCommand) (defScope s_i_NoCommand) .none kV10 dc10 pm10 an10 cd10 ct10), sl10⟩) (x10 : PySem.W.codeIn K cd10 "NoCommand.__init__" = true) (k10 : PySem.W.keepIn K (.ref f10) = true)
    {od11 an11 : Option Addr} {sl11 : Array (Option Value)} {oc11 kV11 dc11 pm11 cd11 ct11 : Value}
    (l11 : K.lookup f11 = some ⟨oc11, od11, .func (PySem.W.fnOf "__init__" "NothingToUndo.__init__" (defArgs s_i_NothingToUndo) (defBody s_i_NothingToUndo) (defScope s_i_NothingToUndo) .none kV11 dc11 pm11 an11 cd11 ct11), sl11⟩) (x11 : PySem.W.codeIn K cd11 "NothingToUndo.__init__" = true) (k11 : PySem.W.keepIn K (.ref f11) = true)
    {od12 an12 : Option Addr} {sl12 : Array (Option Value)} {oc12 kV12 dc12 pm12 cd12 ct12 : Value}
    (a12 : PySem.W.nsIn K mainGlobals "_law_bag" = some (some (.ref f12)))
    (l12 : K.lookup f12 = some ⟨oc12, od12, .func (PySem.W.fnOf "_law_bag" "_law_bag" (defArgs s_lbag) (defBody s_lbag) (defScope s_lbag) .none kV12 dc12 pm12 an12 cd12 ct12), sl12⟩) (x12 : PySem.W.codeIn K cd12 "_law_bag" = true) (k12 : PySem.W.keepIn K (.ref f12) = true)
    {od13 an13 : Option Addr} {sl13 : Array (Option Value)} {oc13 kV13 dc13 pm13 cd13 ct13 : Value}
    (a13 : PySem.W.nsIn K mainGlobals "_law_take" = some (some (.ref f13)))
    (l13 : K.lookup f13 = some ⟨oc13, od13, .func (PySem.W.fnOf "_law_take" "_law_take" (defArgs s_ltake) (defBody s_ltake) (defScope s_ltake) .none kV13 dc13 pm13 an13 cd13 ct13), sl13⟩) (x13 : PySem.W.codeIn K cd13 "_law_take" = true) (k13 : PySem.W.keepIn K (.ref f13) = true)
    {od14 an14 : Option Addr} {sl14 : Array (Option Value)} {oc14 kV14 dc14 pm14 cd14 ct14 : Value}
    (a14 : PySem.W.nsIn K mainGlobals "_law_value" = some (some (.ref f14)))
    (l14 : K.lookup f14 = some ⟨oc14, od14, .func (PySem.W.fnOf "_law_value" "_law_value" (defArgs s_lvalue) (defBody s_lvalue) (defScope s_lvalue) .none kV14 dc14 pm14 an14 cd14 ct14), sl14⟩) (x14 : PySem.W.codeIn K cd14 "_law_value" = true) (k14 : PySem.W.keepIn K (.ref f14) = true)
    {od15 an15 : Option Addr} {sl15 : Array (Option Value)} {oc15 kV15 dc15 pm15 cd15 ct15 : Value}
    (a15 : PySem.W.nsIn K mainGlobals "_law_is_one_of" = some (some (.ref f15)))
    (l15 : K.lookup f15 = some ⟨oc15, od15, .func (PySem.W.fnOf "_law_is_one_of" "_law_is_one_of" (defArgs s_lis_one_of) (defBody s_lis_one_of) (defScope s_lis_one_of) .none kV15 dc15 pm15 an15 cd15 ct15), sl15⟩) (x15 : PySem.W.codeIn K cd15 "_law_is_one_of" = true) (k15 : PySem.W.keepIn K (.ref f15) = true)
    {od16 an16 : Option Addr} {sl16 : Array (Option Value)} {oc16 kV16 dc16 pm16 cd16 ct16 : Value}
    (a16 : PySem.W.nsIn K mainGlobals "_law_values_right" = some (some (.ref f16)))
    (l16 : K.lookup f16 = some ⟨oc16, od16, .func (PySem.W.fnOf "_law_values_right" "_law_values_right" (defArgs s_lvalues_right) (defBody s_lvalues_right) (defScope s_lvalues_right) .none kV16 dc16 pm16 an16 cd16 ct16), sl16⟩) (x16 : PySem.W.codeIn K cd16 "_law_values_right" = true) (k16 : PySem.W.keepIn K (.ref f16) = true)
    {od17 an17 : Option Addr} {sl17 : Array (Option Value)} {oc17 kV17 dc17 pm17 cd17 ct17 : Value}
    (a17 : PySem.W.nsIn K mainGlobals "_law_others_right" = some (some (.ref f17)))
    (l17 : K.lookup f17 = some ⟨oc17, od17, .func (PySem.W.fnOf "_law_others_right" "_law_others_right" (defArgs s_lothers_right) (defBody s_lothers_right) (defScope s_lothers_right) .none kV17 dc17 pm17 an17 cd17 ct17), sl17⟩) (x17 : PySem.W.codeIn K cd17 "_law_others_right" = true) (k17 : PySem.W.keepIn K (.ref f17) = true)
    {od18 an18 : Option Addr} {sl18 : Array (Option Value)} {oc18 kV18 dc18 pm18 cd18 ct18 : Value}
    (a18 : PySem.W.nsIn K mainGlobals "law" = some (some (.ref f18)))
    (l18 : K.lookup f18 = some ⟨oc18, od18, .func (PySem.W.fnOf "law" "law" (defArgs s_law) (defBody s_law) (defScope s_law) .none kV18 dc18 pm18 an18 cd18 ct18), sl18⟩) (x18 : PySem.W.codeIn K cd18 "law" = true) (k18 : PySem.W.keepIn K (.ref f18) = true)
    (z_abs : PySem.W.nsIn K mainGlobals "abs" = some none)
    (z_all : PySem.W.nsIn K mainGlobals "all" = some none)
    (z_isinstance : PySem.W.nsIn K mainGlobals "isinstance" = some none)
    (z_len : PySem.W.nsIn K mainGlobals "len" = some none)
    (z_max : PySem.W.nsIn K mainGlobals "max" = some none)
    (z_min : PySem.W.nsIn K mainGlobals "min" = some none)
    (z_range : PySem.W.nsIn K mainGlobals "range" = some none)
    (z_repr : PySem.W.nsIn K mainGlobals "repr" = some none)
    (z_str : PySem.W.nsIn K mainGlobals "str" = some none)
    : ∃ fd : FuncData, (∀ (s : Shared) (v : Value), BindsTo s fd ⟨[v], []⟩ [("script", v)]) ∧ ∀ base : Heap, K.In base → base.Ns mainGlobals mg → FG l.prog w K mg base CX0 lawK fa fd ["script"] (sp_law K) := by
  have e := hfa.symm.trans (PySem.W.mg_of X G a18)
  cases e
  have F0 := fun_mk (st := s_i_NoBook) l0 x0 k0
  have b0 := F0.binds (ps := ["self", "position"]) fun _ _ _ _ _ _ us hl => match us, hl with | [_, _], _ => rfl
  have F1 := fun_mk (st := s_i_NoName) l1 x1 k1
  have b1 := F1.binds (ps := ["self", "name"]) fun _ _ _ _ _ _ us hl => match us, hl with | [_, _], _ => rfl
  have F2 := fun_mk (st := s_i_NoTerm) l2 x2 k2
  have b2 := F2.binds (ps := ["self", "number", "reason"]) fun _ _ _ _ _ _ us hl => match us, hl with | [_, _, _], _ => rfl
  have F3 := fun_mk (st := s_i_NoArgument) l3 x3 k3
  have b3 := F3.binds (ps := ["self", "position", "reason"]) fun _ _ _ _ _ _ us hl => match us, hl with | [_, _, _], _ => rfl
  have F4 := fun_mk (st := s_i_WrongCount) l4 x4 k4
  have b4 := F4.binds (ps := ["self", "given", "needed"]) fun _ _ _ _ _ _ us hl => match us, hl with | [_, _, _], _ => rfl
  have F5 := fun_mk (st := s_i_TooLarge) l5 x5 k5
  have b5 := F5.binds (ps := ["self", "limit"]) fun _ _ _ _ _ _ us hl => match us, hl with | [_, _], _ => rfl
  have F6 := fun_mk (st := s_i_OtherShape) l6 x6 k6
  have b6 := F6.binds (ps := ["self", "one", "other"]) fun _ _ _ _ _ _ us hl => match us, hl with | [_, _, _], _ => rfl
  have F7 := fun_mk (st := s_i_NoText) l7 x7 k7
  have b7 := F7.binds (ps := ["self", "text"]) fun _ _ _ _ _ _ us hl => match us, hl with | [_, _], _ => rfl
  have F8 := fun_mk (st := s_i_NoClaim) l8 x8 k8
  have b8 := F8.binds (ps := ["self", "claim"]) fun _ _ _ _ _ _ us hl => match us, hl with | [_, _], _ => rfl
  have F9 := fun_mk (st := s_i_NoChange) l9 x9 k9
  have b9 := F9.binds (ps := ["self", "name"]) fun _ _ _ _ _ _ us hl => match us, hl with | [_, _], _ => rfl
  have F10 := fun_mk (st := s_i_NoCommand) l10 x10 k10
  have b10 := F10.binds (ps := ["self"]) fun _ _ _ _ _ _ us hl => match us, hl with | [_], _ => rfl
  have F11 := fun_mk (st := s_i_NothingToUndo) l11 x11 k11
  have b11 := F11.binds (ps := ["self"]) fun _ _ _ _ _ _ us hl => match us, hl with | [_], _ => rfl
  have F12 := fun_mk (st := s_lbag) l12 x12 k12
  have b12 := F12.binds (ps := ["script", "at"]) fun _ _ _ _ _ _ us hl => match us, hl with | [_, _], _ => rfl
  have F13 := fun_mk (st := s_ltake) l13 x13 k13
  have b13 := F13.binds (ps := ["bag", "many"]) fun _ _ _ _ _ _ us hl => match us, hl with | [_, _], _ => rfl
  have F14 := fun_mk (st := s_lvalue) l14 x14 k14
  have b14 := F14.binds (ps := ["bag"]) fun _ _ _ _ _ _ us hl => match us, hl with | [_], _ => rfl
  have F15 := fun_mk (st := s_lis_one_of) l15 x15 k15
  have b15 := F15.binds (ps := ["error"]) fun _ _ _ _ _ _ us hl => match us, hl with | [_], _ => rfl
  have F16 := fun_mk (st := s_lvalues_right) l16 x16 k16
  have b16 := F16.binds (ps := ["one", "other"]) fun _ _ _ _ _ _ us hl => match us, hl with | [_, _], _ => rfl
  have F17 := fun_mk (st := s_lothers_right) l17 x17 k17
  have b17 := F17.binds (ps := ["one", "other"]) fun _ _ _ _ _ _ us hl => match us, hl with | [_, _], _ => rfl
  have F18 := fun_mk (st := s_law) l18 x18 k18
  have b18 := F18.binds (ps := ["script"]) fun _ _ _ _ _ _ us hl => match us, hl with | [_], _ => rfl
  exact ⟨_, fun s v => .of_eq rfl, fun base _ _ => ok_law (P := l.prog) (w := w) (base := base) ({ f_i_NoBook := _, d_i_NoBook := _, F_i_NoBook := F0, b_i_NoBook := b0, k_NoBook := _, m_NoBook := PySem.W.mg_of X G ac0, e_NoBook := ErrK.mk' lc0 sc0 ov0 xf0 xe0 kk0, i_NoBook := ic0, t_NoBook := tc0, n_NoBook_position := nf0_position, f_i_NoName := _, d_i_NoName := _, F_i_NoName := F1, b_i_NoName := b1, k_NoName := _, m_NoName := PySem.W.mg_of X G ac1, e_NoName := ErrK.mk' lc1 sc1 ov1 xf1 xe1 kk1, i_NoName := ic1, t_NoName := tc1, n_NoName_name := nf1_name, f_i_NoTerm := _, d_i_NoTerm := _, F_i_NoTerm := F2, b_i_NoTerm := b2, k_NoTerm := _, m_NoTerm := PySem.W.mg_of X G ac2, e_NoTerm := ErrK.mk' lc2 sc2 ov2 xf2 xe2 kk2, i_NoTerm := ic2, t_NoTerm := tc2, n_NoTerm_number := nf2_number, n_NoTerm_reason := nf2_reason, f_i_NoArgument := _, d_i_NoArgument := _, F_i_NoArgument := F3, b_i_NoArgument := b3, k_NoArgument := _, m_NoArgument := PySem.W.mg_of X G ac3, e_NoArgument := ErrK.mk' lc3 sc3 ov3 xf3 xe3 kk3, i_NoArgument := ic3, t_NoArgument := tc3, n_NoArgument_position := nf3_position, n_NoArgument_reason := nf3_reason, f_i_WrongCount := _, d_i_WrongCount := _, F_i_WrongCount := F4, b_i_WrongCount := b4, k_WrongCount := _, m_WrongCount := PySem.W.mg_of X G ac4, e_WrongCount := ErrK.mk' lc4 sc4 ov4 xf4 xe4 kk4, i_WrongCount := ic4, t_WrongCount := tc4, n_WrongCount_given := nf4_given, n_WrongCount_needed := nf4_needed, f_i_TooLarge := _, d_i_TooLarge := _, F_i_TooLarge := F5, b_i_TooLarge := b5, k_TooLarge := _, m_TooLarge := PySem.W.mg_of X G ac5, e_TooLarge := ErrK.mk' lc5 sc5 ov5 xf5 xe5 kk5, i_TooLarge := ic5, t_TooLarge := tc5, n_TooLarge_limit := nf5_limit, f_i_OtherShape := _, d_i_OtherShape := _, F_i_OtherShape := F6, b_i_OtherShape := b6, k_OtherShape := _, m_OtherShape := PySem.W.mg_of X G ac6, e_OtherShape := ErrK.mk' lc6 sc6 ov6 xf6 xe6 kk6, i_OtherShape := ic6, t_OtherShape := tc6, n_OtherShape_one := nf6_one, n_OtherShape_other := nf6_other, f_i_NoText := _, d_i_NoText := _, F_i_NoText := F7, b_i_NoText := b7, k_NoText := _, m_NoText := PySem.W.mg_of X G ac7, e_NoText := ErrK.mk' lc7 sc7 ov7 xf7 xe7 kk7, i_NoText := ic7, t_NoText := tc7, n_NoText_text := nf7_text, f_i_NoClaim := _, d_i_NoClaim := _, F_i_NoClaim := F8, b_i_NoClaim := b8, k_NoClaim := _, m_NoClaim := PySem.W.mg_of X G ac8, e_NoClaim := ErrK.mk' lc8 sc8 ov8 xf8 xe8 kk8, i_NoClaim := ic8, t_NoClaim := tc8, n_NoClaim_claim := nf8_claim, f_i_NoChange := _, d_i_NoChange := _, F_i_NoChange := F9, b_i_NoChange := b9, k_NoChange := _, m_NoChange := PySem.W.mg_of X G ac9, e_NoChange := ErrK.mk' lc9 sc9 ov9 xf9 xe9 kk9, i_NoChange := ic9, t_NoChange := tc9, n_NoChange_name := nf9_name, f_i_NoCommand := _, d_i_NoCommand := _, F_i_NoCommand := F10, b_i_NoCommand := b10, k_NoCommand := _, m_NoCommand := PySem.W.mg_of X G ac10, e_NoCommand := ErrK.mk' lc10 sc10 ov10 xf10 xe10 kk10, i_NoCommand := ic10, t_NoCommand := tc10, f_i_NothingToUndo := _, d_i_NothingToUndo := _, F_i_NothingToUndo := F11, b_i_NothingToUndo := b11, k_NothingToUndo := _, m_NothingToUndo := PySem.W.mg_of X G ac11, e_NothingToUndo := ErrK.mk' lc11 sc11 ov11 xf11 xe11 kk11, i_NothingToUndo := ic11, t_NothingToUndo := tc11, f_lbag := _, d_lbag := _, F_lbag := F12, c_lbag := ⟨PySem.W.mg_of X G a12, k12, b12⟩, f_ltake := _, d_ltake := _, F_ltake := F13, c_ltake := ⟨PySem.W.mg_of X G a13, k13, b13⟩, f_lvalue := _, d_lvalue := _, F_lvalue := F14, c_lvalue := ⟨PySem.W.mg_of X G a14, k14, b14⟩, f_lis_one_of := _, d_lis_one_of := _, F_lis_one_of := F15, c_lis_one_of := ⟨PySem.W.mg_of X G a15, k15, b15⟩, f_lvalues_right := _, d_lvalues_right := _, F_lvalues_right := F16, c_lvalues_right := ⟨PySem.W.mg_of X G a16, k16, b16⟩, f_lothers_right := _, d_lothers_right := _, F_lothers_right := F17, c_lothers_right := ⟨PySem.W.mg_of X G a17, k17, b17⟩, f_law := _, d_law := _, F_law := F18, c_law := ⟨PySem.W.mg_of X G a18, k18, b18⟩, kit := kit, knd := knd, kbt := kbt, ci_ArithmeticError := ci_ArithmeticError, ci_IndexError := ci_IndexError, ci_KeyError := ci_KeyError, ci_LookupError := ci_LookupError, ci_OverflowError := ci_OverflowError, ci_RuntimeError := ci_RuntimeError, ci_TypeError := ci_TypeError, ci_ValueError := ci_ValueError, z_ArithmeticError := PySem.W.mg_none_of X G z_ArithmeticError, z_IndexError := PySem.W.mg_none_of X G z_IndexError, z_KeyError := PySem.W.mg_none_of X G z_KeyError, z_LookupError := PySem.W.mg_none_of X G z_LookupError, z_OverflowError := PySem.W.mg_none_of X G z_OverflowError, z_RuntimeError := PySem.W.mg_none_of X G z_RuntimeError, z_TypeError := PySem.W.mg_none_of X G z_TypeError, z_ValueError := PySem.W.mg_none_of X G z_ValueError, z_ZeroDivisionError := PySem.W.mg_none_of X G z_ZeroDivisionError, z_abs := PySem.W.mg_none_of X G z_abs, z_all := PySem.W.mg_none_of X G z_all, z_isinstance := PySem.W.mg_none_of X G z_isinstance, z_len := PySem.W.mg_none_of X G z_len, z_max := PySem.W.mg_none_of X G z_max, z_min := PySem.W.mg_none_of X G z_min, z_range := PySem.W.mg_none_of X G z_range, z_repr := PySem.W.mg_none_of X G z_repr, z_str := PySem.W.mg_none_of X G z_str } : TX K mg)⟩
end My
open PySem PySem.W PyProof.Rows
set_option maxRecDepth 100000 in
set_option maxHeartbeats 0 in
theorem PySem.Challenge.cw_aliasparams_k83_errors_holds : PySem.Challenge.rw_aliasparams_k83_errors.Holds := by
  w_on; o_law; k_head; (case hw => w_witness2)
  k_fill
  refine Gd.walk_g (l := PySem.Challenge.rw_aliasparams_k83_errors) (n := 63) (k := My.lawK) (sp := My.sp_law) (x := "script") rfl (by decide) rfl ⟨rfl, by decide, by decide⟩ (fun w h Y => PySem.W.kIn_of Y) ?F (fun K H a ns hl ho hs => My.law_ask K H a ns hl ho hs)
  case F =>
    intro w mg fa h KX G hmg
    refine' My.all_mk (l := PySem.Challenge.rw_aliasparams_k83_errors) KX G hmg ?ac0 ?lc0 ?sc0 ?ov0 ?xf0 ?xe0 ?kk0 ?ic0 ?tc0 ?nf0_position ?ac1 ?lc1 ?sc1 ?ov1 ?xf1 ?xe1 ?kk1 ?ic1 ?tc1 ?nf1_name ?ac2 ?lc2 ?sc2 ?ov2 ?xf2 ?xe2 ?kk2 ?ic2 ?tc2 ?nf2_number ?nf2_reason ?ac3 ?lc3 ?sc3 ?ov3 ?xf3 ?xe3 ?kk3 ?ic3 ?tc3 ?nf3_position ?nf3_reason ?ac4 ?lc4 ?sc4 ?ov4 ?xf4 ?xe4 ?kk4 ?ic4 ?tc4 ?nf4_given ?nf4_needed ?ac5 ?lc5 ?sc5 ?ov5 ?xf5 ?xe5 ?kk5 ?ic5 ?tc5 ?nf5_limit ?ac6 ?lc6 ?sc6 ?ov6 ?xf6 ?xe6 ?kk6 ?ic6 ?tc6 ?nf6_one ?nf6_other ?ac7 ?lc7 ?sc7 ?ov7 ?xf7 ?xe7 ?kk7 ?ic7 ?tc7 ?nf7_text ?ac8 ?lc8 ?sc8 ?ov8 ?xf8 ?xe8 ?kk8 ?ic8 ?tc8 ?nf8_claim ?ac9 ?lc9 ?sc9 ?ov9 ?xf9 ?xe9 ?kk9 ?ic9 ?tc9 ?nf9_name ?ac10 ?lc10 ?sc10 ?ov10 ?xf10 ?xe10 ?kk10 ?ic10 ?tc10 ?ac11 ?lc11 ?sc11 ?ov11 ?xf11 ?xe11 ?kk11 ?ic11 ?tc11 ?kit ?knd ?kbt ?ci_ArithmeticError ?ci_IndexError ?ci_KeyError ?ci_LookupError ?ci_OverflowError ?ci_RuntimeError ?ci_TypeError ?ci_ValueError ?z_ArithmeticError ?z_IndexError ?z_KeyError ?z_LookupError ?z_OverflowError ?z_RuntimeError ?z_TypeError ?z_ValueError ?z_ZeroDivisionError ?l0 ?x0 ?k0 ?l1 ?x1 ?k1 ?l2 ?x2 ?k2 ?l3 ?x3 ?k3 ?l4 ?x4 ?k4 ?l5 ?x5 ?k5 ?l6 ?x6 ?k6 ?l7 ?x7 ?k7 ?l8 ?x8 ?k8 ?l9 ?x9 ?k9 ?l10 ?x10 ?k10 ?l11 ?x11 ?k11 ?a12 ?l12 ?x12 ?k12 ?a13 ?l13 ?x13 ?k13 ?a14 ?l14 ?x14 ?k14 ?a15 ?l15 ?x15 ?k15 ?a16 ?l16 ?x16 ?k16 ?a17 ?l17 ?x17 ?k17 ?a18 ?l18 ?x18 ?k18 ?z_abs ?z_all ?z_isinstance ?z_len ?z_max ?z_min ?z_range ?z_repr ?z_str
    (case ac0 => k_is)
    (case lc0 => k_is)
    (case sc0 => k_is)
    (case ov0 => kernel_rfl)
    (case xf0 => kernel_rfl)
    (case xe0 => kernel_rfl)
    (case kk0 => k_is)
    (case ic0 => k_is)
    (case tc0 => k_is)
    (case nf0_position => k_is)
    (case ac1 => k_is)
    (case lc1 => k_is)
    (case sc1 => k_is)
    (case ov1 => kernel_rfl)
    (case xf1 => kernel_rfl)
    (case xe1 => kernel_rfl)
    (case kk1 => k_is)
    (case ic1 => k_is)
    (case tc1 => k_is)
    (case nf1_name => k_is)
    (case ac2 => k_is)
    (case lc2 => k_is)
    (case sc2 => k_is)
    (case ov2 => kernel_rfl)
    (case xf2 => kernel_rfl)
    (case xe2 => kernel_rfl)
    (case kk2 => k_is)
    (case ic2 => k_is)
    (case tc2 => k_is)
    (case nf2_number => k_is)
    (case nf2_reason => k_is)
    (case ac3 => k_is)
    (case lc3 => k_is)
    (case sc3 => k_is)
    (case ov3 => kernel_rfl)
    (case xf3 => kernel_rfl)
    (case xe3 => kernel_rfl)
    (case kk3 => k_is)
    (case ic3 => k_is)
    (case tc3 => k_is)
    (case nf3_position => k_is)
    (case nf3_reason => k_is)
    (case ac4 => k_is)
    (case lc4 => k_is)
    (case sc4 => k_is)
    (case ov4 => kernel_rfl)
    (case xf4 => kernel_rfl)
    (case xe4 => kernel_rfl)
    (case kk4 => k_is)
    (case ic4 => k_is)
    (case tc4 => k_is)
    (case nf4_given => k_is)
    (case nf4_needed => k_is)
    (case ac5 => k_is)
    (case lc5 => k_is)
    (case sc5 => k_is)
    (case ov5 => kernel_rfl)
    (case xf5 => kernel_rfl)
    (case xe5 => kernel_rfl)
    (case kk5 => k_is)
    (case ic5 => k_is)
    (case tc5 => k_is)
    (case nf5_limit => k_is)
    (case ac6 => k_is)
    (case lc6 => k_is)
    (case sc6 => k_is)
    (case ov6 => kernel_rfl)
    (case xf6 => kernel_rfl)
    (case xe6 => kernel_rfl)
    (case kk6 => k_is)
    (case ic6 => k_is)
    (case tc6 => k_is)
    (case nf6_one => k_is)
    (case nf6_other => k_is)
    (case ac7 => k_is)
    (case lc7 => k_is)
    (case sc7 => k_is)
    (case ov7 => kernel_rfl)
    (case xf7 => kernel_rfl)
    (case xe7 => kernel_rfl)
    (case kk7 => k_is)
    (case ic7 => k_is)
    (case tc7 => k_is)
    (case nf7_text => k_is)
    (case ac8 => k_is)
    (case lc8 => k_is)
    (case sc8 => k_is)
    (case ov8 => kernel_rfl)
    (case xf8 => kernel_rfl)
    (case xe8 => kernel_rfl)
    (case kk8 => k_is)
    (case ic8 => k_is)
    (case tc8 => k_is)
    (case nf8_claim => k_is)
    (case ac9 => k_is)
    (case lc9 => k_is)
    (case sc9 => k_is)
    (case ov9 => kernel_rfl)
    (case xf9 => kernel_rfl)
    (case xe9 => kernel_rfl)
    (case kk9 => k_is)
    (case ic9 => k_is)
    (case tc9 => k_is)
    (case nf9_name => k_is)
    (case ac10 => k_is)
    (case lc10 => k_is)
    (case sc10 => k_is)
    (case ov10 => kernel_rfl)
    (case xf10 => kernel_rfl)
    (case xe10 => kernel_rfl)
    (case kk10 => k_is)
    (case ic10 => k_is)
    (case tc10 => k_is)
    (case ac11 => k_is)
    (case lc11 => k_is)
    (case sc11 => k_is)
    (case ov11 => kernel_rfl)
    (case xf11 => kernel_rfl)
    (case xe11 => kernel_rfl)
    (case kk11 => k_is)
    (case ic11 => k_is)
    (case tc11 => k_is)
    (case kit => kernel_rfl)
    (case knd => decide)
    (case kbt => kernel_rfl)
    (case ci_ArithmeticError => k_is)
    (case ci_IndexError => k_is)
    (case ci_KeyError => k_is)
    (case ci_LookupError => k_is)
    (case ci_OverflowError => k_is)
    (case ci_RuntimeError => k_is)
    (case ci_TypeError => k_is)
    (case ci_ValueError => k_is)
    (case z_ArithmeticError => k_is)
    (case z_IndexError => k_is)
    (case z_KeyError => k_is)
    (case z_LookupError => k_is)
    (case z_OverflowError => k_is)
    (case z_RuntimeError => k_is)
    (case z_TypeError => k_is)
    (case z_ValueError => k_is)
    (case z_ZeroDivisionError => k_is)
    (case l0 => k_is)
    (case x0 => k_is)
    (case k0 => k_is)
    (case l1 => k_is)
    (case x1 => k_is)
    (case k1 => k_is)
    (case l2 => k_is)
    (case x2 => k_is)
    (case k2 => k_is)
    (case l3 => k_is)
    (case x3 => k_is)
    (case k3 => k_is)
    (case l4 => k_is)
    (case x4 => k_is)
    (case k4 => k_is)
    (case l5 => k_is)
    (case x5 => k_is)
    (case k5 => k_is)
    (case l6 => k_is)
    (case x6 => k_is)
    (case k6 => k_is)
    (case l7 => k_is)
    (case x7 => k_is)
    (case k7 => k_is)
    (case l8 => k_is)
    (case x8 => k_is)
    (case k8 => k_is)
    (case l9 => k_is)
    (case x9 => k_is)
    (case k9 => k_is)
    (case l10 => k_is)
    (case x10 => k_is)
    (case k10 => k_is)
    (case l11 => k_is)
    (case x11 => k_is)
    (case k11 => k_is)
    (case a12 => k_is)
    (case l12 => k_is)
    (case x12 => k_is)
    (case k12 => k_is)
    (case a13 => k_is)
    (case l13 => k_is)
    (case x13 => k_is)
    (case k13 => k_is)
    (case a14 => k_is)
    (case l14 => k_is)
    (case x14 => k_is)
    (case k14 => k_is)
    (case a15 => k_is)
    (case l15 => k_is)
    (case x15 => k_is)
    (case k15 => k_is)
    (case a16 => k_is)
    (case l16 => k_is)
    (case x16 => k_is)
    (case k16 => k_is)
    (case a17 => k_is)
    (case l17 => k_is)
    (case x17 => k_is)
    (case k17 => k_is)
    (case a18 => k_is)
    (case l18 => k_is)
    (case x18 => k_is)
    (case k18 => k_is)
    (case z_abs => k_is)
    (case z_all => k_is)
    (case z_isinstance => k_is)
    (case z_len => k_is)
    (case z_max => k_is)
    (case z_min => k_is)
    (case z_range => k_is)
    (case z_repr => k_is)
    (case z_str => k_is)
