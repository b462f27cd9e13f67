import PyProof.Rows.All
import Wide.All
import OpenK.AllK
import Wide.FinOn
import HandS.ForMost
import HandS.Flow
import HandS.Style
import HandS.TupAny
import HandS.IsInst
import HandS.Star
import HandS.RaiseMore
import HandS.Evl
import PyProof.StrLawsRepr
import PyProof.FitsReplace
import HandS.HeadHook3
import HandS.Iter
import HandS.CallLocal
import KE.GoesRev
import KE.KDictSum
import HandS.Conv
import HandS.Sort
import HandS.SetKeys
import HandS.WordsDict
import PyProof.P3Eq
import HandS.TupLen
import PyProof.DictMoreH
import HandS.SortInts
import PyProof.StrBlock2
import HandS.Zip
import KE.GoesMore
import HandS.FStr
import PyProof.Rows.SetFrom
import PyProof.Rows.SortShellAny
import HandS.Set
import HandS.Deep
import PySem.Challenge.RW_aliasparams_k14_whole_terms_from_their_p
set_option Elab.async false
set_option linter.all false
set_option maxRecDepth 100000
set_option maxHeartbeats 4000000
/-! defs whose promise may rely on that no guard of a text of data stands around -/
namespace Gd
open PySem PySem.Spec PyProof.Rows L2
structure FG (P : Program) (w : World) (K : PySem.W.Frag) (mg : Str → Option Value) (base : Heap)
    (cx : CXT) (k : Nat) (f : Addr) (fd : FuncData) (ps : List Str) (sp : Sp) : Prop where
  len : ∀ vs H Q E, sp vs H Q E →
    vs.length = ps.length
  run : ∀ (A : Around) (out : List Env) (s : Shared) (H : Hp) (as : Args) (us : List Value) (vs : List V) (Q : VK) (E : XK),
    A.guards = some [] → Room k A → Env0 P w K mg base A out s H → BindsTo s fd as (ps.zip us) → Vals vs us → sp vs H Q E →
      codeAny (model P w) A (.call (.ref f) as) (CR cx out P w H s Q E) s
theorem FG.mono {P : Program} {w : World} {K : PySem.W.Frag} {mg : Str → Option Value} {base : Heap}
    {cx : CXT} {j k : Nat} {f : Addr} {fd : FuncData} {ps : List Str} {sp : Sp} (F : FG P w K mg base cx j f fd ps sp) (h : j ≤ k) : FG P w K mg base cx k f fd ps sp :=
  ⟨F.len, fun A out s H as us vs Q E hg hr => F.run A out s H as us vs Q E hg (hr.mono h)⟩
/-- where a def stands that is called by its name -/
structure Cal (K : PySem.W.Frag) (mg : Str → Option Value) (x : Str) (f : Addr) (fd : FuncData) (ps : List Str) : Prop where
  mg : mg x = some (.ref f)
  kp : PySem.W.keepIn K (.ref f) = true
  bd : Binds K fd ps []
section
variable {X : Cx} {cx : CXT} {k : Nat} {f : Addr} {fd : FuncData} {ps : List Str} {sp : Sp} {E : XK} {x : Str} {p pos : Pos} {e : Expr} {es : List Expr} {t : TA}
theorem run_g {pins : List (Addr × Obj)} {σ : L2.St} {H : Hp} {s : Shared} {Q : VK} {us : List Value} {vs : List V}
    (F : FG X.prog X.w X.K X.mg X.base cx k f fd ps sp) (hg : X.A.guards = some []) (hr : Room k X.A) (hb : Binds X.K fd ps []) (hx : Passes cx X E)
    (I : Inv X pins σ H s) (r : Vals vs us) (h : sp vs H Q E) : wpAny (model X.prog X.w) X.A (call (.ref f) us) (EP X pins σ Q) X.xe s := by
  have hl : us.length = ps.length := r.length.symm.trans (F.len _ _ _ _ h)
  have hbt : BindsTo s fd ⟨us, []⟩ (ps.zip us) := by
    have q := hb s us I.kIn (by rw [List.append_nil]; exact hl)
    rw [List.append_nil] at q
    exact q
  refine wpAny_call (codeAny_mono (F.run X.A X.stack s H ⟨us, []⟩ us vs Q E hg hr I.env0 hbt r h) fun res s2 hq => ?_)
  rcases res with er | fl
  · exact hx pins σ H s er s2 I hq
  · rcases fl with u | _ | _ | _
    all_goals first | exact I.after hq | exact hq.elim
theorem pe_g (C : Cal X.K X.mg x f fd ps) (F : FG X.prog X.w X.K X.mg X.base cx k f fd ps sp) (hg : X.A.guards = some []) (hr : Room k X.A) (hgl : Gl X x) (hx : Passes cx X E)
    (ha : PA X (e :: es) t) (hdb : (x == ("__debug__" : Str)) = false := by decide)
    (he : starEach (e :: es) X.env = (false, eval e X.env) :: starEach es X.env := by rfl)
    (hpl : (backTo pos (starEach es X.env)).any (·.1) = false := by rfl) :
    PE X (.Call (.Name x p) (e :: es) [] pos) (fun σ H Q => t σ H fun vs H1 => sp vs H1 Q E) := by
  refine ⟨fun pins s σ H Q I h => wpAny_Call_Name_kw (ld_glob I hgl C.mg ?_ hdb)⟩
  refine PySem.W.callWith_K (h₀ := X.base) I.ok.mod.kin C.kp ?_ he hpl
  exact thn (ha.run pos pins s σ H _ I h) fun us s1 ⟨vs, H1, I1, r, q⟩ => ⟨I1.kIn, run_g F hg hr C.bd hx I1 r q⟩
/-- the body of a def of the text -/
theorem fg_of {P : Program} {w : World} {K : PySem.W.Frag} {mg : Str → Option Value} {base : Heap} {name qual : Str} {prm : Arguments} {body : List Stmt} {sc : Scope} {dV kV doc pm cdv ct oc : Value} {an od : Option Addr}
    {osl : Array (Option Value)} {N : List Str} (lk : K.lookup f = some ⟨oc, od, .func (PySem.W.fnOf name qual prm body sc dV kV doc pm an cdv ct), osl⟩)
    (hcd : PySem.W.codeIn K cdv qual = true) (S : FnScope N ps sc) (len : ∀ vs H Q E, sp vs H Q E → vs.length = ps.length)
    (hbody : ∀ (A : Around) (out : List Env) (s : Shared) (H : Hp) (vs : List V) (Q : VK) (E : XK), (A.deeper (envOfC qual sc s.heap.objs.size f cdv)).guards = some [] → Room k (A.deeper (envOfC qual sc s.heap.objs.size f cdv)) → sp vs H Q E →
      ∃ t, PSs (cxOf cx P w K mg base N qual sc f cdv A out s H E) body t ∧ t { nx := fun _ H' => Q .non H', rt := Q } (start N vs) H) :
    FG P w K mg base cx (k + 1) f (PySem.W.fnOf name qual prm body sc dV kV doc pm an cdv ct) ps sp := by
  refine ⟨len, fun A out s H as us vs Q E hg hr e0 hb r hsp => ?_⟩
  have KX : K.In s.heap := e0.mod.kin.keeps fun b o z => (e0.bs b o z).1
  have lim : s.heap.NoLimit := e0.mod.nolimit.keeps fun b o z => (e0.bs b o z).1
  refine codeAny_call_function hr.depth (KX _ _ lk) rfl S.co S.gen rfl (PySem.W.codeRec_of KX hcd) (hb _ _ _ _ ?_)
  refine wpAny_newFunctionEnv_cells S.kind (fun ⟨n, v⟩ hy => ?_) fun env he s1 z => ?_
  · rcases S.par n (List.of_mem_zip hy).1 with q | q
    · exact Or.inl q
    · exact Or.inr ⟨q, PySem.W.cellsFrom_some _ _ _ (Or.inl q)⟩
  · subst he
    refine ⟨lim.keeps z.toInCall.keep, codeAny_func ?_⟩
    obtain ⟨t, ht, hq⟩ := hbody A out s H vs Q E hg (hr.deeper _) hsp
    have I := inv_start (CX := cx) (P := P) (w := w) (K := K) (mg := mg) (base := base) (E := E) S hr.hd e0 (len _ _ _ _ hsp) r z
    refine wpAny_mono (ht.run [] s1 (start N vs) H _ I hq) (fun fl s2 hs => ?_) fun er s2 hs => hs
    rcases fl with u | _ | _ | _
    · obtain ⟨σ2, H2, J, q⟩ := hs
      exact ⟨V.non, H2, J.os, J.bare, J.base, J.hok, rfl, q⟩
    all_goals first
      | (obtain ⟨v, σ2, H2, J, rv, q⟩ := hs; exact ⟨v, H2, J.os, J.bare, J.base, J.hok, rv, q⟩)
      | (obtain ⟨σ2, H2, J, q⟩ := hs; exact ⟨V.non, H2, J.os, J.bare, J.base, J.hok, rfl, q⟩)
      | (obtain ⟨_, _, _, q⟩ := hs; exact q.elim)
end
section
variable {P : Program} {w : World} {K : PySem.W.Frag} {mg : Str → Option Value} {base : Heap}
theorem ok {x qual : Str} {st : Stmt} {f : Addr} {fd : FuncData} {N ps : List Str} {k : Nat} {sp : Sp} (F : Fun K x qual st f fd) (S : FnScope N ps (defScope st)) (len : ∀ vs H Q E, sp vs H Q E → vs.length = ps.length)
    (hbody : ∀ (cdv : Value) (A : Around) (out : List Env) (s : Shared) (H : Hp) (vs : List V) (Q : VK) (E : XK), (A.deeper (envOfC qual (defScope st) s.heap.objs.size f cdv)).guards = some [] → Room k (A.deeper (envOfC qual (defScope st) s.heap.objs.size f cdv)) → sp vs H Q E →
      ∃ t, PSs (cxOf CX0 P w K mg base N qual (defScope st) f cdv A out s H E).nox (defBody st) t ∧ t { nx := fun _ H' => Q .non H', rt := Q } (start N vs) H) : FG P w K mg base CX0 (k + 1) f fd ps sp := by
  obtain ⟨oc, od, kV, doc, pm, an, cdv, ct, osl, rfl, lk, hcd⟩ := F.ex
  refine fg_of lk hcd S len fun A out s H vs Q E hg hr hsp => ?_
  obtain ⟨t, h, q⟩ := hbody cdv A out s H vs Q E hg hr hsp
  exact ⟨t, h.nox, q⟩
end
end Gd

namespace Gd
open PySem PySem.Spec PyProof.Rows L2
/-! ### xs.extend(a tuple) -/
section
open Sem (wp)
theorem ext_tup (l : Addr) (xs : Array Value) (n : Nat) (b : Addr) (ys : Array Value) (m : Nat) (dd : Option Addr) (sl : Array (Option Value))
    (h0 : ¬(!xs.isEmpty && Builtin.List.listTooLong (xs.size + ys.size)) = true) (h1 : xs.size ≤ sizeLine) (h2 : xs.size + ys.size ≤ sizeLine + 1) :
    Meets (Builtin.«list.extend» ⟨[.ref l, .ref b], []⟩) (fun _ R s =>
      s.heap.get? l = some { cls := .type "list", dict := none, data := .seq xs n, slots := #[] } ∧
      s.heap.get? b = some { cls := .type "tuple", dict := dd, data := .seq ys m, slots := sl } ∧
      R (.ok (.ret Value.none)) { s with heap := s.heap.update l (Obj.mapSeq fun x => x ++ ys), toks := s.toks }) :=
  .of_wp fun prog w A R s h => by
    obtain ⟨hp, g, d, tk, os⟩ := s
    obtain ⟨hl, hb, h⟩ := h
    have f1 := PySem.AutoSeq1.idx_int
    have f2 := PySem.AutoSeq1.sub_tuple_tuple
    have f3 := PySem.AutoSeq1.sub_list_list
    have f4 := PySem.AutoSeq1.sub_tuple_list
    have f5 := PySem.AutoSeq1.sub_list_tuple
    have hz : (xs ++ ys).size ≤ sizeLine + 1 := by rw [Array.size_append]; exact h2
    wp_walk using (wpAny_updateSeq hl rfl (hz := h1) (_hz' := hz)), wpAny_loadPart' hl, wpAny_loadPart' hb
    exact ⟨_, rfl, h⟩
end
def rExtT (K : PySem.W.Frag) : V → List V → Hp → VK → Prop := fun x vs H Q =>
  ∃ l b xs zs, x = .ref l ∧ vs = [.ref b] ∧ H l = some (.lst xs) ∧ SqT K H b zs ∧ xs.length + zs.length ≤ sizeLine ∧ Q .non (upd H l (.lst (xs ++ zs)))
section
variable {X : Cx}
theorem mt_extT : MtM X "list.extend" (rExtT X.K) := by
  rintro pins s σ H x xs v us Q I rx rv ⟨l, b, xs, zs, rfl, rfl, hH, hB, hz, q⟩
  cases rx
  obtain ⟨u, rfl, ru⟩ := rv.one
  cases ru
  obtain ⟨z, its, n, r, hl, e⟩ := I.lstM hH
  obtain ⟨its2, r2, ht, hz2⟩ := I.tuple hB
  have h2 := r2.length
  obtain ⟨⟨cls2, dd2, data2, sl2⟩, ho2, hc2, n2, hd2⟩ := ht
  dsimp only at hc2 hd2
  subst hc2
  subst hd2
  have a1 : its.toArray.size + its2.toArray.size ≤ sizeLine := by
    rw [List.size_toArray, List.size_toArray]
    omega
  have a2 : ¬ (!its.toArray.isEmpty && Builtin.List.listTooLong (its.toArray.size + its2.toArray.size)) = true := by
    rw [notLongL a1, Bool.and_false]
    decide
  have a3 : its.toArray.size ≤ sizeLine := by
    rw [List.size_toArray]
    omega
  refine call_meets F.slot_list_extend ⟨_, e, rfl⟩ F.entry_list_extend (F.args_list_extend_2 _ _)
    (ext_tup l its.toArray n b its2.toArray n2 dd2 sl2 a2 a3 (Nat.le_succ_of_le a1)) ⟨e, ho2, ?_⟩
  refine ⟨.non, _, I.lset (its' := its ++ its2) hH e (by simp) (r.append r2) ?_, rfl, q⟩
  rw [List.length_append]
  omega
end
/-! ### t[::-1], t a tuple (of fewer than two items: its whole? no: a new tuple of the same items) -/
section
variable {prog : Program} {w : World} {A : Around} {E : Value → Shared → Prop} {s : Shared}
theorem backSlice {sl : Addr} {v : Value} {n : Nat} {Q : Int × Int × Nat → Shared → Prop} (hs : s.heap.IsSliceOf sl .none .none v) (pv : IsPart v (some (-1)))
    (h : Q ((n : Int) - 1, -1, n) s) : wpAny (model prog w) A (Builtin.Slice.sliceApplied (.ref sl) (pure (n : Int))) Q E s := by
  obtain ⟨os, hos, hcs, hds⟩ := id hs
  unfold Builtin.Slice.sliceApplied Builtin.Slice.sliceFields
  refine wpAny_bind (wpAny_bind (wpAny_field hos hds (x := .none) rfl (wpAny_bind (wpAny_field hos hds (x := .none) rfl (wpAny_bind (wpAny_field hos hds (x := v) rfl (wpAny_pure ?_)))))))
  refine wpAny_bind (HT.slicePart_ pv ?_)
  show wpAny _ _ (if ((-1 : Int) == 0) = true then _ else _) _ _ s
  rw [if_neg (by decide)]
  refine wpAny_bind (slicePart_none (wpAny_bind (slicePart_none (wpAny_bind (wpAny_pure ?_)))))
  have e1 : Builtin.Slice.sliceAdjust none none (-1) (n : Int) = ((n : Int) - 1, -1) := rfl
  have e2 : Builtin.Slice.slicePlaces ((n : Int) - 1) (-1) (-1) = n := by
    unfold Builtin.Slice.slicePlaces
    rw [if_neg (by decide)]
    split
    · have : ((n : Int) - 1 - -1 - 1) / -(-1) = (n : Int) - 1 := by
        rw [show -(-1 : Int) = 1 from rfl, Int.ediv_one]
        omega
      rw [this]
      omega
    · omega
  show wpAny _ _ (match Builtin.Slice.sliceAdjust none none (-1) (n : Int) with | (lo, hi) => pure (lo, (-1 : Int), Builtin.Slice.slicePlaces lo hi (-1))) _ _ s
  rw [e1]
  show wpAny _ _ (pure ((n : Int) - 1, (-1 : Int), Builtin.Slice.slicePlaces ((n : Int) - 1) (-1) (-1))) _ _ s
  rw [e2]
  exact wpAny_pure h
theorem fm_congr {α : Type} {f g : Nat → Option α} : ∀ l : List Nat, (∀ m, m ∈ l → f m = g m) → l.filterMap f = l.filterMap g
  | [], _ => rfl
  | m :: l, h => by
    simp only [List.filterMap_cons, h m List.mem_cons_self, fm_congr l fun k hk => h k (List.mem_cons_of_mem _ hk)]
theorem fm_all {α : Type} (l : List α) : (List.range l.length).filterMap (fun m => l[m]?) = l := by
  apply List.ext_getElem?
  intro i
  have key : ∀ n, n ≤ l.length → (List.range n).filterMap (fun m => l[m]?) = l.take n := by
    intro n
    induction n with
    | zero => intro _; rfl
    | succ n ih =>
      intro hn
      rw [List.range_succ, List.filterMap_append, ih (by omega), List.filterMap_cons, List.getElem?_eq_getElem (by omega : n < l.length)]
      simp only [List.filterMap_nil]
      exact (List.take_succ_eq_append_getElem (by omega)).symm
  rw [key _ (Nat.le_refl _), List.take_length]
theorem backPick (xs : Array Value) : ((List.range xs.size).filterMap fun (m : Nat) => xs[(((xs.size : Nat) : Int) - 1 + (m : Int) * -1).toNat]?).toArray = xs.toList.reverse.toArray := by
  congr 1
  obtain ⟨l⟩ := xs
  simp only [List.size_toArray, List.getElem?_toArray]
  have e : (List.range l.length).filterMap (fun (m : Nat) => l[((l.length : Int) - 1 + (m : Int) * -1).toNat]?) = (List.range l.reverse.length).filterMap (fun m => l.reverse[m]?) := by
    rw [List.length_reverse]
    apply fm_congr
    intro m hm
    have hm' : m < l.length := List.mem_range.mp hm
    rw [show ((l.length : Int) - 1 + (m : Int) * -1).toNat = l.length - 1 - m by omega, List.getElem?_reverse hm']
  rw [e, fm_all]
theorem getItem_tuple_back {t sl : Addr} {items : Array Value} {v : Value} {Q : Value → Shared → Prop} (ht : IsTup s.heap t items) (hs : s.heap.IsSliceOf sl .none .none v) (pv : IsPart v (some (-1)))
    (h : Q (.ref s.heap.objs.size) { s with heap := s.heap.push { cls := .type "tuple", data := .seq items.toList.reverse.toArray } })
    (hsz : items.size ≤ sizeLine) : wpAny (model prog w) A (getItem (.ref t) (.ref sl)) Q E s := by
  have hfit : sizeOk (.seq items.toList.reverse.toArray) := by
    show items.toList.reverse.toArray.size ≤ sizeLine
    rw [List.size_toArray, List.length_reverse, Array.length_toList]
    exact hsz
  obtain ⟨os, hos, hcs, hds⟩ := id hs
  have hTs : s.TypeIs (.ref sl) "slice" := ⟨os, hos, hcs⟩
  unfold getItem
  try with_reducible refine wpAny_holding ?_
  first | refine wpAny_bind (wpAny_pure ?_) | skip
  refine wpAny_bind (wpAny_sequenceKey ht.typeIs (by decide) ?_)
  refine wpAny_bind (wpAny_callSpecial?_slot (name := Str.ofString "__getitem__") ht.typeIs PyProof.Rows.slot_tuple_getitem
    (wpAny_call_entry PyProof.Rows.slot_tuple_getitem ht.typeIs entry_tuple_getitem ?_ (args_tuple_getitem _ _)))
  show wpAny _ _ (Builtin.Tuple.tupleItemsOf (.ref t) >>= _) _ _ s
  refine wpAny_bind (tupleItemsOf_ ht (wpAny_bind (wpAny_typeOf hTs ?_)))
  rw [if_pos (by decide)]
  refine wpAny_bind (backSlice hs pv ?_)
  have hno : ¬ ((((items.size : Nat) : Int) - 1 == 0 && (-1 : Int) == 1 && items.size == items.size) = true) := by
    simp
  show wpAny _ _ (if (((items.size : Nat) : Int) - 1 == 0 && (-1 : Int) == 1 && items.size == items.size) = true then _ else _) _ _ s
  rw [if_neg hno, backPick]
  first
    | exact wpAny_bind (m := Builtin.Tuple.tupleExact _) (wpAny_newObj_type (wpAny_pure ⟨_, rfl, wpAny_pure h⟩) hfit)
    | exact wpAny_bind (m := Builtin.Tuple.tupleExact _) (wpAny_newObj_type (wpAny_bind (wpAny_pure (wpAny_pure ⟨_, rfl, wpAny_pure h⟩))) hfit)
    | exact wpAny_bind (wpAny_bind (m := Builtin.Tuple.tupleExact _) (wpAny_newObj_type (wpAny_pure (wpAny_pure ⟨_, rfl, wpAny_pure h⟩)) hfit))
    | exact wpAny_bind (wpAny_bind (m := Builtin.Tuple.tupleExact _) (wpAny_newObj_type (wpAny_pure ⟨_, rfl, wpAny_pure h⟩) hfit))
end
def tBackT (K : PySem.W.Frag) (te : TE) : TE := fun σ H Q => te σ H fun x H1 => ∃ a xs, x = .ref a ∧ SqT K H1 a xs ∧ ∀ p, H1 p = none → Q (.ref p) (upd H1 p (.tup xs.reverse))
section
variable {X : Cx}
theorem pe_backT {e : Expr} {te : TE} {k : Nat} {p1 p2 p3 pos : Pos} (he : PE X e te) :
    PE X (.Subscript e (.Slice none none (some (.UnaryOp .USub (.Constant (.int 1) k p1) p2)) p3) pos) (tBackT X.K te) := by
  refine ⟨fun pins s σ H Q I h => Subscript_ (thn (he.run pins s σ H _ I h) fun v s1 ⟨x, H1, I1, r1, a, xs, ex, hx, q⟩ => ?_)⟩
  subst ex
  cases r1
  have st : PO X (some (.UnaryOp .USub (.Constant (.int 1) k p1) p2)) (tPart (tUn (rU fun i => .int (-i)) (tC (.int 1)))) := po_some (pe_un un_neg pe_int)
  refine wpAny_Slice (thn (po_none.run pins s1 σ H1 (fun o H2 => o = none ∧ H2 = H1) I1 ⟨rfl, rfl⟩) fun vl s2 ⟨l, H2, I2, pl, el, e2⟩ => ?_)
  subst el e2
  refine thn (po_none.run pins s2 σ H2 (fun o H3 => o = none ∧ H3 = H2) I2 ⟨rfl, rfl⟩) fun vu s3 ⟨u, H3, I3, pu, eu, e3⟩ => ?_
  subst eu e3
  refine thn (st.run pins s3 σ H3 (fun o H4 => o = some (-1) ∧ H4 = H3) I3 ⟨1, rfl, -1, rfl, rfl, rfl⟩) fun vs s4 ⟨o, H4, I4, ps, eo, e4⟩ => ?_
  subst eo e4
  cases pl
  cases pu
  have I5 : Inv X pins σ H4 { s4 with heap := s4.heap.push { cls := .type "slice", data := .fields #[.none, .none, vs] } } := I4.kept (t' := s4.toks) fun b ob z => Heap.get?_push_of_some _ z
  obtain ⟨its, r, ht, hz⟩ := I5.tuple hx
  have hlen : its.toArray.size ≤ sizeLine := by
    rw [List.size_toArray, ← r.length]
    exact hz
  refine tail_any (ops := [.ref a, .ref s4.heap.objs.size]) ht.typeIs PyProof.Rows.slot_tuple_getitem.lookup ?_ (by with_unfolding_all rfl)
  refine getItem_tuple_back ht (Heap.IsSliceOf.new _ .none .none vs) ps ?_ hlen
  refine ⟨.ref _, _, I5.laid (t' := s4.toks) (o := .tup xs.reverse) (fun b ob z => Heap.get?_push_of_some _ z) (Nat.le_refl _) ?_, rfl, q _ (I5.hok.fresh (Nat.le_refl _))⟩
  exact ⟨by rw [List.length_reverse]; exact hz, its.reverse, r.reverse, ⟨_, Heap.get?_push_size _ rfl, rfl, _, rfl⟩⟩
end
end Gd

namespace Gd
open PySem PySem.Spec PyProof.Rows L2
/-! ### repr(x), x any data -/
def rRepr (K : PySem.W.Frag) : List V → Hp → VK → Prop := fun xs H Q =>
  ∃ x d, xs = [x] ∧ Dp K H x d ∧ d.showable = true ∧ d.depth ≤ 180 ∧ d.shown.length ≤ sizeLine ∧ Q (.str d.shown) H
mutual
theorem dp_plain {K : PySem.W.Frag} {H : Hp} : ∀ {v : V} {d : PyData}, Dp K H v d → d.hasDict = false
  | _, _, .non => by simp only [PyData.hasDict]
  | _, _, .bl _ => by simp only [PyData.hasDict]
  | _, _, .int _ => by simp only [PyData.hasDict]
  | _, _, .str _ => by simp only [PyData.hasDict]
  | _, _, .lst _ h => by simp only [PyData.hasDict]; exact dp_plains h
  | _, _, .tup _ h => by simp only [PyData.hasDict]; exact dp_plains h
theorem dp_plains {K : PySem.W.Frag} {H : Hp} : ∀ {vs : List V} {ds : List PyData}, DpAll K H vs ds → PyData.hasDictAll ds = false
  | _, _, .nil => by simp only [PyData.hasDictAll]
  | _, _, .cons h t => by simp only [PyData.hasDictAll, dp_plain h, dp_plains t, Bool.or_false]
end
section
variable {X : Cx}
theorem call_repr (hg : X.A.guards = some []) (hu : X.A.units + 200 < cLine) : CallR X (.builtin "repr") (rRepr X.K) := by
  rintro pins s σ H xs us Q I r ⟨x, d, rfl, hd, hs, hdp, hz, q⟩
  obtain ⟨u, rfl, ru⟩ := Vals.one r
  have hh := dp_plain hd
  obtain ⟨as, rd⟩ := Dp.reads I d x u hd ru
  cases hd with
  | non => cases ru; exact PySem.P.repr_of_none ⟨.str _, H, I.tok _, ⟨_, rfl⟩, q⟩
  | bl b => cases ru; exact PySem.P.repr_of_bool ⟨.str _, H, I.tok _, ⟨_, rfl⟩, q⟩
  | int i =>
    obtain ⟨t, rfl⟩ := ru
    exact PySem.P.repr_of_int (by simpa [PyData.showable] using hs) ⟨.str _, H, I.tok _, ⟨_, rfl⟩, q⟩
  | str y =>
    obtain ⟨t, rfl⟩ := ru
    exact PySem.P.repr_of_str ⟨.str _, H, I.tok _, ⟨_, rfl⟩, q⟩ hz
  | lst h1 h2 =>
    cases ru
    exact repr_of_reads' rd hs (PyData.noDict_hsm hh) hg (by omega) (fun _ _ e => e) (fun h' t tk hk => ⟨.str _, H, I.kept (t' := tk) hk, ⟨_, rfl⟩, q⟩) hz
  | tup h1 h2 =>
    cases ru
    exact repr_of_reads' rd hs (PyData.noDict_hsm hh) hg (by omega) (fun _ _ e => e) (fun h' t tk hk => ⟨.str _, H, I.kept (t' := tk) hk, ⟨_, rfl⟩, q⟩) hz
end
/-! ### the law's own call -/
theorem law_end {P : Program} {w : World} {K : PySem.W.Frag} {mg mb : Str → Option Value} {k : Nat} {fa a : Addr} {fd : FuncData} {x : Str} {sp : Sp} {s1 : Shared} {us : List Value} {ns : List Int}
    (KX : K.In s1.heap) (gl : s1.heap.Ns mainGlobals mg) (bl : s1.heap.Ns builtinsNs mb) (bb : ∀ x : Str, x ≠ "__name__" → mb x = bootBuiltins x) (lim : s1.heap.NoLimit) (hg : s1.gens = #[])
    (ha : s1.heap.get? a = some { cls := .type "list", data := .seq us.toArray }) (hi : IntsAre us ns) (hl : ns.length ≤ sizeLine) (hr : Room k callerA)
    (F : ∀ base : Heap, K.In base → base.Ns mainGlobals mg → FG P w K mg base CX0 k fa fd [x] sp) (hb : ∀ (s : Shared) (u : Value), BindsTo s fd ⟨[u], []⟩ [(x, u)])
    (hsp : ∀ H : Hp, Only H → SqL K H a (ns.map V.int) → sp [.ref a] H (fun v _ => v = .bl true) fun _ _ _ => False) :
    codeAny (model P w) callerA (.call (.ref fa) ⟨[.ref a], []⟩) (fun r s2 => r = .ok (.ret (.bool true)) ∧ OldK s1.heap s2.heap ∧ s2.os = s1.os ∧ AllBare s2.gens) s1 := by
  have rv := L2.vals_ints hi
  have hlu := hi.length
  -- nothing is tracked, or the script alone
  obtain ⟨H, only, sq, held, alone, own⟩ : ∃ H : Hp, Only H ∧ SqL K H a (ns.map V.int) ∧ HOk P w H s1.heap ∧ (∀ b, H b ≠ none → b = a) ∧ (H a ≠ none → K.lookup a = none) := by
    cases hk : K.lookup a with
    | some o =>
      have e := KX a o hk
      rw [ha] at e
      cases e
      refine ⟨fun _ => none, fun _ => Or.inl rfl, Or.inr ⟨_, us.toArray, _, hk, rfl, rfl, rfl, ?_, ?_⟩, fun b u z => ?_, fun b z => absurd rfl z, fun z => absurd rfl z⟩
      · rw [List.size_toArray, hlu]; exact hl
      · simpa using rv
      · exact nomatch (show (none : Option HO) = some u from z)
    | none =>
      refine ⟨fun b => if b = a then some (.frz { cls := .type "list", data := .seq us.toArray } (.lst (ns.map V.int))) else none, fun b => ?_, Or.inl (Or.inr ⟨_, if_pos rfl⟩), fun b u z => ?_, fun b z => ?_, fun _ => rfl⟩
      · by_cases c : b = a
        · exact Or.inr ⟨_, _, if_pos c⟩
        · exact Or.inl (if_neg c)
      · by_cases c : b = a
        · have z2 := (if_pos c).symm.trans z
          cases z2
          subst c
          exact ⟨ha, by rw [List.length_map]; exact hl, us, _, rv, ha⟩
        · exact nomatch (if_neg c).symm.trans z
      · by_cases c : b = a
        · exact c
        · exact absurd (if_neg c) z
  have away : ∀ {b : Addr} {o : Obj}, s1.heap.get? b = some o → (∀ ws n, o.data ≠ .seq ws n) → H b = none := fun {b o} e nd => by
    cases c : H b with
    | none => rfl
    | some u =>
      have z := alone b (by rw [c]; exact nofun)
      subst z
      rw [ha] at e
      cases e
      exact absurd rfl (nd _ _)
  have ns0 : ∀ {b : Addr} {m : Str → Option Value}, s1.heap.Ns b m → (hidT s1.heap H).Ns b m := fun {b m} ⟨o, es, ep, e, d, r⟩ =>
    ⟨o, es, ep, hidT_get e (away e fun ws n z => nomatch d.symm.trans z), d, r⟩
  have kin : K.In (hidT s1.heap H) := fun b o e => hidT_get (KX b o e) (by
    cases c : H b with
    | none => rfl
    | some u =>
      have z := alone b (by rw [c]; exact nofun)
      subst z
      rw [own (by rw [c]; exact nofun)] at e
      cases e)
  have hM : Mod K mg (hidT s1.heap H) := ⟨kin, ns0 gl, ⟨mb, ns0 bl, bb⟩, let ⟨mc, h1, h2⟩ := lim; ⟨mc, ns0 h1, h2⟩⟩
  have e0 : Env0 P w K mg (hidT s1.heap H) callerA [] s1 H := ⟨rfl, hM, fun b o e => of_hidT e, Nat.le_of_eq (hidT_size _ _), trivial, fun b z => (List.not_mem_nil z).elim, held, .of_eq hg⟩
  refine codeAny_mono ((F _ kin (ns0 gl)).run callerA [] s1 H ⟨[.ref a], []⟩ [.ref a] [.ref a] _ _ rfl hr e0 (hb s1 (.ref a)) (.cons rfl .nil) (hsp H only sq)) fun r s2 h => ?_
  rcases r with er | fl
  · exact False.elim h
  · cases fl
    case ret u =>
      skip
      first
      | exact False.elim h
      | (obtain ⟨v, H2, os, bare, un, held2, r2, q⟩ := h
         have q' : v = .bl true := q
         subst q'
         obtain rfl : u = Value.bool true := r2
         refine ⟨rfl, OldK.of_keep fun b o e => ?_, os, bare⟩
         cases c : H b with
         | none => exact un.keep b o e c (fun z => (List.not_mem_nil z).elim) List.not_mem_nil
         | some y =>
           rcases only b with z | ⟨ob, ys, z⟩
           · rw [c] at z; cases z
           · obtain ⟨e1, _⟩ := held b _ z
             obtain ⟨e2, _⟩ := held2 b _ (un.frzs b ob _ z)
             rw [e] at e1
             cases e1
             exact e2)
    all_goals exact False.elim h
theorem walk_g {l : PySem.W.OpenLaw} {n k : Nat} {q : Program} {loose : List Str} {XP : (Str → Option Value) → Heap → Prop} {YP : World → Heap → Prop} {d : DefRec} {K : Params → PySem.W.Frag} {sp : PySem.W.Frag → Sp} {x : Str}
    (hn : l.most = some n) (hn2 : n ≤ sizeLine) (hdf : d.params.defaults = []) (hr : Room k callerA)
    (hY : ∀ (w : World) (h : Heap), YP w h → (K w.params).In h)
    (F : ∀ (w : World) (mg : Str → Option Value) (fa : Addr) (h : Heap), (K w.params).In h → h.Ns mainGlobals mg → mg d.name = some (.ref fa) →
      ∃ fd : FuncData, (∀ (s : Shared) (u : Value), BindsTo s fd ⟨[u], []⟩ [(x, u)]) ∧
        ∀ base : Heap, (K w.params).In base → base.Ns mainGlobals mg → FG l.prog w (K w.params) mg base CX0 k fa fd [x] (sp (K w.params)))
    (hsp : ∀ (K : PySem.W.Frag) (H : Hp) (a : Addr) (ns : List Int), ns.length ≤ n → Only H → SqL K H a (ns.map V.int) → sp K [.ref a] H (fun v _ => v = .bl true) fun _ _ _ => False) :
    PySem.W.WalkO q loose XP YP l.row.toRowW d [] (fun f vs => PySem.call f vs) := by
  refine Att.attach_call hn hdf fun w s0 s1 mg mb fa o pm cd doc a vs ns G Y ho hd hcd hmg hobj hints hlen hg => ?_
  have KX := hY w _ Y
  obtain ⟨fd, hb, hF⟩ := F w mg fa _ KX G.T.g hmg
  exact law_end KX G.T.g G.T.b G.T.builtins G.T.nolimit hg hobj hints (Nat.le_trans hlen hn2) hr hF hb fun H hO hS => hsp _ H a ns hlen hO hS
end Gd

namespace Gd
open PySem PySem.Spec PyProof.Rows L2
/-! ### how a heap goes on -/
/-- everything stays -/
abbrev Up (H H' : Hp) : Prop := ∀ (a : Addr) (o : HO), H a = some o → H' a = some o
/-- everything but what stands at b stays -/
abbrev Mv (b : Addr) (H H' : Hp) : Prop := ∀ (a : Addr) (o : HO), a ≠ b → H a = some o → H' a = some o
/-- the tuples stay -/
abbrev Tk (H H' : Hp) : Prop := ∀ (a : Addr) (xs : List V), H a = some (.tup xs) → H' a = some (.tup xs)
theorem Up.rf {H : Hp} : Up H H := fun _ _ h => h
theorem Up.tr {H H1 H2 : Hp} (a : Up H H1) (b : Up H1 H2) : Up H H2 := fun x o h => b x o (a x o h)
theorem Up.mv {H H1 : Hp} {b : Addr} (a : Up H H1) : Mv b H H1 := fun x o _ h => a x o h
theorem Mv.rf {b : Addr} {H : Hp} : Mv b H H := fun _ _ _ h => h
theorem Mv.tr {b : Addr} {H H1 H2 : Hp} (a : Mv b H H1) (c : Mv b H1 H2) : Mv b H H2 := fun x o n h => c x o n (a x o n h)
theorem Mv.wr {b : Addr} {H : Hp} {o : HO} : Mv b H (upd H b o) := fun x u n h => by rw [upd_ne n]; exact h
theorem Up.new {H : Hp} {p : Addr} {o : HO} (h : H p = none) : Up H (upd H p o) := fun x u e => by rw [upd_ne (ne_of_none e h)]; exact e
theorem Up.tk {H H1 : Hp} (a : Up H H1) : Tk H H1 := fun x xs h => a x _ h
theorem Mv.tk {b : Addr} {H H1 : Hp} {ys : List V} (a : Mv b H H1) (h : H b = some (.lst ys)) : Tk H H1 := fun x xs e => a x _ (ne_of e h nofun) e
theorem Tk.rf {H : Hp} : Tk H H := fun _ _ h => h
theorem Tk.tr {H H1 H2 : Hp} (a : Tk H H1) (b : Tk H1 H2) : Tk H H2 := fun x o h => b x o (a x o h)
theorem Up.fr {H H1 : Hp} {p : Addr} (a : Up H H1) (h : H1 p = none) : H p = none := by
  cases e : H p with
  | none => rfl
  | some o => rw [a p o e] at h; cases h
theorem Mv.fr {H H1 : Hp} {p b : Addr} {o : HO} (a : Mv b H H1) (hb : H1 b = some o) (h : H1 p = none) : H p = none := by
  cases e : H p with
  | none => rfl
  | some u =>
    by_cases c : p = b
    · subst c; rw [hb] at h; cases h
    · rw [a p u c e] at h; cases h
theorem Up.of {H H1 H2 : Hp} {p : Addr} (a : Up H H1) (n : H p = none) (m : Mv p H1 H2) : Up H H2 := fun x o e => m x o (ne_of_none e n) (a x o e)
theorem Mv.of {H H1 H2 : Hp} {b p : Addr} (a : Mv b H H1) (n : H p = none) (m : Mv p H1 H2) : Mv b H H2 := fun x o c e => m x o (ne_of_none e n) (a x o c e)
/-! ### data of tuples -/
mutual
/-- v is the data d, all of it in tuples -/
inductive Da (H : Hp) : V → PyData → Prop
  | non : Da H .non .none
  | str (x : Str) : Da H (.str x) (.str x)
  | tup {a : Addr} {xs : List V} {ds : List PyData} (h : H a = some (.tup xs)) (t : Das H xs ds) : Da H (.ref a) (.tuple ds)
inductive Das (H : Hp) : List V → List PyData → Prop
  | nil : Das H [] []
  | cons {v : V} {vs : List V} {d : PyData} {ds : List PyData} (h : Da H v d) (t : Das H vs ds) : Das H (v :: vs) (d :: ds)
end
mutual
theorem Da.tk {H H' : Hp} (k : Tk H H') : ∀ {v : V} {d : PyData}, Da H v d → Da H' v d
  | _, _, .non => .non
  | _, _, .str x => .str x
  | _, _, .tup h t => .tup (k _ _ h) (Das.tk k t)
theorem Das.tk {H H' : Hp} (k : Tk H H') : ∀ {vs : List V} {ds : List PyData}, Das H vs ds → Das H' vs ds
  | _, _, .nil => .nil
  | _, _, .cons h t => .cons (Da.tk k h) (Das.tk k t)
end
mutual
theorem Da.dp {K : PySem.W.Frag} {H : Hp} : ∀ {v : V} {d : PyData}, Da H v d → Dp K H v d
  | _, _, .non => .non
  | _, _, .str x => .str x
  | _, _, .tup h t => .tup (SqT.of h) (Das.dp t)
theorem Das.dp {K : PySem.W.Frag} {H : Hp} : ∀ {vs : List V} {ds : List PyData}, Das H vs ds → DpAll K H vs ds
  | _, _, .nil => .nil
  | _, _, .cons h t => .cons (Da.dp h) (Das.dp t)
end
theorem Da.up {H H' : Hp} {v : V} {d : PyData} (h : Da H v d) (k : Up H H') : Da H' v d := h.tk k.tk
theorem Das.up {H H' : Hp} {v : List V} {d : List PyData} (h : Das H v d) (k : Up H H') : Das H' v d := h.tk k.tk
theorem Das.length {H : Hp} : ∀ {vs : List V} {ds : List PyData}, Das H vs ds → vs.length = ds.length
  | _, _, .nil => rfl
  | _, _, .cons _ t => by simp [Das.length t]
theorem Das.app {H : Hp} : ∀ {vs ws : List V} {ds es : List PyData}, Das H vs ds → Das H ws es → Das H (vs ++ ws) (ds ++ es)
  | _, _, _, _, .nil, h => h
  | _, _, _, _, .cons h t, g => .cons h (Das.app t g)
theorem Das.rev {H : Hp} {vs : List V} {ds : List PyData} (h : Das H vs ds) : Das H vs.reverse ds.reverse := by
  induction vs generalizing ds with
  | nil => cases h; exact .nil
  | cons v vs ih =>
    cases h with
    | cons a t =>
      rw [List.reverse_cons, List.reverse_cons]
      exact (ih t).app (.cons a .nil)
theorem Das.get {H : Hp} : ∀ {vs : List V} {ds : List PyData} {i : Nat} {d : PyData}, Das H vs ds → ds[i]? = some d → ∃ v, vs[i]? = some v ∧ Da H v d
  | _, _, _, _, .nil, e => by simp at e
  | _, _, 0, _, .cons h _, e => by
    simp only [List.getElem?_cons_zero, Option.some.injEq] at e
    subst e
    exact ⟨_, by simp, h⟩
  | _, _, i + 1, _, .cons _ t, e => by
    simp only [List.getElem?_cons_succ] at e
    obtain ⟨v, h1, h2⟩ := Das.get t e
    exact ⟨v, by simpa using h1, h2⟩
theorem Das.at {H : Hp} {vs : List V} {ds : List PyData} {i : Nat} {v : V} (h : Das H vs ds) (e : vs[i]? = some v) : ∃ d, ds[i]? = some d ∧ Da H v d := by
  have l := h.length
  have hi : i < ds.length := by rw [← l]; exact (List.getElem?_eq_some_iff.mp e).1
  obtain ⟨w, h1, h2⟩ := h.get (List.getElem?_eq_getElem hi)
  rw [e] at h1
  cases h1
  exact ⟨_, List.getElem?_eq_getElem hi, h2⟩
theorem Da.str_inv {H : Hp} {v : V} {x : Str} (h : Da H v (.str x)) : v = .str x := by cases h; rfl
theorem Da.non_inv {H : Hp} {v : V} (h : Da H v .none) : v = .non := by cases h; rfl
theorem Da.tup_inv {H : Hp} {v : V} {ds : List PyData} (h : Da H v (.tuple ds)) : ∃ a xs, v = .ref a ∧ H a = some (.tup xs) ∧ Das H xs ds := by
  cases h with
  | tup h t => exact ⟨_, _, rfl, h, t⟩
theorem Das.one {H : Hp} {xs : List V} {d : PyData} (h : Das H xs [d]) : ∃ v, xs = [v] ∧ Da H v d := by
  cases h with
  | cons a t => cases t; exact ⟨_, rfl, a⟩
theorem Das.two {H : Hp} {xs : List V} {d e : PyData} (h : Das H xs [d, e]) : ∃ v w, xs = [v, w] ∧ Da H v d ∧ Da H w e := by
  cases h with
  | cons a t =>
    obtain ⟨w, rfl, b⟩ := t.one
    exact ⟨_, _, rfl, a, b⟩
theorem Das.three {H : Hp} {xs : List V} {d e f : PyData} (h : Das H xs [d, e, f]) : ∃ v w u, xs = [v, w, u] ∧ Da H v d ∧ Da H w e ∧ Da H u f := by
  cases h with
  | cons a t =>
    obtain ⟨w, u, rfl, b, c⟩ := t.two
    exact ⟨_, _, _, rfl, a, b, c⟩
/-! ### readings, step by step -/
section
variable {σ : L2.St} {H : Hp} {Q : VK} {ta tb te : TE} {t : TA} {K : PySem.W.Frag} {D : Ends}
theorem r_var {i : Nat} {v : V} (h : σ[i]? = some (some v)) (q : Q v H) : tVar i σ H Q := ⟨v, h, q⟩
theorem r_c {v : V} (q : Q v H) : tC v σ H Q := q
theorem r_op {r : R2} (h : ta σ H fun x H1 => tb σ H1 fun y H2 => r x y H2 Q) : tOp r ta tb σ H Q := h
theorem r_un {r : V → Hp → VK → Prop} (h : ta σ H fun x H1 => r x H1 Q) : tUn r ta σ H Q := h
theorem r_neg {i : Int} {g : Int → V} (q : Q (g i) H) : rU g (.int i) H Q := ⟨i, rfl, q⟩
theorem r_i0 {g : Int → Int → V} {i j : Int} (q : Q (g i j) H) : rI0 g (.int i) (.int j) H Q := ⟨i, j, rfl, rfl, q⟩
theorem r_i {C : Int → Int → Prop} {g : Int → Int → V} {i j : Int} (c : C i j) (q : Q (g i j) H) : rI C g (.int i) (.int j) H Q := ⟨i, j, rfl, rfl, c, q⟩
theorem r_eqI {i j : Int} (q : Q (.bl (decide (i = j))) H) : rEq (.int i) (.int j) H Q := ⟨rfl, by
  have e : decide (V.int i = V.int j) = decide (i = j) := by
    by_cases c : i = j
    · subst c; simp
    · simp [c]
  rw [e]; exact q⟩
theorem r_eqS {x y : Str} (q : Q (.bl (decide (x = y))) H) : rEq (.str x) (.str y) H Q := ⟨rfl, by
  have e : decide (V.str x = V.str y) = decide (x = y) := by
    by_cases c : x = y
    · subst c; simp
    · simp [c]
  rw [e]; exact q⟩
theorem r_neI {i j : Int} (q : Q (.bl (!decide (i = j))) H) : rNe (.int i) (.int j) H Q := ⟨rfl, by
  have e : decide (V.int i = V.int j) = decide (i = j) := by
    by_cases c : i = j
    · subst c; simp
    · simp [c]
  rw [e]; exact q⟩
theorem r_neS {x y : Str} (q : Q (.bl (!decide (x = y))) H) : rNe (.str x) (.str y) H Q := ⟨rfl, by
  have e : decide (V.str x = V.str y) = decide (x = y) := by
    by_cases c : x = y
    · subst c; simp
    · simp [c]
  rw [e]; exact q⟩
theorem r_tup (h : t σ H fun xs H1 => xs.length ≤ 100000 ∧ ∀ p H2, H1 p = none → Up H1 H2 → H2 p = some (.tup xs) → Q (.ref p) H2)
    (mono : ∀ (R R' : List V → Hp → Prop), (∀ a b, R a b → R' a b) → t σ H R → t σ H R') : tTup t σ H Q :=
  mono _ _ (fun xs H1 ⟨l, k⟩ => ⟨Nat.le_trans l (by decide), fun p hp => k p _ hp (Up.new hp) upd_same⟩) h
theorem r_nil {R : List V → Hp → Prop} (q : R [] H) : tNil σ H R := q
theorem r_cons {R : List V → Hp → Prop} (h : ta σ H fun x H1 => t σ H1 fun xs H2 => R (x :: xs) H2) : tCons ta t σ H R := h
/-- a tuple, a list display: behind the items -/
def newT (Q : VK) (xs : List V) (H : Hp) : Prop := xs.length ≤ sizeLine ∧ ∀ p, H p = none → Q (.ref p) (upd H p (.tup xs))
def newL (Q : VK) (xs : List V) (H : Hp) : Prop := xs.length ≤ sizeLine ∧ ∀ p, H p = none → Q (.ref p) (upd H p (.lst xs))
def newB (K : PySem.W.Frag) (Q : VK) (x : V) (H : Hp) : Prop := ∃ a xs, x = .ref a ∧ SqT K H a xs ∧ ∀ p, H p = none → Q (.ref p) (upd H p (.tup xs.reverse))
theorem r_tup' (h : t σ H fun xs H1 => newT Q xs H1) : tTup t σ H Q := h
theorem r_lst' (h : t σ H fun xs H1 => newL Q xs H1) : tLst t σ H Q := h
theorem r_newT {xs : List V} (hn : xs.length ≤ 100000) (h : ∀ p H2, H p = none → Up H H2 → H2 p = some (.tup xs) → Q (.ref p) H2) : newT Q xs H :=
  ⟨Nat.le_trans hn (by decide), fun p hp => h p _ hp (Up.new hp) upd_same⟩
theorem r_newL {xs : List V} (hn : xs.length ≤ 100000) (h : ∀ p H2, H p = none → Up H H2 → H2 p = some (.lst xs) → Q (.ref p) H2) : newL Q xs H :=
  ⟨Nat.le_trans hn (by decide), fun p hp => h p _ hp (Up.new hp) upd_same⟩
theorem r_ifE {c : TT} (h : c σ H fun b H1 => if b = true then ta σ H1 Q else tb σ H1 Q) : tIf c ta tb σ H Q := h
theorem r_test {R : Bool → Hp → Prop} (h : te σ H fun x H1 => ∃ k, x = .bl k ∧ R k H1) : tTest te σ H R := h
theorem r_b {R : Bool → Hp → Prop} (h : te σ H fun x H1 => ∃ k, x = .bl k ∧ R k H1) : tB te σ H R := h
theorem r_bl {b : Bool} {R : Bool → Prop} (h : R b) : ∃ k, V.bl b = .bl k ∧ R k := ⟨b, rfl, h⟩
theorem r_and {c d : TT} {R : Bool → Hp → Prop} (h : c σ H fun b H1 => if b = true then d σ H1 R else R false H1) : tAnd c d σ H R := h
theorem r_or {c d : TT} {R : Bool → Hp → Prop} (h : c σ H fun b H1 => if b = true then R true H1 else d σ H1 R) : tOr c d σ H R := h
theorem r_not {c : TT} {R : Bool → Hp → Prop} (h : c σ H fun b H1 => R (!b) H1) : tNot c σ H R := h
theorem r_andV (h : ta σ H fun x H1 => ∃ k, x = .bl k ∧ if k = true then tb σ H1 Q else Q (.bl false) H1) : tAndV ta tb σ H Q := h
theorem r_orV (h : ta σ H fun x H1 => ∃ k, x = .bl k ∧ if k = true then Q (.bl true) H1 else tb σ H1 Q) : tOrV ta tb σ H Q := h
theorem r_cb {r : List V → Hp → VK → Prop} (h : t σ H fun vs H1 => r vs H1 Q) : tCB r t σ H Q := h
theorem r_bm0 {T : String} {r : V → List V → Hp → VK → Prop} (h : te σ H fun x H1 => tyV K T x H1 ∧ r x [] H1 Q) : tBM0 K T r te σ H Q := h
theorem r_bm {T : String} {r : V → List V → Hp → VK → Prop} (h : te σ H fun x H1 => tyV K T x H1 ∧ t σ H1 fun xs H2 => r x xs H2 Q) : tBM K T r te t σ H Q := h
theorem r_sl {r : V → Option Int → Option Int → Hp → VK → Prop} {tl th : TO} (h : te σ H fun x H1 => tl σ H1 fun l H2 => th σ H2 fun u H3 => r x l u H3 Q) : tSl r te tl th σ H Q := h
theorem r_nop {R : Option Int → Hp → Prop} (q : R none H) : tNoPart σ H R := q
theorem r_part {R : Option Int → Hp → Prop} (h : te σ H fun x H1 => ∃ i, x = .int i ∧ R (some i) H1) : tPart te σ H R := h
theorem r_int {i : Int} {R : Int → Prop} (q : R i) : ∃ j, V.int i = .int j ∧ R j := ⟨i, rfl, q⟩
theorem r_back (h : te σ H fun x H1 => newB K Q x H1) : tBackT K te σ H Q := h
theorem r_ixT {a : Addr} {i : Int} {v : V} {xs : List V} (h : H a = some (.tup xs)) (e : atI xs i = some v) (q : Q v H) : rIxT K (.ref a) (.int i) H Q := ⟨a, xs, i, v, rfl, rfl, SqT.of h, e, q⟩
theorem r_ixL {a : Addr} {i : Int} {v : V} {xs : List V} (h : H a = some (.lst xs)) (e : atI xs i = some v) (q : Q v H) : rIxL K (.ref a) (.int i) H Q := ⟨a, xs, i, v, rfl, rfl, SqL.of h, e, q⟩
theorem r_setL {p : Addr} {xs : List V} {k : Int} {j : Nat} {v : V} {R : Hp → Prop} (h : H p = some (.lst xs)) (e : ixN xs.length k = some j) (q : R (upd H p (.lst (xs.set j v)))) : rSetL (.ref p) (.int k) v H R := ⟨p, xs, k, j, rfl, rfl, h, e, q⟩
theorem r_seq {u : TS} {s : TS} (h : s { D with nx := u D } σ H) : tSeq s u D σ H := h
theorem r_nx (h : D.nx σ H) : tNext D σ H := h
theorem r_ret (h : te σ H D.rt) : tRet te D σ H := h
theorem r_drop (h : te σ H fun _ H1 => D.nx σ H1) : tDrop te D σ H := h
theorem r_asg {g : TG} (h : te σ H fun x H1 => g x σ H1 D.nx) : tAsg te g D σ H := h
theorem r_name {i : Nat} {v : V} {R : L2.St → Hp → Prop} (h : R (σ.set i (some v)) H) : gName i v σ H R := h
theorem r_sub {to ti : TE} {s : TSet} {v : V} {R : L2.St → Hp → Prop} (h : to σ H fun o H1 => ti σ H1 fun i H2 => s o i v H2 fun H3 => R σ H3) : gSub to ti s v σ H R := h
theorem r_ifS {c : TT} {a b : TS} (h : c σ H fun k H1 => if k = true then a D σ H1 else b D σ H1) : tIfS c a b D σ H := h
theorem r_par {i j : Nat} (h : t σ H fun vs H1 => ∃ v w, vs = [v, w] ∧ D.nx ((σ.set i (some v)).set j (some w)) H1) : tPar i j t D σ H := h
theorem r_2 {v w : V} {R : V → V → Prop} (h : R v w) : ∃ x y, [v, w] = [x, y] ∧ R x y := ⟨v, w, rfl, h⟩
theorem r_for {wi : TI} {g : TG} {tb : TS} (h : wi σ H fun J H1 => ∃ W : Nat → Nat → L2.St → Hp → Prop, (∃ m, W 0 m σ H1) ∧ ∀ i m σ H, W i m σ H →
  (J.stop i H ∧ D.nx σ H) ∨ (J.go i H ∧ ∃ N : L2.St → Hp → Prop, (∀ σ' H', N σ' H' → ∃ m', m' < m ∧ W (i + 1) m' σ' H') ∧ ∀ x H', J.yld i H x H' → g x σ H' fun σ2 H2 => tb { D with nx := N, ct := N, bk := D.nx } σ2 H2)) : tFor wi g tb D σ H := h
theorem r_appL {l : Addr} {xs : List V} {y : V} (h : H l = some (.lst xs)) (hl : xs.length < 100000) (q : Q .non (upd H l (.lst (xs ++ [y])))) : rAppend (.ref l) [y] H Q := ⟨l, xs, y, rfl, rfl, h, Nat.lt_of_lt_of_le hl (by decide), q⟩
theorem r_star {R : List V → Hp → Prop} (h : te σ H fun x H1 => ∃ p xs, x = V.ref p ∧ (SqT K H1 p xs ∨ SqL K H1 p xs) ∧ t σ H1 fun ys H2 => R (xs ++ ys) H2) : StX.tStar K te t σ H R := h
theorem ifT {b : Bool} {A B : Prop} (h : b = true) (q : A) : if b = true then A else B := by rw [if_pos h]; exact q
theorem ifF {b : Bool} {A B : Prop} (h : b = false) (q : B) : if b = true then A else B := by rw [if_neg (by rw [h]; decide)]; exact q
theorem ifD {p : Prop} [Decidable p] {A B : Prop} (h1 : p → A) (h2 : ¬ p → B) : if decide p = true then A else B := by
  by_cases c : p
  · rw [if_pos (by simpa using c)]; exact h1 c
  · rw [if_neg (by simpa using c)]; exact h2 c
theorem ifN {p : Prop} [Decidable p] {A B : Prop} (h1 : ¬ p → A) (h2 : p → B) : if (!decide p) = true then A else B := by
  by_cases c : p
  · rw [if_neg (by simpa using c)]; exact h2 c
  · rw [if_pos (by simpa using c)]; exact h1 c
end
end Gd
namespace Gd
open PySem PySem.Spec PyProof.Rows L2
section
variable {σ : L2.St} {H : Hp} {Q : VK} {K : PySem.W.Frag}
theorem eqV_str (a b : Str) : eqV (.str a) (.str b) = decide (b = a) := by
  simp only [eqV]
  by_cases c : b = a
  · subst c; simp
  · simp [c, Ne.symm c]
theorem r_in2 {p : Addr} {a b s : Str} (h : H p = some (.tup [.str a, .str b])) (q : Q (.bl (decide (s = a) || decide (s = b))) H) : rIn K false (.str s) (.ref p) H Q :=
  ⟨p, _, rfl, Or.inr (SqT.of h), rfl, rfl, by
    have e : inV (.str s) [.str a, .str b] = (decide (s = a) || decide (s = b)) := by simp only [inV, List.any_cons, List.any_nil, eqV_str, Bool.or_false]
    simp only [Bool.false_eq_true, if_false]
    rw [e]; exact q⟩
theorem r_ni2 {p : Addr} {a b s : Str} (h : H p = some (.tup [.str a, .str b])) (q : Q (.bl (!(decide (s = a) || decide (s = b)))) H) : rIn K true (.str s) (.ref p) H Q :=
  ⟨p, _, rfl, Or.inr (SqT.of h), rfl, rfl, by
    have e : inV (.str s) [.str a, .str b] = (decide (s = a) || decide (s = b)) := by simp only [inV, List.any_cons, List.any_nil, eqV_str, Bool.or_false]
    simp only [if_true]
    rw [e]; exact q⟩
/-- the slice of a tuple from its first place on: all but the first item -/
theorem r_from1 {a : Addr} {x : V} {xs : List V} (h : H a = some (.tup (x :: xs))) (q : ∀ p H2, Up H H2 → H2 p = some (.tup xs) → Q (.ref p) H2) : rSlA K (.ref a) (some 1) none H Q := by
  have e0 : HT.sIx (x :: xs).length 0 (some 1) = 1 := by
    have := HT.sIx_nat (x :: xs).length 0 1
    rw [show ((1 : Nat) : Int) = 1 from rfl] at this
    rw [this, List.length_cons]
    omega
  have e1 : HT.sIx (x :: xs).length (x :: xs).length none = (x :: xs).length := rfl
  have ec : cutV (x :: xs) (some 1) none = xs := by
    unfold cutV
    rw [e0, e1]
    simp
  refine ⟨a, _, rfl, SqT.of h, fun z => ?_, fun _ p hp => ?_⟩
  · rw [e0] at z; exact absurd z.1 (by decide)
  · rw [ec]; exact q p _ (Up.new hp) upd_same
theorem r_catA {a b : Addr} {xs ys : List V} (ha : H a = some (.tup xs)) (hb : H b = some (.tup ys)) (hl : xs.length + ys.length ≤ 100000) (q : ∀ p H2, Up H H2 → H2 p = some (.tup (xs ++ ys)) → Q (.ref p) H2) : rCatA K (.ref a) (.ref b) H Q := by
  refine ⟨a, b, xs, ys, rfl, rfl, SqT.of ha, SqT.of hb, Nat.le_trans hl (by decide), fun e => ?_, fun _ e => ?_, fun _ _ p hp => q p _ (Up.new hp) upd_same⟩
  · subst e; exact q b H Up.rf hb
  · subst e; exact q a H Up.rf (by rw [List.append_nil]; exact ha)
theorem r_nn {A : Prop} (h : A) : V.non = V.non ∧ A := ⟨rfl, h⟩
theorem r_notN {v : V} (q : Q (.bl (!decide (v = .non))) H) : (fun x y H (Q : VK) => y = V.non ∧ Q (.bl (!decide (x = .non))) H) v .non H Q := ⟨rfl, q⟩
theorem r_bk {a : Addr} {xs : List V} (h : H a = some (.tup xs)) (q : ∀ p H2, H p = none → Up H H2 → H2 p = some (.tup xs.reverse) → Q (.ref p) H2) : newB K Q (.ref a) H :=
  ⟨a, xs, rfl, SqT.of h, fun p hp => q p _ hp (Up.new hp) upd_same⟩
end
end Gd
namespace Gd
open PySem PySem.Spec PyProof.Rows L2
section
variable {σ : L2.St} {H : Hp} {Q : VK} {K : PySem.W.Frag}
theorem r_tyL {l : Addr} {xs : List V} {B : Prop} (h : H l = some (.lst xs)) (q : B) : tyV K "list" (.ref l) H ∧ B := ⟨Or.inl ⟨rfl, _, Or.inl (Or.inl h)⟩, q⟩
theorem r_tyS {x : Str} {B : Prop} (q : B) : tyV K "str" (.str x) H ∧ B := ⟨rfl, q⟩
theorem r_pop {l : Addr} {xs : List V} {y : V} (h : H l = some (.lst (xs ++ [y]))) (q : ∀ H2, Mv l H H2 → H2 l = some (.lst xs) → Q y H2) : rPop (.ref l) [] H Q :=
  ⟨l, _, y, rfl, rfl, h, by simp, by rw [List.dropLast_concat]; exact q _ Mv.wr upd_same⟩
theorem r_app {l : Addr} {xs : List V} {y : V} (h : H l = some (.lst xs)) (hl : xs.length < 100000) (q : ∀ H2, Mv l H H2 → H2 l = some (.lst (xs ++ [y])) → Q .non H2) : rAppend (.ref l) [y] H Q :=
  ⟨l, xs, y, rfl, rfl, h, Nat.lt_of_lt_of_le hl (by decide), q _ Mv.wr upd_same⟩
theorem r_ext {l b : Addr} {xs ys : List V} (h : H l = some (.lst xs)) (hb : H b = some (.tup ys)) (hl : xs.length + ys.length ≤ 100000) (q : ∀ H2, Mv l H H2 → H2 l = some (.lst (xs ++ ys)) → Q .non H2) : rExtT K (.ref l) [.ref b] H Q :=
  ⟨l, b, xs, ys, rfl, rfl, h, SqT.of hb, Nat.le_trans hl (by decide), q _ Mv.wr upd_same⟩
theorem r_truL {l : Addr} {xs : List V} {R : Bool → Prop} (h : H l = some (.lst xs)) (q : R (!xs.isEmpty)) : ∃ k, TruV K (.ref l) H k ∧ R k := ⟨_, Or.inl ⟨xs, SqL.of h, rfl⟩, q⟩
theorem Das.snoc {H : Hp} {ws : List V} {ds : List PyData} {d : PyData} (h : Das H ws (ds ++ [d])) : ∃ vs v, ws = vs ++ [v] ∧ Das H vs ds ∧ Da H v d := by
  induction ds generalizing ws with
  | nil =>
    obtain ⟨v, rfl, hv⟩ := h.one
    exact ⟨[], v, rfl, .nil, hv⟩
  | cons e ds ih =>
    cases h with
    | cons a t =>
      obtain ⟨vs, v, rfl, h1, h2⟩ := ih t
      exact ⟨_ :: vs, v, rfl, .cons a h1, h2⟩
end
end Gd
namespace Gd
open PySem PySem.Spec PyProof.Rows L2
section
variable {σ : L2.St} {H : Hp} {Q : VK} {K : PySem.W.Frag} {te : TE}
theorem r_lenL {l : Addr} {xs : List V} (h : H l = some (.lst xs)) (q : Q (.int xs.length) H) : (fun vs H (Q : VK) => ∃ p ys, vs = [V.ref p] ∧ (SqL K H p ys ∨ SqT K H p ys) ∧ Q (.int ys.length) H) [.ref l] H Q := ⟨l, xs, rfl, Or.inl (SqL.of h), q⟩
def lenN (K : PySem.W.Frag) (Q : VK) (vs : List V) (H : Hp) : Prop := ∃ p ys, vs = [V.ref p] ∧ (SqL K H p ys ∨ SqT K H p ys) ∧ Q (.int ys.length) H
theorem lenN_of {l : Addr} {xs : List V} (h : H l = some (.lst xs)) (q : Q (.int xs.length) H) : ∃ p ys, [V.ref l] = [V.ref p] ∧ (SqL K H p ys ∨ SqT K H p ys) ∧ Q (.int ys.length) H := ⟨l, xs, rfl, Or.inl (SqL.of h), q⟩
end
/-- what holds between two turns of a comprehension: R of the items made so far -/
def LcP (D : Addr) (R : Nat → List V → Hp → Prop) (i : Nat) (H : Hp) : Prop := ∃ acc, R i acc H ∧ acc.length ≤ i ∧ H D = some (.lst acc)
/-- the end of a turn that makes y -/
def LcE (D : Addr) (R : Nat → List V → Hp → Prop) (i : Nat) : VK := fun y H => ∃ acc, H D = some (.lst acc) ∧ acc.length < sizeLine ∧ LcP D R (i + 1) (upd H D (.lst (acc ++ [y])))
theorem LcE.of {D : Addr} {R : Nat → List V → Hp → Prop} {i : Nat} {y : V} {H : Hp} {acc : List V} (h : H D = some (.lst acc)) (l : acc.length ≤ i) (hi : i < 100000) (q : ∀ H2, Mv D H H2 → H2 D = some (.lst (acc ++ [y])) → R (i + 1) (acc ++ [y]) H2) : LcE D R i y H :=
  ⟨acc, h, Nat.lt_of_le_of_lt l (Nat.lt_of_lt_of_le hi (by decide)), acc ++ [y], q _ Mv.wr upd_same, by rw [List.length_append, List.length_singleton]; omega, upd_same⟩
def lcB (J : It) (g : TG) (tt : TT) (te : TE) (vs : List Nat) (σ : L2.St) (Q : VK) (H1 : Hp) : Prop := ∀ D, H1 D = none → ∃ W : Nat → Nat → Hp → Prop, (∃ m, W 0 m (upd H1 D (.lst []))) ∧ ∀ i m H, W i m H →
  (J.stop i H ∧ Q (.ref D) H) ∨ (J.go i H ∧ ∃ Nx : Hp → Prop, (∀ H', Nx H' → ∃ m', m' < m ∧ W (i + 1) m' H') ∧ ∀ x H', J.yld i H x H' → g x (wipe σ vs) H' fun σ2 H2 => wipe σ2 vs = wipe σ vs ∧ tt σ2 H2 fun b H3 =>
    if b = true then te σ2 H3 fun y H4 => ∃ acc, H4 D = some (.lst acc) ∧ acc.length < sizeLine ∧ Nx (upd H4 D (.lst (acc ++ [y]))) else Nx H3)
section
variable {K : PySem.W.Frag} {tl : TE} {g : TG} {tt : TT} {te : TE} {vs : List Nat} {σ : L2.St} {H H1 : Hp} {Q : VK}
theorem r_lc {wi : TI} (h : wi σ H fun J H1 => lcB J g tt te vs σ Q H1) : tLc wi g tt te vs σ H Q := h
theorem r_il {R : It → Hp → Prop} (h : tl σ H fun x H1 => ∃ a, x = V.ref a ∧ (∃ xs, SqL K H1 a xs) ∧ R (Itl K a) H1) : iList K tl σ H R := h
theorem r_it {R : It → Hp → Prop} (h : tl σ H fun x H1 => ∃ a, x = V.ref a ∧ (∃ xs, SqT K H1 a xs) ∧ R (Itt K a) H1) : iTup K tl σ H R := h
theorem r_ir {ta : TA} {R : It → Hp → Prop} (h : ta σ H fun vs H1 => ∃ j : Int, vs = [.int j] ∧ -(2 ^ 62) ≤ j ∧ j < 2 ^ 62 ∧ R (Itr 0 j.toNat) H1) : iRng1 ta σ H R := h
theorem lc_L {a : Addr} {xs : List V} (ha : H1 a = some (.lst xs)) (hl : xs.length ≤ 100000) (R : Addr → Nat → List V → Hp → Prop)
    (h0 : ∀ D H2, H1 D = none → Up H1 H2 → H2 D = some (.lst []) → R D 0 [] H2) (hs : ∀ D i acc H2, R D i acc H2 → H2 a = some (.lst xs))
    (ht : ∀ D i x acc H2, H1 D = none → xs[i]? = some x → R D i acc H2 → acc.length ≤ i → i < 100000 → H2 D = some (.lst acc) →
      g x (wipe σ vs) H2 fun σ2 H3 => wipe σ2 vs = wipe σ vs ∧ tt σ2 H3 fun b H4 => if b = true then te σ2 H4 (LcE D (R D) i) else LcP D (R D) (i + 1) H4)
    (hd : ∀ D acc H2, H1 D = none → R D xs.length acc H2 → H2 D = some (.lst acc) → Q (.ref D) H2) :
    ∃ a', V.ref a = V.ref a' ∧ (∃ xs, SqL K H1 a' xs) ∧ lcB (Itl K a') g tt te vs σ Q H1 :=
  ⟨a, rfl, ⟨xs, SqL.of ha⟩, fun D hn => lc_list (K := K) (a := a) (xs := xs) (LcP D (R D)) ⟨[], h0 D _ hn (Up.new hn) upd_same, Nat.le_refl _, upd_same⟩ (fun i H2 _ ⟨acc, r, _, _⟩ => SqL.of (hs D i acc H2 r))
    (fun i x H2 hx ⟨acc, r, l, e⟩ => ht D i x acc H2 hn hx r l (Nat.lt_of_lt_of_le (List.getElem?_eq_some_iff.mp hx).1 hl) e) fun H2 ⟨acc, r, l, e⟩ => hd D acc H2 hn r e⟩
theorem lc_T {a : Addr} {xs : List V} (ha : H1 a = some (.tup xs)) (hl : xs.length ≤ 100000) (R : Addr → Nat → List V → Hp → Prop)
    (h0 : ∀ D H2, H1 D = none → Up H1 H2 → H2 D = some (.lst []) → R D 0 [] H2) (hs : ∀ D i acc H2, R D i acc H2 → H2 a = some (.tup xs))
    (ht : ∀ D i x acc H2, H1 D = none → xs[i]? = some x → R D i acc H2 → acc.length ≤ i → i < 100000 → H2 D = some (.lst acc) →
      g x (wipe σ vs) H2 fun σ2 H3 => wipe σ2 vs = wipe σ vs ∧ tt σ2 H3 fun b H4 => if b = true then te σ2 H4 (LcE D (R D) i) else LcP D (R D) (i + 1) H4)
    (hd : ∀ D acc H2, H1 D = none → R D xs.length acc H2 → H2 D = some (.lst acc) → Q (.ref D) H2) :
    ∃ a', V.ref a = V.ref a' ∧ (∃ xs, SqT K H1 a' xs) ∧ lcB (Itt K a') g tt te vs σ Q H1 :=
  ⟨a, rfl, ⟨xs, SqT.of ha⟩, fun D hn => lc_tup (K := K) (a := a) (xs := xs) (LcP D (R D)) ⟨[], h0 D _ hn (Up.new hn) upd_same, Nat.le_refl _, upd_same⟩ (fun i H2 _ ⟨acc, r, _, _⟩ => SqT.of (hs D i acc H2 r))
    (fun i x H2 hx ⟨acc, r, l, e⟩ => ht D i x acc H2 hn hx r l (Nat.lt_of_lt_of_le (List.getElem?_eq_some_iff.mp hx).1 hl) e) fun H2 ⟨acc, r, l, e⟩ => hd D acc H2 hn r e⟩
theorem lc_R {j : Int} (j0 : 0 ≤ j) (j1 : j ≤ 100000) (R : Addr → Nat → List V → Hp → Prop)
    (h0 : ∀ D H2, H1 D = none → Up H1 H2 → H2 D = some (.lst []) → R D 0 [] H2)
    (ht : ∀ D (i : Nat) acc H2, H1 D = none → (i : Int) < j → R D i acc H2 → acc.length ≤ i → i < 100000 → H2 D = some (.lst acc) →
      g (.int (0 + i)) (wipe σ vs) H2 fun σ2 H3 => wipe σ2 vs = wipe σ vs ∧ tt σ2 H3 fun b H4 => if b = true then te σ2 H4 (LcE D (R D) i) else LcP D (R D) (i + 1) H4)
    (hd : ∀ D acc H2, H1 D = none → R D j.toNat acc H2 → H2 D = some (.lst acc) → Q (.ref D) H2) :
    -(2 ^ 62) ≤ j ∧ j < 2 ^ 62 ∧ lcB (Itr 0 j.toNat) g tt te vs σ Q H1 :=
  ⟨by omega, by omega, fun D hn => lc_range (lo := 0) (n := j.toNat) (LcP D (R D)) ⟨[], h0 D _ hn (Up.new hn) upd_same, Nat.le_refl _, upd_same⟩
    (fun i H2 hi ⟨acc, r, l, e⟩ => ht D i acc H2 hn (by omega) r l (by omega) e) fun H2 ⟨acc, r, l, e⟩ => hd D acc H2 hn r e⟩
end
end Gd
namespace Gd
open PySem PySem.Spec PyProof.Rows L2
theorem r_wipe {s t : L2.St} {vs : List Nat} {B : Prop} (h : wipe s vs = t) (q : B) : wipe s vs = t ∧ B := ⟨h, q⟩
theorem r_yes {σ : L2.St} {H : Hp} {R : Bool → Hp → Prop} (q : R true H) : tYes σ H R := q
theorem r_t {A B : Prop} (q : A) : if true = true then A else B := by rw [if_pos rfl]; exact q
theorem r_f {A B : Prop} (q : B) : if false = true then A else B := by rw [if_neg (by decide)]; exact q
end Gd
namespace Gd
open PySem PySem.Spec PyProof.Rows L2
theorem r_L1 {i : Int} {R : Int → Prop} (q : R i) : ∃ j, [V.int i] = [V.int j] ∧ R j := ⟨i, rfl, q⟩
theorem r_iB {b : Bool} {A : Int → Prop} {R : Bool → Prop} (q : R b) : (∃ i, [V.bl b] = [V.int i] ∧ A i) ∨ ∃ k, [V.bl b] = [V.bl k] ∧ R k := Or.inr ⟨b, rfl, q⟩
theorem r_L2 {i j : Int} {R : Int → Int → Prop} (q : R i j) : ∃ a b, [V.int i, V.int j] = [V.int a, V.int b] ∧ R a b := ⟨i, j, rfl, q⟩
theorem atI_ex {α : Type} {xs : List α} {i : Int} (h0 : 0 ≤ i) (h1 : i < xs.length) : ∃ v, atI xs i = some v ∧ v ∈ xs := by
  obtain ⟨n, rfl⟩ := Int.eq_ofNat_of_zero_le h0
  have hn : n < xs.length := by omega
  exact ⟨xs[n], atI_nat (List.getElem?_eq_getElem hn), List.getElem_mem hn⟩
theorem atI_lt {α : Type} {xs : List α} {i : Int} (h0 : 0 ≤ i) (h1 : i < xs.length) : ∃ (n : Nat) (v : α), i = n ∧ xs[n]? = some v ∧ atI xs i = some v := by
  obtain ⟨n, rfl⟩ := Int.eq_ofNat_of_zero_le h0
  have hn : n < xs.length := by omega
  exact ⟨n, xs[n], rfl, List.getElem?_eq_getElem hn, atI_nat (List.getElem?_eq_getElem hn)⟩
theorem SqLup {K : PySem.W.Frag} {H H' : Hp} {a : Addr} {xs : List V} (k : Up H H') (h : SqL K H a xs) : SqL K H' a xs := by
  rcases h with h | h
  · rcases h with h | ⟨o, h⟩
    · exact Or.inl (Or.inl (k _ _ h))
    · exact Or.inl (Or.inr ⟨o, k _ _ h⟩)
  · exact Or.inr h
end Gd
namespace Gd
open PySem PySem.Spec PyProof.Rows L2
theorem mul01 {x : Int} {c : Prop} [Decidable c] : CMul x (if c then 1 else 0) := Or.inr ⟨by split <;> decide, by split <;> decide⟩
end Gd
namespace Gd
open PySem PySem.Spec PyProof.Rows L2
section
variable {K : PySem.W.Frag} {σ : L2.St} {H : Hp} {R : L2.St → Hp → Prop}
theorem r_gtup {n : Nat} {t : TGs} {a : Addr} {xs : List V} (h : H a = some (.tup xs)) (l : xs.length = n) (q : t xs σ H R) : gTup K n t (.ref a) σ H R := ⟨a, xs, rfl, SqT.of h, l, q⟩
theorem r_gc {t : TG} {u : TGs} {v : V} {r : List V} (q : t v σ H fun σ2 H2 => u r σ2 H2 R) : gCons t u (v :: r) σ H R := ⟨v, r, rfl, q⟩
theorem r_gn (q : R σ H) : gNil [] σ H R := ⟨rfl, q⟩
theorem r_ixS {z : Str} {i : Int} {c : Nat} {Q : VK} (hl : z.length ≤ 1000000) (h : atI z.cps.toList i = some c) (q : Q (.str ⟨#[c]⟩) H) : rIxS (.str z) (.int i) H Q := ⟨z, i, c, rfl, rfl, Nat.le_trans hl (by decide), h, q⟩
end
end Gd

namespace Gd
open PySem PySem.Spec PyProof.Rows L2
/-! ### texts in order -/
theorem lt_irr : ∀ a : List Nat, ltCps a a = false
  | [] => rfl
  | x :: r => by simp [ltCps, lt_irr r]
theorem lt_tr : ∀ {a b c : List Nat}, ltCps a b = true → ltCps b c = true → ltCps a c = true
  | [], [], _, h, _ => by simp [ltCps] at h
  | [], _ :: _, [], _, h => by simp [ltCps] at h
  | [], _ :: _, _ :: _, _, _ => rfl
  | _ :: _, [], _, h, _ => by simp [ltCps] at h
  | _ :: _, _ :: _, [], _, h => by simp [ltCps] at h
  | x :: r, y :: t, z :: u, h, g => by
    simp only [ltCps, Bool.or_eq_true, decide_eq_true_eq, Bool.and_eq_true, beq_iff_eq] at h g ⊢
    rcases h with h | ⟨h, h'⟩
    · rcases g with g | ⟨g, g'⟩
      · exact Or.inl (by omega)
      · exact Or.inl (by omega)
    · rcases g with g | ⟨g, g'⟩
      · exact Or.inl (by omega)
      · exact Or.inr ⟨by omega, lt_tr h' g'⟩
theorem lt_tot : ∀ {a b : List Nat}, ltCps a b = false → ltCps b a = false → a = b
  | [], [], _, _ => rfl
  | [], _ :: _, h, _ => by simp [ltCps] at h
  | _ :: _, [], _, h => by simp [ltCps] at h
  | x :: r, y :: t, h, g => by
    simp only [ltCps, Bool.or_eq_false_iff, decide_eq_false_iff_not, Bool.and_eq_false_iff, beq_eq_false_iff_ne, ne_eq] at h g
    have e : x = y := by omega
    subst e
    have h1 : ltCps r t = false := h.2.resolve_left (by simp)
    have h2 : ltCps t r = false := g.2.resolve_left (by simp)
    rw [lt_tot h1 h2]
theorem str_ext {x y : Str} (h : x.cps.toList = y.cps.toList) : x = y := by
  obtain ⟨⟨a⟩⟩ := x
  obtain ⟨⟨b⟩⟩ := y
  simp only at h
  rw [h]
def sLe (x y : Str) : Bool := !ltCps y.cps.toList x.cps.toList
theorem sLe_tr {x y z : Str} (h : sLe x y = true) (g : sLe y z = true) : sLe x z = true := by
  simp only [sLe, Bool.not_eq_true'] at h g ⊢
  cases c : ltCps z.cps.toList x.cps.toList with
  | false => rfl
  | true =>
    exfalso
    cases d : ltCps x.cps.toList y.cps.toList with
    | true =>
      have := lt_tr c d
      rw [g] at this; cases this
    | false =>
      have e := lt_tot d h
      rw [e] at c
      rw [g] at c; cases c
theorem sLe_tot (x y : Str) : sLe x y = true ∨ sLe y x = true := by
  simp only [sLe, Bool.not_eq_true']
  cases c : ltCps y.cps.toList x.cps.toList with
  | false => exact Or.inl rfl
  | true =>
    refine Or.inr ?_
    cases d : ltCps x.cps.toList y.cps.toList with
    | false => rfl
    | true =>
      have := lt_tr c d
      rw [lt_irr] at this; cases this
theorem sLe_anti {x y : Str} (h : sLe x y = true) (g : sLe y x = true) : x = y := by
  simp only [sLe, Bool.not_eq_true'] at h g
  exact str_ext (lt_tot g h)
def sIns (x : Str) : List Str → List Str
  | [] => [x]
  | y :: r => if sLe x y then x :: y :: r else y :: sIns x r
def ssort : List Str → List Str
  | [] => []
  | x :: r => sIns x (ssort r)
theorem sIns_perm (x : Str) : ∀ l : List Str, (sIns x l).Perm (x :: l)
  | [] => .refl _
  | y :: r => by
    unfold sIns
    split
    · exact .refl _
    · exact ((sIns_perm x r).cons y).trans (.swap x y r)
theorem ssort_perm : ∀ l : List Str, (ssort l).Perm l
  | [] => .refl _
  | x :: r => (sIns_perm x _).trans ((ssort_perm r).cons x)
theorem sIns_sorted (x : Str) : ∀ l : List Str, l.Pairwise (fun a b => sLe a b = true) → (sIns x l).Pairwise (fun a b => sLe a b = true)
  | [], _ => List.pairwise_singleton ..
  | y :: r, h => by
    obtain ⟨h1, h2⟩ := List.pairwise_cons.mp h
    unfold sIns
    split
    · rename_i c
      refine List.pairwise_cons.mpr ⟨fun z hz => ?_, h⟩
      rcases List.mem_cons.mp hz with rfl | hz
      · exact c
      · exact sLe_tr c (h1 z hz)
    · rename_i c
      refine List.pairwise_cons.mpr ⟨fun z hz => ?_, sIns_sorted x r h2⟩
      rcases List.mem_cons.mp ((sIns_perm x r).mem_iff.mp hz) with rfl | hz
      · exact (sLe_tot _ _).resolve_left c
      · exact h1 z hz
theorem ssort_sorted : ∀ l : List Str, (ssort l).Pairwise (fun a b => sLe a b = true)
  | [] => .nil
  | x :: r => sIns_sorted x _ (ssort_sorted r)
theorem sorted_same : ∀ {l m : List Str}, l.Perm m → l.Pairwise (fun a b => sLe a b = true) → m.Pairwise (fun a b => sLe a b = true) → l = m
  | [], m, p, _, _ => (List.nil_perm.mp p).symm ▸ rfl
  | x :: l, [], p, _, _ => by simp at p
  | x :: l, y :: m, p, h, g => by
    obtain ⟨h1, h2⟩ := List.pairwise_cons.mp h
    obtain ⟨g1, g2⟩ := List.pairwise_cons.mp g
    have e : x = y := by
      by_cases c : x = y
      · exact c
      · have hx : x ∈ m := (List.mem_cons.mp (p.mem_iff.mp List.mem_cons_self)).resolve_left c
        have hy : y ∈ l := (List.mem_cons.mp (p.mem_iff.mpr List.mem_cons_self)).resolve_left (Ne.symm c)
        exact sLe_anti (h1 y hy) (g1 x hx)
    subst e
    rw [sorted_same (List.Perm.cons_inv p) h2 g2]
theorem rising_pair : ∀ {p : Str} {l : List Str}, risingS p l = true → (p :: l).Pairwise (fun a b => sLe a b = true)
  | p, [], _ => List.pairwise_singleton ..
  | p, x :: r, h => by
    have h' : (!ltCps x.cps.toList p.cps.toList && risingS x r) = true := h
    rw [Bool.and_eq_true] at h'
    have t := rising_pair h'.2
    refine List.pairwise_cons.mpr ⟨fun z hz => ?_, t⟩
    rcases List.mem_cons.mp hz with rfl | hz
    · exact h'.1
    · exact sLe_tr h'.1 ((List.pairwise_cons.mp t).1 z hz)
theorem ssort_of {ys xs : List Str} (p : ys.Perm xs) (h : sortedS ys = true) : ys = ssort xs := by
  refine sorted_same (p.trans (ssort_perm xs).symm) ?_ (ssort_sorted xs)
  cases ys with
  | nil => exact .nil
  | cons y r => exact rising_pair h
/-! ### the law's own key -/
def isBar : PyData → Bool
  | .str s => decide (s = ("|" : Str))
  | _ => false
mutual
def lk : PyData → Str
  | .str x => reprText x
  | .none => ("None" : Str)
  | .tuple ds => lkT ds
  | .bool _ => Str.empty
  | .int _ => Str.empty
  | .list _ => Str.empty
  | .dict _ => Str.empty
def lkT : List PyData → Str
  | [] => ("()" : Str)
  | x :: r => if isBar x = true then ("{" : Str) ++ Txt.join (" " : Str) (ssort (lkM r)) ++ ("}" : Str) else ("(" : Str) ++ Txt.join (" " : Str) (lk x :: lks r) ++ (")" : Str)
def lks : List PyData → List Str
  | [] => []
  | x :: r => lk x :: lks r
def lkM : List PyData → List Str
  | [] => []
  | .tuple ms :: _ => lks ms
  | .str _ :: _ => []
  | .none :: _ => []
  | .bool _ :: _ => []
  | .int _ :: _ => []
  | .list _ :: _ => []
  | .dict _ :: _ => []
end
end Gd

namespace Gd
open PySem PySem.Spec PyProof.Rows L2
/-! ### parts of terms -/
inductive P where
  | use (n : Str) (vs : List P)
  | sig (i r : P)
  | uni (ms : List P)
  | row (xs : List P)
  | inp (xs : List P) (tl : Option Str)
  | star (n : Str)
  | dots (t : P)
  | tail (s : Str)
def tlD : Option Str → PyData
  | none => .none
  | some s => .str s
mutual
def enc : P → PyData
  | .use n vs => .tuple [.str n, .tuple (encs vs)]
  | .sig i r => .tuple [.str ("->" : Str), enc i, enc r]
  | .uni ms => .tuple [.str ("|" : Str), .tuple (encs ms)]
  | .row xs => .tuple [.str ("[]" : Str), .tuple (encs xs)]
  | .inp xs tl => .tuple [.str ("()" : Str), .tuple (encs xs), tlD tl]
  | .star n => .tuple [.str ("*" : Str), .str n]
  | .dots t => .tuple [.str ("..." : Str), enc t]
  | .tail s => .tuple [.str ("**" : Str), .str s]
def encs : List P → List PyData
  | [] => []
  | p :: r => enc p :: encs r
end
theorem encs_map : ∀ l : List P, encs l = l.map enc
  | [] => rfl
  | p :: r => by simp [encs, encs_map r]
theorem encs_app (a b : List P) : encs (a ++ b) = encs a ++ encs b := by simp only [encs_map, List.map_append]
/-- the word that a part begins with -/
def hd : P → Str
  | .use n _ => n
  | .sig _ _ => ("->" : Str)
  | .uni _ => ("|" : Str)
  | .row _ => ("[]" : Str)
  | .inp _ _ => ("()" : Str)
  | .star _ => ("*" : Str)
  | .dots _ => ("..." : Str)
  | .tail _ => ("**" : Str)
def sec : P → PyData
  | .use _ vs => .tuple (encs vs)
  | .sig i _ => enc i
  | .uni ms => .tuple (encs ms)
  | .row xs => .tuple (encs xs)
  | .inp xs _ => .tuple (encs xs)
  | .star n => .str n
  | .dots t => enc t
  | .tail s => .str s
def more : P → List PyData
  | .sig _ r => [enc r]
  | .inp _ tl => [tlD tl]
  | _ => []
theorem enc_eq (p : P) : enc p = .tuple (.str (hd p) :: sec p :: more p) := by
  cases p <;> simp [enc, hd, sec, more]
/-- a name: one to six letters -/
def good (n : Str) : Prop := n.cps.toList ≠ [] ∧ n.length ≤ 6 ∧ ∀ c ∈ n.cps.toList, 97 ≤ c ∧ c ≤ 122
theorem good_ne {n m : Str} (h : good n) (hm : ∃ c ∈ m.cps.toList, c < 97) : n ≠ m := by
  rintro rfl
  obtain ⟨c, hc, hl⟩ := hm
  have := (h.2.2 c hc).1
  omega
def tails : Option Str → List P
  | none => []
  | some s => [.tail s]
def parts : P → List P
  | .use _ vs => vs
  | .sig i r => [i, r]
  | .uni ms => ms
  | .row xs => xs
  | .inp xs tl => xs ++ tails tl
  | .star _ => []
  | .dots t => [t]
  | .tail _ => []
def isNd : P → Bool
  | .row _ => false
  | .inp _ _ => false
  | .use _ _ => true
  | .sig _ _ => true
  | .uni _ => true
  | .star _ => true
  | .dots _ => true
  | .tail _ => true
mutual
def pre : P → List P
  | .use n vs => .use n vs :: pres vs
  | .sig i r => .sig i r :: (pre i ++ pre r)
  | .uni ms => .uni ms :: pres ms
  | .row xs => .row xs :: pres xs
  | .inp xs tl => .inp xs tl :: (pres xs ++ tails tl)
  | .star n => [.star n]
  | .dots t => .dots t :: pre t
  | .tail s => [.tail s]
def pres : List P → List P
  | [] => []
  | p :: r => pre p ++ pres r
end
theorem pres_app : ∀ a b : List P, pres (a ++ b) = pres a ++ pres b
  | [], b => by simp [pres]
  | p :: a, b => by simp [pres, pres_app a b]
theorem pres_tails (tl : Option Str) : pres (tails tl) = tails tl := by cases tl <;> simp [tails, pres, pre]
theorem pre_eq (p : P) : pre p = p :: pres (parts p) := by
  cases p <;> simp [pre, parts, pres, pres_app, pres_tails]
theorem pre_ne (p : P) : pre p ≠ [] := by rw [pre_eq]; simp
theorem pres_len : ∀ l : List P, l.length ≤ (pres l).length
  | [] => by simp
  | p :: r => by
    have := pres_len r
    simp only [pres, pre_eq, List.cons_append, List.length_cons, List.length_append]
    omega
def siz (p : P) : Nat := ((pre p).filter isNd).length
mutual
def lsz : P → Nat
  | .use _ vs => 1 + lszs vs
  | .sig i r => 1 + (lsz i + (lsz r + 0))
  | .uni ms => 1 + lszs ms
  | .row xs => lszs xs
  | .inp xs tl => lszs xs + (match tl with | none => 0 | some _ => 1)
  | .star _ => 1
  | .dots t => 1 + (lsz t + 0)
  | .tail _ => 1
def lszs : List P → Nat
  | [] => 0
  | p :: r => lsz p + lszs r
end
mutual
theorem lsz_siz : ∀ p : P, lsz p = siz p
  | .use n vs => by simp [lsz, siz, pre, List.filter_cons, isNd, lszs_siz vs, Nat.add_comm]
  | .sig i r => by
    have h1 := lsz_siz i
    have h2 := lsz_siz r
    simp only [siz] at h1 h2
    simp [lsz, siz, pre, List.filter_cons, isNd, h1, h2, Nat.add_comm]
  | .uni ms => by simp [lsz, siz, pre, List.filter_cons, isNd, lszs_siz ms, Nat.add_comm]
  | .row xs => by simp [lsz, siz, pre, List.filter_cons, isNd, lszs_siz xs]
  | .inp xs none => by simp [lsz, siz, pre, List.filter_cons, isNd, lszs_siz xs, tails]
  | .inp xs (some s) => by simp [lsz, siz, pre, List.filter_cons, isNd, lszs_siz xs, tails]
  | .star n => by simp [lsz, siz, pre, List.filter_cons, isNd]
  | .dots t => by
    have h1 := lsz_siz t
    simp only [siz] at h1
    simp [lsz, siz, pre, List.filter_cons, isNd, h1, Nat.add_comm]
  | .tail s => by simp [lsz, siz, pre, List.filter_cons, isNd]
theorem lszs_siz : ∀ l : List P, lszs l = ((pres l).filter isNd).length
  | [] => by simp [lszs, pres]
  | p :: r => by
    have h1 := lsz_siz p
    simp only [siz] at h1
    simp [lszs, pres, h1, lszs_siz r]
end
/-! ### how large data are -/
mutual
def kw : PyData → Nat
  | .str x => 10 * x.length + 10
  | .tuple ds => 10 + kws ds
  | .none => 10
  | .bool _ => 10
  | .int _ => 10
  | .list _ => 10
  | .dict _ => 10
def kws : List PyData → Nat
  | [] => 0
  | d :: r => kw d + 5 + kws r
end
theorem kws_app : ∀ a b : List PyData, kws (a ++ b) = kws a + kws b
  | [], b => by simp [kws]
  | d :: a, b => by simp [kws, kws_app a b, Nat.add_assoc]
mutual
theorem pre_kw : ∀ p : P, (pre p).length ≤ kw (enc p)
  | .use n vs => by have := pres_kw vs; simp only [pre, enc, kw, kws, List.length_cons]; omega
  | .sig i r => by have := pre_kw i; have := pre_kw r; simp only [pre, enc, kw, kws, List.length_cons, List.length_append]; omega
  | .uni ms => by have := pres_kw ms; simp only [pre, enc, kw, kws, List.length_cons]; omega
  | .row xs => by have := pres_kw xs; simp only [pre, enc, kw, kws, List.length_cons]; omega
  | .inp xs none => by have := pres_kw xs; simp only [pre, enc, kw, kws, List.length_cons, List.length_append, tails, tlD, List.length_nil]; omega
  | .inp xs (some s) => by have := pres_kw xs; simp only [pre, enc, kw, kws, List.length_cons, List.length_append, tails, tlD, List.length_nil]; omega
  | .star n => by simp only [pre, enc, kw, kws, List.length_cons, List.length_nil]; omega
  | .dots t => by have := pre_kw t; simp only [pre, enc, kw, kws, List.length_cons]; omega
  | .tail s => by simp only [pre, enc, kw, kws, List.length_cons, List.length_nil]; omega
theorem pres_kw : ∀ l : List P, (pres l).length ≤ kws (encs l)
  | [] => by simp [pres]
  | p :: r => by have := pre_kw p; have := pres_kw r; simp only [pres, encs, kws, List.length_append]; omega
end
end Gd
namespace Gd
open PySem PySem.Spec PyProof.Rows L2
theorem at0 {α : Type} {x : α} {xs : List α} : atI (x :: xs) 0 = some x := atI_nat (j := 0) rfl
theorem at1 {α : Type} {x y : α} {xs : List α} : atI (x :: y :: xs) 1 = some y := atI_nat (j := 1) rfl
theorem at2 {α : Type} {x y z : α} {xs : List α} : atI (x :: y :: z :: xs) 2 = some z := atI_nat (j := 2) rfl
theorem enc_inv {H : Hp} {v : V} {p : P} (h : Da H v (enc p)) : ∃ a w ws, v = .ref a ∧ H a = some (.tup (.str (hd p) :: w :: ws)) ∧ Da H w (sec p) ∧ Das H ws (more p) := by
  rw [enc_eq] at h
  obtain ⟨a, xs, rfl, ha, t⟩ := h.tup_inv
  cases t with
  | cons h0 t =>
    cases t with
    | cons h1 t =>
      obtain rfl := h0.str_inv
      exact ⟨a, _, _, rfl, ha, h1, t⟩
structure Apart (n : Str) : Prop where
  a : decide (n = ("*" : Str)) = false
  b : decide (n = ("**" : Str)) = false
  c : decide (n = ("->" : Str)) = false
  d : decide (n = ("..." : Str)) = false
  e : decide (n = ("()" : Str)) = false
  f : decide (n = ("[]" : Str)) = false
  g : decide (n = ("|" : Str)) = false
theorem good_bar {n : Str} (h : good n) : n ≠ ("|" : Str) := by
  rintro rfl
  have h1 : (124 : Nat) ∈ ("|" : Str).cps.toList := by decide +kernel
  have := (h.2.2 _ h1).2
  omega
theorem good.apart {n : Str} (h : good n) : Apart n :=
  ⟨decide_eq_false (good_ne h ⟨42, by decide +kernel, by decide⟩), decide_eq_false (good_ne h ⟨42, by decide +kernel, by decide⟩), decide_eq_false (good_ne h ⟨45, by decide +kernel, by decide⟩),
   decide_eq_false (good_ne h ⟨46, by decide +kernel, by decide⟩), decide_eq_false (good_ne h ⟨40, by decide +kernel, by decide⟩), decide_eq_false (good_ne h ⟨91, by decide +kernel, by decide⟩), decide_eq_false (good_bar h)⟩
end Gd
namespace Gd
open PySem PySem.Spec PyProof.Rows L2
/-- a use is named by a name -/
def hok : P → Prop
  | .use n _ => good n
  | _ => True
theorem nd_hd (p : P) (h : hok p) : (!(decide (hd p = ("[]" : Str)) || decide (hd p = ("()" : Str)))) = isNd p := by
  cases p with
  | use n vs =>
    obtain ⟨e1, e2, e3, e4, e5, e6, e7⟩ := good.apart h
    show (!(decide (n = ("[]" : Str)) || decide (n = ("()" : Str)))) = true
    rw [e6, e5]
    rfl
  | sig i r => show (!(decide (("->" : Str) = ("[]" : Str)) || decide (("->" : Str) = ("()" : Str)))) = true; decide +kernel
  | uni ms => show (!(decide (("|" : Str) = ("[]" : Str)) || decide (("|" : Str) = ("()" : Str)))) = true; decide +kernel
  | row ms => show (!(decide (("[]" : Str) = ("[]" : Str)) || decide (("[]" : Str) = ("()" : Str)))) = false; decide +kernel
  | inp ms t => show (!(decide (("()" : Str) = ("[]" : Str)) || decide (("()" : Str) = ("()" : Str)))) = false; decide +kernel
  | star n => show (!(decide (("*" : Str) = ("[]" : Str)) || decide (("*" : Str) = ("()" : Str)))) = true; decide +kernel
  | dots t => show (!(decide (("..." : Str) = ("[]" : Str)) || decide (("..." : Str) = ("()" : Str)))) = true; decide +kernel
  | tail s => show (!(decide (("**" : Str) = ("[]" : Str)) || decide (("**" : Str) = ("()" : Str)))) = true; decide +kernel
end Gd

namespace Gd
open PySem PySem.Spec PyProof.Rows L2
/-! ### the law's key: what its walk asks -/
def barM : List PyData → Bool
  | .tuple ms :: _ => decide (ms.length < 64)
  | _ => false
mutual
/-- each union in it has fewer than 64 members -/
def kq : PyData → Bool
  | .tuple ds => kqT ds && kqs ds
  | .str _ => true
  | .none => true
  | .bool _ => true
  | .int _ => true
  | .list _ => true
  | .dict _ => true
def kqT : List PyData → Bool
  | [] => true
  | x :: r => !isBar x || barM r
def kqs : List PyData → Bool
  | [] => true
  | x :: r => kq x && kqs r
end
theorem join_len (sep : Str) (ys : List Str) : (Txt.join sep ys).length ≤ (ys.map (·.length)).sum + ys.length * sep.length := by
  show (Builtin.Str.glued sep ys).length ≤ _
  rw [PySem.size_glued]
  have : (ys.length - 1) * sep.length ≤ ys.length * sep.length := Nat.mul_le_mul_right _ (Nat.sub_le _ _)
  omega
theorem app_len (a b : Str) : (a ++ b).length = a.length + b.length := by
  show (a.cps ++ b.cps).size = _
  rw [Array.size_append]
  rfl
theorem perm_sum {l m : List Str} (p : l.Perm m) : (l.map (·.length)).sum = (m.map (·.length)).sum := (p.map _).sum_nat
theorem repr_le {x : Str} (h : PyData.strOk x = true) : (reprText x).length ≤ 10 * x.length + 2 :=
  StrLaws.reprText_len x fun c hc => by
    have h2 : x.cps.all (· < 0x110000) = true := h
    have := Array.all_eq_true_iff_forall_mem.mp h2 c (Array.mem_toList_iff.mp hc)
    have h3 : c < 0x110000 := by simpa using this
    omega
mutual
theorem lk_le : ∀ d : PyData, d.canLay0 = true → (lk d).length ≤ kw d
  | .str x, h => by
    have := repr_le (x := x) (by simpa [PyData.canLay0] using h)
    simp only [lk, kw]
    omega
  | .none, _ => by simp only [lk, kw]; decide +kernel
  | .bool _, _ => by simp only [lk, kw]; decide +kernel
  | .int _, _ => by simp only [lk, kw]; decide +kernel
  | .list _, _ => by simp only [lk, kw]; decide +kernel
  | .dict _, _ => by simp only [lk, kw]; decide +kernel
  | .tuple [], _ => by simp only [lk, lkT, kw, kws]; decide +kernel
  | .tuple (x :: r), h => by
    have hs : (PyData.canLay0 x && PyData.canLayAll0 r) = true := by simpa [PyData.canLay0, PyData.canLayAll0] using h
    rw [Bool.and_eq_true] at hs
    have h1 := lk_le x hs.1
    have h2 := lks_le r hs.2
    have h3 := lkM_le r hs.2
    have l1 := lks_length r
    have a1 : ("{" : Str).length = 1 := by decide +kernel
    have a2 : ("}" : Str).length = 1 := by decide +kernel
    have a3 : ("(" : Str).length = 1 := by decide +kernel
    have a4 : (")" : Str).length = 1 := by decide +kernel
    have a5 : (" " : Str).length = 1 := by decide +kernel
    simp only [lk, lkT, kw, kws]
    split
    · have j := join_len (" " : Str) (ssort (lkM r))
      have p1 := perm_sum (ssort_perm (lkM r))
      have p2 := (ssort_perm (lkM r)).length_eq
      rw [app_len, app_len, a1, a2]
      rw [p1, p2, a5] at j
      omega
    · have j := join_len (" " : Str) (lk x :: lks r)
      rw [app_len, app_len, a3, a4]
      rw [a5] at j
      simp only [List.map_cons, List.sum_cons, List.length_cons] at j
      omega
theorem lks_le : ∀ l : List PyData, PyData.canLayAll0 l = true → ((lks l).map (·.length)).sum + l.length ≤ kws l
  | [], _ => by simp [lks, kws]
  | x :: r, h => by
    have hs : (PyData.canLay0 x && PyData.canLayAll0 r) = true := by simpa [PyData.canLayAll0] using h
    rw [Bool.and_eq_true] at hs
    have h1 := lk_le x hs.1
    have h2 := lks_le r hs.2
    simp only [lks, kws, List.map_cons, List.sum_cons, List.length_cons]
    omega
theorem lkM_le : ∀ l : List PyData, PyData.canLayAll0 l = true → ((lkM l).map (·.length)).sum + (lkM l).length ≤ kws l
  | [], _ => by simp [lkM, kws]
  | .tuple ms :: r, h => by
    have hs : (PyData.canLay0 (.tuple ms) && PyData.canLayAll0 r) = true := by simpa [PyData.canLayAll0] using h
    rw [Bool.and_eq_true] at hs
    have h2 := lks_le ms (by simpa [PyData.canLay0] using hs.1)
    have l1 := lks_length ms
    simp only [lkM, kws, kw]
    omega
  | .str _ :: _, _ => by simp [lkM, kws]
  | .none :: _, _ => by simp [lkM, kws]
  | .bool _ :: _, _ => by simp [lkM, kws]
  | .int _ :: _, _ => by simp [lkM, kws]
  | .list _ :: _, _ => by simp [lkM, kws]
  | .dict _ :: _, _ => by simp [lkM, kws]
theorem lks_length : ∀ l : List PyData, (lks l).length = l.length
  | [] => rfl
  | x :: r => by simp [lks, lks_length r]
end
theorem lks_map : ∀ l : List PyData, lks l = l.map lk
  | [] => rfl
  | x :: r => by simp [lks, lks_map r]
theorem eqv_bar (d : PyData) : PyData.eqv d (.str ("|" : Str)) = isBar d := by
  cases d <;> simp only [PyData.eqv, isBar]
  rename_i s
  by_cases c : s = ("|" : Str)
  · subst c; simp
  · simp [c]
theorem eqv_unit (d : PyData) : PyData.eqv d (.tuple []) = (match d with | .tuple [] => true | _ => false) := by
  cases d with
  | tuple ds => cases ds <;> simp [PyData.eqv, PyData.eqvAll]
  | _ => simp [PyData.eqv]
section
variable {σ : L2.St} {H : Hp} {Q : VK} {K : PySem.W.Frag}
theorem r_isS {x : Str} (q : Q (.bl true) H) : rIsi K [.str x, .ty "str"] H Q := ⟨_, _, _, _, true, rfl, .ty _, .base (.str x), kit_ty (by decide +kernel), q⟩
theorem r_isN (q : Q (.bl false) H) : rIsi K [.non, .ty "str"] H Q := ⟨_, _, _, _, false, rfl, .ty _, .base .non, kit_ty (by decide +kernel), q⟩
theorem r_isT {a : Addr} {xs : List V} (h : H a = some (.tup xs)) (q : Q (.bl false) H) : rIsi K [.ref a, .ty "str"] H Q := ⟨_, _, _, _, false, rfl, .ty _, .base (.tup h), kit_ty (by decide +kernel), q⟩
theorem shaped_of {d : PyData} (h : d.canLay0 = true) (l : d.depth ≤ 64) : SeqAt.shaped d = true := by
  show (d.canLay0 && decide (d.depth ≤ 64)) = true
  rw [h, Bool.true_and]
  exact decide_eq_true l
theorem r_eqD {x y : V} {d e : PyData} (hx : Da H x d) (hy : Da H y e) (c1 : d.canLay0 = true) (l1 : d.depth ≤ 64) (c2 : e.canLay0 = true) (l2 : e.depth ≤ 64) (q : Q (.bl (PyData.eqv d e)) H) : rEqD K x y H Q :=
  ⟨d, e, hx.dp, hy.dp, shaped_of c1 l1, shaped_of c2 l2, q⟩
theorem r_neD {x y : V} {d e : PyData} (hx : Da H x d) (hy : Da H y e) (c1 : d.canLay0 = true) (l1 : d.depth ≤ 64) (c2 : e.canLay0 = true) (l2 : e.depth ≤ 64) (q : Q (.bl (!PyData.eqv d e)) H) : rNeD K x y H Q :=
  ⟨d, e, hx.dp, hy.dp, shaped_of c1 l1, shaped_of c2 l2, q⟩
theorem r_sort {a : Addr} {xs : List Str} (h : H a = some (.lst (xs.map V.str))) (hl : xs.length < 64) (q : ∀ p H2, H p = none → Up H H2 → H2 p = some (.lst ((ssort xs).map V.str)) → Q (.ref p) H2) : rSortedS K [.ref a] H Q :=
  ⟨a, xs, rfl, SqL.of h, hl, fun ys p hp hs hn => by
    obtain rfl := ssort_of hp hs
    exact q p _ hn (Up.new hn) upd_same⟩
def joinN (K : PySem.W.Frag) (Q : VK) (x : V) (xs : List V) (H : Hp) : Prop := ∃ a p, ∃ ys : List Str, x = .str a ∧ xs = [.ref p] ∧ (SqL K H p (ys.map V.str) ∨ SqT K H p (ys.map V.str)) ∧
  (ys.map (·.length)).sum + ys.length * a.length ≤ 16777216 ∧ Q (.str (Txt.join a ys)) H
theorem r_join {x : Str} {p : Addr} {ys : List Str} (h : H p = some (.lst (ys.map V.str))) (hl : (ys.map (·.length)).sum + ys.length * x.length ≤ 1000000) (q : Q (.str (Txt.join x ys)) H) :
    ∃ a p', ∃ ys' : List Str, V.str x = .str a ∧ [V.ref p] = [.ref p'] ∧ (SqL K H p' (ys'.map V.str) ∨ SqT K H p' (ys'.map V.str)) ∧ (ys'.map (·.length)).sum + ys'.length * a.length ≤ 16777216 ∧ Q (.str (Txt.join a ys')) H :=
  ⟨x, p, ys, rfl, rfl, Or.inl (SqL.of h), Nat.le_trans hl (by decide), q⟩
theorem r_cat {a b : Str} (hl : a.length + b.length ≤ 10000000) (q : Q (.str (a ++ b)) H) : ∃ i j, V.str a = .str i ∧ V.str b = .str j ∧ i.length + j.length ≤ sizeLine ∧ Q (.str (i ++ j)) H :=
  ⟨a, b, rfl, rfl, Nat.le_trans hl (by decide), q⟩
end
end Gd
namespace Gd
open PySem PySem.Spec PyProof.Rows L2
theorem empty_app (a : Str) : ("" : Str) ++ a = a := by
  show (⟨("" : Str).cps ++ a.cps⟩ : Str) = a
  have e : ("" : Str).cps = #[] := by decide +kernel
  rw [e, Array.empty_append]
theorem chars_join : ∀ cs : List Nat, Txt.join ("" : Str) (cs.map fun c => (⟨#[c]⟩ : Str)) = ⟨cs.toArray⟩ := by
  intro cs
  rw [TL.join_eq]
  induction cs with
  | nil => rfl
  | cons c cs ih =>
    cases cs with
    | nil => rfl
    | cons d cs =>
      show (⟨#[c]⟩ : Str) ++ ("" : Str) ++ Str.join ("" : Str) ((d :: cs).map fun c => (⟨#[c]⟩ : Str)) = _
      rw [ih]
      have e1 : (⟨#[c]⟩ : Str) ++ ("" : Str) = ⟨#[c]⟩ := by
        show (⟨#[c] ++ ("" : Str).cps⟩ : Str) = ⟨#[c]⟩
        have e : ("" : Str).cps = #[] := by decide +kernel
        rw [e, Array.append_empty]
      rw [e1]
      show (⟨#[c] ++ (d :: cs).toArray⟩ : Str) = _
      congr 1
      simp
theorem chars_len (cs : List Nat) : ((cs.map fun c => (⟨#[c]⟩ : Str)).map (·.length)).sum = cs.length := by
  induction cs with
  | nil => rfl
  | cons c cs ih =>
    simp only [List.map_cons, List.sum_cons, List.length_cons] at ih ⊢
    rw [ih]
    show 1 + cs.length = _
    omega
end Gd
namespace Gd
open PySem PySem.Spec PyProof.Rows L2
theorem lay_mem {m : PyData} : ∀ {l : List PyData}, PyData.canLayAll0 l = true → m ∈ l → m.canLay0 = true
  | [], _, h => (List.not_mem_nil h).elim
  | x :: r, e, h => by
    have hs : (PyData.canLay0 x && PyData.canLayAll0 r) = true := by simpa [PyData.canLayAll0] using e
    rw [Bool.and_eq_true] at hs
    rcases List.mem_cons.mp h with rfl | h
    · exact hs.1
    · exact lay_mem hs.2 h
theorem depth_mem {m : PyData} : ∀ {l : List PyData}, m ∈ l → m.depth ≤ PyData.depthAll l
  | [], h => (List.not_mem_nil h).elim
  | x :: r, h => by
    simp only [PyData.depthAll]
    rcases List.mem_cons.mp h with rfl | h
    · omega
    · have := depth_mem h; omega
theorem kq_mem {m : PyData} : ∀ {l : List PyData}, kqs l = true → m ∈ l → kq m = true
  | [], _, h => (List.not_mem_nil h).elim
  | x :: r, e, h => by
    have hs : (kq x && kqs r) = true := by simpa [kqs] using e
    rw [Bool.and_eq_true] at hs
    rcases List.mem_cons.mp h with rfl | h
    · exact hs.1
    · exact kq_mem hs.2 h
theorem kw_mem {m : PyData} : ∀ {l : List PyData}, m ∈ l → kw m + 5 ≤ kws l
  | [], h => (List.not_mem_nil h).elim
  | x :: r, h => by
    simp only [kws]
    rcases List.mem_cons.mp h with rfl | h
    · omega
    · have := kw_mem h; omega
theorem canLay_tup {ds : List PyData} : (PyData.tuple ds).canLay0 = PyData.canLayAll0 ds := by simp [PyData.canLay0]
theorem depth_tup {ds : List PyData} : (PyData.tuple ds).depth = PyData.depthAll ds + 1 := by simp [PyData.depth]
theorem kw_tup {ds : List PyData} : kw (.tuple ds) = 10 + kws ds := by simp [kw]
theorem kq_tup {ds : List PyData} : kq (.tuple ds) = (kqT ds && kqs ds) := by simp [kq]
theorem shown_unit : PyData.shown (.tuple []) = ("()" : Str) := by decide +kernel
end Gd
namespace Gd
open PySem PySem.Spec PyProof.Rows L2
/-! ### terms joined, as the law does it -/
def lkP (p : P) : Str := lk (enc p)
def memb : P → List P
  | .uni ms => ms
  | .use n vs => [.use n vs]
  | .sig i r => [.sig i r]
  | .row xs => [.row xs]
  | .inp xs t => [.inp xs t]
  | .star n => [.star n]
  | .dots t => [.dots t]
  | .tail s => [.tail s]
def addP (acc : List P) (p : P) : List P := if lkP p ∈ acc.map lkP then acc else acc ++ [p]
def foundP (ps : List P) : List P := (ps.flatMap memb).foldl addP []
def ljoin (ps : List P) : P := match foundP ps with
  | [p] => p
  | l => .uni l
/-- what the law's walks ask of a part -/
structure Ok (dp kb : Nat) (p : P) : Prop where
  lay : (enc p).canLay0 = true
  dep : (enc p).depth ≤ dp
  bar : kq (enc p) = true
  wgt : kw (enc p) ≤ kb
theorem Ok.mono {d k d' k' : Nat} {p : P} (h : Ok d k p) (hd : d ≤ d') (hk : k ≤ k') : Ok d' k' p := ⟨h.lay, Nat.le_trans h.dep hd, h.bar, Nat.le_trans h.wgt hk⟩
theorem mem_encs {p : P} {l : List P} (h : p ∈ l) : enc p ∈ encs l := by rw [encs_map]; exact List.mem_map.mpr ⟨p, h, rfl⟩
theorem Ok.uni_len {d k : Nat} {ms : List P} (h : Ok d k (.uni ms)) : ms.length < 64 := by
  have := h.bar
  simp only [enc, kq, kqT, isBar, barM, Bool.and_eq_true] at this
  have h1 := this.1
  simp only [decide_true, Bool.not_true, Bool.false_or, decide_eq_true_eq] at h1
  rwa [encs_map, List.length_map] at h1
theorem Ok.uni {d k : Nat} {ms : List P} (h : Ok d k (.uni ms)) {m : P} (hm : m ∈ ms) : Ok d k m := by
  obtain ⟨h1, h2, h3, h4⟩ := h
  have me := mem_encs hm
  simp only [enc] at h1 h2 h3 h4
  rw [canLay_tup] at h1
  rw [depth_tup] at h2
  rw [kq_tup, Bool.and_eq_true] at h3
  rw [kw_tup] at h4
  have a1 := lay_mem h1 (m := .tuple (encs ms)) (by simp)
  rw [canLay_tup] at a1
  have a2 := depth_mem (m := .tuple (encs ms)) (l := [.str ("|" : Str), .tuple (encs ms)]) (by simp)
  rw [depth_tup] at a2
  have a3 := kq_mem h3.2 (m := .tuple (encs ms)) (by simp)
  rw [kq_tup, Bool.and_eq_true] at a3
  have a4 := kw_mem (m := .tuple (encs ms)) (l := [.str ("|" : Str), .tuple (encs ms)]) (by simp)
  rw [kw_tup] at a4
  have b2 := depth_mem me
  have b4 := kw_mem me
  exact ⟨lay_mem a1 me, by omega, kq_mem a3.2 me, by omega⟩
theorem Ok.memb {d k : Nat} {p m : P} (h : Ok d k p) (hm : m ∈ memb p) : Ok d k m := by
  cases p with
  | uni ms => exact h.uni hm
  | _ => rw [List.mem_singleton.mp hm]; exact h
theorem addP_sub {acc : List P} {p q : P} (h : q ∈ addP acc p) : q ∈ acc ∨ q = p := by
  unfold addP at h
  split at h
  · exact Or.inl h
  · rcases List.mem_append.mp h with h | h
    · exact Or.inl h
    · exact Or.inr (List.mem_singleton.mp h)
theorem addP_len (acc : List P) (p : P) : acc.length ≤ (addP acc p).length ∧ (addP acc p).length ≤ acc.length + 1 := by
  unfold addP
  split
  · omega
  · rw [List.length_append, List.length_singleton]; omega
theorem fold_len : ∀ (l acc : List P), (l.foldl addP acc).length ≤ acc.length + l.length
  | [], acc => by simp
  | p :: r, acc => by
    have h1 := (addP_len acc p).2
    have h2 := fold_len r (addP acc p)
    simp only [List.foldl_cons, List.length_cons]
    omega
theorem fold_ge : ∀ (l acc : List P), acc.length ≤ (l.foldl addP acc).length
  | [], acc => by simp
  | p :: r, acc => by
    have h1 := (addP_len acc p).1
    have h2 := fold_ge r (addP acc p)
    simp only [List.foldl_cons]
    omega
theorem fold_sub {q : P} : ∀ (l acc : List P), q ∈ l.foldl addP acc → q ∈ acc ∨ q ∈ l
  | [], acc, h => Or.inl h
  | p :: r, acc, h => by
    rcases fold_sub r (addP acc p) h with h | h
    · rcases addP_sub h with h | rfl
      · exact Or.inl h
      · exact Or.inr List.mem_cons_self
    · exact Or.inr (List.mem_cons_of_mem _ h)
theorem fold_nd : ∀ (l acc : List P), (acc.map lkP).Nodup → ((l.foldl addP acc).map lkP).Nodup
  | [], acc, h => h
  | p :: r, acc, h => by
    refine fold_nd r _ ?_
    unfold addP
    split
    · exact h
    · rename_i c
      rw [List.map_append]
      exact List.nodup_append.mpr ⟨h, by simp, fun x hx y hy e => by
        rw [List.map_singleton, List.mem_singleton] at hy
        subst hy; subst e; exact c hx⟩
theorem memb_ne (p : P) (h : ∀ ms, p = .uni ms → ms ≠ []) : memb p ≠ [] := by
  cases p with
  | uni ms => exact h ms rfl
  | _ => simp [memb]
theorem bar_hd (p : P) (h : hok p) : decide (hd p = ("|" : Str)) = (match p with | .uni _ => true | _ => false) := by
  cases p with
  | use n vs => exact h.apart.g
  | uni ms => show decide (("|" : Str) = ("|" : Str)) = true; decide +kernel
  | sig i r => show decide (("->" : Str) = ("|" : Str)) = false; decide +kernel
  | row ms => show decide (("[]" : Str) = ("|" : Str)) = false; decide +kernel
  | inp ms t => show decide (("()" : Str) = ("|" : Str)) = false; decide +kernel
  | star n => show decide (("*" : Str) = ("|" : Str)) = false; decide +kernel
  | dots t => show decide (("..." : Str) = ("|" : Str)) = false; decide +kernel
  | tail s => show decide (("**" : Str) = ("|" : Str)) = false; decide +kernel
section
variable {K : PySem.W.Frag} {σ : L2.St} {H : Hp} {Q : VK}
theorem inV_strs (s : Str) (ks : List Str) : inV (.str s) (ks.map V.str) = decide (s ∈ ks) := by
  unfold inV
  induction ks with
  | nil => simp
  | cons k ks ih =>
    simp only [List.map_cons, List.any_cons, ih, eqV_str, List.mem_cons, Bool.decide_or]
theorem r_niL {p : Addr} {s : Str} {ks : List Str} (h : H p = some (.lst (ks.map V.str))) (q : Q (.bl (!decide (s ∈ ks))) H) : rIn K true (.str s) (.ref p) H Q :=
  ⟨p, _, rfl, Or.inl (SqL.of h), rfl, by simp [flatV], by
    simp only [if_true]
    rw [inV_strs]; exact q⟩
theorem r_isL {p : Addr} {s : Str} {ks : List Str} (h : H p = some (.lst (ks.map V.str))) (q : Q (.bl (decide (s ∈ ks))) H) : rIn K false (.str s) (.ref p) H Q :=
  ⟨p, _, rfl, Or.inl (SqL.of h), rfl, by simp [flatV], by
    simp only [Bool.false_eq_true, if_false]
    rw [inV_strs]; exact q⟩
end
end Gd
namespace Gd
open PySem PySem.Spec PyProof.Rows L2
def isUni : P → Bool
  | .uni _ => true
  | .use _ _ => false
  | .sig _ _ => false
  | .row _ => false
  | .inp _ _ => false
  | .star _ => false
  | .dots _ => false
  | .tail _ => false
theorem bar_uni (p : P) (h : hok p) : decide (hd p = ("|" : Str)) = isUni p := by
  rw [bar_hd p h]
  cases p <;> rfl
theorem uni_or (p : P) : (∃ ms, p = .uni ms) ∨ (isUni p = false ∧ memb p = [p]) := by
  cases p with
  | uni ms => exact Or.inl ⟨ms, rfl⟩
  | _ => exact Or.inr ⟨rfl, rfl⟩
end Gd
namespace Gd
open PySem PySem.Spec PyProof.Rows L2
section
variable {H : Hp} {Q : VK} {K : PySem.W.Frag}
theorem r_in2L {p : Addr} {a b s : Str} (h : H p = some (.lst [.str a, .str b])) (q : Q (.bl (decide (s = a) || decide (s = b))) H) : rIn K false (.str s) (.ref p) H Q :=
  ⟨p, _, rfl, Or.inl (SqL.of h), rfl, rfl, by
    have e : inV (.str s) [.str a, .str b] = (decide (s = a) || decide (s = b)) := by simp only [inV, List.any_cons, List.any_nil, eqV_str, Bool.or_false]
    simp only [Bool.false_eq_true, if_false]
    rw [e]; exact q⟩
theorem r_sum {a : Addr} {ns : List Int} (h : H a = some (.lst (ns.map V.int))) (q : Q (.int ns.sum) H) : rSum K [.ref a] H Q := ⟨a, ns, rfl, SqL.of h, q⟩
end
theorem lszs_sum : ∀ qs : List P, (qs.map fun p => ((lsz p : Nat) : Int)).sum = ((lszs qs : Nat) : Int)
  | [] => by simp [lszs]
  | p :: r => by simp [lszs, lszs_sum r]
end Gd

namespace Gd
open PySem PySem.Spec PyProof.Rows L2
/-! ### what is a term: kinds 0 a term, 1 a value, 2 an item, 3 inputs, 4 a member -/
def tlok : Option Str → Prop
  | none => True
  | some s => s = ("..." : Str) ∨ good s
mutual
def isK : P → Nat → Prop
  | .use n vs, k => (k = 0 ∨ k = 1 ∨ k = 2 ∨ k = 4) ∧ good n ∧ isKs vs 1
  | .sig i r, k => (k = 0 ∨ k = 1 ∨ k = 2 ∨ k = 4) ∧ isK i 3 ∧ isK r 0
  | .uni ms, k => (k = 0 ∨ k = 1 ∨ k = 2) ∧ 2 ≤ ms.length ∧ (ms.map lkP).Nodup ∧ isKs ms 4
  | .row xs, k => k = 1 ∧ isKs xs 2
  | .inp xs tl, k => (k = 1 ∨ k = 3) ∧ isKs xs 2 ∧ tlok tl
  | .star n, k => k = 2 ∧ good n
  | .dots t, k => k = 2 ∧ isK t 0
  | .tail _, _ => False
def isKs : List P → Nat → Prop
  | [], _ => True
  | p :: r, k => isK p k ∧ isKs r k
end
theorem isKs_iff {k : Nat} : ∀ {l : List P}, isKs l k ↔ ∀ p ∈ l, isK p k
  | [] => by simp [isKs]
  | p :: r => by simp [isKs, isKs_iff (l := r)]
theorem isK_up {p : P} {k : Nat} (h : isK p 0) (hk : k = 0 ∨ k = 1 ∨ k = 2) : isK p k := by
  cases p <;> simp only [isK] at h ⊢
  case use => exact ⟨by omega, h.2⟩
  case sig => exact ⟨by omega, h.2⟩
  case uni => exact ⟨by omega, h.2⟩
  all_goals first | exact absurd h.1 (by decide) | exact absurd h id
theorem isK_mem {p : P} (h : isK p 4) : isK p 0 := by
  cases p <;> simp only [isK] at h ⊢
  case use => exact ⟨by first | omega | simp, h.2⟩
  case sig => exact ⟨by first | omega | simp, h.2⟩
  all_goals first | exact absurd h.1 (by decide) | exact absurd h id
theorem isK_memb {p m : P} (h : isK p 0) (hm : m ∈ memb p) : isK m 4 := by
  cases p <;> simp only [isK] at h
  case uni ms => exact isKs_iff.mp h.2.2.2 m hm
  case use => rw [List.mem_singleton.mp hm]; simp only [isK]; exact ⟨by decide, h.2⟩
  case sig => rw [List.mem_singleton.mp hm]; simp only [isK]; exact ⟨by decide, h.2⟩
  all_goals first | exact absurd h.1 (by decide) | exact absurd h id
theorem isK_hok {p : P} {k : Nat} (h : isK p k) : hok p := by
  cases p <;> simp only [isK] at h
  case use => exact h.2.1
  all_goals exact trivial
mutual
theorem isK_pre : ∀ (p : P) (k : Nat), isK p k → ∀ q ∈ pre p, hok q
  | .use n vs, k, h, q, hq => by
    simp only [isK] at h
    simp only [pre, List.mem_cons] at hq
    rcases hq with rfl | hq
    · exact h.2.1
    · exact isKs_pre vs 1 h.2.2 q hq
  | .sig i r, k, h, q, hq => by
    simp only [isK] at h
    simp only [pre, List.mem_cons, List.mem_append] at hq
    rcases hq with rfl | hq | hq
    · exact trivial
    · exact isK_pre i 3 h.2.1 q hq
    · exact isK_pre r 0 h.2.2 q hq
  | .uni ms, k, h, q, hq => by
    simp only [isK] at h
    simp only [pre, List.mem_cons] at hq
    rcases hq with rfl | hq
    · exact trivial
    · exact isKs_pre ms 4 h.2.2.2 q hq
  | .row ms, k, h, q, hq => by
    simp only [isK] at h
    simp only [pre, List.mem_cons] at hq
    rcases hq with rfl | hq
    · exact trivial
    · exact isKs_pre ms 2 h.2 q hq
  | .inp ms tl, k, h, q, hq => by
    simp only [isK] at h
    simp only [pre, List.mem_cons, List.mem_append] at hq
    rcases hq with rfl | hq | hq
    · exact trivial
    · exact isKs_pre ms 2 h.2.1 q hq
    · cases tl with
      | none => simp [tails] at hq
      | some s => simp only [tails, List.mem_singleton] at hq; subst hq; exact trivial
  | .star n, k, h, q, hq => by
    simp only [pre, List.mem_singleton] at hq
    subst hq; exact trivial
  | .dots t, k, h, q, hq => by
    simp only [isK] at h
    simp only [pre, List.mem_cons] at hq
    rcases hq with rfl | hq
    · exact trivial
    · exact isK_pre t 0 h.2 q hq
  | .tail s, k, h, q, hq => by
    simp only [pre, List.mem_singleton] at hq
    subst hq; exact trivial
theorem isKs_pre : ∀ (l : List P) (k : Nat), isKs l k → ∀ q ∈ pres l, hok q
  | [], _, _, q, hq => by simp [pres] at hq
  | p :: r, k, h, q, hq => by
    simp only [isKs] at h
    simp only [pres, List.mem_append] at hq
    rcases hq with hq | hq
    · exact isK_pre p k h.1 q hq
    · exact isKs_pre r k h.2 q hq
end
/-! ### sizes of drawn terms -/
def Wd : Nat → Nat
  | 0 => 110
  | d + 1 => 3 * Wd d + 400
theorem Wd_ge : ∀ d, 110 ≤ Wd d
  | 0 => Nat.le_refl _
  | d + 1 => by have := Wd_ge d; simp only [Wd]; omega
structure Cd (k dp wt : Nat) (p : P) : Prop where
  is : isK p k
  lay : (enc p).canLay0 = true
  dep : (enc p).depth ≤ dp
  bar : kq (enc p) = true
  wgt : kw (enc p) ≤ wt
theorem Cd.mono {k dp wt dp' wt' : Nat} {p : P} (h : Cd k dp wt p) (hd : dp ≤ dp') (hw : wt ≤ wt') : Cd k dp' wt' p := ⟨h.is, h.lay, Nat.le_trans h.dep hd, h.bar, Nat.le_trans h.wgt hw⟩
theorem Cd.ok {k dp wt : Nat} {p : P} (h : Cd k dp wt p) : Ok dp wt p := ⟨h.lay, h.dep, h.bar, h.wgt⟩
theorem Cd.up {k dp wt : Nat} {p : P} (h : Cd 0 dp wt p) (hk : k = 0 ∨ k = 1 ∨ k = 2) : Cd k dp wt p := ⟨isK_up h.is hk, h.lay, h.dep, h.bar, h.wgt⟩
theorem Cd.inV {dp wt : Nat} {p : P} (h : Cd 3 dp wt p) : Cd 1 dp wt p := by
  obtain ⟨a, b, c, d, e⟩ := h
  refine ⟨?_, b, c, d, e⟩
  cases p <;> simp only [isK] at a ⊢
  case inp => exact ⟨by decide, a.2⟩
  all_goals first | exact absurd a.1 (by decide) | exact absurd a id
theorem lay_all : ∀ {l : List P}, (∀ p ∈ l, (enc p).canLay0 = true) → PyData.canLayAll0 (encs l) = true
  | [], _ => by simp [encs, PyData.canLayAll0]
  | p :: r, h => by simp [encs, PyData.canLayAll0, h p List.mem_cons_self, lay_all (l := r) fun q hq => h q (List.mem_cons_of_mem _ hq)]
theorem dep_all {n : Nat} : ∀ {l : List P}, (∀ p ∈ l, (enc p).depth ≤ n) → PyData.depthAll (encs l) ≤ n
  | [], _ => by simp [encs, PyData.depthAll]
  | p :: r, h => by
    have h1 := h p List.mem_cons_self
    have h2 := dep_all (l := r) fun q hq => h q (List.mem_cons_of_mem _ hq)
    simp only [encs, PyData.depthAll]
    omega
theorem bar_all : ∀ {l : List P}, (∀ p ∈ l, kq (enc p) = true) → kqs (encs l) = true
  | [], _ => by simp [encs, kqs]
  | p :: r, h => by simp [encs, kqs, h p List.mem_cons_self, bar_all (l := r) fun q hq => h q (List.mem_cons_of_mem _ hq)]
theorem good_lay {n : Str} (h : good n) : PyData.strOk n = true := by
  unfold PyData.strOk
  rw [Array.all_eq_true_iff_forall_mem]
  intro c hc
  have := (h.2.2 c (Array.mem_toList_iff.mpr hc)).2
  exact decide_eq_true (by omega)
theorem bar_first : ∀ p : P, isUni p = false → isBar (enc p) = false := by
  intro p _
  cases p <;> rfl
theorem kqT_cons (x : PyData) (r : List PyData) : kqT (x :: r) = (!isBar x || barM r) := rfl
theorem kqT_encs : ∀ vs : List P, kqT (encs vs) = true
  | [] => rfl
  | v :: r => by
    simp only [encs, kqT]
    cases v <;> simp [enc, isBar]
theorem Cd.use {k dp s : Nat} {n : Str} {vs : List P} (hk : k = 0 ∨ k = 4) (hn : good n) (hv : ∀ v ∈ vs, ∃ w, Cd 1 dp w v) (hs : kws (encs vs) ≤ s) : Cd k (dp + 2) (s + 100) (.use n vs) := by
  refine ⟨?_, ?_, ?_, ?_, ?_⟩
  · simp only [isK]
    exact ⟨by omega, hn, isKs_iff.mpr fun p hp => (hv p hp).choose_spec.is⟩
  · simp only [enc, PyData.canLay0, PyData.canLayAll0, good_lay hn, Bool.true_and, Bool.and_true]
    exact lay_all fun p hp => (hv p hp).choose_spec.lay
  · have := dep_all (n := dp) (l := vs) fun p hp => (hv p hp).choose_spec.dep
    simp only [enc, PyData.depth, PyData.depthAll]
    omega
  · have hb := hn.apart.g
    have h1 := bar_all (l := vs) fun p hp => (hv p hp).choose_spec.bar
    simp only [enc, kq, kqs, kqT_cons, isBar, hb, h1, kqT_encs, Bool.not_false, Bool.true_or, Bool.true_and, Bool.and_true]
  · have := hn.2.1
    simp only [enc, kw, kws]
    omega
theorem Cd.row {dp s : Nat} {xs : List P} (hv : ∀ v ∈ xs, ∃ w, Cd 2 dp w v) (hs : kws (encs xs) ≤ s) : Cd 1 (dp + 2) (s + 60) (.row xs) := by
  have l1 : ("[]" : Str).length = 2 := by decide +kernel
  refine ⟨?_, ?_, ?_, ?_, ?_⟩
  · simp only [isK]
    exact ⟨by trivial, isKs_iff.mpr fun p hp => (hv p hp).choose_spec.is⟩
  · have : PyData.strOk ("[]" : Str) = true := by decide +kernel
    simp only [enc, PyData.canLay0, PyData.canLayAll0, this, Bool.true_and, Bool.and_true]
    exact lay_all fun p hp => (hv p hp).choose_spec.lay
  · have := dep_all (n := dp) (l := xs) fun p hp => (hv p hp).choose_spec.dep
    simp only [enc, PyData.depth, PyData.depthAll]
    omega
  · have hb : decide (("[]" : Str) = ("|" : Str)) = false := by decide +kernel
    have h1 := bar_all (l := xs) fun p hp => (hv p hp).choose_spec.bar
    simp only [enc, kq, kqs, kqT_cons, isBar, hb, h1, kqT_encs, Bool.not_false, Bool.true_or, Bool.true_and, Bool.and_true]
  · simp only [enc, kw, kws, l1]
    omega
theorem Cd.inp {dp s : Nat} {xs : List P} {tl : Option Str} (hv : ∀ v ∈ xs, ∃ w, Cd 2 dp w v) (ht : tlok tl) (hs : kws (encs xs) ≤ s) : Cd 3 (dp + 2) (s + 135) (.inp xs tl) := by
  have l1 : ("()" : Str).length = 2 := by decide +kernel
  have htl : ∀ s, tl = some s → PyData.strOk s = true ∧ s.length ≤ 6 := by
    rintro s rfl
    rcases ht with rfl | h
    · exact ⟨by decide +kernel, by decide +kernel⟩
    · exact ⟨good_lay h, h.2.1⟩
  refine ⟨?_, ?_, ?_, ?_, ?_⟩
  · simp only [isK]
    exact ⟨by decide, isKs_iff.mpr fun p hp => (hv p hp).choose_spec.is, ht⟩
  · have : PyData.strOk ("()" : Str) = true := by decide +kernel
    have h1 := lay_all (l := xs) fun p hp => (hv p hp).choose_spec.lay
    cases tl with
    | none => simp only [enc, tlD, PyData.canLay0, PyData.canLayAll0, this, h1, Bool.true_and, Bool.and_true]
    | some s => simp only [enc, tlD, PyData.canLay0, PyData.canLayAll0, this, h1, (htl s rfl).1, Bool.true_and, Bool.and_true]
  · have := dep_all (n := dp) (l := xs) fun p hp => (hv p hp).choose_spec.dep
    cases tl <;> simp only [enc, tlD, PyData.depth, PyData.depthAll] <;> omega
  · have hb : decide (("()" : Str) = ("|" : Str)) = false := by decide +kernel
    have h1 := bar_all (l := xs) fun p hp => (hv p hp).choose_spec.bar
    cases tl <;> simp only [enc, tlD, kq, kqs, kqT_cons, isBar, hb, h1, kqT_encs, Bool.not_false, Bool.true_or, Bool.true_and, Bool.and_true]
  · cases tl with
    | none => simp only [enc, tlD, kw, kws, l1]; omega
    | some s => have := (htl s rfl).2; simp only [enc, tlD, kw, kws, l1]; omega
theorem Cd.star {n : Str} (hn : good n) : Cd 2 1 110 (.star n) := by
  have l1 : ("*" : Str).length = 1 := by decide +kernel
  have h2 := hn.2.1
  refine ⟨by simp only [isK]; exact ⟨by trivial, hn⟩, ?_, by simp [enc, PyData.depth, PyData.depthAll], ?_, by simp only [enc, kw, kws, l1]; omega⟩
  · have : PyData.strOk ("*" : Str) = true := by decide +kernel
    simp only [enc, PyData.canLay0, PyData.canLayAll0, this, good_lay hn, Bool.and_true]
  · have hb : decide (("*" : Str) = ("|" : Str)) = false := by decide +kernel
    simp only [enc, kq, kqs, kqT_cons, isBar, hb, Bool.not_false, Bool.true_or, Bool.and_true]
theorem Cd.dots {dp w : Nat} {t : P} (h : Cd 0 dp w t) : Cd 2 (dp + 1) (w + 60) (.dots t) := by
  have l1 : ("..." : Str).length = 3 := by decide +kernel
  have := h.wgt
  have := h.dep
  refine ⟨by simp only [isK]; exact ⟨by trivial, h.is⟩, ?_, by simp only [enc, PyData.depth, PyData.depthAll]; omega, ?_, by simp only [enc, kw, kws, l1]; omega⟩
  · have : PyData.strOk ("..." : Str) = true := by decide +kernel
    simp only [enc, PyData.canLay0, PyData.canLayAll0, this, h.lay, Bool.and_true]
  · have hb : decide (("..." : Str) = ("|" : Str)) = false := by decide +kernel
    simp only [enc, kq, kqs, kqT_cons, isBar, hb, h.bar, Bool.not_false, Bool.true_or, Bool.and_true]
theorem Cd.sig {k dp w1 w2 : Nat} {i r : P} (hk : k = 0 ∨ k = 4) (hi : Cd 3 dp w1 i) (hr : Cd 0 dp w2 r) : Cd k (dp + 1) (w1 + w2 + 60) (.sig i r) := by
  have l1 : ("->" : Str).length = 2 := by decide +kernel
  have := hi.wgt
  have := hr.wgt
  have := hi.dep
  have := hr.dep
  refine ⟨by simp only [isK]; exact ⟨by omega, hi.is, hr.is⟩, ?_, by simp only [enc, PyData.depth, PyData.depthAll]; omega, ?_, by simp only [enc, kw, kws, l1]; omega⟩
  · have : PyData.strOk ("->" : Str) = true := by decide +kernel
    simp only [enc, PyData.canLay0, PyData.canLayAll0, this, hi.lay, hr.lay, Bool.and_true]
  · have hb : decide (("->" : Str) = ("|" : Str)) = false := by decide +kernel
    simp only [enc, kq, kqs, kqT_cons, isBar, hb, hi.bar, hr.bar, Bool.not_false, Bool.true_or, Bool.and_true]
theorem Cd.uni {dp s : Nat} {ms : List P} (hv : ∀ v ∈ ms, ∃ w, Cd 4 dp w v) (h2 : 2 ≤ ms.length) (h64 : ms.length < 64) (nd : (ms.map lkP).Nodup) (hs : kws (encs ms) ≤ s) : Cd 0 (dp + 2) (s + 60) (.uni ms) := by
  have l1 : ("|" : Str).length = 1 := by decide +kernel
  refine ⟨?_, ?_, ?_, ?_, ?_⟩
  · simp only [isK]
    exact ⟨by decide, h2, nd, isKs_iff.mpr fun p hp => (hv p hp).choose_spec.is⟩
  · have : PyData.strOk ("|" : Str) = true := by decide +kernel
    simp only [enc, PyData.canLay0, PyData.canLayAll0, this, Bool.true_and, Bool.and_true]
    exact lay_all fun p hp => (hv p hp).choose_spec.lay
  · have := dep_all (n := dp) (l := ms) fun p hp => (hv p hp).choose_spec.dep
    simp only [enc, PyData.depth, PyData.depthAll]
    omega
  · have h1 := bar_all (l := ms) fun p hp => (hv p hp).choose_spec.bar
    have hl : (encs ms).length < 64 := by rw [encs_map, List.length_map]; exact h64
    simp only [enc, kq, kqs, kqT_cons, isBar, barM, h1, kqT_encs, Bool.and_true]
    simp [hl]
  · simp only [enc, kw, kws, l1]
    omega
theorem addP_sl (acc : List P) (p : P) : (addP acc p).Sublist (acc ++ [p]) := by
  unfold addP
  split
  · exact List.sublist_append_left _ _
  · exact .refl _
theorem fold_sl : ∀ (l acc : List P), (l.foldl addP acc).Sublist (acc ++ l)
  | [], acc => by simp
  | p :: r, acc => by
    have h := (fold_sl r (addP acc p)).trans ((addP_sl acc p).append (.refl r))
    simpa using h
theorem kws_sl {l m : List P} (h : l.Sublist m) : kws (encs l) ≤ kws (encs m) := by
  induction h with
  | slnil => exact Nat.le_refl _
  | cons a _ ih => simp only [encs, kws]; omega
  | cons_cons a _ ih => simp only [encs, kws]; omega
/-- a drawn term of depth d -/
structure TmD (d : Nat) (p : P) : Prop where
  cd : Cd 0 (5 * d + 2) (Wd d) p
  mem : (memb p).length ≤ 3 ^ d
theorem TmD.cdm {d : Nat} {p m : P} (h : TmD d p) (hm : m ∈ memb p) : Cd 4 (5 * d + 2) (Wd d) m := by
  have o := h.cd.ok.memb hm
  exact ⟨isK_memb h.cd.is hm, o.lay, o.dep, o.bar, o.wgt⟩
theorem memb_kws {d : Nat} {p : P} (h : TmD d p) : kws (encs (memb p)) ≤ Wd d + 5 := by
  have := h.cd.wgt
  rcases uni_or p with ⟨ms, rfl⟩ | ⟨_, e⟩
  · simp only [enc, kw, kws] at this
    show kws (encs ms) ≤ _
    omega
  · rw [e]
    simp only [encs, kws]
    omega
theorem memb_ne' {p : P} (h : isK p 0) : memb p ≠ [] := by
  rcases uni_or p with ⟨ms, rfl⟩ | ⟨_, e⟩
  · simp only [isK] at h
    intro z
    have : ms = [] := z
    subst this
    exact absurd h.2.1 (by decide)
  · rw [e]; simp
theorem ljoin_TmD {d : Nat} {ps : List P} (h : ∀ p ∈ ps, TmD d p) (hne : ps ≠ []) (h3 : ps.length ≤ 3) (hd : d ≤ 2) (h1 : 1 ≤ (foundP ps).length) : TmD (d + 1) (ljoin ps) := by
  have hm : ∀ m ∈ ps.flatMap memb, Cd 4 (5 * d + 2) (Wd d) m := fun m hm => by
    obtain ⟨p, hp, hmp⟩ := List.mem_flatMap.mp hm
    exact (h p hp).cdm hmp
  have hsl : (foundP ps).Sublist (ps.flatMap memb) := by
    have := fold_sl (ps.flatMap memb) []
    simpa [foundP] using this
  have hf : ∀ m ∈ foundP ps, Cd 4 (5 * d + 2) (Wd d) m := fun m hx => hm m (hsl.subset hx)
  have hk : kws (encs (ps.flatMap memb)) ≤ ps.length * (Wd d + 5) ∧ (ps.flatMap memb).length ≤ ps.length * 3 ^ d := by
    clear hne h3 h1 hm hsl hf
    induction ps with
    | nil => exact ⟨by simp [encs, kws], by simp⟩
    | cons p r ih =>
      obtain ⟨i1, i2⟩ := ih fun q hq => h q (List.mem_cons_of_mem _ hq)
      have a := memb_kws (h p List.mem_cons_self)
      have b := (h p List.mem_cons_self).mem
      rw [List.flatMap_cons, encs_app, kws_app, List.length_append, List.length_cons, Nat.add_mul, Nat.add_mul]
      omega
  have hk2 := kws_sl hsl
  have hl2 := hsl.length_le
  have w3 : ps.length * (Wd d + 5) ≤ 3 * (Wd d + 5) := Nat.mul_le_mul_right _ h3
  have w4 : ps.length * 3 ^ d ≤ 3 * 3 ^ d := Nat.mul_le_mul_right _ h3
  have e3 : 3 ^ (d + 1) = 3 * 3 ^ d := by rw [Nat.pow_succ, Nat.mul_comm]
  have p64 : 3 * 3 ^ d ≤ 27 := by
    have : d = 0 ∨ d = 1 ∨ d = 2 := by omega
    rcases this with rfl | rfl | rfl <;> decide
  have one : 1 ≤ 3 ^ (d + 1) := Nat.one_le_pow _ _ (by decide)
  unfold ljoin
  split
  · rename_i p hp
    have hp4 := hf p (by rw [hp]; exact List.mem_singleton_self p)
    refine ⟨⟨isK_mem hp4.is, hp4.lay, by have := hp4.dep; omega, hp4.bar, by have := hp4.wgt; simp only [Wd]; omega⟩, ?_⟩
    rcases uni_or p with ⟨ms, rfl⟩ | ⟨_, e⟩
    · exact absurd hp4.is (by simp [isK])
    · rw [e]; exact one
  · rename_i hnot
    have h2 : 2 ≤ (foundP ps).length := by
      rcases hfp : foundP ps with _ | ⟨x, _ | ⟨y, r⟩⟩
      · rw [hfp] at h1; exact absurd h1 (by decide)
      · exact absurd hfp (hnot x)
      · simp
    refine ⟨(Cd.uni (dp := 5 * d + 2) (s := 3 * (Wd d + 5)) (fun v hv => ⟨_, hf v hv⟩) h2 (by omega) (fold_nd _ _ (by simp)) (by omega)).mono (by omega) (by simp only [Wd]; omega), ?_⟩
    show (foundP ps).length ≤ _
    omega
end Gd

/-! a dict of the module with text keys: in, not in -/
namespace Gd
open PySem PySem.Spec PyProof.Rows L2
/-- at d a written dict of these keys -/
structure KD (K : PySem.W.Frag) (w : World) (d : Addr) (ks : List Str) : Prop where
  ex : ∃ es n, KDict K w d es n ∧ es.toList.map He.keyOf = He.keysIn w.params ks
theorem KD.mk' {K : PySem.W.Frag} {w : World} {d : Addr} {ks : List Str} {es : Array DictEntry} {n : Nat} (h : K.lookup d = some ⟨.type "dict", none, .dict es n, #[]⟩)
    (e : es.toList.map He.keyOf = He.keysIn w.params ks) (l : (d == sysModules) = false) : KD K w d ks := ⟨es, n, ⟨h, He.keysLit_of e, l⟩, e⟩
theorem keys_find {P : Params} {z : Str} : ∀ {l : List DictEntry} {ks : List Str}, l.map He.keyOf = He.keysIn P ks →
    (l.find? (·.key.isStr z)).isSome = decide (z ∈ ks) ∧ l.any (·.refKey) = false
  | [], [], _ => ⟨by simp, rfl⟩
  | [], k :: ks, h => by cases h
  | e :: l, [], h => by cases h
  | e :: l, k :: ks, h => by
    have h1 : He.keyOf e :: l.map He.keyOf = some (k, PyData.keyHash P k) :: He.keysIn P ks := h
    injection h1 with h2 h3
    obtain ⟨i1, i2⟩ := keys_find (z := z) h3
    unfold He.keyOf at h2
    split at h2
    · rename_i x t q
      have h4 := Option.some.inj h2
      obtain ⟨h5, h6⟩ := Prod.mk.inj h4
      subst h5
      have hs : e.key.isStr z = decide (z = x) := by
        rw [q]
        show (x == z) = _
        by_cases c : z = x
        · subst c; simp
        · rw [decide_eq_false c]
          exact beq_false_of_ne (fun h => c h.symm)
      have hr : e.refKey = false := by
        unfold DictEntry.refKey
        rw [q]
      refine ⟨?_, ?_⟩
      · rw [List.find?_cons, hs]
        by_cases c : z = x
        · rw [decide_eq_true c]
          simp [c]
        · rw [decide_eq_false c]
          simp only [List.mem_cons, c, false_or]
          exact i1
      · rw [List.any_cons, hr, i2]
        rfl
    · cases h2
theorem KD.has {K : PySem.W.Frag} {w : World} {d : Addr} {ks : List Str} (D : KD K w d ks) (z : Str) : ∃ r, PySem.W.nsIn K d z = some r ∧ r.isSome = decide (z ∈ ks) := by
  obtain ⟨es, n, k, e⟩ := D.ex
  obtain ⟨h1, h2⟩ := keys_find (z := z) e
  unfold PySem.W.nsIn
  rw [k.at_]
  dsimp only
  cases c : es.toList.find? (·.key.isStr z) with
  | some en =>
    rw [c] at h1
    exact ⟨some en.val, rfl, h1⟩
  | none =>
    rw [c] at h1
    dsimp only
    rw [h2]
    exact ⟨none, rfl, h1⟩
section
variable {X : Cx} {d : Addr} {ks : List Str}
def rInKd (d : Addr) (ks : List Str) (neg : Bool) : R2 := fun x y H Q => ∃ z, x = .str z ∧ y = .ref d ∧ Q (.bl (if neg then !decide (z ∈ ks) else decide (z ∈ ks))) H
theorem op_inKd (D : KD X.K X.w d ks) : OpR X (compareOp .In) (rInKd d ks false) := by
  intro pins s σ H x y v u Q I rx ry ⟨z, ex, ey, q⟩
  obtain ⟨r, h1, h2⟩ := D.has z
  obtain ⟨es, n, k, _⟩ := D.ex
  refine op_in_kd k pins s σ H x y v u Q I rx ry ⟨z, r, ex, ey, h1, ?_⟩
  rw [h2]; exact q
theorem op_notInKd (D : KD X.K X.w d ks) : OpR X (compareOp .NotIn) (rInKd d ks true) := by
  intro pins s σ H x y v u Q I rx ry ⟨z, ex, ey, q⟩
  obtain ⟨r, h1, h2⟩ := D.has z
  obtain ⟨es, n, k, _⟩ := D.ex
  refine op_notIn_kd k pins s σ H x y v u Q I rx ry ⟨z, r, ex, ey, h1, ?_⟩
  rw [h2]; exact q
theorem r_inKd {H : Hp} {Q : VK} {z : Str} (q : Q (.bl (decide (z ∈ ks))) H) : rInKd d ks false (.str z) (.ref d) H Q := ⟨z, rfl, rfl, q⟩
theorem r_notInKd {H : Hp} {Q : VK} {z : Str} (q : Q (.bl (!decide (z ∈ ks))) H) : rInKd d ks true (.str z) (.ref d) H Q := ⟨z, rfl, rfl, q⟩
end
end Gd

namespace Gd
open PySem PySem.Spec PyProof.Rows L2
/-! ### a range from its end, and a def handed over -/
def iRevR (ta : TA) : TI := fun σ H R => ta σ H fun vs H1 => ∃ j : Int, vs = [.int j] ∧ 0 ≤ j ∧ j < 2 ^ 61 ∧ R (Itc (j - 1) (-1) j.toNat) H1
theorem size_up {j : Int} (h : 0 ≤ j) : Builtin.Range.rangeSize 0 j 1 = (j.toNat : Int) := by
  rw [rangeSize_one]
  split <;> omega
theorem small_rev {j : Int} (h : 0 ≤ j) (h2 : j < 2 ^ 61) : Builtin.Range.smallRev 0 j 1 = true := by
  unfold Builtin.Range.smallRev
  rw [size_up h]
  simp only [Bool.and_eq_true, Builtin.Range.rangeFitsLong, decide_eq_true_eq]
  omega
section
variable {X : Cx} {tg : Expr}
theorem pi_revR {e : Expr} {ta : TA} {p p2 pos pos2 : Pos} (hg : Gl X "reversed") (hm : X.mg "reversed" = none) (hg2 : Gl X "range") (hm2 : X.mg "range" = none) (ha : PA X [e] ta)
    (hs : starEach [e] X.env = [(false, eval e X.env)] := by rfl)
    (hs2 : starEach [.Call (.Name "range" p2) [e] [] pos2] X.env = (false, eval (.Call (.Name "range" p2) [e] [] pos2) X.env) :: starEach [] X.env := by rfl) :
    PI X tg (.Call (.Name "reversed" p) [.Call (.Name "range" p2) [e] [] pos2] [] pos) (iRevR ta) := by
  refine ⟨fun pins s σ H R I h => ?_⟩
  refine Call_ (ld_blt I hg hm PyProof.Rows.boot_reversed (PyProof.Rows.callWith_type1 (args_cons (Call_ (ld_blt I hg2 hm2 boot_range (PyProof.Rows.callWith_type1 (thn (ha.run pos2 pins s σ H _ I h) fun us s1 ⟨vs, H1, I1, r1, q1⟩ => ?_) hs rfl))) hs2) hs2 rfl))
  obtain ⟨j, e, q1, q2, q⟩ := q1
  subst e
  cases r1 with
  | cons r rr =>
    cases rr
    obtain ⟨t, rfl⟩ := r
    refine call_range_1 (args_nil ?_)
    refine reversed_range (IsRange.new ..) (small_rev q1 q2) (size_up q1) fun h' hit _ k => ?_
    have I2 : Inv X pins σ H1 { s1 with heap := s1.heap.push { cls := .type "range", data := .fields #[.int 0 s1.toks, .int j t, .int 1 (s1.toks + 1)] }, toks := s1.toks + 1 + 1 } := I1.kept fun b o e => Heap.get?_push_of_some _ e
    have I3 := I2.kept (t' := s1.toks + 1 + 1) k
    refine wpAny_pyIter_rangeiter hit ⟨_, [_], _, Itc (j - 1) (-1) j.toNat, H1, rfl, I3, turn_rangeC _ (j - 1) (-1) j.toNat, ?_, fun b hb => ?_, q⟩
    · have e1 : j - 1 + ((0 : Nat) : Int) * (-1) = 0 + ((j.toNat : Int) - 1) * 1 := by omega
      have e2 : ((j.toNat : Nat) : Int) - ((0 : Nat) : Int) = (j.toNat : Int) := by omega
      show IsRangeIter _ _ (j - 1 + ((0 : Nat) : Int) * (-1)) (((j.toNat : Nat) : Int) - ((0 : Nat) : Int)) (-1)
      rw [e1, e2]
      exact hit
    · have e := List.mem_singleton.mp hb
      subst e
      exact I2.fpOk (Nat.le_refl _) (I2.hok.fresh (Nat.le_refl _))
variable {CX : CXT} {k i : Nat} {f : Addr} {fd : FuncData} {ps : List Str} {sp : Sp} {E : XK} {x : Str} {p pos : Pos} {e : Expr} {es : List Expr} {t : TA}
/-- the i-th slot holds the def at f -/
def tGL (i : Nat) (f : Addr) (sp : Sp) (E : XK) (t : TA) : TE := fun σ H Q => σ[i]? = some (some (.ref f)) ∧ t σ H fun vs H1 => sp vs H1 Q E
theorem pe_gL {mx : Str} (C : Cal X.K X.mg mx f fd ps) (F : FG X.prog X.w X.K X.mg X.base CX k f fd ps sp) (hg : X.A.guards = some []) (hr : Room k X.A) (hN : X.N[i]? = some x) (hv : Vis X.env.scope x) (hx : Passes CX X E) (ha : PA X (e :: es) t)
    (hdb : (x == ("__debug__" : Str)) = false := by decide) (hcd : (x == ("__classdict__" : Str)) = false := by decide)
    (he : starEach (e :: es) X.env = (false, eval e X.env) :: starEach es X.env := by rfl) (hpl : (backTo pos (starEach es X.env)).any (·.1) = false := by rfl) : PE X (.Call (.Name x p) (e :: es) [] pos) (tGL i f sp E t) := by
  refine ⟨fun pins s σ H Q I h => ?_⟩
  obtain ⟨hs, ht⟩ := h
  refine wpAny_Call_Name_kw (thn ((pe_var (pos := p) hN hv hdb hcd).run pins s σ H (fun v H1 => v = .ref f ∧ H1 = H) I ⟨.ref f, hs, rfl, rfl⟩) fun u s1 ⟨v, H1, I1, r1, q1⟩ => ?_)
  obtain ⟨rfl, rfl⟩ := q1
  cases r1
  refine PySem.W.callWith_K (h₀ := X.base) I.ok.mod.kin C.kp (thn (ha.run pos pins s1 σ _ _ I1 ht) fun us s2 ⟨vs, H2, I2, r, q⟩ => ⟨I2.kIn, ?_⟩) he hpl
  exact run_g F hg hr C.bd hx I2 r q
end
section
variable {K : PySem.W.Frag} {σ : L2.St} {H : Hp} {Q : VK} {t : TA}
theorem r_gL {i : Nat} {f : Addr} {sp : Sp} {E : XK} (h : σ[i]? = some (some (.ref f))) (q : t σ H fun vs H1 => sp vs H1 Q E) : tGL i f sp E t σ H Q := ⟨h, q⟩
theorem r_revR {ta : TA} {R : It → Hp → Prop} (h : ta σ H fun vs H1 => ∃ j : Int, vs = [.int j] ∧ 0 ≤ j ∧ j < 2 ^ 61 ∧ R (Itc (j - 1) (-1) j.toNat) H1) : iRevR ta σ H R := h
theorem r_rep1 {l : Addr} {x : V} {n : Nat} (h : H l = some (.lst [x])) (hn : n ≤ 100000) (q : ∀ p H2, H p = none → Up H H2 → H2 p = some (.lst (List.replicate n x)) → Q (.ref p) H2) : rRep (.ref l) (.int (n : Int)) H Q := by
  refine ⟨l, n, [x], rfl, rfl, h, by omega, by omega, ?_, fun p hp => ?_⟩
  · simp only [List.length_singleton, Int.toNat_natCast, Nat.one_mul]
    exact Nat.le_trans hn (by decide)
  · have e : (List.replicate (n : Int).toNat [x]).flatten = List.replicate n x := by
      simp only [Int.toNat_natCast]
      clear hn q
      induction n with
      | zero => rfl
      | succ n ih => rw [List.replicate_succ, List.flatten_cons, ih, List.replicate_succ]; rfl
    rw [e]
    exact q p _ hp (Up.new hp) upd_same
theorem cut_nat {α : Type} {xs : List V} {a b : Nat} (ha : a ≤ b) (hb : b ≤ xs.length) : cutV xs (some (a : Int)) (some (b : Int)) = (xs.drop a).take (b - a) := by
  unfold cutV
  rw [HT.sIx_nat, HT.sIx_nat]
  have e1 : min a xs.length = a := by omega
  have e2 : min b xs.length = b := by omega
  simp only [e1, e2]
theorem r_slL {l : Addr} {xs : List V} {a b : Nat} (h : H l = some (.lst xs)) (ha : a ≤ b) (hb : b ≤ xs.length) (q : ∀ p H2, H p = none → Up H H2 → H2 p = some (.lst ((xs.drop a).take (b - a))) → Q (.ref p) H2) : rSlL K (.ref l) (some (a : Int)) (some (b : Int)) H Q :=
  ⟨l, xs, rfl, SqL.of h, fun p hp => by rw [cut_nat (α := V) ha hb]; exact q p _ hp (Up.new hp) upd_same⟩
end
end Gd
namespace Gd
open PySem PySem.Spec PyProof.Rows L2
/-! ### a list or a tuple that is walked -/
def iLT (K : PySem.W.Frag) (tl : TE) : TI := fun σ H R => iList K tl σ H R ∨ iTup K tl σ H R
theorem pi_lt {X : Cx} {tg l : Expr} {tl : TE} (hl : PE X l tl) : PI X tg l (iLT X.K tl) :=
  ⟨fun pins s σ H R I h => h.elim (fun h => (pi_list hl).run pins s σ H R I h) fun h => (pi_tup hl).run pins s σ H R I h⟩
theorem lt_for {K : PySem.W.Frag} {i : Nat} {a : Addr} {xs : List V} {g : TG} {tb : TS} {D : Ends} {σ : L2.St} {H0 H : Hp} (hv : σ[i]? = some (some (.ref a))) (ha : H0 a = some (.lst xs) ∨ H0 a = some (.tup xs))
    (Pv : Nat → L2.St → Hp → Prop) (h0 : Pv 0 σ H) (hk : ∀ i σ H', Pv i σ H' → Up H0 H')
    (hs : ∀ i x σ H, xs[i]? = some x → Pv i σ H → g x σ H fun σ2 H2 => tb { D with nx := Pv (i + 1), ct := Pv (i + 1), bk := D.nx } σ2 H2) (hd : ∀ σ H, Pv xs.length σ H → D.nx σ H) :
    iLT K (tVar i) σ H fun J H1 => ∃ W : Nat → Nat → L2.St → Hp → Prop, (∃ m, W 0 m σ H1) ∧ ∀ i m σ H, W i m σ H →
      (J.stop i H ∧ D.nx σ H) ∨ (J.go i H ∧ ∃ N : L2.St → Hp → Prop, (∀ σ' H', N σ' H' → ∃ m', m' < m ∧ W (i + 1) m' σ' H') ∧ ∀ x H', J.yld i H x H' → g x σ H' fun σ2 H2 => tb { D with nx := N, ct := N, bk := D.nx } σ2 H2) := by
  rcases ha with ha | ha
  · exact Or.inl ⟨_, hv, a, rfl, ⟨xs, SqL.of (hk _ _ _ h0 _ _ ha)⟩, for_list (K := K) (a := a) (xs := xs) Pv h0 (fun i σ H' _ p => SqL.of (hk i σ H' p _ _ ha)) hs hd⟩
  · exact Or.inr ⟨_, hv, a, rfl, ⟨xs, SqT.of (hk _ _ _ h0 _ _ ha)⟩, for_tup (K := K) (a := a) (xs := xs) Pv h0 (fun i σ H' _ p => SqT.of (hk i σ H' p _ _ ha)) hs hd⟩
end Gd

namespace Gd
open PySem PySem.Spec PyProof.Rows L2
/-! ### signs of texts, and lists that are glued -/
def sg (s : Str) : List Nat := s.cps.toList
theorem sg_app (a b : Str) : sg (a ++ b) = sg a ++ sg b := by
  show (a.cps ++ b.cps).toList = _
  simp [sg]
theorem sg_inj {a b : Str} (h : sg a = sg b) : a = b := str_ext h
theorem map_sg_inj : ∀ {l m : List Str}, l.map sg = m.map sg → l = m
  | [], [], _ => rfl
  | [], _ :: _, h => by simp at h
  | _ :: _, [], h => by simp at h
  | a :: l, b :: m, h => by
    simp only [List.map_cons, List.cons.injEq] at h
    rw [sg_inj h.1, map_sg_inj h.2]
def jn (d : Nat) : List (List Nat) → List Nat
  | [] => []
  | [x] => x
  | x :: y :: r => x ++ d :: jn d (y :: r)
theorem sg_join {z : Str} {d : Nat} (hz : sg z = [d]) : ∀ ys : List Str, sg (Txt.join z ys) = jn d (ys.map sg) := by
  intro ys
  rw [TL.join_eq]
  induction ys with
  | nil => show sg Str.empty = []; rfl
  | cons x r ih =>
    cases r with
    | nil => rfl
    | cons y r =>
      show sg (x ++ z ++ Str.join z (y :: r)) = _
      rw [sg_app, sg_app, ih, hz]
      simp [jn]
/-- how deep a row of signs leads: 1 opens, 2 closes, 3 parts -/
def lv (g : Nat → Nat) : Nat → List Nat → Option Nat
  | n, [] => some n
  | n, c :: r => if g c = 1 then lv g (n + 1) r else if g c = 2 then (if n = 0 then none else lv g (n - 1) r) else if g c = 3 ∧ n = 0 then none else lv g n r
theorem lv_app (g : Nat → Nat) : ∀ (a b : List Nat) (n : Nat), lv g n (a ++ b) = (lv g n a).bind fun m => lv g m b
  | [], b, n => rfl
  | c :: a, b, n => by
    simp only [List.cons_append, lv]
    split
    · exact lv_app g a b _
    · split
      · split
        · rfl
        · exact lv_app g a b _
      · split
        · rfl
        · exact lv_app g a b _
theorem lv_up {g : Nat → Nat} (k : Nat) : ∀ {a : List Nat} {n m : Nat}, lv g n a = some m → lv g (n + k) a = some (m + k)
  | [], n, m, h => by simp only [lv, Option.some.injEq] at h ⊢; omega
  | c :: a, n, m, h => by
    simp only [lv] at h ⊢
    split at h
    · rename_i c1
      rw [if_pos c1]
      have := lv_up k h
      rwa [show n + 1 + k = n + k + 1 by omega] at this
    · rename_i c1
      rw [if_neg c1]
      split at h
      · rename_i c2
        rw [if_pos c2]
        split at h
        · cases h
        · rename_i c3
          rw [if_neg (by omega)]
          have := lv_up k h
          rwa [show n - 1 + k = n + k - 1 by omega] at this
      · rename_i c2
        rw [if_neg c2]
        split at h
        · cases h
        · rename_i c3
          rw [if_neg (fun z => c3 ⟨z.1, by omega⟩)]
          exact lv_up k h
def Bal (g : Nat → Nat) (a : List Nat) : Prop := lv g 0 a = some 0
theorem Bal.app {g : Nat → Nat} {a b : List Nat} (h : Bal g a) (k : Bal g b) : Bal g (a ++ b) := by
  unfold Bal at h k ⊢
  rw [lv_app, h]
  exact k
theorem Bal.plain {g : Nat → Nat} : ∀ {a : List Nat}, (∀ c ∈ a, g c = 0) → Bal g a
  | [], _ => rfl
  | c :: a, h => by
    have hc := h c List.mem_cons_self
    have ih := Bal.plain fun x hx => h x (List.mem_cons_of_mem c hx)
    unfold Bal at ih ⊢
    simp only [lv, hc]
    exact ih
theorem Bal.at {g : Nat → Nat} {a : List Nat} (h : Bal g a) (n : Nat) : lv g n a = some n := by
  have := lv_up n h
  rwa [Nat.zero_add] at this
theorem lv_jn {g : Nat → Nat} {d : Nat} (hd : g d = 3) : ∀ {xs : List (List Nat)}, (∀ x ∈ xs, Bal g x) → lv g 1 (jn d xs) = some 1
  | [], _ => rfl
  | [x], h => (h x (by simp)).at 1
  | x :: y :: r, h => by
    rw [jn, lv_app, (h x (by simp)).at 1]
    show lv g 1 (d :: jn d (y :: r)) = some 1
    simp only [lv, hd]
    exact lv_jn hd fun z hz => h z (List.mem_cons_of_mem x hz)
theorem Bal.wrap {g : Nat → Nat} {d o c : Nat} (hd : g d = 3) (ho : g o = 1) (hc : g c = 2) {xs : List (List Nat)} (h : ∀ x ∈ xs, Bal g x) : Bal g (o :: (jn d xs ++ [c])) := by
  unfold Bal
  simp only [lv, ho, if_true]
  rw [lv_app, show 0 + 1 = 1 from rfl, lv_jn hd h]
  show lv g 1 [c] = some 0
  simp [lv, hc]
theorem Bal.cut {g : Nat → Nat} {d : Nat} (hd : g d = 3) {a b s t : List Nat} (h : Bal g a) (k : Bal g b) (e : a ++ d :: s = b ++ d :: t) : a = b ∧ s = t := by
  rcases List.append_eq_append_iff.mp e with ⟨c, hb, hc⟩ | ⟨c, hb, hc⟩
  · cases c with
    | nil => simp only [List.append_nil, List.nil_append, List.cons.injEq] at hb hc; exact ⟨hb.symm, hc.2⟩
    | cons x c =>
      simp only [List.cons_append, List.cons.injEq] at hc
      obtain ⟨rfl, hc⟩ := hc
      unfold Bal at h k
      rw [hb, lv_app, h] at k
      simp [lv, hd] at k
  · cases c with
    | nil => simp only [List.append_nil, List.nil_append, List.cons.injEq] at hb hc; exact ⟨hb, hc.2.symm⟩
    | cons x c =>
      simp only [List.cons_append, List.cons.injEq] at hc
      obtain ⟨rfl, hc⟩ := hc
      unfold Bal at h k
      rw [hb, lv_app, k] at h
      simp [lv, hd] at h
theorem Bal.no {g : Nat → Nat} {d : Nat} (hd : g d = 3) {a s t : List Nat} (h : Bal g a) (e : a = s ++ d :: t) (hs : Bal g s) : False := by
  unfold Bal at h hs
  rw [e, lv_app, hs] at h
  simp [lv, hd] at h
theorem jn_inj {g : Nat → Nat} {d : Nat} (hd : g d = 3) : ∀ {xs ys : List (List Nat)}, (∀ x ∈ xs, Bal g x ∧ x ≠ []) → (∀ y ∈ ys, Bal g y ∧ y ≠ []) → jn d xs = jn d ys → xs = ys
  | [], [], _, _, _ => rfl
  | [], [y], _, k, e => absurd e.symm (k y (by simp)).2
  | [], y :: z :: r, _, k, e => by simp [jn] at e
  | [x], [], h, _, e => absurd e (h x (by simp)).2
  | x :: z :: r, [], _, _, e => by simp [jn] at e
  | [x], [y], _, _, e => by simp only [jn] at e; rw [e]
  | [x], y :: z :: r, h, k, e => ((h x (by simp)).1.no hd e (k y (by simp)).1).elim
  | x :: z :: r, [y], h, k, e => ((k y (by simp)).1.no hd e.symm (h x (by simp)).1).elim
  | x :: z :: r, y :: u :: t, h, k, e => by
    obtain ⟨e1, e2⟩ := Bal.cut hd (h x (by simp)).1 (k y (by simp)).1 e
    rw [e1, jn_inj hd (fun q hq => h q (List.mem_cons_of_mem x hq)) (fun q hq => k q (List.mem_cons_of_mem y hq)) e2]
/-! ### keys that part exactly what is not the same -/
def Sm (f : P → Str) : P → P → Prop
  | .use n vs, .use m ws => n = m ∧ vs.map f = ws.map f
  | .sig i r, .sig j t => f i = f j ∧ f r = f t
  | .uni ms, .uni ns => (ms.map f).Perm (ns.map f)
  | .row xs, .row ys => xs.map f = ys.map f
  | .inp xs s, .inp ys t => xs.map f = ys.map f ∧ s = t
  | .star n, .star m => n = m
  | .dots t, .dots u => f t = f u
  | _, _ => False
def Faith (f : P → Str) : Prop := ∀ (x y : P) (k j : Nat), isK x k → isK y j → (f x = f y ↔ Sm f x y)
theorem map_agree {f g : P → Str} : ∀ {vs ws : List P}, (∀ a ∈ vs, ∀ b ∈ ws, f a = f b → g a = g b) → vs.map f = ws.map f → vs.map g = ws.map g
  | [], [], _, _ => rfl
  | [], _ :: _, _, e => by simp at e
  | _ :: _, [], _, e => by simp at e
  | a :: vs, b :: ws, h, e => by
    simp only [List.map_cons, List.cons.injEq] at e ⊢
    exact ⟨h a (by simp) b (by simp) e.1, map_agree (fun x hx y hy => h x (List.mem_cons_of_mem a hx) y (List.mem_cons_of_mem b hy)) e.2⟩
open Classical in
theorem perm_agree {f g : P → Str} {vs ws : List P} (h : ∀ a ∈ vs ++ ws, ∀ b ∈ vs ++ ws, f a = f b → g a = g b) (e : (vs.map f).Perm (ws.map f)) : (vs.map g).Perm (ws.map g) := by
  let φ : Str → Str := fun v => if z : ∃ a ∈ vs ++ ws, f a = v then g z.choose else Str.empty
  have hφ : ∀ a ∈ vs ++ ws, φ (f a) = g a := fun a ha => by
    have z : ∃ b ∈ vs ++ ws, f b = f a := ⟨a, ha, rfl⟩
    show (if z : ∃ b ∈ vs ++ ws, f b = f a then g z.choose else Str.empty) = g a
    rw [dif_pos z]
    exact h _ z.choose_spec.1 _ ha z.choose_spec.2
  have e1 : vs.map g = (vs.map f).map φ := by
    rw [List.map_map]
    exact List.map_congr_left fun a ha => (hφ a (List.mem_append_left _ ha)).symm
  have e2 : ws.map g = (ws.map f).map φ := by
    rw [List.map_map]
    exact List.map_congr_left fun a ha => (hφ a (List.mem_append_right _ ha)).symm
  rw [e1, e2]
  exact e.map φ
def cnt (p : P) : Nat := (pre p).length
def cnts (l : List P) : Nat := (pres l).length
theorem cnt_mem {p : P} : ∀ {l : List P}, p ∈ l → cnt p ≤ cnts l
  | [], h => (List.not_mem_nil h).elim
  | q :: r, h => by
    simp only [cnts, pres, List.length_append]
    rcases List.mem_cons.mp h with rfl | h
    · simp only [cnt]; omega
    · have := cnt_mem h; simp only [cnts] at this; omega
theorem Faith.agree {f g : P → Str} (hf : Faith f) (hg : Faith g) : ∀ (n : Nat) (x y : P) (k j : Nat), cnt x ≤ n → cnt y ≤ n → isK x k → isK y j → f x = f y → g x = g y
  | 0, x, y, k, j, h, _, _, _, _ => by
    have := pre_eq x
    simp only [cnt, this, List.length_cons] at h
    omega
  | n + 1, x, y, k, j, hx, hy, kx, ky, e => by
    have ih := Faith.agree hf hg n
    rw [hg x y k j kx ky]
    have s := (hf x y k j kx ky).mp e
    have go : ∀ {vs ws : List P} {k' j' : Nat}, cnts vs ≤ n → cnts ws ≤ n → isKs vs k' → isKs ws j' → ∀ a ∈ vs, ∀ b ∈ ws, f a = f b → g a = g b := fun h1 h2 h3 h4 a ha b hb =>
      ih a b _ _ (Nat.le_trans (cnt_mem ha) h1) (Nat.le_trans (cnt_mem hb) h2) (isKs_iff.mp h3 a ha) (isKs_iff.mp h4 b hb)
    cases x with
    | use n vs =>
      cases y with
      | use m ws =>
        simp only [isK] at kx ky
        simp only [cnt, pre, List.length_cons] at hx hy
        exact ⟨s.1, map_agree (go (by simp only [cnts]; omega) (by simp only [cnts]; omega) kx.2.2 ky.2.2) s.2⟩
      | _ => exact s.elim
    | sig a b =>
      cases y with
      | sig c d =>
        simp only [isK] at kx ky
        simp only [cnt, pre, List.length_cons, List.length_append] at hx hy
        exact ⟨ih a c _ _ (by simp only [cnt]; omega) (by simp only [cnt]; omega) kx.2.1 ky.2.1 s.1, ih b d _ _ (by simp only [cnt]; omega) (by simp only [cnt]; omega) kx.2.2 ky.2.2 s.2⟩
      | _ => exact s.elim
    | uni vs =>
      cases y with
      | uni ws =>
        simp only [isK] at kx ky
        simp only [cnt, pre, List.length_cons] at hx hy
        refine perm_agree (fun a ha b hb => ?_) s
        have h1 : ∀ a ∈ vs ++ ws, cnt a ≤ n ∧ isK a 4 := fun a ha => by
          rcases List.mem_append.mp ha with ha | ha
          · exact ⟨Nat.le_trans (cnt_mem ha) (by simp only [cnts]; omega), isKs_iff.mp kx.2.2.2 a ha⟩
          · exact ⟨Nat.le_trans (cnt_mem ha) (by simp only [cnts]; omega), isKs_iff.mp ky.2.2.2 a ha⟩
        exact ih a b _ _ (h1 a ha).1 (h1 b hb).1 (h1 a ha).2 (h1 b hb).2
      | _ => exact s.elim
    | row vs =>
      cases y with
      | row ws =>
        simp only [isK] at kx ky
        simp only [cnt, pre, List.length_cons] at hx hy
        exact map_agree (go (by simp only [cnts]; omega) (by simp only [cnts]; omega) kx.2 ky.2) s
      | _ => exact s.elim
    | inp vs t =>
      cases y with
      | inp ws u =>
        simp only [isK] at kx ky
        simp only [cnt, pre, List.length_cons, List.length_append] at hx hy
        exact ⟨map_agree (go (by simp only [cnts]; omega) (by simp only [cnts]; omega) kx.2.1 ky.2.1) s.1, s.2⟩
      | _ => exact s.elim
    | star a =>
      cases y with
      | star b => exact s
      | _ => exact s.elim
    | dots a =>
      cases y with
      | dots b =>
        simp only [isK] at kx ky
        simp only [cnt, pre, List.length_cons] at hx hy
        exact ih a b _ _ (by simp only [cnt]; omega) (by simp only [cnt]; omega) kx.2 ky.2 s
      | _ => exact s.elim
    | tail a => simp only [isK] at kx
end Gd

namespace Gd
open PySem PySem.Spec PyProof.Rows L2
/-! ### the program's key of a part -/
def tlk : Option Str → List Str
  | none => []
  | some s => [("**" : Str) ++ s]
mutual
def kc : P → Str
  | .use n vs => n ++ ("[" : Str) ++ Txt.join ("," : Str) (kcs vs) ++ ("]" : Str)
  | .sig i r => ("->" : Str) ++ ("[" : Str) ++ Txt.join ("," : Str) [kc i, kc r] ++ ("]" : Str)
  | .uni ms => ("|" : Str) ++ ("[" : Str) ++ Txt.join ("," : Str) (ssort (kcs ms)) ++ ("]" : Str)
  | .row xs => ("[]" : Str) ++ ("[" : Str) ++ Txt.join ("," : Str) (kcs xs) ++ ("]" : Str)
  | .inp xs tl => ("()" : Str) ++ ("[" : Str) ++ Txt.join ("," : Str) (kcs xs ++ tlk tl) ++ ("]" : Str)
  | .star n => ("*" : Str) ++ n
  | .dots t => ("..." : Str) ++ ("[" : Str) ++ Txt.join ("," : Str) [kc t] ++ ("]" : Str)
  | .tail s => ("**" : Str) ++ s
def kcs : List P → List Str
  | [] => []
  | p :: r => kc p :: kcs r
end
theorem kcs_map : ∀ l : List P, kcs l = l.map kc
  | [] => rfl
  | p :: r => by simp [kcs, kcs_map r]
theorem kcs_app (a b : List P) : kcs (a ++ b) = kcs a ++ kcs b := by simp only [kcs_map, List.map_append]
def spl (p : P) (ks : List Str) : Str := match p with
  | .star n => ("*" : Str) ++ n
  | .tail s => ("**" : Str) ++ s
  | .uni _ => ("|" : Str) ++ ("[" : Str) ++ Txt.join ("," : Str) (ssort ks) ++ ("]" : Str)
  | p => hd p ++ ("[" : Str) ++ Txt.join ("," : Str) ks ++ ("]" : Str)
theorem kc_spl (p : P) : kc p = spl p (kcs (parts p)) := by
  cases p with
  | inp xs tl =>
    cases tl with
    | none => simp [kc, spl, parts, tlk, tails, kcs_app, kcs, hd]
    | some s => simp [kc, spl, parts, tlk, tails, kcs_app, kcs, hd]
  | _ => simp [kc, spl, parts, hd, kcs]
def gK (c : Nat) : Nat := if c = 91 then 1 else if c = 93 then 2 else if c = 44 then 3 else 0
def gL (c : Nat) : Nat := if c = 40 ∨ c = 123 then 1 else if c = 41 ∨ c = 125 then 2 else if c = 32 then 3 else 0
theorem s_o : sg ("[" : Str) = [91] := by decide +kernel
theorem s_c : sg ("]" : Str) = [93] := by decide +kernel
theorem s_d : sg ("," : Str) = [44] := by decide +kernel
theorem s_sig : sg ("->" : Str) = [45, 62] := by decide +kernel
theorem s_uni : sg ("|" : Str) = [124] := by decide +kernel
theorem s_row : sg ("[]" : Str) = [91, 93] := by decide +kernel
theorem s_inp : sg ("()" : Str) = [40, 41] := by decide +kernel
theorem s_star : sg ("*" : Str) = [42] := by decide +kernel
theorem s_tail : sg ("**" : Str) = [42, 42] := by decide +kernel
theorem s_dots : sg ("..." : Str) = [46, 46, 46] := by decide +kernel
theorem s_lo : sg ("(" : Str) = [40] := by decide +kernel
theorem s_lc : sg (")" : Str) = [41] := by decide +kernel
theorem s_uo : sg ("{" : Str) = [123] := by decide +kernel
theorem s_uc : sg ("}" : Str) = [125] := by decide +kernel
theorem s_ld : sg (" " : Str) = [32] := by decide +kernel
theorem s_none : sg ("None" : Str) = [78, 111, 110, 101] := by decide +kernel
theorem good_sg {n : Str} (h : good n) : ∀ c ∈ sg n, 97 ≤ c ∧ c ≤ 122 := h.2.2
theorem good_ne' {n : Str} (h : good n) : sg n ≠ [] := h.1
theorem good_K {n : Str} (h : good n) : Bal gK (sg n) := Bal.plain fun c hc => by
  have := good_sg h c hc
  unfold gK
  rw [if_neg (by omega), if_neg (by omega), if_neg (by omega)]
theorem tl_K {s : Str} (h : s = ("..." : Str) ∨ good s) : Bal gK (sg s) := by
  rcases h with rfl | h
  · rw [s_dots]; rfl
  · exact good_K h
/-- the glued text of a part -/
theorem sg_kc (a b : Str) (ks : List Str) : sg (a ++ ("[" : Str) ++ Txt.join ("," : Str) ks ++ ("]" : Str)) = sg a ++ 91 :: (jn 44 (ks.map sg) ++ [93]) := by
  rw [sg_app, sg_app, sg_app, s_o, s_c, sg_join s_d]
  simp
theorem wrapK {ks : List Str} (h : ∀ k ∈ ks, Bal gK (sg k)) : Bal gK (91 :: (jn 44 (ks.map sg) ++ [93])) :=
  Bal.wrap (d := 44) rfl rfl rfl fun x hx => by
    obtain ⟨k, hk, rfl⟩ := List.mem_map.mp hx
    exact h k hk
theorem mem_ssort {k : Str} {ks : List Str} : k ∈ ssort ks ↔ k ∈ ks := (ssort_perm ks).mem_iff
mutual
theorem bal_kc : ∀ (p : P) (k : Nat), isK p k → Bal gK (sg (kc p))
  | .use n vs, k, h => by
    simp only [isK] at h
    rw [kc, sg_kc _ Str.empty]
    exact (good_K h.2.1).app (wrapK (bal_kcs vs 1 h.2.2))
  | .sig i r, k, h => by
    simp only [isK] at h
    rw [kc, sg_kc _ Str.empty, s_sig]
    have h1 := bal_kc i 3 h.2.1
    have h2 := bal_kc r 0 h.2.2
    exact Bal.app (a := [45, 62]) rfl (wrapK fun x hx => by
      rcases List.mem_cons.mp hx with rfl | hx
      · exact h1
      · rw [List.mem_singleton.mp hx]; exact h2)
  | .uni ms, k, h => by
    simp only [isK] at h
    rw [kc, sg_kc _ Str.empty, s_uni]
    have h1 := bal_kcs ms 4 h.2.2.2
    exact Bal.app (a := [124]) rfl (wrapK fun x hx => h1 x (mem_ssort.mp hx))
  | .row xs, k, h => by
    simp only [isK] at h
    rw [kc, sg_kc _ Str.empty, s_row]
    exact Bal.app (a := [91, 93]) rfl (wrapK (bal_kcs xs 2 h.2))
  | .inp xs tl, k, h => by
    simp only [isK] at h
    rw [kc, sg_kc _ Str.empty, s_inp]
    have h1 := bal_kcs xs 2 h.2.1
    refine Bal.app (a := [40, 41]) rfl (wrapK fun x hx => ?_)
    rcases List.mem_append.mp hx with hx | hx
    · exact h1 x hx
    · cases tl with
      | none => simp [tlk] at hx
      | some s =>
        simp only [tlk, List.mem_singleton] at hx
        subst hx
        rw [sg_app, s_tail]
        exact Bal.app (a := [42, 42]) rfl (tl_K h.2.2)
  | .star n, k, h => by
    simp only [isK] at h
    rw [kc, sg_app, s_star]
    exact Bal.app (a := [42]) rfl (good_K h.2)
  | .dots t, k, h => by
    simp only [isK] at h
    rw [kc, sg_kc _ Str.empty, s_dots]
    have h1 := bal_kc t 0 h.2
    exact Bal.app (a := [46, 46, 46]) rfl (wrapK fun x hx => by rw [List.mem_singleton.mp hx]; exact h1)
  | .tail s, k, h => by simp only [isK] at h
theorem bal_kcs : ∀ (l : List P) (k : Nat), isKs l k → ∀ x ∈ kcs l, Bal gK (sg x)
  | [], _, _, x, hx => by simp [kcs] at hx
  | p :: r, k, h, x, hx => by
    simp only [isKs] at h
    simp only [kcs, List.mem_cons] at hx
    rcases hx with rfl | hx
    · exact bal_kc p k h.1
    · exact bal_kcs r k h.2 x hx
end
/-! ### what a key begins with -/
def tg : P → Nat
  | .use _ _ => 0
  | .sig _ _ => 1
  | .uni _ => 2
  | .row _ => 3
  | .inp _ _ => 4
  | .star _ => 5
  | .dots _ => 6
  | .tail _ => 7
def tc (c : Nat) : Nat := if c = 45 then 1 else if c = 124 then 2 else if c = 91 then 3 else if c = 40 then 4 else if c = 42 then 5 else if c = 46 then 6 else 0
theorem hd_tc {p : P} {k : Nat} (h : isK p k) : ∃ c r, sg (hd p) = c :: r ∧ tc c = tg p := by
  cases p with
  | use n vs =>
    simp only [isK] at h
    cases e : sg n with
    | nil => exact absurd e (good_ne' h.2.1)
    | cons c r =>
      refine ⟨c, r, e, ?_⟩
      have := good_sg h.2.1 c (by rw [e]; simp)
      unfold tc
      rw [if_neg (by omega), if_neg (by omega), if_neg (by omega), if_neg (by omega), if_neg (by omega), if_neg (by omega)]
      rfl
  | sig i r => exact ⟨_, _, s_sig, rfl⟩
  | uni ms => exact ⟨_, _, s_uni, rfl⟩
  | row ms => exact ⟨_, _, s_row, rfl⟩
  | inp ms t => exact ⟨_, _, s_inp, rfl⟩
  | star n => exact ⟨_, _, s_star, rfl⟩
  | dots n => exact ⟨_, _, s_dots, rfl⟩
  | tail n => simp only [isK] at h
theorem tg_of {x y : P} {k j : Nat} (kx : isK x k) (ky : isK y j) {s t : List Nat} (e : sg (hd x) ++ s = sg (hd y) ++ t) : tg x = tg y := by
  obtain ⟨c, r, e1, e2⟩ := hd_tc kx
  obtain ⟨d, u, e3, e4⟩ := hd_tc ky
  rw [e1, e3] at e
  simp only [List.cons_append, List.cons.injEq] at e
  rw [← e2, ← e4, e.1]
theorem kc_hd (p : P) : ∃ s, sg (kc p) = sg (hd p) ++ s := by
  cases p <;> first
    | exact ⟨_, by rw [kc, sg_kc _ Str.empty]; rfl⟩
    | exact ⟨_, by rw [kc, sg_app]; rfl⟩
theorem kc_ne {p : P} {k : Nat} (h : isK p k) : sg (kc p) ≠ [] := by
  obtain ⟨c, r, e, _⟩ := hd_tc h
  obtain ⟨s, e2⟩ := kc_hd p
  rw [e2, e]
  simp
theorem kcs_ne {l : List P} {k : Nat} (h : isKs l k) : ∀ x ∈ kcs l, Bal gK (sg x) ∧ sg x ≠ [] := fun x hx => by
  refine ⟨bal_kcs l k h x hx, ?_⟩
  rw [kcs_map] at hx
  obtain ⟨p, hp, rfl⟩ := List.mem_map.mp hx
  exact kc_ne (isKs_iff.mp h p hp)
theorem wrap_inj {g : Nat → Nat} {d : Nat} (hd : g d = 3) {ks ls : List Str} {c : Nat} (h : ∀ x ∈ ks, Bal g (sg x) ∧ sg x ≠ []) (k : ∀ x ∈ ls, Bal g (sg x) ∧ sg x ≠ [])
    (e : jn d (ks.map sg) ++ [c] = jn d (ls.map sg) ++ [c]) : ks = ls := by
  have e1 := List.append_cancel_right e
  refine map_sg_inj (jn_inj hd (fun x hx => ?_) (fun x hx => ?_) e1)
  · obtain ⟨y, hy, rfl⟩ := List.mem_map.mp hx
    exact h y hy
  · obtain ⟨y, hy, rfl⟩ := List.mem_map.mp hx
    exact k y hy
theorem take_name {n m : Str} (hn : good n) (hm : good m) {s t : List Nat} (e : sg n ++ 91 :: s = sg m ++ 91 :: t) : n = m ∧ s = t := by
  have h := good_sg hn
  have k := good_sg hm
  rcases List.append_eq_append_iff.mp e with ⟨c, hb, hc⟩ | ⟨c, hb, hc⟩
  · cases c with
    | nil => simp only [List.append_nil, List.nil_append, List.cons.injEq] at hb hc; exact ⟨sg_inj hb.symm, hc.2⟩
    | cons x c =>
      simp only [List.cons_append, List.cons.injEq] at hc
      obtain ⟨rfl, hc⟩ := hc
      have := k 91 (by rw [hb]; simp)
      omega
  · cases c with
    | nil => simp only [List.append_nil, List.nil_append, List.cons.injEq] at hb hc; exact ⟨sg_inj hb, hc.2.symm⟩
    | cons x c =>
      simp only [List.cons_append, List.cons.injEq] at hc
      obtain ⟨rfl, hc⟩ := hc
      have := h 91 (by rw [hb]; simp)
      omega
theorem perm_sort {l m : List Str} : l.Perm m ↔ ssort l = ssort m :=
  ⟨fun h => sorted_same (((ssort_perm l).trans h).trans (ssort_perm m).symm) (ssort_sorted l) (ssort_sorted m), fun h => ((ssort_perm l).symm.trans (by rw [h])).trans (ssort_perm m)⟩
theorem tlk_ne {tl : Option Str} (h : tlok tl) : ∀ x ∈ tlk tl, Bal gK (sg x) ∧ sg x ≠ [] := fun x hx => by
  cases tl with
  | none => simp [tlk] at hx
  | some s =>
    simp only [tlk, List.mem_singleton] at hx
    subst hx
    rw [sg_app, s_tail]
    exact ⟨Bal.app (a := [42, 42]) rfl (tl_K h), by simp⟩
/-- the keys of items never begin as that of a tail -/
theorem item_tail {p : P} {k : Nat} (h : isK p k) (s : Str) : kc p ≠ ("**" : Str) ++ s := fun e => by
  have e1 := congrArg sg e
  rw [sg_app, s_tail] at e1
  obtain ⟨c, r, e3, e4⟩ := hd_tc h
  obtain ⟨u, e5⟩ := kc_hd p
  have e6 := e1
  rw [e5, e3] at e6
  simp only [List.cons_append, List.nil_append, List.cons.injEq] at e6
  rw [e6.1] at e4
  have e7 : tg p = 5 := e4.symm
  cases p with
  | star n =>
    simp only [isK] at h
    rw [kc, sg_app, s_star] at e1
    simp only [List.cons_append, List.nil_append, List.cons.injEq, true_and] at e1
    have := good_sg h.2 42 (by rw [e1]; simp)
    omega
  | _ => simp [tg] at e7
theorem tails_inj {xs ys : List P} {s t : Option Str} {k j : Nat} (hx : isKs xs k) (hy : isKs ys j) (e : kcs xs ++ tlk s = kcs ys ++ tlk t) : kcs xs = kcs ys ∧ s = t := by
  have no : ∀ {l : List P} {k : Nat}, isKs l k → ∀ u, ("**" : Str) ++ u ∉ kcs l := fun h u hu => by
    rw [kcs_map] at hu
    obtain ⟨p, hp, e⟩ := List.mem_map.mp hu
    exact item_tail (isKs_iff.mp h p hp) u e
  cases s with
  | none =>
    cases t with
    | none => simp only [tlk, List.append_nil] at e; exact ⟨e, rfl⟩
    | some u =>
      simp only [tlk, List.append_nil] at e
      exact absurd (show ("**" : Str) ++ u ∈ kcs xs by rw [e]; simp) (no hx u)
  | some v =>
    cases t with
    | none =>
      simp only [tlk, List.append_nil] at e
      exact absurd (show ("**" : Str) ++ v ∈ kcs ys by rw [← e]; simp) (no hy v)
    | some u =>
      simp only [tlk] at e
      have e1 := List.append_inj' e rfl
      refine ⟨e1.1, ?_⟩
      have e2 : ("**" : Str) ++ v = ("**" : Str) ++ u := by simpa using e1.2
      have e3 := congrArg sg e2
      rw [sg_app, sg_app] at e3
      rw [sg_inj (List.append_cancel_left e3)]
theorem map_kcs {l m : List P} : kcs l = kcs m ↔ l.map kc = m.map kc := by rw [kcs_map, kcs_map]
theorem faith_kc : Faith kc := by
  intro x y k j kx ky
  constructor
  · intro e
    have e1 := congrArg sg e
    obtain ⟨u, e2⟩ := kc_hd x
    obtain ⟨v, e3⟩ := kc_hd y
    have ht : tg x = tg y := tg_of kx ky (by rw [← e2, ← e3]; exact e1)
    clear e2 e3
    cases x with
    | use n vs =>
      cases y with
      | use m ws =>
        simp only [isK] at kx ky
        rw [kc, kc, sg_kc _ Str.empty, sg_kc _ Str.empty] at e1
        obtain ⟨e4, e5⟩ := take_name kx.2.1 ky.2.1 e1
        exact ⟨e4, map_kcs.mp (wrap_inj rfl (kcs_ne kx.2.2) (kcs_ne ky.2.2) e5)⟩
      | _ => simp [tg] at ht
    | sig a b =>
      cases y with
      | sig c d =>
        simp only [isK] at kx ky
        rw [kc, kc, sg_kc _ Str.empty, sg_kc _ Str.empty, s_sig] at e1
        simp only [List.cons_append, List.nil_append, List.cons.injEq, true_and] at e1
        have e4 := wrap_inj (g := gK) rfl (ks := [kc a, kc b]) (ls := [kc c, kc d]) (fun x hx => ?_) (fun x hx => ?_) e1
        · simp only [List.cons.injEq, and_true] at e4
          exact e4
        · rcases List.mem_cons.mp hx with rfl | hx
          · exact ⟨bal_kc _ _ kx.2.1, kc_ne kx.2.1⟩
          · rw [List.mem_singleton.mp hx]; exact ⟨bal_kc _ _ kx.2.2, kc_ne kx.2.2⟩
        · rcases List.mem_cons.mp hx with rfl | hx
          · exact ⟨bal_kc _ _ ky.2.1, kc_ne ky.2.1⟩
          · rw [List.mem_singleton.mp hx]; exact ⟨bal_kc _ _ ky.2.2, kc_ne ky.2.2⟩
      | _ => simp [tg] at ht
    | uni a =>
      cases y with
      | uni b =>
        simp only [isK] at kx ky
        rw [kc, kc, sg_kc _ Str.empty, sg_kc _ Str.empty, s_uni] at e1
        simp only [List.cons_append, List.nil_append, List.cons.injEq, true_and] at e1
        have e4 := wrap_inj (g := gK) rfl (fun x hx => kcs_ne kx.2.2.2 x (mem_ssort.mp hx)) (fun x hx => kcs_ne ky.2.2.2 x (mem_ssort.mp hx)) e1
        rw [kcs_map, kcs_map] at e4
        exact perm_sort.mpr e4
      | _ => simp [tg] at ht
    | row a =>
      cases y with
      | row b =>
        simp only [isK] at kx ky
        rw [kc, kc, sg_kc _ Str.empty, sg_kc _ Str.empty, s_row] at e1
        simp only [List.cons_append, List.nil_append, List.cons.injEq, true_and] at e1
        exact map_kcs.mp (wrap_inj (g := gK) rfl (kcs_ne kx.2) (kcs_ne ky.2) e1)
      | _ => simp [tg] at ht
    | inp a s =>
      cases y with
      | inp b t =>
        simp only [isK] at kx ky
        rw [kc, kc, sg_kc _ Str.empty, sg_kc _ Str.empty, s_inp] at e1
        simp only [List.cons_append, List.nil_append, List.cons.injEq, true_and] at e1
        have e4 := wrap_inj (g := gK) rfl (fun x hx => ?_) (fun x hx => ?_) e1
        · obtain ⟨e5, e6⟩ := tails_inj kx.2.1 ky.2.1 e4
          exact ⟨map_kcs.mp e5, e6⟩
        · rcases List.mem_append.mp hx with hx | hx
          · exact kcs_ne kx.2.1 x hx
          · exact tlk_ne kx.2.2 x hx
        · rcases List.mem_append.mp hx with hx | hx
          · exact kcs_ne ky.2.1 x hx
          · exact tlk_ne ky.2.2 x hx
      | _ => simp [tg] at ht
    | star a =>
      cases y with
      | star b =>
        rw [kc, kc, sg_app, sg_app] at e1
        exact sg_inj (List.append_cancel_left e1)
      | _ => simp [tg] at ht
    | dots a =>
      cases y with
      | dots b =>
        simp only [isK] at kx ky
        rw [kc, kc, sg_kc _ Str.empty, sg_kc _ Str.empty, s_dots] at e1
        simp only [List.cons_append, List.nil_append, List.cons.injEq, true_and] at e1
        have e4 := wrap_inj (g := gK) rfl (ks := [kc a]) (ls := [kc b]) (fun x hx => ?_) (fun x hx => ?_) e1
        · simp only [List.cons.injEq, and_true] at e4
          exact e4
        · rw [List.mem_singleton.mp hx]; exact ⟨bal_kc _ _ kx.2, kc_ne kx.2⟩
        · rw [List.mem_singleton.mp hx]; exact ⟨bal_kc _ _ ky.2, kc_ne ky.2⟩
      | _ => simp [tg] at ht
    | tail a => simp only [isK] at kx
  · intro s
    cases x <;> cases y <;> first
      | exact s.elim
      | (simp only [Sm] at s; simp only [kc, kcs_map, s]; done)
      | (simp only [Sm] at s; simp only [kc, kcs_map, s.1, s.2]; done)
      | (simp only [Sm] at s; simp only [kc, kcs_map]; rw [perm_sort.mp s]; done)
end Gd

namespace Gd
open PySem PySem.Spec PyProof.Rows L2
/-! ### the law's key of a part -/
def par (ks : List Str) : Str := ("(" : Str) ++ Txt.join (" " : Str) ks ++ (")" : Str)
def tlr : Option Str → Str
  | none => ("None" : Str)
  | some s => reprText s
/-- the keys of which the key of a part is glued -/
def lks' : P → List Str
  | .use n vs => [reprText n, par (vs.map lkP)]
  | .sig i r => [reprText ("->" : Str), lkP i, lkP r]
  | .uni ms => ssort (ms.map lkP)
  | .row xs => [reprText ("[]" : Str), par (xs.map lkP)]
  | .inp xs tl => [reprText ("()" : Str), par (xs.map lkP), tlr tl]
  | .star n => [reprText ("*" : Str), reprText n]
  | .dots t => [reprText ("..." : Str), lkP t]
  | .tail s => [reprText ("**" : Str), reprText s]
theorem lks_encs (l : List P) : lks (encs l) = l.map lkP := by
  rw [lks_map, encs_map, List.map_map]
  rfl
theorem enc_bar (p : P) : isBar (enc p) = false := by cases p <;> rfl
theorem lkT_encs (l : List P) : lkT (encs l) = par (l.map lkP) := by
  cases l with
  | nil => decide +kernel
  | cons p r =>
    have h := enc_bar p
    simp only [encs, lkT, h, Bool.false_eq_true, if_false]
    rw [lks_encs]
    rfl
theorem lk_tup (l : List P) : lk (.tuple (encs l)) = par (l.map lkP) := by rw [lk, lkT_encs]
theorem lkT_str {s : Str} {r : List PyData} (h : s ≠ ("|" : Str)) : lkT (.str s :: r) = par (reprText s :: lks r) := by
  have e : isBar (.str s) = false := decide_eq_false h
  simp only [lkT, e, Bool.false_eq_true, if_false, lk]
  rfl
theorem lkP_eq {p : P} {k : Nat} (h : isK p k) (hu : isUni p = false) : lkP p = par (lks' p) := by
  unfold lkP
  cases p with
  | use n vs =>
    simp only [isK] at h
    rw [enc, lk, lkT_str (good_bar h.2.1)]
    simp only [lks, lk_tup, lks']
  | sig i r =>
    rw [enc, lk, lkT_str (by decide +kernel)]
    simp only [lks, lks', lkP]
  | uni ms => cases hu
  | row xs =>
    rw [enc, lk, lkT_str (by decide +kernel)]
    simp only [lks, lk_tup, lks']
  | inp xs tl =>
    rw [enc, lk, lkT_str (by decide +kernel)]
    cases tl with
    | none =>
      simp only [lks, lk_tup, lks', tlD, tlr]
      rw [lk]
    | some s =>
      simp only [lks, lk_tup, lks', tlD, tlr]
      rw [lk]
  | star n =>
    rw [enc, lk, lkT_str (by decide +kernel)]
    simp only [lks, lks', lk]
  | dots t =>
    rw [enc, lk, lkT_str (by decide +kernel)]
    simp only [lks, lks', lkP]
  | tail n => simp only [isK] at h
theorem lkP_uni (ms : List P) : lkP (.uni ms) = ("{" : Str) ++ Txt.join (" " : Str) (ssort (ms.map lkP)) ++ ("}" : Str) := by
  unfold lkP
  rw [enc, lk]
  have e : isBar (.str ("|" : Str)) = true := by decide +kernel
  simp only [lkT, e, if_true, lkM]
  rw [lks_encs]
  rfl
/-! #### how texts are told -/
theorem rc_good : ∀ c, c < 123 → 97 ≤ c → PySem.Builtin.Str.reprChar 39 c = [c] := by
  intro c h1 h2
  have : ∀ d, d < 26 → PySem.Builtin.Str.reprChar 39 (97 + d) = [97 + d] := by decide +kernel
  have e : c = 97 + (c - 97) := by omega
  rw [e]
  exact this _ (by omega)
theorem foldl_good : ∀ (l : List Nat) (acc : Array Nat), (∀ c ∈ l, PySem.Builtin.Str.reprChar 39 c = [c]) → (l.foldl (fun out c => out ++ (PySem.Builtin.Str.reprChar 39 c).toArray) acc).toList = acc.toList ++ l
  | [], acc, _ => by simp
  | c :: r, acc, h => by
    rw [List.foldl_cons, foldl_good r _ fun x hx => h x (List.mem_cons_of_mem c hx), h c List.mem_cons_self]
    simp
theorem sg_repr {n : Str} (h : ∀ c ∈ sg n, PySem.Builtin.Str.reprChar 39 c = [c]) (hq : n.cps.contains 39 = false) : sg (reprText n) = 39 :: (sg n ++ [39]) := by
  have q : reprQuote n = 39 := by
    unfold reprQuote
    rw [hq]
    rfl
  unfold reprText
  rw [q]
  show (Array.push _ 39).toList = _
  rw [Array.toList_push]
  have e : (n.cps.foldl (fun out c => out ++ (PySem.Builtin.Str.reprChar 39 c).toArray) #[39]).toList = #[39].toList ++ sg n := by
    rw [← Array.foldl_toList]
    exact foldl_good _ _ h
  rw [e]
  rfl
theorem good_repr {n : Str} (h : good n) : sg (reprText n) = 39 :: (sg n ++ [39]) := by
  refine sg_repr (fun c hc => ?_) ?_
  · have := good_sg h c hc
    exact rc_good c (by omega) this.1
  · cases e : n.cps.contains 39 with
    | false => rfl
    | true =>
      have h1 : 39 ∈ n.cps := Array.contains_iff_mem.mp e
      have := good_sg h 39 (Array.mem_toList_iff.mpr h1)
      omega
theorem r_sig : sg (reprText ("->" : Str)) = 39 :: (sg ("->" : Str) ++ [39]) := by decide +kernel
theorem r_row : sg (reprText ("[]" : Str)) = 39 :: (sg ("[]" : Str) ++ [39]) := by decide +kernel
theorem r_inp : sg (reprText ("()" : Str)) = 39 :: (sg ("()" : Str) ++ [39]) := by decide +kernel
theorem r_star' : sg (reprText ("*" : Str)) = 39 :: (sg ("*" : Str) ++ [39]) := by decide +kernel
theorem r_dots : sg (reprText ("..." : Str)) = 39 :: (sg ("..." : Str) ++ [39]) := by decide +kernel
theorem repr_hd {p : P} {k : Nat} (h : isK p k) (hu : isUni p = false) : ∃ r, lks' p = reprText (hd p) :: r ∧ sg (reprText (hd p)) = 39 :: (sg (hd p) ++ [39]) := by
  cases p with
  | use n vs =>
    simp only [isK] at h
    exact ⟨_, rfl, good_repr h.2.1⟩
  | sig i r => exact ⟨_, rfl, r_sig⟩
  | uni ms => cases hu
  | row xs => exact ⟨_, rfl, r_row⟩
  | inp xs tl => exact ⟨_, rfl, r_inp⟩
  | star n => exact ⟨_, rfl, r_star'⟩
  | dots t => exact ⟨_, rfl, r_dots⟩
  | tail n => simp only [isK] at h
theorem plain_L {l : List Nat} (h : ∀ c ∈ l, 97 ≤ c ∧ c ≤ 122) : ∀ c ∈ 39 :: (l ++ [39]), gL c = 0 := fun c hc => by
  have e : c = 39 ∨ (97 ≤ c ∧ c ≤ 122) := by
    rcases List.mem_cons.mp hc with rfl | hc
    · exact Or.inl rfl
    · rcases List.mem_append.mp hc with hc | hc
      · exact Or.inr (h c hc)
      · exact Or.inl (List.mem_singleton.mp hc)
  unfold gL
  rw [if_neg (by omega), if_neg (by omega), if_neg (by omega)]
theorem good_L {n : Str} (h : good n) : Bal gL (sg (reprText n)) ∧ sg (reprText n) ≠ [] := by
  rw [good_repr h]
  exact ⟨Bal.plain (plain_L (good_sg h)), by simp⟩
theorem sg_par (ks : List Str) : sg (par ks) = 40 :: (jn 32 (ks.map sg) ++ [41]) := by
  unfold par
  rw [sg_app, sg_app, s_lo, s_lc, sg_join s_ld]
  rfl
theorem sg_uni (ks : List Str) : sg (("{" : Str) ++ Txt.join (" " : Str) ks ++ ("}" : Str)) = 123 :: (jn 32 (ks.map sg) ++ [125]) := by
  rw [sg_app, sg_app, s_uo, s_uc, sg_join s_ld]
  rfl
theorem par_L {ks : List Str} (h : ∀ k ∈ ks, Bal gL (sg k)) : Bal gL (sg (par ks)) ∧ sg (par ks) ≠ [] := by
  rw [sg_par]
  refine ⟨Bal.wrap (d := 32) rfl rfl rfl fun x hx => ?_, by simp⟩
  obtain ⟨k, hk, rfl⟩ := List.mem_map.mp hx
  exact h k hk
theorem tl_L {tl : Option Str} (h : tlok tl) : Bal gL (sg (tlr tl)) ∧ sg (tlr tl) ≠ [] := by
  cases tl with
  | none => rw [tlr, s_none]; exact ⟨rfl, by simp⟩
  | some s =>
    rcases h with rfl | h
    · rw [tlr, r_dots, s_dots]; exact ⟨rfl, by simp⟩
    · exact good_L h
theorem uni_L {ks : List Str} (h : ∀ k ∈ ks, Bal gL (sg k)) : Bal gL (sg (("{" : Str) ++ Txt.join (" " : Str) ks ++ ("}" : Str))) := by
  rw [sg_uni]
  refine Bal.wrap (d := 32) rfl rfl rfl fun x hx => ?_
  obtain ⟨k, hk, rfl⟩ := List.mem_map.mp hx
  exact h k hk
theorem cons_all {α : Type} {p : α → Prop} {a : α} {l : List α} (h : p a) (t : ∀ x ∈ l, p x) : ∀ x ∈ a :: l, p x := fun x hx => by
  rcases List.mem_cons.mp hx with rfl | hx
  · exact h
  · exact t x hx
theorem nil_all {α : Type} {p : α → Prop} : ∀ x ∈ ([] : List α), p x := fun x hx => (List.not_mem_nil hx).elim
abbrev OkL (x : Str) : Prop := Bal gL (sg x) ∧ sg x ≠ []
theorem lkP_ne {p : P} {k : Nat} (h : isK p k) : sg (lkP p) ≠ [] := by
  rcases uni_or p with ⟨ms, rfl⟩ | ⟨hu, _⟩
  · rw [lkP_uni, sg_uni]; simp
  · rw [lkP_eq h hu, sg_par]; simp
mutual
theorem bal_lk : ∀ (p : P) (k : Nat), isK p k → Bal gL (sg (lkP p))
  | .use n vs, k, h => by
    rw [lkP_eq h rfl]
    simp only [isK] at h
    exact (par_L (cons_all (good_L h.2.1).1 (cons_all (par_L (bal_lks vs 1 h.2.2)).1 nil_all))).1
  | .sig i r, k, h => by
    rw [lkP_eq h rfl]
    simp only [isK] at h
    exact (par_L (cons_all (by rw [r_sig, s_sig]; rfl) (cons_all (bal_lk i 3 h.2.1) (cons_all (bal_lk r 0 h.2.2) nil_all)))).1
  | .uni ms, k, h => by
    rw [lkP_uni]
    simp only [isK] at h
    have h1 := bal_lks ms 4 h.2.2.2
    exact uni_L fun x hx => h1 x (mem_ssort.mp hx)
  | .row xs, k, h => by
    rw [lkP_eq h rfl]
    simp only [isK] at h
    exact (par_L (cons_all (by rw [r_row, s_row]; rfl) (cons_all (par_L (bal_lks xs 2 h.2)).1 nil_all))).1
  | .inp xs tl, k, h => by
    rw [lkP_eq h rfl]
    simp only [isK] at h
    exact (par_L (cons_all (by rw [r_inp, s_inp]; rfl) (cons_all (par_L (bal_lks xs 2 h.2.1)).1 (cons_all (tl_L h.2.2).1 nil_all)))).1
  | .star n, k, h => by
    rw [lkP_eq h rfl]
    simp only [isK] at h
    exact (par_L (cons_all (by rw [r_star', s_star]; rfl) (cons_all (good_L h.2).1 nil_all))).1
  | .dots t, k, h => by
    rw [lkP_eq h rfl]
    simp only [isK] at h
    exact (par_L (cons_all (by rw [r_dots, s_dots]; rfl) (cons_all (bal_lk t 0 h.2) nil_all))).1
  | .tail s, k, h => by simp only [isK] at h
theorem bal_lks : ∀ (l : List P) (k : Nat), isKs l k → ∀ x ∈ l.map lkP, Bal gL (sg x)
  | [], _, _, x, hx => by simp at hx
  | p :: r, k, h, x, hx => by
    simp only [isKs] at h
    simp only [List.map_cons, List.mem_cons] at hx
    rcases hx with rfl | hx
    · exact bal_lk p k h.1
    · exact bal_lks r k h.2 x hx
end
theorem lkP_L {p : P} {k : Nat} (h : isK p k) : OkL (lkP p) := ⟨bal_lk p k h, lkP_ne h⟩
theorem lkPs_L {l : List P} {k : Nat} (h : isKs l k) : ∀ x ∈ l.map lkP, OkL x := fun x hx => by
  refine ⟨bal_lks l k h x hx, ?_⟩
  obtain ⟨p, hp, rfl⟩ := List.mem_map.mp hx
  exact lkP_ne (isKs_iff.mp h p hp)
theorem lks_L {p : P} {k : Nat} (h : isK p k) : ∀ x ∈ lks' p, OkL x := by
  cases p with
  | use n vs =>
    simp only [isK] at h
    exact cons_all (good_L h.2.1) (cons_all (par_L (bal_lks vs 1 h.2.2)) nil_all)
  | sig i r =>
    simp only [isK] at h
    exact cons_all (by rw [OkL, r_sig, s_sig]; exact ⟨rfl, by simp⟩) (cons_all (lkP_L h.2.1) (cons_all (lkP_L h.2.2) nil_all))
  | uni ms =>
    simp only [isK] at h
    exact fun x hx => lkPs_L h.2.2.2 x (mem_ssort.mp hx)
  | row xs =>
    simp only [isK] at h
    exact cons_all (by rw [OkL, r_row, s_row]; exact ⟨rfl, by simp⟩) (cons_all (par_L (bal_lks xs 2 h.2)) nil_all)
  | inp xs tl =>
    simp only [isK] at h
    exact cons_all (by rw [OkL, r_inp, s_inp]; exact ⟨rfl, by simp⟩) (cons_all (par_L (bal_lks xs 2 h.2.1)) (cons_all (tl_L h.2.2) nil_all))
  | star n =>
    simp only [isK] at h
    exact cons_all (by rw [OkL, r_star', s_star]; exact ⟨rfl, by simp⟩) (cons_all (good_L h.2) nil_all)
  | dots t =>
    simp only [isK] at h
    exact cons_all (by rw [OkL, r_dots, s_dots]; exact ⟨rfl, by simp⟩) (cons_all (lkP_L h.2) nil_all)
  | tail n => simp only [isK] at h
theorem par_inj {ks ls : List Str} (h : ∀ x ∈ ks, OkL x) (k : ∀ x ∈ ls, OkL x) (e : par ks = par ls) : ks = ls := by
  have e1 := congrArg sg e
  rw [sg_par, sg_par] at e1
  simp only [List.cons.injEq, true_and] at e1
  exact wrap_inj (g := gL) (d := 32) rfl h k e1
theorem repr_inj {n m : Str} (hn : good n) (hm : good m) (e : reprText n = reprText m) : n = m := by
  have e1 := congrArg sg e
  rw [good_repr hn, good_repr hm] at e1
  simp only [List.cons.injEq, true_and] at e1
  exact sg_inj (List.append_cancel_right e1)
theorem tlr_inj {s t : Option Str} (hs : tlok s) (ht : tlok t) (e : tlr s = tlr t) : s = t := by
  have e1 := congrArg sg e
  have ex : ∀ {u : Option Str}, tlok u → sg (tlr u) = match u with | none => [78, 111, 110, 101] | some v => 39 :: (sg v ++ [39]) := fun {u} h => by
    cases u with
    | none => exact s_none
    | some v =>
      rcases h with rfl | h
      · exact r_dots
      · exact good_repr h
  rw [ex hs, ex ht] at e1
  cases s <;> cases t
  · rfl
  · simp at e1
  · simp at e1
  · simp only [List.cons.injEq, true_and] at e1
    rw [sg_inj (List.append_cancel_right e1)]
theorem faith_lk : Faith lkP := by
  intro x y k j kx ky
  constructor
  · intro e
    rcases uni_or x with ⟨a, rfl⟩ | ⟨ux, _⟩
    · rcases uni_or y with ⟨b, rfl⟩ | ⟨uy, _⟩
      · have hx := lks_L kx
        have hy := lks_L ky
        rw [lkP_uni, lkP_uni] at e
        have e1 := congrArg sg e
        rw [sg_uni, sg_uni] at e1
        simp only [List.cons.injEq, true_and] at e1
        exact perm_sort.mpr (wrap_inj (g := gL) (d := 32) rfl hx hy e1)
      · rw [lkP_uni, lkP_eq ky uy] at e
        have e1 := congrArg sg e
        rw [sg_uni, sg_par] at e1
        simp at e1
    · rcases uni_or y with ⟨b, rfl⟩ | ⟨uy, _⟩
      · rw [lkP_uni, lkP_eq kx ux] at e
        have e1 := congrArg sg e
        rw [sg_uni, sg_par] at e1
        simp at e1
      · rw [lkP_eq kx ux, lkP_eq ky uy] at e
        have e1 := par_inj (lks_L kx) (lks_L ky) e
        obtain ⟨u, e2, e3⟩ := repr_hd kx ux
        obtain ⟨v, e4, e5⟩ := repr_hd ky uy
        have ht : tg x = tg y := by
          have e6 := e1
          rw [e2, e4] at e6
          simp only [List.cons.injEq] at e6
          have e7 := congrArg sg e6.1
          rw [e3, e5] at e7
          simp only [List.cons.injEq, true_and] at e7
          exact tg_of kx ky e7
        clear e2 e4 e3 e5
        cases x with
        | use n vs =>
          cases y with
          | use m ws =>
            simp only [isK] at kx ky
            simp only [lks', List.cons.injEq, and_true] at e1
            exact ⟨repr_inj kx.2.1 ky.2.1 e1.1, par_inj (lkPs_L kx.2.2) (lkPs_L ky.2.2) e1.2⟩
          | _ => simp [tg] at ht
        | sig a b =>
          cases y with
          | sig c d =>
            simp only [lks', List.cons.injEq, and_true, true_and] at e1
            exact e1
          | _ => simp [tg] at ht
        | uni a => cases ux
        | row a =>
          cases y with
          | row b =>
            simp only [isK] at kx ky
            simp only [lks', List.cons.injEq, and_true, true_and] at e1
            exact par_inj (lkPs_L kx.2) (lkPs_L ky.2) e1
          | _ => simp [tg] at ht
        | inp a s =>
          cases y with
          | inp b t =>
            simp only [isK] at kx ky
            simp only [lks', List.cons.injEq, and_true, true_and] at e1
            exact ⟨par_inj (lkPs_L kx.2.1) (lkPs_L ky.2.1) e1.1, tlr_inj kx.2.2 ky.2.2 e1.2⟩
          | _ => simp [tg] at ht
        | star a =>
          cases y with
          | star b =>
            simp only [isK] at kx ky
            simp only [lks', List.cons.injEq, and_true, true_and] at e1
            exact repr_inj kx.2 ky.2 e1
          | _ => simp [tg] at ht
        | dots a =>
          cases y with
          | dots b =>
            simp only [lks', List.cons.injEq, and_true, true_and] at e1
            exact e1
          | _ => simp [tg] at ht
        | tail a => simp only [isK] at kx
  · intro s
    rcases uni_or x with ⟨a, rfl⟩ | ⟨ux, _⟩
    · cases y with
      | uni b => rw [lkP_uni, lkP_uni, perm_sort.mp s]
      | _ => exact s.elim
    · have uy : isUni y = false := by
        cases x <;> cases y <;> first
          | exact s.elim
          | rfl
          | (simp [isUni] at ux; done)
      rw [lkP_eq kx ux, lkP_eq ky uy]
      cases x <;> cases y <;> first
        | exact s.elim
        | (simp [isUni] at ux; done)
        | (simp only [Sm] at s; simp only [lks', s]; done)
        | (simp only [Sm] at s; simp only [lks', s.1, s.2]; done)
/-- both keys tell the same -/
theorem kc_lk {x y : P} {k j : Nat} (kx : isK x k) (ky : isK y j) : kc x = kc y ↔ lkP x = lkP y :=
  ⟨faith_kc.agree faith_lk _ x y k j (Nat.le_max_left _ _) (Nat.le_max_right _ _) kx ky, faith_lk.agree faith_kc _ x y k j (Nat.le_max_left _ _) (Nat.le_max_right _ _) kx ky⟩
end Gd

namespace Gd
open PySem PySem.Spec PyProof.Rows L2
/-! ### all parts, level by level -/
mutual
theorem pre_part : ∀ (p : P) {q r : P}, q ∈ pre p → r ∈ parts q → r ∈ pre p
  | .use n vs, q, r, hq, hr => by
    simp only [pre, List.mem_cons] at hq ⊢
    rcases hq with rfl | hq
    · exact Or.inr (pres_self hr)
    · exact Or.inr (pres_part vs hq hr)
  | .sig i t, q, r, hq, hr => by
    simp only [pre, List.mem_cons, List.mem_append] at hq ⊢
    rcases hq with rfl | hq | hq
    · simp only [parts, List.mem_cons, List.not_mem_nil, or_false] at hr
      rcases hr with rfl | rfl
      · exact Or.inr (Or.inl (by rw [pre_eq]; simp))
      · exact Or.inr (Or.inr (by rw [pre_eq]; simp))
    · exact Or.inr (Or.inl (pre_part i hq hr))
    · exact Or.inr (Or.inr (pre_part t hq hr))
  | .uni ms, q, r, hq, hr => by
    simp only [pre, List.mem_cons] at hq ⊢
    rcases hq with rfl | hq
    · exact Or.inr (pres_self hr)
    · exact Or.inr (pres_part ms hq hr)
  | .row xs, q, r, hq, hr => by
    simp only [pre, List.mem_cons] at hq ⊢
    rcases hq with rfl | hq
    · exact Or.inr (pres_self hr)
    · exact Or.inr (pres_part xs hq hr)
  | .inp xs tl, q, r, hq, hr => by
    simp only [pre, List.mem_cons, List.mem_append] at hq ⊢
    rcases hq with rfl | hq | hq
    · simp only [parts, List.mem_append] at hr
      rcases hr with hr | hr
      · exact Or.inr (Or.inl (pres_self hr))
      · exact Or.inr (Or.inr hr)
    · exact Or.inr (Or.inl (pres_part xs hq hr))
    · cases tl with
      | none => simp [tails] at hq
      | some s =>
        simp only [tails, List.mem_singleton] at hq
        subst hq
        simp [parts] at hr
  | .star n, q, r, hq, hr => by
    simp only [pre, List.mem_singleton] at hq
    subst hq
    simp [parts] at hr
  | .dots t, q, r, hq, hr => by
    simp only [pre, List.mem_cons] at hq ⊢
    rcases hq with rfl | hq
    · simp only [parts, List.mem_singleton] at hr
      subst hr
      exact Or.inr (by rw [pre_eq]; simp)
    · exact Or.inr (pre_part t hq hr)
  | .tail s, q, r, hq, hr => by
    simp only [pre, List.mem_singleton] at hq
    subst hq
    simp [parts] at hr
theorem pres_part : ∀ (l : List P) {q r : P}, q ∈ pres l → r ∈ parts q → r ∈ pres l
  | [], q, r, hq, _ => by simp [pres] at hq
  | p :: l, q, r, hq, hr => by
    simp only [pres, List.mem_append] at hq ⊢
    rcases hq with hq | hq
    · exact Or.inl (pre_part p hq hr)
    · exact Or.inr (pres_part l hq hr)
theorem pres_self : ∀ {l : List P} {r : P}, r ∈ l → r ∈ pres l
  | [], _, h => (List.not_mem_nil h).elim
  | p :: l, r, h => by
    simp only [pres, List.mem_append]
    rcases List.mem_cons.mp h with rfl | h
    · exact Or.inl (by rw [pre_eq]; simp)
    · exact Or.inr (pres_self h)
end
theorem self_pre (p : P) : p ∈ pre p := by rw [pre_eq]; simp
/-- what a walk through all parts may rely on -/
def hokU (q : P) : Prop := hok q ∧ (isUni q = true → (parts q).length < 64) ∧ kw (enc q) ≤ 90000
mutual
theorem kw_pre : ∀ (p : P), ∀ q ∈ pre p, kw (enc q) ≤ kw (enc p)
  | .use n vs, q, hq => by
    simp only [pre, List.mem_cons] at hq
    rcases hq with rfl | hq
    · exact Nat.le_refl _
    · have := kws_pre vs q hq
      simp only [enc, kw, kws]; omega
  | .sig i t, q, hq => by
    simp only [pre, List.mem_cons, List.mem_append] at hq
    rcases hq with rfl | hq | hq
    · exact Nat.le_refl _
    · have := kw_pre i q hq
      simp only [enc, kw, kws]; omega
    · have := kw_pre t q hq
      simp only [enc, kw, kws]; omega
  | .uni ms, q, hq => by
    simp only [pre, List.mem_cons] at hq
    rcases hq with rfl | hq
    · exact Nat.le_refl _
    · have := kws_pre ms q hq
      simp only [enc, kw, kws]; omega
  | .row xs, q, hq => by
    simp only [pre, List.mem_cons] at hq
    rcases hq with rfl | hq
    · exact Nat.le_refl _
    · have := kws_pre xs q hq
      simp only [enc, kw, kws]; omega
  | .inp xs tl, q, hq => by
    simp only [pre, List.mem_cons, List.mem_append] at hq
    rcases hq with rfl | hq | hq
    · exact Nat.le_refl _
    · have := kws_pre xs q hq
      simp only [enc, kw, kws]; omega
    · cases tl with
      | none => simp [tails] at hq
      | some s =>
        simp only [tails, List.mem_singleton] at hq
        subst hq
        have e1 : ("**" : Str).length = 2 := by decide +kernel
        have e2 : ("()" : Str).length = 2 := by decide +kernel
        simp only [enc, kw, kws, tlD, e1, e2]
        omega
  | .star n, q, hq => by
    simp only [pre, List.mem_singleton] at hq
    subst hq
    exact Nat.le_refl _
  | .dots t, q, hq => by
    simp only [pre, List.mem_cons] at hq
    rcases hq with rfl | hq
    · exact Nat.le_refl _
    · have := kw_pre t q hq
      simp only [enc, kw, kws]; omega
  | .tail s, q, hq => by
    simp only [pre, List.mem_singleton] at hq
    subst hq
    exact Nat.le_refl _
theorem kws_pre : ∀ (l : List P), ∀ q ∈ pres l, kw (enc q) ≤ kws (encs l)
  | [], q, hq => by simp [pres] at hq
  | p :: l, q, hq => by
    simp only [pres, List.mem_append] at hq
    rcases hq with hq | hq
    · have := kw_pre p q hq
      simp only [encs, kws]; omega
    · have := kws_pre l q hq
      simp only [encs, kws]; omega
end
theorem slen_app (a b : Str) : (a ++ b).length = a.length + b.length := by
  show (a.cps ++ b.cps).size = _
  rw [Array.size_append]
  rfl
theorem slen_join (z : Str) (ys : List Str) : (Txt.join z ys).length ≤ (ys.map (·.length)).sum + ys.length * z.length := by
  rw [TL.join_eq]
  induction ys with
  | nil => exact Nat.zero_le _
  | cons x r ih =>
    cases r with
    | nil =>
      show x.length ≤ _
      simp
    | cons y r =>
      show (x ++ z ++ Str.join z (y :: r)).length ≤ _
      rw [slen_app, slen_app]
      simp only [List.map_cons, List.sum_cons, List.length_cons] at ih ⊢
      rw [Nat.add_mul (r.length + 1) 1, Nat.one_mul]
      omega
theorem sum_ssort (l : List Str) : ((ssort l).map (·.length)).sum = (l.map (·.length)).sum := ((ssort_perm l).map _).sum_nat
theorem len_ssort (l : List Str) : (ssort l).length = l.length := (ssort_perm l).length_eq
theorem l_o : ("[" : Str).length = 1 := by decide +kernel
theorem l_c : ("]" : Str).length = 1 := by decide +kernel
theorem l_d : ("," : Str).length = 1 := by decide +kernel
mutual
theorem kc_len : ∀ p : P, (kc p).length ≤ kw (enc p)
  | .use n vs => by
    have h := kcs_len vs
    have j := slen_join ("," : Str) (kcs vs)
    simp only [kc, slen_app, l_o, l_c, enc, kw, kws]
    rw [l_d, Nat.mul_one] at j
    omega
  | .sig i t => by
    have h1 := kc_len i
    have h2 := kc_len t
    have j := slen_join ("," : Str) [kc i, kc t]
    have e1 : ("->" : Str).length = 2 := by decide +kernel
    simp only [kc, slen_app, l_o, l_c, enc, kw, kws, e1]
    simp only [l_d, List.map_cons, List.map_nil, List.sum_cons, List.sum_nil, List.length_cons, List.length_nil] at j
    omega
  | .uni vs => by
    have h := kcs_len vs
    have j := slen_join ("," : Str) (ssort (kcs vs))
    have e1 : ("|" : Str).length = 1 := by decide +kernel
    simp only [kc, slen_app, l_o, l_c, enc, kw, kws, e1]
    rw [l_d, Nat.mul_one, sum_ssort, len_ssort] at j
    omega
  | .row vs => by
    have h := kcs_len vs
    have j := slen_join ("," : Str) (kcs vs)
    have e1 : ("[]" : Str).length = 2 := by decide +kernel
    simp only [kc, slen_app, l_o, l_c, enc, kw, kws, e1]
    rw [l_d, Nat.mul_one] at j
    omega
  | .inp vs tl => by
    have h := kcs_len vs
    have j := slen_join ("," : Str) (kcs vs ++ tlk tl)
    have e1 : ("()" : Str).length = 2 := by decide +kernel
    simp only [kc, slen_app, l_o, l_c, enc, kw, kws, e1]
    rw [l_d, Nat.mul_one, List.map_append, List.sum_append, List.length_append] at j
    cases tl with
    | none =>
      simp only [tlk, List.map_nil, List.sum_nil, List.length_nil] at j
      simp only [tlk, tlD, kw]
      omega
    | some s =>
      have e2 : ("**" : Str).length = 2 := by decide +kernel
      simp only [tlk, List.map_cons, List.map_nil, List.sum_cons, List.sum_nil, List.length_cons, List.length_nil, slen_app, e2] at j
      simp only [tlk, tlD, kw]
      omega
  | .star n => by
    have e1 : ("*" : Str).length = 1 := by decide +kernel
    simp only [kc, slen_app, enc, kw, kws, e1]
    omega
  | .dots t => by
    have h1 := kc_len t
    have j := slen_join ("," : Str) [kc t]
    have e1 : ("..." : Str).length = 3 := by decide +kernel
    simp only [kc, slen_app, l_o, l_c, enc, kw, kws, e1]
    simp only [l_d, List.map_cons, List.map_nil, List.sum_cons, List.sum_nil, List.length_cons, List.length_nil] at j
    omega
  | .tail s => by
    have e1 : ("**" : Str).length = 2 := by decide +kernel
    simp only [kc, slen_app, enc, kw, kws, e1]
    omega
theorem kcs_len : ∀ l : List P, ((kcs l).map (·.length)).sum + (kcs l).length ≤ kws (encs l)
  | [] => by simp [kcs, kws, encs]
  | p :: l => by
    have h1 := kc_len p
    have h2 := kcs_len l
    simp only [kcs, encs, kws, List.map_cons, List.sum_cons, List.length_cons]
    omega
end
theorem kcs_parts (q : P) : ((kcs (parts q)).map (·.length)).sum + (kcs (parts q)).length ≤ kw (enc q) := by
  have h := kcs_len (parts q)
  cases q with
  | inp xs tl =>
    cases tl with
    | none => simp only [parts, tails, List.append_nil, enc, kw, kws] at h ⊢; omega
    | some s =>
      have h2 := kcs_len xs
      have e2 : ("**" : Str).length = 2 := by decide +kernel
      simp only [parts, tails, kcs_app, kcs, kc, List.map_append, List.sum_append, List.length_append, List.map_cons, List.map_nil, List.sum_cons, List.sum_nil, List.length_cons, List.length_nil, slen_app, e2, enc, kw, kws, tlD]
      omega
  | _ => simp only [parts, encs, enc, kw, kws] at h ⊢ <;> omega
/-! #### the list of all parts, each with the place of its own -/
def LO (L : List P) (i : Nat) : Nat := 1 + ((L.take i).flatMap parts).length
theorem LO_app {L M : List P} {i : Nat} (h : i ≤ L.length) : LO (L ++ M) i = LO L i := by
  unfold LO
  rw [List.take_append_of_le_length h]
theorem take_flat {L : List P} {i : Nat} {y : P} (h : L[i]? = some y) : (L.take (i + 1)).flatMap parts = (L.take i).flatMap parts ++ parts y := by
  rw [List.take_add_one, h, List.flatMap_append]
  simp
theorem LO_next {L : List P} {i : Nat} {y : P} (h : L[i]? = some y) : LO L (i + 1) = LO L i + (parts y).length := by
  unfold LO
  rw [take_flat h, List.length_append]
  omega
theorem LO_own {p : P} {L : List P} (e : L = p :: L.flatMap parts) {i : Nat} {y : P} (h : L[i]? = some y) : (L.drop (LO L i)).take (LO L (i + 1) - LO L i) = parts y ∧ LO L (i + 1) ≤ L.length := by
  have e1 : L.flatMap parts = ((L.take i).flatMap parts ++ parts y) ++ (L.drop (i + 1)).flatMap parts := by
    rw [← take_flat h, ← List.flatMap_append, List.take_append_drop]
  have e2 : L.length = 1 + (L.flatMap parts).length := by
    have := congrArg List.length e
    rw [List.length_cons] at this
    omega
  refine ⟨?_, ?_⟩
  · have e3 : L.drop (LO L i) = parts y ++ (L.drop (i + 1)).flatMap parts := by
      unfold LO
      have : L.drop (1 + ((L.take i).flatMap parts).length) = (L.flatMap parts).drop ((L.take i).flatMap parts).length := by
        conv => lhs; rw [e]
        rw [Nat.add_comm, List.drop_succ_cons]
        congr 2
        congr 1
        conv => lhs; rw [← e]
      rw [this, e1, List.append_assoc, List.drop_left]
    rw [e3, LO_next h, Nat.add_sub_cancel_left, List.take_left]
  · rw [LO_next h, e2, e1]
    simp only [List.length_append, LO]
    omega
end Gd

namespace Gd
open PySem PySem.Spec PyProof.Rows L2
/-! ### parts with the members of unions in another order -/
inductive A2 {α β : Type} (R : α → β → Prop) : List α → List β → Prop
  | nil : A2 R [] []
  | cons {a : α} {b : β} {l : List α} {m : List β} (h : R a b) (t : A2 R l m) : A2 R (a :: l) (b :: m)
theorem A2.app {α β : Type} {R : α → β → Prop} : ∀ {l l' : List α} {m m' : List β}, A2 R l m → A2 R l' m' → A2 R (l ++ l') (m ++ m')
  | _, _, _, _, .nil, h => h
  | _, _, _, _, .cons h t, g => .cons h (A2.app t g)
theorem A2.len {α β : Type} {R : α → β → Prop} : ∀ {l : List α} {m : List β}, A2 R l m → l.length = m.length
  | _, _, .nil => rfl
  | _, _, .cons _ t => by simp [A2.len t]
theorem A2.map {α β γ : Type} {R : α → β → Prop} {f : α → γ} {g : β → γ} (hR : ∀ a b, R a b → g b = f a) : ∀ {l : List α} {m : List β}, A2 R l m → m.map g = l.map f
  | _, _, .nil => rfl
  | _, _, .cons h t => by simp [hR _ _ h, A2.map hR t]
theorem encs_len (l : List P) : (encs l).length = l.length := by rw [encs_map, List.length_map]
structure Mx (p q : P) : Prop where
  is : ∀ k, isK p k → isK q k
  lk : lkP q = lkP p
  dep : (enc q).depth = (enc p).depth
  wgt : kw (enc q) = kw (enc p)
  lay : (enc q).canLay0 = (enc p).canLay0
  bar : kq (enc q) = kq (enc p)
theorem depths_eq : ∀ l : List PyData, PyData.depthAll l = (l.map PyData.depth).foldr max 0
  | [] => rfl
  | x :: r => by simp [PyData.depthAll, depths_eq r]
theorem kws_eq : ∀ l : List PyData, kws l = (l.map fun d => kw d + 5).sum
  | [] => rfl
  | x :: r => by simp [kws, kws_eq r]
theorem lays_eq : ∀ l : List PyData, PyData.canLayAll0 l = (l.map PyData.canLay0).all id
  | [] => rfl
  | x :: r => by simp [PyData.canLayAll0, lays_eq r]
theorem kqs_eq : ∀ l : List PyData, kqs l = (l.map kq).all id
  | [] => rfl
  | x :: r => by simp [kqs, kqs_eq r]
theorem foldr_max_perm {l m : List Nat} (h : l.Perm m) : l.foldr max 0 = m.foldr max 0 := by
  induction h with
  | nil => rfl
  | cons x _ ih => simp only [List.foldr_cons, ih]
  | swap x y l => simp only [List.foldr_cons]; omega
  | trans _ _ h1 h2 => exact h1.trans h2
theorem all_perm {l m : List Bool} (h : l.Perm m) : l.all id = m.all id := by
  induction h with
  | nil => rfl
  | cons x _ ih => simp only [List.all_cons, ih]
  | swap x y l => simp only [List.all_cons]; cases id x <;> cases id y <;> rfl
  | trans _ _ h1 h2 => exact h1.trans h2
/-- what lists of parts share when their items do, one by one and up to order -/
structure Mz (l m : List P) : Prop where
  is : ∀ k, isKs l k → isKs m k
  len : m.length = l.length
  lks : (m.map lkP).Perm (l.map lkP)
  dep : PyData.depthAll (encs m) = PyData.depthAll (encs l)
  wgt : kws (encs m) = kws (encs l)
  lay : PyData.canLayAll0 (encs m) = PyData.canLayAll0 (encs l)
  bar : kqs (encs m) = kqs (encs l)
theorem Mz.of {l l1 m : List P} (hp : l1.Perm l) (h : A2 Mx l1 m) : Mz l m where
  is := fun k hk => by
    have h1 : isKs l1 k := isKs_iff.mpr fun p hp' => isKs_iff.mp hk p (hp.mem_iff.mp hp')
    clear hp hk
    induction h with
    | nil => exact h1
    | cons a t ih =>
      simp only [isKs] at h1 ⊢
      exact ⟨a.is _ h1.1, ih h1.2⟩
  len := by rw [← h.len, hp.length_eq]
  lks := by rw [h.map (g := lkP) fun a b r => r.lk]; exact hp.map _
  dep := by
    rw [depths_eq, depths_eq, encs_map, encs_map, List.map_map, List.map_map, h.map (f := PyData.depth ∘ enc) (g := PyData.depth ∘ enc) fun a b r => r.dep]
    exact foldr_max_perm (hp.map _)
  wgt := by
    rw [kws_eq, kws_eq, encs_map, encs_map, List.map_map, List.map_map, h.map (f := (fun d => kw d + 5) ∘ enc) (g := (fun d => kw d + 5) ∘ enc) fun a b r => by simp only [Function.comp, r.wgt]]
    exact (hp.map _).sum_nat
  lay := by
    rw [lays_eq, lays_eq, encs_map, encs_map, List.map_map, List.map_map, h.map (f := PyData.canLay0 ∘ enc) (g := PyData.canLay0 ∘ enc) fun a b r => r.lay]
    exact all_perm (hp.map _)
  bar := by
    rw [kqs_eq, kqs_eq, encs_map, encs_map, List.map_map, List.map_map, h.map (f := kq ∘ enc) (g := kq ∘ enc) fun a b r => r.bar]
    exact all_perm (hp.map _)
theorem A2.mz {l m : List P} (h : A2 Mx l m) : Mz l m := .of (.refl _) h
theorem A2.lk {l m : List P} (h : A2 Mx l m) : m.map lkP = l.map lkP := h.map fun a b r => r.lk
theorem Mx.rf {p : P} : Mx p p := ⟨fun _ h => h, rfl, rfl, rfl, rfl, rfl⟩
theorem Mx.use {n : Str} {vs ws : List P} {j : Nat} (hk : isK (.use n vs) j) (h : A2 Mx vs ws) : Mx (.use n vs) (.use n ws) where
  is := fun k hk => by simp only [isK] at hk ⊢; exact ⟨hk.1, hk.2.1, h.mz.is _ hk.2.2⟩
  lk := by
    have h2 : isK (.use n ws) j := by simp only [isK] at hk ⊢; exact ⟨hk.1, hk.2.1, h.mz.is _ hk.2.2⟩
    rw [lkP_eq hk rfl, lkP_eq h2 rfl]
    simp only [lks', h.lk]
  dep := by simp only [enc, PyData.depth, PyData.depthAll, h.mz.dep]
  wgt := by simp only [enc, kw, kws, h.mz.wgt]
  lay := by simp only [enc, PyData.canLay0, PyData.canLayAll0, h.mz.lay]
  bar := by simp only [enc, kq_tup, kqs, kqT_cons, barM, kqT_encs, h.mz.bar, encs_len, h.mz.len]
theorem Mx.sig {i r i' r' : P} {j : Nat} (hk : isK (.sig i r) j) (h1 : Mx i i') (h2 : Mx r r') : Mx (.sig i r) (.sig i' r') where
  is := fun k hk => by simp only [isK] at hk ⊢; exact ⟨hk.1, h1.is _ hk.2.1, h2.is _ hk.2.2⟩
  lk := by
    have h3 : isK (.sig i' r') j := by simp only [isK] at hk ⊢; exact ⟨hk.1, h1.is _ hk.2.1, h2.is _ hk.2.2⟩
    rw [lkP_eq hk rfl, lkP_eq h3 rfl]
    simp only [lks', h1.lk, h2.lk]
  dep := by simp only [enc, PyData.depth, PyData.depthAll, h1.dep, h2.dep]
  wgt := by simp only [enc, kw, kws, h1.wgt, h2.wgt]
  lay := by simp only [enc, PyData.canLay0, PyData.canLayAll0, h1.lay, h2.lay]
  bar := by
    have e : isBar (.str ("->" : Str)) = false := by decide +kernel
    simp only [enc, kq, kqs, kqT, e, Bool.not_false, Bool.true_or, h1.bar, h2.bar]
theorem Mx.uni {ms l1 ns : List P} {j : Nat} (hk : isK (.uni ms) j) (hp : l1.Perm ms) (h : A2 Mx l1 ns) : Mx (.uni ms) (.uni ns) := by
  have z := Mz.of hp h
  exact {
    is := fun k hk => by
      simp only [isK] at hk ⊢
      exact ⟨hk.1, by rw [z.len]; exact hk.2.1, z.lks.nodup_iff.mpr hk.2.2.1, z.is _ hk.2.2.2⟩
    lk := by rw [lkP_uni, lkP_uni, perm_sort.mp z.lks]
    dep := by simp only [enc, PyData.depth, PyData.depthAll, z.dep]
    wgt := by simp only [enc, kw, kws, z.wgt]
    lay := by simp only [enc, PyData.canLay0, PyData.canLayAll0, z.lay]
    bar := by simp only [enc, kq_tup, kqs, kqT_cons, barM, kqT_encs, z.bar, encs_len, z.len] }
theorem Mx.row {vs ws : List P} {j : Nat} (hk : isK (.row vs) j) (h : A2 Mx vs ws) : Mx (.row vs) (.row ws) where
  is := fun k hk => by simp only [isK] at hk ⊢; exact ⟨hk.1, h.mz.is _ hk.2⟩
  lk := by
    have h2 : isK (.row ws) j := by simp only [isK] at hk ⊢; exact ⟨hk.1, h.mz.is _ hk.2⟩
    rw [lkP_eq hk rfl, lkP_eq h2 rfl]
    simp only [lks', h.lk]
  dep := by simp only [enc, PyData.depth, PyData.depthAll, h.mz.dep]
  wgt := by simp only [enc, kw, kws, h.mz.wgt]
  lay := by simp only [enc, PyData.canLay0, PyData.canLayAll0, h.mz.lay]
  bar := by simp only [enc, kq_tup, kqs, kqT_cons, barM, kqT_encs, h.mz.bar, encs_len, h.mz.len]
theorem Mx.inp {vs ws : List P} {tl : Option Str} {j : Nat} (hk : isK (.inp vs tl) j) (h : A2 Mx vs ws) : Mx (.inp vs tl) (.inp ws tl) where
  is := fun k hk => by simp only [isK] at hk ⊢; exact ⟨hk.1, h.mz.is _ hk.2.1, hk.2.2⟩
  lk := by
    have h2 : isK (.inp ws tl) j := by simp only [isK] at hk ⊢; exact ⟨hk.1, h.mz.is _ hk.2.1, hk.2.2⟩
    rw [lkP_eq hk rfl, lkP_eq h2 rfl]
    simp only [lks', h.lk]
  dep := by simp only [enc, PyData.depth, PyData.depthAll, h.mz.dep]
  wgt := by simp only [enc, kw, kws, h.mz.wgt]
  lay := by simp only [enc, PyData.canLay0, PyData.canLayAll0, h.mz.lay]
  bar := by simp only [enc, kq_tup, kqs, kqT_cons, barM, kqT_encs, h.mz.bar, encs_len, h.mz.len]
theorem Mx.dots {t u : P} {j : Nat} (hk : isK (.dots t) j) (h : Mx t u) : Mx (.dots t) (.dots u) where
  is := fun k hk => by simp only [isK] at hk ⊢; exact ⟨hk.1, h.is _ hk.2⟩
  lk := by
    have h2 : isK (.dots u) j := by simp only [isK] at hk ⊢; exact ⟨hk.1, h.is _ hk.2⟩
    rw [lkP_eq hk rfl, lkP_eq h2 rfl]
    simp only [lks', h.lk]
  dep := by simp only [enc, PyData.depth, PyData.depthAll, h.dep]
  wgt := by simp only [enc, kw, kws, h.wgt]
  lay := by simp only [enc, PyData.canLay0, PyData.canLayAll0, h.lay]
  bar := by
    have e : isBar (.str ("..." : Str)) = false := by decide +kernel
    simp only [enc, kq, kqs, kqT, e, Bool.not_false, Bool.true_or, h.bar]
theorem A2.snoc {α β : Type} {R : α → β → Prop} {l : List α} {m : List β} {a : α} {b : β} (h : A2 R l m) (r : R a b) : A2 R (l ++ [a]) (m ++ [b]) := h.app (.cons r .nil)
theorem A2.two {α β : Type} {R : α → β → Prop} {a b : α} {m : List β} (h : A2 R [a, b] m) : ∃ c d, m = [c, d] ∧ R a c ∧ R b d := by
  cases h with
  | cons x t =>
    cases t with
    | cons y t => cases t; exact ⟨_, _, rfl, x, y⟩
theorem A2.three {α β : Type} {R : α → β → Prop} {a b c : α} {m : List β} (h : A2 R [a, b, c] m) : ∃ d e f, m = [d, e, f] ∧ R a d ∧ R b e ∧ R c f := by
  cases h with
  | cons x t =>
    obtain ⟨d, e, rfl, y, z⟩ := t.two
    exact ⟨_, d, e, rfl, x, y, z⟩
/-! #### what the law puts into another order -/
inductive Th where
  | pt (p : P)
  | sq (ps : List P)
  | wd (s : Str)
  | no
def Th.d : Th → PyData
  | .pt p => enc p
  | .sq ps => .tuple (encs ps)
  | .wd s => .str s
  | .no => .none
def Th.ok : Th → Prop
  | .pt p => ∃ k, isK p k
  | .sq ps => ∀ p ∈ ps, ∃ k, isK p k
  | .wd _ => True
  | .no => True
def MT : Th → Th → Prop
  | .pt p, .pt q => Mx p q
  | .sq ps, .sq qs => A2 Mx ps qs
  | .wd s, .wd t => s = t
  | .no, .no => True
  | _, _ => False
def tlT : Option Str → Th
  | none => .no
  | some s => .wd s
theorem tlT_d (t : Option Str) : (tlT t).d = tlD t := by cases t <;> rfl
/-- what stands directly in a part -/
def Th.subs : P → List Th
  | .use n vs => [.wd n, .sq vs]
  | .sig i r => [.wd ("->" : Str), .pt i, .pt r]
  | .uni ms => [.wd ("|" : Str), .sq ms]
  | .row xs => [.wd ("[]" : Str), .sq xs]
  | .inp xs tl => [.wd ("()" : Str), .sq xs, tlT tl]
  | .star n => [.wd ("*" : Str), .wd n]
  | .dots t => [.wd ("..." : Str), .pt t]
  | .tail s => [.wd ("**" : Str), .wd s]
theorem subs_d (p : P) : enc p = .tuple ((Th.subs p).map Th.d) := by
  cases p with
  | inp xs tl => cases tl <;> simp [enc, Th.subs, Th.d, tlT, tlD]
  | _ => simp [enc, Th.subs, Th.d]
theorem subs_ok {p : P} {k : Nat} (h : isK p k) : ∀ z ∈ Th.subs p, z.ok := by
  have ks : ∀ {l : List P} {j : Nat}, isKs l j → ∀ q ∈ l, ∃ k, isK q k := fun h q hq => ⟨_, isKs_iff.mp h q hq⟩
  intro z hz
  cases p <;> simp only [isK] at h <;> simp only [Th.subs, List.mem_cons, List.not_mem_nil, or_false] at hz
  case use => rcases hz with rfl | rfl; exact trivial; exact ks h.2.2
  case sig => rcases hz with rfl | rfl | rfl; exact trivial; exact ⟨_, h.2.1⟩; exact ⟨_, h.2.2⟩
  case uni => rcases hz with rfl | rfl; exact trivial; exact ks h.2.2.2
  case row => rcases hz with rfl | rfl; exact trivial; exact ks h.2
  case inp xs tl => rcases hz with rfl | rfl | rfl; exact trivial; exact ks h.2.1; cases tl <;> exact trivial
  case star => rcases hz with rfl | rfl <;> exact trivial
  case dots => rcases hz with rfl | rfl; exact trivial; exact ⟨_, h.2⟩
/-- a part of the mixed things, put together again -/
theorem subs_mx {p : P} {k : Nat} (h : isK p k) (hu : isUni p = false) {zs : List Th} (m : A2 MT (Th.subs p) zs) : ∃ q, Mx p q ∧ enc q = .tuple (zs.map Th.d) := by
  have wd : ∀ {s : Str} {z : Th}, MT (.wd s) z → z = .wd s := fun {s z} h => by
    cases z with
    | wd t => rw [show s = t from h]
    | _ => exact h.elim
  have sq : ∀ {l : List P} {z : Th}, MT (.sq l) z → ∃ m, z = .sq m ∧ A2 Mx l m := fun {l z} h => by
    cases z with
    | sq t => exact ⟨t, rfl, h⟩
    | _ => exact h.elim
  have pt : ∀ {l : P} {z : Th}, MT (.pt l) z → ∃ m, z = .pt m ∧ Mx l m := fun {l z} h => by
    cases z with
    | pt t => exact ⟨t, rfl, h⟩
    | _ => exact h.elim
  cases p with
  | use n vs =>
    obtain ⟨z1, z2, rfl, a, b⟩ := m.two
    obtain rfl := wd a
    obtain ⟨l, rfl, b⟩ := sq b
    exact ⟨.use n l, .use h b, by simp [enc, Th.d]⟩
  | sig i r =>
    obtain ⟨z1, z2, z3, rfl, a, b, c⟩ := m.three
    obtain rfl := wd a
    obtain ⟨l, rfl, b⟩ := pt b
    obtain ⟨l2, rfl, c⟩ := pt c
    exact ⟨.sig l l2, .sig h b c, by simp [enc, Th.d]⟩
  | uni ms => simp [isUni] at hu
  | row xs =>
    obtain ⟨z1, z2, rfl, a, b⟩ := m.two
    obtain rfl := wd a
    obtain ⟨l, rfl, b⟩ := sq b
    exact ⟨.row l, .row h b, by simp [enc, Th.d]⟩
  | inp xs tl =>
    obtain ⟨z1, z2, z3, rfl, a, b, c⟩ := m.three
    obtain rfl := wd a
    obtain ⟨l, rfl, b⟩ := sq b
    cases tl with
    | none =>
      have : z3 = .no := by
        cases z3 with
        | no => rfl
        | _ => exact c.elim
      subst this
      exact ⟨.inp l none, .inp h b, by simp [enc, Th.d, tlD]⟩
    | some s =>
      obtain rfl := wd c
      exact ⟨.inp l (some s), .inp h b, by simp [enc, Th.d, tlD]⟩
  | star n =>
    obtain ⟨z1, z2, rfl, a, b⟩ := m.two
    obtain rfl := wd a
    obtain rfl := wd b
    exact ⟨.star n, .rf, by simp [enc, Th.d]⟩
  | dots t =>
    obtain ⟨z1, z2, rfl, a, b⟩ := m.two
    obtain rfl := wd a
    obtain ⟨l, rfl, b⟩ := pt b
    exact ⟨.dots l, .dots h b, by simp [enc, Th.d]⟩
  | tail s => simp only [isK] at h
end Gd
namespace Gd
open PySem PySem.Spec PyProof.Rows L2
theorem A2.pts : ∀ {ps : List P} {zs : List Th}, A2 MT (ps.map Th.pt) zs → ∃ qs, zs = qs.map Th.pt ∧ A2 Mx ps qs
  | [], _, h => by cases h; exact ⟨[], rfl, .nil⟩
  | p :: ps, _, h => by
    cases h with
    | cons a t =>
      obtain ⟨qs, rfl, h⟩ := A2.pts t
      rename_i z
      cases z with
      | pt q => exact ⟨q :: qs, rfl, .cons a h⟩
      | _ => exact a.elim
theorem pts_d (qs : List P) : (qs.map Th.pt).map Th.d = encs qs := by rw [List.map_map, encs_map]; rfl
theorem A2.uncons {α β : Type} {R : α → β → Prop} {a : α} {l : List α} {m : List β} (h : A2 R (a :: l) m) : ∃ b t, m = b :: t ∧ R a b ∧ A2 R l t := by
  cases h with
  | cons x t => exact ⟨_, _, rfl, x, t⟩
end Gd
namespace Gd
open PySem PySem.Spec PyProof.Rows L2
theorem erase_perm {α : Type} {q : α} : ∀ {l : List α} {k : Nat}, l[k]? = some q → (q :: l.eraseIdx k).Perm l
  | [], _, h => by simp at h
  | x :: l, 0, h => by
    simp only [List.getElem?_cons_zero, Option.some.injEq] at h
    subst h
    exact .refl _
  | x :: l, k + 1, h => by
    simp only [List.getElem?_cons_succ] at h
    rw [List.eraseIdx_cons_succ]
    exact (List.Perm.swap x q _).trans ((erase_perm h).cons x)
theorem Das.erase {H : Hp} : ∀ {vs : List V} {ds : List PyData} (k : Nat), Das H vs ds → Das H (vs.eraseIdx k) (ds.eraseIdx k)
  | _, _, _, .nil => by simp only [List.eraseIdx_nil]; exact .nil
  | _, _, 0, .cons _ t => t
  | _, _, k + 1, .cons h t => by
    simp only [List.eraseIdx_cons_succ]
    exact .cons h (Das.erase k t)
theorem encs_erase : ∀ (l : List P) (k : Nat), (encs l).eraseIdx k = encs (l.eraseIdx k)
  | [], _ => by simp [encs]
  | p :: l, 0 => by simp [encs]
  | p :: l, k + 1 => by simp [encs, encs_erase l k]
theorem seq_of {k n : Nat} (h : k < n) : seqIndex? (k : Int) n = some k := by
  refine (ixN_seq (j := k) ?_).1
  unfold ixN
  rw [if_pos (by omega)]
  simp only [Int.toNat_natCast]
  rw [if_pos (by omega)]
end Gd

namespace Gd
open PySem PySem.Spec PyProof.Rows L2
/-! ### terms that are near to others -/
theorem ljoin_Cd {dp s : Nat} {ps : List P} (h : ∀ p ∈ ps, ∃ w, Cd 0 dp w p) (hl : (ps.flatMap memb).length < 64) (hs : kws (encs (ps.flatMap memb)) ≤ s) (h1 : 1 ≤ (foundP ps).length) : Cd 0 (dp + 2) (s + 60) (ljoin ps) := by
  have hm : ∀ m ∈ ps.flatMap memb, ∃ w, Cd 4 dp w m := fun m hm => by
    obtain ⟨p, hp, hmp⟩ := List.mem_flatMap.mp hm
    obtain ⟨w, hc⟩ := h p hp
    have o := hc.ok.memb hmp
    exact ⟨w, isK_memb hc.is hmp, o.lay, o.dep, o.bar, o.wgt⟩
  have hsl : (foundP ps).Sublist (ps.flatMap memb) := by
    have := fold_sl (ps.flatMap memb) []
    simpa [foundP] using this
  have hf : ∀ m ∈ foundP ps, ∃ w, Cd 4 dp w m := fun m hx => hm m (hsl.subset hx)
  have hk2 := kws_sl hsl
  have hl2 := hsl.length_le
  have nd : ((foundP ps).map lkP).Nodup := fold_nd (ps.flatMap memb) [] (by simp)
  unfold ljoin
  split
  · rename_i p hp
    obtain ⟨w, hc⟩ := hf p (by rw [hp]; simp)
    have hw : kw (enc p) ≤ s := by
      rw [hp] at hk2
      simp only [encs, kws] at hk2
      omega
    exact ⟨isK_mem hc.is, hc.lay, Nat.le_trans hc.dep (by omega), hc.bar, by omega⟩
  · rename_i hne
    refine Cd.uni hf ?_ (by omega) nd (by omega)
    rcases hfp : foundP ps with _ | ⟨p, _ | ⟨q, r⟩⟩
    · rw [hfp] at h1; simp at h1
    · exact absurd hfp (hne p)
    · simp
theorem lsz_pos {p : P} (h : isK p 4) : 1 ≤ lsz p := by
  cases p <;> simp only [isK] at h <;> simp only [lsz]
  case use => omega
  case sig => omega
  all_goals omega
theorem lszs_len : ∀ {l : List P}, isKs l 4 → l.length ≤ lszs l
  | [], _ => by simp
  | p :: r, h => by
    simp only [isKs] at h
    have h1 := lsz_pos h.1
    have h2 := lszs_len h.2
    simp only [lszs, List.length_cons]
    omega
theorem memb_siz {p : P} {k : Nat} (h : isK p 0) : (memb p).length ≤ siz p + 1 := by
  rcases uni_or p with ⟨ms, rfl⟩ | ⟨_, e⟩
  · simp only [isK] at h
    have := lszs_len h.2.2.2
    rw [← lsz_siz]
    simp only [lsz]
    show ms.length ≤ _
    omega
  · rw [e]; simp
theorem lsz_mem {p : P} : ∀ {l : List P}, p ∈ l → lsz p ≤ lszs l
  | [], h => (List.not_mem_nil h).elim
  | q :: r, h => by
    simp only [lszs]
    rcases List.mem_cons.mp h with rfl | h
    · omega
    · have := lsz_mem h; omega
/-- what stands in a use -/
theorem Cd.in_use {k dp wt : Nat} {n : Str} {vs : List P} (h : Cd k dp wt (.use n vs)) : good n ∧ kws (encs vs) + 50 ≤ wt ∧ ∀ v ∈ vs, Cd 1 (dp - 2) (kw (enc v)) v ∧ 2 + (enc v).depth ≤ dp := by
  obtain ⟨h1, h2, h3, h4, h5⟩ := h
  simp only [isK] at h1
  simp only [enc, PyData.canLay0, PyData.canLayAll0, Bool.and_eq_true] at h2
  simp only [enc, PyData.depth, PyData.depthAll] at h3
  simp only [enc, kq_tup, kqs, Bool.and_eq_true] at h4
  simp only [enc, kw, kws] at h5
  have hl : 1 ≤ n.length := by
    have := h1.2.1.1
    have e : n.length = n.cps.toList.length := by simp [Str.length]
    rw [e]
    cases hc : n.cps.toList with
    | nil => exact absurd hc this
    | cons a b => simp
  refine ⟨h1.2.1, by omega, fun v hv => ?_⟩
  have me := mem_encs hv
  have a2 := depth_mem me
  exact ⟨⟨isKs_iff.mp h1.2.2 v hv, lay_mem h2.2.1 me, by omega, kq_mem h4.2.2.1.2 me, Nat.le_refl _⟩, by omega⟩
theorem Cd.in_row {k dp wt : Nat} {xs : List P} (h : Cd k dp wt (.row xs)) : kws (encs xs) + 60 ≤ wt ∧ 2 ≤ dp ∧ ∀ v ∈ xs, Cd 2 (dp - 2) (kw (enc v)) v := by
  obtain ⟨h1, h2, h3, h4, h5⟩ := h
  have l1 : ("[]" : Str).length = 2 := by decide +kernel
  simp only [isK] at h1
  simp only [enc, PyData.canLay0, PyData.canLayAll0, Bool.and_eq_true] at h2
  simp only [enc, PyData.depth, PyData.depthAll] at h3
  simp only [enc, kq_tup, kqs, Bool.and_eq_true] at h4
  simp only [enc, kw, kws, l1] at h5
  refine ⟨by omega, by omega, fun v hv => ?_⟩
  have me := mem_encs hv
  have a2 := depth_mem me
  exact ⟨isKs_iff.mp h1.2 v hv, lay_mem h2.2.1 me, by omega, kq_mem h4.2.2.1.2 me, Nat.le_refl _⟩
theorem Cd.in_inp {k dp wt : Nat} {xs : List P} {tl : Option Str} (h : Cd k dp wt (.inp xs tl)) : kws (encs xs) + 75 ≤ wt ∧ 2 ≤ dp ∧ tlok tl ∧ ∀ v ∈ xs, Cd 2 (dp - 2) (kw (enc v)) v := by
  obtain ⟨h1, h2, h3, h4, h5⟩ := h
  have l1 : ("()" : Str).length = 2 := by decide +kernel
  simp only [isK] at h1
  simp only [enc, PyData.canLay0, PyData.canLayAll0, Bool.and_eq_true] at h2
  simp only [enc, PyData.depth, PyData.depthAll] at h3
  simp only [enc, kq_tup, kqs, Bool.and_eq_true] at h4
  simp only [enc, kw, kws, l1] at h5
  have ht : 10 ≤ kw (tlD tl) := by cases tl <;> simp only [tlD, kw] <;> omega
  refine ⟨by omega, by omega, h1.2.2, fun v hv => ?_⟩
  have me := mem_encs hv
  have a2 := depth_mem me
  exact ⟨isKs_iff.mp h1.2.1 v hv, lay_mem h2.2.1 me, by omega, kq_mem h4.2.2.1.2 me, Nat.le_refl _⟩
theorem Cd.in_sig {k dp wt : Nat} {i r : P} (h : Cd k dp wt (.sig i r)) : kw (enc i) + kw (enc r) + 55 ≤ wt ∧ Cd 3 (dp - 1) (kw (enc i)) i ∧ Cd 0 (dp - 1) (kw (enc r)) r ∧ 1 + (enc r).depth ≤ dp ∧ 1 + (enc i).depth ≤ dp := by
  obtain ⟨h1, h2, h3, h4, h5⟩ := h
  have l1 : ("->" : Str).length = 2 := by decide +kernel
  simp only [isK] at h1
  simp only [enc, PyData.canLay0, PyData.canLayAll0, Bool.and_eq_true] at h2
  simp only [enc, PyData.depth, PyData.depthAll] at h3
  simp only [enc, kq_tup, kqs, Bool.and_eq_true] at h4
  simp only [enc, kw, kws, l1] at h5
  exact ⟨by omega, ⟨h1.2.1, h2.2.1, by omega, h4.2.2.1, Nat.le_refl _⟩, ⟨h1.2.2, h2.2.2.1, by omega, h4.2.2.2.1, Nat.le_refl _⟩, by omega, by omega⟩
theorem Cd.tight {k dp wt : Nat} {p : P} (h : Cd k dp wt p) : Cd k (enc p).depth (kw (enc p)) p := ⟨h.is, h.lay, Nat.le_refl _, h.bar, Nat.le_refl _⟩
/-- a near term -/
def Nr (p q : P) : Prop := Cd 0 ((enc p).depth + 8) (2 * kw (enc p) + 1000) q
theorem kws_rev (l : List P) : kws (encs l.reverse) = kws (encs l) := by
  rw [kws_eq, kws_eq, encs_map, encs_map, List.map_reverse, List.map_reverse, List.sum_reverse]
theorem kws_take1 (l : List P) : kws (encs (l.take 1)) ≤ kws (encs l) := kws_sl (List.take_sublist 1 l)
/-- one value of a use in the place of another -/
theorem Nr.use {dp wt at' : Nat} {n : Str} {vs : List P} {v v' : P} (h : Cd 0 dp wt (.use n vs)) (ha : vs[at']? = some v) (hv : Cd 1 ((enc (.use n vs)).depth + 6) (2 * kw (enc v) + 1000) v') : Nr (.use n vs) (.use n (vs.take at' ++ v' :: vs.drop (at' + 1))) := by
  obtain ⟨h1, h2, h3⟩ := h.tight.in_use
  have hlt := (List.getElem?_eq_some_iff.mp ha).1
  have e : kws (encs vs) = kws (encs (vs.take at')) + (kw (enc v) + 5) + kws (encs (vs.drop (at' + 1))) := by
    have e1 : vs = vs.take at' ++ v :: vs.drop (at' + 1) := by
      rw [← (List.getElem?_eq_some_iff.mp ha).2, ← List.drop_eq_getElem_cons hlt, List.take_append_drop]
    conv => lhs; rw [e1]
    rw [encs_app, kws_app]
    simp only [encs, kws]
    omega
  have := hv.wgt
  refine (Cd.use (k := 0) (dp := (enc (.use n vs)).depth + 6) (s := 2 * kws (encs vs) + 1000) (.inl rfl) h1 (fun x hx => ?_) ?_).mono (by omega) (by omega)
  · rcases List.mem_append.mp hx with hx | hx
    · exact ⟨_, (h3 x (List.mem_of_mem_take hx)).1.mono (by omega) (Nat.le_refl _)⟩
    · rcases List.mem_cons.mp hx with rfl | hx
      · exact ⟨_, hv⟩
      · exact ⟨_, (h3 x (List.mem_of_mem_drop hx)).1.mono (by omega) (Nat.le_refl _)⟩
  · rw [encs_app, kws_app]
    simp only [encs, kws]
    omega
theorem row_near {xs : List P} {dp wt : Nat} (h : Cd 1 dp wt (.row xs)) : Cd 1 dp (2 * wt) (.row (xs.reverse ++ xs.take 1)) := by
  obtain ⟨h1, h2, h3⟩ := h.in_row
  refine (Cd.row (dp := dp - 2) (s := 2 * kws (encs xs)) (fun x hx => ?_) ?_).mono (by omega) (by omega)
  · rcases List.mem_append.mp hx with hx | hx
    · exact ⟨_, h3 x (List.mem_reverse.mp hx)⟩
    · exact ⟨_, h3 x (List.mem_of_mem_take hx)⟩
  · rw [encs_app, kws_app, kws_rev]
    have := kws_take1 xs
    omega
theorem inp_near {xs : List P} {tl : Option Str} {k dp wt : Nat} (h : Cd k dp wt (.inp xs tl)) : Cd 1 dp (2 * wt) (.inp xs.reverse none) := by
  obtain ⟨h1, h2, _, h3⟩ := h.in_inp
  refine ((Cd.inp (dp := dp - 2) (s := kws (encs xs)) (tl := none) (fun x hx => ⟨_, h3 x (List.mem_reverse.mp hx)⟩) trivial ?_).inV).mono (by omega) (by omega)
  rw [kws_rev]
  exact Nat.le_refl _
theorem Nr.sig {dp wt : Nat} {xs : List P} {tl : Option Str} {r r' : P} (h : Cd 0 dp wt (.sig (.inp xs tl) r)) (hr : Nr r r') : Nr (.sig (.inp xs tl) r) (.sig (.inp (xs.drop 1) tl) r') := by
  obtain ⟨h1, h2, h3, h4, h5⟩ := h.tight.in_sig
  obtain ⟨i1, i2, i3, i4⟩ := h2.in_inp
  have a := kws_sl (List.drop_sublist 1 xs)
  have i := Cd.inp (dp := (enc (.sig (.inp xs tl) r)).depth + 5) (s := kws (encs xs)) (tl := tl) (fun x hx => ⟨_, (i4 x (List.mem_of_mem_drop hx)).mono (by omega) (Nat.le_refl _)⟩) i3 a
  exact (Cd.sig (k := 0) (dp := (enc (.sig (.inp xs tl) r)).depth + 7) (.inl rfl) i (hr.mono (by omega) (Nat.le_refl _))).mono (by omega) (by omega)
theorem memb_kws' {p : P} : kws (encs (memb p)) ≤ kw (enc p) + 5 := by
  rcases uni_or p with ⟨ms, rfl⟩ | ⟨_, e⟩
  · show kws (encs ms) ≤ _
    simp only [enc, kw, kws]
    omega
  · rw [e]
    simp only [encs, kws]
    omega
/-- a small term of its own -/
structure So (s : P) : Prop where
  cd : Cd 0 6 400 s
  nu : isUni s = false
theorem Nr.some {p s : P} (h : So s) : Nr p s := h.cd.mono (by omega) (by omega)
theorem So.memb {s : P} (h : So s) : Gd.memb s = [s] := by
  rcases uni_or s with ⟨ms, rfl⟩ | ⟨_, e⟩
  · have := h.nu; cases this
  · exact e
theorem Nr.join {dp wt : Nat} {p s : P} (h : Cd 0 dp wt p) (hs : So s) (hz : siz p ≤ 50) (h1 : 1 ≤ (foundP [p, s]).length) : Nr p (ljoin [p, s]) := by
  have a := memb_siz (k := 0) h.is
  have b := memb_kws' (p := p)
  have c := hs.cd.wgt
  refine (ljoin_Cd (dp := (enc p).depth + 6) (s := kw (enc p) + 5 + 405) (fun q hq => ?_) ?_ ?_ h1).mono (by omega) (by omega)
  · rcases List.mem_cons.mp hq with rfl | hq
    · exact ⟨_, h.tight.mono (by omega) (Nat.le_refl _)⟩
    · rw [List.mem_singleton.mp hq]
      exact ⟨_, hs.cd.mono (by omega) (Nat.le_refl _)⟩
  · simp only [List.flatMap_cons, List.flatMap_nil, List.append_nil, List.length_append, hs.memb, List.length_singleton]
    omega
  · simp only [List.flatMap_cons, List.flatMap_nil, List.append_nil, encs_app, kws_app, hs.memb, encs, kws]
    omega
theorem Cd.in_uni {k dp wt : Nat} {ms : List P} (h : Cd k dp wt (.uni ms)) : kws (encs ms) + 40 ≤ wt ∧ 2 ≤ dp ∧ 2 ≤ ms.length ∧ ∀ v ∈ ms, Cd 4 (dp - 2) (kw (enc v)) v := by
  obtain ⟨h1, h2, h3, h4, h5⟩ := h
  have l1 : ("|" : Str).length = 1 := by decide +kernel
  simp only [isK] at h1
  simp only [enc, PyData.canLay0, PyData.canLayAll0, Bool.and_eq_true] at h2
  simp only [enc, PyData.depth, PyData.depthAll] at h3
  simp only [enc, kq_tup, kqs, Bool.and_eq_true] at h4
  simp only [enc, kw, kws, l1] at h5
  refine ⟨by omega, by omega, h1.2.1, fun v hv => ?_⟩
  have me := mem_encs hv
  have a2 := depth_mem me
  exact ⟨isKs_iff.mp h1.2.2.2 v hv, lay_mem h2.2.1 me, by omega, kq_mem h4.2.2.1.2 me, Nat.le_refl _⟩
theorem memb4 {m : P} (h : isK m 4) : memb m = [m] := by
  rcases uni_or m with ⟨ms, rfl⟩ | ⟨_, e⟩
  · simp only [isK] at h
    omega
  · exact e
theorem Cd.of4 {dp wt : Nat} {p : P} (h : Cd 4 dp wt p) : Cd 0 dp wt p := ⟨isK_mem h.is, h.lay, h.dep, h.bar, h.wgt⟩
theorem flat4 : ∀ {l : List P}, (∀ m ∈ l, isK m 4) → l.flatMap memb = l
  | [], _ => rfl
  | m :: l, h => by rw [List.flatMap_cons, memb4 (h m List.mem_cons_self), flat4 fun x hx => h x (List.mem_cons_of_mem m hx)]; rfl
theorem Nr.join1 {dp wt : Nat} {ms : List P} {s : P} (h : Cd 0 dp wt (.uni ms)) (hs : So s) (hz : siz (.uni ms) ≤ 50) (h1 : 1 ≤ (foundP (ms.drop 1 ++ [s])).length) : Nr (.uni ms) (ljoin (ms.drop 1 ++ [s])) ∧ ((ms.drop 1 ++ [s]).flatMap memb).length ≤ 60 := by
  have a := memb_siz (k := 0) h.is
  obtain ⟨i1, i2, _, i3⟩ := h.tight.in_uni
  have c := hs.cd.wgt
  have e : (ms.drop 1 ++ [s]).flatMap memb = ms.drop 1 ++ [s] := by
    rw [List.flatMap_append, flat4 fun m hm => (i3 m (List.mem_of_mem_drop hm)).is]
    simp [hs.memb]
  have l : (ms.drop 1).length ≤ ms.length := (List.drop_sublist 1 ms).length_le
  have a' : ms.length ≤ siz (.uni ms) + 1 := a
  have b := kws_sl (List.drop_sublist 1 ms)
  refine ⟨(ljoin_Cd (dp := (enc (.uni ms)).depth + 6) (s := kw (enc (.uni ms)) + 405) (fun q hq => ?_) ?_ ?_ h1).mono (by omega) (by omega), ?_⟩
  · rcases List.mem_append.mp hq with hq | hq
    · exact ⟨_, (i3 q (List.mem_of_mem_drop hq)).of4.mono (by omega) (Nat.le_refl _)⟩
    · rw [List.mem_singleton.mp hq]
      exact ⟨_, hs.cd.mono (by omega) (Nat.le_refl _)⟩
  · rw [e, List.length_append, List.length_singleton]; omega
  · rw [e, encs_app, kws_app]
    simp only [encs, kws]
    omega
  · rw [e, List.length_append, List.length_singleton]; omega
theorem no_all {α : Type} {p : α → Prop} : ∀ v ∈ ([] : List α), p v := fun v hv => (List.not_mem_nil hv).elim
theorem So.use0 {n : Str} (h : good n) : So (.use n []) := ⟨(Cd.use (k := 0) (dp := 0) (s := 0) (vs := []) (.inl rfl) h no_all (by simp [encs, kws])).mono (by omega) (by omega), rfl⟩
theorem So.row0 {n : Str} (h : good n) : So (.use n [.row []]) := by
  have l1 : ("[]" : Str).length = 2 := by decide +kernel
  have hr : Cd 1 2 60 (.row []) := (Cd.row (dp := 0) (s := 0) (xs := []) no_all (by simp [encs, kws])).mono (by omega) (by omega)
  exact ⟨(Cd.use (k := 0) (dp := 2) (s := 70) (vs := [.row []]) (.inl rfl) h (fun v hv => by rw [List.mem_singleton.mp hv]; exact ⟨60, hr⟩) (by simp only [encs, enc, kws, kw, l1]; omega)).mono (by omega) (by omega), rfl⟩
theorem So.row1 {n m : Str} (h : good n) (hm : good m) : So (.use n [.row [.use m []]]) := by
  have h1 := (So.use0 hm).cd
  have e : kw (enc (.use m [])) ≤ 110 := by have := hm.2.1; simp only [enc, encs, kw, kws]; omega
  have c : Cd 2 2 110 (.use m []) := ⟨by simp only [isK, isKs]; exact ⟨by decide, hm, trivial⟩, h1.lay, by simp [enc, encs, PyData.depth, PyData.depthAll], h1.bar, e⟩
  have hr : Cd 1 4 (115 + 60) (.row [.use m []]) := Cd.row (dp := 2) (s := 115) (fun v hv => by rw [List.mem_singleton.mp hv]; exact ⟨110, c⟩) (by simp only [encs, kws]; omega)
  have hw := hr.wgt
  exact ⟨(Cd.use (k := 0) (dp := 4) (s := 180) (.inl rfl) h (fun v hv => by rw [List.mem_singleton.mp hv]; exact ⟨_, hr⟩) (by simp only [encs, kws]; omega)).mono (by omega) (by omega), rfl⟩
section
variable {H : Hp} {Q : VK} {K : PySem.W.Frag}
theorem r_slA {a : Addr} {xs : List V} {lo hi : Option Int} (h : H a = some (.tup xs)) (q : ∀ p H2, Up H H2 → H2 p = some (.tup (cutV xs lo hi)) → Q (.ref p) H2) : rSlA K (.ref a) lo hi H Q := by
  refine ⟨a, xs, rfl, SqT.of h, fun z => ?_, fun _ p hp => q p _ (Up.new hp) upd_same⟩
  have e : cutV xs lo hi = xs := by
    unfold cutV
    rw [z.1, z.2]
    simp
  exact q a H Up.rf (by rw [e]; exact h)
theorem cut_from {xs : List V} {k : Nat} : cutV xs (some (k : Int)) none = xs.drop k := by
  unfold cutV
  rw [HT.sIx_nat]
  show (xs.drop (min k xs.length)).take (xs.length - min k xs.length) = _
  by_cases c : k ≤ xs.length
  · rw [Nat.min_eq_left c, List.take_of_length_le (by rw [List.length_drop]; omega)]
  · rw [Nat.min_eq_right (by omega), List.drop_of_length_le (by omega : xs.length ≤ k), List.drop_length]
    simp
theorem cut_to {xs : List V} {k : Nat} : cutV xs none (some (k : Int)) = xs.take k := by
  unfold cutV
  rw [HT.sIx_nat]
  show (xs.drop 0).take (min k xs.length - 0) = _
  rw [List.drop_zero, Nat.sub_zero]
  by_cases c : k ≤ xs.length
  · rw [Nat.min_eq_left c]
  · rw [Nat.min_eq_right (by omega), List.take_length, List.take_of_length_le (by omega)]
theorem r_ni2L {p : Addr} {a b s : Str} (h : H p = some (.lst [.str a, .str b])) (q : Q (.bl (!(decide (s = a) || decide (s = b)))) H) : rIn K true (.str s) (.ref p) H Q :=
  ⟨p, _, rfl, Or.inl (SqL.of h), rfl, rfl, by
    have e : inV (.str s) [.str a, .str b] = (decide (s = a) || decide (s = b)) := by simp only [inV, List.any_cons, List.any_nil, eqV_str, Bool.or_false]
    simp only [if_true]
    rw [e]; exact q⟩
theorem Das.take {H : Hp} : ∀ {vs : List V} {ds : List PyData} (k : Nat), Das H vs ds → Das H (vs.take k) (ds.take k)
  | _, _, 0, _ => by simp only [List.take_zero]; exact .nil
  | _, _, k + 1, .nil => .nil
  | _, _, k + 1, .cons h t => .cons h (Das.take k t)
theorem Das.drop {H : Hp} : ∀ {vs : List V} {ds : List PyData} (k : Nat), Das H vs ds → Das H (vs.drop k) (ds.drop k)
  | _, _, 0, h => by simp only [List.drop_zero]; exact h
  | _, _, k + 1, .nil => .nil
  | _, _, k + 1, .cons _ t => Das.drop k t
theorem encs_take (l : List P) (k : Nat) : (encs l).take k = encs (l.take k) := by rw [encs_map, encs_map, List.map_take]
theorem encs_drop (l : List P) (k : Nat) : (encs l).drop k = encs (l.drop k) := by rw [encs_map, encs_map, List.map_drop]
theorem encs_rev (l : List P) : (encs l).reverse = encs l.reverse := by rw [encs_map, encs_map, List.map_reverse]
end
end Gd
namespace Gd
open PySem PySem.Spec PyProof.Rows L2
theorem hd_val {p : P} (h : isK p 1) : (∃ xs, p = .row xs) ∨ (∃ xs tl, p = .inp xs tl) ∨ (decide (hd p = ("[]" : Str)) = false ∧ decide (hd p = ("()" : Str)) = false ∧ isK p 0) := by
  cases p with
  | row xs => exact Or.inl ⟨_, rfl⟩
  | inp xs tl => exact Or.inr (Or.inl ⟨_, _, rfl⟩)
  | use n vs =>
    simp only [isK] at h
    refine Or.inr (Or.inr ⟨h.2.1.apart.f, h.2.1.apart.e, ?_⟩)
    simp only [isK]
    exact ⟨by decide, h.2.1, h.2.2⟩
  | sig i r =>
    refine Or.inr (Or.inr ⟨by show decide (("->" : Str) = ("[]" : Str)) = false; decide +kernel, by show decide (("->" : Str) = ("()" : Str)) = false; decide +kernel, ?_⟩)
    simp only [isK] at h ⊢
    exact ⟨by decide, h.2.1, h.2.2⟩
  | uni ms =>
    refine Or.inr (Or.inr ⟨by show decide (("|" : Str) = ("[]" : Str)) = false; decide +kernel, by show decide (("|" : Str) = ("()" : Str)) = false; decide +kernel, ?_⟩)
    simp only [isK] at h ⊢
    exact ⟨by decide, h.2.1, h.2.2.1, h.2.2.2⟩
  | star n => simp [isK] at h
  | dots t => simp [isK] at h
  | tail s => simp [isK] at h
theorem r_andB {A B : TT} {σ : L2.St} {H : Hp} {R : Bool → Hp → Prop} {b1 b2 : Bool} (h1 : ∀ R' : Bool → Hp → Prop, R' b1 H → A σ H R') (h2 : ∀ R' : Bool → Hp → Prop, (∀ H2, Up H H2 → R' b2 H2) → B σ H R') (q : ∀ H2, Up H H2 → R (b1 && b2) H2) : tAnd A B σ H R := by
  refine r_and (h1 _ ?_)
  cases b1 with
  | true =>
    rw [if_pos rfl]
    exact h2 _ fun H2 u2 => q H2 u2
  | false =>
    rw [if_neg (by decide)]
    exact q H Up.rf
end Gd
namespace Gd
open PySem PySem.Spec PyProof.Rows L2
theorem kws_ge : ∀ l : List P, 30 * l.length ≤ kws (encs l)
  | [] => by simp
  | p :: r => by
    have := kws_ge r
    simp only [encs, kws, List.length_cons]
    rw [enc_eq, kw_tup]
    simp only [kws, kw]
    omega
end Gd

namespace Gd
open PySem PySem.Spec PyProof.Rows L2
/-! ### what every part of a drawn term keeps -/
theorem kq_enc (p : P) : kq (enc p) = (kqT (.str (hd p) :: sec p :: more p) && (kq (sec p) && kqs (more p))) := by
  rw [enc_eq, kq_tup]
  simp only [kqs, kq, Bool.true_and]
mutual
theorem uni_pre : ∀ (p : P), kq (enc p) = true → ∀ q ∈ pre p, isUni q = true → (parts q).length < 64
  | .use n vs, h, q, hq, hu => by
    simp only [pre, List.mem_cons] at hq
    simp only [enc, kq_tup, kqs, Bool.and_eq_true] at h
    rcases hq with rfl | hq
    · simp [isUni] at hu
    · exact unis_pre vs h.2.2.1.2 q hq hu
  | .sig i r, h, q, hq, hu => by
    simp only [pre, List.mem_cons, List.mem_append] at hq
    simp only [enc, kq_tup, kqs, Bool.and_eq_true] at h
    rcases hq with rfl | hq | hq
    · simp [isUni] at hu
    · exact uni_pre i h.2.2.1 q hq hu
    · exact uni_pre r h.2.2.2.1 q hq hu
  | .uni ms, h, q, hq, hu => by
    simp only [pre, List.mem_cons] at hq
    simp only [enc, kq_tup, kqs, kqT_cons, barM, Bool.and_eq_true] at h
    rcases hq with rfl | hq
    · have e : isBar (.str ("|" : Str)) = true := by decide +kernel
      rw [e, encs_len] at h
      have := h.1
      simp only [Bool.not_true, Bool.false_or, decide_eq_true_eq] at this
      exact this
    · exact unis_pre ms h.2.2.1.2 q hq hu
  | .row xs, h, q, hq, hu => by
    simp only [pre, List.mem_cons] at hq
    simp only [enc, kq_tup, kqs, Bool.and_eq_true] at h
    rcases hq with rfl | hq
    · simp [isUni] at hu
    · exact unis_pre xs h.2.2.1.2 q hq hu
  | .inp xs tl, h, q, hq, hu => by
    simp only [pre, List.mem_cons, List.mem_append] at hq
    simp only [enc, kq_tup, kqs, Bool.and_eq_true] at h
    rcases hq with rfl | hq | hq
    · simp [isUni] at hu
    · exact unis_pre xs h.2.2.1.2 q hq hu
    · cases tl with
      | none => simp [tails] at hq
      | some s =>
        simp only [tails, List.mem_singleton] at hq
        subst hq
        simp [isUni] at hu
  | .star n, h, q, hq, hu => by
    simp only [pre, List.mem_singleton] at hq
    subst hq
    simp [isUni] at hu
  | .dots t, h, q, hq, hu => by
    simp only [pre, List.mem_cons] at hq
    simp only [enc, kq_tup, kqs, Bool.and_eq_true] at h
    rcases hq with rfl | hq
    · simp [isUni] at hu
    · exact uni_pre t h.2.2.1 q hq hu
  | .tail s, h, q, hq, hu => by
    simp only [pre, List.mem_singleton] at hq
    subst hq
    simp [isUni] at hu
theorem unis_pre : ∀ (l : List P), kqs (encs l) = true → ∀ q ∈ pres l, isUni q = true → (parts q).length < 64
  | [], _, q, hq, _ => by simp [pres] at hq
  | p :: l, h, q, hq, hu => by
    simp only [pres, List.mem_append] at hq
    simp only [encs, kqs, Bool.and_eq_true] at h
    rcases hq with hq | hq
    · exact uni_pre p h.1 q hq hu
    · exact unis_pre l h.2 q hq hu
end
theorem Cd.hokU {k dp wt : Nat} {p : P} (h : Cd k dp wt p) (hw : wt ≤ 90000) : ∀ q ∈ pre p, hokU q := fun q hq =>
  ⟨isK_pre p k h.is q hq, uni_pre p h.bar q hq, Nat.le_trans (kw_pre p q hq) (Nat.le_trans h.wgt hw)⟩
section
variable {H : Hp} {Q : VK} {K : PySem.W.Frag}
theorem r_neB {i j : Bool} (q : Q (.bl (!decide (i = j))) H) : rNe (.bl i) (.bl j) H Q := ⟨rfl, by
  have e : decide (V.bl i = V.bl j) = decide (i = j) := by
    by_cases c : i = j
    · subst c; simp
    · simp [c]
  rw [e]; exact q⟩
theorem r_isB {i j : Bool} (q : Q (.bl (decide (i = j))) H) : L2.rIsB (.bl i) (.bl j) H Q := ⟨i, j, rfl, rfl, q⟩
theorem r_notB {i j : Bool} (q : Q (.bl (!decide (i = j))) H) : L2.rNotB (.bl i) (.bl j) H Q := ⟨i, j, rfl, rfl, q⟩
/-- repr of a list of two truths -/
theorem r_repr2 {a : Addr} {x y : Bool} (h : H a = some (.lst [.bl x, .bl y])) (q : Q (.str (PyData.shown (.list [.bool x, .bool y]))) H) : rRepr K [.ref a] H Q := by
  refine ⟨_, .list [.bool x, .bool y], rfl, .lst (SqL.of h) (.cons (.bl x) (.cons (.bl y) .nil)), rfl, by simp [PyData.depth, PyData.depthAll], ?_, q⟩
  cases x <;> cases y <;> decide +kernel
end
end Gd
namespace Gd
open PySem PySem.Spec PyProof.Rows L2
/-! ### the terms directly in a term -/
def argP : P → List P
  | .use _ vs => vs
  | .sig i r => [i, r]
  | .uni ms => ms
  | _ => []
def inn : P → List P
  | .row xs => xs
  | .inp xs _ => xs
  | p => [p]
def one1 : P → List P
  | .dots t => [t]
  | .star _ => []
  | p => [p]
def tin (p : P) : List P := (argP p).flatMap fun q => (inn q).flatMap one1
theorem argP_K {p q : P} {k : Nat} (h : isK p k) (hq : q ∈ argP p) : ∃ j, isK q j := by
  cases p with
  | use n vs => simp only [isK] at h; exact ⟨_, isKs_iff.mp h.2.2 q hq⟩
  | sig i r =>
    simp only [isK] at h
    rcases List.mem_cons.mp hq with rfl | hq
    · exact ⟨_, h.2.1⟩
    · rw [List.mem_singleton.mp hq]; exact ⟨_, h.2.2⟩
  | uni ms => simp only [isK] at h; exact ⟨_, isKs_iff.mp h.2.2.2 q hq⟩
  | _ => exact (List.not_mem_nil hq).elim
theorem inn_or {q : P} {k : Nat} (h : isK q k) : (isNd q = false ∧ sec q = .tuple (encs (inn q)) ∧ ∀ x ∈ inn q, ∃ j, isK x j) ∨ (isNd q = true ∧ inn q = [q]) := by
  cases q with
  | row xs => simp only [isK] at h; exact Or.inl ⟨rfl, rfl, fun x hx => ⟨_, isKs_iff.mp h.2 x hx⟩⟩
  | inp xs tl => simp only [isK] at h; exact Or.inl ⟨rfl, rfl, fun x hx => ⟨_, isKs_iff.mp h.2.1 x hx⟩⟩
  | _ => exact Or.inr ⟨rfl, rfl⟩
theorem arg_or {p : P} (h : isK p 0) : (∃ i r, p = .sig i r) ∨ (decide (hd p = ("->" : Str)) = false ∧ sec p = .tuple (encs (argP p))) := by
  cases p with
  | use n vs => simp only [isK] at h; exact Or.inr ⟨h.2.1.apart.c, rfl⟩
  | sig i r => exact Or.inl ⟨_, _, rfl⟩
  | uni ms => exact Or.inr ⟨by show decide (("|" : Str) = ("->" : Str)) = false; decide +kernel, rfl⟩
  | _ => simp [isK] at h
theorem one_or {x : P} {k : Nat} (h : isK x k) : (∃ t, x = .dots t) ∨ (∃ n, x = .star n) ∨ (decide (hd x = ("..." : Str)) = false ∧ decide (hd x = ("*" : Str)) = false ∧ one1 x = [x]) := by
  cases x with
  | dots t => exact Or.inl ⟨_, rfl⟩
  | star n => exact Or.inr (Or.inl ⟨_, rfl⟩)
  | use n vs => simp only [isK] at h; exact Or.inr (Or.inr ⟨h.2.1.apart.d, h.2.1.apart.a, rfl⟩)
  | sig i r => exact Or.inr (Or.inr ⟨by show decide (("->" : Str) = ("..." : Str)) = false; decide +kernel, by show decide (("->" : Str) = ("*" : Str)) = false; decide +kernel, rfl⟩)
  | uni ms => exact Or.inr (Or.inr ⟨by show decide (("|" : Str) = ("..." : Str)) = false; decide +kernel, by show decide (("|" : Str) = ("*" : Str)) = false; decide +kernel, rfl⟩)
  | row ms => exact Or.inr (Or.inr ⟨by show decide (("[]" : Str) = ("..." : Str)) = false; decide +kernel, by show decide (("[]" : Str) = ("*" : Str)) = false; decide +kernel, rfl⟩)
  | inp ms t => exact Or.inr (Or.inr ⟨by show decide (("()" : Str) = ("..." : Str)) = false; decide +kernel, by show decide (("()" : Str) = ("*" : Str)) = false; decide +kernel, rfl⟩)
  | tail s => simp [isK] at h
/-- a part's key is shorter -/
theorem key_lt_join {x : Str} {ks : List Str} (a : Str) (h : x ∈ ks) : x.length < (a ++ ("[" : Str) ++ Txt.join ("," : Str) ks ++ ("]" : Str)).length := by
  have := TL.join_eq ("," : Str) ks
  rw [this]
  have j := join_mem_le ("," : Str) ks x h
  simp only [slen_app, l_o, l_c]
  omega
theorem kc_part {p q : P} (h : q ∈ parts p) : (kc q).length < (kc p).length := by
  have hm : ∀ {l : List P}, q ∈ l → kc q ∈ kcs l := fun h => by rw [kcs_map]; exact List.mem_map.mpr ⟨q, h, rfl⟩
  cases p with
  | use n vs => rw [kc]; exact key_lt_join _ (hm h)
  | sig i r =>
    rw [kc.eq_2]
    refine key_lt_join _ ?_
    rcases List.mem_cons.mp h with rfl | h
    · simp
    · rw [List.mem_singleton.mp h]; simp
  | uni ms => rw [kc.eq_3]; exact key_lt_join _ (mem_ssort.mpr (hm h))
  | row xs => rw [kc.eq_4]; exact key_lt_join _ (hm h)
  | inp xs tl =>
    rw [kc.eq_5]
    refine key_lt_join _ ?_
    rcases List.mem_append.mp h with h | h
    · exact List.mem_append_left _ (hm h)
    · cases tl with
      | none => simp [tails] at h
      | some s =>
        simp only [tails, List.mem_singleton] at h
        subst h
        simp [tlk, kc]
  | star n => simp [parts] at h
  | dots t =>
    rw [kc.eq_7]
    refine key_lt_join _ ?_
    simp only [parts, List.mem_singleton] at h
    subst h
    simp
  | tail s => simp [parts] at h
theorem tin_lt {p t : P} (h : t ∈ tin p) : (kc t).length < (kc p).length := by
  obtain ⟨q, hq, ht⟩ := List.mem_flatMap.mp h
  obtain ⟨x, hx, hy⟩ := List.mem_flatMap.mp ht
  have h1 : q ∈ parts p := by cases p <;> first | exact hq | exact (List.not_mem_nil hq).elim
  have h2 : x = q ∨ x ∈ parts q := by
    cases q <;> first
      | exact Or.inl (List.mem_singleton.mp hx)
      | exact Or.inr hx
      | exact Or.inr (List.mem_append_left _ hx)
  have h3 : t = x ∨ t ∈ parts x := by
    cases x <;> first
      | exact Or.inl (List.mem_singleton.mp hy)
      | exact Or.inr hy
      | exact (List.not_mem_nil hy).elim
  have a := kc_part h1
  have b : (kc x).length ≤ (kc q).length := by
    rcases h2 with rfl | h2
    · exact Nat.le_refl _
    · exact Nat.le_of_lt (kc_part h2)
  have c : (kc t).length ≤ (kc x).length := by
    rcases h3 with rfl | h3
    · exact Nat.le_refl _
    · exact Nat.le_of_lt (kc_part h3)
  omega
end Gd
namespace Gd
open PySem PySem.Spec PyProof.Rows L2
theorem one1_len (x : P) : (one1 x).length ≤ 1 := by cases x <;> simp [one1]
theorem flat_one : ∀ l : List P, (l.flatMap one1).length ≤ l.length
  | [] => by simp
  | x :: r => by
    have a := one1_len x
    have b := flat_one r
    rw [List.flatMap_cons, List.length_append, List.length_cons]
    omega
theorem inn_len (q : P) : (inn q).length ≤ (pre q).length := by
  rw [pre_eq]
  have h := pres_len (parts q)
  cases q with
  | row xs => simp only [inn, parts, List.length_cons] at h ⊢; omega
  | inp xs tl => simp only [inn, parts, List.length_cons, List.length_append] at h ⊢; omega
  | _ => simp [inn]
theorem tin_flat : ∀ l : List P, (l.flatMap fun q => (inn q).flatMap one1).length ≤ (pres l).length
  | [] => by simp
  | q :: r => by
    have a := flat_one (inn q)
    have b := inn_len q
    have c := tin_flat r
    rw [List.flatMap_cons, List.length_append]
    simp only [pres, List.length_append]
    omega
theorem tin_len (p : P) : (tin p).length ≤ (pre p).length := by
  have h := tin_flat (argP p)
  unfold tin
  have e : (pres (argP p)).length ≤ (pre p).length := by
    cases p <;> simp [argP, pre, pres]
  omega
theorem flat_take {f : P → List P} {l : List P} {i : Nat} : ((l.take i).flatMap f).length ≤ (l.flatMap f).length := by
  have := congrArg (fun m : List P => (m.flatMap f).length) (List.take_append_drop i l)
  simp only [List.flatMap_append, List.length_append] at this
  omega
end Gd

namespace Gd
open PySem PySem.Spec PyProof.Rows L2
/-! ### the terms in a term -/
theorem Cd.in_dots {k dp wt : Nat} {t : P} (h : Cd k dp wt (.dots t)) : Cd 0 dp wt t := by
  obtain ⟨h1, h2, h3, h4, h5⟩ := h
  simp only [isK] at h1
  simp only [enc, PyData.canLay0, PyData.canLayAll0, Bool.and_eq_true] at h2
  simp only [enc, PyData.depth, PyData.depthAll] at h3
  simp only [enc, kq_tup, kqs, Bool.and_eq_true] at h4
  simp only [enc, kw, kws] at h5
  exact ⟨h1.2, h2.2.1, by omega, h4.2.2.1, by omega⟩
theorem Cd.item {dp wt : Nat} {x t : P} (h : Cd 2 dp wt x) (ht : t ∈ one1 x) : Cd 0 dp wt t := by
  have hi := h.is
  cases x with
  | dots s => simp only [one1, List.mem_singleton] at ht; subst ht; exact h.in_dots
  | star n => exact (List.not_mem_nil ht).elim
  | row xs => simp [isK] at hi
  | inp xs tl => simp [isK] at hi
  | tail s => simp [isK] at hi
  | use n vs => simp only [one1, List.mem_singleton] at ht; subst ht; exact ⟨by simp only [isK] at hi ⊢; exact ⟨by first | exact .inl rfl | simp, hi.2⟩, h.lay, h.dep, h.bar, h.wgt⟩
  | sig i r => simp only [one1, List.mem_singleton] at ht; subst ht; exact ⟨by simp only [isK] at hi ⊢; exact ⟨by first | exact .inl rfl | simp, hi.2⟩, h.lay, h.dep, h.bar, h.wgt⟩
  | uni ms => simp only [one1, List.mem_singleton] at ht; subst ht; exact ⟨by simp only [isK] at hi ⊢; exact ⟨by first | exact .inl rfl | simp, hi.2⟩, h.lay, h.dep, h.bar, h.wgt⟩
theorem kw_in {x : P} {l : List P} (h : x ∈ l) : kw (enc x) ≤ kws (encs l) := by
  induction l with
  | nil => exact (List.not_mem_nil h).elim
  | cons a r ih =>
    simp only [encs, kws]
    rcases List.mem_cons.mp h with rfl | h
    · omega
    · have := ih h; omega
theorem Cd.arg {j dp wt : Nat} {q t : P} (h : Cd j dp wt q) (hj : j ≠ 2) (ht : t ∈ (inn q).flatMap one1) : Cd 0 dp wt t := by
  have hi := h.is
  obtain ⟨x, hx, hy⟩ := List.mem_flatMap.mp ht
  cases q with
  | row xs =>
    obtain ⟨a, b, c⟩ := h.in_row
    have := kw_in hx
    exact ((c x hx).item hy).mono (by omega) (by simp only [inn] at this; omega)
  | inp xs tl =>
    obtain ⟨a, b, _, c⟩ := h.in_inp
    have := kw_in hx
    exact ((c x hx).item hy).mono (by omega) (by simp only [inn] at this; omega)
  | dots s => simp only [isK] at hi; exact absurd hi.1 hj
  | star n => simp only [isK] at hi; exact absurd hi.1 hj
  | tail s => simp [isK] at hi
  | use n vs =>
    simp only [inn, List.mem_singleton] at hx; subst hx
    simp only [one1, List.mem_singleton] at hy; subst hy; exact ⟨by simp only [isK] at hi ⊢; exact ⟨by first | exact .inl rfl | simp, hi.2⟩, h.lay, h.dep, h.bar, h.wgt⟩
  | sig i r =>
    simp only [inn, List.mem_singleton] at hx; subst hx
    simp only [one1, List.mem_singleton] at hy; subst hy; exact ⟨by simp only [isK] at hi ⊢; exact ⟨by first | exact .inl rfl | simp, hi.2⟩, h.lay, h.dep, h.bar, h.wgt⟩
  | uni ms =>
    simp only [inn, List.mem_singleton] at hx; subst hx
    simp only [one1, List.mem_singleton] at hy; subst hy; exact ⟨by simp only [isK] at hi ⊢; exact ⟨by first | exact .inl rfl | simp, hi.2⟩, h.lay, h.dep, h.bar, h.wgt⟩
theorem Cd.tin {dp wt : Nat} {p t : P} (h : Cd 0 dp wt p) (ht : t ∈ tin p) : Cd 0 dp wt t := by
  have hi := h.is
  obtain ⟨q, hq, hu⟩ := List.mem_flatMap.mp ht
  clear ht
  cases p with
  | use n vs =>
    obtain ⟨_, b, c⟩ := h.in_use
    have := kw_in (l := vs) hq
    exact ((c q hq).1.arg (by decide) hu).mono (by omega) (by omega)
  | sig i r =>
    obtain ⟨b, c, d, _⟩ := h.in_sig
    rcases List.mem_cons.mp hq with rfl | hq
    · exact (c.arg (by decide) hu).mono (by omega) (by omega)
    · rw [List.mem_singleton.mp hq] at hu; exact (d.arg (by decide) hu).mono (by omega) (by omega)
  | uni ms =>
    obtain ⟨b, _, _, c⟩ := h.in_uni
    have := kw_in (l := ms) hq
    exact ((c q hq).arg (by decide) hu).mono (by omega) (by omega)
  | _ => exact (List.not_mem_nil hq).elim
theorem Cd.argw {dp wt : Nat} {p q : P} (h : Cd 0 dp wt p) (hq : q ∈ argP p) : kw (enc q) ≤ wt := by
  have hi := h.is
  cases p with
  | use n vs =>
    obtain ⟨_, b, c⟩ := h.in_use
    have := kw_in (l := vs) hq
    omega
  | sig i r =>
    obtain ⟨b, c, d, _⟩ := h.in_sig
    rcases List.mem_cons.mp hq with rfl | hq
    · omega
    · rw [List.mem_singleton.mp hq]; omega
  | uni ms =>
    obtain ⟨b, _, _, c⟩ := h.in_uni
    have := kw_in (l := ms) hq
    omega
  | _ => exact (List.not_mem_nil hq).elim
/-- a list of terms -/
def Got (H : Hp) (s : Addr) (ps : List P) : Prop := ∃ xs, H s = some (.lst xs) ∧ Das H xs (encs ps) ∧ ∀ p ∈ ps, Cd 0 40 90000 p
theorem Got.up {H H' : Hp} {s : Addr} {ps : List P} (h : Got H s ps) (u : Up H H') : Got H' s ps := by
  obtain ⟨xs, a, b, c⟩ := h
  exact ⟨xs, u _ _ a, b.up u, c⟩
theorem Got.mv {H H' : Hp} {s b : Addr} {ps : List P} (h : Got H s ps) (hb : Tk H H') (n : s ≠ b) (m : Mv b H H') : Got H' s ps := by
  obtain ⟨xs, a, c, d⟩ := h
  exact ⟨xs, m _ _ n a, c.tk hb, d⟩
theorem Got.snoc {H : Hp} {s : Addr} {xs : List V} {ps : List P} (a : H s = some (.lst xs)) (b : Das H xs (encs ps)) (c : ∀ p ∈ ps, Cd 0 40 90000 p) : Got H s ps := ⟨xs, a, b, c⟩
theorem das_at {H : Hp} {xs : List V} {ps : List P} {i : Nat} {x : V} (h : Das H xs (encs ps)) (e : xs[i]? = some x) : ∃ p, ps[i]? = some p ∧ Da H x (enc p) := by
  obtain ⟨d, hd, dd⟩ := h.at e
  rw [encs_map, List.getElem?_map] at hd
  obtain ⟨p, hp, rfl⟩ := Option.map_eq_some_iff.mp hd
  exact ⟨p, hp, dd⟩
theorem das_len {H : Hp} {xs : List V} {ps : List P} (h : Das H xs (encs ps)) : xs.length = ps.length := by
  have := h.length
  rwa [encs_map, List.length_map] at this
theorem tin_keys {p : P} : decide (kc p ∈ (tin p).map kc) = false := by
  refine decide_eq_false fun h => ?_
  obtain ⟨t, ht, e⟩ := List.mem_map.mp h
  have := tin_lt ht
  rw [e] at this
  omega
/-! ### keys have small signs -/
theorem sok_app {a b : Str} (ha : PyData.strOk a = true) (hb : PyData.strOk b = true) : PyData.strOk (a ++ b) = true := by
  unfold PyData.strOk at *
  show (a.cps ++ b.cps).all _ = true
  rw [Array.all_append, ha, hb]
  rfl
theorem sok_join {z : Str} (hz : PyData.strOk z = true) : ∀ ks : List Str, (∀ k ∈ ks, PyData.strOk k = true) → PyData.strOk (Txt.join z ks) = true := by
  intro ks
  rw [TL.join_eq]
  induction ks with
  | nil => intro _; unfold Str.join; decide +kernel
  | cons x r ih =>
    intro h
    cases r with
    | nil => exact h x List.mem_cons_self
    | cons y r => exact sok_app (sok_app (h x List.mem_cons_self) hz) (ih fun k hk => h k (List.mem_cons_of_mem _ hk))
theorem sok_key {a : Str} {ks : List Str} (ha : PyData.strOk a = true) (h : ∀ k ∈ ks, PyData.strOk k = true) : PyData.strOk (a ++ ("[" : Str) ++ Txt.join ("," : Str) ks ++ ("]" : Str)) = true :=
  sok_app (sok_app (sok_app ha (by decide +kernel)) (sok_join (by decide +kernel) ks h)) (by decide +kernel)
theorem sok_tail {tl : Option Str} (h : tlok tl) : ∀ k ∈ tlk tl, PyData.strOk k = true := by
  intro k hk
  cases tl with
  | none => simp [tlk] at hk
  | some s =>
    simp only [tlk, List.mem_singleton] at hk
    subst hk
    rcases h with rfl | h
    · decide +kernel
    · exact sok_app (by decide +kernel) (good_lay h)
mutual
theorem kc_sok : ∀ (p : P) (k : Nat), isK p k → PyData.strOk (kc p) = true
  | .use n vs, k, h => by simp only [isK] at h; rw [kc]; exact sok_key (good_lay h.2.1) (kcs_sok vs 1 h.2.2)
  | .sig i r, k, h => by
    simp only [isK] at h; rw [kc.eq_2]
    refine sok_key (by decide +kernel) fun k hk => ?_
    rcases List.mem_cons.mp hk with rfl | hk
    · exact kc_sok i 3 h.2.1
    · rw [List.mem_singleton.mp hk]; exact kc_sok r 0 h.2.2
  | .uni ms, k, h => by simp only [isK] at h; rw [kc.eq_3]; exact sok_key (by decide +kernel) fun k hk => kcs_sok ms 4 h.2.2.2 k (mem_ssort.mp hk)
  | .row xs, k, h => by simp only [isK] at h; rw [kc.eq_4]; exact sok_key (by decide +kernel) (kcs_sok xs 2 h.2)
  | .inp xs tl, k, h => by
    simp only [isK] at h; rw [kc.eq_5]
    refine sok_key (by decide +kernel) fun k hk => ?_
    rcases List.mem_append.mp hk with hk | hk
    · exact kcs_sok xs 2 h.2.1 k hk
    · exact sok_tail h.2.2 k hk
  | .star n, k, h => by simp only [isK] at h; rw [kc.eq_6]; exact sok_app (by decide +kernel) (good_lay h.2)
  | .dots t, k, h => by
    simp only [isK] at h; rw [kc.eq_7]
    refine sok_key (by decide +kernel) fun k hk => ?_
    rw [List.mem_singleton.mp hk]; exact kc_sok t 0 h.2
  | .tail s, k, h => by simp [isK] at h
theorem kcs_sok : ∀ (l : List P) (k : Nat), isKs l k → ∀ x ∈ kcs l, PyData.strOk x = true
  | [], _, _, x, hx => (List.not_mem_nil hx).elim
  | p :: r, k, h, x, hx => by
    simp only [isKs] at h
    rcases List.mem_cons.mp hx with rfl | hx
    · exact kc_sok p k h.1
    · exact kcs_sok r k h.2 x hx
end
theorem txt_lay : ∀ {l : List Str}, (∀ x ∈ l, PyData.strOk x = true) → PyData.canLayAll0 (l.map PyData.str) = true ∧ PyData.depthAll (l.map PyData.str) = 0
  | [], _ => ⟨rfl, rfl⟩
  | x :: r, h => by
    obtain ⟨a, b⟩ := txt_lay fun y hy => h y (List.mem_cons_of_mem x hy)
    simp [PyData.canLayAll0, PyData.canLay0, PyData.depthAll, PyData.depth, a, b, h x List.mem_cons_self]
theorem txt_eqv : ∀ (l m : List Str), PyData.eqvAll (l.map PyData.str) (m.map PyData.str) = decide (l = m)
  | [], [] => by simp [PyData.eqvAll]
  | [], _ :: _ => by simp [PyData.eqvAll]
  | _ :: _, [] => by simp [PyData.eqvAll]
  | x :: r, y :: s => by
    have := txt_eqv r s
    simp only [List.map_cons, PyData.eqvAll, PyData.eqv, this]
    by_cases c : x = y <;> simp [c]
section
variable {H : Hp} {Q : VK} {K : PySem.W.Frag}
theorem strs_dp : ∀ l : List Str, DpAll K H (l.map V.str) (l.map PyData.str)
  | [] => .nil
  | x :: r => .cons (.str x) (strs_dp r)
theorem r_eqTx {a b : Addr} {l m : List Str} (ha : H a = some (.lst (l.map V.str))) (hb : H b = some (.lst (m.map V.str))) (h1 : ∀ x ∈ l, PyData.strOk x = true) (h2 : ∀ x ∈ m, PyData.strOk x = true) (q : Q (.bl (decide (l = m))) H) : rEqD K (.ref a) (.ref b) H Q := by
  obtain ⟨a1, a2⟩ := txt_lay h1
  obtain ⟨b1, b2⟩ := txt_lay h2
  refine ⟨.list (l.map .str), .list (m.map .str), .lst (SqL.of ha) (strs_dp l), .lst (SqL.of hb) (strs_dp m), shaped_of (by simp [PyData.canLay0, a1]) (by simp [PyData.depth, a2]), shaped_of (by simp [PyData.canLay0, b1]) (by simp [PyData.depth, b2]), ?_⟩
  simp only [PyData.eqv, txt_eqv]
  exact q
theorem r_neTx {a b : Addr} {l m : List Str} (ha : H a = some (.lst (l.map V.str))) (hb : H b = some (.lst (m.map V.str))) (h1 : ∀ x ∈ l, PyData.strOk x = true) (h2 : ∀ x ∈ m, PyData.strOk x = true) (q : Q (.bl (!decide (l = m))) H) : rNeD K (.ref a) (.ref b) H Q := by
  obtain ⟨a1, a2⟩ := txt_lay h1
  obtain ⟨b1, b2⟩ := txt_lay h2
  refine ⟨.list (l.map .str), .list (m.map .str), .lst (SqL.of ha) (strs_dp l), .lst (SqL.of hb) (strs_dp m), shaped_of (by simp [PyData.canLay0, a1]) (by simp [PyData.depth, a2]), shaped_of (by simp [PyData.canLay0, b1]) (by simp [PyData.depth, b2]), ?_⟩
  simp only [PyData.eqv, txt_eqv]
  exact q
theorem r_catL {a b : Addr} {xs ys : List V} (ha : H a = some (.lst xs)) (hb : H b = some (.lst ys)) (hl : xs.length + ys.length ≤ 100000) (q : ∀ p H2, H p = none → Up H H2 → H2 p = some (.lst (xs ++ ys)) → Q (.ref p) H2) : rCat (.ref a) (.ref b) H Q :=
  ⟨a, b, xs, ys, rfl, rfl, ha, hb, by rw [sizeLine_eq]; omega, fun p hp => q p _ hp (Up.new hp) upd_same⟩
theorem r_slTo {l : Addr} {xs : List V} {k : Nat} (h : H l = some (.lst xs)) (q : ∀ p H2, H p = none → Up H H2 → H2 p = some (.lst (xs.take k)) → Q (.ref p) H2) : rSlL K (.ref l) none (some (k : Int)) H Q :=
  ⟨l, xs, rfl, SqL.of h, fun p hp => by rw [cut_to]; exact q p _ hp (Up.new hp) upd_same⟩
end
end Gd

namespace Gd
open PySem PySem.Spec PyProof.Rows L2
/-! ### defs with *args -/
def FS (P : Program) (w : World) (K : PySem.W.Frag) (mg : Str → Option Value) (base : Heap) (cx : CXT) (k : Nat) (f : Addr) (sp : Sp) : Prop :=
  ∀ (A : Around) (out : List Env) (s : Shared) (H : Hp) (us : List Value) (vs : List V) (Q : VK) (E : XK),
    A.guards = some [] → Room k A → Env0 P w K mg base A out s H → Vals vs us → sp vs H Q E → codeAny (model P w) A (.call (.ref f) ⟨us, []⟩) (CR cx out P w H s Q E) s
structure CalS (K : PySem.W.Frag) (mg : Str → Option Value) (x : Str) (f : Addr) : Prop where
  mg : mg x = some (.ref f)
  kp : PySem.W.keepIn K (.ref f) = true
section
variable {X : Cx} {cx : CXT} {k : Nat} {f : Addr} {sp : Sp} {E : XK} {x : Str} {p pos : Pos} {e : Expr} {es : List Expr} {t : TA}
theorem run_s {pins : List (Addr × Obj)} {σ : L2.St} {H : Hp} {s : Shared} {Q : VK} {us : List Value} {vs : List V}
    (F : FS X.prog X.w X.K X.mg X.base cx k f sp) (hg : X.A.guards = some []) (hr : Room k X.A) (hx : Passes cx X E)
    (I : Inv X pins σ H s) (r : Vals vs us) (h : sp vs H Q E) : wpAny (model X.prog X.w) X.A (call (.ref f) us) (EP X pins σ Q) X.xe s := by
  refine wpAny_call (codeAny_mono (F X.A X.stack s H us vs Q E hg hr I.env0 r h) fun res s2 hq => ?_)
  rcases res with er | fl
  · exact hx pins σ H s er s2 I hq
  · rcases fl with u | _ | _ | _
    all_goals first | exact I.after hq | exact hq.elim
theorem pe_s (C : CalS X.K X.mg x f) (F : FS X.prog X.w X.K X.mg X.base cx k f sp) (hg : X.A.guards = some []) (hr : Room k X.A) (hgl : Gl X x) (hx : Passes cx X E)
    (ha : PA X (e :: es) t) (hdb : (x == ("__debug__" : Str)) = false := by decide)
    (he : starEach (e :: es) X.env = (false, eval e X.env) :: starEach es X.env := by rfl)
    (hpl : (backTo pos (starEach es X.env)).any (·.1) = false := by rfl) :
    PE X (.Call (.Name x p) (e :: es) [] pos) (fun σ H Q => t σ H fun vs H1 => sp vs H1 Q E) := by
  refine ⟨fun pins s σ H Q I h => wpAny_Call_Name_kw (ld_glob I hgl C.mg ?_ hdb)⟩
  refine PySem.W.callWith_K (h₀ := X.base) I.ok.mod.kin C.kp ?_ he hpl
  exact thn (ha.run pos pins s σ H _ I h) fun us s1 ⟨vs, H1, I1, r, q⟩ => ⟨I1.kIn, run_s F hg hr hx I1 r q⟩
theorem pe_s1 {sp_ : Pos} {te : TE} (C : CalS X.K X.mg x f) (F : FS X.prog X.w X.K X.mg X.base cx k f sp) (hg : X.A.guards = some []) (hr : Room k X.A) (hgl : Gl X x) (hx : Passes cx X E) (he : PE X e te) (hd : (x == ("__debug__" : Str)) = false := by decide)
    (hst : starEach [.Starred e sp_] X.env = [(true, eval e X.env)] := by rfl) :
    PE X (.Call (.Name x p) [.Starred e sp_] [] pos) (fun σ H Q => te σ H fun y H1 => ∃ a xs, y = V.ref a ∧ (SqT X.K H1 a xs ∨ SqL X.K H1 a xs) ∧ sp xs H1 Q E) := by
  refine ⟨fun pins s σ H Q I h => ?_⟩
  refine wpAny_Call_Name_kw (ld_glob I hgl C.mg ?_ hd)
  refine PySem.W.callWith_S (h₀ := X.base) I.ok.mod.kin C.kp (thn (he.run pins s σ H _ I h) fun v s1 ⟨y, H1, I1, ry, a, xs, ey, hxs, q⟩ => ?_) hst
  subst ey
  obtain rfl : v = Value.ref a := ry
  exact StX.star_any I1 hxs fun us s2 I2 rv => ⟨I2.kIn, run_s F hg hr hx I2 rv q⟩
end
section
variable {P : Program} {w : World} {K : PySem.W.Frag} {mg : Str → Option Value} {base : Heap}
theorem okS {x qual : Str} {st : Stmt} {f : Addr} {fd : FuncData} {N : List Str} {pv : Str} {k : Nat} {sp : Sp} (F : Fun K x qual st f fd) (S : FnScope N [pv] (defScope st))
    (hb : ∀ (kV doc pm cdv ct : Value) (an : Option Addr) (rest : List Value), bindArgs (PySem.W.fnOf x qual (defArgs st) (defBody st) (defScope st) .none kV doc pm an cdv ct) ⟨rest, []⟩ = (newTuple rest >>= fun t => pure [(pv, t)]))
    (hbody : ∀ (cdv : Value) (A : Around) (out : List Env) (s : Shared) (H : Hp) (vs : List V) (Q : VK) (E : XK), (A.deeper (envOfC qual (defScope st) s.heap.objs.size f cdv)).guards = some [] → Room k (A.deeper (envOfC qual (defScope st) s.heap.objs.size f cdv)) → sp vs H Q E →
      ∃ t, PSs (cxOf CX0 P w K mg base N qual (defScope st) f cdv A out s H E).nox (defBody st) t ∧ t { nx := fun _ H' => Q .non H', rt := Q } (start N vs) H) :
    FS P w K mg base CX0 (k + 1) f (fun vs H Q E => vs.length ≤ sizeLine ∧ ∀ p, H p = Option.none → sp [V.ref p] (upd H p (.tup vs)) Q E) := by
  obtain ⟨oc, od, kV, doc, pm, an, cdv, ct, osl, rfl, lk, hcd⟩ := F.ex
  intro A outer s H us vs Q E hg hr e0 r hsp
  obtain ⟨hz, hq⟩ := hsp
  have hn : H s.heap.objs.size = Option.none := e0.hok.fresh (Nat.le_refl _)
  have hl2 : us.length ≤ sizeLine := by rw [← r.length]; exact hz
  refine StX.run_bnd lk hcd S hr e0 (G := fun xs H2 => ∃ p, H p = Option.none ∧ xs = [V.ref p] ∧ H2 = upd H p (.tup vs)) (fun A' Ex Q' h => ?_) fun s2 H2 xs ⟨p, hp, ex, eH⟩ hr' => ?_
  · rw [hb]
    refine wpAny_bind (wpAny_newTuple (wpAny_pure ?_) hl2)
    have new : ObjOk P w (upd H s.heap.objs.size (.tup vs)) (s.heap.push ({ cls := .type "tuple", data := .seq us.toArray } : Obj)) s.heap.objs.size (.tup vs) := ⟨hz, us, r, ⟨_, Heap.get?_push_size _ rfl, rfl, _, rfl⟩⟩
    have un := StX.un_laid (fs := frs outer) (s := s) (o := ({ cls := .type "tuple", data := .seq us.toArray } : Obj)) (u := .tup vs) hn
    exact h _ _ [V.ref s.heap.objs.size] [Value.ref s.heap.objs.size] (StX.env0_laid e0 new) un rfl (fun e s' z => False.elim z) (.cons rfl .nil) rfl ⟨_, hn, rfl, rfl⟩
  · subst ex eH
    obtain ⟨t, h, q⟩ := hbody cdv A outer s2 _ _ Q E hg hr' (hq p hp)
    exact ⟨t, h.nox, q⟩
end
/-! ### tuple(d.values()) -/
section
variable {prog : Program} {w : World} {A : Around} {E : Value → Shared → Prop} {s : Shared} {r d : Addr} {n : Nat} {Pv : Nat → Value → Prop} {OK : Heap → Prop}
theorem code_tuple_new_src {Q₁ : Value → Shared → Prop} (K : PySem.W.KdlSrc prog w "dict_values" r d n Pv OK) (hh : A.handled = none) (hok : OK s.heap) (hn : n ≤ sizeLine)
    (h : ∀ (h' : Heap) (tk : Nat) (acc : Array Value), (∀ b o, s.heap.get? b = some o → h'.get? b = some o) → ItemsOf Pv acc n →
      Q₁ (.ref h'.objs.size) { s with heap := h'.push { cls := .type "tuple", data := .seq acc }, toks := tk }) :
    codeAny (model prog w) A (.call (.builtin "tuple.__new__") ⟨[.type "tuple", .ref r], []⟩) (wants Q₁ E) s := by
  refine codeAny_of_tree ?_
  show wpAny _ A.in1 (do checkBuiltinCall "tuple.__new__" ⟨[.type "tuple", .ref r], []⟩; again (.builtin "tuple.__new__" ⟨[.type "tuple", .ref r], []⟩)) _ _ s
  refine wpAny_bind (wpAny_of_eq (F.newCall_tuple_1 _) (wpAny_pure ⟨plainId_quiet F.plain_tuple_new _, codeAny_builtin F.entry_tuple_new ?_⟩))
  rw [Around.under_plainId F.plain_tuple_new _]
  have hsub := sub_tuple_self
  have hinit := init_tuple_lookup
  have hmh := madeHere_tuple
  have hTI : s.TypeIs (.ref r) "dict_values" := K.type s hok
  have hh1 : A.in1.handled = none := hh
  wp_walk using wpAny_typeOf hTI, PySem.W.kdu_collect (A := A.in1) K hh1 hok hn
  intro h' tk acc hk hacc
  show wpAny _ _ (Builtin.Tuple.tupleExact acc.toList.toArray >>= fun v => ret v) _ _ _
  unfold Builtin.Tuple.tupleExact
  refine wpAny_bind (wpAny_newObj_type ?_ (by show acc.toList.toArray.size ≤ sizeLine; simp only [Array.toArray_toList]; rw [hacc.1]; omega))
  refine wpAny_pure ?_
  have e : acc.toList.toArray = acc := by simp
  rw [e]
  exact h h' tk acc hk hacc
theorem call_tuple_src {Q : Value → Shared → Prop} (K : PySem.W.KdlSrc prog w "dict_values" r d n Pv OK) (hh : A.handled = none) (hok : OK s.heap) (hn : n ≤ sizeLine)
    (hQ : ∀ (h' : Heap) (tk : Nat) (acc : Array Value), (∀ b o, s.heap.get? b = some o → h'.get? b = some o) → ItemsOf Pv acc n →
      Q (.ref h'.objs.size) { s with heap := h'.push { cls := .type "tuple", data := .seq acc }, toks := tk }) :
    wpAny (model prog w) A (call (.type "tuple") [.ref r]) Q E s := by
  refine callType_codes (Q₁ := fun obj s₁ => s₁.TypeIs obj "tuple" ∧ Q obj s₁) F.called_tuple (F.typeCall_tuple_1 _) F.entry_object_init
    (code_tuple_new_src (A := A.in1) K hh hok hn fun h' tk acc hk hacc => ⟨⟨_, Heap.get?_push_size _ rfl, rfl⟩, hQ h' tk acc hk hacc⟩) fun obj s₁ h₁ => ?_
  exact ⟨h₁.1, F.args_object_init_2 obj _, object_init_meets F.called_tuple.init.lookup F.called_tuple.made (by decide) prog w A.in1 _ s₁ ⟨h₁.1, rfl, h₁.2⟩⟩
end
def tTupVals (td : TE) : TE := fun σ H Q => td σ H fun x H1 => ∃ a kvs, x = V.ref a ∧ H1 a = some (.dK kvs) ∧ ∀ q, H1 q = none → Q (.ref q) (upd H1 q (.tup (kvs.map (·.2))))
section
variable {X : Cx} {o : Expr} {p pos apos mpos : Pos} {td : TE}
theorem pe_tupVals (hc : X.calm = true) (hg : Gl X "tuple") (hm : X.mg "tuple" = none) (hd : PE X o td) (hbase : attributeBase o "values" X.env (eval o X.env) = eval o X.env := by rfl) (hline : (apos.endLine == mpos.line) = true := by rfl)
    (hse : starEach [Expr.Call (.Attribute o "values" apos) [] [] mpos] X.env = [(false, eval (Expr.Call (.Attribute o "values" apos) [] [] mpos) X.env)] := by rfl) :
    PE X (.Call (.Name "tuple" p) [.Call (.Attribute o "values" apos) [] [] mpos] [] pos) (tTupVals td) := by
  refine ⟨fun pins s σ H Q I h => ?_⟩
  refine Call_ (ld_blt I hg hm boot_tuple (PyProof.Rows.callWith_type1 (args_cons ?_ hse) hse))
  refine wpAny_Call_method0_late hbase hline (thn (hd.run pins s σ H _ I h) fun v s1 ⟨x, H1, I1, r1, a, kvs, ex, ha, q⟩ => ?_)
  subst ex
  obtain rfl : v = Value.ref a := r1
  obtain ⟨hz, hsys, vs, rel, dof⟩ := dk_of I1.hok ha
  obtain ⟨ep, dat⟩ := dof.dictAt
  have dat' := dat
  obtain ⟨ob, es, ho, ex, hdat, hko, hpr, hnd⟩ := dat'
  refine ⟨"dict", "dict.values", F.plainAttrs_dict, F.slot_dict_values, F.type_dict_values, ⟨ob, ho, ex.1⟩, fun b e => ?_, Calls.callWith_builtin rfl (PySem.evalArgs_none ?_)⟩
  · cases e
    exact ⟨ob, ho, ex.2.1⟩
  refine call_meetsIn F.slot_dict_values ⟨ob, ho, ex.1⟩ F.entry_dict_values (F.args_dict_values_1 _) (meets_dict_values (mixKind X.prog X.w) a hsys) ⟨⟨vs, dof⟩, ?_⟩
  have k1 : ∀ b u, s1.heap.get? b = some u → (s1.heap.push { cls := .type "dict_values", data := .fields #[.ref a] }).get? b = some u := fun b u e => Heap.get?_push_of_some _ e
  have dat1 : (s1.heap.push { cls := .type "dict_values", data := .fields #[.ref a] }).DictAt (mixKind X.prog X.w) a vs ep := dat.keep k1
  have hl : vs.length = kvs.length := (KV.length rel).symm
  refine args_nil ?_
  refine call_tuple_src (n := vs.length) (PySem.W.kdl_values (knd := mixKind X.prog X.w) (kvs := vs) (r := s1.heap.objs.size) (d := a) (ep := ep)) (I.ok.hd hc) ⟨⟨_, Heap.get?_push_size _ rfl, rfl, rfl⟩, dat1⟩ (by omega) fun h' tk acc hk hacc => ?_
  have I2 : Inv X pins σ H1 { s1 with heap := h', toks := tk } := I1.kept (t' := tk) fun b u e => hk b u (k1 b u e)
  have rv : Vals (kvs.map (·.2)) acc.toList := by
    refine vals_of_at (by rw [List.length_map]; show kvs.length = acc.size; rw [hacc.1, hl]) fun j y u h1 h2 => ?_
    obtain ⟨k, hkv⟩ := hacc.2 j u (by rw [← h2, Array.getElem?_toList])
    obtain ⟨z, h3, h4⟩ := KV.at' rel hkv
    rw [List.getElem?_map, h3] at h1
    obtain rfl := Option.some.inj h1
    exact h4
  exact ⟨.ref h'.objs.size, upd H1 h'.objs.size (.tup (kvs.map (·.2))), I2.laid (t' := tk) (fun c o e => Heap.get?_push_of_some _ e) (Nat.le_refl _) (show ObjOk X.prog X.w _ _ _ (.tup _) from ⟨by rw [List.length_map]; exact hz, acc.toList, rv, by rw [Array.toArray_toList]; exact IsTup.new _ _⟩), rfl, q _ (I2.hok.fresh (Nat.le_refl _))⟩
end
end Gd

namespace Gd
open PySem PySem.Spec PyProof.Rows L2
/-! ### repr of a term -/
theorem join_sum : ∀ ts : List Str, (Str.join (", " : Str) ts).length ≤ (ts.map (·.length)).sum + 2 * ts.length := by
  intro ts
  have h := slen_join (", " : Str) ts
  have e : (", " : Str).length = 2 := by decide +kernel
  rw [TL.join_eq, e] at h
  omega
theorem tupText_le (ts : List Str) : (tupleText ts).length ≤ (ts.map (·.length)).sum + 2 * ts.length + 3 := by
  have h := join_sum ts
  have e1 : ("(" : Str).length = 1 := by decide +kernel
  have e2 : (",)" : Str).length = 2 := by decide +kernel
  have e3 : (")" : Str).length = 1 := by decide +kernel
  unfold tupleText
  rw [slen_app, slen_app, e1]
  split <;> omega
mutual
theorem Da.shown {H : Hp} : ∀ {v : V} {d : PyData}, Da H v d → d.canLay0 = true → d.showable = true ∧ d.shown.length ≤ kw d
  | _, _, .non, _ => by
    have e : ("None" : Str).length = 4 := by decide +kernel
    simp only [PyData.showable, PyData.shown, kw, e]
    exact ⟨trivial, by omega⟩
  | _, _, .str x, h => by
    simp only [PyData.canLay0] at h
    have := repr_le h
    simp only [PyData.showable, PyData.shown, kw]
    exact ⟨trivial, by omega⟩
  | _, _, .tup (ds := ds) _ t, h => by
    simp only [PyData.canLay0] at h
    obtain ⟨h1, h2⟩ := Das.shown t h
    simp only [PyData.showable, PyData.shown, kw]
    exact ⟨h1, by have := tupText_le (PyData.shownAll ds); omega⟩
theorem Das.shown {H : Hp} : ∀ {vs : List V} {ds : List PyData}, Das H vs ds → PyData.canLayAll0 ds = true → PyData.showableAll ds = true ∧ ((PyData.shownAll ds).map (·.length)).sum + 2 * (PyData.shownAll ds).length ≤ kws ds
  | _, _, .nil, _ => by simp [PyData.showableAll, PyData.shownAll, kws]
  | _, _, .cons h t, c => by
    simp only [PyData.canLayAll0, Bool.and_eq_true] at c
    obtain ⟨a1, a2⟩ := Da.shown h c.1
    obtain ⟨b1, b2⟩ := Das.shown t c.2
    simp only [PyData.showableAll, PyData.shownAll, kws, List.map_cons, List.sum_cons, List.length_cons, a1, b1, Bool.and_self]
    exact ⟨trivial, by omega⟩
end
section
variable {H : Hp} {Q : VK} {K : PySem.W.Frag}
theorem r_reprD {v : V} {d : PyData} (h : Da H v d) (c : d.canLay0 = true) (l : d.depth ≤ 180) (w : kw d ≤ 1000000) (q : Q (.str d.shown) H) : rRepr K [v] H Q := by
  obtain ⟨a, b⟩ := h.shown c
  exact ⟨v, d, rfl, h.dp, a, l, by rw [sizeLine_eq]; omega, q⟩
end
/-! ### joining -/
theorem fold_id : ∀ (l acc : List P), ((acc ++ l).map lkP).Nodup → l.foldl addP acc = acc ++ l
  | [], acc, _ => by simp
  | p :: r, acc, h => by
    have h1 : lkP p ∉ acc.map lkP := by
      intro hm
      rw [List.map_append, List.map_cons] at h
      exact (List.nodup_append.mp h).2.2 _ hm _ List.mem_cons_self rfl
    rw [List.foldl_cons, show addP acc p = acc ++ [p] from if_neg h1, fold_id r (acc ++ [p]) (by rw [List.append_assoc]; exact h), List.append_assoc]
    rfl
theorem fold_skip : ∀ (l acc : List P), (∀ m ∈ l, lkP m ∈ acc.map lkP) → l.foldl addP acc = acc
  | [], acc, _ => rfl
  | p :: r, acc, h => by
    rw [List.foldl_cons, show addP acc p = acc from if_pos (h p List.mem_cons_self)]
    exact fold_skip r acc fun m hm => h m (List.mem_cons_of_mem _ hm)
theorem memb_nd {p : P} (h : isK p 0) : ((memb p).map lkP).Nodup := by
  cases p with
  | uni ms => simp only [isK] at h; exact h.2.2.1
  | _ => simp [memb]
theorem foundP_one {p : P} (h : isK p 0) : foundP [p] = memb p := by
  unfold foundP
  rw [List.flatMap_cons, List.flatMap_nil, List.append_nil, fold_id _ _ (by rw [List.nil_append]; exact memb_nd h), List.nil_append]
def asP (l : List P) : P := match l with
  | [p] => p
  | l => .uni l
theorem asP_memb {p : P} (h : isK p 0) : asP (memb p) = p := by
  cases p with
  | uni ms =>
    simp only [isK] at h
    obtain ⟨_, h2, _⟩ := h
    show asP ms = .uni ms
    match ms, h2 with
    | _ :: _ :: _, _ => rfl
  | _ => rfl
theorem ljoin_asP (ps : List P) : ljoin ps = asP (foundP ps) := rfl
theorem ljoin_one {p : P} (h : isK p 0) : ljoin [p] = p := by rw [ljoin_asP, foundP_one h, asP_memb h]
theorem lk_memb {p q : P} (hp : isK p 0) (hq : isK q 0) (e : lkP q = lkP p) : ∀ m ∈ memb q, lkP m ∈ (memb p).map lkP := by
  have s := (faith_lk q p 0 0 hq hp).mp e
  intro m hm
  cases q with
  | uni ns =>
    cases p with
    | uni ms => exact s.mem_iff.mp (List.mem_map.mpr ⟨m, hm, rfl⟩)
    | _ => exact s.elim
  | use n vs =>
    cases p with
    | uni ms => exact s.elim
    | _ => rw [List.mem_singleton.mp hm, e]; simp [memb]
  | sig i r =>
    cases p with
    | uni ms => exact s.elim
    | _ => rw [List.mem_singleton.mp hm, e]; simp [memb]
  | _ => simp [isK] at hq
theorem ljoin_two {p q : P} (hp : isK p 0) (hq : isK q 0) (e : lkP q = lkP p) : ljoin [p, q] = p := by
  have h : foundP [p, q] = memb p := by
    have h1 := foundP_one hp
    unfold foundP at h1 ⊢
    rw [List.flatMap_cons, List.flatMap_nil, List.append_nil] at h1
    rw [List.flatMap_cons, List.flatMap_cons, List.flatMap_nil, List.append_nil, List.foldl_append, h1]
    exact fold_skip _ _ (lk_memb hp hq e)
  rw [ljoin_asP, h, asP_memb hp]
/-- the program's key tells the same when members are left out -/
theorem kc_mem {acc : List P} {m : P} (ha : ∀ p ∈ acc, isK p 4) (hm : isK m 4) : kc m ∈ acc.map kc ↔ lkP m ∈ acc.map lkP := by
  constructor
  · intro h
    obtain ⟨p, hp, e⟩ := List.mem_map.mp h
    exact List.mem_map.mpr ⟨p, hp, (kc_lk (ha p hp) hm).mp e⟩
  · intro h
    obtain ⟨p, hp, e⟩ := List.mem_map.mp h
    exact List.mem_map.mpr ⟨p, hp, (kc_lk (ha p hp) hm).mpr e⟩
/-- a dict of members by their keys -/
structure Mb (H : Hp) (kvs : List (Key × V)) (fs : List P) : Prop where
  ks : kvs.map (·.1) = fs.map fun p => (Sum.inr (kc p) : Key)
  vs : Das H (kvs.map (·.2)) (encs fs)
theorem Mb.up {H H' : Hp} {kvs : List (Key × V)} {fs : List P} (h : Mb H kvs fs) (k : Tk H H') : Mb H' kvs fs := ⟨h.ks, h.vs.tk k⟩
theorem Mb.len {H : Hp} {kvs : List (Key × V)} {fs : List P} (h : Mb H kvs fs) : kvs.length = fs.length := by
  have := congrArg List.length h.ks
  simpa using this
theorem Mb.no {H : Hp} {kvs : List (Key × V)} {fs : List P} {m : P} (h : Mb H kvs fs) (hf : ∀ p ∈ fs, isK p 4) (hm : isK m 4) (n : valV kvs (Sum.inr (kc m) : Key) = none) : addP fs m = fs ++ [m] := by
  refine if_neg fun c => ?_
  have c2 := (kc_mem hf hm).mpr c
  refine valV_not n ?_
  rw [h.ks]
  obtain ⟨p, hp, e⟩ := List.mem_map.mp c2
  exact List.mem_map.mpr ⟨p, hp, by rw [e]⟩
theorem Mb.yes {H : Hp} {kvs : List (Key × V)} {fs : List P} {m : P} {v : V} (h : Mb H kvs fs) (hf : ∀ p ∈ fs, isK p 4) (hm : isK m 4) (n : valV kvs (Sum.inr (kc m) : Key) = some v) : addP fs m = fs := by
  refine if_pos ?_
  refine (kc_mem hf hm).mp ?_
  have c := valV_in n
  rw [h.ks] at c
  obtain ⟨p, hp, e⟩ := List.mem_map.mp c
  exact List.mem_map.mpr ⟨p, hp, Sum.inr.inj e⟩
theorem Mb.put {H : Hp} {kvs : List (Key × V)} {fs : List P} {m : P} {v : V} (h : Mb H kvs fs) (d : Da H v (enc m)) (n : valV kvs (Sum.inr (kc m) : Key) = none) : Mb H (putK kvs (Sum.inr (kc m) : Key) v) (fs ++ [m]) := by
  rw [putK_new v n]
  refine ⟨?_, ?_⟩
  · rw [List.map_append, List.map_append, h.ks]; rfl
  · rw [List.map_append, encs_app]
    exact h.vs.app (.cons d .nil)
end Gd
namespace Gd
open PySem PySem.Spec PyProof.Rows L2
theorem fold_is {l : List P} (h : ∀ p ∈ l, isK p 4) : ∀ q ∈ l.foldl addP [], isK q 4 := fun q hq => by
  rcases fold_sub l [] hq with h1 | h1
  · exact (List.not_mem_nil h1).elim
  · exact h q h1
theorem dv_one {H : Hp} {ps : List P} (hl : ps.length = 1) {xs : List V} (d : Das H xs (encs ps)) : ∃ v p, xs = [v] ∧ ps = [p] ∧ Da H v (enc p) := by
  obtain ⟨p, rfl⟩ := List.length_eq_one_iff.mp hl
  obtain ⟨v, rfl, dv⟩ := d.one
  exact ⟨v, p, rfl, rfl, dv⟩
theorem flat_snoc {ps : List P} {i : Nat} {p : P} (h : ps[i]? = some p) : (ps.take (i + 1)).flatMap memb = (ps.take i).flatMap memb ++ memb p := by
  rw [List.take_add_one, h, Option.toList_some, List.flatMap_append, List.flatMap_cons, List.flatMap_nil, List.append_nil]
end Gd
namespace Gd
open PySem PySem.Spec PyProof.Rows L2
section
variable {σ : L2.St} {H : Hp} {Q : VK} {td ty tx : TE}
theorem r_dnew (q : ∀ p H2, H p = none → Up H H2 → H2 p = some (.dK []) → Q (.ref p) H2) : tDNewK σ H Q := fun p hp => q p _ hp (Up.new hp) upd_same
theorem r_dsd (h : td σ H fun x H1 => ∃ a, x = .ref a ∧ IsD H1 a ∧ ty σ H1 fun y H2 => tx σ H2 fun z H3 => ∃ (kvs : List (Key × V)) (k : Key), H3 a = some (.dK kvs) ∧ y = kV k ∧ kvs.length < sizeLine ∧
  (∀ v, valV kvs k = some v → Q v H3) ∧ (valV kvs k = none → Q z (upd H3 a (.dK (putK kvs k z))))) : tDSetd td ty tx σ H Q := h
theorem r_tvs (h : td σ H fun x H1 => ∃ a kvs, x = V.ref a ∧ H1 a = some (.dK kvs) ∧ ∀ q, H1 q = none → Q (.ref q) (upd H1 q (.tup (kvs.map (·.2))))) : tTupVals td σ H Q := h
theorem isD_of {H : Hp} {a : Addr} {kvs : List (Key × V)} (h : H a = some (.dK kvs)) : IsD H a := .inl ⟨kvs, .inl h⟩
end
end Gd
namespace Gd
open PySem PySem.Spec PyProof.Rows L2
/-! ### lists of terms with few members -/
structure Tj (p : P) : Prop where
  cd : Cd 0 20 3000 p
  mem : (memb p).length ≤ 9
theorem Tj.cd0 {p : P} (h : Tj p) : Cd 0 40 90000 p := h.cd.mono (by omega) (by omega)
theorem mem_len {p q : P} (hp : isK p 0) (hq : isK q 0) (e : lkP q = lkP p) : (memb q).length = (memb p).length := by
  have s := (faith_lk q p 0 0 hq hp).mp e
  cases q with
  | uni ns =>
    cases p with
    | uni ms => have := s.length_eq; simpa [memb] using this
    | _ => exact s.elim
  | use n vs =>
    cases p with
    | uni ms => exact s.elim
    | _ => rfl
  | sig i r =>
    cases p with
    | uni ms => exact s.elim
    | _ => rfl
  | _ => simp [isK] at hq
theorem Mx.cd {k dp wt : Nat} {p q : P} (h : Mx p q) (c : Cd k dp wt p) : Cd k dp wt q := ⟨h.is k c.is, by rw [h.lay]; exact c.lay, by rw [h.dep]; exact c.dep, by rw [h.bar]; exact c.bar, by rw [h.wgt]; exact c.wgt⟩
theorem Mx.tj {p q : P} (h : Mx p q) (c : Tj p) : Tj q := ⟨h.cd c.cd, by rw [mem_len c.cd.is (h.is 0 c.cd.is) h.lk]; exact c.mem⟩
theorem TmD.tj {p : P} (h : TmD 2 p) : Tj p := ⟨h.cd.mono (by decide) (by simp only [Wd]; omega), Nat.le_trans h.mem (by decide)⟩
theorem flat_mem : ∀ {ps : List P}, (∀ p ∈ ps, Tj p) → (ps.flatMap memb).length ≤ 9 * ps.length
  | [], _ => by simp
  | p :: r, h => by
    have h1 := (h p List.mem_cons_self).mem
    have h2 := flat_mem (ps := r) fun q hq => h q (List.mem_cons_of_mem _ hq)
    rw [List.flatMap_cons, List.length_append, List.length_cons]
    omega
theorem flat_kws : ∀ {ps : List P}, (∀ p ∈ ps, Tj p) → kws (encs (ps.flatMap memb)) ≤ 3005 * ps.length
  | [], _ => by simp [encs, kws]
  | p :: r, h => by
    have h1 := (h p List.mem_cons_self).cd.wgt
    have h3 := memb_kws' (p := p)
    have h2 := flat_kws (ps := r) fun q hq => h q (List.mem_cons_of_mem _ hq)
    rw [List.flatMap_cons, encs_app, kws_app, List.length_cons]
    omega
def GotR (R : P → Prop) (H : Hp) (s : Addr) (ps : List P) : Prop := ∃ xs, H s = some (.lst xs) ∧ Das H xs (encs ps) ∧ ∀ p ∈ ps, R p
theorem GotR.up {R : P → Prop} {H H' : Hp} {s : Addr} {ps : List P} (h : GotR R H s ps) (u : Up H H') : GotR R H' s ps := by
  obtain ⟨xs, a, b, c⟩ := h
  exact ⟨xs, u _ _ a, b.up u, c⟩
theorem GotR.mv {R : P → Prop} {H H' : Hp} {s b : Addr} {ps : List P} (h : GotR R H s ps) (hb : Tk H H') (n : s ≠ b) (m : Mv b H H') : GotR R H' s ps := by
  obtain ⟨xs, a, c, d⟩ := h
  exact ⟨xs, m _ _ n a, c.tk hb, d⟩
theorem lkP_use {n m : Str} (hn : good n) (hm : good m) (e : lkP (.use n []) = lkP (.use m [])) : n = m := by
  have kn : isK (.use n []) 0 := by simp only [isK, isKs]; exact ⟨by first | exact .inl rfl | simp, hn, trivial⟩
  have km : isK (.use m []) 0 := by simp only [isK, isKs]; exact ⟨by first | exact .inl rfl | simp, hm, trivial⟩
  exact ((faith_lk _ _ 0 0 kn km).mp e).1
end Gd
namespace Gd
open PySem PySem.Spec PyProof.Rows L2
section
variable {H : Hp} {Q : VK} {K : PySem.W.Frag}
theorem r_neSelf {x y : V} {d : PyData} (hx : Da H x d) (hy : Da H y d) (c : d.canLay0 = true) (l : d.depth ≤ 64) (q : Q (.bl false) H) : rNeD K x y H Q :=
  r_neD hx hy c l c l (by rw [SeqAt.eqv_refl d c]; exact q)
theorem r_eqSelf {x y : V} {d : PyData} (hx : Da H x d) (hy : Da H y d) (c : d.canLay0 = true) (l : d.depth ≤ 64) (q : Q (.bl true) H) : rEqD K x y H Q :=
  r_eqD hx hy c l c l (by rw [SeqAt.eqv_refl d c]; exact q)
end
theorem tj_pair {x y : Str} (hx : good x) (hy : good y) (n : x ≠ y) : Tj (.uni [.use x [], .use y []]) := by
  have ca : ∀ x : Str, good x → Cd 4 2 100 (.use x []) := fun x hx => (Cd.use (k := 4) (dp := 0) (s := 0) (vs := []) (.inr rfl) hx no_all (by simp [encs, kws])).mono (by omega) (by omega)
  refine ⟨(Cd.uni (dp := 2) (s := 210) (fun v hv => ?_) (by simp) (by simp) ?_ ?_).mono (by omega) (by omega), by simp [memb]⟩
  · rcases List.mem_cons.mp hv with rfl | hv
    · exact ⟨_, ca x hx⟩
    · rw [List.mem_singleton.mp hv]; exact ⟨_, ca y hy⟩
  · simp only [List.map_cons, List.map_nil, List.nodup_cons, List.mem_singleton, List.not_mem_nil, not_false_eq_true, List.nodup_nil, and_true]
    exact fun e => n (lkP_use hx hy e)
  · have := (ca x hx).wgt
    have := (ca y hy).wgt
    simp only [encs, kws]
    omega
theorem ljoin_cd {ps : List P} (h : ∀ p ∈ ps, Tj p) (h1 : 1 ≤ ps.length) (h5 : ps.length ≤ 6) : Cd 0 22 20000 (ljoin ps) := by
  have a := flat_mem h
  have b := flat_kws h
  have hn : ps ≠ [] := fun e => by rw [e] at h1; exact absurd h1 (by simp)
  have f1 : 1 ≤ (foundP ps).length := by
    cases ps with
    | nil => exact absurd rfl hn
    | cons p r =>
      unfold foundP
      rw [List.flatMap_cons, List.foldl_append]
      cases hm : memb p with
      | nil => exact absurd hm (memb_ne' (h p List.mem_cons_self).cd.is)
      | cons m ms =>
        have e : addP [] m = [m] := by simp [addP]
        rw [List.foldl_cons, e]
        have h1 := fold_ge ms [m]
        have h2 := fold_ge (r.flatMap memb) (ms.foldl addP [m])
        simp only [List.length_singleton] at h1
        omega
  exact (ljoin_Cd (dp := 20) (s := 18100) (fun p hp => ⟨_, (h p hp).cd⟩) (by omega) (by omega) f1).mono (by omega) (by omega)
end Gd

namespace Gd
open PySem PySem.Spec PyProof.Rows L2
/-! ### d.setdefault(t, x), the keys tuples -/
section
variable {X : Cx} {pins : List (Addr × Obj)} {σ : L2.St} {H : Hp} {s : Shared} {a b : Addr} {u r : Value} {d : V} {k : List Key} {A : Around} {E : Value → Shared → Prop}
theorem d_setdT {kvs : List (List Key × V)} {Q : Value → Shared → Prop} (hu : A.units + 1 < cLine) (I : Inv X pins σ H s) (e : H a = some (.dT kvs)) (eb : H b = some (.tup (k.map kV))) (rd : RelV d r) (hl : kvs.length < sizeLine)
    (h1 : ∀ v, valV kvs k = some v → ∀ (w' : Value) (s' : Shared), Inv X pins σ H s' → RelV v w' → Q w' s')
    (h2 : valV kvs k = none → ∀ (w' : Value) (s' : Shared), Inv X pins σ (upd H a (.dT (putK kvs k d))) s' → RelV d w' → Q w' s') :
    wpAny (model X.prog X.w) A (call (.builtin "dict.setdefault") [.ref a, .ref b, r]) Q E s := by
  obtain ⟨z, hd, xs, rel, dd⟩ := dt_of I.hok e
  have hz : xs.length ≤ sizeLine := by rw [← Paired.length rel]; exact z
  refine call_setdefault_heap (hsz := hz) (tupleKind_room_in1 hu) (key_of I.hok eb) hd dd (fun p hp => ?_) fun hn h' dd' hs => ?_
  · have q := rel.val k
    rw [hp] at q
    cases q0 : valV kvs k with
    | none => rw [q0] at q; exact (show False from q).elim
    | some v0 => rw [q0] at q; exact h1 v0 q0 _ _ (I.tok _) q
  · have q := rel.val k
    rw [hn] at q
    cases q0 : valV kvs k with
    | some v0 => rw [q0] at q; exact (show False from q).elim
    | none =>
      have hl2 : (putK kvs k d).length ≤ sizeLine := by have := length_putK kvs k d; omega
      obtain ⟨o, es, ep, hq, g2, g3, g4, _, g5⟩ := dd'
      refine h2 q0 _ _ (d_write (t' := s.toks + (tupleKind (mixKind X.prog X.w)).draws k) I (by rw [e]; exact True.intro) hs ⟨o, hq⟩ ⟨hl2, hd, _, (rel.put k eb rd).keeps fun c ys ec => ?_, o, es, ep, hq, g2, g3, g4, g5⟩) rd
      rw [upd_ne (ne_of ec e (fun z => nomatch z))]
      exact ec
end
def tDSetdT (td ty tx : TE) : TE := fun σ H Q => td σ H fun x H1 => ∃ a, x = .ref a ∧ IsD H1 a ∧ ty σ H1 fun y H2 => tx σ H2 fun z H3 => ∃ (kvs : List (List Key × V)) (k : List Key) (b : Addr),
  H3 a = some (.dT kvs) ∧ y = .ref b ∧ H3 b = some (.tup (k.map kV)) ∧ kvs.length < sizeLine ∧ (∀ v, valV kvs k = some v → Q v H3) ∧ (valV kvs k = none → Q z (upd H3 a (.dT (putK kvs k z))))
section
variable {X : Cx} {o e f : Expr} {td ty tx : TE} {apos cpos : Pos}
theorem pe_dsetdT (hu : X.A.units + 1 < cLine) (ho : PE X o td) (he : PE X e ty) (hf : PE X f tx) (m : M2 X o "setdefault" apos e f cpos) : PE X (.Call (.Attribute o "setdefault" apos) [e, f] [] cpos) (tDSetdT td ty tx) := by
  refine ⟨fun pins s σ H Q I h => ?_⟩
  refine wpAny_Call_method m.base m.few m.line PySem.F.plainAttrs_dict PySem.F.slot_dict_setdefault PySem.F.type_dict_setdefault (thn (ho.run pins s σ H _ I h) fun u s1 ⟨x, H1, I1, rx, a, ex, d, q1⟩ => ?_)
  subst ex
  obtain rfl : u = Value.ref a := rx
  obtain ⟨t1, t2, _⟩ := isD_at I1 d
  refine ⟨t1, t2, ?_⟩
  rw [m.trees]
  refine Calls.callWith_builtin rfl (Calls.evalArgs_plain (Calls.spliced_cons (thn (he.run pins s1 σ H1 _ I1 q1) fun iv s2 ⟨y, H2, I2, ry, q2⟩ =>
    Calls.spliced_cons (thn (hf.run pins s2 σ H2 _ I2 q2) fun fv s3 ⟨z, H3, I3, rz, kvs, k, b, ea, ey, eb, hl, q3, q4⟩ => Calls.spliced_nil ?_))))
  subst ey
  obtain rfl : iv = Value.ref b := ry
  exact d_setdT hu I3 ea eb rz hl (fun v hv w' s4 I4 rw' => ⟨v, _, I4, rw', q3 v hv⟩) fun hn w' s4 I4 rw' => ⟨z, _, I4, rw', q4 hn⟩
end
section
variable {σ : L2.St} {H : Hp} {Q : VK} {td ty tx : TE} {K : PySem.W.Frag}
theorem r_dsdT (h : td σ H fun x H1 => ∃ a, x = .ref a ∧ IsD H1 a ∧ ty σ H1 fun y H2 => tx σ H2 fun z H3 => ∃ (kvs : List (List Key × V)) (k : List Key) (b : Addr),
  H3 a = some (.dT kvs) ∧ y = .ref b ∧ H3 b = some (.tup (k.map kV)) ∧ kvs.length < sizeLine ∧ (∀ v, valV kvs k = some v → Q v H3) ∧ (valV kvs k = none → Q z (upd H3 a (.dT (putK kvs k z))))) : tDSetdT td ty tx σ H Q := h
theorem r_dnewT (q : ∀ p H2, H p = none → Up H H2 → H2 p = some (.dT []) → Q (.ref p) H2) : tDNewT σ H Q := fun p hp => q p _ hp (Up.new hp) upd_same
theorem isD_ofT {H : Hp} {a : Addr} {kvs : List (List Key × V)} (h : H a = some (.dT kvs)) : IsD H a := .inr ⟨kvs, .inl h⟩
theorem r_lenT {a : Addr} {kvs : List (List Key × V)} (h : H a = some (.dT kvs)) (q : Q (.int ((kvs.length : Nat) : Int)) H) : rLenT [.ref a] H Q := ⟨a, kvs, rfl, h, q⟩
theorem r_sortI {a : Addr} {ns : List Int} (h : H a = some (.lst (ns.map V.int))) (q : ∀ p H2, H p = none → Up H H2 → H2 p = some (.lst ((PySem.W.sortI ns).map V.int)) → Q (.ref p) H2) : rSortedI K [.ref a] H Q :=
  ⟨a, ns, rfl, SqL.of h, fun ns' p hp hs hn => by
    obtain rfl := PySem.W.eq_sortI hp hs
    exact q p _ hn (Up.new hn) upd_same⟩
end
end Gd

namespace Gd
open PySem PySem.Spec PyProof.Rows L2
/-! ### numbers of parts -/
/-- the place of the first one with the key of p -/
def ix (R : List P) (p : P) : Nat := R.findIdx (fun q => decide (kc q = kc p))
def inR (R : List P) (p : P) : Prop := kc p ∈ R.map kc
theorem inR.any {R : List P} {p : P} (h : inR R p) : ∃ q ∈ R, decide (kc q = kc p) = true := by
  obtain ⟨q, hq, e⟩ := List.mem_map.mp h
  exact ⟨q, hq, decide_eq_true e⟩
theorem ix_lt {R : List P} {p : P} (h : inR R p) : ix R p < R.length := List.findIdx_lt_length_of_exists h.any
theorem ix_get {R : List P} {p : P} (h : inR R p) : kc (R[ix R p]'(ix_lt h)) = kc p := of_decide_eq_true (List.findIdx_getElem (p := fun q => decide (kc q = kc p)) (w := ix_lt h))
theorem ix_congr {R : List P} {p q : P} (e : kc p = kc q) : ix R p = ix R q := by unfold ix; rw [e]
theorem ix_inj {R : List P} {p q : P} (hp : inR R p) (hq : inR R q) : ix R p = ix R q ↔ kc p = kc q := by
  constructor
  · intro e
    have h1 := ix_get hp
    have h2 := ix_get hq
    rw [← h1, ← h2]
    congr 1
    simp only [e]
  · exact ix_congr
theorem inR.mono {R S : List P} {p : P} (h : inR R p) : inR (R ++ S) p := by unfold inR at *; rw [List.map_append]; exact List.mem_append_left _ h
theorem inR.of {R : List P} {p q : P} (h : inR R p) (e : kc q = kc p) : inR R q := by unfold inR at *; rw [e]; exact h
theorem ix_app {R S : List P} {p : P} (h : inR R p) : ix (R ++ S) p = ix R p := by
  have hl := ix_lt h
  unfold ix at *
  rw [List.findIdx_append, if_pos hl]
theorem ix_new {R : List P} {p : P} (h : ¬ inR R p) : ix (R ++ [p]) p = R.length := by
  unfold ix
  rw [List.findIdx_append, if_neg]
  · simp [List.findIdx_cons]
  · intro hl
    have := List.findIdx_getElem (p := fun q => decide (kc q = kc p)) (w := hl)
    exact h (List.mem_map.mpr ⟨_, List.getElem_mem hl, of_decide_eq_true this⟩)
def addN (R : List P) (p : P) : List P := if kc p ∈ R.map kc then R else R ++ [p]
theorem addN_in (R : List P) (p : P) : inR (addN R p) p := by
  unfold addN
  split
  · assumption
  · unfold inR; simp
theorem addN_pre (R : List P) (p : P) : ∃ S, addN R p = R ++ S := by
  unfold addN
  split
  · exact ⟨[], by simp⟩
  · exact ⟨[p], rfl⟩
theorem addN_len (R : List P) (p : P) : (addN R p).length ≤ R.length + 1 := by
  unfold addN
  split <;> simp
def nums (R : List P) (L : List P) : List P := L.foldr (fun p R => addN R p) R
theorem nums_pre : ∀ (L R : List P), ∃ S, nums R L = R ++ S
  | [], R => ⟨[], by simp [nums]⟩
  | p :: L, R => by
    obtain ⟨S, e⟩ := nums_pre L R
    obtain ⟨T, e2⟩ := addN_pre (nums R L) p
    exact ⟨S ++ T, by show addN (nums R L) p = _; rw [e2, e, List.append_assoc]⟩
theorem nums_in : ∀ {L R : List P} {p : P}, p ∈ L → inR (nums R L) p
  | q :: L, R, p, h => by
    obtain ⟨T, e2⟩ := addN_pre (nums R L) q
    show inR (addN (nums R L) q) p
    rcases List.mem_cons.mp h with rfl | h
    · exact addN_in _ _
    · rw [e2]; exact (nums_in h).mono
theorem nums_len : ∀ (L R : List P), (nums R L).length ≤ R.length + L.length
  | [], R => by simp [nums]
  | p :: L, R => by
    have := nums_len L R
    have h2 := addN_len (nums R L) p
    show (addN (nums R L) p).length ≤ _
    rw [List.length_cons]; omega
/-! ### the letters of a part -/
def nK (R : List P) (p : P) : Key := .inl ((ix R p : Nat) : Int)
def lets (R : List P) (p : P) : List Key := match p with
  | .star n => [.inr ("*" : Str), .inr n]
  | .tail n => [.inr ("**" : Str), .inr n]
  | .uni ms => .inr ("|" : Str) :: (PySem.W.sortI (ms.map fun q => ((ix R q : Nat) : Int))).map Sum.inl
  | p => .inr (hd p) :: (parts p).map (nK R)
def okN (p : P) : Prop := (∃ k, isK p k) ∨ ∃ s, p = .tail s ∧ (s = ("..." : Str) ∨ good s)
theorem okN.hok {p : P} (h : okN p) : hok p := by
  rcases h with ⟨k, h⟩ | ⟨s, rfl, _⟩
  · exact isK_hok h
  · exact trivial
theorem sortI_inj {a b : List Int} : PySem.W.sortI a = PySem.W.sortI b ↔ a.Perm b := by
  constructor
  · intro e
    exact (PySem.W.sortI_perm a).symm.trans ((by rw [e] : (PySem.W.sortI a).Perm (PySem.W.sortI b)).trans (PySem.W.sortI_perm b))
  · intro h
    exact PySem.W.eq_sortI ((PySem.W.sortI_perm a).trans h) (PySem.W.sortI_rises a)
theorem map_ix {R : List P} : ∀ {xs ys : List P}, (∀ x ∈ xs, inR R x) → (∀ y ∈ ys, inR R y) → xs.map (nK R) = ys.map (nK R) → kcs xs = kcs ys
  | [], [], _, _, _ => rfl
  | [], _ :: _, _, _, e => by simp at e
  | _ :: _, [], _, _, e => by simp at e
  | x :: xs, y :: ys, hx, hy, e => by
    simp only [List.map_cons, List.cons.injEq] at e
    have e1 : ix R x = ix R y := Int.ofNat.inj (Sum.inl.inj e.1)
    rw [kcs, kcs, (ix_inj (hx x (by simp)) (hy y (by simp))).mp e1, map_ix (fun z hz => hx z (List.mem_cons_of_mem _ hz)) (fun z hz => hy z (List.mem_cons_of_mem _ hz)) e.2]
theorem ix_map {R : List P} : ∀ {xs ys : List P}, kcs xs = kcs ys → xs.map (nK R) = ys.map (nK R)
  | [], [], _ => rfl
  | [], _ :: _, e => by simp [kcs] at e
  | _ :: _, [], e => by simp [kcs] at e
  | x :: xs, y :: ys, e => by
    simp only [kcs, List.cons.injEq] at e
    rw [List.map_cons, List.map_cons, ix_map e.2]
    unfold nK
    rw [ix_congr e.1]
theorem perm_ix {R : List P} {xs ys : List P} (hx : ∀ x ∈ xs, inR R x) (hy : ∀ y ∈ ys, inR R y) :
    (xs.map fun q => ((ix R q : Nat) : Int)).Perm (ys.map fun q => ((ix R q : Nat) : Int)) ↔ (kcs xs).Perm (kcs ys) := by
  rw [kcs_map, kcs_map]
  constructor
  · intro h
    have e : ∀ {zs : List P}, (∀ z ∈ zs, inR R z) → zs.map kc = (zs.map fun q => ((ix R q : Nat) : Int)).map fun i => kc (R.getD i.toNat (.star ("" : Str))) := by
      intro zs hz
      rw [List.map_map]
      refine List.map_congr_left fun z h => ?_
      have h1 := ix_get (hz z h)
      show kc z = kc (R.getD (((ix R z : Nat) : Int).toNat) _)
      rw [Int.toNat_natCast, List.getD_eq_getElem?_getD, List.getElem?_eq_getElem (ix_lt (hz z h))]
      exact h1.symm
    rw [e hx, e hy]
    exact h.map _
  · intro h
    have e : ∀ zs : List P, (zs.map fun q => ((ix R q : Nat) : Int)) = (zs.map kc).map fun k => ((R.findIdx (fun q => decide (kc q = k)) : Nat) : Int) := by
      intro zs
      rw [List.map_map]
      rfl
    rw [e xs, e ys]
    exact h.map _
theorem okN.tg {p q : P} (hp : okN p) (hq : okN q) (e : hd p = hd q) : (∃ k, isK p k) ∧ (∃ k, isK q k) ∧ tg p = tg q ∨ ∃ s t, p = .tail s ∧ q = .tail t := by
  have no : ∀ {p : P} {k : Nat}, isK p k → hd p ≠ ("**" : Str) := fun {p k} h e => by
    cases p <;> simp only [isK] at h
    case use n vs => exact good_ne h.2.1 ⟨42, by decide +kernel, by decide⟩ e
    all_goals first | exact h | (simp only [hd] at e; exact absurd e (by decide +kernel))
  rcases hp with ⟨k, hp⟩ | ⟨s, rfl, hs⟩
  · rcases hq with ⟨j, hq⟩ | ⟨t, rfl, ht⟩
    · exact .inl ⟨⟨k, hp⟩, ⟨j, hq⟩, tg_of hp hq (s := []) (t := []) (by rw [e])⟩
    · exact absurd e (no hp)
  · rcases hq with ⟨j, hq⟩ | ⟨t, rfl, ht⟩
    · exact absurd e.symm (no hq)
    · exact .inr ⟨s, t, rfl, rfl⟩
theorem lets_hd (R : List P) (p : P) : ∃ r, lets R p = .inr (hd p) :: r := by
  cases p <;> exact ⟨_, rfl⟩
theorem kc_tail_ne {p : P} {k : Nat} (h : isK p k) (s : Str) : kc p ≠ kc (.tail s) := by rw [show kc (.tail s) = ("**" : Str) ++ s from by rw [kc]]; exact item_tail h s
theorem lets_inj {R : List P} {p q : P} (hp : okN p) (hq : okN q) (cp : ∀ x ∈ parts p, inR R x) (cq : ∀ x ∈ parts q, inR R x) : lets R p = lets R q ↔ kc p = kc q := by
  constructor
  · intro e
    have eh : hd p = hd q := by
      obtain ⟨r, e1⟩ := lets_hd R p
      obtain ⟨t, e2⟩ := lets_hd R q
      rw [e1, e2] at e
      exact Sum.inr.inj (List.cons.inj e).1
    rcases hp.tg hq eh with ⟨⟨k, kp⟩, ⟨j, kq⟩, et⟩ | ⟨s, t, rfl, rfl⟩
    · cases p <;> cases q <;> first
        | (simp [tg] at et; done)
        | (simp only [isK] at kp; done)
        | skip
      case use.use n vs m ws =>
        simp only [lets, hd, parts] at e eh cp cq
        subst eh
        rw [kc, kc, map_ix cp cq (List.cons.inj e).2]
      case sig.sig a b c d =>
        simp only [lets, parts] at e cp cq
        have := map_ix cp cq (List.cons.inj e).2
        simp only [kcs, List.cons.injEq] at this
        rw [kc, kc, this.1, this.2.1]
      case uni.uni vs ws =>
        simp only [lets, parts, List.cons.injEq, true_and] at e cp cq
        have e2 : PySem.W.sortI (vs.map fun q => ((ix R q : Nat) : Int)) = PySem.W.sortI (ws.map fun q => ((ix R q : Nat) : Int)) := by
          have := congrArg (List.map (fun k : Key => match k with | .inl i => i | .inr _ => 0)) e
          simpa [List.map_map, Function.comp_def] using this
        have := (perm_ix cp cq).mp (sortI_inj.mp e2)
        rw [kc, kc, perm_sort.mp this]
      case row.row vs ws =>
        simp only [lets, parts] at e cp cq
        rw [kc, kc, map_ix cp cq (List.cons.inj e).2]
      case inp.inp vs s ws t =>
        simp only [lets, parts] at e cp cq
        have h1 := map_ix cp cq (List.cons.inj e).2
        rw [kc_spl, kc_spl]
        simp only [parts, spl, h1, hd]
      case star.star a b =>
        simp only [lets, List.cons.injEq, true_and, and_true] at e
        rw [Sum.inr.inj e]
      case dots.dots a b =>
        simp only [lets, parts] at e cp cq
        have := map_ix cp cq (List.cons.inj e).2
        simp only [kcs, List.cons.injEq] at this
        rw [kc, kc, this.1]
    · simp only [lets, List.cons.injEq, true_and, and_true] at e
      rw [Sum.inr.inj e]
  · intro e
    rcases hp with ⟨k, kp⟩ | ⟨s, rfl, hs⟩
    · rcases hq with ⟨j, kq⟩ | ⟨t, rfl, ht⟩
      · have s := (faith_kc p q k j kp kq).mp e
        cases p <;> cases q <;> first
          | exact s.elim
          | skip
        case use.use n vs m ws =>
          simp only [Sm] at s
          simp only [lets, hd, parts, s.1]
          rw [ix_map (map_kcs.mpr s.2)]
        case sig.sig a b c d =>
          simp only [Sm] at s
          simp only [lets, parts, hd, List.map_cons, List.map_nil]
          unfold nK
          rw [ix_congr s.1, ix_congr s.2]
        case uni.uni vs ws =>
          simp only [Sm] at s
          simp only [parts] at cp cq
          simp only [lets]
          rw [sortI_inj.mpr ((perm_ix cp cq).mpr (by rw [kcs_map, kcs_map]; exact s))]
        case row.row vs ws =>
          simp only [Sm] at s
          simp only [lets, parts, hd]
          rw [ix_map (map_kcs.mpr s)]
        case inp.inp vs s' ws t =>
          simp only [Sm] at s
          simp only [lets, parts, hd, List.map_append, s.2]
          rw [ix_map (map_kcs.mpr s.1)]
        case star.star a b =>
          simp only [Sm] at s
          rw [s]
        case dots.dots a b =>
          simp only [Sm] at s
          simp only [lets, parts, hd, List.map_cons, List.map_nil]
          unfold nK
          rw [ix_congr s]
      · exact absurd e (kc_tail_ne kp t)
    · rcases hq with ⟨j, kq⟩ | ⟨t, rfl, ht⟩
      · exact absurd e.symm (kc_tail_ne kq s)
      · rw [kc, kc] at e
        have e3 := congrArg sg e
        rw [sg_app, sg_app] at e3
        rw [sg_inj (List.append_cancel_left e3)]
theorem lets_app {R S : List P} {p : P} (cp : ∀ x ∈ parts p, inR R x) : lets (R ++ S) p = lets R p := by
  have h : ∀ {zs : List P}, (∀ z ∈ zs, inR R z) → zs.map (nK (R ++ S)) = zs.map (nK R) := fun hz => List.map_congr_left fun z h => by unfold nK; rw [ix_app (hz z h)]
  cases p with
  | uni ms =>
    simp only [lets]
    simp only [parts] at cp
    rw [List.map_congr_left (g := fun q => ((ix R q : Nat) : Int)) fun z hz => by rw [ix_app (cp z hz)]]
  | star n => rfl
  | tail n => rfl
  | use n vs => simp only [lets]; rw [h cp]
  | sig i r => simp only [lets]; rw [h cp]
  | row vs => simp only [lets]; rw [h cp]
  | inp vs t => simp only [lets]; rw [h cp]
  | dots t => simp only [lets]; rw [h cp]
/-! ### the dict of numbers -/
structure Nm (R : List P) (kvs : List (List Key × V)) : Prop where
  ks : kvs.map (·.1) = R.map (lets R)
  vs : kvs.map (·.2) = (List.range R.length).map fun i => V.int ((i : Nat) : Int)
  cl : ∀ p ∈ R, okN p ∧ ∀ x ∈ parts p, inR R x
theorem Nm.nil : Nm [] [] := ⟨rfl, rfl, fun p h => (List.not_mem_nil h).elim⟩
theorem Nm.len {R : List P} {kvs : List (List Key × V)} (h : Nm R kvs) : kvs.length = R.length := by
  have := congrArg List.length h.ks
  simpa using this
theorem valV_at {κ : Type} [DecidableEq κ] {k : κ} : ∀ {kvs : List (κ × V)} {i : Nat} {v : V}, (∀ j, j < i → (kvs.map (·.1))[j]? ≠ some k) → (kvs.map (·.1))[i]? = some k → (kvs.map (·.2))[i]? = some v → valV kvs k = some v
  | [], i, v, _, e, _ => by simp at e
  | (a, b) :: r, 0, v, _, e, f => by
    simp only [List.map_cons, List.getElem?_cons_zero, Option.some.injEq] at e f
    rw [valV_pos e]; simp [f]
  | (a, b) :: r, i + 1, v, h, e, f => by
    have h0 := h 0 (by omega)
    simp only [List.map_cons, List.getElem?_cons_zero, ne_eq, Option.some.injEq] at h0
    rw [valV_neg h0]
    refine valV_at (i := i) (fun j hj => ?_) (by simpa using e) (by simpa using f)
    have := h (j + 1) (by omega)
    simpa using this
theorem Nm.yes {R : List P} {kvs : List (List Key × V)} (h : Nm R kvs) {p : P} (hp : okN p) (cp : ∀ x ∈ parts p, inR R x) (hi : inR R p) : valV kvs (lets R p) = some (.int ((ix R p : Nat) : Int)) := by
  have hl := ix_lt hi
  refine valV_at (i := ix R p) (fun j hj => ?_) ?_ ?_
  · rw [h.ks]
    intro e
    have hj2 : j < R.length := by omega
    rw [List.getElem?_map, List.getElem?_eq_getElem hj2] at e
    have hm : R[j] ∈ R := List.getElem_mem hj2
    obtain ⟨o, c⟩ := h.cl _ hm
    have e2 := (lets_inj o hp c cp).mp (Option.some.inj e)
    have := List.not_of_lt_findIdx (p := fun q => decide (kc q = kc p)) hj
    exact absurd (decide_eq_true e2) (by simpa using this)
  · rw [h.ks, List.getElem?_map, List.getElem?_eq_getElem hl]
    obtain ⟨o, c⟩ := h.cl _ (List.getElem_mem hl)
    exact congrArg some ((lets_inj o hp c cp).mpr (ix_get hi))
  · rw [h.vs, List.getElem?_map, List.getElem?_range hl]
    rfl
theorem Nm.no {R : List P} {kvs : List (List Key × V)} (h : Nm R kvs) {p : P} (hp : okN p) (cp : ∀ x ∈ parts p, inR R x) (hi : ¬ inR R p) : valV kvs (lets R p) = none := by
  cases e : valV kvs (lets R p) with
  | none => rfl
  | some v =>
    have := valV_in e
    rw [h.ks] at this
    obtain ⟨q, hq, e2⟩ := List.mem_map.mp this
    obtain ⟨o, c⟩ := h.cl q hq
    exact absurd (List.mem_map.mpr ⟨q, hq, (lets_inj o hp c cp).mp e2⟩) hi
theorem Nm.put {R : List P} {kvs : List (List Key × V)} (h : Nm R kvs) {p : P} (hp : okN p) (cp : ∀ x ∈ parts p, inR R x) (hi : ¬ inR R p) :
    Nm (R ++ [p]) (putK kvs (lets R p) (.int ((kvs.length : Nat) : Int))) := by
  rw [putK_new _ (h.no hp cp hi)]
  refine ⟨?_, ?_, fun q hq => ?_⟩
  · rw [List.map_append, List.map_append, h.ks]
    congr 1
    · exact List.map_congr_left fun q hq => (lets_app (h.cl q hq).2).symm
    · simp only [List.map_cons, List.map_nil]
      rw [lets_app cp]
  · rw [List.map_append, h.vs, h.len, List.length_append, List.length_singleton, List.range_succ, List.map_append]
    rfl
  · rcases List.mem_append.mp hq with hq | hq
    · obtain ⟨o, c⟩ := h.cl q hq
      exact ⟨o, fun x hx => (c x hx).mono⟩
    · rw [List.mem_singleton.mp hq]
      exact ⟨hp, fun x hx => (cp x hx).mono⟩
/-- at d: the dict of the numbers of R -/
def NumD (H : Hp) (d : Addr) (R : List P) : Prop := ∃ kvs, H d = some (.dT kvs) ∧ Nm R kvs
theorem NumD.up {H H' : Hp} {d : Addr} {R : List P} (h : NumD H d R) (u : Up H H') : NumD H' d R := let ⟨k, e, n⟩ := h; ⟨k, u _ _ e, n⟩
theorem NumD.mv {H H' : Hp} {d b : Addr} {R : List P} (h : NumD H d R) (ne : d ≠ b) (u : Mv b H H') : NumD H' d R := let ⟨k, e, n⟩ := h; ⟨k, u _ _ ne e, n⟩
theorem addN_cl {R : List P} {p q : P} (h : inR R q) : inR (addN R p) q := by
  obtain ⟨S, e⟩ := addN_pre R p
  rw [e]; exact h.mono
theorem ix_add {R : List P} {p q : P} (h : inR R q) : ix (addN R p) q = ix R q := by
  obtain ⟨S, e⟩ := addN_pre R p
  rw [e]; exact ix_app h
/-- numbers.setdefault(letters, len(numbers)): what is asked -/
theorem NumD.setd {H : Hp} {d b : Addr} {R : List P} {p : P} {Q : VK} (h : NumD H d R) (hp : okN p) (cp : ∀ x ∈ parts p, inR R x) (hb : H b = some (.tup ((lets R p).map kV))) (hl : R.length ≤ 1000000)
    (q : ∀ H', Mv d H H' → NumD H' d (addN R p) → Q (.int ((ix (addN R p) p : Nat) : Int)) H') :
    ∃ kvs : List (List Key × V), H d = some (.dT kvs) ∧ (kvs.length : Int) = R.length ∧ kvs.length < sizeLine ∧ (∀ v, valV kvs (lets R p) = some v → Q v H) ∧
      (valV kvs (lets R p) = none → Q (.int ((kvs.length : Nat) : Int)) (upd H d (.dT (putK kvs (lets R p) (.int ((kvs.length : Nat) : Int)))))) := by
  obtain ⟨kvs, e, n⟩ := h
  have hn := n.len
  refine ⟨kvs, e, by rw [hn], by rw [sizeLine_eq]; omega, fun v hv => ?_, fun hv => ?_⟩
  · by_cases hi : inR R p
    · have h2 := n.yes hp cp hi
      rw [hv] at h2
      cases h2
      have ea : addN R p = R := if_pos hi
      have := q H Mv.rf (by rw [ea]; exact ⟨kvs, e, n⟩)
      rw [ea] at this
      exact this
    · rw [n.no hp cp hi] at hv; cases hv
  · by_cases hi : inR R p
    · rw [n.yes hp cp hi] at hv; cases hv
    · have ea : addN R p = R ++ [p] := if_neg hi
      have := q (upd H d (.dT (putK kvs (lets R p) (.int ((kvs.length : Nat) : Int))))) Mv.wr (by rw [ea]; exact ⟨_, upd_same, n.put hp cp hi⟩)
      rw [ea, ix_new hi, ← hn] at this
      exact this
end Gd

namespace Gd
open PySem PySem.Spec PyProof.Rows L2
theorem Nm.setd {H : Hp} {d b : Addr} {R : List P} {p : P} {Q : VK} {kvs : List (List Key × V)} (e : H d = some (.dT kvs)) (n : Nm R kvs) (hp : okN p) (cp : ∀ x ∈ parts p, inR R x) (hb : H b = some (.tup ((lets R p).map kV))) (hl : R.length ≤ 1000000)
    (q : ∀ H', Mv d H H' → NumD H' d (addN R p) → Q (.int ((ix (addN R p) p : Nat) : Int)) H') :
    ∃ (kvs' : List (List Key × V)) (k : List Key) (b' : Addr), H d = some (.dT kvs') ∧ V.ref b = .ref b' ∧ H b' = some (.tup (k.map kV)) ∧ kvs'.length < sizeLine ∧ (∀ v, valV kvs' k = some v → Q v H) ∧
      (valV kvs' k = none → Q (.int ((kvs.length : Nat) : Int)) (upd H d (.dT (putK kvs' k (.int ((kvs.length : Nat) : Int)))))) := by
  obtain ⟨kvs', e', _, h2, h3, h4⟩ := NumD.setd ⟨kvs, e, n⟩ hp cp hb hl q
  have : kvs' = kvs := by rw [e] at e'; cases e'; rfl
  subst this
  exact ⟨kvs', lets R p, b, e, rfl, hb, h2, h3, h4⟩
theorem r_setN {σ : L2.St} {H : Hp} {Q : VK} {i j : Nat} {d b : Addr} {R : List P} {p : P} (hi : σ[i]? = some (some (.ref d))) (hj : σ[j]? = some (some (.ref b))) (hd : NumD H d R) (hp : okN p) (cp : ∀ x ∈ parts p, inR R x)
    (hb : H b = some (.tup ((lets R p).map kV))) (hl : R.length ≤ 1000000) (q : ∀ H', Mv d H H' → NumD H' d (addN R p) → Q (.int ((ix (addN R p) p : Nat) : Int)) H') :
    tDSetdT (tVar i) (tVar j) (tCB rLenT (tCons (tVar i) tNil)) σ H Q := by
  obtain ⟨kvs, e, n⟩ := hd
  refine r_dsdT (r_var hi ⟨d, rfl, isD_ofT e, r_var hj (r_cb (r_cons (r_var hi (r_nil (r_lenT e ?_)))))⟩)
  exact Nm.setd e n hp cp hb hl q
theorem Mv.tkT {b : Addr} {H H1 : Hp} {kvs : List (List Key × V)} (a : Mv b H H1) (h : H b = some (.dT kvs)) : Tk H H1 := fun x xs e => a x _ (ne_of e h nofun) e
mutual
theorem isK_okN : ∀ (p : P) (k : Nat), isK p k → ∀ q ∈ pre p, okN q
  | .use n vs, k, h, q, hq => by
    have h0 := h
    simp only [isK] at h
    simp only [pre, List.mem_cons] at hq
    rcases hq with rfl | hq
    · exact .inl ⟨k, h0⟩
    · exact isKs_okN vs 1 h.2.2 q hq
  | .sig i r, k, h, q, hq => by
    have h0 := h
    simp only [isK] at h
    simp only [pre, List.mem_cons, List.mem_append] at hq
    rcases hq with rfl | hq | hq
    · exact .inl ⟨k, h0⟩
    · exact isK_okN i 3 h.2.1 q hq
    · exact isK_okN r 0 h.2.2 q hq
  | .uni ms, k, h, q, hq => by
    have h0 := h
    simp only [isK] at h
    simp only [pre, List.mem_cons] at hq
    rcases hq with rfl | hq
    · exact .inl ⟨k, h0⟩
    · exact isKs_okN ms 4 h.2.2.2 q hq
  | .row ms, k, h, q, hq => by
    have h0 := h
    simp only [isK] at h
    simp only [pre, List.mem_cons] at hq
    rcases hq with rfl | hq
    · exact .inl ⟨k, h0⟩
    · exact isKs_okN ms 2 h.2 q hq
  | .inp ms tl, k, h, q, hq => by
    have h0 := h
    simp only [isK] at h
    simp only [pre, List.mem_cons, List.mem_append] at hq
    rcases hq with rfl | hq | hq
    · exact .inl ⟨k, h0⟩
    · exact isKs_okN ms 2 h.2.1 q hq
    · cases tl with
      | none => simp [tails] at hq
      | some s =>
        simp only [tails, List.mem_singleton] at hq
        exact .inr ⟨s, hq, h.2.2⟩
  | .star n, k, h, q, hq => by
    simp only [pre, List.mem_singleton] at hq
    subst hq
    exact .inl ⟨k, h⟩
  | .dots t, k, h, q, hq => by
    have h0 := h
    simp only [isK] at h
    simp only [pre, List.mem_cons] at hq
    rcases hq with rfl | hq
    · exact .inl ⟨k, h0⟩
    · exact isK_okN t 0 h.2 q hq
  | .tail s, k, h, q, hq => by simp only [isK] at h
theorem isKs_okN : ∀ (l : List P) (k : Nat), isKs l k → ∀ q ∈ pres l, okN q
  | [], k, h, q, hq => by simp [pres] at hq
  | p :: r, k, h, q, hq => by
    simp only [isKs] at h
    simp only [pres, List.mem_append] at hq
    rcases hq with hq | hq
    · exact isK_okN p k h.1 q hq
    · exact isKs_okN r k h.2 q hq
end
/-! ### what a part begins with -/
def isLf : P → Bool
  | .star _ => true
  | .tail _ => true
  | _ => false
def nmP : P → Str
  | .star n => n
  | .tail n => n
  | _ => Str.empty
theorem lf_hd (p : P) (h : hok p) : (decide (hd p = ("*" : Str)) || decide (hd p = ("**" : Str))) = isLf p := by
  cases p with
  | use n vs =>
    obtain ⟨e1, e2, e3, e4, e5, e6, e7⟩ := good.apart h
    show (decide (n = ("*" : Str)) || decide (n = ("**" : Str))) = false
    rw [e1, e2]; rfl
  | sig i r => show (decide (("->" : Str) = ("*" : Str)) || decide (("->" : Str) = ("**" : Str))) = false; decide +kernel
  | uni ms => show (decide (("|" : Str) = ("*" : Str)) || decide (("|" : Str) = ("**" : Str))) = false; decide +kernel
  | row ms => show (decide (("[]" : Str) = ("*" : Str)) || decide (("[]" : Str) = ("**" : Str))) = false; decide +kernel
  | inp ms t => show (decide (("()" : Str) = ("*" : Str)) || decide (("()" : Str) = ("**" : Str))) = false; decide +kernel
  | star n => show (decide (("*" : Str) = ("*" : Str)) || decide (("*" : Str) = ("**" : Str))) = true; decide +kernel
  | dots t => show (decide (("..." : Str) = ("*" : Str)) || decide (("..." : Str) = ("**" : Str))) = false; decide +kernel
  | tail s => show (decide (("**" : Str) = ("*" : Str)) || decide (("**" : Str) = ("**" : Str))) = true; decide +kernel
theorem uni_hd (p : P) (h : hok p) : decide (hd p = ("|" : Str)) = isUni p := by
  cases p with
  | use n vs =>
    obtain ⟨e1, e2, e3, e4, e5, e6, e7⟩ := good.apart h
    exact e7
  | sig i r => show decide (("->" : Str) = ("|" : Str)) = false; decide +kernel
  | uni ms => show decide (("|" : Str) = ("|" : Str)) = true; decide +kernel
  | row ms => show decide (("[]" : Str) = ("|" : Str)) = false; decide +kernel
  | inp ms t => show decide (("()" : Str) = ("|" : Str)) = false; decide +kernel
  | star n => show decide (("*" : Str) = ("|" : Str)) = false; decide +kernel
  | dots t => show decide (("..." : Str) = ("|" : Str)) = false; decide +kernel
  | tail s => show decide (("**" : Str) = ("|" : Str)) = false; decide +kernel
theorem hd_len {p : P} (h : hok p) : (hd p).length ≤ 6 := by
  cases p with
  | use n vs => exact h.2.1
  | sig i r => show ("->" : Str).length ≤ 6; decide +kernel
  | uni ms => show ("|" : Str).length ≤ 6; decide +kernel
  | row ms => show ("[]" : Str).length ≤ 6; decide +kernel
  | inp ms t => show ("()" : Str).length ≤ 6; decide +kernel
  | star n => show ("*" : Str).length ≤ 6; decide +kernel
  | dots t => show ("..." : Str).length ≤ 6; decide +kernel
  | tail s => show ("**" : Str).length ≤ 6; decide +kernel
theorem lf_inv {p : P} (h : isLf p = true) : sec p = .str (nmP p) ∧ more p = [] ∧ parts p = [] := by
  cases p <;> first | (simp [isLf] at h; done) | exact ⟨rfl, rfl, rfl⟩
def wr (p : P) (ks : List Str) : Str := if isLf p = true then hd p ++ nmP p else hd p ++ ("[" : Str) ++ Txt.join ("," : Str) ks ++ ("]" : Str)
theorem spl_wr (p : P) (ks : List Str) : spl p ks = wr p (if isUni p = true then ssort ks else ks) := by
  cases p <;> rfl
theorem lets_lf (R : List P) {p : P} (h : isLf p = true) : (lets R p).map kV = [V.str (hd p), .str (nmP p)] := by
  cases p <;> first | (simp [isLf] at h; done) | rfl
theorem lets_uni (R : List P) {p : P} (h : isUni p = true) : (lets R p).map kV = V.str ("|" : Str) :: (PySem.W.sortI ((parts p).map fun q => ((ix R q : Nat) : Int))).map V.int := by
  cases p <;> first
    | (simp [isUni] at h; done)
    | (simp only [lets, List.map_cons, List.map_map, parts]; rfl)
theorem lets_else (R : List P) {p : P} (h : isLf p = false) (h2 : isUni p = false) : (lets R p).map kV = V.str (hd p) :: (parts p).map fun q => V.int ((ix R q : Nat) : Int) := by
  cases p <;> first
    | (simp [isLf] at h; done)
    | (simp [isUni] at h2; done)
    | (simp only [lets, List.map_cons, List.map_map, parts]; rfl)
/-! ### layouts -/
structure Lay (p : P) (L : List P) (S : List Int) : Prop where
  eL : L = p :: L.flatMap parts
  eS : S.length = L.length + 1
  hS : ∀ i, i ≤ L.length → S[i]? = some ((LO L i : Nat) : Int)
  hm : ∀ i, i < L.length → i + 1 ≤ LO L i
  hin : ∀ y ∈ L, y ∈ pre p
  ln : L.length = (pre p).length
theorem Lay.at' {p : P} {L : List P} {S : List Int} (h : Lay p L S) {i : Nat} (hi : i ≤ L.length) : atI (S.map V.int) ((i : Nat) : Int) = some (.int ((LO L i : Nat) : Int)) :=
  atI_nat (by rw [List.getElem?_map, h.hS i hi]; rfl)
theorem Lay.at1 {p : P} {L : List P} {S : List Int} (h : Lay p L S) {i : Nat} (hi : i + 1 ≤ L.length) : atI (S.map V.int) (((i : Nat) : Int) + 1) = some (.int ((LO L (i + 1) : Nat) : Int)) := by
  have := h.at' hi
  rwa [show (((i + 1 : Nat) : Nat) : Int) = ((i : Nat) : Int) + 1 by omega] at this
theorem Lay.own {p : P} {L : List P} {S : List Int} (h : Lay p L S) {i : Nat} {y : P} (hy : L[i]? = some y) : (L.drop (LO L i)).take (LO L (i + 1) - LO L i) = parts y ∧ LO L (i + 1) ≤ L.length := LO_own h.eL hy
theorem Lay.fst {p : P} {L : List P} {S : List Int} (h : Lay p L S) : L[0]? = some p := by rw [h.eL]; rfl
theorem Lay.pos {p : P} {L : List P} {S : List Int} (h : Lay p L S) : 0 < L.length := by rw [h.eL]; simp
/-- at t: the layout L of p -/
def AtLay (H : Hp) (t : Addr) (p : P) (L : List P) : Prop := ∃ (l q : Addr) (ws : List V) (S : List Int), H t = some (.tup [.ref l, .ref q]) ∧ H l = some (.lst ws) ∧ H q = some (.lst (S.map V.int)) ∧ Das H ws (encs L) ∧ Lay p L S
theorem AtLay.up {H H' : Hp} {t : Addr} {p : P} {L : List P} (h : AtLay H t p L) (u : Up H H') : AtLay H' t p L := by
  obtain ⟨l, q, ws, S, a, b, c, d, e⟩ := h
  exact ⟨l, q, ws, S, u _ _ a, u _ _ b, u _ _ c, d.up u, e⟩
theorem AtLay.mv {H H' : Hp} {t d : Addr} {p : P} {L : List P} {kvs : List (List Key × V)} (h : AtLay H t p L) (hd : H d = some (.dT kvs)) (u : Mv d H H') : AtLay H' t p L := by
  obtain ⟨l, q, ws, S, a, b, c, e, f⟩ := h
  refine ⟨l, q, ws, S, u _ _ (ne_of a hd nofun) a, u _ _ (ne_of b hd nofun) b, u _ _ (ne_of c hd nofun) c, e.tk fun x xs hx => u _ _ (ne_of hx hd nofun) hx, f⟩
/-- what is made of parts in a layout, from the end on: the slice that belongs to a part -/
theorem Lay.slice {α : Type} {p : P} {L : List P} {S : List Int} (h : Lay p L S) {f : P → α} {i at' : Nat} {y : P} {rs : List α} (e : at' + 1 + i = L.length) (hy : L[at']? = some y)
    (dr : rs.drop (L.length - i) = (L.map f).drop (L.length - i)) : (rs.drop (LO L at')).take (LO L (at' + 1) - LO L at') = (parts y).map f := by
  have ha : at' < L.length := by omega
  obtain ⟨o1, o2⟩ := h.own hy
  have o3 := h.hm at' ha
  have z1 : rs.drop (LO L at') = (L.map f).drop (LO L at') := by
    have z2 : LO L at' = (L.length - i) + (LO L at' - (L.length - i)) := by omega
    rw [z2, ← List.drop_drop, ← List.drop_drop, dr]
  rw [z1, ← List.map_drop, ← List.map_take, o1]
theorem Lay.set {α : Type} {L : List P} {f : P → α} {i at' : Nat} {y : P} {rs : List α} (e : at' + 1 + i = L.length) (hy : L[at']? = some y) (lr : rs.length = L.length)
    (dr : rs.drop (L.length - i) = (L.map f).drop (L.length - i)) : (rs.set at' (f y)).drop (L.length - (i + 1)) = (L.map f).drop (L.length - (i + 1)) := by
  have z3 : L.length - (i + 1) = at' := by omega
  have z4 : L.length - i = at' + 1 := by omega
  have ha : at' < L.length := by omega
  rw [z4] at dr
  have z5 : L[at'] = y := (List.getElem?_eq_some_iff.mp hy).2
  have w1 : (rs.set at' (f y)).drop at' = f y :: rs.drop (at' + 1) := by
    have hlt : at' < (rs.set at' (f y)).length := by rw [List.length_set]; omega
    rw [List.drop_eq_getElem_cons hlt, List.getElem_set_self, List.drop_set_of_lt (by omega)]
  have w2 : (L.map f).drop at' = f y :: (L.map f).drop (at' + 1) := by
    have hlt : at' < (L.map f).length := by rw [List.length_map]; omega
    rw [List.drop_eq_getElem_cons hlt, List.getElem_map, z5]
  rw [z3, w1, w2, dr]
/-- the parts in a part at a place come behind it -/
theorem Lay.sub {p : P} {L : List P} {S : List Int} (h : Lay p L S) {at' : Nat} {y : P} (hy : L[at']? = some y) : ∀ x ∈ parts y, x ∈ L.drop (at' + 1) := by
  have ha : at' < L.length := (List.getElem?_eq_some_iff.mp hy).1
  obtain ⟨o1, o2⟩ := h.own hy
  have o3 := h.hm at' ha
  intro x hx
  rw [← o1] at hx
  have h1 := List.mem_of_mem_take hx
  have z2 : LO L at' = (at' + 1) + (LO L at' - (at' + 1)) := by omega
  rw [z2, ← List.drop_drop] at h1
  exact List.mem_of_mem_drop h1
/-- what key, equal and joined ask of each part -/
def hokV (q : P) : Prop := hokU q ∧ okN q
theorem Cd.hokV {k dp wt : Nat} {p : P} (h : Cd k dp wt p) (hw : wt ≤ 90000) : ∀ q ∈ pre p, hokV q := fun q hq => ⟨h.hokU hw q hq, isK_okN p k h.is q hq⟩
end Gd

namespace Gd
open PySem PySem.Spec PyProof.Rows L2
/-! ### a text, times -/
def rMulS : R2 := fun x y H Q => ∃ (s : Str) (n : Int), x = .str s ∧ y = .int n ∧ MulOk s n ∧ Q (.str (PySem.Txt.mul s n)) H
theorem op_mulS {X : Cx} : OpR X (binaryOp .Mult) rMulS := by
  intro pins s σ H x y v u Q I rx ry h
  obtain ⟨i, j, rfl, rfl, hz, q⟩ := h
  obtain ⟨t, rfl⟩ := rx
  obtain ⟨t', rfl⟩ := ry
  exact SB.mul hz fun t' tk => ⟨.str _, H, I.tok _, ⟨_, rfl⟩, q⟩
theorem r_mul6 {H : Hp} {Q : VK} {z w : Str} (hz : PySem.Txt.mul z 6 = w) (hl : z.length = 1) (q : Q (.str w) H) : rMulS (.str z) (.int 6) H Q :=
  ⟨z, 6, rfl, rfl, ⟨by decide, fun _ _ => by rw [hl]; decide, fun _ _ => by rw [hl]; decide +kernel⟩, by rw [hz]; exact q⟩
/-! ### what stands in a term -/
theorem lsz_arg {p : P} (h : isK p 0) : lsz p = 1 + lszs (argP p) := by
  cases p with
  | use n vs => simp [lsz, argP]
  | sig i r => simp [lsz, argP, lszs, Nat.add_assoc]
  | uni ms => simp [lsz, argP]
  | _ => simp [isK] at h
def withA : P → List P → P
  | .use n _, qs => .use n qs
  | .uni _, qs => .uni qs
  | .sig _ _, [i, r] => .sig i r
  | p, _ => p
theorem withA_arg {p : P} (h : isK p 0) : withA p (argP p) = p := by
  cases p with
  | use n vs => rfl
  | sig i r => rfl
  | uni ms => rfl
  | _ => simp [isK] at h
theorem Mx.args {p : P} {qs : List P} (h : isK p 0) (a : A2 Mx (argP p) qs) : Mx p (withA p qs) ∧ hd (withA p qs) = hd p ∧ argP (withA p qs) = qs := by
  cases p with
  | use n vs => exact ⟨Mx.use h a, rfl, rfl⟩
  | uni ms => exact ⟨Mx.uni h (List.Perm.refl _) a, rfl, rfl⟩
  | sig i r =>
    cases a with
    | cons h1 t =>
      cases t with
      | cons h2 t =>
        cases t
        exact ⟨Mx.sig h h1 h2, rfl, rfl⟩
  | _ => simp [isK] at h
theorem made_da {H : Hp} {b a : Addr} {q : P} {xs : List V} (hq : isK q 0) (g : H b = some (.tup (if hd q = ("->" : Str) then .str (hd q) :: xs else [.str (hd q), .ref a]))) (ga : H a = some (.tup xs)) (d : Das H xs (encs (argP q))) : Da H (.ref b) (enc q) := by
  cases q with
  | use n vs =>
    simp only [isK] at hq
    rw [if_neg (show ¬ hd (.use n vs) = ("->" : Str) from of_decide_eq_false hq.2.1.apart.c)] at g
    exact .tup g (.cons (.str _) (.cons (.tup ga d) .nil))
  | sig i r =>
    rw [if_pos (show hd (.sig i r) = ("->" : Str) from rfl)] at g
    exact .tup g (.cons (.str _) d)
  | uni ms =>
    rw [if_neg (show ¬ hd (.uni ms) = ("->" : Str) from by show ¬ ("|" : Str) = ("->" : Str); decide +kernel)] at g
    exact .tup g (.cons (.str _) (.cons (.tup ga d) .nil))
  | _ => simp [isK] at hq
theorem arg_k {p q : P} (h : isK p 0) (hq : q ∈ argP p) : ∃ k, isK q k ∧ k ≠ 2 := by
  cases p with
  | use n vs => simp only [isK] at h; exact ⟨1, isKs_iff.mp h.2.2 q hq, by decide⟩
  | sig i r =>
    simp only [isK] at h
    rcases List.mem_cons.mp hq with rfl | hq
    · exact ⟨3, h.2.1, by decide⟩
    · rw [List.mem_singleton.mp hq]; exact ⟨0, h.2.2, by decide⟩
  | uni ms => simp only [isK] at h; exact ⟨4, isKs_iff.mp h.2.2.2 q hq, by decide⟩
  | _ => simp [isK] at h
theorem Cd.argc {dp wt : Nat} {p q : P} (h : Cd 0 dp wt p) (hq : q ∈ argP p) : ∃ k, k ≠ 2 ∧ Cd k (dp - 1) wt q ∧ 1 + (enc q).depth ≤ dp := by
  have hw := h.argw hq
  cases p with
  | use n vs =>
    obtain ⟨_, b, c⟩ := h.in_use
    obtain ⟨c1, c2⟩ := c q hq
    exact ⟨1, by decide, c1.mono (by omega) hw, by omega⟩
  | sig i r =>
    obtain ⟨b, c, d, e, f⟩ := h.in_sig
    rcases List.mem_cons.mp hq with rfl | hq
    · exact ⟨3, by decide, c.mono (by omega) hw, f⟩
    · have hq := List.mem_singleton.mp hq
      subst hq
      exact ⟨0, by decide, d.mono (by omega) hw, e⟩
  | uni ms =>
    obtain ⟨b, d, _, c⟩ := h.in_uni
    have c1 := c q hq
    have := c1.dep
    exact ⟨4, by decide, c1.mono (by omega) hw, by omega⟩
  | _ => exact (List.not_mem_nil hq).elim
/-! ### keys that differ -/
theorem kc_name {n m : Str} {vs ws : List P} (h1 : isK (.use n vs) 0) (h2 : isK (.use m ws) 0) (ne : n ≠ m) : kc (.use n vs) ≠ kc (.use m ws) := fun e => ne ((faith_kc _ _ 0 0 h1 h2).mp e).1
theorem kc_less {n : Str} {vs : List P} (h1 : isK (.use n vs) 0) (h2 : isK (.use n (vs.drop 1)) 0) (ne : vs ≠ []) : kc (.use n vs) ≠ kc (.use n (vs.drop 1)) := fun e => by
  have h := congrArg List.length ((faith_kc _ _ 0 0 h1 h2).mp e).2
  rw [List.length_map, List.length_map, List.length_drop] at h
  have : vs.length ≠ 0 := fun z => ne (List.eq_nil_of_length_eq_zero z)
  omega
theorem Cd.named {dp wt : Nat} {n m : Str} {vs : List P} (h : Cd 0 dp wt (.use n vs)) (hm : good m) : Cd 0 dp (wt + 100) (.use m vs) := by
  obtain ⟨_, b, c⟩ := h.in_use
  have hd := h.dep
  have h2 : 2 ≤ dp := by simp only [enc, PyData.depth, PyData.depthAll] at hd; omega
  exact (Cd.use (k := 0) (dp := dp - 2) (s := wt) (.inl rfl) hm (fun v hv => ⟨_, (c v hv).1⟩) (by omega)).mono (by omega) (Nat.le_refl _)
theorem Cd.less {dp wt : Nat} {n : Str} {vs : List P} (h : Cd 0 dp wt (.use n vs)) : Cd 0 dp (wt + 100) (.use n (vs.drop 1)) := by
  obtain ⟨g, b, c⟩ := h.in_use
  have hd := h.dep
  have h2 : 2 ≤ dp := by simp only [enc, PyData.depth, PyData.depthAll] at hd; omega
  exact (Cd.use (k := 0) (dp := dp - 2) (s := wt) (.inl rfl) g (fun v hv => ⟨_, (c v (List.mem_of_mem_drop hv)).1⟩) (by have := kws_sl (List.drop_sublist 1 vs); omega)).mono (by omega) (Nat.le_refl _)
/-! ### members joined one by one -/
theorem asP_k {l : List P} (h : ∀ m ∈ l, isK m 4) (hn : l ≠ []) (nd : (l.map lkP).Nodup) : isK (asP l) 0 ∧ memb (asP l) = l := by
  match l, hn with
  | [p], _ => exact ⟨isK_mem (h p List.mem_cons_self), memb4 (h p List.mem_cons_self)⟩
  | p :: q :: r, _ =>
    refine ⟨?_, rfl⟩
    show isK (.uni (p :: q :: r)) 0
    simp only [isK]
    exact ⟨by first | exact .inl rfl | simp, by simp, nd, isKs_iff.mpr h⟩
theorem asP_step {l : List P} {m : P} (h : ∀ x ∈ l ++ [m], isK x 4) (hn : l ≠ []) (nd : ((l ++ [m]).map lkP).Nodup) : ljoin [asP l, m] = asP (l ++ [m]) := by
  have nl : (l.map lkP).Nodup := by
    rw [List.map_append] at nd
    exact (List.nodup_append.mp nd).1
  obtain ⟨k1, e1⟩ := asP_k (fun x hx => h x (List.mem_append_left _ hx)) hn nl
  have e2 : foundP [asP l, m] = l ++ [m] := by
    unfold foundP
    rw [List.flatMap_cons, List.flatMap_cons, List.flatMap_nil, List.append_nil, e1, memb4 (h m (List.mem_append_right _ List.mem_cons_self))]
    exact fold_id (l ++ [m]) [] (by rw [List.nil_append]; exact nd)
  rw [ljoin_asP, e2]
theorem nd_take {l : List P} {i : Nat} (nd : (l.map lkP).Nodup) : ((l.take i).map lkP).Nodup := by
  rw [List.map_take]
  exact nd.sublist (List.take_sublist _ _)
end Gd
namespace Gd
open PySem PySem.Spec PyProof.Rows L2
theorem kinds {p : P} {k : Nat} (h : isK p k) : (∃ n, p = .star n) ∨ (∃ t, p = .dots t) ∨
    ((decide (hd p = ("*" : Str)) = false ∧ decide (hd p = ("..." : Str)) = false ∧ (decide (hd p = ("[]" : Str)) || decide (hd p = ("()" : Str))) = true) ∧ sec p = .tuple (encs (inn p)) ∧ ∀ q ∈ inn p, isK q 2) ∨
    ((decide (hd p = ("*" : Str)) = false ∧ decide (hd p = ("..." : Str)) = false ∧ (decide (hd p = ("[]" : Str)) || decide (hd p = ("()" : Str))) = false) ∧ isK p 0) := by
  cases p with
  | star n => exact .inl ⟨_, rfl⟩
  | dots t => exact .inr (.inl ⟨_, rfl⟩)
  | tail s => simp [isK] at h
  | row xs =>
    simp only [isK] at h
    exact .inr (.inr (.inl ⟨⟨by show decide (("[]" : Str) = ("*" : Str)) = false; decide +kernel, by show decide (("[]" : Str) = ("..." : Str)) = false; decide +kernel, by show (decide (("[]" : Str) = ("[]" : Str)) || decide (("[]" : Str) = ("()" : Str))) = true; decide +kernel⟩, rfl, fun q hq => isKs_iff.mp h.2 q hq⟩))
  | inp xs tl =>
    simp only [isK] at h
    exact .inr (.inr (.inl ⟨⟨by show decide (("()" : Str) = ("*" : Str)) = false; decide +kernel, by show decide (("()" : Str) = ("..." : Str)) = false; decide +kernel, by show (decide (("()" : Str) = ("[]" : Str)) || decide (("()" : Str) = ("()" : Str))) = true; decide +kernel⟩, rfl, fun q hq => isKs_iff.mp h.2.1 q hq⟩))
  | use n vs =>
    simp only [isK] at h
    have a := h.2.1.apart
    refine .inr (.inr (.inr ⟨⟨a.a, a.d, ?_⟩, ?_⟩))
    · show (decide (n = ("[]" : Str)) || decide (n = ("()" : Str))) = false
      rw [a.f, a.e]; rfl
    · simp only [isK]; exact ⟨by first | exact .inl rfl | simp, h.2⟩
  | sig i r =>
    refine .inr (.inr (.inr ⟨⟨by show decide (("->" : Str) = ("*" : Str)) = false; decide +kernel, by show decide (("->" : Str) = ("..." : Str)) = false; decide +kernel, by show (decide (("->" : Str) = ("[]" : Str)) || decide (("->" : Str) = ("()" : Str))) = false; decide +kernel⟩, ?_⟩))
    simp only [isK] at h ⊢
    exact ⟨by first | exact .inl rfl | simp, h.2⟩
  | uni ms =>
    refine .inr (.inr (.inr ⟨⟨by show decide (("|" : Str) = ("*" : Str)) = false; decide +kernel, by show decide (("|" : Str) = ("..." : Str)) = false; decide +kernel, by show (decide (("|" : Str) = ("[]" : Str)) || decide (("|" : Str) = ("()" : Str))) = false; decide +kernel⟩, ?_⟩))
    simp only [isK] at h ⊢
    exact ⟨by first | exact .inl rfl | simp, h.2⟩
/-- what stands in a row or inputs -/
theorem Cd.innc {k dp wt : Nat} {p q : P} (h : Cd k dp wt p) (hn : isNd p = false) (hq : q ∈ inn p) : Cd 2 dp wt q ∧ (enc q).depth + 2 ≤ (enc p).depth := by
  cases p with
  | row xs =>
    obtain ⟨a, b, c⟩ := h.tight.in_row
    have c1 := c q hq
    have := c1.dep
    have hw := h.wgt
    have hd := h.dep
    have := kw_in (l := xs) hq
    exact ⟨c1.mono (by omega) (by omega), by omega⟩
  | inp xs tl =>
    obtain ⟨a, b, _, c⟩ := h.tight.in_inp
    have c1 := c q hq
    have := c1.dep
    have hw := h.wgt
    have hd := h.dep
    have := kw_in (l := xs) hq
    exact ⟨c1.mono (by omega) (by omega), by omega⟩
  | _ => simp [isNd] at hn
end Gd
namespace Gd
open PySem PySem.Spec PyProof.Rows L2
theorem argP_len (p : P) : (argP p).length ≤ (pre p).length := by
  cases p with
  | use n vs => have := pres_len vs; simp only [argP, pre, List.length_cons]; omega
  | uni ms => have := pres_len ms; simp only [argP, pre, List.length_cons]; omega
  | sig i r =>
    rw [pre]
    rw [pre_eq i, pre_eq r]
    simp only [argP, List.length_cons, List.length_nil, List.length_append]
    omega
  | _ => simp [argP]
end Gd
namespace Gd
theorem lszs_snoc : ∀ (l : List P) (q : P), lszs (l ++ [q]) = lszs l + lsz q
  | [], q => by simp [lszs]
  | p :: r, q => by
    have := lszs_snoc r q
    simp only [List.cons_append, lszs, this]
    omega
end Gd
namespace Gd
open PySem PySem.Spec PyProof.Rows L2
theorem Cd.asP {dp wt i : Nat} {ms : List P} (h : Cd 0 dp wt (.uni ms)) : Cd 0 dp (wt + 60) (asP (ms.take (i + 1))) := by
  obtain ⟨b, d2, l2, c⟩ := h.in_uni
  have l64 := h.ok.uni_len
  have nd : (ms.map lkP).Nodup := by have := h.is; simp only [isK] at this; exact this.2.2.1
  have hl : (ms.take (i + 1)).length = min (i + 1) ms.length := List.length_take
  have hs := kws_sl (List.take_sublist (i + 1) ms)
  have cm : ∀ v ∈ ms.take (i + 1), Cd 4 (dp - 2) (kw (enc v)) v := fun v hv => c v (List.mem_of_mem_take hv)
  match hm : ms.take (i + 1) with
  | [] => rw [hm] at hl; simp only [List.length_nil] at hl; omega
  | [p] =>
    have cp := cm p (by rw [hm]; simp)
    have := kw_in (x := p) (l := ms) (List.mem_of_mem_take (i := i + 1) (by rw [hm]; simp))
    exact (cp.of4).mono (by omega) (by omega)
  | p :: q :: r =>
    rw [hm] at cm hs hl
    have n2 : ((p :: q :: r).map lkP).Nodup := by rw [← hm]; exact nd_take nd
    exact (Cd.uni (dp := dp - 2) (s := wt) (fun v hv => ⟨_, cm v hv⟩) (by simp) (by omega) n2 (by omega)).mono (by omega) (Nat.le_refl _)
end Gd
namespace Gd
theorem A2.lenE {α β : Type} {R : α → β → Prop} : ∀ {l : List α} {m : List β}, A2 R l m → l.length = m.length
  | _, _, .nil => rfl
  | _, _, .cons _ t => by rw [List.length_cons, List.length_cons, A2.lenE t]
end Gd

namespace Gd
open PySem PySem.Spec PyProof.Rows L2
/-! ### zip of a tuple and a list -/
def ItzM (K : PySem.W.Frag) (a b : Addr) : It where
  go i H := ∃ (xs ys : List V) (x y : V), SqT K H a xs ∧ SqL K H b ys ∧ xs[i]? = some x ∧ ys[i]? = some y
  yld i H v H' := ∃ T x y, v = .ref T ∧ H T = none ∧ H' = upd H T (.tup [x, y]) ∧ (∀ xs, SqT K H a xs → xs[i]? = some x) ∧ ∀ ys, SqL K H b ys → ys[i]? = some y
  stop i H := ∃ xs ys : List V, SqT K H a xs ∧ SqL K H b ys ∧ i ≤ xs.length ∧ i ≤ ys.length ∧ (xs.length = i ∨ ys.length = i)
theorem sep_of {a b z TI TO i1 i2 : Addr} (D : ZipApart z TI TO i1 i2 a b) (h1 : i1 ≠ b) (h2 : i2 ≠ a) : ZipSep2 z TI TO i1 i2 [i1, a] [i2, b] where
  TIz := D.TIz
  TOz := D.TOz
  TITO := D.TITO
  TIi1 := D.TIi1
  mem1 := by simp
  zf1 := by simp [D.i1z.symm, D.l1z.symm]
  Tf1 := by simp [D.TOi1, D.l1TO.symm]
  TIi2 := D.TIi2
  mem2 := by simp
  zf2 := by simp [D.i2z.symm, D.l2z.symm]
  Tf2 := by simp [D.TOi2, D.l2TO.symm]
  sep1_2 := by simp [D.i12, h1]
  sep2_1 := by simp [D.i12.symm, h2]
/-- the five cells of a zip -/
theorem in5 {c z TI TO i1 i2 : Addr} (h : c ∈ [z, TI, TO, i1, i2]) : c = z ∨ c = TI ∨ c = TO ∨ c = i1 ∨ c = i2 := by simpa using h
theorem turn_zipM {P : Program} {w : World} {K : PySem.W.Frag} {elts : List Expr} {kk : Nat} {tpos : Pos} {a b z TI TO i1 i2 : Addr} (D : ZipApart z TI TO i1 i2 a b) :
    Turn P w K (.Tuple elts kk tpos) (ItzM K a b) [z, TI, TO, i1, i2] z (fun i h => IsZip h z TI TO .none ∧ IsTupOf2 h TI (.ref i1) (.ref i2) ∧ (∃ x y, IsTupOf2 h TO x y) ∧ h.IsTupleIter i1 a i ∧ h.IsListIter i2 b i) where
  mem := by simp
  obj := fun i h ⟨hz, hTI, ⟨x, y, hTO⟩, ⟨o1, e1, _, d1⟩, ⟨o2, e2, _, d2⟩⟩ c hc => by
    rcases in5 hc with rfl | rfl | rfl | rfl | rfl
    · exact ⟨_, hz, nofun⟩
    · exact ⟨_, hTI, nofun⟩
    · exact ⟨_, hTO, nofun⟩
    · exact ⟨o1, e1, fun v q => by rw [d1] at q; cases q⟩
    · exact ⟨o2, e2, fun v q => by rw [d2] at q; cases q⟩
  keep := fun i h h' ⟨hz, hTI, ⟨x, y, hTO⟩, h1, h2⟩ k => ⟨k z (by simp) _ hz, k TI (by simp) _ hTI, ⟨x, y, k TO (by simp) _ hTO⟩, h1.at fun o q => k i1 (by simp) o q, h2.at fun o q => k i2 (by simp) o q⟩
  item := by
    intro X hP hw hK hc i pins s σ H E I hf ⟨hz, hTI, ⟨x0, y0, hTO⟩, h1, h2⟩ ⟨xs, ys, x, y, qx, qy, hx, hy⟩
    subst hP hw hK
    obtain ⟨us, ru, pu, _⟩ := I.tuple qx
    obtain ⟨ws, rw', pw, _⟩ := I.list qy
    obtain ⟨u, hu, ru1⟩ := ru.get hx
    obtain ⟨w1, hw, rw1⟩ := rw'.get hy
    have hcal := I.ok.hd hc
    have lu : i < us.toArray.size := by rw [List.size_toArray]; exact (List.getElem?_eq_some_iff.mp hu).1
    have lw : i < ws.toArray.size := by rw [List.size_toArray]; exact (List.getElem?_eq_some_iff.mp hw).1
    have hb1 : i1 ≠ b := fun e => by
      obtain ⟨o1, e1, c1, _⟩ := h1
      obtain ⟨ob, e2, c2, _⟩ := pw.isList
      rw [e, e2] at e1
      obtain rfl := Option.some.inj e1
      rw [c2] at c1
      exact absurd c1 (by decide)
    have hb2 : i2 ≠ a := fun e => by
      obtain ⟨o1, e1, c1, _⟩ := h2
      obtain ⟨ob, e2, c2, _⟩ := pu
      rw [e, e2] at e1
      obtain rfl := Option.some.inj e1
      rw [c2] at c1
      exact absurd c1 (by decide)
    refine wpAny_pyNext_zipD2_item (sep_of D hb1 hb2) (Draws.tuple (A := X.A.in1) hcal i1 a D.l1i1 us.toArray) (Draws.list (A := X.A.in1) hcal i2 b D.l2i2 ws.toArray) hz hTI hTO ⟨h1, pu⟩ ⟨h2, pw.isList⟩ lu lw fun v1 v2 h' tk q1 q2 hz' TO' s1 s2 hT hsz hk => ?_
    obtain rfl : u = v1 := by
      have : us[i]? = some v1 := by simpa using q1
      rw [hu] at this
      exact Option.some.inj this
    obtain rfl : w1 = v2 := by
      have : ws[i]? = some v2 := by simpa using q2
      rw [hw] at this
      exact Option.some.inj this
    have zl : z < s.heap.objs.size := Heap.lt_size hz
    refine ⟨_, rfl, wpAny_letOwnedTupleGo_zip (s := { s with heap := h', toks := tk }) hz' fun h'' z'' sb => ?_⟩
    have kp : ∀ c o, c ∉ [z, TI, TO, i1, i2] → s.heap.get? c = some o → h''.get? c = some o := fun c o nc q => by
      simp only [List.mem_cons, List.not_mem_nil, or_false, not_or] at nc
      exact (sb.2 c nc.1).trans (hk c o nc.1 nc.2.2.1 nc.2.2.2.1 nc.2.2.2.2 q)
    have g2 : h''.get? s.heap.objs.size = some { cls := .type "tuple", data := .seq #[u, w1] } := (sb.2 _ (Nat.ne_of_gt zl)).trans hT
    have new : ObjOk X.prog X.w (upd H s.heap.objs.size (.tup [x, y])) h'' s.heap.objs.size (.tup [x, y]) :=
      ⟨by show 2 ≤ sizeLine; decide, [u, w1], .cons ru1 (.cons rw1 .nil), ⟨_, g2, rfl, _, rfl⟩⟩
    have J : Inv X pins σ (upd H s.heap.objs.size (.tup [x, y])) { s with heap := h'', toks := tk } := I.turnedNew (t' := tk) (ch := [z, TI, TO, i1, i2]) kp hf (Nat.le_refl _) new
    refine ⟨.ref s.heap.objs.size, _, J, rfl, ⟨_, x, y, rfl, I.hok.fresh (Nat.le_refl _), rfl, fun l hl => by rw [I.tuple_inj hl qx]; exact hx, fun l hl => by rw [I.list_inj hl qy]; exact hy⟩, ⟨z'', (sb.2 _ D.TIz).trans (hk _ _ D.TIz D.TITO D.TIi1 D.TIi2 hTI), ⟨u, w1, (sb.2 _ D.TOz).trans TO'⟩, s1.1.at fun o q => (sb.2 _ D.i1z).trans q, s2.1.at fun o q => (sb.2 _ D.i2z).trans q⟩, fun c hcm => ?_⟩
    have hlt : c < s.heap.objs.size := by
      rcases in5 hcm with rfl | rfl | rfl | rfl | rfl
      · exact zl
      · exact Heap.lt_size hTI
      · exact Heap.lt_size hTO
      · obtain ⟨_, e1, _⟩ := h1; exact Heap.lt_size e1
      · obtain ⟨_, e2, _⟩ := h2; exact Heap.lt_size e2
    rw [upd_ne (Nat.ne_of_lt hlt)]
    exact (hf c hcm).1
  done := by
    intro X hP hw hK hc i pins s σ H E I hf ⟨hz, hTI, ⟨x0, y0, hTO⟩, h1, h2⟩ ⟨xs, ys, qx, qy, l1, l2, hend⟩
    subst hP hw hK
    obtain ⟨us, ru, pu, _⟩ := I.tuple qx
    obtain ⟨ws, rw', pw, _⟩ := I.list qy
    have e1 := ru.length
    have e2 := rw'.length
    have hcal := I.ok.hd hc
    have hb1 : i1 ≠ b := fun e => by
      obtain ⟨o1, e1, c1, _⟩ := h1
      obtain ⟨ob, e2, c2, _⟩ := pw.isList
      rw [e, e2] at e1
      obtain rfl := Option.some.inj e1
      rw [c2] at c1
      exact absurd c1 (by decide)
    have hb2 : i2 ≠ a := fun e => by
      obtain ⟨o1, e1, c1, _⟩ := h2
      obtain ⟨ob, e2, c2, _⟩ := pu
      rw [e, e2] at e1
      obtain rfl := Option.some.inj e1
      rw [c2] at c1
      exact absurd c1 (by decide)
    refine wpAny_pyNext_zipD2_end (sep_of D hb1 hb2) (Draws.tuple (A := X.A.in1) hcal i1 a D.l1i1 us.toArray) (Draws.list (A := X.A.in1) hcal i2 b D.l2i2 ws.toArray) hz hTI hTO ⟨h1, pu⟩ ⟨h2, pw.isList⟩ (by rw [List.size_toArray]; omega) (by rw [List.size_toArray]; omega) (by rw [List.size_toArray, List.size_toArray]; omega) fun h' tk hk => ⟨rfl, I.turnedL (t' := tk) (ch := [z, TI, TO, i1, i2]) (fun c o nc q => ?_) hf⟩
    simp only [List.mem_cons, List.not_mem_nil, or_false, not_or] at nc
    exact hk c o nc.1 nc.2.2.1 nc.2.2.2.1 nc.2.2.2.2 q
  self := fun A i s Q E st h => wpAny_pyIter_zip st.1 h
def iZipM (K : PySem.W.Frag) (ta : TA) : TI := fun σ H R => ta σ H fun vs H1 => ∃ a b xs ys, vs = [.ref a, .ref b] ∧ SqT K H1 a xs ∧ SqL K H1 b ys ∧ R (ItzM K a b) H1
end Gd
namespace Gd
open PySem PySem.Spec PyProof.Rows L2
theorem pi_zipM {X : Cx} {e e2 : Expr} {ta : TA} {p pos tpos : Pos} {elts : List Expr} {kk : Nat} (hg : Gl X "zip") (hm : X.mg "zip" = none) (ha : PA X [e, e2] ta)
    (hs : starEach [e, e2] X.env = (false, eval e X.env) :: starEach [e2] X.env := by rfl) (hpl : (backTo pos (starEach [e2] X.env)).any (·.1) = false := by rfl) :
    PI X (.Tuple elts kk tpos) (.Call (.Name "zip" p) [e, e2] [] pos) (iZipM X.K ta) := by
  refine ⟨fun pins s σ H R I h => ?_⟩
  refine Call_ (ld_blt I hg hm PyProof.Rows.boot_zip (PyProof.Rows.callWith_type1 (thn (ha.run pos pins s σ H _ I h) fun us s1 ⟨vs, H1, I1, r1, a, b, xs, ys, ex, qx, qy, q⟩ => ?_) hs hpl))
  subst ex
  cases r1 with
  | cons r rr =>
    cases rr with
    | cons r' rr =>
      cases rr
      cases r
      cases r'
      obtain ⟨us, ru, pu, _⟩ := I1.tuple qx
      obtain ⟨ws, rw', pw, _⟩ := I1.list qy
      obtain ⟨oa, ga, _⟩ := id pu
      have la : a < s1.heap.objs.size := Heap.lt_size ga
      have lb : b < s1.heap.objs.size := pw.lt
      refine zip_begins2 (begins_tuple a us.toArray) (begins_list b ws.toArray) pu pw.isList fun h' hz hTI hTO g1 g2 hsz hk => wpAny_pyIter_zip hz ?_
      have I2 : Inv X pins σ H1 { s1 with heap := h' } := I1.kept (t' := s1.toks) hk
      refine ⟨s1.heap.objs.size + 4, [s1.heap.objs.size + 4, s1.heap.objs.size + 2, s1.heap.objs.size + 3, s1.heap.objs.size, s1.heap.objs.size + 1], _, _, H1, rfl, I2, turn_zipM (PySem.W.ktu_apart s1.heap.objs.size a b la lb), ⟨hz, hTI, ⟨_, _, hTO⟩, ⟨_, g1, rfl, rfl⟩, ⟨_, g2, rfl, rfl⟩⟩, fun c hcm => ?_, q⟩
      have le : s1.heap.objs.size ≤ c := by
        rcases in5 hcm with rfl | rfl | rfl | rfl | rfl <;> first | exact Nat.le_add_right _ _ | exact Nat.le_refl _
      exact I1.fpOk le (I1.hok.fresh le)
section
variable {K : PySem.W.Frag} {g : TG} {tt : TT} {te : TE} {vs : List Nat} {σ : L2.St} {H1 : Hp} {Q : VK}
theorem r_izM {ta : TA} {σ : L2.St} {H : Hp} {R : It → Hp → Prop} (h : ta σ H fun vs H1 => ∃ a b xs ys, vs = [V.ref a, .ref b] ∧ SqT K H1 a xs ∧ SqL K H1 b ys ∧ R (ItzM K a b) H1) : iZipM K ta σ H R := h
theorem lc_Z {a b : Addr} {xs ys : List V} (ha : H1 a = some (.tup xs)) (hb : H1 b = some (.lst ys)) (hl : xs.length = ys.length) (h5 : xs.length ≤ 100000) (R : Addr → Nat → List V → Hp → Prop)
    (h0 : ∀ D H2, H1 D = none → Up H1 H2 → H2 D = some (.lst []) → R D 0 [] H2) (hs : ∀ D i acc H2, R D i acc H2 → H2 a = some (.tup xs) ∧ H2 b = some (.lst ys))
    (ht : ∀ D i x y T acc H2, H1 D = none → xs[i]? = some x → ys[i]? = some y → R D i acc H2 → acc.length ≤ i → i < 100000 → H2 D = some (.lst acc) → H2 T = none →
      ∀ H3, Up H2 H3 → H3 T = some (.tup [x, y]) → g (.ref T) (wipe σ vs) H3 fun σ2 H3 => wipe σ2 vs = wipe σ vs ∧ tt σ2 H3 fun b H4 => if b = true then te σ2 H4 (LcE D (R D) i) else LcP D (R D) (i + 1) H4)
    (hd : ∀ D acc H2, H1 D = none → R D xs.length acc H2 → H2 D = some (.lst acc) → Q (.ref D) H2) :
    ∃ a' b' xs ys, [V.ref a, V.ref b] = [V.ref a', V.ref b'] ∧ SqT K H1 a' xs ∧ SqL K H1 b' ys ∧ lcB (ItzM K a' b') g tt te vs σ Q H1 := by
  refine ⟨a, b, xs, ys, rfl, SqT.of ha, SqL.of hb, fun D hn => ?_⟩
  refine ⟨fun i m H => m = xs.length - i ∧ i ≤ xs.length ∧ LcP D (R D) i H, ⟨xs.length, by simp, Nat.zero_le _, [], h0 D _ hn (Up.new hn) upd_same, Nat.le_refl _, upd_same⟩, ?_⟩
  rintro i m H ⟨rfl, hi, acc, r, l, e⟩
  obtain ⟨e1, e2⟩ := hs D i acc H r
  by_cases hlt : i < xs.length
  · have hx : xs[i]? = some xs[i] := List.getElem?_eq_getElem hlt
    have hy : ys[i]? = some (ys[i]'(by omega)) := List.getElem?_eq_getElem (by omega)
    refine .inr ⟨⟨xs, ys, _, _, SqT.of e1, SqL.of e2, hx, hy⟩, LcP D (R D) (i + 1), fun H' p' => ⟨xs.length - (i + 1), by omega, rfl, hlt, p'⟩, fun v H' ⟨T, x, y, ev, hT, eH, f1, f2⟩ => ?_⟩
    subst ev eH
    exact ht D i x y T acc H hn (f1 xs (SqT.of e1)) (f2 ys (SqL.of e2)) r l (by omega) e hT _ (Up.new hT) upd_same
  · have ei : i = xs.length := by omega
    subst ei
    exact .inl ⟨⟨xs, ys, SqT.of e1, SqL.of e2, Nat.le_refl _, by omega, Or.inl rfl⟩, hd D acc H hn r e⟩
end
end Gd

namespace Gd
open PySem PySem.Spec PyProof.Rows L2
/-! ### texts of parts -/
def parT (m : P) (hs : List Str) (t : Str) : Str := if hd m ∈ hs then ("(" : Str) ++ t ++ (")" : Str) else t
def asV (m : P) (t : Str) : Str := if hd m = ("()" : Str) then ("[" : Str) ++ t ++ ("]" : Str) else t
def isR0 : P → Bool
  | .row [] => true
  | _ => false
def valsT : List P → List Str → List Str
  | v :: vs, t :: ts => if isR0 v = true then valsT vs ts else asV v t :: valsT vs ts
  | _, _ => []
def parsT (hs : List Str) : List P → List Str → List Str
  | v :: vs, t :: ts => parT v hs t :: parsT hs vs ts
  | _, _ => []
def tlx (s : Str) : Str := if s = ("..." : Str) then s else ("**" : Str) ++ s
def tltx : Option Str → List Str
  | none => []
  | some s => [tlx s]
def fin : P → List Str → Str
  | .use n vs, ts => if vs = [] then n else n ++ ("[" : Str) ++ Txt.join (", " : Str) (valsT vs ts) ++ ("]" : Str)
  | .sig _ r, [t0, t1] => ("(" : Str) ++ t0 ++ (") -> " : Str) ++ parT r [("|" : Str)] t1
  | .uni ms, ts => Txt.join (" | " : Str) (parsT [("->" : Str)] ms ts)
  | .row _, ts => Txt.join (", " : Str) ts
  | .inp _ _, ts => Txt.join (", " : Str) ts
  | .star n, _ => ("*" : Str) ++ n
  | .dots t, [t0] => parT t [("|" : Str), ("->" : Str)] t0 ++ ("..." : Str)
  | .tail s, _ => tlx s
  | _, _ => ("" : Str)
mutual
def tx : P → Str
  | .use n vs => fin (.use n vs) (txs vs)
  | .sig i r => fin (.sig i r) [tx i, tx r]
  | .uni ms => fin (.uni ms) (txs ms)
  | .row xs => fin (.row xs) (txs xs)
  | .inp xs tl => fin (.inp xs tl) (txs xs ++ tltx tl)
  | .star n => fin (.star n) []
  | .dots t => fin (.dots t) [tx t]
  | .tail s => fin (.tail s) []
def txs : List P → List Str
  | [] => []
  | p :: r => tx p :: txs r
end
theorem txs_map : ∀ l : List P, txs l = l.map tx
  | [] => rfl
  | p :: r => by simp [txs, txs_map r]
theorem tx_fin (p : P) : tx p = fin p (txs (parts p)) := by
  cases p with
  | inp xs tl =>
    rw [tx]
    cases tl with
    | none => simp [parts, tails, tltx]
    | some s => simp [parts, tails, tltx, txs_map, tx, fin]
  | star n => rw [tx]; rfl
  | tail s => rw [tx]; rfl
  | _ => rw [tx]; rfl
/-! how long they are -/
theorem parT_len (m : P) (hs : List Str) (t : Str) : (parT m hs t).length ≤ t.length + 2 := by
  have e1 : ("(" : Str).length = 1 := by decide +kernel
  have e2 : (")" : Str).length = 1 := by decide +kernel
  unfold parT
  split
  · rw [slen_app, slen_app, e1, e2]; omega
  · omega
theorem asV_len (m : P) (t : Str) : (asV m t).length ≤ t.length + 2 := by
  unfold asV
  split
  · rw [slen_app, slen_app, l_o, l_c]; omega
  · omega
theorem valsT_len : ∀ (vs : List P) (ts : List Str), ((valsT vs ts).map (·.length)).sum + 2 * (valsT vs ts).length ≤ (ts.map (·.length)).sum + 4 * ts.length
  | [], ts => by simp [valsT]
  | _ :: _, [] => by simp [valsT]
  | v :: vs, t :: ts => by
    have h := valsT_len vs ts
    have h2 := asV_len v t
    simp only [valsT]
    split
    · simp only [List.map_cons, List.sum_cons, List.length_cons]; omega
    · simp only [List.map_cons, List.sum_cons, List.length_cons]; omega
theorem parsT_len (hs : List Str) : ∀ (vs : List P) (ts : List Str), ((parsT hs vs ts).map (·.length)).sum + 3 * (parsT hs vs ts).length ≤ (ts.map (·.length)).sum + 5 * ts.length
  | [], ts => by simp [parsT]
  | _ :: _, [] => by simp [parsT]
  | v :: vs, t :: ts => by
    have h := parsT_len hs vs ts
    have h2 := parT_len v hs t
    simp only [parsT, List.map_cons, List.sum_cons, List.length_cons]
    omega
theorem tlx_len (s : Str) : (tlx s).length ≤ s.length + 2 := by
  have e : ("**" : Str).length = 2 := by decide +kernel
  unfold tlx
  split
  · omega
  · rw [slen_app, e]; omega
theorem cs_len : (", " : Str).length = 2 := by decide +kernel
theorem bar_len : (" | " : Str).length = 3 := by decide +kernel
mutual
theorem tx_len : ∀ p : P, (tx p).length ≤ kw (enc p)
  | .use n vs => by
    have h := txs_len vs
    have j := slen_join (", " : Str) (valsT vs (txs vs))
    have v := valsT_len vs (txs vs)
    rw [tx]
    simp only [fin, enc, kw, kws]
    split
    · omega
    · rw [slen_app, slen_app, slen_app, l_o, l_c]
      rw [cs_len] at j
      omega
  | .sig i r => by
    have h1 := tx_len i
    have h2 := tx_len r
    have h3 := parT_len r [("|" : Str)] (tx r)
    have e1 : ("(" : Str).length = 1 := by decide +kernel
    have e2 : (") -> " : Str).length = 5 := by decide +kernel
    rw [tx]
    simp only [fin, enc, kw, kws]
    rw [slen_app, slen_app, slen_app, e1, e2]
    omega
  | .uni ms => by
    have h := txs_len ms
    have j := slen_join (" | " : Str) (parsT [("->" : Str)] ms (txs ms))
    have v := parsT_len [("->" : Str)] ms (txs ms)
    rw [tx]
    simp only [fin, enc, kw, kws]
    rw [bar_len] at j
    omega
  | .row xs => by
    have h := txs_len xs
    have j := slen_join (", " : Str) (txs xs)
    rw [tx]
    simp only [fin, enc, kw, kws]
    rw [cs_len] at j
    omega
  | .inp xs tl => by
    have h := txs_len xs
    have j := slen_join (", " : Str) (txs xs ++ tltx tl)
    rw [tx]
    simp only [fin, enc, kw, kws]
    rw [cs_len, List.map_append, List.sum_append, List.length_append] at j
    have e : ((tltx tl).map (·.length)).sum + 2 * (tltx tl).length ≤ kw (tlD tl) := by
      cases tl with
      | none => simp [tltx]
      | some s =>
        have := tlx_len s
        simp only [tltx, tlD, kw, List.map_cons, List.map_nil, List.sum_cons, List.sum_nil, List.length_cons, List.length_nil]
        omega
    omega
  | .star n => by
    have e : ("*" : Str).length = 1 := by decide +kernel
    rw [tx]
    simp only [fin, enc, kw, kws, slen_app, e]
    omega
  | .dots t => by
    have h := tx_len t
    have h3 := parT_len t [("|" : Str), ("->" : Str)] (tx t)
    have e : ("..." : Str).length = 3 := by decide +kernel
    rw [tx]
    simp only [fin, enc, kw, kws, slen_app, e]
    omega
  | .tail s => by
    have := tlx_len s
    rw [tx]
    simp only [fin, enc, kw, kws]
    omega
theorem txs_len : ∀ l : List P, ((txs l).map (·.length)).sum + 5 * (txs l).length ≤ kws (encs l)
  | [] => by simp [txs]
  | p :: r => by
    have h1 := tx_len p
    have h2 := txs_len r
    simp only [txs, encs, kws, List.map_cons, List.sum_cons, List.length_cons]
    omega
end
/-! a value that is a row without items -/
theorem eqv_row0 {v : P} {k : Nat} (h : isK v k) : PyData.eqv (enc v) (.tuple [.str ("[]" : Str), .tuple []]) = isR0 v := by
  cases v with
  | use n vs =>
    simp only [isK] at h
    have := h.2.1.apart.f
    simp only [enc, PyData.eqv, PyData.eqvAll, isR0]
    rw [show (n == ("[]" : Str)) = false from beq_eq_false_iff_ne.mpr (of_decide_eq_false this)]
    rfl
  | sig i r => simp only [enc, PyData.eqv, PyData.eqvAll, isR0]; rw [show (("->" : Str) == ("[]" : Str)) = false from by decide +kernel]; rfl
  | uni ms => simp only [enc, PyData.eqv, PyData.eqvAll, isR0]; rw [show (("|" : Str) == ("[]" : Str)) = false from by decide +kernel]; rfl
  | row xs =>
    cases xs with
    | nil => simp [enc, encs, PyData.eqv, PyData.eqvAll, isR0]
    | cons a r => simp [enc, encs, PyData.eqv, PyData.eqvAll, isR0]
  | inp xs tl => simp only [enc, PyData.eqv, PyData.eqvAll, isR0]; rw [show (("()" : Str) == ("[]" : Str)) = false from by decide +kernel]; rfl
  | star n => simp only [enc, PyData.eqv, PyData.eqvAll, isR0]; rw [show (("*" : Str) == ("[]" : Str)) = false from by decide +kernel]; rfl
  | dots t => simp only [enc, PyData.eqv, PyData.eqvAll, isR0]; rw [show (("..." : Str) == ("[]" : Str)) = false from by decide +kernel]; rfl
  | tail s => simp [isK] at h
end Gd
namespace Gd
open PySem PySem.Spec PyProof.Rows L2
theorem eqv_row0' {v : P} (h : hok v) : PyData.eqv (enc v) (.tuple [.str ("[]" : Str), .tuple []]) = isR0 v := by
  cases v with
  | use n vs =>
    have := good.apart (n := n) h
    simp only [enc, PyData.eqv, PyData.eqvAll, isR0]
    rw [show (n == ("[]" : Str)) = false from beq_eq_false_iff_ne.mpr (of_decide_eq_false this.f)]
    rfl
  | tail s => simp only [enc, PyData.eqv, PyData.eqvAll, isR0]; rw [show (("**" : Str) == ("[]" : Str)) = false from by decide +kernel]; rfl
  | sig i r => simp only [enc, PyData.eqv, PyData.eqvAll, isR0]; rw [show (("->" : Str) == ("[]" : Str)) = false from by decide +kernel]; rfl
  | uni ms => simp only [enc, PyData.eqv, PyData.eqvAll, isR0]; rw [show (("|" : Str) == ("[]" : Str)) = false from by decide +kernel]; rfl
  | row xs =>
    cases xs with
    | nil => simp [enc, encs, PyData.eqv, PyData.eqvAll, isR0]
    | cons a r => simp [enc, encs, PyData.eqv, PyData.eqvAll, isR0]
  | inp xs tl => simp only [enc, PyData.eqv, PyData.eqvAll, isR0]; rw [show (("()" : Str) == ("[]" : Str)) = false from by decide +kernel]; rfl
  | star n => simp only [enc, PyData.eqv, PyData.eqvAll, isR0]; rw [show (("*" : Str) == ("[]" : Str)) = false from by decide +kernel]; rfl
  | dots t => simp only [enc, PyData.eqv, PyData.eqvAll, isR0]; rw [show (("..." : Str) == ("[]" : Str)) = false from by decide +kernel]; rfl
mutual
theorem lay_pre : ∀ (p : P), (enc p).canLay0 = true → ∀ q ∈ pre p, (enc q).canLay0 = true ∧ (enc q).depth ≤ (enc p).depth
  | .use n vs, h, q, hq => by
    simp only [pre, List.mem_cons] at hq
    rcases hq with rfl | hq
    · exact ⟨h, Nat.le_refl _⟩
    · simp only [enc, PyData.canLay0, PyData.canLayAll0, Bool.and_eq_true] at h
      obtain ⟨a, b⟩ := lays_pre vs h.2.1 q hq
      refine ⟨a, ?_⟩
      simp only [enc, PyData.depth, PyData.depthAll] at b ⊢
      omega
  | .sig i r, h, q, hq => by
    simp only [pre, List.mem_cons, List.mem_append] at hq
    rcases hq with rfl | hq | hq
    · exact ⟨h, Nat.le_refl _⟩
    · simp only [enc, PyData.canLay0, PyData.canLayAll0, Bool.and_eq_true] at h
      obtain ⟨a, b⟩ := lay_pre i h.2.1 q hq
      refine ⟨a, ?_⟩
      simp only [enc, PyData.depth, PyData.depthAll] at b ⊢
      omega
    · simp only [enc, PyData.canLay0, PyData.canLayAll0, Bool.and_eq_true] at h
      obtain ⟨a, b⟩ := lay_pre r h.2.2.1 q hq
      refine ⟨a, ?_⟩
      simp only [enc, PyData.depth, PyData.depthAll] at b ⊢
      omega
  | .uni ms, h, q, hq => by
    simp only [pre, List.mem_cons] at hq
    rcases hq with rfl | hq
    · exact ⟨h, Nat.le_refl _⟩
    · simp only [enc, PyData.canLay0, PyData.canLayAll0, Bool.and_eq_true] at h
      obtain ⟨a, b⟩ := lays_pre ms h.2.1 q hq
      refine ⟨a, ?_⟩
      simp only [enc, PyData.depth, PyData.depthAll] at b ⊢
      omega
  | .row xs, h, q, hq => by
    simp only [pre, List.mem_cons] at hq
    rcases hq with rfl | hq
    · exact ⟨h, Nat.le_refl _⟩
    · simp only [enc, PyData.canLay0, PyData.canLayAll0, Bool.and_eq_true] at h
      obtain ⟨a, b⟩ := lays_pre xs h.2.1 q hq
      refine ⟨a, ?_⟩
      simp only [enc, PyData.depth, PyData.depthAll] at b ⊢
      omega
  | .inp xs tl, h, q, hq => by
    simp only [pre, List.mem_cons, List.mem_append] at hq
    rcases hq with rfl | hq | hq
    · exact ⟨h, Nat.le_refl _⟩
    · simp only [enc, PyData.canLay0, PyData.canLayAll0, Bool.and_eq_true] at h
      obtain ⟨a, b⟩ := lays_pre xs h.2.1 q hq
      refine ⟨a, ?_⟩
      simp only [enc, PyData.depth, PyData.depthAll] at b ⊢
      omega
    · cases tl with
      | none => simp [tails] at hq
      | some s =>
        simp only [tails, List.mem_singleton] at hq
        subst hq
        simp only [enc, tlD, PyData.canLay0, PyData.canLayAll0, Bool.and_eq_true] at h
        refine ⟨?_, ?_⟩
        · simp only [enc, PyData.canLay0, PyData.canLayAll0, Bool.and_eq_true]
          exact ⟨by decide +kernel, h.2.2.1, trivial⟩
        · simp only [enc, PyData.depth, PyData.depthAll]
          omega
  | .star n, h, q, hq => by
    simp only [pre, List.mem_singleton] at hq
    subst hq
    exact ⟨h, Nat.le_refl _⟩
  | .dots t, h, q, hq => by
    simp only [pre, List.mem_cons] at hq
    rcases hq with rfl | hq
    · exact ⟨h, Nat.le_refl _⟩
    · simp only [enc, PyData.canLay0, PyData.canLayAll0, Bool.and_eq_true] at h
      obtain ⟨a, b⟩ := lay_pre t h.2.1 q hq
      refine ⟨a, ?_⟩
      simp only [enc, PyData.depth, PyData.depthAll] at b ⊢
      omega
  | .tail s, h, q, hq => by
    simp only [pre, List.mem_singleton] at hq
    subst hq
    exact ⟨h, Nat.le_refl _⟩
theorem lays_pre : ∀ (l : List P), PyData.canLayAll0 (encs l) = true → ∀ q ∈ pres l, (enc q).canLay0 = true ∧ (enc q).depth ≤ PyData.depthAll (encs l)
  | [], _, q, hq => by simp [pres] at hq
  | p :: r, h, q, hq => by
    simp only [encs, PyData.canLayAll0, Bool.and_eq_true] at h
    simp only [pres, List.mem_append] at hq
    simp only [encs, PyData.depthAll]
    rcases hq with hq | hq
    · obtain ⟨a, b⟩ := lay_pre p h.1 q hq
      exact ⟨a, by omega⟩
    · obtain ⟨a, b⟩ := lays_pre r h.2 q hq
      exact ⟨a, by omega⟩
end
structure hokW (q : P) : Prop where
  ok : hok q
  wt : kw (enc q) ≤ 90000
  lay : (enc q).canLay0 = true
  dep : (enc q).depth ≤ 60
  sub : ∀ v ∈ parts q, hok v
theorem Cd.hokW {k dp wt : Nat} {p : P} (h : Cd k dp wt p) (hw : wt ≤ 90000) (hd : dp ≤ 60) : ∀ q ∈ pre p, hokW q := fun q hq => by
  obtain ⟨a, b⟩ := lay_pre p h.lay q hq
  have w1 := h.wgt
  have d1 := h.dep
  obtain ⟨_, _, w2⟩ := h.hokU hw q hq
  exact ⟨isK_pre p k h.is q hq, w2, a, by omega, fun v hv => isK_pre p k h.is v (pre_part p hq hv)⟩
end Gd

namespace Gd
open PySem PySem.Spec PyProof.Rows L2
section
variable {K : PySem.W.Frag} {σ : L2.St} {H : Hp} {Q : Str → Hp → Prop} {acc s : Str} {ts : List TE} {te : TE}
theorem r_js0 (q : Q acc H) : tJs [] acc σ H Q := q
theorem r_jsC (hl : (acc ++ s).length ≤ sizeLine) (q : tJs ts (acc ++ s) σ H Q) : tJs (tC (.str s) :: ts) acc σ H Q := ⟨s, rfl, hl, q⟩
theorem r_jsF (h : te σ H fun x H1 => ∃ y : Str, x = .str y ∧ y.length ≤ sizeLine ∧ (acc ++ y).length ≤ sizeLine ∧ tJs ts (acc ++ y) σ H1 Q) (mono : ∀ (R R' : V → Hp → Prop), (∀ x H1, R x H1 → R' x H1) → te σ H R → te σ H R') : tJs (tFmt te :: ts) acc σ H Q :=
  mono _ _ (fun x H1 ⟨y, ex, hy, hl, q⟩ => Or.inl ⟨y, ex, hy, y, rfl, hl, q⟩) h
theorem r_jsV {i : Nat} (hv : σ[i]? = some (some (.str s))) (hs : s.length ≤ sizeLine) (hl : (acc ++ s).length ≤ sizeLine) (q : tJs ts (acc ++ s) σ H Q) : tJs (tFmt (tVar i) :: ts) acc σ H Q :=
  ⟨_, hv, Or.inl ⟨s, rfl, hs, s, rfl, hl, q⟩⟩
theorem r_fmt {Q : VK} (h : te σ H fun x H1 => (∃ y : Str, x = .str y ∧ y.length ≤ sizeLine ∧ Q (.str y) H1) ∨ ∃ i : Int, x = .int i ∧ i.natAbs.log2 < 1920 ∧ Q (.str (toString i)) H1) : tFmt te σ H Q := h
theorem r_jsT (h : tFmt te σ H fun x H1 => ∃ y : Str, x = .str y ∧ (acc ++ y).length ≤ sizeLine ∧ tJs ts (acc ++ y) σ H1 Q) : tJs (tFmt te :: ts) acc σ H Q := h
end
section
variable {H : Hp} {Q : VK} {K : PySem.W.Frag}
theorem emp_app (s : Str) : Str.empty ++ s = s := by
  show (⟨Str.empty.cps ++ s.cps⟩ : Str) = s
  have : Str.empty.cps = #[] := rfl
  rw [this, Array.empty_append]
end
end Gd
namespace Gd
open PySem PySem.Spec PyProof.Rows L2
section
variable {H : Hp} {Q : VK} {K : PySem.W.Frag}
theorem r_isTp {p : Addr} {s : Str} {ks : List Str} (h : H p = some (.tup (ks.map V.str))) (q : Q (.bl (decide (s ∈ ks))) H) : rIn K false (.str s) (.ref p) H Q :=
  ⟨p, _, rfl, Or.inr (SqT.of h), rfl, by simp [flatV], by
    simp only [Bool.false_eq_true, if_false]
    rw [inV_strs]; exact q⟩
end
theorem valsT_snoc : ∀ (vs : List P) (ts : List Str) (v : P) (t : Str), vs.length = ts.length → valsT (vs ++ [v]) (ts ++ [t]) = valsT vs ts ++ (if isR0 v = true then [] else [asV v t])
  | [], [], v, t, _ => by simp only [List.nil_append, valsT]
  | [], _ :: _, _, _, h => by simp at h
  | _ :: _, [], _, _, h => by simp at h
  | a :: vs, b :: ts, v, t, h => by
    have ih := valsT_snoc vs ts v t (by simpa using h)
    simp only [List.cons_append, valsT, ih]
    split <;> simp
theorem parsT_snoc (hs : List Str) : ∀ (vs : List P) (ts : List Str) (v : P) (t : Str), vs.length = ts.length → parsT hs (vs ++ [v]) (ts ++ [t]) = parsT hs vs ts ++ [parT v hs t]
  | [], [], v, t, _ => rfl
  | [], _ :: _, _, _, h => by simp at h
  | _ :: _, [], _, _, h => by simp at h
  | a :: vs, b :: ts, v, t, h => by
    have ih := parsT_snoc hs vs ts v t (by simpa using h)
    simp only [List.cons_append, parsT, ih]
theorem valsT_le (vs : List P) (ts : List Str) : (valsT vs ts).length ≤ vs.length := by
  induction vs generalizing ts with
  | nil => simp [valsT]
  | cons a r ih =>
    cases ts with
    | nil => simp [valsT]
    | cons t ts =>
      have := ih ts
      simp only [valsT]
      split
      · simp only [List.length_cons]; omega
      · simp only [List.length_cons]; omega
theorem txs_at {l : List P} {i : Nat} {p : P} (h : l[i]? = some p) : (txs l)[i]? = some (tx p) := by rw [txs_map, List.getElem?_map, h]; rfl
theorem txs_take (l : List P) (i : Nat) : (txs l).take i = txs (l.take i) := by rw [txs_map, txs_map, List.map_take]
theorem txs_ln (l : List P) : (txs l).length = l.length := by rw [txs_map, List.length_map]
theorem tx_le {p : P} {n : Nat} (h : kw (enc p) ≤ n) : (tx p).length ≤ n := Nat.le_trans (tx_len p) h
end Gd
namespace Gd
open PySem PySem.Spec PyProof.Rows L2
section
variable {X : Cx} {K : PySem.W.Frag}
theorem op_neDk (hK : X.K = K) (hu : X.A.units + 64 < cLine) : OpR X (compareOp .NotEq) (rNeD K) := hK ▸ op_neD hu
theorem pg_tupK {es : List Expr} {k : Nat} {t : TGs} {n : Nat} {pos : Pos} (hK : X.K = K) (hc : X.calm = true) (h : PGs X es t)
    (hn : (assignEach es X.env).length = n := by rfl) (hst : (assignEach es X.env).findIdx? (·.1) = none := by rfl) : PG X (.Tuple es k pos) (gTup K n t) := hK ▸ pg_tup hc h hn hst
end
end Gd

namespace Gd
open PySem PySem.Spec PyProof.Rows L2
/-! ### a call of a local that holds one of several defs -/
section
variable {X : Cx} {CX : CXT} {k i : Nat} {E : XK} {x : Str} {p pos : Pos} {e : Expr} {es : List Expr} {t : TA}
def tGLs (i : Nat) (R : Addr → Sp → Prop) (E : XK) (t : TA) : TE := fun σ H Q => ∃ f sp, R f sp ∧ σ[i]? = some (some (.ref f)) ∧ t σ H fun vs H1 => sp vs H1 Q E
theorem pe_gLs {R : Addr → Sp → Prop} (F : ∀ f sp, R f sp → ∃ (fd : FuncData) (ps : List Str), PySem.W.keepIn X.K (.ref f) = true ∧ Binds X.K fd ps [] ∧ FG X.prog X.w X.K X.mg X.base CX k f fd ps sp)
    (hg : X.A.guards = some []) (hr : Room k X.A) (hN : X.N[i]? = some x) (hv : Vis X.env.scope x) (hx : Passes CX X E) (ha : PA X (e :: es) t)
    (hdb : (x == ("__debug__" : Str)) = false := by decide) (hcd : (x == ("__classdict__" : Str)) = false := by decide)
    (he : starEach (e :: es) X.env = (false, eval e X.env) :: starEach es X.env := by rfl) (hpl : (backTo pos (starEach es X.env)).any (·.1) = false := by rfl) : PE X (.Call (.Name x p) (e :: es) [] pos) (tGLs i R E t) := by
  refine ⟨fun pins s σ H Q I h => ?_⟩
  obtain ⟨f, sp, hR, hs, ht⟩ := h
  obtain ⟨fd, ps, kp, bd, G⟩ := F f sp hR
  refine wpAny_Call_Name_kw (thn ((pe_var (pos := p) hN hv hdb hcd).run pins s σ H (fun v H1 => v = .ref f ∧ H1 = H) I ⟨.ref f, hs, rfl, rfl⟩) fun u s1 ⟨v, H1, I1, r1, q1⟩ => ?_)
  obtain ⟨rfl, rfl⟩ := q1
  cases r1
  refine PySem.W.callWith_K (h₀ := X.base) I.ok.mod.kin kp (thn (ha.run pos pins s1 σ _ _ I1 ht) fun us s2 ⟨vs, H2, I2, r, q⟩ => ⟨I2.kIn, ?_⟩) he hpl
  exact run_g G hg hr bd hx I2 r q
end
section
variable {K : PySem.W.Frag} {w : World} {σ : L2.St} {H : Hp} {Q : VK} {t : TA}
theorem r_gLs {i : Nat} {f : Addr} {sp : Sp} {E : XK} {R : Addr → Sp → Prop} (hR : R f sp) (h : σ[i]? = some (some (.ref f))) (q : t σ H fun vs H1 => sp vs H1 Q E) : tGLs i R E t σ H Q := ⟨f, sp, hR, h, q⟩
theorem r_ixD {d f : Addr} {z : Str} {ks : List Str} (D : KD K w d ks) (e : PySem.W.nsIn K d z = some (some (.ref f))) (q : Q (.ref f) H) : rIxD K w (.ref d) (.str z) H Q := by
  obtain ⟨es, n, k, _⟩ := D.ex
  exact ⟨d, z, .ref f, rfl, rfl, ⟨es, n, .ref f, k.at_, k.lit, e, rfl⟩, q⟩
theorem r_truS {y : Str} {R : Bool → Prop} (h : y.length ≤ 1000000) (q : R ((y.length : Int) != 0)) : ∃ k, TruV K (.str y) H k ∧ R k := ⟨_, ⟨Nat.le_trans h (by decide), rfl⟩, q⟩
end
section
variable {X : Cx} {K : PySem.W.Frag}
theorem ix_tupK (hK : X.K = K) : IxR X (rIxT K) := hK ▸ ix_tup
theorem pt_truthK {a : Expr} {ta : TE} (hK : X.K = K) (ha : PE X a ta) (he : ∀ whole, isTrue a X.env whole = (do let v ← whole; standAt a.pos; holding [v] (truthy v))) :
    PT X a (fun σ H Q => ta σ H fun x H' => ∃ k, TruV K x H' k ∧ Q k H') := hK ▸ pt_truth ha he
end
/-! ### texts are not empty -/
theorem join_ge (z x : Str) (r : List Str) : x.length ≤ (Txt.join z (x :: r)).length := by
  rw [TL.join_eq]
  cases r with
  | nil => exact Nat.le_refl _
  | cons y r =>
    show x.length ≤ (x ++ z ++ Str.join z (y :: r)).length
    rw [slen_app, slen_app]; omega
theorem good_pos {n : Str} (h : good n) : 1 ≤ n.length := by
  have h1 := h.1
  have e : n.length = n.cps.toList.length := by simp [Str.length]
  rw [e]
  cases c : n.cps.toList with
  | nil => exact absurd c h1
  | cons a b => simp
theorem tx_pos {q : P} (h : isK q 2) : 1 ≤ (tx q).length := by
  cases q with
  | use n vs =>
    simp only [isK] at h
    have h1 := good_pos h.2.1
    rw [tx]
    simp only [fin]
    split
    · exact h1
    · rw [slen_app, slen_app, slen_app]; omega
  | sig i r =>
    rw [tx]
    simp only [fin]
    rw [slen_app, slen_app, slen_app, show ("(" : Str).length = 1 by decide +kernel]; omega
  | uni ms =>
    simp only [isK] at h
    match ms, h.2.1 with
    | a :: b :: r, _ =>
      rw [tx]
      simp only [fin, txs, parsT]
      rw [TL.join_eq]
      show 1 ≤ (_ ++ (" | " : Str) ++ Str.join (" | " : Str) (_ :: _)).length
      rw [slen_app, slen_app, bar_len]; omega
  | star n =>
    rw [tx]
    simp only [fin]
    rw [slen_app, show ("*" : Str).length = 1 by decide +kernel]; omega
  | dots t =>
    rw [tx]
    simp only [fin]
    rw [slen_app, show ("..." : Str).length = 3 by decide +kernel]; omega
  | row xs => simp only [isK] at h; omega
  | inp xs t => simp only [isK] at h; omega
  | tail s => simp only [isK] at h
/-- which values leave no trace -/
theorem row0_tx {q : P} (h : okN q) : ((((tx q).length : Int) != 0) || !(decide (hd q = ("[]" : Str)))) = !isR0 q := by
  by_cases c : hd q = ("[]" : Str)
  · rw [decide_eq_true c]
    cases q with
    | row xs =>
      cases xs with
      | nil => rw [show tx (.row []) = Str.empty from by rw [tx]; rfl]; rfl
      | cons x r =>
        rcases h with ⟨k, h⟩ | ⟨s, e, _⟩
        · simp only [isK, isKs] at h
          have h1 := tx_pos h.2.1
          have h2 := join_ge (", " : Str) (tx x) (txs r)
          have e : tx (.row (x :: r)) = Txt.join (", " : Str) (tx x :: txs r) := by rw [tx]; rfl
          rw [e]
          have : (((Txt.join (", " : Str) (tx x :: txs r)).length : Int) != 0) = true := by
            rw [bne_iff_ne]; omega
          rw [this]
          rfl
        · cases e
    | use n vs =>
      rcases h with ⟨k, h⟩ | ⟨s, e, _⟩
      · simp only [isK] at h
        exact absurd c (of_decide_eq_false h.2.1.apart.f)
      · cases e
    | _ => simp only [hd] at c; exact absurd c (by decide +kernel)
  · rw [decide_eq_false c]
    cases q with
    | row xs => exact absurd rfl c
    | _ => simp [isR0]
def hokX (q : P) : Prop := hokW q ∧ okN q
theorem Cd.hokX {k dp wt : Nat} {p : P} (h : Cd k dp wt p) (hw : wt ≤ 90000) (hd : dp ≤ 60) : ∀ q ∈ pre p, hokX q := fun q hq => ⟨h.hokW hw hd q hq, isK_okN p k h.is q hq⟩
end Gd

/-! sorted(a tuple of ints); tuple(a dict) -/
namespace Gd
open PySem PySem.Spec PyProof.Rows
section
variable {prog : Program} {w : World} {A : Around} {E : Value → Shared → Prop} {s : Shared}
theorem sorted_tupI {t : Addr} {vs : List Value} {ns : List Int} {Q : Value → Shared → Prop} (ht : IsTup s.heap t vs.toArray) (hi : IntsAre vs ns) (hz : vs.length ≤ sizeLine)
    (hQ : ∀ (h1 h2 : Heap) (out : List Value) (c : Nat) (ms : List Int), (∀ b o, s.heap.get? b = some o → h1.get? b = some o) → (∀ b o, h1.get? b = some o → h2.get? b = some o) →
      h2.get? h1.objs.size = some (seqObj "list" out.toArray c) → IntsAre out ms → ms.Perm ns → ms.Pairwise (· ≤ ·) → Q (.ref h1.objs.size) { s with heap := h2 }) :
    wpAny (model prog w) A (call (.builtin "sorted") [.ref t]) Q E s := by
  obtain ⟨o, ho, hc, n, hd⟩ := ht
  refine Calls.call_function_entry kind_sorted plain_sorted entry_sorted (args_sorted1 _) ?_
  unfold Builtin.«sorted»
  refine wpAny_bind (m := checkCount "sorted" 1 1 _) (wpAny_pure ?_)
  refine wpAny_bind (wpAny_collect_seq t (.inr rfl) ho hc hd (fun h1 k1 => ?_) (by rw [List.size_toArray]; exact hz))
  have e0 : vs.toArray.toList = vs := by simp
  rw [e0]
  have hL : (h1.push (seqObj "list" vs.toArray 0)).get? h1.objs.size = some (seqObj "list" vs.toArray 0) := Heap.get?_push_size _ rfl
  refine wpAny_bind (wpAny_newList ?_ hz)
  refine wpAny_bind (wpAny_holding (wpAny_call_entry slot_list_sort ⟨_, hL, rfl⟩ entry_list_sort (SrtO.list_sort_ord SrtO.swo_int hL hz (fun h2 => SrtO.ints_sortable hi h2) fun out hs hb => ⟨_, rfl, ?_⟩) (args_list_sort _)))
  obtain ⟨q1, q2, q3⟩ := SrtO.ints_out hi hs hb
  obtain ⟨c, hc2⟩ := sortedHeap_at (vs := vs) (out := out.toArray) hL
  refine wpAny_pure ⟨_, rfl, hQ h1 _ out c _ k1 (fun b u q => ?_) hc2 q1 q2 q3⟩
  have lt := Heap.lt_size q
  show (sortedHeap (h1.push (seqObj "list" vs.toArray 0)) h1.objs.size vs _).get? b = some u
  rw [sortedHeap_old (Nat.ne_of_lt lt) (by rw [size_push']; exact Nat.lt_succ_of_lt lt)]
  exact Heap.get?_push_of_some _ q
end
end Gd
namespace Gd
open PySem PySem.Spec PyProof.Rows L2
def rSortedTI (K : PySem.W.Frag) : List V → Hp → VK → Prop := fun vs H Q => ∃ (a : Addr) (ns : List Int), vs = [V.ref a] ∧ SqT K H a (ns.map V.int) ∧
  ∀ (p : Addr), H p = none → Q (.ref p) (upd H p (.lst ((PySem.W.sortI ns).map V.int)))
section
variable {X : Cx}
theorem cr_sortedTI : CallR X (.builtin "sorted") (rSortedTI X.K) := by
  intro pins s σ H vs us Q I r h
  obtain ⟨a, ns, rfl, hs, q⟩ := h
  obtain ⟨its, rv, ht, hz⟩ := I.tuple hs
  rw [Vals.ref1 r]
  refine sorted_tupI ht rv.ints (by rw [← rv.length]; exact hz) fun h1 h2 out c ms k1 k2 ha b1 b2 b3 => ?_
  obtain rfl := PySem.W.eq_sortI b2 b3
  have hlen : ((PySem.W.sortI ns).map V.int).length ≤ sizeLine := by
    rw [List.length_map, (PySem.W.sortI_perm ns).length_eq]
    rw [List.length_map] at hz
    exact hz
  have I1 : Inv X pins σ H { s with heap := h1, toks := s.toks } := I.kept k1
  exact ⟨.ref h1.objs.size, upd H h1.objs.size (.lst ((PySem.W.sortI ns).map V.int)), I1.laid (t' := s.toks) (fun b o => k2 b o) (Nat.le_refl _) ⟨hlen, out, c, vals_of_ints b1, ha⟩, rfl, q _ (I1.hok.fresh (Nat.le_refl _))⟩
/-! ### tuple(d), the keys of a dict -/
end
end Gd
namespace Gd
open PySem PySem.Spec PyProof.Rows
section
variable {prog : Program} {w : World} {A : Around} {E : Value → Shared → Prop} {s : Shared} {r d : Addr} {n : Nat} {Pv : Nat → Value → Prop} {OK : Heap → Prop}
theorem code_tuple_new_dict {Q₁ : Value → Shared → Prop} (K : PySem.W.KdlSrc prog w "dict" r d n Pv OK) (hh : A.handled = none) (hok : OK s.heap) (hn : n ≤ sizeLine)
    (h : ∀ (h' : Heap) (tk : Nat) (acc : Array Value), (∀ b o, s.heap.get? b = some o → h'.get? b = some o) → ItemsOf Pv acc n →
      Q₁ (.ref h'.objs.size) { s with heap := h'.push { cls := .type "tuple", data := .seq acc }, toks := tk }) :
    codeAny (model prog w) A (.call (.builtin "tuple.__new__") ⟨[.type "tuple", .ref r], []⟩) (wants Q₁ E) s := by
  refine codeAny_of_tree ?_
  show wpAny _ A.in1 (do checkBuiltinCall "tuple.__new__" ⟨[.type "tuple", .ref r], []⟩; again (.builtin "tuple.__new__" ⟨[.type "tuple", .ref r], []⟩)) _ _ s
  refine wpAny_bind (wpAny_of_eq (F.newCall_tuple_1 _) (wpAny_pure ⟨plainId_quiet F.plain_tuple_new _, codeAny_builtin F.entry_tuple_new ?_⟩))
  rw [Around.under_plainId F.plain_tuple_new _]
  have hsub := sub_tuple_self
  have hinit := init_tuple_lookup
  have hmh := madeHere_tuple
  have hTI : s.TypeIs (.ref r) "dict" := K.type s hok
  have hh1 : A.in1.handled = none := hh
  wp_walk using wpAny_typeOf hTI, PySem.W.kdu_collect (A := A.in1) K hh1 hok hn
  intro h' tk acc hk hacc
  show wpAny _ _ (Builtin.Tuple.tupleExact acc.toList.toArray >>= fun v => ret v) _ _ _
  unfold Builtin.Tuple.tupleExact
  refine wpAny_bind (wpAny_newObj_type ?_ (by show acc.toList.toArray.size ≤ sizeLine; simp only [Array.toArray_toList]; rw [hacc.1]; omega))
  refine wpAny_pure ?_
  have e : acc.toList.toArray = acc := by simp
  rw [e]
  exact h h' tk acc hk hacc
theorem call_tuple_dict {Q : Value → Shared → Prop} (K : PySem.W.KdlSrc prog w "dict" r d n Pv OK) (hh : A.handled = none) (hok : OK s.heap) (hn : n ≤ sizeLine)
    (hQ : ∀ (h' : Heap) (tk : Nat) (acc : Array Value), (∀ b o, s.heap.get? b = some o → h'.get? b = some o) → ItemsOf Pv acc n →
      Q (.ref h'.objs.size) { s with heap := h'.push { cls := .type "tuple", data := .seq acc }, toks := tk }) :
    wpAny (model prog w) A (call (.type "tuple") [.ref r]) Q E s := by
  refine callType_codes (Q₁ := fun obj s₁ => s₁.TypeIs obj "tuple" ∧ Q obj s₁) F.called_tuple (F.typeCall_tuple_1 _) F.entry_object_init
    (code_tuple_new_dict (A := A.in1) K hh hok hn fun h' tk acc hk hacc => ⟨⟨_, Heap.get?_push_size _ rfl, rfl⟩, hQ h' tk acc hk hacc⟩) fun obj s₁ h₁ => ?_
  exact ⟨h₁.1, F.args_object_init_2 obj _, object_init_meets F.called_tuple.init.lookup F.called_tuple.made (by decide) prog w A.in1 _ s₁ ⟨h₁.1, rfl, h₁.2⟩⟩
end
end Gd
namespace Gd
open PySem PySem.Spec PyProof.Rows L2
def rTupD : List V → Hp → VK → Prop := fun xs H Q => ∃ (a : Addr) (kvs : List (Key × V)), xs = [.ref a] ∧ H a = some (.dK kvs) ∧ ∀ p, H p = none → Q (.ref p) (upd H p (.tup (kvs.map fun kv => kV kv.1)))
theorem is_kV {k : Key} {v : Value} (h : keyIs k v = true) : RelV (kV k) v := by
  cases k with
  | inl i => cases v <;> simp [keyIs, Value.isInt] at h; exact ⟨_, by rw [h]⟩
  | inr x => cases v <;> simp [keyIs, Value.isStrOf] at h; exact ⟨_, by rw [h]⟩
theorem KV.len' {kvs : List (Key × V)} {vs : List (Key × Value)} (r : KV kvs vs) : kvs.length = vs.length := KV.length r
section
variable {X : Cx}
theorem call_tupD (hc : X.calm = true) : CallR X (.type "tuple") rTupD := by
  intro pins s σ H xs us Q I r h
  obtain ⟨a, kvs, rfl, ha, q⟩ := h
  obtain ⟨u, rfl, ru⟩ := Vals.one r
  obtain rfl : u = Value.ref a := ru
  obtain ⟨hz, hsys, vs, rel, dof⟩ := dk_of I.hok ha
  obtain ⟨ep, dat⟩ := dof.dictAt
  have hl : vs.length = kvs.length := (KV.length rel).symm
  refine call_tuple_dict (n := vs.length) (PySem.W.kdl_dict (knd := mixKind X.prog X.w) (kvs := vs) (d := a) (ep := ep) hsys) (I.ok.hd hc) dat (by omega) fun h' tk acc hk hacc => ?_
  have I2 : Inv X pins σ H { s with heap := h', toks := tk } := I.kept (t' := tk) hk
  have rv : Vals (kvs.map fun kv => kV kv.1) acc.toList := by
    refine vals_of_at (by rw [List.length_map]; show kvs.length = acc.size; rw [hacc.1, hl]) fun j y u h1 h2 => ?_
    obtain ⟨k, x, hkv, hkk⟩ := hacc.2 j u (by rw [← h2, Array.getElem?_toList])
    obtain ⟨z, h3, h4⟩ := KV.at' rel hkv
    rw [List.getElem?_map, h3] at h1
    obtain rfl := Option.some.inj h1
    exact is_kV hkk
  exact ⟨.ref h'.objs.size, upd H h'.objs.size (.tup (kvs.map fun kv => kV kv.1)), I2.laid (t' := tk) (fun c o e => Heap.get?_push_of_some _ e) (Nat.le_refl _) (show ObjOk X.prog X.w _ _ _ (.tup _) from ⟨by rw [List.length_map]; exact hz, acc.toList, rv, by rw [Array.toArray_toList]; exact IsTup.new _ _⟩), rfl, q _ (I2.hok.fresh (Nat.le_refl _))⟩
end
section
variable {H : Hp} {Q : VK} {K : PySem.W.Frag}
theorem r_sortTI {a : Addr} {ns : List Int} (h : H a = some (.tup (ns.map V.int))) (q : ∀ p H2, H p = none → Up H H2 → H2 p = some (.lst ((PySem.W.sortI ns).map V.int)) → Q (.ref p) H2) : rSortedTI K [.ref a] H Q :=
  ⟨a, ns, rfl, SqT.of h, fun p hn => q p _ hn (Up.new hn) upd_same⟩
theorem r_tupD {a : Addr} {kvs : List (Key × V)} (h : H a = some (.dK kvs)) (q : ∀ p H2, H p = none → Up H H2 → H2 p = some (.tup (kvs.map fun kv => kV kv.1)) → Q (.ref p) H2) : rTupD [.ref a] H Q :=
  ⟨a, kvs, rfl, h, fun p hn => q p _ hn (Up.new hn) upd_same⟩
end
end Gd

namespace Gd
open PySem PySem.Spec PyProof.Rows L2
theorem s_assoc (a b c : Str) : a ++ b ++ c = a ++ (b ++ c) := by
  show (⟨(a.cps ++ b.cps) ++ c.cps⟩ : Str) = ⟨a.cps ++ (b.cps ++ c.cps)⟩
  rw [Array.append_assoc]
theorem join_two (z : Str) : ∀ {a b : List Str}, a ≠ [] → b ≠ [] → Txt.join z (a ++ b) = Txt.join z a ++ (z ++ Txt.join z b) := by
  intro a b ha hb
  rw [TL.join_eq, TL.join_eq, TL.join_eq]
  induction a with
  | nil => exact absurd rfl ha
  | cons x r ih =>
    cases r with
    | nil =>
      cases b with
      | nil => exact absurd rfl hb
      | cons y s =>
        show x ++ z ++ Str.join z (y :: s) = x ++ (z ++ Str.join z (y :: s))
        exact s_assoc _ _ _
    | cons y s =>
      have h := ih (by simp)
      show x ++ z ++ Str.join z ((y :: s) ++ b) = (x ++ z ++ Str.join z (y :: s)) ++ (z ++ Str.join z b)
      rw [h]
      exact (s_assoc _ _ _).symm
def flatT : P → List Str
  | .row xs => txs xs
  | v => [asV v (tx v)]
theorem asV_row (xs : List P) (t : Str) : asV (.row xs) t = t := if_neg (show ¬ ("[]" : Str) = ("()" : Str) by decide +kernel)
theorem flatT_or (v : P) : (∃ xs, v = .row xs) ∨ (isR0 v = false ∧ flatT v = [asV v (tx v)]) := by
  cases v with
  | row xs => exact .inl ⟨xs, rfl⟩
  | _ => exact .inr ⟨rfl, rfl⟩
theorem tx_row (xs : List P) : tx (.row xs) = Txt.join (", " : Str) (txs xs) := by rw [tx]; rfl
theorem flat_nil : ∀ vs : List P, vs.flatMap flatT = [] ↔ valsT vs (txs vs) = []
  | [] => by simp [valsT]
  | v :: vs => by
    have ih := flat_nil vs
    simp only [List.flatMap_cons, txs, valsT]
    rcases flatT_or v with ⟨xs, rfl⟩ | ⟨h1, h2⟩
    · cases xs with
      | nil => simp only [flatT, txs, List.nil_append, isR0, if_true]; exact ih
      | cons a r => simp [flatT, txs, isR0]
    · rw [h2, h1]
      simp
theorem join_flat : ∀ vs : List P, Txt.join (", " : Str) (vs.flatMap flatT) = Txt.join (", " : Str) (valsT vs (txs vs))
  | [] => by simp [valsT]
  | v :: vs => by
    have ih := join_flat vs
    have hn := flat_nil vs
    have one : ∀ t : Str, Txt.join (", " : Str) [t] = t := fun t => by rw [TL.join_eq]; rfl
    have key : ∀ (l : List Str) (t : Str), l ≠ [] → Txt.join (", " : Str) l = t → Txt.join (", " : Str) (l ++ vs.flatMap flatT) = Txt.join (", " : Str) (t :: valsT vs (txs vs)) := fun l t hl e => by
      by_cases h : vs.flatMap flatT = []
      · rw [h, hn.mp h, List.append_nil, e, one]
      · have h2 : valsT vs (txs vs) ≠ [] := fun z => h (hn.mpr z)
        rw [join_two _ hl h, show t :: valsT vs (txs vs) = [t] ++ valsT vs (txs vs) from rfl, join_two _ (by simp) h2, e, one, ih]
    simp only [List.flatMap_cons, txs, valsT]
    rcases flatT_or v with ⟨xs, rfl⟩ | ⟨h1, h2⟩
    · cases xs with
      | nil =>
        simp only [flatT, txs, List.nil_append, isR0, if_true]
        exact ih
      | cons a r =>
        rw [show isR0 (.row (a :: r)) = false from rfl, if_neg (by decide), asV_row]
        exact key _ _ (by simp [flatT, txs]) (tx_row _).symm
    · rw [h2, h1, if_neg (by decide)]
      exact key _ _ (by simp) (one _)
theorem parT4 {m : P} {t : Str} (h : isK m 4) : parT m [("|" : Str), ("->" : Str)] t = parT m [("->" : Str)] t := by
  have hb : hd m ≠ ("|" : Str) := by
    cases m with
    | use n vs => simp only [isK] at h; exact of_decide_eq_false h.2.1.apart.g
    | sig i r => show ¬ ("->" : Str) = ("|" : Str); decide +kernel
    | _ => simp [isK] at h
  unfold parT
  simp only [List.mem_cons, List.not_mem_nil, or_false, hb, false_or]
theorem flat_len : ∀ vs : List P, ((vs.flatMap flatT).map (·.length)).sum + 2 * (vs.flatMap flatT).length ≤ kws (encs vs)
  | [] => by simp
  | v :: vs => by
    have ih := flat_len vs
    rw [List.flatMap_cons, List.map_append, List.sum_append, List.length_append]
    simp only [encs, kws]
    have h : ((flatT v).map (·.length)).sum + 2 * (flatT v).length ≤ kw (enc v) + 5 := by
      rcases flatT_or v with ⟨xs, rfl⟩ | ⟨h1, h2⟩
      · have := txs_len xs
        simp only [flatT, enc, kw, kws]
        omega
      · rw [h2]
        have a := asV_len v (tx v)
        have b := tx_len v
        simp only [List.map_cons, List.map_nil, List.sum_cons, List.sum_nil, List.length_cons, List.length_nil]
        omega
    omega
end Gd

namespace Gd
open PySem PySem.Spec PyProof.Rows
/-! ### len(set(texts)) -/
def dd1 (l : List Str) (k : Str) : List Str := if k ∈ l then l else l ++ [k]
def dd (l : List Str) : List Str := l.foldl dd1 []
theorem dd_mem (x : Str) : ∀ (l acc : List Str), x ∈ l.foldl dd1 acc ↔ x ∈ acc ∨ x ∈ l
  | [], acc => by simp
  | k :: r, acc => by
    rw [List.foldl_cons, dd_mem x r]
    unfold dd1
    split
    · rename_i h
      constructor
      · rintro (h1 | h1)
        · exact .inl h1
        · exact .inr (List.mem_cons_of_mem _ h1)
      · rintro (h1 | h1)
        · exact .inl h1
        · rcases List.mem_cons.mp h1 with rfl | h1
          · exact .inl h
          · exact .inr h1
    · simp only [List.mem_append, List.mem_cons, List.not_mem_nil, false_or, or_false, or_assoc]
theorem dd_len : ∀ (l acc : List Str), (l.foldl dd1 acc).length ≤ acc.length + l.length
  | [], acc => by simp
  | k :: r, acc => by
    have := dd_len r (dd1 acc k)
    have h : (dd1 acc k).length ≤ acc.length + 1 := by
      unfold dd1
      split
      · omega
      · rw [List.length_append, List.length_singleton]; omega
    rw [List.foldl_cons, List.length_cons]
    omega
theorem dd_snoc (l : List Str) (k : Str) : dd (l ++ [k]) = dd1 (dd l) k := by unfold dd; rw [List.foldl_append]; rfl
theorem dd_has (l : List Str) (x : Str) : x ∈ dd l ↔ x ∈ l := by have := dd_mem x l []; simpa [dd] using this
section
variable {prog : Program} {w : World} {A : Around} {R : Result → Shared → Prop} {I : Addr} {fp wr : List Addr} {G : Array GenState → Array GenState → Prop} {n : Nat} {Pv : Nat → Value → Prop} {St : Nat → Shared → Prop}
/-- the cells of a set stand where nothing of theirs is written -/
theorem setOf_keep {K : Type} [DecidableEq K] {knd : KeyKind prog w K} {h h' : Heap} {a : Addr} {S : K → Bool} {m : Nat} (x : h.SetOf knd a S m) (k : ∀ o, h.get? a = some o → h'.get? a = some o) : h'.SetOf knd a S m := by
  obtain ⟨o, es, ep, t, ho, r⟩ := x
  exact ⟨o, es, ep, t, k o ho, r⟩
theorem set_fill (ks : List Str) (W : WalksS prog w A.in1 I fp wr G n Pv St) (S : Addr) (hSf : S ∉ fp) (hn : n = ks.length)
    (hval : ∀ i v, Pv i v → ∃ k t, ks[i]? = some k ∧ v = .str k t) (hb : n + 1 < scanBound) :
    ∀ (m i : Nat) (s : Shared), i + m = n → St i s → s.heap.SetOf (strKind prog w) S (fun x => decide (x ∈ ks.take i)) (dd (ks.take i)).length →
      (∀ s', Moved (S :: wr) G s s' → s'.heap.SetOf (strKind prog w) S (fun x => decide (x ∈ ks)) (dd ks).length → R (.ok (.ret .none)) s') →
      codeAny (model prog w) A (.builtin "set.update.loop" ⟨[.ref S, .ref I], []⟩) R s
  | 0, i, s, e, st, hS, hR => by
    have hin : i = n := by omega
    subst hin
    refine codeAny_builtin F.entry_set_update_loop ?_
    rw [Around.under_plainId F.plain_set_update_loop _]
    show wpAny _ A.in1 (pyNext (.ref I) >>= _) _ _ s
    refine wpAny_bind (W.done s _ _ st fun s' hm => wpAny_pure (hR s' (hm.mono fun b hb => List.mem_cons_of_mem _ hb) ?_))
    rw [List.take_of_length_le (by omega)] at hS
    exact setOf_keep hS fun o ho => hm.heap S _ (fun h => hSf (W.sub _ h)) ho
  | m + 1, i, s, e, st, hS, hR => by
    have hlt : i < n := by omega
    refine codeAny_builtin F.entry_set_update_loop ?_
    rw [Around.under_plainId F.plain_set_update_loop _]
    show wpAny _ A.in1 (pyNext (.ref I) >>= _) _ _ s
    refine wpAny_bind (W.item i s _ _ hlt st fun v s' hP st' hm => ?_)
    obtain ⟨k, t, hk, rfl⟩ := hval i v hP
    have hS' := setOf_keep hS fun o ho => hm.heap S _ (fun h => hSf (W.sub _ h)) ho
    have ln := dd_len (ks.take i) []
    rw [List.length_nil, List.length_take] at ln
    show wpAny _ A.in1 (holding [Value.str k t] (setAdd S (.str k t)) >>= _) _ _ s'
    refine wpAny_bind (wpAny_holding ?_)
    unfold setAdd
    refine wpAny_holding (wpAny_bind ((strKind prog w).pyHash (k := k) (strKind_is _ _ _ _) ?_))
    refine wpAny_setAddHashed_of (knd := strKind prog w) (s := { s' with toks := s'.toks + 1 }) (strKind_is _ _ _ _) rfl hS' (by unfold dd; omega) fun h' hsb hS2 => ?_
    have et : ks.take (i + 1) = ks.take i ++ [k] := by rw [List.take_add_one, hk]; rfl
    have hS3 : h'.SetOf (strKind prog w) S (fun x => decide (x ∈ ks.take (i + 1))) (dd (ks.take (i + 1))).length := by
      refine SetOf_congr hS2 (fun x => ?_) ?_
      · rw [et]
        simp only [List.mem_append, List.mem_singleton, Bool.decide_or]
      · rw [et, dd_snoc]
        unfold dd1
        by_cases c : k ∈ ks.take i
        · rw [if_pos ((dd_has _ _).mpr c), if_pos (decide_eq_true c)]
        · rw [if_neg (fun h => c ((dd_has _ _).mp h)), if_neg (by simpa using c), List.length_append, List.length_singleton]
    refine wpAny_pure ⟨plainId_quiet F.plain_set_update_loop _, set_fill ks W S hSf hn hval hb m (i + 1) _ (by omega) (W.frame _ s' _ _ st' (Nat.le_succ _) fun b hb o q => ?_) hS3 fun s'' hm'' hS'' => ?_⟩
    · rw [hsb.2 b (fun h => hSf (by rw [← h]; exact hb))]; exact q
    · refine hR s'' (Moved.trans W.gtrans ((hm.mono fun b hb => List.mem_cons_of_mem _ hb).then_heap (Nat.le_succ _) fun b o hb q => ?_) hm'') hS''
      rw [hsb.2 b (fun h => hb (by rw [h]; exact List.mem_cons_self))]; exact q
end
end Gd
namespace Gd
open PySem PySem.Spec PyProof.Rows
section
variable {prog : Program} {w : World} {A : Around} {E : Value → Shared → Prop} {s : Shared}
/-- a new set without items -/
abbrev set0 (led : Bool) : Obj := { cls := .type "set", dict := none, data := .set #[] 0 (.fresh 0 0 led) }
theorem call_set_texts {l : Addr} {items : Array Value} {ks : List Str} {Q : Value → Shared → Prop} (hh : A.handled = none) (hl : s.heap.IsList l items)
    (hi : ∀ (i : Nat) (v : Value), items[i]? = some v → ∃ k t, ks[i]? = some k ∧ v = .str k t) (hn : items.size = ks.length) (hb : items.size + 1 < scanBound)
    (h : ∀ (h' : Heap) (tk : Nat), h'.SetOf (strKind prog w) s.heap.objs.size (fun x => decide (x ∈ ks)) (dd ks).length → (∀ b o, b < s.heap.objs.size → s.heap.get? b = some o → h'.get? b = some o) → Q (.ref s.heap.objs.size) { s with heap := h', toks := tk }) :
    wpAny (model prog w) A (call (.type "set") [.ref l]) Q E s := by
  obtain ⟨c, tl, hmro⟩ := F.called_set.mro
  have hmade := F.called_set.made
  have hsub := F.called_set.sub
  refine wpAny_call (codeAny_of_tree ?_)
  show wpAny _ _ (callAny (.type "set") _) _ _ _
  refine wpAny_pure ⟨Code.quiet_builtin _ (by decide +kernel), codeAny_builtin F.entry_type_call ?_⟩
  rw [Around.under_plain (weight_type_call_type "set" [.ref l] []) rfl]
  have h1 := F.called_set.notType
  have h2 := F.called_set.canCreate
  have hct := F.typeCall_set_1 (.ref l)
  repeat (any_goals (first | assumption | wp_step))
  refine codeAny_mono (code_set_new_1 (.ref l) (E := E) (Q₁ := fun obj s₁ => ∃ led : Bool, obj = .ref s.heap.objs.size ∧ s₁ = { s with heap := s.heap.push (set0 led) }) fun led => ⟨led, rfl, rfl⟩) fun r s₁ hr => ?_
  rcases r with e | fl
  · exact hr
  rcases fl with _ | obj | _ | _
  all_goals try exact hr.elim
  obtain ⟨led, rfl, rfl⟩ := hr
  have hS : (s.heap.push (set0 led)).get? s.heap.objs.size = some (set0 led) := Heap.get?_push_size _ rfl
  have hT : Shared.TypeIs { s with heap := s.heap.push (set0 led) } (.ref s.heap.objs.size) "set" := ⟨_, hS, rfl⟩
  have hli := F.called_set.init.lookup
  have hbi := F.called_set.init.bind (.ref s.heap.objs.size)
  repeat (any_goals (first | assumption | wp_step))
  refine codeAny_mono (codeAny_call_builtin (R := wants (fun r s₂ => r = .none ∧ ∃ h' tk, s₂ = { s with heap := h', toks := tk } ∧ h'.SetOf (strKind prog w) s.heap.objs.size (fun x => decide (x ∈ ks)) (dd ks).length ∧
      (∀ b o, b < s.heap.objs.size → s.heap.get? b = some o → h'.get? b = some o)) E) F.called_set.init.plain F.entry_set_init (check_set_init_1 hT ?_)) fun r₂ s₂ hr₂ => ?_
  · obtain ⟨ol, hol, hcl, nl, hdl⟩ := hl
    obtain ⟨ocls, odict, odata, oslots⟩ := ol
    simp only at hcl hdl
    subst hcl; subst hdl
    have hol' : (s.heap.push (set0 led)).get? l = some { cls := .type "list", dict := odict, data := .seq items nl, slots := oslots } := Heap.get?_push_of_some _ hol
    have hsls := F.sub_list_set
    have hslf := F.sub_list_frozenset
    have hne : (Value.type "list" == Value.type "dict") = false := by decide
    have hl1 : (s.heap.push (set0 led)).IsList l items := ⟨_, hol', rfl, nl, rfl⟩
    unfold Builtin.«set.__init__» noKeywords Builtin.Frozenset.updateFrom
    generalize hPI : pyIter = PI
    wp_walk
    subst hPI
    refine wpAny_pyIter_list hl1 ?_
    refine wpAny_bind (wpAny_runValue ?_)
    have lS : l < s.heap.objs.size := Heap.lt_size hol
    have sz : (s.heap.push (set0 led)).objs.size = s.heap.objs.size + 1 := Heap.size_push _ _
    have hh3 : A.in1.in1.in1.handled = none := by simp [hh]
    have nI : l ≠ (s.heap.push (set0 led)).objs.size := by rw [sz]; exact Nat.ne_of_lt (Nat.lt_succ_of_lt lS)
    have nS : s.heap.objs.size ∉ [(s.heap.push (set0 led)).objs.size, l] := by
      rw [sz]
      simp only [List.mem_cons, List.not_mem_nil, or_false, not_or]
      exact ⟨Nat.ne_of_lt (Nat.lt_succ_self _), Nat.ne_of_gt lS⟩
    refine set_fill ks ((Walks.list hh3 _ l nI items).toS) s.heap.objs.size nS hn hi hb items.size 0 _ (by omega) ⟨⟨_, Heap.get?_push_size _ rfl, rfl, rfl⟩, hl1.push _⟩ ?_ fun s' hm hS' => ?_
    · have g : ((s.heap.push (set0 led)).push { cls := .type "list_iterator", data := .fields #[.ref l, .int 0 0] }).get? s.heap.objs.size = some (set0 led) := Heap.get?_push_of_some _ hS
      exact SetOf_congr ((setObjOf_fresh (knd := strKind prog w) led).setOf g (by unfold scanBound; omega)) (fun _ => by simp) rfl
    · obtain ⟨h', g', d', tk', os'⟩ := s'
      obtain rfl : g' = s.gens := hm.gens
      obtain rfl : d' = s.drawn := hm.drawn
      obtain rfl : os' = s.os := hm.os
      show wpAny _ _ _ _ _ _
      refine wpAny_pure ?_
      show wpAny _ _ (ret Value.none) _ _ _
      refine wpAny_pure ⟨rfl, h', tk', rfl, hS', fun b o hb e => ?_⟩
      refine hm.heap b o ?_ (Heap.get?_push_of_some _ (Heap.get?_push_of_some _ e))
      simp only [List.mem_cons, List.not_mem_nil, or_false, not_or]
      exact ⟨Nat.ne_of_lt hb, by rw [sz]; exact Nat.ne_of_lt (Nat.lt_succ_of_lt hb)⟩
  · rcases r₂ with e | fl₂
    · exact hr₂
    rcases fl₂ with _ | r | _ | _
    all_goals try exact hr₂.elim
    obtain ⟨rfl, h', tk, rfl, hS', hk'⟩ := hr₂
    repeat (any_goals (first | assumption | wp_step))
    exact h _ _ hS' hk'
end
end Gd

namespace Gd
open PySem PySem.Spec PyProof.Rows L2
def tLenSetTx (K : PySem.W.Frag) (ta : TE) : TE := fun σ H Q => ta σ H fun x H1 => ∃ (l : Addr) (ks : List Str), x = .ref l ∧ SqL K H1 l (ks.map V.str) ∧ ks.length ≤ 4000 ∧ Q (.int ((dd ks).length : Nat)) H1
theorem vals_texts {ks : List Str} {us : List Value} (h : Vals (ks.map V.str) us) : ∀ (i : Nat) (v : Value), us[i]? = some v → ∃ k t, ks[i]? = some k ∧ v = .str k t := by
  intro i v hv
  have hl := h.length
  rw [List.length_map] at hl
  have hi : i < ks.length := by rw [hl]; exact (List.getElem?_eq_some_iff.mp hv).1
  have hk : ks[i]? = some ks[i] := List.getElem?_eq_getElem hi
  obtain ⟨u, hu, ru⟩ := h.get (i := i) (x := V.str ks[i]) (by rw [List.getElem?_map, hk]; rfl)
  rw [hv] at hu
  obtain rfl := Option.some.inj hu
  obtain ⟨t, rfl⟩ := ru
  exact ⟨_, t, hk, rfl⟩
theorem pe_lenSetTx {X : Cx} {a : Expr} {ta : TE} {p p2 q pos : Pos} (hg : Gl X "len") (hm : X.mg "len" = none) (hg2 : Gl X "set") (hm2 : X.mg "set" = none) (ha : PE X a ta) (hc : X.calm = true := by rfl)
    (na : starEach [a] X.env = (false, eval a X.env) :: starEach [] X.env := by rfl) : PE X (.Call (.Name "len" p) [.Call (.Name "set" p2) [a] [] q] [] pos) (tLenSetTx X.K ta) := by
  refine ⟨fun pins s σ H Q I h => ?_⟩
  refine Call_ (ld_blt I hg hm boot_len (callWith_builtin1 (args_cons ?_ rfl) rfl rfl))
  refine Call_ (ld_blt I hg2 hm2 boot_set (callWith_type1 (args_cons (thn (ha.run pins s σ H _ I h) fun v s1 ⟨x, H1, I1, r1, l, ks, ex, hq, hl, q1⟩ => args_nil ?_) na) na rfl))
  subst ex
  cases r1
  obtain ⟨us, r, pl, hz⟩ := I1.list hq
  have hlen : us.toArray.size = ks.length := by rw [List.size_toArray, ← r.length, List.length_map]
  have ln := dd_len ks []
  rw [List.length_nil] at ln
  refine call_set_texts (ks := ks) (I1.ok.hd hc) pl.isList (fun i v hv => vals_texts r i v (by simpa using hv)) hlen (by rw [hlen]; unfold scanBound; omega) fun h' tk hS hk => args_nil ?_
  obtain ⟨o, es, ep, t, ho, hex, hd, _, _, _, hf, hn⟩ := hS
  have I2 : Inv X pins σ H1 { s1 with heap := h', toks := tk } := I1.kept fun b o e => hk b o (Heap.lt_size e) e
  exact call_len_set ho hex hd hf (by rw [hn]; unfold dd; omega) ⟨.int ((dd ks).length : Nat), H1, I2.tok _, ⟨_, by rw [hn]⟩, q1⟩
theorem r_lenSet {K : PySem.W.Frag} {ta : TE} {σ : L2.St} {H : Hp} {Q : VK} (h : ta σ H fun x H1 => ∃ (l : Addr) (ks : List Str), x = .ref l ∧ SqL K H1 l (ks.map V.str) ∧ ks.length ≤ 4000 ∧ Q (.int ((dd ks).length : Nat)) H1) : tLenSetTx K ta σ H Q := h
/-- as many different ones as there are: no two are the same -/
theorem dd_nodup : ∀ (l acc : List Str), acc.Nodup → ((l.foldl dd1 acc).length = acc.length + l.length ↔ (acc ++ l).Nodup)
  | [], acc, h => by simp [h]
  | k :: r, acc, h => by
    rw [List.foldl_cons, List.length_cons]
    by_cases c : k ∈ acc
    · have e : dd1 acc k = acc := if_pos c
      have := dd_len r acc
      rw [e]
      constructor
      · intro z; omega
      · intro z
        exact absurd rfl ((List.nodup_append.mp z).2.2 k c k List.mem_cons_self)
    · have e : dd1 acc k = acc ++ [k] := if_neg c
      rw [e]
      have nd : (acc ++ [k]).Nodup := by
        rw [List.nodup_append]
        exact ⟨h, by simp, fun a ha b hb => by rw [List.mem_singleton.mp hb]; exact fun z => c (z ▸ ha)⟩
      have ih := dd_nodup r (acc ++ [k]) nd
      rw [List.length_append, List.length_singleton, List.append_assoc] at ih
      rw [show acc.length + (r.length + 1) = acc.length + 1 + r.length from by omega]
      exact ih
theorem dd_all {l : List Str} : (dd l).length = l.length ↔ l.Nodup := by
  have := dd_nodup l [] List.nodup_nil
  simpa [dd] using this
end Gd

namespace Gd
open PySem PySem.Spec PyProof.Rows L2
/-! ### a set of texts that can be walked -/
/-- the table rises and can be walked -/
def Wkd (w : World) (t : SetTable) : Prop := Ris t.place.toList ∧ (w.params.followText "set-order" = true ∨ t.led = true)
def SetT {P : Program} {w : World} {κ : Type} [DecidableEq κ] (knd : KeyKind P w κ) (h : Heap) (a : Addr) (S : κ → Bool) (n : Nat) : Prop :=
  ∃ o es ep t, h.get? a = some o ∧ o.ExactSet ∧ o.data = .set es ep t ∧ ElemsOf knd es.toList ∧ (∀ k, S k = true ↔ ∃ e ∈ es.toList, knd.is k e.2 = true) ∧
    es.size < scanBound ∧ t.fits es.size = true ∧ es.size = n ∧ Wkd w t
section
variable {P : Program} {w : World} {κ : Type} [DecidableEq κ] {knd : KeyKind P w κ} {A : Around} {E : Value → Shared → Prop} {s : Shared} {a : Addr} {S : κ → Bool} {n : Nat}
theorem SetT.keep {h h' : Heap} (x : SetT knd h a S n) (k : ∀ o, h.get? a = some o → h'.get? a = some o) : SetT knd h' a S n := by
  obtain ⟨o, es, ep, t, ho, r⟩ := x
  exact ⟨o, es, ep, t, k o ho, r⟩
theorem SetT.congr {h : Heap} {S' : κ → Bool} {n' : Nat} (x : SetT knd h a S n) (e : ∀ k, S k = S' k) (en : n = n') : SetT knd h a S' n' := by
  obtain rfl : S = S' := funext e
  subst en
  exact x
theorem gave_rule {M : Sem Unit} {r : Bool → Sem Unit} (h : ∀ b, r b = pure () ∨ ∃ x, r b = rule x) (b : Bool) {s₁ : Shared} {Q' : Unit → Shared → Prop} (q : Q' () s₁) : wpAny (model P w) A (r b) Q' E s₁ := by
  rcases h b with e | ⟨x, e⟩
  · rw [e]; exact wpAny_pure q
  · rw [e]; exact wpAny_rule q
theorem setT_tail {g : Bool → Sem Unit} (hg : ∀ (b : Bool) (s₁ : Shared) (Q' : Unit → Shared → Prop), Q' () s₁ → wpAny (model P w) A (g b) Q' E s₁)
    {o : Obj} {es es1 : Array (Int × Value)} {ep : Nat} {t t2 : SetTable} {S' : κ → Bool} (ho : s.heap.get? a = some o) (hex : o.ExactSet) (hd : o.data = .set es ep t)
    (g1 : ElemsOf knd es1.toList) (m1 : ∀ k, S' k = true ↔ ∃ e ∈ es1.toList, knd.is k e.2 = true) (hb : es1.size < scanBound) (hf : t2.fits es1.size = true) (hw : Wkd w t2) {wasDummy : Bool} {R : Option Bool → Shared → Prop}
    (hR : ∀ h', Heap.SameBut a s.heap h' → SetT knd h' a S' es1.size → R (some true) { s with heap := h' }) :
    wpAny (model P w) A (do
        storeSet a es1 t2
        if (!wasDummy && t2.tooFull) = true then do
            g (relayAll t2 es1 (SetTable.grown es1.size)).2.2
            storeSet a (relayAll t2 es1 (SetTable.grown es1.size)).1 (relayAll t2 es1 (SetTable.grown es1.size)).2.1
            pure (some true)
          else pure (some true)) R E s := by
  refine wpAny_bind (wpAny_storeSet_of ho hd ?_ (fits_of_scanBound hb))
  have ho1 := store_at (es' := es1) (t' := t2) ho hd
  have sb := Heap.SameBut.update s.heap a (Obj.putSet es1 t2)
  split
  · obtain ⟨p1, p2, p3, p4⟩ : (relayAll t2 es1 (SetTable.grown es1.size)).1.toList.Perm es1.toList ∧ (relayAll t2 es1 (SetTable.grown es1.size)).2.1.fits (relayAll t2 es1 (SetTable.grown es1.size)).1.size = true ∧
        Ris (relayAll t2 es1 (SetTable.grown es1.size)).2.1.place.toList ∧ (relayAll t2 es1 (SetTable.grown es1.size)).2.1.led = t2.led :=
      ⟨relayAll_perm _ _ _, relayAll_fits _ _ _, relayAll_ris _ _ _, relayAll_led _ _ _⟩
    generalize relayAll t2 es1 (SetTable.grown es1.size) = Z at p1 p2 p3 p4 ⊢
    have sz : Z.1.size = es1.size := by rw [← Array.length_toList, p1.length_eq, Array.length_toList]
    refine wpAny_bind (hg _ _ _ ?_)
    refine wpAny_bind (wpAny_storeSet_of ho1 rfl ?_ (fits_of_scanBound (by rw [sz]; exact hb)))
    have ho2 := store_at (es' := Z.1) (t' := Z.2.1) ho1 rfl
    refine wpAny_pure (hR _ (sb.trans (Heap.SameBut.update _ a _)) ⟨_, Z.1, _, Z.2.1, ho2, hex, rfl, fun e he => g1 e (p1.mem_iff.mp he), fun k => (m1 k).trans ?_, by rw [sz]; exact hb, p2, sz, p3, hw.2.imp id fun z => by rw [p4]; exact z⟩)
    exact ⟨fun ⟨e, he, q⟩ => ⟨e, p1.mem_iff.mpr he, q⟩, fun ⟨e, he, q⟩ => ⟨e, p1.mem_iff.mp he, q⟩⟩
  · exact wpAny_pure (hR _ sb ⟨_, es1, _, t2, ho1, hex, rfl, g1, m1, hb, hf, rfl, hw⟩)
end
end Gd
namespace Gd
open PySem PySem.Spec PyProof.Rows L2
section
variable {P : Program} {w : World} {κ : Type} [DecidableEq κ] {knd : KeyKind P w κ} {A : Around} {E : Value → Shared → Prop} {s : Shared} {a : Addr} {S : κ → Bool} {n : Nat}
theorem setT_add {k : κ} {x : Value} {Q : Bool → Shared → Prop} (hkey : knd.is k x = true) (hsc : x.scannable = true) (R : SetT knd s.heap a S n) (room : n + 1 < scanBound)
    (hQ : ∀ h', Heap.SameBut a s.heap h' → SetT knd h' a (fun j => S j || decide (j = k)) (if S k = true then n else n + 1) → Q (!S k) { s with heap := h' }) :
    wpAny (model P w) A (setAddHashed a x (knd.hash k)) Q E s := by
  obtain ⟨o, es, ep, t, ho, hex, hd, hel, hm, hb, hf, hn, hw⟩ := R
  unfold setAddHashed setAddHashedIn
  refine wpAny_holding (wpAny_bind (wpAny_setState_of ho hd hf ?_))
  dsimp only
  rw [byScan_of hsc hb hel]
  simp only [↓reduceIte]
  unfold setAddByScan
  refine wpAny_bind (wpAny_bind (wpAny_rule (wpAny_bind (wpAny_setScan_of hkey ho hd hf hel ?_))))
  cases hfi : List.findIdx? (fun e => knd.is k e.2) es.toList with
  | some j =>
    dsimp only
    obtain ⟨hj, pj, _⟩ := List.findIdx?_eq_some_iff_getElem.mp hfi
    have hSk : S k = true := (hm k).2 ⟨_, List.getElem_mem hj, pj⟩
    have z := hQ s.heap (Heap.SameBut.refl a s.heap) ⟨o, es, ep, t, ho, hex, hd, hel, fun i => by
      rw [Bool.or_eq_true, decide_eq_true_eq, ← hm i]
      exact ⟨fun z => z.elim id fun e => e ▸ hSk, .inl⟩, hb, hf, by rw [if_pos hSk]; exact hn, hw⟩
    rw [hSk] at z
    exact wpAny_pure (wpAny_pure z)
  | none =>
    dsimp only
    have no : ∀ e ∈ es.toList, knd.is k e.2 = false := fun e he => by simpa using List.findIdx?_eq_none_iff.mp hfi e he
    have hSk : S k = false := by
      cases q : S k with
      | false => rfl
      | true =>
        obtain ⟨e, he, h⟩ := (hm k).1 q
        rw [no e he] at h
        cases h
    have rul : ∀ (b : Bool) {s₁ : Shared} {Q' : Unit → Shared → Prop}, Q' () s₁ → wpAny (model P w) A (match b with | true => rule "set.scan.the-table-gave-way" | false => pure ()) Q' E s₁ :=
      fun b s₁ Q' q => by cases b <;> first | exact wpAny_pure q | exact wpAny_rule q
    obtain ⟨p1, p2, p3, p4⟩ : (layNew t es (knd.hash k) x).1.toList.Perm (es.push (knd.hash k, x)).toList ∧ (layNew t es (knd.hash k) x).2.1.fits (layNew t es (knd.hash k) x).1.size = true ∧
        Ris (layNew t es (knd.hash k) x).2.1.place.toList ∧ (layNew t es (knd.hash k) x).2.1.led = t.led := ⟨layNew_perm _ _ _ _, layNew_fits _ _ _ _, layNew_ris _ _ _ _ hw.1, layNew_led _ _ _ _⟩
    generalize layNew t es (knd.hash k) x = Z at p1 p2 p3 p4 ⊢
    obtain ⟨es1, t1, wasDummy, gave⟩ := Z
    dsimp only at p1 p2 p3 p4 ⊢
    rw [Array.toList_push] at p1
    have pc : es1.toList.Perm ((knd.hash k, x) :: es.toList) := p1.trans (List.perm_append_singleton _ _)
    have g1 : ElemsOf knd es1.toList := fun e he => by
      rcases List.mem_cons.mp (pc.mem_iff.mp he) with z | z
      · rw [z]; exact ⟨⟨k, hkey, rfl⟩, hsc⟩
      · exact hel e z
    have m1 : ∀ i, (S i || decide (i = k)) = true ↔ ∃ e ∈ es1.toList, knd.is i e.2 = true := fun i => by
      rw [Bool.or_eq_true, decide_eq_true_eq, hm i]
      constructor
      · rintro (⟨e, he, h⟩ | rfl)
        · exact ⟨e, pc.mem_iff.mpr (List.mem_cons_of_mem _ he), h⟩
        · exact ⟨_, pc.mem_iff.mpr List.mem_cons_self, hkey⟩
      · rintro ⟨e, he, h⟩
        rcases List.mem_cons.mp (pc.mem_iff.mp he) with z | z
        · rw [z] at h; exact .inr (knd.inj _ _ _ h hkey)
        · exact .inl ⟨e, z, h⟩
    have sz : es1.size = n + 1 := by rw [← Array.length_toList, pc.length_eq, List.length_cons, Array.length_toList, hn]
    have hb1 : es1.size < scanBound := by rw [sz]; exact room
    have hw1 : Wkd w t1 := ⟨p3, hw.2.imp id fun z => by rw [p4]; exact z⟩
    have fin : ∀ h', Heap.SameBut a s.heap h' → SetT knd h' a (fun j => S j || decide (j = k)) es1.size → Q true { s with heap := h' } := fun h' sb r => by
      have q := hQ h' sb
      rw [hSk] at q
      rw [sz] at r
      exact q r
    have gg : ∀ (b : Bool) (s₁ : Shared) (Q' : Unit → Shared → Prop), Q' () s₁ → wpAny (model P w) A (match b with | true => rule "set.scan.the-table-gave-way" | false => pure ()) Q' E s₁ := fun b s₁ Q' q => rul b q
    refine wpAny_bind (rul _ ?_)
    split
    · refine wpAny_bind ?_
      rw [hashByValue_scannable 8 hsc]
      refine wpAny_pure ?_
      refine setT_tail ?_ ho hex hd g1 m1 hb1 ?_ ?_ ?_
      · intro b s₁ Q' q; cases b <;> first | exact wpAny_pure q | exact wpAny_rule q
      · first | (split <;> first | exact p2 | exact SetTable.fits_plain_off p2) | exact p2
      · first | (split <;> exact hw1) | exact hw1
      · intro h' sb r; dsimp only; exact wpAny_pure (fin h' sb r)
    · refine wpAny_bind (wpAny_pure ?_)
      simp only [↓reduceIte]
      refine setT_tail ?_ ho hex hd g1 m1 hb1 p2 hw1 ?_
      · intro b s₁ Q' q; cases b <;> first | exact wpAny_pure q | exact wpAny_rule q
      · intro h' sb r; dsimp only; exact wpAny_pure (fin h' sb r)
end
end Gd
namespace Gd
open PySem PySem.Spec PyProof.Rows L2
/-! filling it from a list of texts -/
section
variable {prog : Program} {w : World} {A : Around} {R : Result → Shared → Prop} {I : Addr} {fp wr : List Addr} {G : Array GenState → Array GenState → Prop} {n : Nat} {Pv : Nat → Value → Prop} {St : Nat → Shared → Prop}
theorem setT_fill (ks : List Str) (W : WalksS prog w A.in1 I fp wr G n Pv St) (S : Addr) (hSf : S ∉ fp) (hn : n = ks.length)
    (hval : ∀ i v, Pv i v → ∃ k t, ks[i]? = some k ∧ v = .str k t) (hb : n + 1 < scanBound) :
    ∀ (m i : Nat) (s : Shared), i + m = n → St i s → SetT (PySem.strKind prog w) s.heap S (fun x => decide (x ∈ ks.take i)) (dd (ks.take i)).length →
      (∀ s', Moved (S :: wr) G s s' → SetT (PySem.strKind prog w) s'.heap S (fun x => decide (x ∈ ks)) (dd ks).length → R (.ok (.ret .none)) s') →
      codeAny (model prog w) A (.builtin "set.update.loop" ⟨[.ref S, .ref I], []⟩) R s
  | 0, i, s, e, st, hS, hR => by
    have hin : i = n := by omega
    subst hin
    refine codeAny_builtin PyProof.Rows.F.entry_set_update_loop ?_
    rw [Around.under_plainId PyProof.Rows.F.plain_set_update_loop _]
    show wpAny _ A.in1 (pyNext (.ref I) >>= _) _ _ s
    refine wpAny_bind (W.done s _ _ st fun s' hm => wpAny_pure (hR s' (hm.mono fun b hb => List.mem_cons_of_mem _ hb) ?_))
    rw [List.take_of_length_le (by omega)] at hS
    exact hS.keep fun o ho => hm.heap S _ (fun h => hSf (W.sub _ h)) ho
  | m + 1, i, s, e, st, hS, hR => by
    have hlt : i < n := by omega
    refine codeAny_builtin PyProof.Rows.F.entry_set_update_loop ?_
    rw [Around.under_plainId PyProof.Rows.F.plain_set_update_loop _]
    show wpAny _ A.in1 (pyNext (.ref I) >>= _) _ _ s
    refine wpAny_bind (W.item i s _ _ hlt st fun v s' hP st' hm => ?_)
    obtain ⟨k, t, hk, rfl⟩ := hval i v hP
    have hS' := hS.keep fun o ho => hm.heap S _ (fun h => hSf (W.sub _ h)) ho
    have ln := dd_len (ks.take i) []
    rw [List.length_nil, List.length_take] at ln
    show wpAny _ A.in1 (holding [Value.str k t] (setAdd S (.str k t)) >>= _) _ _ s'
    refine wpAny_bind (wpAny_holding ?_)
    unfold setAdd
    refine wpAny_holding (wpAny_bind ((PySem.strKind prog w).pyHash (k := k) (strKind_is _ _ _ _) ?_))
    refine setT_add (knd := PySem.strKind prog w) (s := { s' with toks := s'.toks + 1 }) (strKind_is _ _ _ _) rfl hS' (by unfold dd; omega) fun h' hsb hS2 => ?_
    have et : ks.take (i + 1) = ks.take i ++ [k] := by rw [List.take_add_one, hk]; rfl
    have hS3 : SetT (PySem.strKind prog w) h' S (fun x => decide (x ∈ ks.take (i + 1))) (dd (ks.take (i + 1))).length := by
      refine hS2.congr (fun x => ?_) ?_
      · rw [et]
        simp only [List.mem_append, List.mem_singleton, Bool.decide_or]
      · rw [et, dd_snoc]
        unfold dd1
        by_cases c : k ∈ ks.take i
        · rw [if_pos ((dd_has _ _).mpr c), if_pos (decide_eq_true c)]
        · rw [if_neg (fun h => c ((dd_has _ _).mp h)), if_neg (by simpa using c), List.length_append, List.length_singleton]
    refine wpAny_pure ⟨plainId_quiet PyProof.Rows.F.plain_set_update_loop _, setT_fill ks W S hSf hn hval hb m (i + 1) _ (by omega) (W.frame _ s' _ _ st' (Nat.le_succ _) fun b hb o q => ?_) hS3 fun s'' hm'' hS'' => ?_⟩
    · rw [hsb.2 b (fun h => hSf (by rw [← h]; exact hb))]; exact q
    · refine hR s'' (Moved.trans W.gtrans ((hm.mono fun b hb => List.mem_cons_of_mem _ hb).then_heap (Nat.le_succ _) fun b o hb q => ?_) hm'') hS''
      rw [hsb.2 b (fun h => hb (by rw [h]; exact List.mem_cons_self))]; exact q
end
/-! each one once -/
theorem dd_nd : ∀ (l acc : List Str), acc.Nodup → (l.foldl dd1 acc).Nodup
  | [], acc, h => h
  | k :: r, acc, h => by
    rw [List.foldl_cons]
    refine dd_nd r _ ?_
    unfold dd1
    split
    · exact h
    · rename_i c
      rw [List.nodup_append]
      exact ⟨h, by simp, fun a ha b hb => by rw [List.mem_singleton.mp hb]; exact fun z => c (z ▸ ha)⟩
theorem perm_of_sub : ∀ {l m : List Str}, l.Nodup → (∀ x ∈ l, x ∈ m) → m.length = l.length → m.Perm l
  | [], m, _, _, h => by
    have : m = [] := List.eq_nil_of_length_eq_zero (by simpa using h)
    rw [this]
  | x :: r, m, nd, sub, h => by
    obtain ⟨nx, nr⟩ := List.nodup_cons.mp nd
    have hx : x ∈ m := sub x List.mem_cons_self
    have pe := List.perm_cons_erase hx
    have hl := pe.length_eq
    rw [List.length_cons] at hl h
    have ih := perm_of_sub (l := r) (m := m.erase x) nr (fun y hy => by
      have ym := sub y (List.mem_cons_of_mem _ hy)
      exact (List.mem_erase_of_ne (fun z : y = x => nx (by rw [← z]; exact hy))).mpr ym) (by omega)
    exact pe.trans (ih.cons x)
end Gd
namespace Gd
open PySem PySem.Spec PyProof.Rows L2
section
variable {P : Program} {w : World} {A : Around} {E : Value → Shared → Prop} {s : Shared}
abbrev setL (w : World) : Obj := set0 (!w.params.followText "set-order")
theorem setL_ok {h : Heap} {a : Addr} {o : Obj} (e : h.get? a = some (setL w)) : SetT (PySem.strKind P w) h a (fun x => decide (x ∈ ([] : List Str))) 0 :=
  ⟨_, #[], 0, _, e, ⟨rfl, rfl, rfl⟩, rfl, (fun e he => by simp at he), (fun k => by simp), (by decide), (by rfl), rfl, List.Pairwise.nil, by
    show _ ∨ (!w.params.followText "set-order") = true
    cases w.params.followText "set-order"
    · exact .inr rfl
    · exact .inl rfl⟩
theorem code_set_of (a : Value) {Q₁ : Value → Shared → Prop} (h : Q₁ (.ref s.heap.objs.size) { s with heap := s.heap.push (setL w) }) :
    codeAny (model P w) A (.call (.builtin "set.__new__") ⟨[.type "set", a], []⟩) (wants Q₁ E) s := by
  refine codeAny_of_tree ?_
  show wpAny _ A.in1 (do checkBuiltinCall "set.__new__" ⟨[.type "set", a], []⟩; again (.builtin "set.__new__" ⟨[.type "set", a], []⟩)) _ _ s
  refine wpAny_bind (wpAny_of_eq (PySem.F.newCall_set_1 a) (wpAny_pure ⟨plainId_quiet PySem.F.plain_set_new _, codeAny_builtin PySem.F.entry_set_new ?_⟩))
  rw [Around.under_plainId PySem.F.plain_set_new _]
  unfold Builtin.«set.__new__» Builtin.Frozenset.newClass
  have hsub := sub_set_self
  obtain ⟨hp, g, d, tk, os⟩ := s
  dsimp only
  wp_walk
  refine wpAny_askSetting (wpAny_pure ?_)
  dsimp only
  simp only [newObj]
  refine wpAny_bind (wpAny_alloc (wpAny_pure ?_))
  exact wpAny_pure h
theorem strs_out : ∀ {vs : List Value}, (∀ v ∈ vs, ∃ k t, v = Value.str k t) → ∃ ss, StrsAre vs ss
  | [], _ => ⟨[], .nil⟩
  | v :: vs, h => by
    obtain ⟨k, t, rfl⟩ := h v List.mem_cons_self
    obtain ⟨ss, hs⟩ := strs_out fun x hx => h x (List.mem_cons_of_mem _ hx)
    exact ⟨_, .cons k t hs⟩
theorem strs_mem : ∀ {vs : List Value} {ss : List Str} {k : Str} {t : Tok}, StrsAre vs ss → Value.str k t ∈ vs → k ∈ ss
  | _, _, k, t, .nil, h => (List.not_mem_nil h).elim
  | _, _, k, t, .cons x u r, h => by
    rcases List.mem_cons.mp h with e | h
    · cases e; exact List.mem_cons_self
    · exact List.mem_cons_of_mem _ (strs_mem r h)
theorem sorted_setT {a : Addr} {ks : List Str} {Q : Value → Shared → Prop} (R : SetT (PySem.strKind P w) s.heap a (fun x => decide (x ∈ ks)) (dd ks).length) (hh : A.handled = none) (hz : (dd ks).length ≤ sizeLine)
    (hQ : ∀ s' p (out : Array Value) (c : Nat) (ys : List Str), (∀ b o, s.heap.get? b = some o → s'.heap.get? b = some o) → s'.gens = s.gens → s'.os = s.os → s.heap.objs.size ≤ p →
      s'.heap.get? p = some (seqObj "list" out c) → StrsAre out.toList ys → ys.Perm (dd ks) → sortedS ys = true → Q (.ref p) s') :
    wpAny (model P w) A (call (.builtin "sorted") [.ref a]) Q E s := by
  obtain ⟨o, es, ep, t, ho, hex, hd, hel, hm, hb, hf, hn, hr, hl⟩ := R
  refine Calls.call_function_entry kind_sorted plain_sorted entry_sorted (args_sorted1 _) ?_
  unfold Builtin.«sorted»
  refine wpAny_bind (m := checkCount "sorted" 1 1 _) (wpAny_pure ?_)
  refine wpAny_bind (collect_set (A := A.in1) hh ⟨o, ho, hex.1, hd⟩ hf hb hr hl fun s1 vs k1 z1 g1 o1 pm => ?_)
  have lv : vs.length = (dd ks).length := by rw [pm.length_eq, List.length_map, Array.length_toList]; exact hn
  have key : ∀ v ∈ vs, ∃ k t, v = Value.str k t := fun v hv => by
    obtain ⟨e, he, rfl⟩ := List.mem_map.mp (pm.mem_iff.mp hv)
    obtain ⟨⟨k, hk, _⟩, _⟩ := hel e he
    cases hv2 : e.2 <;> rw [hv2] at hk <;> simp [PySem.strKind, Value.isStrOf] at hk
    exact ⟨_, _, rfl⟩
  obtain ⟨ss, hS⟩ := strs_out key
  have ps : ss.Perm (dd ks) := by
    refine perm_of_sub (dd_nd ks [] List.nodup_nil) (fun x hx => ?_) ?_
    · have hx2 : x ∈ ks := (dd_has ks x).mp hx
      obtain ⟨e, he, h⟩ := (hm x).mp (decide_eq_true hx2)
      cases hv2 : e.2 <;> rw [hv2] at h <;> simp [PySem.strKind, Value.isStrOf] at h
      subst h
      exact strs_mem hS (pm.mem_iff.mpr (List.mem_map.mpr ⟨e, he, hv2⟩))
    · rw [← StrsAre.length hS]; exact lv
  have hoL : (s1.heap.push (seqObj "list" vs.toArray 0)).get? s1.heap.objs.size = some (seqObj "list" vs.toArray 0) := Heap.get?_push_size _ rfl
  refine wpAny_bind (wpAny_newList ?_ (by rw [lv]; exact hz))
  refine wpAny_bind (wpAny_holding (wpAny_call_entry slot_list_sort ⟨_, hoL, rfl⟩ entry_list_sort (list_sort_treeKAny strKind_oneLt hoL hS.keysOf (fun v₁ v₂ rest e => keyKind_strs (by rw [← e]; exact hS)) (by rw [lv]; exact hz) fun st' hp hs => ⟨_, rfl, ?_⟩) (args_list_sort _)))
  obtain ⟨ys, b1, b2, b3⟩ := sorted_out_str hS hp hs
  obtain ⟨c, hc⟩ := sortedHeap_at (vs := vs) (out := (arrOf st').map (·.2)) hoL
  refine wpAny_pure ⟨_, rfl, hQ _ s1.heap.objs.size ((arrOf st').map (·.2)) c ys (fun b u e => ?_) g1 o1 z1 hc b1 (b2.trans ps) b3⟩
  have q := k1 b u e
  have lt := Heap.lt_size q
  show (sortedHeap (s1.heap.push (seqObj "list" vs.toArray 0)) s1.heap.objs.size vs _).get? b = some u
  rw [sortedHeap_old (Nat.ne_of_lt lt) (by rw [size_push']; exact Nat.lt_succ_of_lt lt)]
  exact Heap.get?_push_of_some _ q
end
end Gd
namespace Gd
open PySem PySem.Spec PyProof.Rows
section
variable {prog : Program} {w : World} {A : Around} {E : Value → Shared → Prop} {s : Shared}
theorem call_set_textsT {l : Addr} {items : Array Value} {ks : List Str} {Q : Value → Shared → Prop} (hh : A.handled = none) (hl : s.heap.IsList l items)
    (hi : ∀ (i : Nat) (v : Value), items[i]? = some v → ∃ k t, ks[i]? = some k ∧ v = .str k t) (hn : items.size = ks.length) (hb : items.size + 1 < scanBound)
    (h : ∀ (h' : Heap) (tk : Nat), SetT (PySem.strKind prog w) h' s.heap.objs.size (fun x => decide (x ∈ ks)) (dd ks).length → (∀ b o, b < s.heap.objs.size → s.heap.get? b = some o → h'.get? b = some o) → Q (.ref s.heap.objs.size) { s with heap := h', toks := tk }) :
    wpAny (model prog w) A (call (.type "set") [.ref l]) Q E s := by
  obtain ⟨c, tl, hmro⟩ := F.called_set.mro
  have hmade := F.called_set.made
  have hsub := F.called_set.sub
  refine wpAny_call (codeAny_of_tree ?_)
  show wpAny _ _ (callAny (.type "set") _) _ _ _
  refine wpAny_pure ⟨Code.quiet_builtin _ (by decide +kernel), codeAny_builtin F.entry_type_call ?_⟩
  rw [Around.under_plain (weight_type_call_type "set" [.ref l] []) rfl]
  have h1 := F.called_set.notType
  have h2 := F.called_set.canCreate
  have hct := F.typeCall_set_1 (.ref l)
  repeat (any_goals (first | assumption | wp_step))
  refine codeAny_mono (code_set_of (.ref l) (E := E) (Q₁ := fun obj s₁ => obj = .ref s.heap.objs.size ∧ s₁ = { s with heap := s.heap.push (setL w) }) ⟨rfl, rfl⟩) fun r s₁ hr => ?_
  rcases r with e | fl
  · exact hr
  rcases fl with _ | obj | _ | _
  all_goals try exact hr.elim
  obtain ⟨rfl, rfl⟩ := hr
  have hS : (s.heap.push (setL w)).get? s.heap.objs.size = some (setL w) := Heap.get?_push_size _ rfl
  have hT : Shared.TypeIs { s with heap := s.heap.push (setL w) } (.ref s.heap.objs.size) "set" := ⟨_, hS, rfl⟩
  have hli := F.called_set.init.lookup
  have hbi := F.called_set.init.bind (.ref s.heap.objs.size)
  repeat (any_goals (first | assumption | wp_step))
  refine codeAny_mono (codeAny_call_builtin (R := wants (fun r s₂ => r = .none ∧ ∃ h' tk, s₂ = { s with heap := h', toks := tk } ∧ SetT (PySem.strKind prog w) h' s.heap.objs.size (fun x => decide (x ∈ ks)) (dd ks).length ∧
      (∀ b o, b < s.heap.objs.size → s.heap.get? b = some o → h'.get? b = some o)) E) F.called_set.init.plain F.entry_set_init (check_set_init_1 hT ?_)) fun r₂ s₂ hr₂ => ?_
  · obtain ⟨ol, hol, hcl, nl, hdl⟩ := hl
    obtain ⟨ocls, odict, odata, oslots⟩ := ol
    simp only at hcl hdl
    subst hcl; subst hdl
    have hol' : (s.heap.push (setL w)).get? l = some { cls := .type "list", dict := odict, data := .seq items nl, slots := oslots } := Heap.get?_push_of_some _ hol
    have hsls := F.sub_list_set
    have hslf := F.sub_list_frozenset
    have hne : (Value.type "list" == Value.type "dict") = false := by decide
    have hl1 : (s.heap.push (setL w)).IsList l items := ⟨_, hol', rfl, nl, rfl⟩
    unfold Builtin.«set.__init__» noKeywords Builtin.Frozenset.updateFrom
    generalize hPI : pyIter = PI
    wp_walk
    subst hPI
    refine wpAny_pyIter_list hl1 ?_
    refine wpAny_bind (wpAny_runValue ?_)
    have lS : l < s.heap.objs.size := Heap.lt_size hol
    have sz : (s.heap.push (setL w)).objs.size = s.heap.objs.size + 1 := Heap.size_push _ _
    have hh3 : A.in1.in1.in1.handled = none := by simp [hh]
    have nI : l ≠ (s.heap.push (setL w)).objs.size := by rw [sz]; exact Nat.ne_of_lt (Nat.lt_succ_of_lt lS)
    have nS : s.heap.objs.size ∉ [(s.heap.push (setL w)).objs.size, l] := by
      rw [sz]
      simp only [List.mem_cons, List.not_mem_nil, or_false, not_or]
      exact ⟨Nat.ne_of_lt (Nat.lt_succ_self _), Nat.ne_of_gt lS⟩
    refine setT_fill ks ((Walks.list hh3 _ l nI items).toS) s.heap.objs.size nS hn hi hb items.size 0 _ (by omega) ⟨⟨_, Heap.get?_push_size _ rfl, rfl, rfl⟩, hl1.push _⟩ ?_ fun s' hm hS' => ?_
    · have g : ((s.heap.push (setL w)).push { cls := .type "list_iterator", data := .fields #[.ref l, .int 0 0] }).get? s.heap.objs.size = some (setL w) := Heap.get?_push_of_some _ hS
      exact (setL_ok (P := prog) (o := setL w) g).congr (fun _ => by simp) rfl
    · obtain ⟨h', g', d', tk', os'⟩ := s'
      obtain rfl : g' = s.gens := hm.gens
      obtain rfl : d' = s.drawn := hm.drawn
      obtain rfl : os' = s.os := hm.os
      show wpAny _ _ _ _ _ _
      refine wpAny_pure ?_
      show wpAny _ _ (ret Value.none) _ _ _
      refine wpAny_pure ⟨rfl, h', tk', rfl, hS', fun b o hb e => ?_⟩
      refine hm.heap b o ?_ (Heap.get?_push_of_some _ (Heap.get?_push_of_some _ e))
      simp only [List.mem_cons, List.not_mem_nil, or_false, not_or]
      exact ⟨Nat.ne_of_lt hb, by rw [sz]; exact Nat.ne_of_lt (Nat.lt_succ_of_lt hb)⟩
  · rcases r₂ with e | fl₂
    · exact hr₂
    rcases fl₂ with _ | r | _ | _
    all_goals try exact hr₂.elim
    obtain ⟨rfl, h', tk, rfl, hS', hk'⟩ := hr₂
    repeat (any_goals (first | assumption | wp_step))
    exact h _ _ hS' hk'
end
end Gd

namespace Gd
open PySem PySem.Spec PyProof.Rows L2
def tSortedSetTx (K : PySem.W.Frag) (ta : TE) : TE := fun σ H Q => ta σ H fun x H1 => ∃ (l : Addr) (ks : List Str), x = .ref l ∧ SqL K H1 l (ks.map V.str) ∧ ks.length ≤ 4000 ∧
  ∀ p, H1 p = none → Q (.ref p) (upd H1 p (.lst ((ssort (dd ks)).map V.str)))
theorem pe_sortedSetTx {X : Cx} {a : Expr} {ta : TE} {p p2 q pos : Pos} (hg : Gl X "sorted") (hm : X.mg "sorted" = none) (hg2 : Gl X "set") (hm2 : X.mg "set" = none) (ha : PE X a ta) (hc : X.calm = true := by rfl)
    (na : starEach [a] X.env = (false, eval a X.env) :: starEach [] X.env := by rfl) : PE X (.Call (.Name "sorted" p) [.Call (.Name "set" p2) [a] [] q] [] pos) (tSortedSetTx X.K ta) := by
  refine ⟨fun pins s σ H Q I h => ?_⟩
  refine Call_ (ld_blt I hg hm (show bootBuiltins ("sorted" : Str) = some (.builtin "sorted") from by decide +kernel) (callWith_builtin1 (args_cons ?_ rfl) rfl rfl))
  refine Call_ (ld_blt I hg2 hm2 boot_set (callWith_type1 (args_cons (thn (ha.run pins s σ H _ I h) fun v s1 ⟨x, H1, I1, r1, l, ks, ex, hq, hl, q1⟩ => args_nil ?_) na) na rfl))
  subst ex
  cases r1
  obtain ⟨us, r, pl, hz⟩ := I1.list hq
  have hlen : us.toArray.size = ks.length := by rw [List.size_toArray, ← r.length, List.length_map]
  have ln := dd_len ks []
  rw [List.length_nil] at ln
  have hsz : (dd ks).length ≤ 4000 := by unfold dd; omega
  refine call_set_textsT (ks := ks) (I1.ok.hd hc) pl.isList (fun i v hv => vals_texts r i v (by simpa using hv)) hlen (by rw [hlen]; unfold scanBound; omega) fun h' tk hS hk => args_nil ?_
  have I2 : Inv X pins σ H1 { s1 with heap := h', toks := tk } := I1.kept fun b o e => hk b o (Heap.lt_size e) e
  refine sorted_setT hS (I2.ok.hd hc) (by rw [sizeLine_eq]; omega) fun s' p out c ys k g o hp hg hi pm so => ?_
  obtain rfl := ssort_of pm so
  have hlen : ((ssort (dd ks)).map V.str).length ≤ sizeLine := by rw [List.length_map, (ssort_perm _).length_eq, sizeLine_eq]; omega
  have hn : H1 p = none := I2.hok.fresh hp
  have J : Inv X pins σ (upd H1 p (.lst ((ssort (dd ks)).map V.str))) { { s1 with heap := h', toks := tk } with heap := s'.heap, gens := s'.gens, drawn := s'.drawn, toks := s'.toks } :=
    I2.call (ch := []) (Un.laid k hp hn) (I2.hok.laid k hp ⟨hlen, out.toList, c, vals_of_strs hi, hg⟩) (by rw [g]; exact I2.bare) (fun _ z => nomatch z)
  have e : s' = { { s1 with heap := h', toks := tk } with heap := s'.heap, gens := s'.gens, drawn := s'.drawn, toks := s'.toks } := by
    cases s'
    cases s1
    cases o
    rfl
  rw [e]
  exact ⟨.ref p, _, J, rfl, q1 p hn⟩
theorem r_sset {K : PySem.W.Frag} {H : Hp} {Q : VK} {a : Addr} {ks : List Str} (h : H a = some (.lst (ks.map V.str))) (hl : ks.length ≤ 4000) (q : ∀ p H2, H p = none → Up H H2 → H2 p = some (.lst ((ssort (dd ks)).map V.str)) → Q (.ref p) H2) :
    ∃ (l : Addr) (ks : List Str), V.ref a = .ref l ∧ SqL K H l (ks.map V.str) ∧ ks.length ≤ 4000 ∧ ∀ p, H p = none → Q (.ref p) (upd H p (.lst ((ssort (dd ks)).map V.str))) :=
  ⟨a, ks, rfl, SqL.of h, hl, fun p hn => q p _ hn (Up.new hn) upd_same⟩
theorem r_lset {K : PySem.W.Frag} {H : Hp} {Q : VK} {a : Addr} {ks : List Str} (h : H a = some (.lst (ks.map V.str))) (hl : ks.length ≤ 4000) (q : Q (.int ((dd ks).length : Nat)) H) :
    ∃ (l : Addr) (ks : List Str), V.ref a = .ref l ∧ SqL K H l (ks.map V.str) ∧ ks.length ≤ 4000 ∧ Q (.int ((dd ks).length : Nat)) H :=
  ⟨a, ks, rfl, SqL.of h, hl, q⟩
end Gd

namespace Gd
open PySem PySem.Spec PyProof.Rows L2
/-! ### joining in groups -/
theorem fold_keys : ∀ (l acc : List P) (x : Str), x ∈ (l.foldl addP acc).map lkP ↔ x ∈ acc.map lkP ∨ x ∈ l.map lkP
  | [], acc, x => by simp
  | p :: r, acc, x => by
    rw [List.foldl_cons, fold_keys r _ x, List.map_cons, List.mem_cons]
    unfold addP
    split
    · rename_i h
      constructor
      · rintro (a | a)
        · exact .inl a
        · exact .inr (.inr a)
      · rintro (a | rfl | a)
        · exact .inl a
        · exact .inl h
        · exact .inr a
    · rw [List.map_append, List.mem_append, List.map_singleton, List.mem_singleton]
      constructor
      · rintro ((a | a) | a)
        · exact .inl a
        · exact .inr (.inl a)
        · exact .inr (.inr a)
      · rintro (a | a | a)
        · exact .inl (.inl a)
        · exact .inl (.inr a)
        · exact .inr a
theorem fold_fold : ∀ (b acc : List P) (n : Nat), b.length = n → (b.foldl addP []).foldl addP acc = b.foldl addP acc
  | b, acc, 0, h => by rw [List.eq_nil_of_length_eq_zero h]; rfl
  | b, acc, n + 1, h => by
    have hb : b ≠ [] := fun e => by rw [e] at h; simp at h
    obtain ⟨c, m, rfl⟩ : ∃ c m, b = c ++ [m] := ⟨b.dropLast, b.getLast hb, (List.dropLast_concat_getLast hb).symm⟩
    have hc : c.length = n := by simpa using h
    rw [List.foldl_append, List.foldl_append, List.foldl_cons, List.foldl_nil, List.foldl_cons, List.foldl_nil]
    have ih := fold_fold c acc n hc
    by_cases k : lkP m ∈ (c.foldl addP []).map lkP
    · rw [show addP (c.foldl addP []) m = c.foldl addP [] from if_pos k, ih]
      have k2 : lkP m ∈ (c.foldl addP acc).map lkP := (fold_keys c acc _).mpr (.inr (((fold_keys c [] _).mp k).resolve_left (by simp)))
      exact (if_pos k2).symm
    · rw [show addP (c.foldl addP []) m = c.foldl addP [] ++ [m] from if_neg k, List.foldl_append, ih]
      rfl
theorem fold_ndA : ∀ (l acc : List P), (acc.map lkP).Nodup → ((l.foldl addP acc).map lkP).Nodup
  | [], acc, h => h
  | p :: r, acc, h => by
    rw [List.foldl_cons]
    refine fold_ndA r _ ?_
    unfold addP
    split
    · exact h
    · rename_i c
      rw [List.map_append, List.nodup_append]
      exact ⟨h, by simp, fun a ha b hb => by
        rw [List.map_singleton, List.mem_singleton] at hb
        rw [hb]
        exact fun z => c (z ▸ ha)⟩
theorem fold_dd : ∀ (l acc : List P), (l.foldl addP acc).map lkP = (l.map lkP).foldl dd1 (acc.map lkP)
  | [], acc => rfl
  | p :: r, acc => by
    rw [List.foldl_cons, List.map_cons, List.foldl_cons, fold_dd r]
    congr 1
    unfold addP dd1
    split
    · rfl
    · rw [List.map_append]; rfl
theorem fold_subA : ∀ (l acc : List P) (x : P), x ∈ l.foldl addP acc → x ∈ acc ∨ x ∈ l
  | [], acc, x, h => .inl h
  | p :: r, acc, x, h => by
    rcases fold_subA r _ x h with h | h
    · unfold addP at h
      split at h
      · exact .inl h
      · rcases List.mem_append.mp h with h | h
        · exact .inl h
        · rw [List.mem_singleton.mp h]; exact .inr List.mem_cons_self
    · exact .inr (List.mem_cons_of_mem _ h)
theorem foundP_nd (ps : List P) : ((foundP ps).map lkP).Nodup := fold_ndA _ [] List.nodup_nil
theorem foundP_dd (ps : List P) : dd ((ps.flatMap memb).map lkP) = (foundP ps).map lkP := (fold_dd _ []).symm
theorem memb_self {m : P} (h : isK m 4) : memb m = [m] := by
  cases m <;> first | rfl | (simp [isK] at h)
theorem memb_asP {l : List P} (h : ∀ m ∈ l, isK m 4) : memb (asP l) = l := by
  match l, h with
  | [], _ => rfl
  | [m], h => exact memb_self (h m List.mem_cons_self)
  | _ :: _ :: _, _ => rfl
theorem foundP_is {ps : List P} (h : ∀ p ∈ ps, isK p 0) : ∀ m ∈ foundP ps, isK m 4 := fold_is fun m hm => by
  obtain ⟨p, hp, hm⟩ := List.mem_flatMap.mp hm
  exact isK_memb (h p hp) hm
theorem memb_ljoin {ps : List P} (h : ∀ p ∈ ps, isK p 0) : memb (ljoin ps) = foundP ps := memb_asP (foundP_is h)
/-- two joined groups, joined -/
theorem ljoin_app {g h : List P} (hg : ∀ p ∈ g, isK p 0) (hh : ∀ p ∈ h, isK p 0) : ljoin [ljoin g, ljoin h] = ljoin (g ++ h) := by
  have e : foundP [ljoin g, ljoin h] = foundP (g ++ h) := by
    show (([ljoin g, ljoin h]).flatMap memb).foldl addP [] = ((g ++ h).flatMap memb).foldl addP []
    rw [List.flatMap_cons, List.flatMap_cons, List.flatMap_nil, List.append_nil, memb_ljoin hg, memb_ljoin hh, List.flatMap_append, List.foldl_append, List.foldl_append]
    unfold foundP
    rw [fold_fold _ [] _ rfl, fold_fold _ _ _ rfl]
  exact congrArg asP e
theorem ljoin_self {g : List P} (hg : ∀ p ∈ g, isK p 0) : ljoin [ljoin g] = ljoin g := by
  have e : foundP [ljoin g] = foundP g := by
    show (([ljoin g]).flatMap memb).foldl addP [] = (g.flatMap memb).foldl addP []
    rw [List.flatMap_cons, List.flatMap_nil, List.append_nil, memb_ljoin hg]
    unfold foundP
    rw [fold_fold _ [] _ rfl]
  exact congrArg asP e
/-- the same members in another order: the same key -/
theorem lk_asP {l m : List P} (p : (l.map lkP).Perm (m.map lkP)) : lkP (asP l) = lkP (asP m) := by
  have hl := p.length_eq
  simp only [List.length_map] at hl
  have two : ∀ l m : List P, (l.map lkP).Perm (m.map lkP) → lkP (.uni l) = lkP (.uni m) := fun l m p => by
    rw [lkP_uni, lkP_uni]
    rw [perm_sort.mp p]
  match l, m, hl, p with
  | [], [], _, _ => rfl
  | [a], [b], _, p => exact List.singleton_perm_singleton.mp p
  | a :: b :: l, c :: d :: m, _, p => exact two _ _ p
theorem lk_ljoin_rev {ps : List P} : lkP (ljoin ps.reverse) = lkP (ljoin ps) := by
  refine lk_asP ?_
  refine (List.perm_ext_iff_of_nodup (foundP_nd _) (foundP_nd _)).mpr fun x => ?_
  unfold foundP
  rw [fold_keys, fold_keys]
  simp
theorem foundP_sub {ps : List P} {x : P} (h : x ∈ foundP ps) : x ∈ ps.flatMap memb := (fold_subA _ [] x h).resolve_left (by simp)
end Gd
namespace Gd
open PySem PySem.Spec PyProof.Rows L2
/-! ### groups of terms -/
structure Grp (ps : List P) (gs : List (List P)) : Prop where
  flat : gs.flatten = ps
  ne : ∀ g ∈ gs, g ≠ []
theorem flatten_len : ∀ {gs : List (List P)}, (∀ g ∈ gs, g ≠ []) → gs.length ≤ gs.flatten.length
  | [], _ => Nat.le_refl _
  | g :: r, h => by
    have ih := flatten_len (gs := r) fun x hx => h x (List.mem_cons_of_mem _ hx)
    have h1 : g ≠ [] := h g List.mem_cons_self
    have : 1 ≤ g.length := by cases g with | nil => exact absurd rfl h1 | cons _ _ => simp
    rw [List.flatten_cons, List.length_append, List.length_cons]
    omega
theorem Grp.len {ps : List P} {gs : List (List P)} (h : Grp ps gs) : gs.length ≤ ps.length := by
  rw [← h.flat]; exact flatten_len h.ne
theorem Grp.len1 {ps : List P} {gs : List (List P)} (h : Grp ps gs) (l : 1 ≤ ps.length) : 1 ≤ gs.length := by
  cases gs with
  | nil =>
    have := h.flat
    rw [List.flatten_nil] at this
    rw [← this] at l
    exact absurd l (by simp)
  | cons _ _ => simp
theorem Grp.sub {ps : List P} {gs : List (List P)} (h : Grp ps gs) {g : List P} (hg : g ∈ gs) : ∀ p ∈ g, p ∈ ps := fun p hp => by
  rw [← h.flat]; exact List.mem_flatten.mpr ⟨g, hg, hp⟩
theorem Grp.glen {ps : List P} {gs : List (List P)} (h : Grp ps gs) {g : List P} (hg : g ∈ gs) : 1 ≤ g.length ∧ g.length ≤ ps.length := by
  constructor
  · have := h.ne g hg
    cases g with | nil => exact absurd rfl this | cons _ _ => simp
  · obtain ⟨a, b, rfl⟩ := List.append_of_mem hg
    rw [← h.flat, List.flatten_append, List.flatten_cons, List.length_append, List.length_append]
    omega
theorem Grp.start (ps : List P) : Grp ps (ps.map fun p => [p]) := ⟨by induction ps with
  | nil => rfl
  | cons p r ih => rw [List.map_cons, List.flatten_cons, ih]; rfl, fun g hg => by
  obtain ⟨p, _, rfl⟩ := List.mem_map.mp hg
  exact List.cons_ne_nil _ _⟩
theorem Grp.start_enc {ps : List P} (h : ∀ p ∈ ps, isK p 0) : encs ((ps.map fun p => [p]).map ljoin) = encs ps := by
  rw [List.map_map]
  congr 1
  conv => rhs; rw [← List.map_id ps]
  exact List.map_congr_left fun p hp => ljoin_one (h p hp)
theorem cut2 {α : Type} {l : List α} {n : Nat} {a b : α} (ha : l[n]? = some a) (hb : l[n + 1]? = some b) : l = l.take n ++ (a :: b :: l.drop (n + 2)) := by
  obtain ⟨h1, e1⟩ := List.getElem?_eq_some_iff.mp ha
  obtain ⟨h2, e2⟩ := List.getElem?_eq_some_iff.mp hb
  conv => lhs; rw [← List.take_append_drop n l]
  rw [List.drop_eq_getElem_cons h1, List.drop_eq_getElem_cons h2, e1, e2]
theorem Grp.step {ps : List P} {gs : List (List P)} {n : Nat} {g h : List P} (x : Grp ps gs) (hg : gs[n]? = some g) (hh : gs[n + 1]? = some h) : Grp ps (gs.take n ++ [g ++ h] ++ gs.drop (n + 2)) := by
  refine ⟨?_, fun y hy => ?_⟩
  · rw [← x.flat]
    conv => rhs; rw [cut2 hg hh]
    simp
  · rcases List.mem_append.mp hy with hy | hy
    · rcases List.mem_append.mp hy with hy | hy
      · exact x.ne y (List.mem_of_mem_take hy)
      · rw [List.mem_singleton.mp hy]
        have := x.ne g (List.mem_of_getElem? hg)
        simp [this]
    · exact x.ne y (List.mem_of_mem_drop hy)
theorem das_take {H : Hp} {xs : List V} {ps : List P} (h : Das H xs (encs ps)) (n : Nat) : Das H (xs.take n) (encs (ps.take n)) := by rw [← encs_take]; exact h.take n
theorem das_drop {H : Hp} {xs : List V} {ps : List P} (h : Das H xs (encs ps)) (n : Nat) : Das H (xs.drop n) (encs (ps.drop n)) := by rw [← encs_drop]; exact h.drop n
theorem ljoin_len {ps : List P} (h : ∀ p ∈ ps, Tj p) : (memb (ljoin ps)).length ≤ 9 * ps.length := by
  rw [memb_ljoin fun p hp => (h p hp).cd.is]
  have := fold_len (ps.flatMap memb) []
  have := flat_mem h
  unfold foundP
  simp only [List.length_nil] at *
  omega
section
variable {H : Hp} {Q : VK} {K : PySem.W.Frag}
theorem r_slFrom {l : Addr} {xs : List V} {k : Nat} (h : H l = some (.lst xs)) (q : ∀ p H2, H p = none → Up H H2 → H2 p = some (.lst (xs.drop k)) → Q (.ref p) H2) : rSlL K (.ref l) (some (k : Int)) none H Q :=
  ⟨l, xs, rfl, SqL.of h, fun p hp => by rw [cut_from]; exact q p _ hp (Up.new hp) upd_same⟩
end
theorem op_inDk {X : Cx} {K : PySem.W.Frag} (hK : X.K = K) (hu : X.A.units + 65 < cLine) : OpR X (compareOp .In) (rInD K) := hK ▸ op_inD hu
end Gd

namespace Gd
open PySem PySem.Spec PyProof.Rows L2
/-! ### the law's keys have small signs -/
theorem sok_sg {x : Str} : PyData.strOk x = true ↔ ∀ c ∈ sg x, c < 0x110000 := by
  unfold PyData.strOk sg
  rw [Array.all_eq_true_iff_forall_mem]
  simp only [decide_eq_true_eq, Array.mem_toList_iff]
theorem sok_repr {n : Str} (h : good n) : PyData.strOk (reprText n) = true := by
  have h2 := sok_sg.mp (good_lay h)
  rw [sok_sg, good_repr h]
  intro c hc
  rcases List.mem_cons.mp hc with rfl | hc
  · decide
  · rcases List.mem_append.mp hc with hc | hc
    · exact h2 c hc
    · rw [List.mem_singleton.mp hc]; decide
theorem sok_par {ks : List Str} (h : ∀ k ∈ ks, PyData.strOk k = true) : PyData.strOk (par ks) = true :=
  sok_app (sok_app (by decide +kernel) (sok_join (by decide +kernel) ks h)) (by decide +kernel)
theorem sok_two {P : Str → Prop} {a b : Str} (ha : P a) (hb : P b) : ∀ k ∈ [a, b], P k := fun k hk => by
  simp only [List.mem_cons, List.not_mem_nil, or_false] at hk
  rcases hk with rfl | rfl
  · exact ha
  · exact hb
theorem sok_three {P : Str → Prop} {a b c : Str} (ha : P a) (hb : P b) (hc : P c) : ∀ k ∈ [a, b, c], P k := fun k hk => by
  simp only [List.mem_cons, List.not_mem_nil, or_false] at hk
  rcases hk with rfl | rfl | rfl
  · exact ha
  · exact hb
  · exact hc
theorem sok_tlr {tl : Option Str} (h : tlok tl) : PyData.strOk (tlr tl) = true := by
  cases tl with
  | none => decide +kernel
  | some s =>
    rcases h with rfl | h
    · decide +kernel
    · exact sok_repr h
mutual
theorem lk_sok : ∀ (p : P) (k : Nat), isK p k → PyData.strOk (lkP p) = true
  | .use n vs, k, h => by
    have h' := h
    simp only [isK] at h'
    rw [lkP_eq h rfl]
    exact sok_par (sok_two (sok_repr h'.2.1) (sok_par (lks_sok vs 1 h'.2.2)))
  | .sig i r, k, h => by
    have h' := h
    simp only [isK] at h'
    rw [lkP_eq h rfl]
    exact sok_par (sok_three (by decide +kernel) (lk_sok i 3 h'.2.1) (lk_sok r 0 h'.2.2))
  | .uni ms, k, h => by
    simp only [isK] at h
    rw [lkP_uni]
    exact sok_app (sok_app (by decide +kernel) (sok_join (by decide +kernel) _ fun k hk => lks_sok ms 4 h.2.2.2 k (mem_ssort.mp hk))) (by decide +kernel)
  | .row xs, k, h => by
    have h' := h
    simp only [isK] at h'
    rw [lkP_eq h rfl]
    exact sok_par (sok_two (by decide +kernel) (sok_par (lks_sok xs 2 h'.2)))
  | .inp xs tl, k, h => by
    have h' := h
    simp only [isK] at h'
    rw [lkP_eq h rfl]
    exact sok_par (sok_three (by decide +kernel) (sok_par (lks_sok xs 2 h'.2.1)) (sok_tlr h'.2.2))
  | .star n, k, h => by
    have h' := h
    simp only [isK] at h'
    rw [lkP_eq h rfl]
    exact sok_par (sok_two (by decide +kernel) (sok_repr h'.2))
  | .dots t, k, h => by
    have h' := h
    simp only [isK] at h'
    rw [lkP_eq h rfl]
    exact sok_par (sok_two (by decide +kernel) (lk_sok t 0 h'.2))
  | .tail s, k, h => by simp [isK] at h
theorem lks_sok : ∀ (l : List P) (k : Nat), isKs l k → ∀ x ∈ l.map lkP, PyData.strOk x = true
  | [], _, _, x, hx => (List.not_mem_nil hx).elim
  | p :: r, k, h, x, hx => by
    simp only [isKs] at h
    rcases List.mem_cons.mp hx with rfl | hx
    · exact lk_sok p k h.1
    · exact lks_sok r k h.2 x hx
end
/-! ### lists of data, told -/
theorem textFrom_le : ∀ (ts : List Str) (k : Nat) (acc : Str), (textFrom k acc ts).length ≤ acc.length + (ts.map (·.length)).sum + 2 * ts.length
  | [], k, acc => by simp [textFrom]
  | t :: ts, k, acc => by
    have ih := textFrom_le ts (k + 1) (acc ++ (if k > 0 then ", " else "" : String) ++ t)
    have h2 : ((if k > 0 then ", " else "" : String) : Str).length ≤ 2 := by
      split
      · exact Nat.le_of_eq (by decide +kernel)
      · exact Nat.le_trans (Nat.le_of_eq (show ("" : Str).length = 0 by decide +kernel)) (by decide)
    rw [slen_app, slen_app] at ih
    simp only [textFrom, List.map_cons, List.sum_cons, List.length_cons]
    omega
theorem listText_le (ts : List Str) : (listText ts).length ≤ (ts.map (·.length)).sum + 2 * ts.length + 3 := by
  have h := textFrom_le ts 0 ("[" : Str)
  have a1 : ("[" : Str).length = 1 := by decide +kernel
  have a2 : ("]" : Str).length = 1 := by decide +kernel
  unfold listText
  rw [slen_app]
  omega
section
variable {H : Hp} {Q : VK} {K : PySem.W.Frag}
theorem r_reprL3 {a : Addr} {x y z : V} {d : PyData} (h : H a = some (.lst [x, y, z])) (hx : Da H x d) (hy : Da H y d) (hz : Da H z d) (c : d.canLay0 = true) (l : d.depth ≤ 170) (w : kw d ≤ 100000) (q : Q (.str (PyData.list [d, d, d]).shown) H) : rRepr K [.ref a] H Q := by
  obtain ⟨a1, b1⟩ := hx.shown c
  refine ⟨.ref a, .list [d, d, d], rfl, .lst (SqL.of h) (Das.cons hx (.cons hy (.cons hz .nil))).dp, ?_, ?_, ?_, q⟩
  · simp [PyData.showable, PyData.showableAll, a1]
  · simp only [PyData.depth, PyData.depthAll]; omega
  · have := listText_le (PyData.shownAll [d, d, d])
    simp only [PyData.shownAll, List.map_cons, List.map_nil, List.sum_cons, List.sum_nil, List.length_cons, List.length_nil] at this
    rw [sizeLine_eq]
    show (listText (PyData.shownAll [d, d, d])).length ≤ _
    simp only [PyData.shownAll]
    omega
theorem r_sortedSet {ta : TE} {σ : L2.St} (h : ta σ H fun x H1 => ∃ (l : Addr) (ks : List Str), x = .ref l ∧ SqL K H1 l (ks.map V.str) ∧ ks.length ≤ 4000 ∧
  ∀ p, H1 p = none → Q (.ref p) (upd H1 p (.lst ((ssort (dd ks)).map V.str)))) : tSortedSetTx K ta σ H Q := h
/-- a member that is in the list as it is -/
theorem r_inP {v : V} {a : Addr} {ys : List V} {p : P} {ps : List P} (hv : Da H v (enc p)) (h : H a = some (.lst ys)) (dy : Das H ys (encs ps)) (hp : p ∈ ps) (c : PyData.canLayAll0 (encs ps) = true) (l : PyData.depthAll (encs ps) ≤ 63) (q : Q (.bl true) H) : rInD K v (.ref a) H Q := by
  have me := mem_encs hp
  have c1 := lay_mem c me
  have d1 := depth_mem me
  refine ⟨enc p, encs ps, hv.dp, .lst (SqL.of h) dy.dp, shaped_of c1 (by omega), shaped_of (by simpa [PyData.canLay0] using c) (by simp only [PyData.depth]; omega), ?_⟩
  rw [show ((encs ps).any fun z => PyData.eqv z (enc p)) = true from List.any_eq_true.mpr ⟨enc p, me, SeqAt.eqv_refl _ c1⟩]
  exact q
end
theorem memb_cd {p m : P} (h : Cd 0 40 90000 p) (hm : m ∈ memb p) : Cd 4 40 90000 m :=
  have o := h.ok.memb hm
  ⟨isK_memb h.is hm, o.lay, o.dep, o.bar, o.wgt⟩
theorem flat_cd {ps : List P} (h : ∀ p ∈ ps, Tj p) {m : P} (hm : m ∈ ps.flatMap memb) : Cd 4 40 90000 m := by
  obtain ⟨p, hp, hm⟩ := List.mem_flatMap.mp hm
  exact memb_cd (h p hp).cd0 hm
theorem sok_lks {l : List P} (h : ∀ m ∈ l, isK m 4) : ∀ x ∈ l.map lkP, PyData.strOk x = true := fun x hx => by
  obtain ⟨m, hm, rfl⟩ := List.mem_map.mp hx
  exact lk_sok m 4 (h m hm)
theorem foundP_len (ps : List P) : (foundP ps).length ≤ (ps.flatMap memb).length := by
  have := fold_len (ps.flatMap memb) []
  simpa [foundP] using this
theorem depth_le {l : List P} {n : Nat} (h : ∀ m ∈ l, (enc m).depth ≤ n) : PyData.depthAll (encs l) ≤ n := by
  induction l with
  | nil => simp [encs, PyData.depthAll]
  | cons p r ih =>
    have h1 := h p List.mem_cons_self
    have h2 := ih fun m hm => h m (List.mem_cons_of_mem _ hm)
    simp only [encs, PyData.depthAll]
    omega
theorem r_revT {K : PySem.W.Frag} {te : TE} {σ : L2.St} {H : Hp} {Q : VK} (h : te σ H fun x H1 => ∃ a xs, x = .ref a ∧ SqL K H1 a xs ∧ ∀ p, H1 p = none → Q (.ref p) (upd H1 p (.lst xs.reverse))) : tRevL K te σ H Q := h
end Gd

namespace Gd
open PySem PySem.Spec PyProof.Rows L2
/-! ### substitution -/
abbrev Mp := Str → Option P
def its : P → List P
  | .row xs => xs
  | .inp xs _ => xs
  | _ => []
def tlOf : P → Option Str
  | .inp _ t => t
  | _ => none
/-- what takes the place of a tail -/
def sbT (m : Mp) : Option Str → P
  | none => .inp [] none
  | some s => match m s with
    | some q => q
    | none => .inp [] (some s)
mutual
def sb (m : Mp) : P → P
  | .use n vs => match m n with
    | some q => q
    | none => .use n (sbs m vs)
  | .sig i r => .sig (sb m i) (sb m r)
  | .uni ms => ljoin (sbs m ms)
  | .row xs => .row (gis m xs)
  | .inp xs tl => .inp (gis m xs ++ its (sbT m tl)) (tlOf (sbT m tl))
  | .star n => match m n with
    | some q => q
    | none => .row [.star n]
  | .dots t => .dots (sb m t)
  | .tail s => sbT m (some s)
def sbs (m : Mp) : List P → List P
  | [] => []
  | p :: r => sb m p :: sbs m r
def gis (m : Mp) : List P → List P
  | [] => []
  | p :: r => (if isLf p = true then its (sb m p) else [sb m p]) ++ gis m r
end
theorem sbs_map (m : Mp) : ∀ l : List P, sbs m l = l.map (sb m)
  | [] => rfl
  | p :: r => by simp [sbs, sbs_map m r]
theorem gis_map (m : Mp) : ∀ l : List P, gis m l = l.flatMap fun p => if isLf p = true then its (sb m p) else [sb m p]
  | [] => rfl
  | p :: r => by simp [gis, gis_map m r]
theorem gis_app (m : Mp) (a b : List P) : gis m (a ++ b) = gis m a ++ gis m b := by simp only [gis_map, List.flatMap_append]
/-- the tail that the parts of inputs leave -/
def gtl (m : Mp) (l : List P) : Option Str := l.foldl (fun acc p => if isLf p = true then tlOf (sb m p) else acc) none
/-! ### notes -/
def innN : P → List P
  | .row xs => xs
  | .inp xs _ => xs
  | p => memb p
def IxT (H : Hp) (c : Addr) (R : List P) (xs : List P) : Prop := H c = some (.tup (xs.map fun x => V.int ((ix R x : Nat) : Int))) ∧ ∀ x ∈ xs, inR R x
structure NoteAt (H : Hp) (v : V) (R : List P) (q : P) (b : Bool) : Prop where
  ex : ∃ (a c : Addr) (w0 : V), v = .ref a ∧ H a = some (.tup [w0, (if b = true then V.non else V.int ((ix R q : Nat) : Int)), .ref c]) ∧ Da H w0 (enc q) ∧ IxT H c R (innN q)
  inr : b = false → inR R q
theorem IxT.tk {H H' : Hp} {c : Addr} {R xs : List P} (h : IxT H c R xs) (k : Tk H H') : IxT H' c R xs := ⟨k _ _ h.1, h.2⟩
theorem IxT.mono {H : Hp} {c : Addr} {R S xs : List P} (h : IxT H c R xs) : IxT H c (R ++ S) xs :=
  ⟨by
    rw [h.1]
    congr 2
    exact List.map_congr_left fun x hx => by rw [ix_app (h.2 x hx)], fun x hx => (h.2 x hx).mono⟩
theorem NoteAt.tk {H H' : Hp} {v : V} {R : List P} {q : P} {b : Bool} (h : NoteAt H v R q b) (k : Tk H H') : NoteAt H' v R q b := by
  obtain ⟨a, c, w0, e, ha, d, i⟩ := h.ex
  exact ⟨⟨a, c, w0, e, k _ _ ha, d.tk k, i.tk k⟩, h.inr⟩
theorem NoteAt.mono {H : Hp} {v : V} {R S : List P} {q : P} {b : Bool} (h : NoteAt H v R q b) : NoteAt H v (R ++ S) q b := by
  obtain ⟨a, c, w0, e, ha, d, i⟩ := h.ex
  refine ⟨⟨a, c, w0, e, ?_, d, i.mono⟩, fun z => (h.inr z).mono⟩
  cases b with
  | true => exact ha
  | false => rw [ix_app (h.inr rfl)]; exact ha
/-- R goes on as R' -/
def Ex (R R' : List P) : Prop := ∃ S, R' = R ++ S
theorem Ex.rf {R : List P} : Ex R R := ⟨[], by simp⟩
theorem Ex.tr {R S T : List P} (a : Ex R S) (b : Ex S T) : Ex R T := by
  obtain ⟨x, rfl⟩ := a
  obtain ⟨y, rfl⟩ := b
  exact ⟨x ++ y, by rw [List.append_assoc]⟩
theorem Ex.add (R : List P) (p : P) : Ex R (addN R p) := addN_pre R p
theorem Ex.inr {R R' : List P} {p : P} (h : Ex R R') (i : inR R p) : inR R' p := by obtain ⟨S, rfl⟩ := h; exact i.mono
theorem Ex.ix {R R' : List P} {p : P} (h : Ex R R') (i : inR R p) : ix R' p = ix R p := by obtain ⟨S, rfl⟩ := h; exact ix_app i
theorem NoteAt.ext {H : Hp} {v : V} {R R' : List P} {q : P} {b : Bool} (h : NoteAt H v R q b) (e : Ex R R') : NoteAt H v R' q b := by obtain ⟨S, rfl⟩ := e; exact h.mono
theorem IxT.ext {H : Hp} {c : Addr} {R R' xs : List P} (h : IxT H c R xs) (e : Ex R R') : IxT H c R' xs := by obtain ⟨S, rfl⟩ := e; exact h.mono
/-- a list of notes: of the parts ps, by their images -/
structure Nts (H : Hp) (ns : List V) (R : List P) (m : Mp) (ps : List P) : Prop where
  ln : ns.length = ps.length
  at_ : ∀ (i : Nat) (p : P), ps[i]? = some p → ∃ v, ns[i]? = some v ∧ NoteAt H v R (sb m p) (isLf p)
theorem Nts.tk {H H' : Hp} {ns : List V} {R : List P} {m : Mp} {ps : List P} (h : Nts H ns R m ps) (k : Tk H H') : Nts H' ns R m ps :=
  ⟨h.ln, fun i p hp => let ⟨v, e, n⟩ := h.at_ i p hp; ⟨v, e, n.tk k⟩⟩
theorem Nts.ext {H : Hp} {ns : List V} {R R' : List P} {m : Mp} {ps : List P} (h : Nts H ns R m ps) (k : Ex R R') : Nts H ns R' m ps :=
  ⟨h.ln, fun i p hp => let ⟨v, e, n⟩ := h.at_ i p hp; ⟨v, e, n.ext k⟩⟩
/-- at mp: the notes of a mapping -/
def MapAt (H : Hp) (mp : Addr) (R : List P) (m : Mp) : Prop := ∃ kvs : List (Key × V), H mp = some (.dK kvs) ∧ ∀ n : Str, match m n with
  | none => valV kvs (Sum.inr n : Key) = none
  | some q => ∃ v, valV kvs (Sum.inr n : Key) = some v ∧ NoteAt H v R q false
theorem MapAt.nil {H : Hp} {mp : Addr} {R : List P} (h : H mp = some (.dK [])) : MapAt H mp R (fun _ => none) := ⟨[], h, fun n => rfl⟩
theorem MapAt.go {H H' : Hp} {mp : Addr} {R R' : List P} {m : Mp} (h : MapAt H mp R m) (k : Tk H H') (e : Ex R R') (hm : ∀ o, H mp = some o → H' mp = some o) : MapAt H' mp R' m := by
  obtain ⟨kvs, h1, h2⟩ := h
  refine ⟨kvs, hm _ h1, fun n => ?_⟩
  have := h2 n
  cases c : m n with
  | none => rw [c] at this; exact this
  | some q =>
    rw [c] at this
    obtain ⟨v, e1, e2⟩ := this
    exact ⟨v, e1, (e2.tk k).ext e⟩
/-- names that are no names of parameters are not in the mapping -/
def mok (m : Mp) : Prop := ∀ n, m n ≠ none → good n
def isUse : P → Bool
  | .use _ _ => true
  | _ => false
/-- what the walk through a part asks -/
structure okB (m : Mp) (y : P) : Prop where
  ok : okN y
  hn : isUse y = false → m (hd y) = none
  wt : kw (enc y) ≤ 90000
  sw : kw (enc (sb m y)) ≤ 90000
  res : isLf y = false → okN (sb m y)
  ms : ∀ ms, y = .uni ms → ms ≠ [] ∧ (∀ x ∈ ms, isK (sb m x) 0) ∧ ((ms.map (sb m)).flatMap memb).length ≤ 90000
  sub : ∀ x ∈ parts y, (∀ n, x = .star n → ∃ xs, sb m x = .row xs) ∧ ∀ s, x = .tail s → ∃ xs tl, sb m x = .inp xs tl
theorem gtl_items (m : Mp) : ∀ (l : List P) (acc : Option Str), (∀ x ∈ l, isLf x = true → tlOf (sb m x) = none) → acc = none → l.foldl (fun acc p => if isLf p = true then tlOf (sb m p) else acc) acc = none
  | [], acc, _, e => e
  | p :: l, acc, h, e => by
    rw [List.foldl_cons]
    refine gtl_items m l _ (fun x hx => h x (List.mem_cons_of_mem _ hx)) ?_
    split
    · rename_i c; exact h p List.mem_cons_self c
    · exact e
theorem gather_eq (m : Mp) (xs : List P) (tl : Option Str) (h : ∀ x ∈ xs, isLf x = true → tlOf (sb m x) = none) :
    sb m (.inp xs tl) = .inp (gis m (xs ++ tails tl)) (gtl m (xs ++ tails tl)) := by
  rw [sb]
  cases tl with
  | none =>
    rw [tails, List.append_nil]
    unfold gtl
    rw [gtl_items m xs none h rfl]
    simp [sbT, its, tlOf]
  | some s =>
    rw [tails, gis_app]
    unfold gtl
    rw [List.foldl_append]
    simp [gis, isLf, sb, sbT]
/-! the empty mapping -/
abbrev m0 : Mp := fun _ => none
mutual
theorem sb_id : ∀ (p : P) (k : Nat), isK p k → isLf p = false → sb m0 p = p
  | .use n vs, k, h, _ => by
    simp only [isK] at h
    rw [sb]
    show P.use n (sbs m0 vs) = _
    rw [sbs_id vs 1 h.2.2 (.inr (.inl rfl))]
  | .sig i r, k, h, _ => by
    simp only [isK] at h
    rw [sb, sb_id i 3 h.2.1 (by cases i <;> simp [isK] at h <;> rfl), sb_id r 0 h.2.2 (by cases r <;> simp [isK] at h <;> rfl)]
  | .uni ms, k, h, _ => by
    simp only [isK] at h
    have e := sbs_id ms 4 h.2.2.2 (.inr (.inr (.inr rfl)))
    rw [sb, e, ljoin_asP]
    have z : isK (.uni ms) 0 := by simp only [isK]; exact ⟨by simp, h.2⟩
    have e2 : foundP ms = ms := by
      unfold foundP
      have e3 : ms.flatMap memb = ms := by
        have : ∀ {l : List P}, isKs l 4 → l.flatMap memb = l := fun {l} hl => by
          induction l with
          | nil => rfl
          | cons a r ih =>
            simp only [isKs] at hl
            rw [List.flatMap_cons, memb4 hl.1, ih hl.2]
            rfl
        exact this h.2.2.2
      rw [e3, fold_id _ _ (by rw [List.nil_append]; exact h.2.2.1), List.nil_append]
    rw [e2]
    exact asP_memb z
  | .row xs, k, h, _ => by
    simp only [isK] at h
    rw [sb, gis_id xs h.2]
  | .inp xs tl, k, h, _ => by
    simp only [isK] at h
    rw [sb, gis_id xs h.2.1]
    cases tl <;> simp [sbT, its, tlOf]
  | .star n, k, h, c => by simp [isLf] at c
  | .dots t, k, h, _ => by
    simp only [isK] at h
    rw [sb, sb_id t 0 h.2 (by cases t <;> simp [isK] at h <;> rfl)]
  | .tail s, k, h, c => by simp [isLf] at c
theorem sbs_id : ∀ (l : List P) (k : Nat), isKs l k → (k = 0 ∨ k = 1 ∨ k = 3 ∨ k = 4) → sbs m0 l = l
  | [], _, _, _ => rfl
  | p :: r, k, h, hk => by
    simp only [isKs] at h
    rw [sbs, sb_id p k h.1 (by cases p <;> simp [isK] at h <;> first | rfl | omega), sbs_id r k h.2 hk]
theorem gis_id : ∀ (l : List P), isKs l 2 → gis m0 l = l
  | [], _ => rfl
  | p :: r, h => by
    simp only [isKs] at h
    rw [gis, gis_id r h.2]
    cases c : isLf p with
    | true =>
      cases p with
      | star n => rfl
      | tail s => simp only [isK] at h; exact h.1.elim
      | _ => simp [isLf] at c
    | false =>
      rw [if_neg (by decide), sb_id p 2 h.1 c]
      rfl
end
end Gd

namespace Gd
open PySem PySem.Spec PyProof.Rows L2
/-! ### members by their numbers -/
structure MbN (H : Hp) (kvs : List (Key × V)) (R fs : List P) : Prop where
  ks : kvs.map (·.1) = fs.map fun p => (Sum.inl ((ix R p : Nat) : Int) : Key)
  vs : Das H (kvs.map (·.2)) (encs fs)
  inr : ∀ p ∈ fs, inR R p
theorem MbN.tk {H H' : Hp} {kvs : List (Key × V)} {R fs : List P} (h : MbN H kvs R fs) (k : Tk H H') : MbN H' kvs R fs := ⟨h.ks, h.vs.tk k, h.inr⟩
theorem MbN.len {H : Hp} {kvs : List (Key × V)} {R fs : List P} (h : MbN H kvs R fs) : kvs.length = fs.length := by
  have := congrArg List.length h.ks
  simpa using this
theorem ix_lk {R : List P} {p q : P} {k j : Nat} (hp : inR R p) (hq : inR R q) (kp : isK p k) (kq : isK q j) : ((ix R p : Nat) : Int) = ((ix R q : Nat) : Int) ↔ lkP p = lkP q := by
  rw [← kc_lk kp kq, ← ix_inj hp hq]
  omega
theorem MbN.no {H : Hp} {kvs : List (Key × V)} {R fs : List P} {m : P} (h : MbN H kvs R fs) (hf : ∀ p ∈ fs, isK p 4) (hm : isK m 4) (hi : inR R m) (n : valV kvs (Sum.inl ((ix R m : Nat) : Int) : Key) = none) : addP fs m = fs ++ [m] := by
  refine if_neg fun c => ?_
  refine valV_not n ?_
  rw [h.ks]
  obtain ⟨p, hp, e⟩ := List.mem_map.mp c
  exact List.mem_map.mpr ⟨p, hp, by rw [(ix_lk (h.inr p hp) hi (hf p hp) hm).mpr e]⟩
theorem MbN.yes {H : Hp} {kvs : List (Key × V)} {R fs : List P} {m : P} {v : V} (h : MbN H kvs R fs) (hf : ∀ p ∈ fs, isK p 4) (hm : isK m 4) (hi : inR R m) (n : valV kvs (Sum.inl ((ix R m : Nat) : Int) : Key) = some v) : addP fs m = fs := by
  refine if_pos ?_
  have c := valV_in n
  rw [h.ks] at c
  obtain ⟨p, hp, e⟩ := List.mem_map.mp c
  exact List.mem_map.mpr ⟨p, hp, (ix_lk (h.inr p hp) hi (hf p hp) hm).mp (Sum.inl.inj e)⟩
theorem MbN.put {H : Hp} {kvs : List (Key × V)} {R fs : List P} {m : P} {v : V} (h : MbN H kvs R fs) (d : Da H v (enc m)) (hi : inR R m) (n : valV kvs (Sum.inl ((ix R m : Nat) : Int) : Key) = none) :
    MbN H (putK kvs (Sum.inl ((ix R m : Nat) : Int) : Key) v) R (fs ++ [m]) := by
  rw [putK_new v n]
  refine ⟨?_, ?_, fun p hp => ?_⟩
  · rw [List.map_append, List.map_append, h.ks]; rfl
  · rw [List.map_append, encs_app]
    exact h.vs.app (.cons d .nil)
  · rcases List.mem_append.mp hp with hp | hp
    · exact h.inr p hp
    · rw [List.mem_singleton.mp hp]; exact hi
theorem MbN.keys {H : Hp} {kvs : List (Key × V)} {R fs : List P} (h : MbN H kvs R fs) : (kvs.map fun kv => kV kv.1) = fs.map fun p => V.int ((ix R p : Nat) : Int) := by
  have e : (kvs.map fun kv => kV kv.1) = (kvs.map (·.1)).map kV := by rw [List.map_map]; rfl
  rw [e, h.ks, List.map_map]
  rfl
/-- what is joined is a term -/
theorem ljoin_is {ps : List P} (h : ∀ p ∈ ps, isK p 0) (hn : ps ≠ []) : isK (ljoin ps) 0 := by
  have hf := foundP_is h
  have nd := foundP_nd ps
  have h1 : foundP ps ≠ [] := by
    cases ps with
    | nil => exact absurd rfl hn
    | cons p r =>
      unfold foundP
      rw [List.flatMap_cons, List.foldl_append]
      cases hm : memb p with
      | nil => exact absurd hm (memb_ne' (h p List.mem_cons_self))
      | cons m ms =>
        have e : addP [] m = [m] := by simp [addP]
        rw [List.foldl_cons, e]
        intro c
        have g1 := fold_ge ms [m]
        have g2 := fold_ge (r.flatMap memb) (ms.foldl addP [m])
        rw [c] at g2
        simp only [List.length_singleton, List.length_nil] at g1 g2
        omega
  rw [ljoin_asP]
  match e : foundP ps, h1 with
  | [p], _ =>
    rw [e] at hf
    exact isK_mem (hf p List.mem_cons_self)
  | a :: b :: r, _ =>
    rw [e] at hf nd
    show isK (.uni (a :: b :: r)) 0
    simp only [isK]
    exact ⟨by simp, by simp, nd, isKs_iff.mpr hf⟩
section
variable {σ : L2.St} {H : Hp} {Q : VK} {td ty : TE}
theorem r_dget (h : td σ H fun x H1 => ty σ H1 fun y H2 => ∃ a v, x = .ref a ∧ DGet H2 a y (some v) ∧ Q v H2) : tDGet td ty σ H Q := h
theorem r_dgetT {K : PySem.W.Frag} {i j : Nat} {m c : Addr} {xs : List V} {kvs : List (Key × V)} {k : Key} {v : V} (hi : σ[i]? = some (some (.ref m))) (hj : σ[j]? = some (some (.ref c))) (hc : H c = some (.tup (kV k :: xs))) (hm : H m = some (.dK kvs))
    (e : valV kvs k = some v) (q : Q v H) : tDGet (tVar i) (tOp (rIxT K) (tVar j) (tC (.int 0))) σ H Q :=
  r_dget (r_var hi (r_op (r_var hj (r_c (r_ixT hc at0 ⟨m, v, rfl, by rw [← e]; exact DGet.k hm, q⟩)))))
theorem dget_k {a : Addr} {kvs : List (Key × V)} {k : Key} {v : V} (h : H a = some (.dK kvs)) (e : valV kvs k = some v) (q : Q v H) : ∃ a' v', V.ref a = .ref a' ∧ DGet H a' (kV k) (some v') ∧ Q v' H :=
  ⟨a, v, rfl, by rw [← e]; exact DGet.k h, q⟩
end
section
variable {K : PySem.W.Frag} {σ : L2.St} {H : Hp} {ta : TA} {R : It → Hp → Prop}
theorem r_izA (h : ta σ H fun vs H1 => ∃ a b xs ys, vs = [.ref a, .ref b] ∧ ((SqL K H1 a xs ∧ SqL K H1 b ys ∧ R (Itz K a b) H1) ∨ (SqT K H1 a xs ∧ SqT K H1 b ys ∧ R (RZ.ItzT K a b) H1))) : RZ.iZipA K ta σ H R := h
end
/-- the number of a term's note, and its members' -/
theorem innN_memb {q : P} (h : isK q 0) : innN q = memb q := by
  cases q <;> simp only [isK] at h <;> first | rfl | omega
end Gd
namespace Gd
open PySem PySem.Spec PyProof.Rows L2
theorem NoteAt.f {H : Hp} {v : V} {R : List P} {q : P} (h : NoteAt H v R q false) : ∃ (a c : Addr) (w0 : V), v = .ref a ∧ H a = some (.tup [w0, V.int ((ix R q : Nat) : Int), .ref c]) ∧ Da H w0 (enc q) ∧ IxT H c R (innN q) := by
  obtain ⟨a, c, w0, e, ha, d, i⟩ := h.ex
  exact ⟨a, c, w0, e, by rw [if_neg (by decide)] at ha; exact ha, d, i⟩
theorem NoteAt.t {H : Hp} {v : V} {R : List P} {q : P} (h : NoteAt H v R q true) : ∃ (a c : Addr) (w0 : V), v = .ref a ∧ H a = some (.tup [w0, V.non, .ref c]) ∧ Da H w0 (enc q) ∧ IxT H c R (innN q) := by
  obtain ⟨a, c, w0, e, ha, d, i⟩ := h.ex
  exact ⟨a, c, w0, e, by rw [if_pos rfl] at ha; exact ha, d, i⟩
theorem NoteAt.mk' {H : Hp} {a c : Addr} {w0 : V} {R : List P} {q : P} (ha : H a = some (.tup [w0, V.int ((ix R q : Nat) : Int), .ref c])) (d : Da H w0 (enc q)) (i : IxT H c R (innN q)) (r : inR R q) : NoteAt H (.ref a) R q false :=
  ⟨⟨a, c, w0, rfl, by rw [if_neg (by decide)]; exact ha, d, i⟩, fun _ => r⟩
theorem NoteAt.mkT {H : Hp} {a c : Addr} {w0 : V} {R : List P} {q : P} (ha : H a = some (.tup [w0, V.non, .ref c])) (d : Da H w0 (enc q)) (i : IxT H c R (innN q)) : NoteAt H (.ref a) R q true :=
  ⟨⟨a, c, w0, rfl, by rw [if_pos rfl]; exact ha, d, i⟩, fun z => by cases z⟩
/-- parts that are replaced one by one -/
def isPl : P → Bool
  | .use _ _ => true
  | .sig _ _ => true
  | .dots _ => true
  | _ => false
theorem pl_parts {y : P} (h : okN y) (c : isPl y = true) : ∀ x ∈ parts y, isLf x = false := by
  intro x hx
  rcases h with ⟨k, h⟩ | ⟨s, rfl, _⟩
  · cases y <;> simp [isPl] at c
    case use n vs =>
      simp only [isK] at h
      have := isKs_iff.mp h.2.2 x hx
      cases x <;> simp only [isK] at this <;> first | rfl | omega
    case sig i r =>
      simp only [isK] at h
      simp only [parts, List.mem_cons, List.not_mem_nil, or_false] at hx
      rcases hx with rfl | rfl
      · have := h.2.1
        cases x <;> simp only [isK] at this <;> first | rfl | omega
      · have := h.2.2
        cases x <;> simp only [isK] at this <;> first | rfl | omega
    case dots t =>
      simp only [isK] at h
      simp only [parts, List.mem_cons, List.not_mem_nil, or_false] at hx
      subst hx
      have := h.2
      cases x <;> simp only [isK] at this <;> first | rfl | omega
  · simp [isPl] at c
end Gd
namespace Gd
open PySem PySem.Spec PyProof.Rows L2
def isSD : P → Bool
  | .sig _ _ => true
  | .dots _ => true
  | _ => false
theorem sd_pl {y : P} (h : isSD y = true) : isPl y = true := by cases y <;> first | rfl | (simp [isSD] at h; done)
theorem sd_sb {m : Mp} {y : P} (h : isSD y = true) : enc (sb m y) = .tuple (.str (hd y) :: encs ((parts y).map (sb m))) ∧ parts (sb m y) = (parts y).map (sb m) ∧ hd (sb m y) = hd y ∧ isLf (sb m y) = false ∧ isUni (sb m y) = false ∧ isLf y = false ∧ innN (sb m y) = [sb m y] := by
  cases y <;> first
    | (simp [isSD] at h; done)
    | (refine ⟨?_, ?_, ?_, ?_, ?_, ?_, ?_⟩ <;> (simp only [sb, enc, encs, parts, hd, isLf, isUni, List.map_cons, List.map_nil]; try rfl))
theorem parts_len {p : P} {n : Nat} (h : kw (enc p) ≤ n) : (parts p).length ≤ n := by
  have h1 := pre_kw p
  have h2 := pres_len (parts p)
  rw [pre_eq, List.length_cons] at h1
  omega
/-- what a maker of notes does -/
def sp_mk (c : P → Bool) : Sp := fun vs H Q _ => ∃ (d a mp : Addr) (v : V) (y : P) (R : List P) (m : Mp) (ns : List V), vs = [.ref d, v, .ref a, .ref mp] ∧ c y = true ∧ NumD H d R ∧ Da H v (enc y) ∧ H a = some (.lst ns) ∧ Nts H ns R m (parts y) ∧ MapAt H mp R m ∧
  okB m y ∧ R.length ≤ 900000 ∧
  ∀ (v' : V) (R' : List P) (H' : Hp), Mv d H H' → NumD H' d R' → Ex R R' → R'.length ≤ R.length + 2 → NoteAt H' v' R' (sb m y) (isLf y) → Q v' H'
theorem IxT.one {H : Hp} {c : Addr} {R : List P} {q : P} (h : H c = some (.tup [V.int ((ix R q : Nat) : Int)])) (i : inR R q) : IxT H c R [q] := ⟨h, fun x hx => by rw [List.mem_singleton.mp hx]; exact i⟩
end Gd
namespace Gd
open PySem PySem.Spec PyProof.Rows L2
def rInK (neg : Bool) : R2 := fun x y H Q => ∃ (a : Addr) (o : Option V), y = .ref a ∧ DGet H a x o ∧ Q (.bl (if neg then !o.isSome else o.isSome)) H
section
variable {X : Cx}
theorem op_inK (hu : X.A.units + 1 < cLine) : OpR X (compareOp .In) (rInK false) := by
  intro pins s σ H x y v u Q I rx ry ⟨a, o, ey, g, q⟩
  subst ey
  cases ry
  exact d_in hu I g rx fun s3 I3 => ⟨.bl o.isSome, H, I3, rfl, q⟩
theorem op_notInK (hu : X.A.units + 1 < cLine) : OpR X (compareOp .NotIn) (rInK true) := by
  intro pins s σ H x y v u Q I rx ry ⟨a, o, ey, g, q⟩
  subst ey
  cases ry
  exact d_notIn hu I g rx fun s3 I3 => ⟨.bl (!o.isSome), H, I3, rfl, q⟩
end
section
variable {σ : L2.St} {H : Hp} {Q : VK} {K : PySem.W.Frag}
theorem r_inK {a : Addr} {kvs : List (Key × V)} {z : Str} (h : H a = some (.dK kvs)) (q : Q (.bl (valV kvs (Sum.inr z : Key)).isSome) H) : rInK false (.str z) (.ref a) H Q :=
  ⟨a, _, rfl, DGet.k (k := (Sum.inr z : Key)) h, q⟩
theorem r_notInK {a : Addr} {kvs : List (Key × V)} {z : Str} (h : H a = some (.dK kvs)) (q : Q (.bl (!(valV kvs (Sum.inr z : Key)).isSome)) H) : rInK true (.str z) (.ref a) H Q :=
  ⟨a, _, rfl, DGet.k (k := (Sum.inr z : Key)) h, q⟩
theorem r_dgetN {i j : Nat} {m : Addr} {kvs : List (Key × V)} {n : Str} {v : V} (hi : σ[i]? = some (some (.ref m))) (hj : σ[j]? = some (some (.str n))) (hm : H m = some (.dK kvs))
    (e : valV kvs (Sum.inr n : Key) = some v) (q : Q v H) : tDGet (tVar i) (tVar j) σ H Q :=
  r_dget (r_var hi (r_var hj ⟨m, v, rfl, by rw [← e]; exact DGet.k (k := (Sum.inr n : Key)) hm, q⟩))
end
theorem lf_okN {m : Mp} {y : P} (h : isLf y = true) (o : okB m y) : (∃ n, y = .star n ∧ True) ∨ ∃ s, y = .tail s ∧ True := by
  cases y with
  | star n => exact .inl ⟨n, rfl, trivial⟩
  | tail s => exact .inr ⟨s, rfl, trivial⟩
  | _ => simp [isLf] at h
def isRI : P → Bool
  | .row _ => true
  | .inp _ _ => true
  | _ => false
/-- the tail as a value -/
def tlV : Option Str → V
  | none => .non
  | some s => .str s
theorem tlV_da {H : Hp} (t : Option Str) : Da H (tlV t) (tlD t) := by cases t <;> constructor
theorem ri_inp {m : Mp} {y : P} (h : isRI y = true) (o : okB m y) : (∃ xs, y = .row xs ∧ sb m y = .row (gis m (parts y)) ∧ gtl m (parts y) = none) ∨
    ∃ xs tl, y = .inp xs tl ∧ sb m y = .inp (gis m (parts y)) (gtl m (parts y)) := by
  have hst : ∀ {xs : List P}, (∀ x ∈ xs, x ∈ parts y) → (∀ x ∈ xs, ∀ s, x ≠ .tail s) → ∀ x ∈ xs, isLf x = true → tlOf (sb m x) = none := fun {xs} h1 h2 x hx hl => by
    cases x with
    | star n =>
      obtain ⟨ys, e⟩ := (o.sub _ (h1 _ hx)).1 n rfl
      rw [e]
      rfl
    | tail s => exact absurd rfl (h2 _ hx s)
    | _ => simp [isLf] at hl
  have nt : ∀ {xs : List P} {k : Nat}, isKs xs k → ∀ x ∈ xs, ∀ s, x ≠ .tail s := fun {xs k} hk x hx s e => by
    have := isKs_iff.mp hk x hx
    subst e
    simp only [isK] at this
  rcases o.ok with ⟨k, hk⟩ | ⟨s, rfl, _⟩
  · cases y with
    | row xs =>
      simp only [isK] at hk
      refine .inl ⟨xs, rfl, by rw [sb]; rfl, ?_⟩
      exact gtl_items m xs none (hst (fun x hx => hx) (nt hk.2)) rfl
    | inp xs tl =>
      simp only [isK] at hk
      refine .inr ⟨xs, tl, rfl, ?_⟩
      exact gather_eq m xs tl (hst (fun x hx => List.mem_append_left _ hx) (nt hk.2.1))
    | _ => simp [isRI] at h
  · simp [isRI] at h
theorem gis_snoc (m : Mp) (l : List P) (q : P) : gis m (l ++ [q]) = gis m l ++ (if isLf q = true then its (sb m q) else [sb m q]) := by rw [gis_app]; simp [gis]
theorem gis_take (m : Mp) (l : List P) (i : Nat) : (gis m (l.take i)).length ≤ (gis m l).length := by
  have e : gis m l = gis m (l.take i) ++ gis m (l.drop i) := by
    rw [← gis_app, List.take_append_drop]
  have := congrArg List.length e
  rw [List.length_append] at this
  omega
theorem gtl_snoc (m : Mp) (l : List P) (q : P) : gtl m (l ++ [q]) = if isLf q = true then tlOf (sb m q) else gtl m l := by
  unfold gtl
  rw [List.foldl_append]
  rfl
theorem r_setT {σ : L2.St} {H : Hp} {Q : VK} {i j : Nat} {d : Addr} {R : List P} {s : Str} (hi : σ[i]? = some (some (.ref d))) (hj : σ[j]? = some (some (.str s))) (hd : NumD H d R) (hp : okN (.tail s)) (hl : R.length ≤ 1000000)
    (q : ∀ H1 H', Up H H1 → Mv d H1 H' → NumD H1 d R → NumD H' d (addN R (.tail s)) → Q (.int ((ix (addN R (.tail s)) (.tail s) : Nat) : Int)) H') :
    tDSetdT (tVar i) (tTup (tCons (tC (.str ("**" : Str))) (tCons (tVar j) tNil))) (tCB rLenT (tCons (tVar i) tNil)) σ H Q := by
  obtain ⟨kvs, e, n⟩ := hd
  refine r_dsdT (r_var hi ⟨d, rfl, isD_ofT e, r_tup' (r_cons (r_c (r_cons (r_var hj (r_nil (r_newT (by simp) fun b H1 nb u1 g1 => r_cb (r_cons (r_var hi (r_nil (r_lenT (u1 _ _ e) ?_))))))))))⟩)
  refine Nm.setd (u1 _ _ e) n hp (fun x hx => (List.not_mem_nil hx).elim) ?_ hl fun H' m' n' => q H1 H' u1 m' ⟨kvs, u1 _ _ e, n⟩ n'
  rw [lets_lf R rfl]
  exact g1
end Gd
namespace Gd
open PySem PySem.Spec PyProof.Rows L2
theorem kws_of {B : Nat} : ∀ {ps : List P}, (∀ p ∈ ps, kw (enc p) ≤ B) → kws (encs ps) ≤ (B + 5) * ps.length
  | [], _ => by simp [encs, kws]
  | p :: r, h => by
    have h1 := h p List.mem_cons_self
    have h2 := kws_of (ps := r) fun q hq => h q (List.mem_cons_of_mem _ hq)
    simp only [encs, kws, List.length_cons, Nat.mul_add, Nat.mul_one]
    omega
theorem good_kw {n : Str} (h : good n) : kw (.str n) ≤ 70 := by
  have := h.2.1
  simp only [kw]; omega
theorem okB_m0 {q : P} (h : okN q) (hw : kw (enc q) ≤ 90000) : okB m0 q := by
  have id' : ∀ k, isK q k → isLf q = false → sb m0 q = q := fun k hk hl => sb_id q k hk hl
  have idl : isLf q = false → sb m0 q = q := fun hl => by
    rcases h with ⟨k, hk⟩ | ⟨s, rfl, _⟩
    · exact id' k hk hl
    · simp [isLf] at hl
  refine ⟨h, fun _ => rfl, hw, ?_, fun hl => by rw [idl hl]; exact h, fun ms e => ?_, fun x hx => ⟨fun n e => ⟨[.star n], by subst e; rfl⟩, fun s e => ⟨[], some s, by subst e; rfl⟩⟩⟩
  · cases hl : isLf q with
    | false => rw [idl hl]; exact hw
    | true =>
      cases q with
      | star n =>
        rcases h with ⟨k, hk⟩ | ⟨s, e, _⟩
        · simp only [isK] at hk
          have := good_kw hk.2
          have e : sb m0 (.star n) = .row [.star n] := rfl
          rw [e]
          have e1 : ("*" : Str).length = 1 := by decide +kernel
          have e2 : ("[]" : Str).length = 2 := by decide +kernel
          simp only [enc, encs, kw, kws, e1, e2] at this ⊢
          omega
        · cases e
      | tail s =>
        have hs : s.length ≤ 6 := by
          rcases h with ⟨k, hk⟩ | ⟨s', e, hs⟩
          · simp only [isK] at hk
          · cases e
            rcases hs with rfl | hs
            · decide +kernel
            · exact hs.2.1
        have e : sb m0 (.tail s) = .inp [] (some s) := rfl
        rw [e]
        have e2 : ("()" : Str).length = 2 := by decide +kernel
        simp only [enc, encs, kw, kws, tlD, e2]
        omega
      | _ => simp [isLf] at hl
  · subst e
    rcases h with ⟨k, hk⟩ | ⟨s, e, _⟩
    · simp only [isK] at hk
      have hm := isKs_iff.mp hk.2.2.2
      have i1 : ∀ x ∈ ms, sb m0 x = x := fun x hx => sb_id x 4 (hm x hx) (by have := hm x hx; cases x <;> simp [isK] at this <;> rfl)
      have e2 : ms.map (sb m0) = ms := by
        rw [List.map_congr_left i1, List.map_id'']
        intro x; rfl
      refine ⟨fun e => by rw [e] at hk; simp at hk, fun x hx => by rw [i1 x hx]; exact isK_mem (hm x hx), ?_⟩
      rw [e2]
      have e3 : ∀ {l : List P}, (∀ x ∈ l, isK x 4) → l.flatMap memb = l := fun {l} hl => by
        induction l with
        | nil => rfl
        | cons a r ih =>
          rw [List.flatMap_cons, memb4 (hl a List.mem_cons_self), ih fun x hx => hl x (List.mem_cons_of_mem _ hx)]
          rfl
      rw [e3 hm]
      have := kws_ge ms
      simp only [enc, kw, kws] at hw
      omega
    · cases e
end Gd

namespace My
open PySem PySem.Spec PyProof.Rows L2 Gd
local macro_rules | `(tactic| walk_at "ar") => `(tactic| first
  | omega
  | exact Or.inr ⟨by decide, by decide⟩ | exact Or.inl ⟨by decide, by decide⟩
  | exact mul01
  | exact ⟨by omega, by omega⟩ | exact ⟨by omega, by omega, by omega⟩ | exact ⟨by decide, by decide, by omega⟩
  | exact Or.inr ⟨by omega, by omega⟩ | exact Or.inl ⟨by omega, by omega⟩ | decide)
local macro_rules | `(tactic| walk_at "hp") => `(tactic| first | assumption | exact upd_same | (refine' (by assumption : Up _ _) _ _ ?_; walk_at "hp"))
local macro_rules | `(tactic| walk_at "da") => `(tactic| first | assumption | ((refine' Da.up ?k1 ?k2); (case k2 => assumption); (case k1 => walk_at "da")) | ((refine' Das.up ?k1 ?k2); (case k2 => assumption); (case k1 => walk_at "da")))
local macro_rules | `(tactic| walk_at "up") => `(tactic| first | assumption | exact Up.rf | ((refine' Up.tr ?k1 ?k2); (case k2 => assumption); (case k1 => walk_at "up")))
local macro_rules | `(tactic| walk_at "rd1") => `(tactic| first
  | ((with_reducible refine' r_var ?k1 ?_); (case k1 => exact rfl))
  | (with_reducible refine' r_c ?_) | (with_reducible refine' r_op ?_) | (with_reducible refine' r_seq ?_)
  | (with_reducible refine' r_i0 ?_) | ((with_reducible refine' r_i ?k1 ?_); (case k1 => walk_at "ar"))
  | (with_reducible refine' r_eqI ?_) | (with_reducible refine' r_eqS ?_) | (with_reducible refine' r_neI ?_) | (with_reducible refine' r_neS ?_)
  | (with_reducible refine' r_nil ?_) | (with_reducible refine' r_cons ?_) | (with_reducible refine' r_tup' ?_) | (with_reducible refine' r_lst' ?_)
  | ((with_reducible refine' r_newT ?k1 ?_); (case k1 => first | decide | (simp; done) | (simp; omega)); intro _ _ _ _ _)
  | ((with_reducible refine' r_newL ?k1 ?_); (case k1 => first | decide | (simp; done) | (simp; omega)); intro _ _ _ _ _)
  | (with_reducible refine' r_ifE ?_) | (with_reducible refine' r_test ?_) | (with_reducible refine' r_b ?_) | (with_reducible refine' r_bl ?_)
  | (with_reducible refine' r_and ?_) | (with_reducible refine' r_or ?_) | (with_reducible refine' r_not ?_) | (with_reducible refine' r_andV ?_) | (with_reducible refine' r_orV ?_)
  | (with_reducible refine' r_cb ?_) | (with_reducible refine' r_bm0 ?_) | (with_reducible refine' r_bm ?_) | (with_reducible refine' r_sl ?_)
  | (with_reducible refine' r_nop ?_) | (with_reducible refine' r_part ?_) | (with_reducible refine' r_int ?_) | (with_reducible refine' r_un ?_) | (with_reducible refine' r_neg ?_) | (with_reducible refine' r_back ?_)
  | ((with_reducible refine' r_ixT ?k1 ?k2 ?_); (case k1 => walk_at "hp"); (case k2 => first | exact at0 | exact at1 | exact at2 | exact rfl))
  | ((with_reducible refine' r_ixL ?k1 ?k2 ?_); (case k1 => walk_at "hp"); (case k2 => exact rfl))
  | ((with_reducible refine' r_setL ?k1 ?k2 ?_); (case k1 => walk_at "hp"); (case k2 => exact rfl))
  | ((with_reducible refine' r_in2 ?k1 ?_); (case k1 => walk_at "hp")) | ((with_reducible refine' r_ni2 ?k1 ?_); (case k1 => walk_at "hp"))
  | ((with_reducible refine' r_from1 ?k1 ?_); (case k1 => walk_at "hp"); intro _ _ _ _)
  | ((with_reducible refine' r_catA ?k1 ?k2 ?k3 ?_); (case k1 => walk_at "hp"); (case k2 => walk_at "hp"); (case k3 => first | decide | (simp; omega) | omega); intro _ _ _ _)
  | ((with_reducible refine' r_bk ?k1 ?_); (case k1 => walk_at "hp"); intro _ _ _ _ _)
  | (with_reducible refine' r_nn ?_) | ((with_reducible refine' r_in2L ?k1 ?_); (case k1 => walk_at "hp"))
  | ((with_reducible refine' r_wipe ?k1 ?_); (case k1 => exact rfl)) | (with_reducible refine' r_yes ?_) | (with_reducible refine' r_t ?_) | (with_reducible refine' r_f ?_)
  | (with_reducible refine' r_tyS ?_) | ((with_reducible refine' r_gtup ?k1 ?k2 ?_); (case k1 => walk_at "hp"); (case k2 => exact rfl)) | (with_reducible refine' r_gc ?_) | (with_reducible refine' r_gn ?_)
  | (with_reducible refine' r_L1 ?_) | (with_reducible refine' r_iB ?_) | (with_reducible refine' r_L2 ?_)
  | (with_reducible refine' r_lc ?_) | (with_reducible refine' r_il ?_) | (with_reducible refine' r_it ?_) | (with_reducible refine' r_ir ?_)
  | (with_reducible refine' r_nx ?_) | (with_reducible refine' r_ret ?_) | (with_reducible refine' r_drop ?_) | (with_reducible refine' r_asg ?_) | (with_reducible refine' r_name ?_)
  | (with_reducible refine' r_sub ?_) | (with_reducible refine' r_ifS ?_) | (with_reducible refine' r_par ?_) | (with_reducible refine' r_2 ?_) | (with_reducible refine' r_for ?_) | (with_reducible refine' r_star ?_) | (with_reducible refine' r_notInKd ?_) | (with_reducible refine' r_inKd ?_))
local macro_rules | `(tactic| walk_at "rd") => `(tactic| repeat walk_at "rd1")
local macro_rules | `(tactic| walk_at "cf") => `(tactic| first
  | ((with_reducible refine' ifT ?k1 ?_); (case k1 => decide +kernel)) | ((with_reducible refine' ifF ?k1 ?_); (case k1 => decide +kernel))
  | ((with_reducible refine' ifF ?k1 ?_); (case k1 => (simp; done))) | ((with_reducible refine' ifT ?k1 ?_); (case k1 => (simp; done)))
  | ((with_reducible refine' ifF ?k1 ?_); (case k1 => (simp [*]; done))) | ((with_reducible refine' ifT ?k1 ?_); (case k1 => (simp [*]; done))))
local macro_rules | `(tactic| walk_at "rc") => `(tactic| repeat (first | walk_at "rd1" | walk_at "cf"))
local macro_rules | `(tactic| walk_at "rn1") => `(tactic| first
  | ((with_reducible refine' r_var ?k1 ?_); (case k1 => exact rfl))
  | (with_reducible refine' r_c ?_) | (with_reducible refine' r_op ?_) | (with_reducible refine' r_seq ?_)
  | (with_reducible refine' r_i0 ?_) | ((with_reducible refine' r_i ?k1 ?_); (case k1 => walk_at "ar"))
  | (with_reducible refine' r_eqI ?_) | (with_reducible refine' r_eqS ?_) | (with_reducible refine' r_neI ?_) | (with_reducible refine' r_neS ?_)
  | (with_reducible refine' r_nil ?_) | (with_reducible refine' r_cons ?_) | (with_reducible refine' r_tup' ?_) | (with_reducible refine' r_lst' ?_)
  | ((with_reducible refine' r_newT ?k1 ?_); (case k1 => first | decide | (simp; done) | (simp; omega)); intro _ _ _ _ _)
  | ((with_reducible refine' r_newL ?k1 ?_); (case k1 => first | decide | (simp; done) | (simp; omega)); intro _ _ _ _ _)
  | (with_reducible refine' r_ifE ?_) | (with_reducible refine' r_test ?_) | (with_reducible refine' r_b ?_) | (with_reducible refine' r_bl ?_)
  | (with_reducible refine' r_or ?_) | (with_reducible refine' r_not ?_) | (with_reducible refine' r_andV ?_) | (with_reducible refine' r_orV ?_)
  | (with_reducible refine' r_cb ?_) | (with_reducible refine' r_bm0 ?_) | (with_reducible refine' r_bm ?_) | (with_reducible refine' r_sl ?_)
  | (with_reducible refine' r_nop ?_) | (with_reducible refine' r_part ?_) | (with_reducible refine' r_int ?_) | (with_reducible refine' r_un ?_) | (with_reducible refine' r_neg ?_) | (with_reducible refine' r_back ?_)
  | ((with_reducible refine' r_ixT ?k1 ?k2 ?_); (case k1 => walk_at "hp"); (case k2 => first | exact at0 | exact at1 | exact at2 | exact rfl))
  | ((with_reducible refine' r_ixL ?k1 ?k2 ?_); (case k1 => walk_at "hp"); (case k2 => exact rfl))
  | ((with_reducible refine' r_setL ?k1 ?k2 ?_); (case k1 => walk_at "hp"); (case k2 => exact rfl))
  | ((with_reducible refine' r_in2 ?k1 ?_); (case k1 => walk_at "hp")) | ((with_reducible refine' r_ni2 ?k1 ?_); (case k1 => walk_at "hp"))
  | ((with_reducible refine' r_from1 ?k1 ?_); (case k1 => walk_at "hp"); intro _ _ _ _)
  | ((with_reducible refine' r_catA ?k1 ?k2 ?k3 ?_); (case k1 => walk_at "hp"); (case k2 => walk_at "hp"); (case k3 => first | decide | (simp; omega) | omega); intro _ _ _ _)
  | ((with_reducible refine' r_bk ?k1 ?_); (case k1 => walk_at "hp"); intro _ _ _ _ _)
  | (with_reducible refine' r_nn ?_) | ((with_reducible refine' r_in2L ?k1 ?_); (case k1 => walk_at "hp"))
  | ((with_reducible refine' r_wipe ?k1 ?_); (case k1 => exact rfl)) | (with_reducible refine' r_yes ?_) | (with_reducible refine' r_t ?_) | (with_reducible refine' r_f ?_)
  | (with_reducible refine' r_tyS ?_) | ((with_reducible refine' r_gtup ?k1 ?k2 ?_); (case k1 => walk_at "hp"); (case k2 => exact rfl)) | (with_reducible refine' r_gc ?_) | (with_reducible refine' r_gn ?_)
  | (with_reducible refine' r_L1 ?_) | (with_reducible refine' r_iB ?_) | (with_reducible refine' r_L2 ?_)
  | (with_reducible refine' r_lc ?_) | (with_reducible refine' r_il ?_) | (with_reducible refine' r_it ?_) | (with_reducible refine' r_ir ?_)
  | (with_reducible refine' r_nx ?_) | (with_reducible refine' r_ret ?_) | (with_reducible refine' r_drop ?_) | (with_reducible refine' r_asg ?_) | (with_reducible refine' r_name ?_)
  | (with_reducible refine' r_sub ?_) | (with_reducible refine' r_ifS ?_) | (with_reducible refine' r_par ?_) | (with_reducible refine' r_2 ?_) | (with_reducible refine' r_for ?_) | (with_reducible refine' r_star ?_) | (with_reducible refine' r_notInKd ?_) | (with_reducible refine' r_inKd ?_))
local macro_rules | `(tactic| walk_at "rn") => `(tactic| repeat (first | walk_at "rn1" | walk_at "cf"))

def top (i : Nat) : Stmt := PySem.Challenge.pw_aliasparams_k14_whole_terms_from_their_p.main.body.getD i (.Pass ⟨0, 0, 0, 0⟩)
abbrev s_numbered : Stmt := top 1
theorem sc_numbered : FnScope ["numbers", "layout", "found", "at", "parts", "starts", "part", "letters"] ["numbers", "layout"] (defScope s_numbered) := ⟨rfl, rfl, rfl, by decide +kernel, rfl, by decide +kernel, by decide +kernel⟩

abbrev s_parts_of : Stmt := top 4
theorem sc_parts_of : FnScope ["part", "head"] ["part"] (defScope s_parts_of) := ⟨rfl, rfl, rfl, by decide +kernel, rfl, by decide +kernel, by decide +kernel⟩

abbrev s_all_parts : Stmt := top 5
theorem sc_all_parts : FnScope ["top", "found", "waiting", "part"] ["top"] (defScope s_all_parts) := ⟨rfl, rfl, rfl, by decide +kernel, rfl, by decide +kernel, by decide +kernel⟩

abbrev s_laid_out : Stmt := top 6
theorem sc_laid_out : FnScope ["top", "parts", "starts"] ["top"] (defScope s_laid_out) := ⟨rfl, rfl, rfl, by decide +kernel, rfl, by decide +kernel, by decide +kernel⟩

abbrev s_is_node : Stmt := top 7
theorem sc_is_node : FnScope ["part"] ["part"] (defScope s_is_node) := ⟨rfl, rfl, rfl, by decide +kernel, rfl, by decide +kernel, by decide +kernel⟩

abbrev s_noted : Stmt := top 9
theorem sc_noted : FnScope ["numbers", "layout", "mapping", "notes", "at", "parts", "starts"] ["numbers", "layout", "mapping"] (defScope s_noted) := ⟨rfl, rfl, rfl, by decide +kernel, rfl, by decide +kernel, by decide +kernel⟩

abbrev s_joined_notes : Stmt := top 10
theorem sc_joined_notes : FnScope ["numbers", "notes", "members", "inner", "letters", "part", "_", "member", "number"] ["numbers", "notes"] (defScope s_joined_notes) := ⟨rfl, rfl, rfl, by decide +kernel, rfl, by decide +kernel, by decide +kernel⟩

abbrev s_noted_part : Stmt := top 11
theorem sc_noted_part : FnScope ["numbers", "part", "inner", "mapping", "head", "letters", "number", "maker", "note"] ["numbers", "part", "inner", "mapping"] (defScope s_noted_part) := ⟨rfl, rfl, rfl, by decide +kernel, rfl, by decide +kernel, by decide +kernel⟩

abbrev s_of_parts : Stmt := top 12
theorem sc_of_parts : FnScope ["numbers", "part", "inner", "mapping", "letters", "number", "note"] ["numbers", "part", "inner", "mapping"] (defScope s_of_parts) := ⟨rfl, rfl, rfl, by decide +kernel, rfl, by decide +kernel, by decide +kernel⟩

abbrev s_of_members : Stmt := top 13
theorem sc_of_members : FnScope ["numbers", "part", "inner", "mapping"] ["numbers", "part", "inner", "mapping"] (defScope s_of_members) := ⟨rfl, rfl, rfl, by decide +kernel, rfl, by decide +kernel, by decide +kernel⟩

abbrev s_opened : Stmt := top 14
theorem sc_opened : FnScope ["numbers", "part", "inner", "mapping", "head", "name"] ["numbers", "part", "inner", "mapping"] (defScope s_opened) := ⟨rfl, rfl, rfl, by decide +kernel, rfl, by decide +kernel, by decide +kernel⟩

abbrev s_gathered : Stmt := top 15
theorem sc_gathered : FnScope ["numbers", "part", "inner", "mapping", "items", "found", "tail", "letters", "made", "own", "number", "those"] ["numbers", "part", "inner", "mapping"] (defScope s_gathered) := ⟨rfl, rfl, rfl, by decide +kernel, rfl, by decide +kernel, by decide +kernel⟩

abbrev s_size : Stmt := top 18
theorem sc_size : FnScope ["term", "part"] ["term"] (defScope s_size) := ⟨rfl, rfl, rfl, by decide +kernel, rfl, by decide +kernel, by decide +kernel⟩

abbrev s_equal : Stmt := top 19
theorem sc_equal : FnScope ["one", "other", "numbers"] ["one", "other"] (defScope s_equal) := ⟨rfl, rfl, rfl, by decide +kernel, rfl, by decide +kernel, by decide +kernel⟩

abbrev s_joined : Stmt := top 20
theorem sc_joined : FnScope ["terms", "numbers", "term"] ["terms"] (defScope s_joined) := ⟨rfl, rfl, rfl, by decide +kernel, rfl, by decide +kernel, by decide +kernel⟩

abbrev s_origin : Stmt := top 21
theorem sc_origin : FnScope ["term"] ["term"] (defScope s_origin) := ⟨rfl, rfl, rfl, by decide +kernel, rfl, by decide +kernel, by decide +kernel⟩

abbrev s_arguments : Stmt := top 22
theorem sc_arguments : FnScope ["term"] ["term"] (defScope s_arguments) := ⟨rfl, rfl, rfl, by decide +kernel, rfl, by decide +kernel, by decide +kernel⟩

abbrev s_made : Stmt := top 23
theorem sc_made : FnScope ["origin", "arguments"] ["origin", "arguments"] (defScope s_made) := ⟨rfl, rfl, rfl, by decide +kernel, rfl, by decide +kernel, by decide +kernel⟩

abbrev s_lbag : Stmt := top 25
theorem sc_lbag : FnScope ["script", "at", "cell", "far", "seed"] ["script", "at"] (defScope s_lbag) := ⟨rfl, rfl, rfl, by decide +kernel, rfl, by decide +kernel, by decide +kernel⟩

abbrev s_ltake : Stmt := top 26
theorem sc_ltake : FnScope ["bag", "many", "digit"] ["bag", "many"] (defScope s_ltake) := ⟨rfl, rfl, rfl, by decide +kernel, rfl, by decide +kernel, by decide +kernel⟩

abbrev s_lnames : Stmt := top 27
theorem sc_lnames : FnScope ["bag", "many", "letters", "stem", "first", "pace", "turn"] ["bag", "many"] (defScope s_lnames) := ⟨rfl, rfl, rfl, by decide +kernel, rfl, by decide +kernel, by decide +kernel⟩

abbrev s_lkey : Stmt := top 28
theorem sc_lkey : FnScope ["thing", "one"] ["thing"] (defScope s_lkey) := ⟨rfl, rfl, rfl, by decide +kernel, rfl, by decide +kernel, by decide +kernel⟩

abbrev s_ljoined : Stmt := top 29
theorem sc_ljoined : FnScope ["terms", "term", "found", "keys", "one"] ["terms"] (defScope s_ljoined) := ⟨rfl, rfl, rfl, by decide +kernel, rfl, by decide +kernel, by decide +kernel⟩

abbrev s_litem : Stmt := top 30
theorem sc_litem : FnScope ["bag", "names", "deep", "way", "term"] ["bag", "names", "deep"] (defScope s_litem) := ⟨rfl, rfl, rfl, by decide +kernel, rfl, by decide +kernel, by decide +kernel⟩

abbrev s_linputs : Stmt := top 31
theorem sc_linputs : FnScope ["bag", "names", "deep", "items", "turn"] ["bag", "names", "deep"] (defScope s_linputs) := ⟨rfl, rfl, rfl, by decide +kernel, rfl, by decide +kernel, by decide +kernel⟩

abbrev s_lterm : Stmt := top 32
theorem sc_lterm : FnScope ["bag", "names", "deep", "way", "items", "row", "turn"] ["bag", "names", "deep"] (defScope s_lterm) := ⟨rfl, rfl, rfl, by decide +kernel, rfl, by decide +kernel, by decide +kernel⟩

abbrev s_lsize : Stmt := top 33
theorem sc_lsize : FnScope ["thing", "parts", "one"] ["thing"] (defScope s_lsize) := ⟨rfl, rfl, rfl, by decide +kernel, rfl, by decide +kernel, by decide +kernel⟩

abbrev s_lsmall : Stmt := top 34
theorem sc_lsmall : FnScope ["bag", "names", "deep", "most", "turn", "term"] ["bag", "names", "deep", "most"] (defScope s_lsmall) := ⟨rfl, rfl, rfl, by decide +kernel, rfl, by decide +kernel, by decide +kernel⟩

abbrev s_lmixed : Stmt := top 35
theorem sc_lmixed : FnScope ["bag", "thing", "members", "found", "one"] ["bag", "thing"] (defScope s_lmixed) := ⟨rfl, rfl, rfl, by decide +kernel, rfl, by decide +kernel, by decide +kernel⟩

abbrev s_lagain : Stmt := top 36
theorem sc_lagain : FnScope ["thing", "part", "item"] ["thing"] (defScope s_lagain) := ⟨rfl, rfl, rfl, by decide +kernel, rfl, by decide +kernel, by decide +kernel⟩

abbrev s_lparts_size : Stmt := top 37
theorem sc_lparts_size : FnScope ["term", "found", "part"] ["term"] (defScope s_lparts_size) := ⟨rfl, rfl, rfl, by decide +kernel, rfl, by decide +kernel, by decide +kernel⟩

abbrev s_ltold_joined : Stmt := top 38
theorem sc_ltold_joined : FnScope ["members", "found", "one"] ["members"] (defScope s_ltold_joined) := ⟨rfl, rfl, rfl, by decide +kernel, rfl, by decide +kernel, by decide +kernel⟩

abbrev s_law : Stmt := top 39
theorem sc_law : FnScope ["script", "at", "bag", "names", "turn", "term", "other", "part"] ["script"] (defScope s_law) := ⟨rfl, rfl, rfl, by decide +kernel, rfl, by decide +kernel, by decide +kernel⟩

structure TX (K : PySem.W.Frag) (mg : Str → Option Value) (w : World) where
  f_numbered : Addr
  d_numbered : FuncData
  F_numbered : Fun K "numbered" "numbered" s_numbered f_numbered d_numbered
  c_numbered : Cal K mg "numbered" f_numbered d_numbered ["numbers", "layout"]
  f_parts_of : Addr
  d_parts_of : FuncData
  F_parts_of : Fun K "parts_of" "parts_of" s_parts_of f_parts_of d_parts_of
  c_parts_of : Cal K mg "parts_of" f_parts_of d_parts_of ["part"]
  f_all_parts : Addr
  d_all_parts : FuncData
  F_all_parts : Fun K "all_parts" "all_parts" s_all_parts f_all_parts d_all_parts
  c_all_parts : Cal K mg "all_parts" f_all_parts d_all_parts ["top"]
  f_laid_out : Addr
  d_laid_out : FuncData
  F_laid_out : Fun K "laid_out" "laid_out" s_laid_out f_laid_out d_laid_out
  c_laid_out : Cal K mg "laid_out" f_laid_out d_laid_out ["top"]
  f_is_node : Addr
  d_is_node : FuncData
  F_is_node : Fun K "is_node" "is_node" s_is_node f_is_node d_is_node
  c_is_node : Cal K mg "is_node" f_is_node d_is_node ["part"]
  f_noted : Addr
  d_noted : FuncData
  F_noted : Fun K "noted" "noted" s_noted f_noted d_noted
  c_noted : Cal K mg "noted" f_noted d_noted ["numbers", "layout", "mapping"]
  f_joined_notes : Addr
  d_joined_notes : FuncData
  F_joined_notes : Fun K "joined_notes" "joined_notes" s_joined_notes f_joined_notes d_joined_notes
  c_joined_notes : Cal K mg "joined_notes" f_joined_notes d_joined_notes ["numbers", "notes"]
  f_noted_part : Addr
  d_noted_part : FuncData
  F_noted_part : Fun K "_noted_part" "_noted_part" s_noted_part f_noted_part d_noted_part
  c_noted_part : Cal K mg "_noted_part" f_noted_part d_noted_part ["numbers", "part", "inner", "mapping"]
  f_of_parts : Addr
  d_of_parts : FuncData
  F_of_parts : Fun K "_of_parts" "_of_parts" s_of_parts f_of_parts d_of_parts
  c_of_parts : Cal K mg "_of_parts" f_of_parts d_of_parts ["numbers", "part", "inner", "mapping"]
  f_of_members : Addr
  d_of_members : FuncData
  F_of_members : Fun K "_of_members" "_of_members" s_of_members f_of_members d_of_members
  c_of_members : Cal K mg "_of_members" f_of_members d_of_members ["numbers", "part", "inner", "mapping"]
  f_opened : Addr
  d_opened : FuncData
  F_opened : Fun K "_opened" "_opened" s_opened f_opened d_opened
  c_opened : Cal K mg "_opened" f_opened d_opened ["numbers", "part", "inner", "mapping"]
  f_gathered : Addr
  d_gathered : FuncData
  F_gathered : Fun K "_gathered" "_gathered" s_gathered f_gathered d_gathered
  c_gathered : Cal K mg "_gathered" f_gathered d_gathered ["numbers", "part", "inner", "mapping"]
  f_size : Addr
  d_size : FuncData
  F_size : Fun K "size" "size" s_size f_size d_size
  c_size : Cal K mg "size" f_size d_size ["term"]
  f_equal : Addr
  d_equal : FuncData
  F_equal : Fun K "equal" "equal" s_equal f_equal d_equal
  c_equal : Cal K mg "equal" f_equal d_equal ["one", "other"]
  f_joined : Addr
  d_joined : FuncData
  F_joined : Fun K "joined" "joined" s_joined f_joined d_joined
  c_joined : CalS K mg "joined" f_joined
  f_origin : Addr
  d_origin : FuncData
  F_origin : Fun K "origin" "origin" s_origin f_origin d_origin
  c_origin : Cal K mg "origin" f_origin d_origin ["term"]
  f_arguments : Addr
  d_arguments : FuncData
  F_arguments : Fun K "arguments" "arguments" s_arguments f_arguments d_arguments
  c_arguments : Cal K mg "arguments" f_arguments d_arguments ["term"]
  f_made : Addr
  d_made : FuncData
  F_made : Fun K "made" "made" s_made f_made d_made
  c_made : Cal K mg "made" f_made d_made ["origin", "arguments"]
  f_lbag : Addr
  d_lbag : FuncData
  F_lbag : Fun K "_law_bag" "_law_bag" s_lbag f_lbag d_lbag
  c_lbag : Cal K mg "_law_bag" f_lbag d_lbag ["script", "at"]
  f_ltake : Addr
  d_ltake : FuncData
  F_ltake : Fun K "_law_take" "_law_take" s_ltake f_ltake d_ltake
  c_ltake : Cal K mg "_law_take" f_ltake d_ltake ["bag", "many"]
  f_lnames : Addr
  d_lnames : FuncData
  F_lnames : Fun K "_law_names" "_law_names" s_lnames f_lnames d_lnames
  c_lnames : Cal K mg "_law_names" f_lnames d_lnames ["bag", "many"]
  f_lkey : Addr
  d_lkey : FuncData
  F_lkey : Fun K "_law_key" "_law_key" s_lkey f_lkey d_lkey
  c_lkey : Cal K mg "_law_key" f_lkey d_lkey ["thing"]
  f_ljoined : Addr
  d_ljoined : FuncData
  F_ljoined : Fun K "_law_joined" "_law_joined" s_ljoined f_ljoined d_ljoined
  c_ljoined : Cal K mg "_law_joined" f_ljoined d_ljoined ["terms"]
  f_litem : Addr
  d_litem : FuncData
  F_litem : Fun K "_law_item" "_law_item" s_litem f_litem d_litem
  c_litem : Cal K mg "_law_item" f_litem d_litem ["bag", "names", "deep"]
  f_linputs : Addr
  d_linputs : FuncData
  F_linputs : Fun K "_law_inputs" "_law_inputs" s_linputs f_linputs d_linputs
  c_linputs : Cal K mg "_law_inputs" f_linputs d_linputs ["bag", "names", "deep"]
  f_lterm : Addr
  d_lterm : FuncData
  F_lterm : Fun K "_law_term" "_law_term" s_lterm f_lterm d_lterm
  c_lterm : Cal K mg "_law_term" f_lterm d_lterm ["bag", "names", "deep"]
  f_lsize : Addr
  d_lsize : FuncData
  F_lsize : Fun K "_law_size" "_law_size" s_lsize f_lsize d_lsize
  c_lsize : Cal K mg "_law_size" f_lsize d_lsize ["thing"]
  f_lsmall : Addr
  d_lsmall : FuncData
  F_lsmall : Fun K "_law_small" "_law_small" s_lsmall f_lsmall d_lsmall
  c_lsmall : Cal K mg "_law_small" f_lsmall d_lsmall ["bag", "names", "deep", "most"]
  f_lmixed : Addr
  d_lmixed : FuncData
  F_lmixed : Fun K "_law_mixed" "_law_mixed" s_lmixed f_lmixed d_lmixed
  c_lmixed : Cal K mg "_law_mixed" f_lmixed d_lmixed ["bag", "thing"]
  f_lagain : Addr
  d_lagain : FuncData
  F_lagain : Fun K "_law_again" "_law_again" s_lagain f_lagain d_lagain
  c_lagain : Cal K mg "_law_again" f_lagain d_lagain ["thing"]
  f_lparts_size : Addr
  d_lparts_size : FuncData
  F_lparts_size : Fun K "_law_parts_size" "_law_parts_size" s_lparts_size f_lparts_size d_lparts_size
  c_lparts_size : Cal K mg "_law_parts_size" f_lparts_size d_lparts_size ["term"]
  f_ltold_joined : Addr
  d_ltold_joined : FuncData
  F_ltold_joined : Fun K "_law_told_joined" "_law_told_joined" s_ltold_joined f_ltold_joined d_ltold_joined
  c_ltold_joined : Cal K mg "_law_told_joined" f_ltold_joined d_ltold_joined ["members"]
  f_law : Addr
  d_law : FuncData
  F_law : Fun K "law" "law" s_law f_law d_law
  c_law : Cal K mg "law" f_law d_law ["script"]
  o_OTHERS : Addr
  g_OTHERS : mg "_OTHERS" = some (.ref o_OTHERS)
  D_OTHERS : KD K w o_OTHERS ["*", "**", "->", "...", "()"]
  o_MAKERS : Addr
  g_MAKERS : mg "_MAKERS" = some (.ref o_MAKERS)
  D_MAKERS : KD K w o_MAKERS ["|", "[]", "()", "*", "**", "->", "..."]
  v_MAKERS_0 : PySem.W.nsIn K o_MAKERS "|" = some (some (.ref f_of_members))
  v_MAKERS_1 : PySem.W.nsIn K o_MAKERS "[]" = some (some (.ref f_gathered))
  v_MAKERS_2 : PySem.W.nsIn K o_MAKERS "()" = some (some (.ref f_gathered))
  v_MAKERS_3 : PySem.W.nsIn K o_MAKERS "*" = some (some (.ref f_opened))
  v_MAKERS_4 : PySem.W.nsIn K o_MAKERS "**" = some (some (.ref f_opened))
  v_MAKERS_5 : PySem.W.nsIn K o_MAKERS "->" = some (some (.ref f_of_parts))
  v_MAKERS_6 : PySem.W.nsIn K o_MAKERS "..." = some (some (.ref f_of_parts))
  z_abs : mg "abs" = none
  z_int : mg "int" = none
  z_isinstance : mg "isinstance" = none
  z_len : mg "len" = none
  z_list : mg "list" = none
  z_max : mg "max" = none
  z_min : mg "min" = none
  z_range : mg "range" = none
  z_repr : mg "repr" = none
  z_reversed : mg "reversed" = none
  z_sorted : mg "sorted" = none
  z_str : mg "str" = none
  z_sum : mg "sum" = none
  z_tuple : mg "tuple" = none
  z_zip : mg "zip" = none
def Bag (H : Hp) (b : Addr) : Prop := ∃ x y z : Int, H b = some (.lst [.int x, .int y, .int z]) ∧ 0 ≤ y ∧ y < 2147483648
theorem Bag.up {H H' : Hp} {b : Addr} (h : Bag H b) (k : Up H H') : Bag H' b := let ⟨x, y, z, e, r⟩ := h; ⟨x, y, z, k _ _ e, r⟩
theorem Bag.ne {H : Hp} {b p : Addr} (h : Bag H b) (n : H p = none) : p ≠ b := let ⟨_, _, _, e, _⟩ := h; (ne_of_none e n).symm
theorem Bag.ne' {H H' : Hp} {b p : Addr} (h : Bag H' b) (n : H p = none) (u : Up H H') (hb : Bag H b) : p ≠ b := hb.ne n
theorem Bag.fr {H H' : Hp} {b p : Addr} (h : Bag H' b) (m : Mv b H H') (n : H' p = none) : H p = none := let ⟨_, _, _, e, _⟩ := h; m.fr e n
theorem Bag.tk {H H' : Hp} {b : Addr} (h : Bag H b) (m : Mv b H H') : Tk H H' := let ⟨_, _, _, e, _⟩ := h; m.tk e
theorem Bag.mv {H H' : Hp} {b p : Addr} (h : Bag H b) (ne : b ≠ p) (m : Mv p H H') : Bag H' b := let ⟨x, y, z, e, r⟩ := h; ⟨x, y, z, m _ _ ne e, r⟩
def sp_ltake : Sp := fun vs H Q _ => ∃ (b : Addr) (m : Int), vs = [.ref b, .int m] ∧ Bag H b ∧ 1 ≤ m ∧ m ≤ 1000 ∧
  ∀ (r : Int) (H' : Hp), 0 ≤ r → r < m → Mv b H H' → Bag H' b → Q (.int r) H'
section
variable {P : Program} {w : World} {K : PySem.W.Frag} {mg : Str → Option Value} {base : Heap}
def sp_parts_of : Sp := fun vs H Q _ => ∃ (v : V) (p : Gd.P), vs = [v] ∧ Da H v (enc p) ∧ hok p ∧ (parts p).length ≤ 90000 ∧
  ∀ (a : Addr) (xs : List V) (H' : Hp), Up H H' → H' a = some (.tup xs) → Das H' xs (encs (parts p)) → Q (.ref a) H'
theorem ok_parts_of (T : TX K mg w) : FG P w K mg base CX0 1 T.f_parts_of T.d_parts_of ["part"] sp_parts_of := by
  refine Gd.ok T.F_parts_of sc_parts_of (fun vs H Q E h => ?_) (fun cdv A out s H vs Q E hg hr h => ?_)
  · obtain ⟨b, m, rfl, _⟩ := h
    rfl
  · obtain ⟨v, p, rfl, hv, hok, hl, k⟩ := h
    have nd := sc_parts_of.nd
    refine ⟨_, (pss_cons (ps_set (i := 1) nd rfl (by first | exact Or.inl rfl | exact Or.inr rfl) (pe_ix ix_tup (pv 0) pe_int (fun _ _ => rfl)))
  (pss_cons (ps_if (pt_cmpR (op_notInKd T.D_OTHERS) (pv 1) (pe_glob (v := .ref T.o_OTHERS) rfl T.g_OTHERS rfl) rfl) (pss_one (ps_ret (pe_ix ix_tup (pv 0) pe_int (fun _ _ => rfl)))) pss_nil)
  (pss_cons (ps_if (pt_cmpR op_eq (pv 1) pe_str (nomark _)) (pss_one (ps_ret (pe_ifExp (pt_cmpR op_isN (pe_ix ix_tup (pv 0) pe_int (fun _ _ => rfl)) pe_non (nomark _)) (pe_ix ix_tup (pv 0) pe_int (fun _ _ => rfl)) (pe_tup (StX.pa_star (pe_ix ix_tup (pv 0) pe_int (fun _ _ => rfl)) (pa_cons (pe_tup (pa_cons pe_str (pa_cons (pe_ix ix_tup (pv 0) pe_int (fun _ _ => rfl)) pa_nil))) pa_nil)))))) pss_nil)
  (pss_one (ps_ret (pe_ifExp (pt_cmpR op_in_seq (pv 1) (pe_tup (pa_cons pe_str (pa_cons pe_str pa_nil))) rfl) (pe_tup pa_nil) (pe_slice sl_tupA (pv 0) (po_some pe_int) po_none))))))), ?_⟩
    obtain ⟨a, w1, ws, rfl, ha, h1, t⟩ := enc_inv hv
    cases p with
    | use n vs =>
      obtain ⟨e1, e2, e3, e4, e5, e6, e7⟩ := good.apart hok
      dsimp only [Gd.hd] at ha
      obtain ⟨b, ys, rfl, hb, tb⟩ := h1.tup_inv
      walk_at "rc"
      refine' k _ _ _ ?k1 ?k2 ?k3
      (case k2 => walk_at "hp"); (case k1 => walk_at "up"); (case k3 => walk_at "da")
    | sig i r =>
      dsimp only [Gd.hd] at ha
      obtain ⟨u, rfl, tu⟩ := t.one
      have tt : Das H [w1, u] (encs [i, r]) := .cons h1 (.cons tu .nil)
      walk_at "rc"
      refine' k _ _ _ ?k1 ?k2 ?k3
      (case k2 => walk_at "hp"); (case k1 => walk_at "up"); (case k3 => walk_at "da")
    | uni ms =>
      dsimp only [Gd.hd] at ha
      obtain ⟨b, ys, rfl, hb, tb⟩ := h1.tup_inv
      walk_at "rc"
      refine' k _ _ _ ?k1 ?k2 ?k3
      (case k2 => walk_at "hp"); (case k1 => walk_at "up"); (case k3 => walk_at "da")
    | row ms =>
      dsimp only [Gd.hd] at ha
      obtain ⟨b, ys, rfl, hb, tb⟩ := h1.tup_inv
      walk_at "rc"
      refine' k _ _ _ ?k1 ?k2 ?k3
      (case k2 => walk_at "hp"); (case k1 => walk_at "up"); (case k3 => walk_at "da")
    | star n =>
      dsimp only [Gd.hd] at ha
      have tt : Das H [] (encs []) := .nil
      walk_at "rc"
      refine' k _ _ _ ?k1 ?k2 ?k3
      (case k2 => walk_at "hp"); (case k1 => walk_at "up"); (case k3 => walk_at "da")
    | tail n =>
      dsimp only [Gd.hd] at ha
      have tt : Das H [] (encs []) := .nil
      walk_at "rc"
      refine' k _ _ _ ?k1 ?k2 ?k3
      (case k2 => walk_at "hp"); (case k1 => walk_at "up"); (case k3 => walk_at "da")
    | dots i =>
      dsimp only [Gd.hd] at ha
      have e : ws = [] := by cases t; rfl
      subst e
      have tt : Das H [w1] (encs [i]) := .cons h1 .nil
      walk_at "rc"
      refine' k _ _ _ ?k1 ?k2 ?k3
      (case k2 => walk_at "hp"); (case k1 => walk_at "up"); (case k3 => walk_at "da")
    | inp ms tl =>
      dsimp only [Gd.hd] at ha
      obtain ⟨b, ys, rfl, hb, tb⟩ := h1.tup_inv
      obtain ⟨u, rfl, tu⟩ := t.one
      have hys := tb.length
      cases tl with
      | none =>
        obtain rfl := tu.non_inv
        have tt : Das H ys (encs (ms ++ tails none)) := by
          rw [tails, List.append_nil]
          exact tb
        walk_at "rc"
        refine' k _ _ _ ?k1 ?k2 ?k3
        (case k2 => walk_at "hp"); (case k1 => walk_at "up"); (case k3 => walk_at "da")
      | some s =>
        obtain rfl := tu.str_inv
        have hlen : ys.length ≤ 90000 := by
          rw [hys, encs_map, List.length_map]
          simp only [parts, List.length_append] at hl
          omega
        walk_at "rc"
        refine ⟨b, ys, rfl, Or.inl (SqT.of (by walk_at "hp")), ?_⟩
        walk_at "rc"
        rename_i p1 H1 n1 u1 g1 p2 H2 n2 u2 g2
        have td : Da H2 (V.ref p1) (enc (.tail s)) := .tup (by walk_at "hp") (.cons (.str _) (.cons (.str _) .nil))
        have tb2 : Das H2 ys (encs ms) := by walk_at "da"
        refine k p2 _ H2 (by walk_at "up") g2 ?_
        rw [show parts (.inp ms (some s)) = ms ++ [.tail s] from rfl, encs_app]
        exact tb2.app (.cons td .nil)
def sp_all_parts : Sp := fun vs H Q _ => ∃ (v : V) (p : Gd.P), vs = [v] ∧ Da H v (enc p) ∧ (∀ q ∈ pre p, hok q) ∧ kw (enc p) ≤ 90000 ∧
  ∀ (a : Addr) (xs : List V) (H' : Hp), H a = none → Up H H' → H' a = some (.lst xs) → Das H' xs (encs (pre p)) → Q (.ref a) H'
theorem ok_all_parts (T : TX K mg w) : FG P w K mg base CX0 2 T.f_all_parts T.d_all_parts ["top"] sp_all_parts := by
  have G_parts_of := ok_parts_of (P := P) (w := w) (base := base) T
  refine Gd.ok T.F_all_parts sc_all_parts (fun vs H Q E h => ?_) (fun cdv A out s H vs Q E hg hr h => ?_)
  · obtain ⟨b, m, rfl, _⟩ := h
    rfl
  · obtain ⟨v, p, rfl, hv, hok, hl, k⟩ := h
    have nd := sc_all_parts.nd
    have hr_parts_of := hr
    refine ⟨_, (pss_cons (ps_set (i := 1) nd rfl (by first | exact Or.inl rfl | exact Or.inr rfl) (pe_lst pa_nil))
  (pss_cons (ps_set (i := 2) nd rfl (by first | exact Or.inl rfl | exact Or.inr rfl) (pe_lst (pa_cons (pv 0) pa_nil)))
  (pss_cons (ps_while PassesOwn.never (pt_truth (pv 2) (fun _ => rfl)) (pss_cons (ps_set (i := 3) nd rfl (by first | exact Or.inl rfl | exact Or.inr rfl) (pe_bm0 PySem.F.plainAttrs_list PySem.F.slot_list_pop PySem.F.type_list_pop mt_pop (pv 2)))
  (pss_cons (ps_expr (pe_bm PySem.F.plainAttrs_list PySem.F.slot_list_append PySem.F.type_list_append mt_append (pv 1) (pa_cons (pv 3) pa_nil)))
  (pss_one (ps_expr (pe_bm PySem.F.plainAttrs_list PySem.F.slot_list_extend PySem.F.type_list_extend mt_extT (pv 2) (pa_cons (pe_backT (pe_g T.c_parts_of G_parts_of hg hr_parts_of rfl pass0 (pa_cons (pv 3) pa_nil))) pa_nil)))))))
  (pss_one (ps_ret (pv 1)))))), ?_⟩
    walk_at "rd"
    rename_i l H1 n1 u1 g1 q H2 n2 u2 g2
    have hlq : l ≠ q := ne_of_none g1 n2
    have u0 : Up H H2 := by walk_at "up"
    refine ⟨fun m σ H3 => ∃ (qs done : List Gd.P) (ws fs : List V) (x : Option V), σ = [some v, some (.ref l), some (.ref q), x] ∧ Up H H3 ∧ H3 l = some (.lst fs) ∧ H3 q = some (.lst ws) ∧ Das H3 fs (encs done) ∧ Das H3 ws (encs qs) ∧
      done ++ pres qs.reverse = pre p ∧ m = (pres qs.reverse).length, ⟨_, [p], [], [v], [], none, rfl, u0, u2 _ _ g1, g2, .nil, .cons (hv.up u0) .nil, by simp [pres], rfl⟩, ?_⟩
    rintro m σ H3 ⟨qs, done, ws, fs, x, rfl, u3, hf, hw, df, dw, e, rfl⟩
    have hpre := pre_kw p
    have hle : done.length + (pres qs.reverse).length ≤ 90000 := by
      have := congrArg List.length e
      rw [List.length_append] at this
      omega
    have lf := df.length
    have lw := dw.length
    rw [encs_map, List.length_map] at lf lw
    walk_at "rd"
    refine r_truL hw ?_
    rcases List.eq_nil_or_concat qs with rfl | ⟨qs, y, rfl⟩
    · cases dw
      refine ifF rfl ?_
      walk_at "rd"
      have e' : done = pre p := by simpa [pres] using e
      subst e'
      exact k _ _ _ n1 u3 hf df
    · rw [List.concat_eq_append, encs_app] at dw
      rw [List.concat_eq_append] at e lw ⊢
      obtain ⟨ws, z, rfl, dw, dz⟩ := dw.snoc
      have ep : pres (qs ++ [y]).reverse = y :: (pres (parts y) ++ pres qs.reverse) := by
        rw [List.reverse_append, List.reverse_singleton, List.singleton_append, pres, pre_eq, List.cons_append]
      rw [ep] at e ⊢
      have hy : y ∈ pre p := by rw [← e]; simp
      have lp := pres_len (parts y)
      have lq := pres_len qs.reverse
      have le := congrArg List.length e
      simp only [List.length_append, List.length_cons, List.length_reverse, List.length_nil] at le lq lw lp
      refine ifT (by simp) ⟨fun σ' H' => _, fun _ _ h => h, ?_⟩
      walk_at "rd"
      refine r_tyL hw (r_pop hw fun H4 m4 g4 => ?_)
      have hf4 := m4 _ _ hlq hf
      have k4 := m4.tk hw
      walk_at "rd"
      refine r_tyL hf4 ?_
      walk_at "rd"
      refine r_app hf4 (by omega) fun H5 m5 g5 => ?_
      have hw5 := m5 _ _ hlq.symm g4
      have k5 := k4.tr (m5.tk hf4)
      walk_at "rd"
      refine r_tyL hw5 ?_
      walk_at "rd"
      refine ⟨z, y, rfl, dz.tk k5, hok _ hy, by omega, fun a xs H6 u6 g6 d6 => ?_⟩
      walk_at "rd"
      rename_i b H7 n7 u7 g7
      have d7 : Das H7 xs.reverse (encs (parts y).reverse) := by
        rw [encs_map, List.map_reverse, ← encs_map]
        exact (d6.up u7).rev
      have lx := d6.length
      rw [encs_map, List.length_map] at lx
      refine r_ext (u7 _ _ (u6 _ _ hw5)) g7 (by rw [List.length_reverse]; omega) fun H8 m8 g8 => ?_
      walk_at "rd"
      have k8 : Tk H3 H8 := k5.tr ((u6.tr u7).tk.tr (m8.tk (u7 _ _ (u6 _ _ hw5))))
      have k58 : Tk H5 H8 := (u6.tr u7).tk.tr (m8.tk (u7 _ _ (u6 _ _ hw5)))
      have k78 : Tk H7 H8 := m8.tk (u7 _ _ (u6 _ _ hw5))
      have nl : H l = none := n1
      have nq : H q = none := u1.fr n2
      refine ⟨(pres (parts y) ++ pres qs.reverse).length, by simp, qs ++ (parts y).reverse, done ++ [y], _, _, some z, rfl, ?_, m8 _ _ hlq (u7 _ _ (u6 _ _ g5)), g8, ?_, ?_, ?_, ?_⟩
      · exact (((u3.of nq m4).of nl m5).tr (u6.tr u7)).of nq m8
      · rw [encs_app]
        exact (df.tk k8).app (.cons (dz.tk k8) .nil)
      · rw [encs_app]
        exact (dw.tk k8).app (d7.tk k78)
      · rw [List.append_assoc, ← e]
        simp [pres_app]
      · rw [List.reverse_append, List.reverse_reverse, pres_app]
def sp_is_node : Sp := fun vs H Q _ => ∃ (v : V) (p : Gd.P), vs = [v] ∧ Da H v (enc p) ∧ hok p ∧ ∀ (H' : Hp), Up H H' → Q (.bl (isNd p)) H'
theorem ok_is_node (T : TX K mg w) : FG P w K mg base CX0 1 T.f_is_node T.d_is_node ["part"] sp_is_node := by
  refine Gd.ok T.F_is_node sc_is_node (fun vs H Q E h => ?_) (fun cdv A out s H vs Q E hg hr h => ?_)
  · obtain ⟨b, m, rfl, _⟩ := h
    rfl
  · obtain ⟨v, p, rfl, hv, hok, k⟩ := h
    have nd := sc_is_node.nd
    refine ⟨_, (pss_one (ps_ret (pe_cmpR op_notIn_seq (pe_ix ix_tup (pv 0) pe_int (fun _ _ => rfl)) (pe_tup (pa_cons pe_str (pa_cons pe_str pa_nil))) rfl))), ?_⟩
    obtain ⟨a, w1, ws, rfl, ha, h1, t⟩ := enc_inv hv
    walk_at "rd"
    rename_i p1 H1 n1 u1 g1
    show Q (V.bl _) H1
    rw [nd_hd p hok]
    exact k _ u1
def sp_size : Sp := fun vs H Q _ => ∃ (v : V) (p : Gd.P), vs = [v] ∧ Da H v (enc p) ∧ (∀ q ∈ pre p, hok q) ∧ kw (enc p) ≤ 90000 ∧ ∀ (H' : Hp), Up H H' → Q (.int (siz p)) H'
theorem ok_size (T : TX K mg w) : FG P w K mg base CX0 3 T.f_size T.d_size ["term"] sp_size := by
  have G_all_parts := ok_all_parts (P := P) (w := w) (base := base) T
  have G_is_node := ok_is_node (P := P) (w := w) (base := base) T
  refine Gd.ok T.F_size sc_size (fun vs H Q E h => ?_) (fun cdv A out s H vs Q E hg hr h => ?_)
  · obtain ⟨b, m, rfl, _⟩ := h
    rfl
  · obtain ⟨v, p, rfl, hv, hok, hl, k⟩ := h
    have nd := sc_size.nd
    have hr_all_parts := hr
    have hr_is_node := hr.mono (show 1 ≤ 2 by decide)
    refine ⟨_, (pss_one (ps_ret (pe_callB call_len_seq rfl T.z_len PySem.boot_len (pa_cons (pe_lc (own := [("part", 1)]) rfl nd (pi_list (pe_g T.c_all_parts G_all_parts hg hr_all_parts rfl pass0 (pa_cons (pv 0) pa_nil))) (blkOk_by (N := ["term", "part"]) (sc := defScope s_size) (by decide +kernel)) (fun _ _ _ _ _ => pg_name (i := 1) nd rfl (by first | exact Or.inl rfl | exact Or.inr rfl)) (fun _ _ _ _ _ => (pts_one (pt_val (pe_g T.c_is_node G_is_node hg hr_is_node rfl pass0 (pa_cons (pv 1) pa_nil))))) (fun _ _ _ _ _ => (pv 1))) pa_nil)))), ?_⟩
    walk_at "rd"
    refine ⟨v, p, rfl, hv, hok, hl, fun a xs H1 n1 u1 g1 d1 => ?_⟩
    have lx := d1.length
    rw [encs_map, List.length_map] at lx
    have lp := pre_kw p
    refine lc_L g1 (by omega) (fun D i acc H2 => H2 a = some (.lst xs) ∧ Up H H2 ∧ Das H2 xs (encs (pre p)) ∧ acc.length = (((pre p).take i).filter isNd).length) (fun D H2 n2 u2 g2 => ⟨u2 _ _ g1, u1.tr u2, d1.up u2, rfl⟩) (fun D i acc H2 r => r.1) ?_ ?_
    · rintro D i x acc H2 nD hx ⟨ha, u2, d2, e2⟩ hacc hi hD
      obtain ⟨d, hd, dx⟩ := d2.at hx
      rw [encs_map, List.getElem?_map] at hd
      cases hq : (pre p)[i]? with
      | none => rw [hq] at hd; cases hd
      | some q =>
        rw [hq] at hd
        obtain rfl := Option.some.inj hd
        have hqm : q ∈ pre p := List.mem_of_getElem? hq
        have htk : (pre p).take (i + 1) = (pre p).take i ++ [q] := by
          rw [List.take_add_one, hq]
          rfl
        walk_at "rd"
        refine ⟨x, q, rfl, dx, hok q hqm, fun H3 u3 => ?_⟩
        walk_at "rd"
        cases hn : isNd q with
        | true =>
          walk_at "rd"
          refine LcE.of (u3 _ _ hD) hacc hi fun H4 m4 g4 => ?_
          have nD' : H D = none := u1.fr nD
          refine ⟨m4 _ _ (ne_of_none g1 nD) (u3 _ _ ha), (u2.tr u3).of nD' m4, (d2.up u3).tk (m4.tk (u3 _ _ hD)), ?_⟩
          rw [htk, List.filter_append, List.length_append, List.length_append, ← e2]
          simp [hn]
        | false =>
          walk_at "rd"
          refine ⟨acc, ⟨u3 _ _ ha, u2.tr u3, d2.up u3, ?_⟩, by omega, u3 _ _ hD⟩
          rw [htk, List.filter_append, List.length_append, ← e2]
          simp [hn]
    · rintro D acc H2 nD ⟨ha, u2, d2, e2⟩ hD
      refine lenN_of hD ?_
      have e3 : acc.length = siz p := by
        rw [e2, lx, List.take_of_length_le (Nat.le_refl _)]
        rfl
      rw [e3]
      exact k _ u2
def sp_origin : Sp := fun vs H Q _ => ∃ (v : V) (p : Gd.P), vs = [v] ∧ Da H v (enc p) ∧ ∀ (H' : Hp), Up H H' → Q (.str (Gd.hd p)) H'
theorem ok_origin (T : TX K mg w) : FG P w K mg base CX0 1 T.f_origin T.d_origin ["term"] sp_origin := by
  refine Gd.ok T.F_origin sc_origin (fun vs H Q E h => ?_) (fun cdv A out s H vs Q E hg hr h => ?_)
  · obtain ⟨b, m, rfl, _⟩ := h
    rfl
  · obtain ⟨v, p, rfl, hv, k⟩ := h
    have nd := sc_origin.nd
    refine ⟨_, (pss_one (ps_ret (pe_ix ix_tup (pv 0) pe_int (fun _ _ => rfl)))), ?_⟩
    obtain ⟨a, w1, ws, rfl, ha, h1, t⟩ := enc_inv hv
    walk_at "rd"
    exact k _ Up.rf
/-- the parts that arguments hands back, as data -/
def argD (p : Gd.P) : List PyData := match p with
  | .sig i r => [enc i, enc r]
  | .use _ vs => encs vs
  | .uni ms => encs ms
  | _ => []
def isTm : Gd.P → Bool
  | .use _ _ => true
  | .sig _ _ => true
  | .uni _ => true
  | _ => false
def sp_arguments : Sp := fun vs H Q _ => ∃ (v : V) (p : Gd.P), vs = [v] ∧ Da H v (enc p) ∧ hok p ∧ isTm p = true ∧ ∀ (a : Addr) (xs : List V) (H' : Hp), Up H H' → H' a = some (.tup xs) → Das H' xs (argD p) → Q (.ref a) H'
theorem ok_arguments (T : TX K mg w) : FG P w K mg base CX0 1 T.f_arguments T.d_arguments ["term"] sp_arguments := by
  refine Gd.ok T.F_arguments sc_arguments (fun vs H Q E h => ?_) (fun cdv A out s H vs Q E hg hr h => ?_)
  · obtain ⟨b, m, rfl, _⟩ := h
    rfl
  · obtain ⟨v, p, rfl, hv, hok, ht, k⟩ := h
    have nd := sc_arguments.nd
    refine ⟨_, (pss_one (ps_ret (pe_ifExp (pt_cmpR op_eq (pe_ix ix_tup (pv 0) pe_int (fun _ _ => rfl)) pe_str (nomark _)) (pe_slice sl_tupA (pv 0) (po_some pe_int) po_none) (pe_ix ix_tup (pv 0) pe_int (fun _ _ => rfl))))), ?_⟩
    obtain ⟨a, w1, ws, rfl, ha, h1, t⟩ := enc_inv hv
    cases p with
    | use n vs =>
      obtain ⟨e1, e2, e3, e4, e5, e6, e7⟩ := good.apart hok
      dsimp only [Gd.hd] at ha
      obtain ⟨b, ys, rfl, hb, tb⟩ := h1.tup_inv
      walk_at "rc"
      exact k _ _ _ Up.rf hb tb
    | uni ms =>
      dsimp only [Gd.hd] at ha
      obtain ⟨b, ys, rfl, hb, tb⟩ := h1.tup_inv
      walk_at "rc"
      exact k _ _ _ Up.rf hb tb
    | sig i r =>
      dsimp only [Gd.hd] at ha
      obtain ⟨u, rfl, tu⟩ := t.one
      have tt : Das H [w1, u] [enc i, enc r] := .cons h1 (.cons tu .nil)
      walk_at "rc"
      refine' k _ _ _ ?k1 ?k2 ?k3
      (case k2 => walk_at "hp"); (case k1 => walk_at "up"); (case k3 => exact (tt.up (by assumption)))
    | _ => cases ht
/-- made with a text that is the arrow or not, and a tuple -/
def sp_made : Sp := fun vs H Q _ => ∃ (o : Str) (a : Addr) (xs : List V), vs = [.str o, .ref a] ∧ H a = some (.tup xs) ∧ xs.length ≤ 90000 ∧
  ∀ (b : Addr) (H' : Hp), Up H H' → H' b = some (.tup (if o = ("->" : Str) then .str o :: xs else [.str o, .ref a])) → Q (.ref b) H'
theorem ok_made (T : TX K mg w) : FG P w K mg base CX0 1 T.f_made T.d_made ["origin", "arguments"] sp_made := by
  refine Gd.ok T.F_made sc_made (fun vs H Q E h => ?_) (fun cdv A out s H vs Q E hg hr h => ?_)
  · obtain ⟨b, m, xs, rfl, _⟩ := h
    rfl
  · obtain ⟨o, a, xs, rfl, ha, hl, k⟩ := h
    have nd := sc_made.nd
    refine ⟨_, (pss_one (ps_ret (pe_ifExp (pt_cmpR op_eq (pv 0) pe_str (nomark _)) (pe_tup (pa_cons pe_str (StX.pa_star (pv 1) pa_nil))) (pe_tup (pa_cons (pv 0) (pa_cons (pv 1) pa_nil)))))), ?_⟩
    walk_at "rd"
    refine ifD (fun c => ?_) (fun c => ?_)
    · subst c
      walk_at "rd"
      refine ⟨a, xs, rfl, Or.inl (SqT.of ha), ?_⟩
      walk_at "rd"
      rename_i p1 H1 n1 u1 g1
      rw [List.append_nil] at g1
      exact k _ _ u1 (by rw [if_pos rfl]; exact g1)
    · walk_at "rd"
      rename_i p1 H1 n1 u1 g1
      exact k _ _ u1 (by rw [if_neg c]; exact g1)
theorem ok_ltake (T : TX K mg w) : FG P w K mg base CX0 1 T.f_ltake T.d_ltake ["bag", "many"] sp_ltake := by
  refine Gd.ok T.F_ltake sc_ltake (fun vs H Q E h => ?_) (fun cdv A out s H vs Q E hg hr h => ?_)
  · obtain ⟨b, m, rfl, _⟩ := h
    rfl
  · obtain ⟨b, m, rfl, ⟨x, y, z, hb, y0, y1⟩, m0, m1, k⟩ := h
    have nd := sc_ltake.nd
    refine ⟨_, (pss_cons (ps_if (pt_cmpR op_gt (pe_ix ix_list (pv 0) pe_int (fun _ _ => rfl)) pe_int (nomark _)) (pss_cons (ps_set (i := 2) nd rfl (by first | exact Or.inl rfl | exact Or.inr rfl) (pe_op op_mod (pe_ix ix_list (pv 0) pe_int (fun _ _ => rfl)) (pv 1)))
  (pss_cons (ps_asg (pe_op op_fdiv (pe_ix ix_list (pv 0) pe_int (fun _ _ => rfl)) (pv 1)) (pg_sub (pv 0) pe_int set_list))
  (pss_one (ps_ret (pv 2))))) pss_nil)
  (pss_cons (ps_asg (pe_op op_add (pe_ix ix_list (pv 0) pe_int (fun _ _ => rfl)) pe_int) (pg_sub (pv 0) pe_int set_list))
  (pss_cons (ps_asg (pe_op op_mod (pe_op op_add (pe_op op_add (pe_op op_mul (pe_ix ix_list (pv 0) pe_int (fun _ _ => rfl)) pe_int) (pe_op op_mul pe_int (pe_ix ix_list (pv 0) pe_int (fun _ _ => rfl)))) pe_int) pe_int) (pg_sub (pv 0) pe_int set_list))
  (pss_one (ps_ret (pe_op op_mod (pe_op op_fdiv (pe_op op_mod (pe_op op_pow (pe_op op_fdiv (pe_ix ix_list (pv 0) pe_int (fun _ _ => rfl)) pe_int) pe_int) pe_int) pe_int) (pv 1))))))), ?_⟩
    walk_at "rd"
    refine ifD (fun c => ?_) (fun c => ?_)
    · walk_at "rd"
      exact k _ _ (Int.emod_nonneg _ (by omega)) (Int.emod_lt_of_pos _ (by omega)) Mv.wr ⟨_, _, _, upd_same, y0, y1⟩
    · walk_at "rd"
      refine k _ _ (Int.emod_nonneg _ (by omega)) (Int.emod_lt_of_pos _ (by omega)) (Mv.wr.tr Mv.wr) ⟨_, _, _, upd_same, ?_, ?_⟩
      · exact Int.emod_nonneg _ (by decide)
      · have := Int.emod_lt_of_pos (y * 69621 + 7411 * (z + 1) + 29) (show (0 : Int) < 2147483647 by decide)
        omega
def sp_laid_out : Sp := fun vs H Q _ => ∃ (v : V) (p : Gd.P), vs = [v] ∧ Da H v (enc p) ∧ (∀ q ∈ pre p, hok q) ∧ kw (enc p) ≤ 90000 ∧
  ∀ (t : Addr) (L : List Gd.P) (H' : Hp), Up H H' → AtLay H' t p L → Q (.ref t) H'
theorem ok_laid_out (T : TX K mg w) : FG P w K mg base CX0 2 T.f_laid_out T.d_laid_out ["top"] sp_laid_out := by
  have G_parts_of := ok_parts_of (P := P) (w := w) (base := base) T
  refine Gd.ok T.F_laid_out sc_laid_out (fun vs H Q E h => ?_) (fun cdv A out s H vs Q E hg hr h => ?_)
  · obtain ⟨b, m, rfl, _⟩ := h
    rfl
  · obtain ⟨v, p, rfl, hv, hok, hw, k⟩ := h
    have nd := sc_laid_out.nd
    have hr_parts_of := hr
    refine ⟨_, (pss_cons (ps_set (i := 1) nd rfl (by first | exact Or.inl rfl | exact Or.inr rfl) (pe_lst (pa_cons (pv 0) pa_nil)))
  (pss_cons (ps_set (i := 2) nd rfl (by first | exact Or.inl rfl | exact Or.inr rfl) (pe_lst (pa_cons pe_int pa_nil)))
  (pss_cons (ps_while PassesOwn.never (pt_cmpR op_le (pe_callB call_len_seq rfl T.z_len PySem.boot_len (pa_cons (pv 2) pa_nil)) (pe_callB call_len_seq rfl T.z_len PySem.boot_len (pa_cons (pv 1) pa_nil)) (nomark _)) (pss_cons (ps_expr (pe_bm PySem.F.plainAttrs_list PySem.F.slot_list_extend PySem.F.type_list_extend mt_extT (pv 1) (pa_cons (pe_g T.c_parts_of G_parts_of hg hr_parts_of rfl pass0 (pa_cons (pe_ix ix_list (pv 1) (pe_op op_sub (pe_callB call_len_seq rfl T.z_len PySem.boot_len (pa_cons (pv 2) pa_nil)) pe_int) (fun _ _ => rfl)) pa_nil)) pa_nil)))
  (pss_one (ps_expr (pe_bm PySem.F.plainAttrs_list PySem.F.slot_list_append PySem.F.type_list_append mt_append (pv 2) (pa_cons (pe_callB call_len_seq rfl T.z_len PySem.boot_len (pa_cons (pv 1) pa_nil)) pa_nil))))))
  (pss_one (ps_ret (pe_tup (pa_cons (pv 1) (pa_cons (pv 2) pa_nil)))))))), ?_⟩
    walk_at "rd"
    rename_i l H1 n1 u1 g1 q H2 n2 u2 g2
    have hlq : l ≠ q := ne_of_none g1 n2
    have u0 : Up H H2 := by walk_at "up"
    have hpre := pre_kw p
    refine ⟨fun m σ H3 => ∃ (L : List Gd.P) (c : Nat) (ws : List V) (S : List Int), σ = [some v, some (.ref l), some (.ref q)] ∧ Up H H3 ∧ H3 l = some (.lst ws) ∧ H3 q = some (.lst (S.map V.int)) ∧ Das H3 ws (encs L) ∧
      S.length = c + 1 ∧ c ≤ L.length ∧ L = p :: (L.take c).flatMap parts ∧ (∀ i, i ≤ c → S[i]? = some ((LO L i : Nat) : Int)) ∧ (∀ i, i < c → i + 1 ≤ LO L i) ∧ (pres (L.drop c)).length + c = (pre p).length ∧ (∀ y ∈ L, y ∈ pre p) ∧ m = (pres (L.drop c)).length,
      ⟨_, [p], 0, [v], [1], rfl, u0, u2 _ _ g1, g2, .cons (hv.up u0) .nil, rfl, by simp, by simp, ?_, by simp, by simp [pres], by simp [self_pre], rfl⟩, ?_⟩
    · intro i hi
      have : i = 0 := by omega
      subst this
      rfl
    rintro m σ H3 ⟨L, c, ws, S, rfl, u3, hf, hw3, df, eS, hc, eL, hS, hm, hn, hin, rfl⟩
    have lf := df.length
    rw [encs_map, List.length_map] at lf
    have ld := pres_len (L.drop c)
    rw [List.length_drop] at ld
    have lS : (S.map V.int).length = c + 1 := by rw [List.length_map]; exact eS
    walk_at "rd"
    refine ⟨q, _, rfl, Or.inl (SqL.of hw3), ?_⟩
    walk_at "rd"
    refine ⟨l, _, rfl, Or.inl (SqL.of hf), ?_⟩
    walk_at "rd"
    rw [lS, lf]
    refine ifD (fun z => ?_) (fun z => ?_)
    · have hcl : c < L.length := by omega
      obtain ⟨y, hy⟩ : ∃ y, L[c]? = some y := ⟨_, List.getElem?_eq_getElem hcl⟩
      have hym : y ∈ L := List.mem_of_getElem? hy
      have hyp := hin y hym
      have hdr : L.drop c = y :: L.drop (c + 1) := by
        rw [List.drop_eq_getElem_cons hcl]
        have := (List.getElem?_eq_some_iff.mp hy).2
        rw [this]
      have lpre : (pres (L.drop c)).length = 1 + (pres (parts y)).length + (pres (L.drop (c + 1))).length := by
        rw [hdr, pres, pre_eq, List.length_append, List.length_cons]
        omega
      have lpy := pres_len (parts y)
      have ld' := pres_len (L.drop (c + 1))
      rw [List.length_drop] at ld'
      refine ⟨fun σ' H' => _, fun _ _ h => h, ?_⟩
      walk_at "rd"
      refine r_tyL hf ?_
      walk_at "rd"
      refine ⟨q, _, rfl, Or.inl (SqL.of hw3), ?_⟩
      walk_at "rd"
      rw [lS]
      obtain ⟨x, hx, dx⟩ := df.get (i := c) (d := enc y) (by rw [encs_map, List.getElem?_map, hy]; rfl)
      have e1 : (((c + 1 : Nat) : Int) - 1) = (c : Int) := by omega
      rw [e1]
      refine r_ixL hf (atI_nat hx) ?_
      walk_at "rd"
      refine ⟨x, y, rfl, dx, hok y hyp, by omega, fun a xs H4 u4 g4 d4 => ?_⟩
      walk_at "rd"
      have lx := d4.length
      rw [encs_map, List.length_map] at lx
      refine r_ext (u4 _ _ hf) g4 (by omega) fun H5 m5 g5 => ?_
      walk_at "rd"
      have hq5 := m5 _ _ hlq.symm (u4 _ _ hw3)
      refine r_tyL hq5 ?_
      walk_at "rd"
      refine ⟨l, _, rfl, Or.inl (SqL.of g5), ?_⟩
      walk_at "rd"
      refine r_app hq5 (by omega) fun H6 m6 g6 => ?_
      walk_at "rd"
      have nl : H l = none := n1
      have nq : H q = none := u1.fr n2
      have t5 := m5.tk (u4 _ _ hf)
      have t6 := m6.tk hq5
      have t36 : Tk H3 H6 := (u4.tk.tr t5).tr t6
      have hL' : (L ++ parts y)[c]? = some y := by rw [List.getElem?_append_left hcl]; exact hy
      have eF : ((L ++ parts y).take (c + 1)).flatMap parts = (L.take c).flatMap parts ++ parts y := by
        rw [take_flat hL', List.take_append_of_le_length hc]
      have eLO : LO (L ++ parts y) (c + 1) = (L ++ parts y).length := by
        unfold LO
        rw [eF]
        conv => rhs; rw [eL]
        simp only [List.length_append, List.length_cons]
        omega
      refine ⟨(pres (L.drop (c + 1) ++ parts y)).length, ?_, L ++ parts y, c + 1, _, S ++ [((L.length + (parts y).length : Nat) : Int)], rfl, ((u3.tr u4).of nl m5).of nq m6, m6 _ _ hlq g5, ?_, ?_, ?_, ?_, ?_, ?_, ?_, ?_, ?_, ?_⟩
      · rw [pres_app, List.length_append, lpre]
        omega
      · rw [g6, List.map_append]
        rw [List.length_append, lf, lx]
        rfl
      · rw [encs_app]
        exact (df.tk t36).app ((d4.tk t5).tk t6)
      · rw [List.length_append, eS]; rfl
      · rw [List.length_append]; omega
      · rw [eF, ← List.cons_append, ← eL]
      · intro i hi
        by_cases hic : i ≤ c
        · rw [List.getElem?_append_left (by omega), hS i hic, LO_app (by omega)]
        · have : i = c + 1 := by omega
          subst this
          rw [List.getElem?_append_right (by omega), eS, Nat.sub_self, eLO, List.length_append]
          rfl
      · intro i hi
        by_cases hic : i < c
        · rw [LO_app (by omega)]
          exact hm i hic
        · have : i = c := by omega
          subst this
          rw [LO_app (by omega)]
          have : LO L i = L.length := by
            unfold LO
            conv => rhs; rw [eL]
            simp only [List.length_cons]
            omega
          omega
      · rw [List.drop_append_of_le_length (by omega), pres_app, List.length_append]
        omega
      · intro z hz
        rcases List.mem_append.mp hz with hz | hz
        · exact hin z hz
        · exact pre_part p hyp hz
      · rw [List.drop_append_of_le_length (by omega)]
    · have hcc : c = L.length := by omega
      subst hcc
      rw [List.take_length] at eL
      walk_at "rd"
      rename_i t Ht nt ut gt
      refine k t L Ht (u3.tr ut) ⟨l, q, ws, S, gt, ut _ _ hf, ut _ _ hw3, df.up ut, eL, by omega, hS, hm, hin, ?_⟩
      have : (pres (L.drop L.length)).length = 0 := by simp [pres]
      omega
end

section
variable {P : Program} {w : World} {K : PySem.W.Frag} {mg : Str → Option Value} {base : Heap}
def sp_joined_notes : Sp := fun vs H Q _ => ∃ (d a : Addr) (ns : List V) (R ps : List Gd.P), vs = [.ref d, .ref a] ∧ NumD H d R ∧ H a = some (.lst ns) ∧ ns.length = ps.length ∧ ps ≠ [] ∧
  (∀ (i : Nat) (p : Gd.P), ps[i]? = some p → isK p 0 ∧ ∃ v, ns[i]? = some v ∧ NoteAt H v R p false) ∧ (ps.flatMap memb).length ≤ 90000 ∧ R.length ≤ 900000 ∧
  ∀ (v : V) (R' : List Gd.P) (H' : Hp), Mv d H H' → NumD H' d R' → Ex R R' → R'.length ≤ R.length + 1 → NoteAt H' v R' (ljoin ps) false → Q v H'
theorem ok_joined_notes (T : TX K mg w) : FG P w K mg base CX0 1 T.f_joined_notes T.d_joined_notes ["numbers", "notes"] sp_joined_notes := by
  refine Gd.ok T.F_joined_notes sc_joined_notes (fun vs H Q E h => ?_) (fun cdv A out s H vs Q E hg hr h => ?_)
  · obtain ⟨d, a, ns, R, ps, rfl, _⟩ := h
    rfl
  · obtain ⟨d, a, ns, R, ps, rfl, hd, ha, ln, hne, hns, hfl, hRl, k⟩ := h
    have nd := sc_joined_notes.nd
    have hu1 := hu_of hr
    refine ⟨_, (pss_cons (ps_set (i := 2) nd rfl (by first | exact Or.inl rfl | exact Or.inr rfl) pe_dnewK)
  (pss_cons (ps_for PassesOwn.never rfl (pi_list (pv 1)) (pg_tup rfl (pgs_cons (pg_name (i := 5) nd rfl (by first | exact Or.inl rfl | exact Or.inr rfl)) (pgs_cons (pg_name (i := 6) nd rfl (by first | exact Or.inl rfl | exact Or.inr rfl)) (pgs_cons (pg_name (i := 3) nd rfl (by first | exact Or.inl rfl | exact Or.inr rfl)) pgs_nil)))) (pss_one (ps_for PassesOwn.never rfl (RZ.pi_zipA rfl T.z_zip (pa_cons (pe_ifExp (pt_cmpR op_eq (pe_ix ix_tup (pv 5) pe_int (fun _ _ => rfl)) pe_str (nomark _)) (pe_ix ix_tup (pv 5) pe_int (fun _ _ => rfl)) (pe_tup (pa_cons (pv 5) pa_nil))) (pa_cons (pv 3) pa_nil))) (pg_tup rfl (pgs_cons (pg_name (i := 7) nd rfl (by first | exact Or.inl rfl | exact Or.inr rfl)) (pgs_cons (pg_name (i := 8) nd rfl (by first | exact Or.inl rfl | exact Or.inr rfl)) pgs_nil))) (pss_one (ps_expr (pe_dsetd (pv 2) (pv 8) (pv 7) ⟨rfl, rfl, rfl, rfl⟩))))))
  (pss_cons (ps_set (i := 3) nd rfl (by first | exact Or.inl rfl | exact Or.inr rfl) (pe_callTy (call_tupD rfl) rfl T.z_tuple (by decide +kernel) (pa_cons (pv 2) pa_nil)))
  (pss_cons (ps_if (pt_cmpR op_eq (pe_callB call_len_seq rfl T.z_len PySem.boot_len (pa_cons (pv 3) pa_nil)) pe_int (nomark _)) (pss_one (ps_ret (pe_tup (pa_cons (pe_dget hu1 (pv 2) (pe_ix ix_tup (pv 3) pe_int (fun _ _ => rfl)) (fun _ _ => rfl)) (pa_cons (pe_ix ix_tup (pv 3) pe_int (fun _ _ => rfl)) (pa_cons (pv 3) pa_nil)))))) pss_nil)
  (pss_cons (ps_set (i := 4) nd rfl (by first | exact Or.inl rfl | exact Or.inr rfl) (pe_tup (pa_cons pe_str (StX.pa_star (pe_callB cr_sortedTI rfl T.z_sorted (by decide +kernel) (pa_cons (pv 3) pa_nil)) pa_nil))))
  (pss_one (ps_ret (pe_tup (pa_cons (pe_tup (pa_cons pe_str (pa_cons (pe_tupVals rfl rfl T.z_tuple (pv 2)) pa_nil))) (pa_cons (pe_dsetdT hu1 (pv 0) (pv 4) (pe_callB call_len_dT rfl T.z_len PySem.boot_len (pa_cons (pv 0) pa_nil)) ⟨rfl, rfl, rfl, rfl⟩) (pa_cons (pv 3) pa_nil))))))))))), ?_⟩
    walk_at "rd"
    refine r_dnew fun m H1 nm u1 gm => ?_
    walk_at "rd"
    refine ⟨a, rfl, ⟨ns, SqL.of (u1 _ _ ha)⟩, for_list (K := K) (a := a) (xs := ns) (fun i σ H3 => ∃ (x3 x4 x5 x6 x7 x8 : Option V) (kvs : List (Key × V)), σ = [some (.ref d), some (.ref a), some (.ref m), x3, x4, x5, x6, x7, x8] ∧ Up H H3 ∧ H3 m = some (.dK kvs) ∧ MbN H3 kvs R (((ps.take i).flatMap memb).foldl addP []))
      ⟨none, none, none, none, none, none, [], rfl, u1, gm, ⟨rfl, .nil, by simp⟩⟩ (fun i σ H3 _ ⟨_, _, _, _, _, _, _, _, u3, _⟩ => SqL.of (u3 _ _ ha)) ?_ ?_⟩
    · rintro i x σ H3 hx ⟨x3, x4, x5, x6, x7, x8, kvs, rfl, u3, hm, mb⟩
      have hi : i < ps.length := by
        rw [← ln]
        exact (List.getElem?_eq_some_iff.mp hx).1
      obtain ⟨p, hp⟩ : ∃ p, ps[i]? = some p := ⟨_, List.getElem?_eq_getElem hi⟩
      obtain ⟨ip, v, hv, nt⟩ := hns i p hp
      rw [hx] at hv
      obtain rfl := Option.some.inj hv
      obtain ⟨a2, c, w0, e, ha2, dw, hc, hci⟩ := nt.ex
      subst e
      rw [innN_memb ip] at hc hci
      rw [if_neg (by decide)] at ha2
      have fi := flat_snoc hp
      have fl : ((ps.take (i + 1)).flatMap memb).length ≤ 90000 := Nat.le_trans flat_take hfl
      rw [fi, List.length_append] at fl
      have is0 : ∀ q ∈ (ps.take i).flatMap memb, isK q 4 := fun q hq => by
        obtain ⟨r, hr, hq⟩ := List.mem_flatMap.mp hq
        obtain ⟨j, hj⟩ := List.mem_iff_getElem?.mp (List.mem_of_mem_take hr)
        exact isK_memb (hns j r hj).1 hq
      have ua2 := u3 _ _ ha2
      have uc := u3 _ _ hc
      have dw3 := dw.up u3
      walk_at "rd"
      refine r_izA ?_
      obtain ⟨a5, w1, ws, e5, ha5, h1, t1⟩ := enc_inv dw3
      subst e5
      walk_at "rd"
      rw [uni_hd p (isK_hok ip)]
      cases hu : isUni p with
      | true =>
        refine ifT rfl ?_
        obtain ⟨ms, ep⟩ : ∃ ms, p = .uni ms := by cases p <;> first | (simp [isUni] at hu; done) | exact ⟨_, rfl⟩
        rw [ep] at h1
        obtain ⟨b5, xs5, e6, gb5, d5⟩ := h1.tup_inv
        subst e6
        have em : memb p = ms := by rw [ep]; rfl
        have d5 : Das H3 xs5 (encs (memb p)) := by rw [em]; exact d5
        have lx5 : xs5.length = (memb p).length := das_len d5
        walk_at "rd"
        refine ⟨b5, c, xs5, _, rfl, Or.inr ⟨SqT.of gb5, SqT.of ((Up.rf : Up H3 H3) _ _ uc), RZ.for_zipT (by rw [List.length_map]; exact lx5) (fun j σ H5 => ∃ (x7 x8 : Option V) (kvs : List (Key × V)), σ = [some (.ref d), some (.ref a), some (.ref m), some (.ref c), x4, some (.ref a5), some (V.int ((ix R p : Nat) : Int)), x7, x8] ∧ Up H H5 ∧ Tk H3 H5 ∧ H5 m = some (.dK kvs) ∧ MbN H5 kvs R ((((ps.take i).flatMap memb) ++ (memb p).take j).foldl addP []))
          ⟨_, _, kvs, rfl, u3.tr (Up.rf : Up H3 H3), Up.rf.tk, (Up.rf : Up H3 H3) _ _ hm, by rw [List.take_zero, List.append_nil]; exact mb.tk (Up.rf : Up H3 H3).tk⟩ (fun j σ H5 ⟨_, _, _, _, _, k5, _⟩ => ⟨SqT.of (k5 _ _ gb5), SqT.of (k5 _ _ ((Up.rf : Up H3 H3) _ _ uc))⟩) ?_ ?_⟩⟩
        · rintro j y z T0 σ H5 hy hz ⟨x7, x8, kvs, rfl, u5, k5, hm5, mb5⟩ nT
          have u6 : Up H5 (upd H5 T0 (.tup [y, z])) := Up.new nT
          have g6 : upd H5 T0 (.tup [y, z]) T0 = some (.tup [y, z]) := upd_same
          generalize upd H5 T0 (.tup [y, z]) = H6 at u6 g6 ⊢
          obtain ⟨q, hq, dq⟩ := das_at d5 hy
          have qm : q ∈ memb p := List.mem_of_getElem? hq
          have q4 := isK_memb ip qm
          have qi := hci q qm
          rw [List.getElem?_map, hq] at hz
          obtain rfl := Option.some.inj hz
          have hst : (((ps.take i).flatMap memb) ++ (memb p).take (j + 1)).foldl addP [] = addP ((((ps.take i).flatMap memb) ++ (memb p).take j).foldl addP []) q := by
            rw [List.take_add_one, hq, Option.toList_some, ← List.append_assoc, List.foldl_append]
            rfl
          have isf : ∀ r ∈ (((ps.take i).flatMap memb) ++ (memb p).take j).foldl addP [], isK r 4 := fold_is fun r hr => by
            rcases List.mem_append.mp hr with hr | hr
            · exact is0 r hr
            · exact isK_memb ip (List.mem_of_mem_take hr)
          have fl5 := fold_len (((ps.take i).flatMap memb) ++ (memb p).take j) []
          rw [List.length_nil, List.length_append, List.length_take] at fl5
          have ml5 := mb5.len
          walk_at "rd"
          refine r_dsd ?_
          walk_at "rd"
          refine ⟨m, rfl, isD_of (u6 _ _ hm5), ?_⟩
          walk_at "rd"
          refine ⟨kvs, .inl ((ix R q : Nat) : Int), u6 _ _ hm5, rfl, by rw [sizeLine_eq]; omega, fun v hv => ?_, fun hn => ?_⟩
          · walk_at "rd"
            refine ⟨_, _, kvs, rfl, u5.tr u6, k5.tr u6.tk, u6 _ _ hm5, ?_⟩
            rw [hst, mb5.yes isf q4 qi hv]
            exact mb5.tk u6.tk
          · have m7 : Mv m H6 (upd H6 m (.dK (putK kvs (.inl ((ix R q : Nat) : Int) : Key) y))) := Mv.wr
            have g7 : upd H6 m (.dK (putK kvs (.inl ((ix R q : Nat) : Int) : Key) y)) m = some (.dK (putK kvs (.inl ((ix R q : Nat) : Int) : Key) y)) := upd_same
            generalize upd H6 m (.dK (putK kvs (.inl ((ix R q : Nat) : Int) : Key) y)) = H7 at m7 g7 ⊢
            have k7 : Tk H6 H7 := fun z zs hz => m7 _ _ (ne_of hz (u6 _ _ hm5) nofun) hz
            walk_at "rd"
            refine ⟨_, _, _, rfl, (u5.tr u6).of nm m7, (k5.tr u6.tk).tr k7, g7, ?_⟩
            rw [hst, mb5.no isf q4 qi hn]
            exact ((mb5.tk u6.tk).tk k7).put ((dq.tk (k5.tr u6.tk)).tk k7) qi hn
        · rintro σ H5 ⟨x7, x8, kvs, rfl, u5, k5, hm5, mb5⟩
          rw [lx5, List.take_of_length_le (Nat.le_refl _), ← fi] at mb5
          exact ⟨_, _, _, _, _, _, kvs, rfl, u5, hm5, mb5⟩
      | false =>
        refine ifF rfl ?_
        have em : memb p = [p] := by cases p <;> first | rfl | (simp [isUni] at hu; done)
        walk_at "rd"
        rename_i b5 H4 n5 u5' g5
        have d5 : Das H4 [V.ref a5] (encs (memb p)) := by
          rw [em]
          exact .cons (dw3.up u5') .nil
        have lx5 : [V.ref a5].length = (memb p).length := by rw [em]; rfl
        refine ⟨b5, c, [V.ref a5], _, rfl, Or.inr ⟨SqT.of g5, SqT.of (u5' _ _ uc), RZ.for_zipT (by rw [List.length_map]; exact lx5) (fun j σ H5 => ∃ (x7 x8 : Option V) (kvs : List (Key × V)), σ = [some (.ref d), some (.ref a), some (.ref m), some (.ref c), x4, some (.ref a5), some (V.int ((ix R p : Nat) : Int)), x7, x8] ∧ Up H H5 ∧ Tk H4 H5 ∧ H5 m = some (.dK kvs) ∧ MbN H5 kvs R ((((ps.take i).flatMap memb) ++ (memb p).take j).foldl addP []))
          ⟨_, _, kvs, rfl, u3.tr u5', Up.rf.tk, u5' _ _ hm, by rw [List.take_zero, List.append_nil]; exact mb.tk u5'.tk⟩ (fun j σ H5 ⟨_, _, _, _, _, k5, _⟩ => ⟨SqT.of (k5 _ _ g5), SqT.of (k5 _ _ (u5' _ _ uc))⟩) ?_ ?_⟩⟩
        · rintro j y z T0 σ H5 hy hz ⟨x7, x8, kvs, rfl, u5, k5, hm5, mb5⟩ nT
          have u6 : Up H5 (upd H5 T0 (.tup [y, z])) := Up.new nT
          have g6 : upd H5 T0 (.tup [y, z]) T0 = some (.tup [y, z]) := upd_same
          generalize upd H5 T0 (.tup [y, z]) = H6 at u6 g6 ⊢
          obtain ⟨q, hq, dq⟩ := das_at d5 hy
          have qm : q ∈ memb p := List.mem_of_getElem? hq
          have q4 := isK_memb ip qm
          have qi := hci q qm
          rw [List.getElem?_map, hq] at hz
          obtain rfl := Option.some.inj hz
          have hst : (((ps.take i).flatMap memb) ++ (memb p).take (j + 1)).foldl addP [] = addP ((((ps.take i).flatMap memb) ++ (memb p).take j).foldl addP []) q := by
            rw [List.take_add_one, hq, Option.toList_some, ← List.append_assoc, List.foldl_append]
            rfl
          have isf : ∀ r ∈ (((ps.take i).flatMap memb) ++ (memb p).take j).foldl addP [], isK r 4 := fold_is fun r hr => by
            rcases List.mem_append.mp hr with hr | hr
            · exact is0 r hr
            · exact isK_memb ip (List.mem_of_mem_take hr)
          have fl5 := fold_len (((ps.take i).flatMap memb) ++ (memb p).take j) []
          rw [List.length_nil, List.length_append, List.length_take] at fl5
          have ml5 := mb5.len
          walk_at "rd"
          refine r_dsd ?_
          walk_at "rd"
          refine ⟨m, rfl, isD_of (u6 _ _ hm5), ?_⟩
          walk_at "rd"
          refine ⟨kvs, .inl ((ix R q : Nat) : Int), u6 _ _ hm5, rfl, by rw [sizeLine_eq]; omega, fun v hv => ?_, fun hn => ?_⟩
          · walk_at "rd"
            refine ⟨_, _, kvs, rfl, u5.tr u6, k5.tr u6.tk, u6 _ _ hm5, ?_⟩
            rw [hst, mb5.yes isf q4 qi hv]
            exact mb5.tk u6.tk
          · have m7 : Mv m H6 (upd H6 m (.dK (putK kvs (.inl ((ix R q : Nat) : Int) : Key) y))) := Mv.wr
            have g7 : upd H6 m (.dK (putK kvs (.inl ((ix R q : Nat) : Int) : Key) y)) m = some (.dK (putK kvs (.inl ((ix R q : Nat) : Int) : Key) y)) := upd_same
            generalize upd H6 m (.dK (putK kvs (.inl ((ix R q : Nat) : Int) : Key) y)) = H7 at m7 g7 ⊢
            have k7 : Tk H6 H7 := fun z zs hz => m7 _ _ (ne_of hz (u6 _ _ hm5) nofun) hz
            walk_at "rd"
            refine ⟨_, _, _, rfl, (u5.tr u6).of nm m7, (k5.tr u6.tk).tr k7, g7, ?_⟩
            rw [hst, mb5.no isf q4 qi hn]
            exact ((mb5.tk u6.tk).tk k7).put ((dq.tk (k5.tr u6.tk)).tk k7) qi hn
        · rintro σ H5 ⟨x7, x8, kvs, rfl, u5, k5, hm5, mb5⟩
          rw [lx5, List.take_of_length_le (Nat.le_refl _), ← fi] at mb5
          exact ⟨_, _, _, _, _, _, kvs, rfl, u5, hm5, mb5⟩
    · rintro σ H3 ⟨x3, x4, x5, x6, x7, x8, kvs, rfl, u3, hm, mb⟩
      rw [ln, List.take_of_length_le (Nat.le_refl _)] at mb
      have hfp : ((ps.flatMap memb).foldl addP []) = foundP ps := rfl
      rw [hfp] at mb
      have lk := mb.len
      have hps : ∀ p ∈ ps, isK p 0 := fun p hp => by
        obtain ⟨j, hj⟩ := List.mem_iff_getElem?.mp hp
        exact (hns j p hj).1
      have isj := ljoin_is hps hne
      have fis := foundP_is hps
      have lfp : (foundP ps).length ≤ 90000 := Nat.le_trans (foundP_len ps) hfl
      walk_at "rd"
      refine r_tupD hm fun c H4 n4 u4 g4 => ?_
      rw [mb.keys] at g4
      have d4 := u4 _ _ hm
      walk_at "rd"
      refine ⟨c, _, rfl, Or.inr (SqT.of g4), ?_⟩
      walk_at "rd"
      rw [List.length_map]
      refine ifD (fun z => ?_) (fun z => ?_)
      · have l1 : (foundP ps).length = 1 := by omega
        obtain ⟨f0, hf0⟩ := List.length_eq_one_iff.mp l1
        rw [hf0] at g4 mb fis
        have e : ljoin ps = f0 := by rw [ljoin_asP, hf0]; rfl
        have lk1 : kvs.length = 1 := by rw [mb.len]; rfl
        obtain ⟨kv, rfl⟩ := List.length_eq_one_iff.mp lk1
        have ek := mb.ks
        have dv := mb.vs
        simp only [List.map_cons, List.map_nil, List.cons.injEq, and_true] at ek
        obtain ⟨v0, ev0, dv0⟩ := dv.one
        simp only [List.map_cons, List.map_nil, List.cons.injEq, and_true] at ev0
        have f4 := fis f0 (by simp)
        have em : memb f0 = [f0] := memb_self f4
        have f0i := mb.inr f0 (by simp)
        walk_at "rd"
        have hkv : valV [kv] (Sum.inl ((ix R f0 : Nat) : Int) : Key) = some v0 := by
          rw [valV_pos ek, ev0]
        refine r_dgetT (k := (Sum.inl ((ix R f0 : Nat) : Int) : Key)) rfl rfl g4 d4 hkv ?_
        walk_at "rd"
        rename_i t5 H5 n5 u5 g5
        refine k _ R H5 (u3.tr (u4.tr u5)).mv (hd.up (u3.tr (u4.tr u5))) Ex.rf (by omega) ⟨⟨t5, c, v0, rfl, ?_, ?_, ?_, ?_⟩, fun _ => ?_⟩
        · rw [g5, e, if_neg (by decide)]
        · rw [e]
          exact dv0.up (u4.tr u5)
        · rw [e, innN_memb (isK_mem f4), em]
          exact u5 _ _ g4
        · rw [e, innN_memb (isK_mem f4), em]
          intro x hx
          rw [List.mem_singleton.mp hx]
          exact f0i
        · rw [e]; exact f0i
      · have e : ljoin ps = .uni (foundP ps) := by
          rw [ljoin_asP]
          match c2 : foundP ps with
          | [x] => exact absurd (show (((foundP ps).length : Nat) : Int) = 1 by rw [c2]; rfl) z
          | [] => rfl
          | x :: y :: r => rfl
        rw [e] at isj
        have em : innN (.uni (foundP ps)) = foundP ps := rfl
        have cpl : ∀ x ∈ parts (.uni (foundP ps)), inR R x := mb.inr
        walk_at "rd"
        have g4' : H4 c = some (.tup (((foundP ps).map fun p => ((ix R p : Nat) : Int)).map V.int)) := by rw [g4, List.map_map]; rfl
        refine r_sortTI g4' fun b Hb nb ub gb => ?_
        refine ⟨b, _, rfl, Or.inr (SqL.of gb), ?_⟩
        walk_at "rd"
        have hlen : (PySem.W.sortI ((foundP ps).map fun p => ((ix R p : Nat) : Int))).length ≤ 90000 := by
          rw [(PySem.W.sortI_perm _).length_eq, List.length_map]
          exact lfp
        refine r_newT (by simp only [List.length_append, List.length_cons, List.length_map, List.length_nil]; omega) fun b2 H5 n5 u5 g5 => ?_
        walk_at "rd"
        have u45 : Up H4 H5 := ub.tr u5
        have gl : H5 b2 = some (.tup ((lets R (.uni (foundP ps))).map kV)) := by
          rw [lets_uni _ rfl, g5, List.append_nil]
          rfl
        refine r_tvs ?_
        walk_at "rd"
        refine ⟨m, kvs, rfl, u45 _ _ d4, fun f nf => ?_⟩
        have u6 : Up H5 (upd H5 f (.tup (kvs.map (·.2)))) := Up.new nf
        have g6 : upd H5 f (.tup (kvs.map (·.2))) f = some (.tup (kvs.map (·.2))) := upd_same
        generalize upd H5 f (.tup (kvs.map (·.2))) = H6 at u6 g6 ⊢
        walk_at "rd"
        rename_i t7 H7 n7 u7 g7
        have u07 : Up H H7 := u3.tr (u4.tr (u45.tr (u6.tr u7)))
        refine r_setN rfl rfl (hd.up u07) (.inl ⟨0, isj⟩) cpl ((u6.tr u7) _ _ gl) (by omega) fun H8 m8 n8 => ?_
        walk_at "rd"
        rename_i t9 H9 n9 u9 g9
        have k79 : Tk H7 H9 := by
          obtain ⟨kv0, hk0, _⟩ := hd.up u07
          exact (m8.tkT hk0).tr u9.tk
        have ex := Ex.add R (.uni (foundP ps))
        refine k _ _ H9 ((u07.mv.tr m8).tr u9.mv) (n8.up u9) ex (addN_len _ _) ⟨⟨t9, c, .ref t7, rfl, ?_, ?_, ?_, ?_⟩, fun _ => ?_⟩
        · rw [g9, e, if_neg (by decide)]
        · rw [e]
          exact .tup (k79 _ _ g7) (.cons (.str _) (.cons (.tup (k79 _ _ (u7 _ _ g6)) ((mb.vs.up (u4.tr (u45.tr (u6.tr u7)))).tk k79)) .nil))
        · rw [e, em]
          have := (IxT.ext (xs := foundP ps) ⟨g4, mb.inr⟩ ex).1
          exact k79 _ _ ((u45.tr (u6.tr u7)) _ _ this)
        · rw [e, em]
          exact fun x hx => ex.inr (mb.inr x hx)
        · rw [e]; exact addN_in _ _
end

section
variable {P : Program} {w : World} {K : PySem.W.Frag} {mg : Str → Option Value} {base : Heap}
theorem ok_of_parts (T : TX K mg w) : FG P w K mg base CX0 1 T.f_of_parts T.d_of_parts ["numbers", "part", "inner", "mapping"] (sp_mk isSD) := by
  refine Gd.ok T.F_of_parts sc_of_parts (fun vs H Q E h => ?_) (fun cdv A out s H vs Q E hg hr h => ?_)
  · obtain ⟨d, a, mp, v, y, R, m, ns, rfl, _⟩ := h
    rfl
  · obtain ⟨d, a, mp, v, y, R, m, ns, rfl, hc, hd, dv, ha, hns, hmp, ob, hRl, k⟩ := h
    have nd := sc_of_parts.nd
    have hu1 := hu_of hr
    refine ⟨_, (pss_cons (ps_set (i := 4) nd rfl (by first | exact Or.inl rfl | exact Or.inr rfl) (pe_tup (pa_cons (pe_ix ix_tup (pv 1) pe_int (fun _ _ => rfl)) (StX.pa_star (pe_lc (own := [("note", 6)]) rfl nd (pi_list (pv 2)) (blkOk_by (N := ["numbers", "part", "inner", "mapping", "letters", "number", "note"]) (sc := defScope s_of_parts) (by decide +kernel)) (fun _ _ _ _ _ => pg_name (i := 6) nd rfl (by first | exact Or.inl rfl | exact Or.inr rfl)) (fun _ _ _ _ _ => pts_nil) (fun _ _ _ _ _ => (pe_ix (ix_tupK (K := K) rfl) (pv 6) pe_int (fun _ _ => rfl)))) pa_nil))))
  (pss_cons (ps_set (i := 5) nd rfl (by first | exact Or.inl rfl | exact Or.inr rfl) (pe_dsetdT hu1 (pv 0) (pv 4) (pe_callB call_len_dT rfl T.z_len PySem.boot_len (pa_cons (pv 0) pa_nil)) ⟨rfl, rfl, rfl, rfl⟩))
  (pss_one (ps_ret (pe_tup (pa_cons (pe_tup (pa_cons (pe_ix ix_tup (pv 1) pe_int (fun _ _ => rfl)) (StX.pa_star (pe_lc (own := [("note", 6)]) rfl nd (pi_list (pv 2)) (blkOk_by (N := ["numbers", "part", "inner", "mapping", "letters", "number", "note"]) (sc := defScope s_of_parts) (by decide +kernel)) (fun _ _ _ _ _ => pg_name (i := 6) nd rfl (by first | exact Or.inl rfl | exact Or.inr rfl)) (fun _ _ _ _ _ => pts_nil) (fun _ _ _ _ _ => (pe_ix (ix_tupK (K := K) rfl) (pv 6) pe_int (fun _ _ => rfl)))) pa_nil))) (pa_cons (pv 5) (pa_cons (pe_tup (pa_cons (pv 5) pa_nil)) pa_nil)))))))), ?_⟩
    obtain ⟨a1, w1, ws, e, ha1, h1, t1⟩ := enc_inv dv
    subst e
    obtain ⟨s1, s2, s3, s4, s5, s6, s7⟩ := sd_sb (m := m) hc
    have hpl := pl_parts ob.ok (sd_pl hc)
    have ll := parts_len ob.wt
    have cin : ∀ q ∈ parts y, inR R (sb m q) := fun q hq => by
      obtain ⟨j, hj⟩ := List.mem_iff_getElem?.mp hq
      obtain ⟨v0, _, nt⟩ := hns.at_ j q hj
      rw [hpl q hq] at nt
      exact nt.inr rfl
    have cp : ∀ x ∈ parts (sb m y), inR R x := fun x hx => by
      rw [s2] at hx
      obtain ⟨q, hq, rfl⟩ := List.mem_map.mp hx
      exact cin q hq
    walk_at "rd"
    refine lc_L ha (by rw [hns.ln]; omega) (fun D i acc H5 => acc = (((parts y).take i).map fun q => V.int ((ix R (sb m q) : Nat) : Int)) ∧ Up H H5) (fun D H5 n5 u5 g5 => ⟨rfl, u5⟩) (fun D i acc H5 r => r.2 _ _ ha) ?_ ?_
    · rintro D i x acc H5 nD hx ⟨rfl, u5⟩ hacc hi hD
      obtain ⟨q, hq⟩ : ∃ q, (parts y)[i]? = some q := ⟨_, List.getElem?_eq_getElem (by rw [← hns.ln]; exact (List.getElem?_eq_some_iff.mp hx).1)⟩
      obtain ⟨v0, hv0, nt⟩ := hns.at_ i q hq
      rw [hx] at hv0
      obtain rfl := Option.some.inj hv0
      rw [hpl q (List.mem_of_getElem? hq)] at nt
      obtain ⟨a6, c6, w6, e6, ha6, d6, i6⟩ := nt.f
      subst e6
      have ha6' := u5 _ _ ((Up.rf : Up H H) _ _ ha6)
      have es : (parts y).take (i + 1) = (parts y).take i ++ [q] := by rw [List.take_add_one, hq]; rfl
      walk_at "rd"
      refine LcE.of hD hacc hi fun H6 m6 g6 => ⟨?_, u5.of nD m6⟩
      rw [es, List.map_append]
      rfl
    · rintro D acc H5 nD ⟨rfl, u5⟩ hD
      rw [hns.ln, List.take_length] at hD
      walk_at "rd"
      refine ⟨D, _, rfl, Or.inr (SqL.of hD), ?_⟩
      walk_at "rd"
      rename_i b H6 n6 u6 g6
      rw [List.append_nil] at g6
      have u06 : Up H H6 := u5.tr u6
      have gl : H6 b = some (.tup ((lets R (sb m y)).map kV)) := by
        rw [lets_else _ s4 s5, s2, s3, List.map_map, g6]
        rfl
      refine r_setN rfl rfl (hd.up u06) (ob.res s6) cp gl (by omega) fun H7 m7 n7 => ?_
      have ex := Ex.add R (sb m y)
      obtain ⟨kv0, hk0, _⟩ := hd.up u06
      have k67 := m7.tkT hk0
      have had : a ≠ d := by obtain ⟨_, e, _⟩ := hd; exact ne_of ha e nofun
      have ha7 := m7 _ _ had (u06 _ _ ha)
      have hUTK : Tk H H7 := u06.tk.tr k67
      have ha17 := hUTK _ _ ha1
      walk_at "rd"
      refine lc_L ha7 (by rw [hns.ln]; omega) (fun D i acc H5 => Das H5 acc (encs (((parts y).take i).map (sb m))) ∧ Up H7 H5) (fun D H5 n5 u5 g5 => ⟨.nil, u5⟩) (fun D i acc H5 r => r.2 _ _ ha7) ?_ ?_
      · rintro D i x acc H5 nD hx ⟨da5, u5⟩ hacc hi hD
        obtain ⟨q, hq⟩ : ∃ q, (parts y)[i]? = some q := ⟨_, List.getElem?_eq_getElem (by rw [← hns.ln]; exact (List.getElem?_eq_some_iff.mp hx).1)⟩
        obtain ⟨v0, hv0, nt⟩ := hns.at_ i q hq
        rw [hx] at hv0
        obtain rfl := Option.some.inj hv0
        rw [hpl q (List.mem_of_getElem? hq)] at nt
        obtain ⟨a6, c6, w6, e6, ha6, d6, i6⟩ := nt.f
        subst e6
        have ha6' := hUTK _ _ ha6
        have es : (parts y).take (i + 1) = (parts y).take i ++ [q] := by rw [List.take_add_one, hq]; rfl
        have ha6'' := u5 _ _ ha6'
        walk_at "rd"
        refine LcE.of hD hacc hi fun H6 m6 g6 => ⟨?_, u5.of nD m6⟩
        rw [es, List.map_append, encs_app]
        exact (da5.tk (m6.tk hD)).app (.cons ((d6.tk hUTK).tk (u5.tk.tr (m6.tk hD))) .nil)
      · rintro D2 acc2 H8 nD2 ⟨da8, u8⟩ hD2
        rw [hns.ln, List.take_length] at da8
        have la := das_len da8
        rw [List.length_map] at la
        walk_at "rd"
        refine ⟨D2, _, rfl, Or.inr (SqL.of hD2), ?_⟩
        walk_at "rd"
        rename_i b9 H9 n9 u9 g9 b10 H10 n10 u10 g10 b11 H11 n11 u11 g11
        rw [List.append_nil] at g9
        refine k _ _ H11 (((u06.mv.tr m7).tr (u8.tr (u9.tr (u10.tr u11))).mv)) (n7.up (u8.tr (u9.tr (u10.tr u11)))) ex (Nat.le_trans (addN_len _ _) (by omega)) ?_
        rw [s6]
        refine NoteAt.mk' g11 ?_ ?_ (addN_in _ _)
        · rw [s1]
          exact .tup ((u10.tr u11) _ _ g9) (.cons (.str _) (da8.up (u9.tr (u10.tr u11))))
        · rw [s7]
          exact IxT.one (u11 _ _ g10) (addN_in _ _)
end

section
variable {P : Program} {w : World} {K : PySem.W.Frag} {mg : Str → Option Value} {base : Heap}
theorem ok_of_members (T : TX K mg w) : FG P w K mg base CX0 2 T.f_of_members T.d_of_members ["numbers", "part", "inner", "mapping"] (sp_mk isUni) := by
  have G_joined_notes := ok_joined_notes (P := P) (w := w) (base := base) T
  refine Gd.ok T.F_of_members sc_of_members (fun vs H Q E h => ?_) (fun cdv A out s H vs Q E hg hr h => ?_)
  · obtain ⟨d, a, mp, v, y, R, m, ns, rfl, _⟩ := h
    rfl
  · obtain ⟨d, a, mp, v, y, R, m, ns, rfl, hc, hd, dv, ha, hns, hmp, ob, hRl, k⟩ := h
    have nd := sc_of_members.nd
    have hr_joined_notes := hr
    refine ⟨_, (pss_one (ps_ret (pe_g T.c_joined_notes G_joined_notes hg hr_joined_notes rfl pass0 (pa_cons (pv 0) (pa_cons (pv 2) pa_nil))))), ?_⟩
    obtain ⟨ms, rfl⟩ : ∃ ms, y = .uni ms := by cases y <;> first | (simp [isUni] at hc; done) | exact ⟨_, rfl⟩
    obtain ⟨m1, m2, m3⟩ := ob.ms ms rfl
    have hlf : ∀ x ∈ ms, isLf x = false := fun x hx => by
      rcases ob.ok with ⟨k', h⟩ | ⟨s, e, _⟩
      · simp only [isK] at h
        have := isKs_iff.mp h.2.2.2 x hx
        cases x <;> simp only [isK] at this <;> first | rfl | omega
      · cases e
    walk_at "rd"
    refine ⟨d, a, ns, R, ms.map (sb m), rfl, hd, ha, by rw [List.length_map]; exact hns.ln, by simpa using m1, fun i p hp => ?_, m3, hRl, fun v' R' H' h1 h2 h3 h4 h5 => ?_⟩
    · rw [List.getElem?_map] at hp
      cases hx : ms[i]? with
      | none => rw [hx] at hp; cases hp
      | some x =>
        rw [hx] at hp
        obtain rfl := Option.some.inj hp
        have hxm := List.mem_of_getElem? hx
        obtain ⟨v0, e0, nt⟩ := hns.at_ i x hx
        rw [hlf x hxm] at nt
        exact ⟨m2 x hxm, v0, e0, nt⟩
    · refine k v' R' H' h1 h2 h3 (by omega) ?_
      rw [sb, sbs_map]
      exact h5
theorem ok_opened (T : TX K mg w) : FG P w K mg base CX0 1 T.f_opened T.d_opened ["numbers", "part", "inner", "mapping"] (sp_mk isLf) := by
  refine Gd.ok T.F_opened sc_opened (fun vs H Q E h => ?_) (fun cdv A out s H vs Q E hg hr h => ?_)
  · obtain ⟨d, a, mp, v, y, R, m, ns, rfl, _⟩ := h
    rfl
  · obtain ⟨d, a, mp, v, y, R, m, ns, rfl, hc, hd, dv, ha, hns, hmp, ob, hRl, k⟩ := h
    have nd := sc_opened.nd
    have hu1 := hu_of hr
    refine ⟨_, (pss_cons (ps_asg (pv 1) (pg_tup rfl (pgs_cons (pg_name (i := 4) nd rfl (by first | exact Or.inl rfl | exact Or.inr rfl)) (pgs_cons (pg_name (i := 5) nd rfl (by first | exact Or.inl rfl | exact Or.inr rfl)) pgs_nil))))
  (pss_cons (ps_if (pt_cmpR (op_inK hu1) (pv 5) (pv 3) rfl) (pss_one (ps_ret (pe_tup (pa_cons (pe_ix ix_tup (pe_dget hu1 (pv 3) (pv 5) (fun _ _ => rfl)) pe_int (fun _ _ => rfl)) (pa_cons pe_non (pa_cons (pe_ix ix_tup (pe_dget hu1 (pv 3) (pv 5) (fun _ _ => rfl)) pe_int (fun _ _ => rfl)) pa_nil)))))) pss_nil)
  (pss_cons (ps_if (pt_cmpR op_eq (pv 4) pe_str (nomark _)) (pss_one (ps_ret (pe_tup (pa_cons (pe_tup (pa_cons pe_str (pa_cons (pe_tup (pa_cons (pv 1) pa_nil)) pa_nil))) (pa_cons pe_non (pa_cons (pe_tup (pa_cons (pe_dsetdT hu1 (pv 0) (pv 1) (pe_callB call_len_dT rfl T.z_len PySem.boot_len (pa_cons (pv 0) pa_nil)) ⟨rfl, rfl, rfl, rfl⟩) pa_nil)) pa_nil)))))) pss_nil)
  (pss_one (ps_ret (pe_tup (pa_cons (pe_tup (pa_cons pe_str (pa_cons (pe_tup pa_nil) (pa_cons (pv 5) pa_nil)))) (pa_cons pe_non (pa_cons (pe_tup pa_nil) pa_nil))))))))), ?_⟩
    obtain ⟨a1, w1, ws, e, ha1, h1, t1⟩ := enc_inv dv
    subst e
    obtain ⟨l1, l2, l3⟩ := lf_inv hc
    rw [l1] at h1
    obtain rfl := h1.str_inv
    rw [l2] at t1
    cases t1
    obtain ⟨kvs, hk, hmm⟩ := hmp
    have hmn := hmm (nmP y)
    walk_at "rd"
    refine r_inK hk ?_
    cases hmy : m (nmP y) with
    | some q =>
      rw [hmy] at hmn
      obtain ⟨v0, ev, nt⟩ := hmn
      rw [ev]
      refine r_bl (ifT rfl ?_)
      obtain ⟨a6, c6, w6, e6, ha6, d6, i6⟩ := nt.f
      subst e6
      have esb : sb m y = q := by
        cases y <;> first
          | (simp [isLf] at hc; done)
          | (simp only [nmP] at hmy; simp only [sb, sbT, hmy]; done)
      walk_at "rd"
      refine r_dgetN rfl rfl hk ev ?_
      walk_at "rd"
      refine r_dgetN rfl rfl hk ev ?_
      walk_at "rd"
      rename_i b H5 n5 u5 g5
      refine k _ R H5 u5.mv (hd.up u5) Ex.rf (by omega) ?_
      rw [esb, hc]
      exact NoteAt.mkT g5 (d6.up u5) (i6.tk u5.tk)
    | none =>
      rw [hmy] at hmn
      rw [hmn]
      refine r_bl (ifF rfl ?_)
      rcases lf_okN hc ob with ⟨n, rfl, _⟩ | ⟨s0, rfl, _⟩
      · have esb : sb m (.star n) = .row [.star n] := by
          simp only [nmP] at hmy
          simp only [sb, hmy]
        simp only [Gd.hd, nmP] at ha1 hmy
        walk_at "rc"
        refine ifT (by show decide (("*" : Str) = ("*" : Str)) = true; decide +kernel) ?_
        walk_at "rd"
        rename_i b1 H1 n1 u1 g1 b2 H2 n2 u2 g2
        have gl : H2 a1 = some (.tup ((lets R (.star n)).map kV)) := by
          rw [lets_lf R rfl]
          exact (u1.tr u2) _ _ ha1
        refine r_setN rfl rfl (hd.up (u1.tr u2)) ob.ok (fun x hx => (List.not_mem_nil hx).elim) gl (by omega) fun H7 m7 n7 => ?_
        walk_at "rd"
        rename_i b8 H8 n8 u8 g8 b9 H9 n9 u9 g9
        have ex := Ex.add R (.star n)
        obtain ⟨kv0, hk0, _⟩ := hd.up (u1.tr u2)
        have k29 : Tk H2 H9 := (m7.tkT hk0).tr (u8.tr u9).tk
        refine k _ _ H9 (((u1.tr u2).mv.tr m7).tr (u8.tr u9).mv) (n7.up (u8.tr u9)) ex (Nat.le_trans (addN_len _ _) (by omega)) ?_
        rw [esb]
        refine NoteAt.mkT g9 ?_ (IxT.one (u9 _ _ g8) (addN_in _ _))
        exact .tup (k29 _ _ g2) (.cons (.str _) (.cons (.tup (k29 _ _ (u2 _ _ g1)) (.cons ((dv.tk (u1.tr u2).tk).tk k29) .nil)) .nil))
      · have esb : sb m (.tail s0) = .inp [] (some s0) := by
          simp only [nmP] at hmy
          simp only [sb, sbT, hmy]
        simp only [Gd.hd, nmP] at ha1 hmy
        walk_at "rc"
        refine ifF (by show decide (("**" : Str) = ("*" : Str)) = false; decide +kernel) ?_
        walk_at "rd"
        rename_i b1 H1 n1 u1 g1 b2 H2 n2 u2 g2 b3 H3 n3 u3 g3 b4 H4 n4 u4 g4
        have u04 : Up H H4 := u1.tr (u2.tr (u3.tr u4))
        refine k _ R H4 u04.mv (hd.up u04) Ex.rf (by omega) ?_
        rw [esb]
        refine NoteAt.mkT g4 ?_ ⟨u4 _ _ g3, fun x hx => (List.not_mem_nil hx).elim⟩
        exact .tup ((u3.tr u4) _ _ g2) (.cons (.str _) (.cons (.tup ((u2.tr (u3.tr u4)) _ _ g1) .nil) (.cons (.str _) .nil)))
end

section
variable {P : Program} {w : World} {K : PySem.W.Frag} {mg : Str → Option Value} {base : Heap}
theorem ok_gathered (T : TX K mg w) : FG P w K mg base CX0 1 T.f_gathered T.d_gathered ["numbers", "part", "inner", "mapping"] (sp_mk isRI) := by
  refine Gd.ok T.F_gathered sc_gathered (fun vs H Q E h => ?_) (fun cdv A out s H vs Q E hg hr h => ?_)
  · obtain ⟨d, a, mp, v, y, R, m, ns, rfl, _⟩ := h
    rfl
  · obtain ⟨d, a, mp, v, y, R, m, ns, rfl, hc, hd, dv, ha, hns, hmp, ob, hRl, k⟩ := h
    have nd := sc_gathered.nd
    have hu1 := hu_of hr
    refine ⟨_, (pss_cons (ps_set (i := 4) nd rfl (by first | exact Or.inl rfl | exact Or.inr rfl) (pe_lst pa_nil))
  (pss_cons (ps_set (i := 5) nd rfl (by first | exact Or.inl rfl | exact Or.inr rfl) (pe_lst pa_nil))
  (pss_cons (ps_set (i := 6) nd rfl (by first | exact Or.inl rfl | exact Or.inr rfl) pe_non)
  (pss_cons (ps_for PassesOwn.never rfl (pi_list (pv 2)) (pg_tup rfl (pgs_cons (pg_name (i := 9) nd rfl (by first | exact Or.inl rfl | exact Or.inr rfl)) (pgs_cons (pg_name (i := 10) nd rfl (by first | exact Or.inl rfl | exact Or.inr rfl)) (pgs_cons (pg_name (i := 11) nd rfl (by first | exact Or.inl rfl | exact Or.inr rfl)) pgs_nil)))) (pss_one (ps_if (pt_cmpR op_notN (pv 10) pe_non (nomark _)) (pss_cons (ps_expr (pe_bm PySem.F.plainAttrs_list PySem.F.slot_list_append PySem.F.type_list_append mt_append (pv 4) (pa_cons (pv 9) pa_nil)))
  (pss_one (ps_expr (pe_bm PySem.F.plainAttrs_list PySem.F.slot_list_append PySem.F.type_list_append mt_append (pv 5) (pa_cons (pv 10) pa_nil))))) (pss_cons (ps_expr (pe_bm PySem.F.plainAttrs_list PySem.F.slot_list_extend PySem.F.type_list_extend mt_extT (pv 4) (pa_cons (pe_ix ix_tup (pv 9) pe_int (fun _ _ => rfl)) pa_nil)))
  (pss_cons (ps_expr (pe_bm PySem.F.plainAttrs_list PySem.F.slot_list_extend PySem.F.type_list_extend mt_extT (pv 5) (pa_cons (pv 11) pa_nil)))
  (pss_one (ps_set (i := 6) nd rfl (by first | exact Or.inl rfl | exact Or.inr rfl) (pe_ifExp (pt_cmpR op_eq (pe_ix ix_tup (pv 9) pe_int (fun _ _ => rfl)) pe_str (nomark _)) (pe_ix ix_tup (pv 9) pe_int (fun _ _ => rfl)) pe_non))))))))
  (pss_cons (ps_set (i := 7) nd rfl (by first | exact Or.inl rfl | exact Or.inr rfl) (pe_tup (pa_cons (pe_ix ix_tup (pv 1) pe_int (fun _ _ => rfl)) (StX.pa_star (pv 5) pa_nil))))
  (pss_cons (ps_if (pt_cmpR op_notN (pv 6) pe_non (nomark _)) (pss_one (ps_set (i := 7) nd rfl (by first | exact Or.inl rfl | exact Or.inr rfl) (pe_tup (StX.pa_star (pv 7) (pa_cons (pe_dsetdT hu1 (pv 0) (pe_tup (pa_cons pe_str (pa_cons (pv 6) pa_nil))) (pe_callB call_len_dT rfl T.z_len PySem.boot_len (pa_cons (pv 0) pa_nil)) ⟨rfl, rfl, rfl, rfl⟩) pa_nil))))) pss_nil)
  (pss_cons (ps_set (i := 8) nd rfl (by first | exact Or.inl rfl | exact Or.inr rfl) (pe_ifExp (pt_cmpR op_eq (pe_ix ix_tup (pv 1) pe_int (fun _ _ => rfl)) pe_str (nomark _)) (pe_tup (pa_cons pe_str (pa_cons (pe_callTy call_tuple_of rfl T.z_tuple (by decide +kernel) (pa_cons (pv 4) pa_nil)) pa_nil))) (pe_tup (pa_cons pe_str (pa_cons (pe_callTy call_tuple_of rfl T.z_tuple (by decide +kernel) (pa_cons (pv 4) pa_nil)) (pa_cons (pv 6) pa_nil))))))
  (pss_one (ps_ret (pe_tup (pa_cons (pv 8) (pa_cons (pe_dsetdT hu1 (pv 0) (pv 7) (pe_callB call_len_dT rfl T.z_len PySem.boot_len (pa_cons (pv 0) pa_nil)) ⟨rfl, rfl, rfl, rfl⟩) (pa_cons (pe_callTy call_tuple_of rfl T.z_tuple (by decide +kernel) (pa_cons (pv 5) pa_nil)) pa_nil))))))))))))), ?_⟩
    obtain ⟨a1, w1, ws, e, ha1, h1, t1⟩ := enc_inv dv
    subst e
    have ll := parts_len ob.wt
    have hG : (gis m (parts y)).length ≤ 90000 := by
      have h2 := parts_len ob.sw
      rcases ri_inp hc ob with ⟨xs, _, e, _⟩ | ⟨xs, tl, _, e⟩
      · rw [e] at h2; exact h2
      · rw [e] at h2
        have h3 : (gis m (parts y) ++ tails (gtl m (parts y))).length ≤ 90000 := h2
        rw [List.length_append] at h3
        omega
    have hgl : ∀ i, (gis m ((parts y).take i)).length ≤ 90000 := fun i => Nat.le_trans (gis_take m _ i) hG
    walk_at "rd"
    rename_i li H1 n1 u1 g1 lf H2 n2 u2 g2
    have hlf : li ≠ lf := ne_of_none g1 n2
    have nli : H li = none := n1
    have nlf : H lf = none := u1.fr n2
    refine ⟨a, rfl, ⟨ns, SqL.of ((u1.tr u2) _ _ ha)⟩, for_list (K := K) (a := a) (xs := ns) (fun i σ H3 => ∃ (x7 x8 x9 x10 x11 : Option V) (ws : List V), σ = [some (.ref d), some (.ref a1), some (.ref a), some (.ref mp), some (.ref li), some (.ref lf), some (tlV (gtl m ((parts y).take i))), x7, x8, x9, x10, x11] ∧ Up H H3 ∧
        H3 li = some (.lst ws) ∧ Das H3 ws (encs (gis m ((parts y).take i))) ∧ H3 lf = some (.lst ((gis m ((parts y).take i)).map fun q => V.int ((ix R q : Nat) : Int))) ∧ ∀ q ∈ gis m ((parts y).take i), inR R q)
      ⟨none, none, none, none, none, [], rfl, u1.tr u2, u2 _ _ g1, .nil, g2, by simp [gis]⟩ (fun i σ H3 _ ⟨_, _, _, _, _, _, _, u3, _⟩ => SqL.of (u3 _ _ ha)) ?_ ?_⟩
    · rintro i x σ H3 hx ⟨x7, x8, x9, x10, x11, ws3, rfl, u3, hli, dli, hlf3, hin⟩
      obtain ⟨q, hq⟩ : ∃ q, (parts y)[i]? = some q := ⟨_, List.getElem?_eq_getElem (by rw [← hns.ln]; exact (List.getElem?_eq_some_iff.mp hx).1)⟩
      obtain ⟨v0, hv0, nt⟩ := hns.at_ i q hq
      rw [hx] at hv0
      obtain rfl := Option.some.inj hv0
      have qm := List.mem_of_getElem? hq
      have es : (parts y).take (i + 1) = (parts y).take i ++ [q] := by rw [List.take_add_one, hq]; rfl
      have lw := das_len dli
      have lg := hgl i
      have lg1 := hgl (i + 1)
      rw [es, gis_snoc, List.length_append] at lg1
      cases hl : isLf q with
      | false =>
        rw [hl] at nt
        obtain ⟨a6, c6, w6, e6, ha6, d6, i6⟩ := nt.f
        subst e6
        rw [hl, if_neg (by decide)] at lg1
        have ha63 := u3 _ _ ha6
        walk_at "rd"
        refine ifT rfl ?_
        walk_at "rd"
        refine r_tyL hli ?_
        walk_at "rd"
        refine r_app hli (by omega) fun H5 m5 g5 => ?_
        have hlf5 := m5 _ _ hlf.symm hlf3
        have t5 := m5.tk hli
        walk_at "rd"
        refine r_tyL hlf5 ?_
        walk_at "rd"
        refine r_app hlf5 (by rw [List.length_map]; omega) fun H6 m6 g6 => ?_
        have t6 := m6.tk hlf5
        have t36 := t5.tr t6
        walk_at "rd"
        refine ⟨x7, x8, some w6, some (V.int ((ix R (sb m q) : Nat) : Int)), some (.ref c6), _, ?_, (u3.of nli m5).of nlf m6, m6 _ _ hlf g5, ?_, ?_, ?_⟩
        · rw [es, gtl_snoc, hl, if_neg (by decide)]
          rfl
        · rw [es, gis_snoc, hl, if_neg (by decide), encs_app]
          exact (dli.tk t36).app (.cons ((d6.up u3).tk t36) .nil)
        · rw [es, gis_snoc, hl, if_neg (by decide), List.map_append]
          exact g6
        · rw [es, gis_snoc, hl, if_neg (by decide)]
          intro z hz
          rcases List.mem_append.mp hz with hz | hz
          · exact hin z hz
          · rw [List.mem_singleton.mp hz]; exact nt.inr rfl
      | true =>
        rw [hl] at nt
        obtain ⟨a6, c6, w6, e6, ha6, d6, i6⟩ := nt.t
        subst e6
        rw [hl, if_pos rfl] at lg1
        have ha63 := u3 _ _ ha6
        have hitm : innN (sb m q) = its (sb m q) ∧ ∃ (hd0 : Str) (rest : List PyData), enc (sb m q) = .tuple (.str hd0 :: .tuple (encs (its (sb m q))) :: rest) ∧ ((hd0 = ("[]" : Str) ∧ tlOf (sb m q) = none) ∨ (hd0 = ("()" : Str) ∧ rest = [tlD (tlOf (sb m q))])) := by
          cases q with
          | star n =>
            obtain ⟨ys, e⟩ := (ob.sub _ qm).1 n rfl
            rw [e]
            exact ⟨rfl, _, _, rfl, .inl ⟨rfl, rfl⟩⟩
          | tail s0 =>
            obtain ⟨ys, t0, e⟩ := (ob.sub _ qm).2 s0 rfl
            rw [e]
            exact ⟨rfl, _, _, rfl, .inr ⟨rfl, rfl⟩⟩
          | _ => simp [isLf] at hl
        obtain ⟨hi1, hd0, rest, he, hor⟩ := hitm
        rw [he] at d6
        obtain ⟨b6, xs6, e7, hb6, ds6⟩ := d6.tup_inv
        subst e7
        cases ds6 with
        | cons dh dt =>
          cases dt with
          | cons d2 d3 =>
            obtain rfl := dh.str_inv
            obtain ⟨b7, xs7, e8, hb7, ds7⟩ := d2.tup_inv
            subst e8
            rw [hi1] at i6
            have hb63 := u3 _ _ hb6
            have hb73 := u3 _ _ hb7
            have hc63 := u3 _ _ i6.1
            have l7 := das_len ds7
            walk_at "rd"
            refine ifF rfl ?_
            walk_at "rd"
            refine r_tyL hli ?_
            walk_at "rd"
            refine r_ext hli hb73 (by omega) fun H5 m5 g5 => ?_
            have hlf5 := m5 _ _ hlf.symm hlf3
            have t5 := m5.tk hli
            walk_at "rd"
            refine r_tyL hlf5 ?_
            walk_at "rd"
            refine r_ext hlf5 (t5 _ _ hc63) (by rw [List.length_map, List.length_map]; omega) fun H6 m6 g6 => ?_
            have t6 := m6.tk hlf5
            have t36 := t5.tr t6
            have hb66 := t36 _ _ hb63
            have fin : ∀ (tv : V), tv = tlV (tlOf (sb m q)) → ∃ (z7 z8 z9 z10 z11 : Option V) (ws : List V), [some (V.ref d), some (.ref a1), some (.ref a), some (.ref mp), some (.ref li), some (.ref lf), some tv, x7, x8, some (.ref b6), some V.non, some (.ref c6)] = [some (V.ref d), some (.ref a1), some (.ref a), some (.ref mp), some (.ref li), some (.ref lf), some (tlV (gtl m ((parts y).take (i + 1)))), z7, z8, z9, z10, z11] ∧ Up H H6 ∧
                H6 li = some (.lst ws) ∧ Das H6 ws (encs (gis m ((parts y).take (i + 1)))) ∧ H6 lf = some (.lst ((gis m ((parts y).take (i + 1))).map fun q => V.int ((ix R q : Nat) : Int))) ∧ ∀ q ∈ gis m ((parts y).take (i + 1)), inR R q := by
              intro tv etv
              refine ⟨x7, x8, some (.ref b6), some .non, some (.ref c6), _, ?_, (u3.of nli m5).of nlf m6, m6 _ _ hlf g5, ?_, ?_, ?_⟩
              · rw [es, gtl_snoc, hl, if_pos rfl, etv]
              · rw [es, gis_snoc, hl, if_pos rfl, encs_app]
                exact (dli.tk t36).app ((ds7.up u3).tk t36)
              · rw [es, gis_snoc, hl, if_pos rfl, List.map_append]
                exact g6
              · rw [es, gis_snoc, hl, if_pos rfl]
                intro z hz
                rcases List.mem_append.mp hz with hz | hz
                · exact hin z hz
                · exact i6.2 z hz
            walk_at "rd"
            rcases hor with ⟨rfl, et⟩ | ⟨rfl, er⟩
            · refine ifF (by decide +kernel) ?_
              walk_at "rd"
              obtain ⟨z7, z8, z9, z10, z11, wz, ez, r⟩ := fin .non (by rw [et]; rfl)
              exact ⟨z7, z8, z9, z10, z11, wz, ez, r⟩
            · refine ifT (by decide +kernel) ?_
              subst er
              obtain ⟨u7, rfl, du⟩ := d3.one
              have eu : u7 = tlV (tlOf (sb m q)) := by
                revert du
                cases tlOf (sb m q) with
                | none => exact fun du => du.non_inv
                | some z => exact fun du => du.str_inv
              walk_at "rd"
              obtain ⟨z7, z8, z9, z10, z11, wz, ez, r⟩ := fin u7 eu
              exact ⟨z7, z8, z9, z10, z11, wz, ez, r⟩
    · rintro σ H3 ⟨x7, x8, x9, x10, x11, ws3, rfl, u3, hli, dli, hlf3, hin⟩
      rw [hns.ln, List.take_length] at dli hlf3 hin ⊢
      have lw := das_len dli
      walk_at "rd"
      refine ⟨lf, _, rfl, Or.inr (SqL.of hlf3), ?_⟩
      walk_at "rd"
      have u3d := hd.up u3
      have had : a ≠ d := by obtain ⟨_, e, _⟩ := hd; exact ne_of ha e nofun
      have hlid : li ≠ d := by obtain ⟨_, e, _⟩ := u3d; exact ne_of hli e nofun
      have hlfd : lf ≠ d := by obtain ⟨_, e, _⟩ := u3d; exact ne_of hlf3 e nofun
      rename_i b H4 n4 u4 g4
      rcases ri_inp hc ob with ⟨xs, rfl, esb, et⟩ | ⟨xs, tl, rfl, esb⟩
      · rw [et] at *
        refine ifF rfl ?_
        walk_at "rd"
        refine ifT (by show decide (("[]" : Str) = ("[]" : Str)) = true; decide +kernel) ?_
        walk_at "rd"
        refine ⟨li, _, rfl, Or.inl ⟨SqL.of (u4 _ _ hli), fun p5 np5 => ?_⟩⟩
        have u5 : Up H4 (upd H4 p5 (.tup ws3)) := Up.new np5
        have g5 : upd H4 p5 (.tup ws3) p5 = some (.tup ws3) := upd_same
        generalize upd H4 p5 (.tup ws3) = H5 at u5 g5 ⊢
        walk_at "rd"
        rename_i p6 H6 n6 u6 g6
        have u06 : Up H H6 := u3.tr (u4.tr (u5.tr u6))
        have gl : H6 b = some (.tup ((lets R (sb m (.row xs))).map kV)) := by
          rw [esb, lets_else _ rfl rfl, (u5.tr u6) _ _ g4, List.append_nil]
          rfl
        have cp : ∀ x ∈ parts (sb m (.row xs)), inR R x := by rw [esb]; exact hin
        refine r_setN rfl rfl (hd.up u06) (ob.res rfl) cp gl (by omega) fun H7 m7 n7 => ?_
        obtain ⟨kv0, hk0, _⟩ := hd.up u06
        have k67 := m7.tkT hk0
        walk_at "rd"
        refine ⟨lf, _, rfl, Or.inl ⟨SqL.of (m7 _ _ hlfd ((u4.tr (u5.tr u6)) _ _ hlf3)), fun p8 np8 => ?_⟩⟩
        have u8 : Up H7 (upd H7 p8 (.tup ((gis m (parts (.row xs))).map fun q => V.int ((ix R q : Nat) : Int)))) := Up.new np8
        have g8 : upd H7 p8 (.tup ((gis m (parts (.row xs))).map fun q => V.int ((ix R q : Nat) : Int))) p8 = some (.tup ((gis m (parts (.row xs))).map fun q => V.int ((ix R q : Nat) : Int))) := upd_same
        generalize upd H7 p8 (.tup ((gis m (parts (.row xs))).map fun q => V.int ((ix R q : Nat) : Int))) = H8 at u8 g8 ⊢
        walk_at "rd"
        rename_i p9 H9 n9 u9 g9
        have ex := Ex.add R (sb m (.row xs))
        refine k _ _ H9 ((u06.mv.tr m7).tr (u8.tr u9).mv) (n7.up (u8.tr u9)) ex (Nat.le_trans (addN_len _ _) (by omega)) ?_
        rw [show isLf (.row xs) = false from rfl]
        refine NoteAt.mk' g9 ?_ ?_ (addN_in _ _)
        · rw [esb]
          exact .tup ((k67.tr (u8.tr u9).tk) _ _ g6) (.cons (.str _) (.cons (.tup ((k67.tr (u8.tr u9).tk) _ _ (u6 _ _ g5)) ((dli.up (u4.tr (u5.tr u6))).tk (k67.tr (u8.tr u9).tk))) .nil))
        · rw [show innN (sb m (.row xs)) = gis m (parts (.row xs)) by rw [esb]; rfl]
          have := (IxT.ext (H := H9) (c := p8) (R := R) (xs := gis m (parts (.row xs))) ⟨u9 _ _ g8, hin⟩ ex)
          exact this
      · generalize gtl m (parts (.inp xs tl)) = t at *
        cases t with
        | none =>
          refine ifF rfl ?_
          walk_at "rd"
          refine ifF (by show decide (("()" : Str) = ("[]" : Str)) = false; decide +kernel) ?_
          walk_at "rd"
          refine ⟨li, _, rfl, Or.inl ⟨SqL.of (u4 _ _ hli), fun p5 np5 => ?_⟩⟩
          have u5 : Up H4 (upd H4 p5 (.tup ws3)) := Up.new np5
          have g5 : upd H4 p5 (.tup ws3) p5 = some (.tup ws3) := upd_same
          generalize upd H4 p5 (.tup ws3) = H5 at u5 g5 ⊢
          walk_at "rd"
          rename_i p6 H6 n6 u6 g6
          have gl : H6 b = some (.tup ((lets R (sb m (.inp xs tl))).map kV)) := by
            rw [esb, lets_else _ rfl rfl, (u5.tr u6) _ _ g4]
            simp [parts, tails]
            rfl
          have cp : ∀ x ∈ parts (sb m (.inp xs tl)), inR R x := by
            rw [esb]
            intro x hx; exact hin x (by simpa [parts, tails] using hx)
          refine r_setN rfl rfl ((u3d.up u4).up (u5.tr u6)) (ob.res rfl) cp gl (by omega) fun H7 m7 n7 => ?_
          obtain ⟨kv0, hk0, _⟩ := (u3d.up u4).up (u5.tr u6)
          have k67 := m7.tkT hk0
          walk_at "rd"
          refine ⟨lf, _, rfl, Or.inl ⟨SqL.of (m7 _ _ hlfd ((u5.tr u6) _ _ (u4 _ _ hlf3))), fun p8 np8 => ?_⟩⟩
          have u8 : Up H7 (upd H7 p8 (.tup ((gis m (parts (.inp xs tl))).map fun q => V.int ((ix R q : Nat) : Int)))) := Up.new np8
          have g8 : upd H7 p8 (.tup ((gis m (parts (.inp xs tl))).map fun q => V.int ((ix R q : Nat) : Int))) p8 = some (.tup ((gis m (parts (.inp xs tl))).map fun q => V.int ((ix R q : Nat) : Int))) := upd_same
          generalize upd H7 p8 (.tup ((gis m (parts (.inp xs tl))).map fun q => V.int ((ix R q : Nat) : Int))) = H8 at u8 g8 ⊢
          walk_at "rd"
          rename_i p9 H9 n9 u9 g9
          have ex1 := Ex.add R (sb m (.inp xs tl))
          have ex : Ex R (addN R (sb m (.inp xs tl))) := ex1
          refine k _ _ H9 (((u3.tr (u4.tr (u5.tr u6))).mv.tr m7).tr (u8.tr u9).mv) (n7.up (u8.tr u9)) ex (by have := addN_len R (sb m (.inp xs tl)); omega) ?_
          rw [show isLf (.inp xs tl) = false from rfl]
          refine NoteAt.mk' g9 ?_ ?_ (addN_in _ _)
          · rw [esb]
            exact .tup ((k67.tr (u8.tr u9).tk) _ _ g6) (.cons (.str _) (.cons (.tup ((k67.tr (u8.tr u9).tk) _ _ (u6 _ _ g5)) ((dli.up u4).tk ((u5.tr u6).tk.tr (k67.tr (u8.tr u9).tk)))) (.cons (tlV_da none) .nil)))
          · rw [show innN (sb m (.inp xs tl)) = gis m (parts (.inp xs tl)) by rw [esb]; rfl]
            exact (IxT.ext (H := H9) (c := p8) (R := R) (xs := gis m (parts (.inp xs tl))) ⟨u9 _ _ g8, hin⟩ ex)
        | some s1 =>
          have oT : okN (.tail s1) := by
            have o := ob.res rfl
            rw [esb] at o
            rcases o with ⟨k', h⟩ | ⟨s', e, _⟩
            · simp only [isK] at h
              exact .inr ⟨s1, rfl, h.2.2⟩
            · cases e
          refine ifT rfl ?_
          walk_at "rd"
          refine ⟨b, _, rfl, Or.inl (SqT.of g4), ?_⟩
          walk_at "rd"
          refine r_setT rfl rfl (u3d.up u4) oT (by omega) fun H1' H5' ua mb nda ndb => ?_
          obtain ⟨kva, hka, _⟩ := nda
          have kab := mb.tkT hka
          have k4b : Tk H4 H5' := ua.tk.tr kab
          have ha15 := k4b _ _ ((u3.tr u4) _ _ ha1)
          have la := addN_len R (.tail s1)
          have exa := Ex.add R (.tail s1)
          have hin2 : ∀ q ∈ gis m (parts (.inp xs tl)), ix (addN R (.tail s1)) q = ix R q := fun q hq => ix_add (hin q hq)
          have hli5 := mb _ _ hlid (ua _ _ (u4 _ _ hli))
          have hlf5 := mb _ _ hlfd (ua _ _ (u4 _ _ hlf3))
          walk_at "rd"
          rename_i b6 H6' n6' u6' g6'
          walk_at "rd"
          refine ifF (by show decide (("()" : Str) = ("[]" : Str)) = false; decide +kernel) ?_
          walk_at "rd"
          refine ⟨li, _, rfl, Or.inl ⟨SqL.of (u6' _ _ hli5), fun p5 np5 => ?_⟩⟩
          have u5 : Up H6' (upd H6' p5 (.tup ws3)) := Up.new np5
          have g5 : upd H6' p5 (.tup ws3) p5 = some (.tup ws3) := upd_same
          generalize upd H6' p5 (.tup ws3) = H5 at u5 g5 ⊢
          walk_at "rd"
          rename_i p6 H6 n6 u6 g6
          have gl : H6 b6 = some (.tup ((lets (addN R (.tail s1)) (sb m (.inp xs tl))).map kV)) := by
            rw [esb, lets_else _ rfl rfl, (u5.tr u6) _ _ g6']
            simp only [parts, tails, List.map_append, List.map_cons, List.map_nil]
            rw [List.map_congr_left (f := fun q => V.int ((ix (addN R (.tail s1)) q : Nat) : Int)) (g := fun q => V.int ((ix R q : Nat) : Int)) fun q hq => by rw [hin2 q hq]]
            simp
            rfl
          have cp : ∀ x ∈ parts (sb m (.inp xs tl)), inR (addN R (.tail s1)) x := by
            rw [esb]
            intro x hx
            simp only [parts, tails, List.mem_append, List.mem_singleton] at hx
            rcases hx with hx | rfl
            · exact addN_cl (hin x hx)
            · exact addN_in _ _
          refine r_setN rfl rfl ((ndb.up u6').up (u5.tr u6)) (ob.res rfl) cp gl (by omega) fun H7 m7 n7 => ?_
          obtain ⟨kv0, hk0, _⟩ := (ndb.up u6').up (u5.tr u6)
          have k67 := m7.tkT hk0
          walk_at "rd"
          refine ⟨lf, _, rfl, Or.inl ⟨SqL.of (m7 _ _ hlfd ((u5.tr u6) _ _ (u6' _ _ hlf5))), fun p8 np8 => ?_⟩⟩
          have u8 : Up H7 (upd H7 p8 (.tup ((gis m (parts (.inp xs tl))).map fun q => V.int ((ix R q : Nat) : Int)))) := Up.new np8
          have g8 : upd H7 p8 (.tup ((gis m (parts (.inp xs tl))).map fun q => V.int ((ix R q : Nat) : Int))) p8 = some (.tup ((gis m (parts (.inp xs tl))).map fun q => V.int ((ix R q : Nat) : Int))) := upd_same
          generalize upd H7 p8 (.tup ((gis m (parts (.inp xs tl))).map fun q => V.int ((ix R q : Nat) : Int))) = H8 at u8 g8 ⊢
          walk_at "rd"
          rename_i p9 H9 n9 u9 g9
          have ex1 := Ex.add (addN R (.tail s1)) (sb m (.inp xs tl))
          have ex : Ex R (addN (addN R (.tail s1)) (sb m (.inp xs tl))) := exa.tr ex1
          refine k _ _ H9 (((((u3.tr (u4.tr ua)).mv.tr mb).tr (u6'.tr (u5.tr u6)).mv).tr m7).tr (u8.tr u9).mv) (n7.up (u8.tr u9)) ex (by have := addN_len (addN R (.tail s1)) (sb m (.inp xs tl)); omega) ?_
          rw [show isLf (.inp xs tl) = false from rfl]
          refine NoteAt.mk' g9 ?_ ?_ (addN_in _ _)
          · rw [esb]
            exact .tup ((k67.tr (u8.tr u9).tk) _ _ g6) (.cons (.str _) (.cons (.tup ((k67.tr (u8.tr u9).tk) _ _ (u6 _ _ g5)) (((dli.up u4).tk (k4b.tr u6'.tk)).tk ((u5.tr u6).tk.tr (k67.tr (u8.tr u9).tk)))) (.cons (tlV_da (some s1)) .nil)))
          · rw [show innN (sb m (.inp xs tl)) = gis m (parts (.inp xs tl)) by rw [esb]; rfl]
            exact (IxT.ext (H := H9) (c := p8) (R := R) (xs := gis m (parts (.inp xs tl))) ⟨u9 _ _ g8, hin⟩ ex)
end

section
variable {P : Program} {w : World} {K : PySem.W.Frag} {mg : Str → Option Value} {base : Heap}
def R_makers (T : TX K mg w) : Addr → Sp → Prop := fun f sp => (f = T.f_of_parts ∧ sp = sp_mk isSD) ∨ (f = T.f_of_members ∧ sp = sp_mk isUni) ∨ (f = T.f_opened ∧ sp = sp_mk isLf) ∨ (f = T.f_gathered ∧ sp = sp_mk isRI)
theorem F_makers (T : TX K mg w) : ∀ f sp, R_makers T f sp → ∃ (fd : FuncData) (ps : List Str), PySem.W.keepIn K (.ref f) = true ∧ Binds K fd ps [] ∧ FG P w K mg base CX0 2 f fd ps sp := by
  rintro f sp (⟨rfl, rfl⟩ | ⟨rfl, rfl⟩ | ⟨rfl, rfl⟩ | ⟨rfl, rfl⟩)
  · exact ⟨_, _, T.c_of_parts.kp, T.c_of_parts.bd, (ok_of_parts T).mono (by decide)⟩
  · exact ⟨_, _, T.c_of_members.kp, T.c_of_members.bd, ok_of_members T⟩
  · exact ⟨_, _, T.c_opened.kp, T.c_opened.bd, (ok_opened T).mono (by decide)⟩
  · exact ⟨_, _, T.c_gathered.kp, T.c_gathered.bd, (ok_gathered T).mono (by decide)⟩
theorem ok_noted_part (T : TX K mg w) : FG P w K mg base CX0 3 T.f_noted_part T.d_noted_part ["numbers", "part", "inner", "mapping"] (sp_mk fun _ => true) := by
  have F_makers := F_makers (P := P) (w := w) (base := base) T
  refine Gd.ok T.F_noted_part sc_noted_part (fun vs H Q E h => ?_) (fun cdv A out s H vs Q E hg hr h => ?_)
  · obtain ⟨d, a, mp, v, y, R, m, ns, rfl, _⟩ := h
    rfl
  · obtain ⟨d, a, mp, v, y, R, m, ns, rfl, hc, hd, dv, ha, hns, hmp, ob, hRl, k⟩ := h
    have nd := sc_noted_part.nd
    have hu1 := hu_of hr
    have hr_makers := hr
    refine ⟨_, (pss_cons (ps_set (i := 4) nd rfl (by first | exact Or.inl rfl | exact Or.inr rfl) (pe_ix ix_tup (pv 1) pe_int (fun _ _ => rfl)))
  (pss_cons (ps_if (pt_cmpR (op_inK hu1) (pv 4) (pv 3) rfl) (pss_one (ps_ret (pe_dget hu1 (pv 3) (pv 4) (fun _ _ => rfl)))) pss_nil)
  (pss_cons (ps_if (pt_cmpR (op_inKd T.D_MAKERS) (pv 4) (pe_glob (v := .ref T.o_MAKERS) rfl T.g_MAKERS rfl) rfl) (pss_cons (ps_set (i := 7) nd rfl (by first | exact Or.inl rfl | exact Or.inr rfl) (pe_ix ix_kdict (pe_glob (v := .ref T.o_MAKERS) rfl T.g_MAKERS rfl) (pv 4) (fun _ _ => rfl)))
  (pss_one (ps_ret (pe_gLs (i := 7) (R := R_makers T) F_makers hg hr_makers rfl (by first | exact Or.inl rfl | exact Or.inr rfl) pass0 (pa_cons (pv 0) (pa_cons (pv 1) (pa_cons (pv 2) (pa_cons (pv 3) pa_nil)))))))) pss_nil)
  (pss_cons (ps_set (i := 5) nd rfl (by first | exact Or.inl rfl | exact Or.inr rfl) (pe_tup (pa_cons (pv 4) (StX.pa_star (pe_lc (own := [("note", 8)]) rfl nd (pi_list (pv 2)) (blkOk_by (N := ["numbers", "part", "inner", "mapping", "head", "letters", "number", "maker", "note"]) (sc := defScope s_noted_part) (by decide +kernel)) (fun _ _ _ _ _ => pg_name (i := 8) nd rfl (by first | exact Or.inl rfl | exact Or.inr rfl)) (fun _ _ _ _ _ => pts_nil) (fun _ _ _ _ _ => (pe_ix (ix_tupK (K := K) rfl) (pv 8) pe_int (fun _ _ => rfl)))) pa_nil))))
  (pss_cons (ps_set (i := 6) nd rfl (by first | exact Or.inl rfl | exact Or.inr rfl) (pe_dsetdT hu1 (pv 0) (pv 5) (pe_callB call_len_dT rfl T.z_len PySem.boot_len (pa_cons (pv 0) pa_nil)) ⟨rfl, rfl, rfl, rfl⟩))
  (pss_one (ps_ret (pe_tup (pa_cons (pe_tup (pa_cons (pv 4) (pa_cons (pe_callTy call_tuple_of rfl T.z_tuple (by decide +kernel) (pa_cons (pe_lc (own := [("note", 8)]) rfl nd (pi_list (pv 2)) (blkOk_by (N := ["numbers", "part", "inner", "mapping", "head", "letters", "number", "maker", "note"]) (sc := defScope s_noted_part) (by decide +kernel)) (fun _ _ _ _ _ => pg_name (i := 8) nd rfl (by first | exact Or.inl rfl | exact Or.inr rfl)) (fun _ _ _ _ _ => pts_nil) (fun _ _ _ _ _ => (pe_ix (ix_tupK (K := K) rfl) (pv 8) pe_int (fun _ _ => rfl)))) pa_nil)) pa_nil))) (pa_cons (pv 6) (pa_cons (pe_tup (pa_cons (pv 6) pa_nil)) pa_nil))))))))))), ?_⟩
    obtain ⟨a1, w1, ws, e, ha1, h1, t1⟩ := enc_inv dv
    subst e
    have hmp0 := hmp
    obtain ⟨kvs, hk, hmm⟩ := hmp
    have hmn := hmm (Gd.hd y)
    cases hus : isUse y with
    | false =>
      rw [ob.hn hus] at hmn
      cases y with
      | use n vs => simp [isUse] at hus
      | star n =>
        dsimp only [Gd.hd] at ha1 hmn
        walk_at "rd"
        refine r_inK hk ?_
        rw [hmn]
        refine r_bl (ifF rfl ?_)
        walk_at "rd"
        refine ifT (by decide +kernel) ?_
        walk_at "rd"
        refine r_ixD T.D_MAKERS T.v_MAKERS_3 ?_
        walk_at "rd"
        refine r_gLs (.inr (.inr (.inl ⟨rfl, rfl⟩))) rfl ?_
        walk_at "rd"
        exact ⟨d, a, mp, _, _, R, m, ns, rfl, rfl, hd, dv, ha, hns, hmp0, ob, hRl, k⟩
      | tail n =>
        dsimp only [Gd.hd] at ha1 hmn
        walk_at "rd"
        refine r_inK hk ?_
        rw [hmn]
        refine r_bl (ifF rfl ?_)
        walk_at "rd"
        refine ifT (by decide +kernel) ?_
        walk_at "rd"
        refine r_ixD T.D_MAKERS T.v_MAKERS_4 ?_
        walk_at "rd"
        refine r_gLs (.inr (.inr (.inl ⟨rfl, rfl⟩))) rfl ?_
        walk_at "rd"
        exact ⟨d, a, mp, _, _, R, m, ns, rfl, rfl, hd, dv, ha, hns, hmp0, ob, hRl, k⟩
      | row xs =>
        dsimp only [Gd.hd] at ha1 hmn
        walk_at "rd"
        refine r_inK hk ?_
        rw [hmn]
        refine r_bl (ifF rfl ?_)
        walk_at "rd"
        refine ifT (by decide +kernel) ?_
        walk_at "rd"
        refine r_ixD T.D_MAKERS T.v_MAKERS_1 ?_
        walk_at "rd"
        refine r_gLs (.inr (.inr (.inr ⟨rfl, rfl⟩))) rfl ?_
        walk_at "rd"
        exact ⟨d, a, mp, _, _, R, m, ns, rfl, rfl, hd, dv, ha, hns, hmp0, ob, hRl, k⟩
      | inp xs t =>
        dsimp only [Gd.hd] at ha1 hmn
        walk_at "rd"
        refine r_inK hk ?_
        rw [hmn]
        refine r_bl (ifF rfl ?_)
        walk_at "rd"
        refine ifT (by decide +kernel) ?_
        walk_at "rd"
        refine r_ixD T.D_MAKERS T.v_MAKERS_2 ?_
        walk_at "rd"
        refine r_gLs (.inr (.inr (.inr ⟨rfl, rfl⟩))) rfl ?_
        walk_at "rd"
        exact ⟨d, a, mp, _, _, R, m, ns, rfl, rfl, hd, dv, ha, hns, hmp0, ob, hRl, k⟩
      | dots t =>
        dsimp only [Gd.hd] at ha1 hmn
        walk_at "rd"
        refine r_inK hk ?_
        rw [hmn]
        refine r_bl (ifF rfl ?_)
        walk_at "rd"
        refine ifT (by decide +kernel) ?_
        walk_at "rd"
        refine r_ixD T.D_MAKERS T.v_MAKERS_6 ?_
        walk_at "rd"
        refine r_gLs (.inl ⟨rfl, rfl⟩) rfl ?_
        walk_at "rd"
        exact ⟨d, a, mp, _, _, R, m, ns, rfl, rfl, hd, dv, ha, hns, hmp0, ob, hRl, k⟩
      | uni ms =>
        dsimp only [Gd.hd] at ha1 hmn
        walk_at "rd"
        refine r_inK hk ?_
        rw [hmn]
        refine r_bl (ifF rfl ?_)
        walk_at "rd"
        refine ifT (by decide +kernel) ?_
        walk_at "rd"
        refine r_ixD T.D_MAKERS T.v_MAKERS_0 ?_
        walk_at "rd"
        refine r_gLs (.inr (.inl ⟨rfl, rfl⟩)) rfl ?_
        walk_at "rd"
        exact ⟨d, a, mp, _, _, R, m, ns, rfl, rfl, hd, dv, ha, hns, hmp0, ob, hRl, k⟩
      | sig i r =>
        dsimp only [Gd.hd] at ha1 hmn
        walk_at "rd"
        refine r_inK hk ?_
        rw [hmn]
        refine r_bl (ifF rfl ?_)
        walk_at "rd"
        refine ifT (by decide +kernel) ?_
        walk_at "rd"
        refine r_ixD T.D_MAKERS T.v_MAKERS_5 ?_
        walk_at "rd"
        refine r_gLs (.inl ⟨rfl, rfl⟩) rfl ?_
        walk_at "rd"
        exact ⟨d, a, mp, _, _, R, m, ns, rfl, rfl, hd, dv, ha, hns, hmp0, ob, hRl, k⟩
    | true =>
      obtain ⟨n, vs, rfl⟩ : ∃ n vs, y = .use n vs := by cases y <;> first | (simp [isUse] at hus; done) | exact ⟨_, _, rfl⟩
      dsimp only [Gd.hd] at ha1 hmn
      walk_at "rd"
      refine r_inK hk ?_
      cases hmy : m n with
      | some q =>
        rw [hmy] at hmn
        obtain ⟨v0, ev, nt⟩ := hmn
        rw [ev]
        refine r_bl (ifT rfl ?_)
        have esb : sb m (.use n vs) = q := by simp only [sb, hmy]
        walk_at "rd"
        refine r_dgetN rfl rfl hk ev ?_
        refine k v0 R H Mv.rf hd Ex.rf (by omega) ?_
        rw [esb]
        exact nt
      | none =>
        rw [hmy] at hmn
        rw [hmn]
        refine r_bl (ifF rfl ?_)
        obtain ⟨e1, e2, e3, e4, e5, e6, e7⟩ := good.apart (n := n) ob.ok.hok
        have e8 : decide (n ∈ [("|" : Str), ("[]" : Str), ("()" : Str), ("*" : Str), ("**" : Str), ("->" : Str), ("..." : Str)]) = false := by
          simp only [List.mem_cons, List.not_mem_nil, or_false, decide_eq_false_iff_not, not_or]
          exact ⟨of_decide_eq_false e7, of_decide_eq_false e6, of_decide_eq_false e5, of_decide_eq_false e1, of_decide_eq_false e2, of_decide_eq_false e3, of_decide_eq_false e4⟩
        walk_at "rd"
        refine ifF e8 ?_
        have esb : sb m (.use n vs) = .use n (sbs m vs) := by simp only [sb, hmy]
        have s2 : parts (sb m (.use n vs)) = (parts (.use n vs)).map (sb m) := by rw [esb]; exact sbs_map m vs
        have s3 : Gd.hd (sb m (.use n vs)) = n := by rw [esb]; rfl
        have s4 : isLf (sb m (.use n vs)) = false := by rw [esb]; rfl
        have s5 : isUni (sb m (.use n vs)) = false := by rw [esb]; rfl
        have s6 : isLf (.use n vs) = false := rfl
        have hpl := pl_parts ob.ok (y := .use n vs) rfl
        have ll := parts_len ob.wt
        have cin : ∀ q ∈ parts (.use n vs), inR R (sb m q) := fun q hq => by
          obtain ⟨j, hj⟩ := List.mem_iff_getElem?.mp hq
          obtain ⟨v0, _, nt⟩ := hns.at_ j q hj
          rw [hpl q hq] at nt
          exact nt.inr rfl
        have cp : ∀ x ∈ parts (sb m (.use n vs)), inR R x := fun x hx => by
          rw [s2] at hx
          obtain ⟨q, hq, rfl⟩ := List.mem_map.mp hx
          exact cin q hq
        walk_at "rd"
        refine lc_L ha (by rw [hns.ln]; omega) (fun D i acc H5 => acc = (((parts (.use n vs)).take i).map fun q => V.int ((ix R (sb m q) : Nat) : Int)) ∧ Up H H5) (fun D H5 n5 u5 g5 => ⟨rfl, u5⟩) (fun D i acc H5 r => r.2 _ _ ha) ?_ ?_
        · rintro D i x acc H5 nD hx ⟨rfl, u5⟩ hacc hi hD
          obtain ⟨q, hq⟩ : ∃ q, (parts (.use n vs))[i]? = some q := ⟨_, List.getElem?_eq_getElem (by rw [← hns.ln]; exact (List.getElem?_eq_some_iff.mp hx).1)⟩
          obtain ⟨v0, hv0, nt⟩ := hns.at_ i q hq
          rw [hx] at hv0
          obtain rfl := Option.some.inj hv0
          rw [hpl q (List.mem_of_getElem? hq)] at nt
          obtain ⟨a6, c6, w6, e6, ha6, d6, i6⟩ := nt.f
          subst e6
          have ha6' := u5 _ _ ((Up.rf : Up H H) _ _ ha6)
          have es : (parts (.use n vs)).take (i + 1) = (parts (.use n vs)).take i ++ [q] := by rw [List.take_add_one, hq]; rfl
          walk_at "rd"
          refine LcE.of hD hacc hi fun H6 m6 g6 => ⟨?_, u5.of nD m6⟩
          rw [es, List.map_append]
          rfl
        · rintro D acc H5 nD ⟨rfl, u5⟩ hD
          rw [hns.ln, List.take_length] at hD
          walk_at "rd"
          refine ⟨D, _, rfl, Or.inr (SqL.of hD), ?_⟩
          walk_at "rd"
          rename_i b H6 n6 u6 g6
          rw [List.append_nil] at g6
          have u06 : Up H H6 := u5.tr u6
          have gl : H6 b = some (.tup ((lets R (sb m (.use n vs))).map kV)) := by
            rw [lets_else _ s4 s5, s2, s3, List.map_map, g6]
            rfl
          refine r_setN rfl rfl (hd.up u06) (ob.res s6) cp gl (by omega) fun H7 m7 n7 => ?_
          have ex := Ex.add R (sb m (.use n vs))
          obtain ⟨kv0, hk0, _⟩ := hd.up u06
          have k67 := m7.tkT hk0
          have had : a ≠ d := by obtain ⟨_, e, _⟩ := hd; exact ne_of ha e nofun
          have ha7 := m7 _ _ had (u06 _ _ ha)
          have hUTK : Tk H H7 := u06.tk.tr k67
          have ha17 := hUTK _ _ ha1
          walk_at "rd"
          refine lc_L ha7 (by rw [hns.ln]; omega) (fun D i acc H5 => Das H5 acc (encs (((parts (.use n vs)).take i).map (sb m))) ∧ Up H7 H5) (fun D H5 n5 u5 g5 => ⟨.nil, u5⟩) (fun D i acc H5 r => r.2 _ _ ha7) ?_ ?_
          · rintro D i x acc H5 nD hx ⟨da5, u5⟩ hacc hi hD
            obtain ⟨q, hq⟩ : ∃ q, (parts (.use n vs))[i]? = some q := ⟨_, List.getElem?_eq_getElem (by rw [← hns.ln]; exact (List.getElem?_eq_some_iff.mp hx).1)⟩
            obtain ⟨v0, hv0, nt⟩ := hns.at_ i q hq
            rw [hx] at hv0
            obtain rfl := Option.some.inj hv0
            rw [hpl q (List.mem_of_getElem? hq)] at nt
            obtain ⟨a6, c6, w6, e6, ha6, d6, i6⟩ := nt.f
            subst e6
            have ha6' := hUTK _ _ ha6
            have es : (parts (.use n vs)).take (i + 1) = (parts (.use n vs)).take i ++ [q] := by rw [List.take_add_one, hq]; rfl
            have ha6'' := u5 _ _ ha6'
            walk_at "rd"
            refine LcE.of hD hacc hi fun H6 m6 g6 => ⟨?_, u5.of nD m6⟩
            rw [es, List.map_append, encs_app]
            exact (da5.tk (m6.tk hD)).app (.cons ((d6.tk hUTK).tk (u5.tk.tr (m6.tk hD))) .nil)
          · rintro D2 acc2 H8 nD2 ⟨da8, u8⟩ hD2
            rw [hns.ln, List.take_length] at da8
            have la := das_len da8
            rw [List.length_map] at la
            walk_at "rd"
            refine ⟨D2, _, rfl, Or.inl ⟨SqL.of hD2, fun p8 np8 => ?_⟩⟩
            have u9 : Up H8 (upd H8 p8 (.tup acc2)) := Up.new np8
            have g9 : upd H8 p8 (.tup acc2) p8 = some (.tup acc2) := upd_same
            generalize upd H8 p8 (.tup acc2) = H9 at u9 g9 ⊢
            walk_at "rd"
            rename_i b10 H10 n10 u10 g10 b11 H11 n11 u11 g11 b12 H12 n12 u12 g12
            have u8C : Up H8 H12 := u9.tr (u10.tr (u11.tr u12))
            refine k _ _ H12 ((u06.mv.tr m7).tr (u8.tr u8C).mv) (n7.up (u8.tr u8C)) ex (Nat.le_trans (addN_len _ _) (by omega)) ?_
            rw [s6]
            refine NoteAt.mk' g12 ?_ ?_ (addN_in _ _)
            · have e9 : enc (sb m (.use n vs)) = .tuple [.str n, .tuple (encs ((parts (.use n vs)).map (sb m)))] := by rw [esb, sbs_map]; rfl
              rw [e9]
              exact .tup ((u11.tr u12) _ _ g10) (.cons (.str _) (.cons (.tup ((u10.tr (u11.tr u12)) _ _ g9) (da8.up u8C)) .nil))
            · rw [show innN (sb m (.use n vs)) = [sb m (.use n vs)] by rw [esb]; rfl]
              exact IxT.one (u12 _ _ g11) (addN_in _ _)
end

section
variable {P : Program} {w : World} {K : PySem.W.Frag} {mg : Str → Option Value} {base : Heap}
def sp_noted : Sp := fun vs H Q _ => ∃ (d t mp : Addr) (p : Gd.P) (L R : List Gd.P) (m : Mp), vs = [.ref d, .ref t, .ref mp] ∧ NumD H d R ∧ AtLay H t p L ∧ MapAt H mp R m ∧ (∀ q ∈ pre p, okB m q) ∧ R.length ≤ 600000 ∧
  ∀ (v : V) (R' : List Gd.P) (H' : Hp), Mv d H H' → NumD H' d R' → Ex R R' → R'.length ≤ R.length + 2 * (pre p).length → NoteAt H' v R' (sb m p) (isLf p) → Q v H'
theorem ok_noted (T : TX K mg w) : FG P w K mg base CX0 4 T.f_noted T.d_noted ["numbers", "layout", "mapping"] sp_noted := by
  have G_noted_part := ok_noted_part (P := P) (w := w) (base := base) T
  refine Gd.ok T.F_noted sc_noted (fun vs H Q E h => ?_) (fun cdv A out s H vs Q E hg hr h => ?_)
  · obtain ⟨d, t, mp, p, L, R, m, rfl, _⟩ := h
    rfl
  · obtain ⟨d, t, mp, p, L, R, m, rfl, hd, ⟨l, q, ws, S, ht, hf, hw3, df, lay⟩, hmp, hok, hR, k⟩ := h
    have nd := sc_noted.nd
    have hr_noted_part := hr
    refine ⟨_, (pss_cons (ps_asg (pv 1) (pg_tup rfl (pgs_cons (pg_name (i := 5) nd rfl (by first | exact Or.inl rfl | exact Or.inr rfl)) (pgs_cons (pg_name (i := 6) nd rfl (by first | exact Or.inl rfl | exact Or.inr rfl)) pgs_nil))))
  (pss_cons (ps_set (i := 3) nd rfl (by first | exact Or.inl rfl | exact Or.inr rfl) (pe_op op_rep (pe_lst (pa_cons pe_non pa_nil)) (pe_callB call_len_seq rfl T.z_len PySem.boot_len (pa_cons (pv 5) pa_nil))))
  (pss_cons (ps_for PassesOwn.never rfl (pi_revR rfl T.z_reversed rfl T.z_range (pa_cons (pe_callB call_len_seq rfl T.z_len PySem.boot_len (pa_cons (pv 5) pa_nil)) pa_nil)) (pg_name (i := 4) nd rfl (by first | exact Or.inl rfl | exact Or.inr rfl)) (pss_one (ps_asg (pe_g T.c_noted_part G_noted_part hg hr_noted_part rfl pass0 (pa_cons (pv 0) (pa_cons (pe_ix ix_list (pv 5) (pv 4) (fun _ _ => rfl)) (pa_cons (pe_slice sl_list (pv 3) (po_some (pe_ix ix_list (pv 6) (pv 4) (fun _ _ => rfl))) (po_some (pe_ix ix_list (pv 6) (pe_op op_add (pv 4) pe_int) (fun _ _ => rfl)))) (pa_cons (pv 2) pa_nil))))) (pg_sub (pv 3) (pv 4) set_list))))
  (pss_one (ps_ret (pe_ix ix_list (pv 3) pe_int (fun _ _ => rfl))))))), ?_⟩
    have lf := df.length
    rw [encs_map, List.length_map] at lf
    have hw := (hok p (self_pre p)).wt
    have hLn : L.length ≤ 90000 := by
      rw [lay.ln]
      exact Nat.le_trans (pre_kw p) hw
    obtain ⟨kvs0, hd0, n0⟩ := hd
    have hmpd : mp ≠ d := by obtain ⟨_, e, _⟩ := hmp; exact ne_of e hd0 nofun
    walk_at "rd"
    rename_i e He ne ue ge
    refine ⟨l, _, rfl, Or.inl (SqL.of (ue _ _ hf)), ?_⟩
    walk_at "rd"
    rw [lf]
    refine r_rep1 ge (by omega) fun r Hr nr ur gr => ?_
    walk_at "rd"
    have u3r : Up H Hr := ue.tr ur
    refine r_revR ?_
    walk_at "rd"
    refine ⟨l, _, rfl, Or.inl (SqL.of (u3r _ _ hf)), ?_⟩
    walk_at "rd"
    rw [lf]
    have nrH : H r = none := ue.fr nr
    have hdr : d ≠ r := ne_of_none hd0 nrH
    have hld : l ≠ d := ne_of hf hd0 nofun
    have hqd : q ≠ d := ne_of hw3 hd0 nofun
    refine ⟨by omega, by omega, ?_⟩
    refine for_rangeC (fun i σ H4 => ∃ (rs : List V) (x5 : Option V) (R4 : List Gd.P), σ = [some (.ref d), some (.ref t), some (.ref mp), some (.ref r), x5, some (.ref l), some (.ref q)] ∧ Mv d H H4 ∧ H4 r = some (.lst rs) ∧
        NumD H4 d R4 ∧ Ex R R4 ∧ R4.length ≤ R.length + 2 * i ∧ rs.length = L.length ∧
        ∀ (j : Nat) (y : Gd.P), L.length - i ≤ j → L[j]? = some y → ∃ v, rs[j]? = some v ∧ NoteAt H4 v R4 (sb m y) (isLf y))
      ⟨_, none, R, rfl, u3r.mv, gr, ⟨kvs0, u3r _ _ hd0, n0⟩, Ex.rf, by omega, by simp, fun j y hj hy => by have := (List.getElem?_eq_some_iff.mp hy).1; omega⟩ ?_ ?_
    · rintro i σ H4 hi ⟨rs, x5, R4, rfl, u4, hr4, hn4, ex4, lR4, lr, inv⟩
      rw [Int.toNat_natCast] at hi
      obtain ⟨at', hat⟩ : ∃ at' : Nat, at' + 1 + i = L.length := ⟨L.length - 1 - i, by omega⟩
      have eat : (((L.length : Nat) : Int) - 1 + ((i : Nat) : Int) * (-1)) = ((at' : Nat) : Int) := by omega
      rw [eat]
      have ha : at' < L.length := by omega
      obtain ⟨y, hy⟩ : ∃ y, L[at']? = some y := ⟨_, List.getElem?_eq_getElem ha⟩
      have hyp := lay.hin y (List.mem_of_getElem? hy)
      have hyo := hok y hyp
      obtain ⟨x, hx, dx⟩ := df.get (i := at') (d := enc y) (by rw [encs_map, List.getElem?_map, hy]; rfl)
      obtain ⟨o1, o2⟩ := lay.own hy
      have o4 := LO_next hy
      have o3 := lay.hm at' ha
      have hf4 := u4 _ _ hld hf
      have hq4 := u4 _ _ hqd hw3
      have k4 := u4.tkT hd0
      have dx4 := dx.tk k4
      have hmp4 : MapAt H4 mp R4 m := hmp.go k4 ex4 fun o ho => u4 _ _ hmpd ho
      walk_at "rd"
      refine r_ixL hf4 (atI_nat hx) ?_
      walk_at "rd"
      refine r_ixL hq4 (lay.at' (by omega)) ?_
      refine ⟨_, rfl, ?_⟩
      walk_at "rd"
      refine r_ixL hq4 (lay.at1 (by omega)) ?_
      walk_at "rd"
      refine r_slL hr4 (by omega) (by rw [lr]; exact o2) fun b Hb nb ub gb => ?_
      have nts : Nts Hb ((rs.drop (LO L at')).take (LO L (at' + 1) - LO L at')) R4 m (parts y) := by
        refine ⟨?_, fun j z hz => ?_⟩
        · rw [List.length_take, List.length_drop, lr]
          omega
        · have hj : j < (parts y).length := (List.getElem?_eq_some_iff.mp hz).1
          have hz2 : L[LO L at' + j]? = some z := by
            rw [← o1, List.getElem?_take, if_pos (by omega), List.getElem?_drop] at hz
            exact hz
          obtain ⟨v, hv, nt⟩ := inv _ z (by omega) hz2
          refine ⟨v, ?_, nt.tk ub.tk⟩
          rw [List.getElem?_take, if_pos (by omega), List.getElem?_drop]
          exact hv
      walk_at "rd"
      refine ⟨d, b, mp, x, y, R4, m, _, rfl, rfl, hn4.up ub, dx4.up ub, gb, nts, hmp4.go ub.tk Ex.rf fun o ho => ub _ _ ho, hyo, by omega, fun v' R5 H5 m5 n5 ex5 l5 nt5 => ?_⟩
      walk_at "rd"
      have hrb : Hb r = some (.lst rs) := ub _ _ hr4
      have hr5 := m5 _ _ hdr.symm hrb
      obtain ⟨kvb, hkb, _⟩ := hn4.up ub
      have kb5 := m5.tkT hkb
      refine r_setL hr5 (show ixN rs.length ((at' : Nat) : Int) = some at' from ?_) ?_
      · unfold ixN
        rw [if_pos (by omega)]
        simp only [Int.toNat_natCast]
        rw [if_pos (by omega)]
      · have m6 : Mv r H5 (upd H5 r (.lst (rs.set at' v'))) := Mv.wr
        have g6 : upd H5 r (.lst (rs.set at' v')) r = some (.lst (rs.set at' v')) := upd_same
        generalize upd H5 r (.lst (rs.set at' v')) = H6 at m6 g6 ⊢
        have k56 := m6.tk hr5
        refine ⟨_, _, R5, rfl, ((u4.tr ub.mv).tr m5).of nrH m6, g6, n5.mv hdr m6, ex4.tr ex5, by omega, by rw [List.length_set]; exact lr, fun j z hj hz => ?_⟩
        by_cases c : j = at'
        · subst c
          rw [hy] at hz
          obtain rfl := Option.some.inj hz
          exact ⟨v', by rw [List.getElem?_set_self (by omega)], nt5.tk k56⟩
        · obtain ⟨v, hv, nt⟩ := inv j z (by omega) hz
          exact ⟨v, by rw [List.getElem?_set_ne (by omega)]; exact hv, ((nt.tk (ub.tk.tr (kb5.tr k56))).ext ex5)⟩
    · rintro σ H4 ⟨rs, x5, R4, rfl, u4, hr4, hn4, ex4, lR4, lr, inv⟩
      rw [Int.toNat_natCast] at inv lR4
      obtain ⟨v, hv, nt⟩ := inv 0 p (by omega) lay.fst
      walk_at "rd"
      refine r_ixL hr4 (atI_nat (j := 0) hv) ?_
      exact k v R4 H4 u4 hn4 ex4 (by rw [← lay.ln]; exact lR4) nt
end

section
variable {P : Program} {w : World} {K : PySem.W.Frag} {mg : Str → Option Value} {base : Heap}
def sp_numbered : Sp := fun vs H Q _ => ∃ (d t : Addr) (p : Gd.P) (L R : List Gd.P), vs = [.ref d, .ref t] ∧ NumD H d R ∧ AtLay H t p L ∧ (∀ q ∈ pre p, okN q) ∧ kw (enc p) ≤ 90000 ∧ R.length ≤ 900000 ∧
  ∀ (f : Addr) (H' : Hp), Mv d H H' → NumD H' d (nums R L) → H' f = some (.lst (L.map fun y => V.int ((ix (nums R L) y : Nat) : Int))) → Q (.ref f) H'
theorem ok_numbered (T : TX K mg w) : FG P w K mg base CX0 1 T.f_numbered T.d_numbered ["numbers", "layout"] sp_numbered := by
  refine Gd.ok T.F_numbered sc_numbered (fun vs H Q E h => ?_) (fun cdv A out s H vs Q E hg hr h => ?_)
  · obtain ⟨b, m, p, L, R, rfl, _⟩ := h
    rfl
  · obtain ⟨d, t, p, L, R, rfl, hd, ⟨l, q, ws, S, ht, hf, hw3, df, lay⟩, hok, hw, hR, k⟩ := h
    have nd := sc_numbered.nd
    have hu1 := hu_of hr
    refine ⟨_, (pss_cons (ps_asg (pv 1) (pg_tup rfl (pgs_cons (pg_name (i := 4) nd rfl (by first | exact Or.inl rfl | exact Or.inr rfl)) (pgs_cons (pg_name (i := 5) nd rfl (by first | exact Or.inl rfl | exact Or.inr rfl)) pgs_nil))))
  (pss_cons (ps_set (i := 2) nd rfl (by first | exact Or.inl rfl | exact Or.inr rfl) (pe_op op_rep (pe_lst (pa_cons pe_int pa_nil)) (pe_callB call_len_seq rfl T.z_len PySem.boot_len (pa_cons (pv 4) pa_nil))))
  (pss_cons (ps_for PassesOwn.never rfl (pi_revR rfl T.z_reversed rfl T.z_range (pa_cons (pe_callB call_len_seq rfl T.z_len PySem.boot_len (pa_cons (pv 4) pa_nil)) pa_nil)) (pg_name (i := 3) nd rfl (by first | exact Or.inl rfl | exact Or.inr rfl)) (pss_cons (ps_set (i := 6) nd rfl (by first | exact Or.inl rfl | exact Or.inr rfl) (pe_ix ix_list (pv 4) (pv 3) (fun _ _ => rfl)))
  (pss_cons (ps_if (pt_cmpR op_in_seq (pe_ix ix_tup (pv 6) pe_int (fun _ _ => rfl)) (pe_tup (pa_cons pe_str (pa_cons pe_str pa_nil))) rfl) (pss_one (ps_set (i := 7) nd rfl (by first | exact Or.inl rfl | exact Or.inr rfl) (pv 6))) (pss_one (ps_if (pt_cmpR op_eq (pe_ix ix_tup (pv 6) pe_int (fun _ _ => rfl)) pe_str (nomark _)) (pss_one (ps_set (i := 7) nd rfl (by first | exact Or.inl rfl | exact Or.inr rfl) (pe_tup (pa_cons pe_str (StX.pa_star (pe_callB cr_sortedI rfl T.z_sorted (by decide +kernel) (pa_cons (pe_slice sl_list (pv 2) (po_some (pe_ix ix_list (pv 5) (pv 3) (fun _ _ => rfl))) (po_some (pe_ix ix_list (pv 5) (pe_op op_add (pv 3) pe_int) (fun _ _ => rfl)))) pa_nil)) pa_nil))))) (pss_one (ps_set (i := 7) nd rfl (by first | exact Or.inl rfl | exact Or.inr rfl) (pe_tup (pa_cons (pe_ix ix_tup (pv 6) pe_int (fun _ _ => rfl)) (StX.pa_star (pe_slice sl_list (pv 2) (po_some (pe_ix ix_list (pv 5) (pv 3) (fun _ _ => rfl))) (po_some (pe_ix ix_list (pv 5) (pe_op op_add (pv 3) pe_int) (fun _ _ => rfl)))) pa_nil))))))))
  (pss_one (ps_asg (pe_dsetdT hu1 (pv 0) (pv 7) (pe_callB call_len_dT rfl T.z_len PySem.boot_len (pa_cons (pv 0) pa_nil)) ⟨rfl, rfl, rfl, rfl⟩) (pg_sub (pv 2) (pv 3) set_list))))))
  (pss_one (ps_ret (pv 2)))))), ?_⟩
    have lf := df.length
    rw [encs_map, List.length_map] at lf
    have hLn : L.length ≤ 90000 := by
      rw [lay.ln]
      exact Nat.le_trans (pre_kw p) hw
    obtain ⟨kvs0, hd0, n0⟩ := hd
    walk_at "rd"
    rename_i e He ne ue ge
    refine ⟨l, _, rfl, Or.inl (SqL.of (ue _ _ hf)), ?_⟩
    walk_at "rd"
    rw [lf]
    refine r_rep1 ge (by omega) fun r Hr nr ur gr => ?_
    walk_at "rd"
    have u3r : Up H Hr := ue.tr ur
    refine r_revR ?_
    walk_at "rd"
    refine ⟨l, _, rfl, Or.inl (SqL.of (u3r _ _ hf)), ?_⟩
    walk_at "rd"
    rw [lf]
    have nrH : H r = none := ue.fr nr
    have hlr : l ≠ r := ne_of_none hf nrH
    have hqr : q ≠ r := ne_of_none hw3 nrH
    have hdr : d ≠ r := ne_of_none hd0 nrH
    have hld : l ≠ d := ne_of hf hd0 nofun
    have hqd : q ≠ d := ne_of hw3 hd0 nofun
    refine ⟨by omega, by omega, ?_⟩
    refine for_rangeC (fun i σ H4 => ∃ (rs : List V) (x5 x6 x7 : Option V), σ = [some (.ref d), some (.ref t), some (.ref r), x5, some (.ref l), some (.ref q), x6, x7] ∧ Mv d H H4 ∧ H4 r = some (.lst rs) ∧
        NumD H4 d (nums R (L.drop (L.length - i))) ∧
        rs.length = L.length ∧ rs.drop (L.length - i) = (L.map fun y => V.int ((ix (nums R (L.drop (L.length - i))) y : Nat) : Int)).drop (L.length - i))
      ⟨_, none, none, none, rfl, u3r.mv, gr, ⟨kvs0, u3r _ _ hd0, by rw [Nat.sub_zero, List.drop_length]; exact n0⟩, by simp, by simp⟩ ?_ ?_
    · rintro i σ H4 hi ⟨rs, x5, x6, x7, rfl, u4, hr4, ⟨kvs, hd4, nm⟩, lr, dr⟩
      rw [Int.toNat_natCast] at hi
      obtain ⟨at', hat⟩ : ∃ at' : Nat, at' + 1 + i = L.length := ⟨L.length - 1 - i, by omega⟩
      have eat : (((L.length : Nat) : Int) - 1 + ((i : Nat) : Int) * (-1)) = ((at' : Nat) : Int) := by omega
      rw [eat]
      have ha : at' < L.length := by omega
      obtain ⟨y, hy⟩ : ∃ y, L[at']? = some y := ⟨_, List.getElem?_eq_getElem ha⟩
      have hyp := lay.hin y (List.mem_of_getElem? hy)
      have hyo := hok y hyp
      obtain ⟨x, hx, dx⟩ := df.get (i := at') (d := enc y) (by rw [encs_map, List.getElem?_map, hy]; rfl)
      obtain ⟨o1, o2⟩ := lay.own hy
      have o4 := LO_next hy
      have e0 : L.length - i = at' + 1 := by omega
      have e9 : L.length - (i + 1) = at' := by omega
      rw [e0] at nm
      have hf4 := u4 _ _ hld hf
      have hq4 := u4 _ _ hqd hw3
      have dx4 := dx.tk (u4.tkT hd0)
      have hsub := lay.sub hy
      have cp : ∀ z ∈ parts y, inR (nums R (L.drop (at' + 1))) z := fun z hz => nums_in (hsub z hz)
      have hRl : (nums R (L.drop (at' + 1))).length ≤ 1000000 := by
        have := nums_len (L.drop (at' + 1)) R
        rw [List.length_drop] at this
        omega
      have hsl := lay.slice hat hy dr
      rw [e0] at hsl
      have hdrp : L.drop at' = y :: L.drop (at' + 1) := by
        rw [List.drop_eq_getElem_cons ha, (List.getElem?_eq_some_iff.mp hy).2]
      have enums : nums R (L.drop at') = addN (nums R (L.drop (at' + 1))) y := by rw [hdrp]; rfl
      obtain ⟨a1, w1, ws1, rfl, hy1, hy2, hy3⟩ := enc_inv dx4
      have hixN : ixN rs.length ((at' : Nat) : Int) = some at' := by
        unfold ixN
        rw [if_pos (by omega)]
        simp only [Int.toNat_natCast]
        rw [if_pos (by omega)]
      have dr2 : rs.drop (L.length - i) = (L.map fun y => V.int ((ix (nums R (L.drop at')) y : Nat) : Int)).drop (L.length - i) := by
        rw [dr, e0, ← List.map_drop, ← List.map_drop]
        refine List.map_congr_left fun z hz => ?_
        rw [enums, ix_add (nums_in hz)]
      walk_at "rd"
      refine r_ixL hf4 (atI_nat hx) ?_
      walk_at "rd"
      rename_i p1 H1 n1 u1 g1
      rw [lf_hd y hyo.hok]
      cases hl : isLf y with
      | true =>
        refine ifT rfl ?_
        walk_at "rd"
        obtain ⟨e1, e2, e3⟩ := lf_inv hl
        rw [e1] at hy2
        obtain rfl := hy2.str_inv
        rw [e2] at hy3
        have gb : H1 a1 = some (.tup ((lets (nums R (L.drop (at' + 1))) y).map kV)) := by
          rw [lets_lf _ hl]
          cases hy3
          exact u1 _ _ hy1
        refine r_setN rfl rfl ⟨kvs, u1 _ _ hd4, nm⟩ hyo cp gb hRl fun H6 m6 n6 => ?_
        walk_at "rd"
        have hr6 := m6 _ _ hdr.symm (u1 _ _ hr4)
        refine r_setL hr6 (show ixN rs.length ((at' : Nat) : Int) = some at' from hixN) ?_
        refine ⟨_, _, _, _, rfl, ((u4.tr u1.mv).tr m6).of nrH Mv.wr, upd_same, ?_, by rw [List.length_set]; exact lr, ?_⟩
        · rw [e9, enums]
          exact n6.mv hdr Mv.wr
        · have := Lay.set hat hy lr dr2
          rw [e9] at this ⊢
          rw [enums] at this ⊢
          exact this
      | false =>
        refine ifF rfl ?_
        walk_at "rd"
        rw [uni_hd y hyo.hok]
        cases hu : isUni y with
        | true =>
          refine ifT rfl ?_
          walk_at "rd"
          refine r_ixL (u1 _ _ hq4) (lay.at' (by omega)) ?_
          refine ⟨_, rfl, ?_⟩
          walk_at "rd"
          refine r_ixL (u1 _ _ hq4) (lay.at1 (by omega)) ?_
          walk_at "rd"
          refine r_slL (u1 _ _ hr4) (by omega) (by rw [lr]; exact o2) fun b Hb nb ub gb0 => ?_
          rw [hsl] at gb0
          have e4 : (parts y).map (fun z => V.int ((ix (nums R (L.drop (at' + 1))) z : Nat) : Int)) = ((parts y).map fun z => ((ix (nums R (L.drop (at' + 1))) z : Nat) : Int)).map V.int := by rw [List.map_map]; rfl
          rw [e4] at gb0
          walk_at "rd"
          refine r_sortI gb0 fun c Hc nc uc gc => ?_
          refine ⟨c, _, rfl, Or.inr (SqL.of gc), ?_⟩
          walk_at "rd"
          have hlen : (PySem.W.sortI ((parts y).map fun z => ((ix (nums R (L.drop (at' + 1))) z : Nat) : Int))).length ≤ 90000 := by
            rw [(PySem.W.sortI_perm _).length_eq, List.length_map]
            omega
          refine r_newT (by simp only [List.length_append, List.length_cons, List.length_map, List.length_nil]; omega) fun b2 H5 n5 u5 g5 => ?_
          walk_at "rd"
          have u45 : Up H4 H5 := ((u1.tr ub).tr uc).tr u5
          have gb : H5 b2 = some (.tup ((lets (nums R (L.drop (at' + 1))) y).map kV)) := by
            rw [lets_uni _ hu, g5, List.append_nil]
          refine r_setN rfl rfl ⟨kvs, u45 _ _ hd4, nm⟩ hyo cp gb hRl fun H6 m6 n6 => ?_
          walk_at "rd"
          have hr6 := m6 _ _ hdr.symm (u45 _ _ hr4)
          refine r_setL hr6 (show ixN rs.length ((at' : Nat) : Int) = some at' from hixN) ?_
          refine ⟨_, _, _, _, rfl, ((u4.tr u45.mv).tr m6).of nrH Mv.wr, upd_same, ?_, by rw [List.length_set]; exact lr, ?_⟩
          · rw [e9, enums]
            exact n6.mv hdr Mv.wr
          · have := Lay.set hat hy lr dr2
            rw [e9] at this ⊢
            rw [enums] at this ⊢
            exact this
        | false =>
          refine ifF rfl ?_
          walk_at "rd"
          refine r_ixL (u1 _ _ hq4) (lay.at' (by omega)) ?_
          refine ⟨_, rfl, ?_⟩
          walk_at "rd"
          refine r_ixL (u1 _ _ hq4) (lay.at1 (by omega)) ?_
          walk_at "rd"
          refine r_slL (u1 _ _ hr4) (by omega) (by rw [lr]; exact o2) fun b Hb nb ub gb0 => ?_
          rw [hsl] at gb0
          refine ⟨b, _, rfl, Or.inr (SqL.of gb0), ?_⟩
          walk_at "rd"
          rename_i b2 H5 n5 u5 g5
          have u45 : Up H4 H5 := (u1.tr ub).tr u5
          have gb : H5 b2 = some (.tup ((lets (nums R (L.drop (at' + 1))) y).map kV)) := by
            rw [lets_else _ hl hu, g5, List.append_nil]
          refine r_setN rfl rfl ⟨kvs, u45 _ _ hd4, nm⟩ hyo cp gb hRl fun H6 m6 n6 => ?_
          walk_at "rd"
          have hr6 := m6 _ _ hdr.symm (u45 _ _ hr4)
          refine r_setL hr6 (show ixN rs.length ((at' : Nat) : Int) = some at' from hixN) ?_
          refine ⟨_, _, _, _, rfl, ((u4.tr u45.mv).tr m6).of nrH Mv.wr, upd_same, ?_, by rw [List.length_set]; exact lr, ?_⟩
          · rw [e9, enums]
            exact n6.mv hdr Mv.wr
          · have := Lay.set hat hy lr dr2
            rw [e9] at this ⊢
            rw [enums] at this ⊢
            exact this
    · rintro σ H4 ⟨rs, x5, x6, x7, rfl, u4, hr4, hn4, lr, dr⟩
      rw [Int.toNat_natCast, Nat.sub_self, List.drop_zero, List.drop_zero] at dr
      rw [Int.toNat_natCast, Nat.sub_self, List.drop_zero] at hn4
      walk_at "rd"
      exact k _ _ u4 hn4 (by rw [hr4, dr]; rfl)
end

section
variable {P : Program} {w : World} {K : PySem.W.Frag} {mg : Str → Option Value} {base : Heap}
def sp_equal : Sp := fun vs H Q _ => ∃ (v u : V) (p q : Gd.P), vs = [v, u] ∧ Da H v (enc p) ∧ Da H u (enc q) ∧ (∀ y ∈ pre p, hokV y) ∧ (∀ y ∈ pre q, hokV y) ∧ ∀ (H' : Hp), Up H H' → Q (.bl (decide (kc p = kc q))) H'
theorem ok_equal (T : TX K mg w) : FG P w K mg base CX0 4 T.f_equal T.d_equal ["one", "other"] sp_equal := by
  have G_numbered := ok_numbered (P := P) (w := w) (base := base) T
  have G_laid_out := ok_laid_out (P := P) (w := w) (base := base) T
  refine Gd.ok T.F_equal sc_equal (fun vs H Q E h => ?_) (fun cdv A out s H vs Q E hg hr h => ?_)
  · obtain ⟨b, m, p, q, rfl, _⟩ := h
    rfl
  · obtain ⟨v, u, p, q, rfl, hv, hu, hp, hq, k⟩ := h
    have nd := sc_equal.nd
    have hr_numbered := hr.mono (show 1 ≤ 3 by decide)
    have hr_laid_out := hr.mono (show 2 ≤ 3 by decide)
    have hwp := (hp p (self_pre p)).1.2.2
    have hwq := (hq q (self_pre q)).1.2.2
    refine ⟨_, (pss_cons (ps_set (i := 2) nd rfl (by first | exact Or.inl rfl | exact Or.inr rfl) pe_dnewT)
  (pss_one (ps_ret (pe_cmpR op_eq (pe_ix ix_list (pe_g T.c_numbered G_numbered hg hr_numbered rfl pass0 (pa_cons (pv 2) (pa_cons (pe_g T.c_laid_out G_laid_out hg hr_laid_out rfl pass0 (pa_cons (pv 0) pa_nil)) pa_nil))) pe_int (fun _ _ => rfl)) (pe_ix ix_list (pe_g T.c_numbered G_numbered hg hr_numbered rfl pass0 (pa_cons (pv 2) (pa_cons (pe_g T.c_laid_out G_laid_out hg hr_laid_out rfl pass0 (pa_cons (pv 1) pa_nil)) pa_nil))) pe_int (fun _ _ => rfl)) (nomark _))))), ?_⟩
    walk_at "rd"
    refine r_dnewT fun d H1 n1 u1 g1 => ?_
    walk_at "rd"
    refine ⟨v, p, rfl, hv.up u1, fun y hy => (hp y hy).1.1, hwp, fun t L H2 u2 lay => ?_⟩
    walk_at "rd"
    refine ⟨d, t, p, L, [], rfl, ⟨[], u2 _ _ g1, Nm.nil⟩, lay, fun y hy => (hp y hy).2, hwp, by simp, fun f H3 m3 n3 g3 => ?_⟩
    have hL := lay
    obtain ⟨_, _, _, _, _, _, _, _, lay1⟩ := hL
    walk_at "rd"
    refine r_ixL g3 (v := .int ((ix (nums [] L) p : Nat) : Int)) (by rw [lay1.eL]; exact at0) ?_
    walk_at "rd"
    have hd0 : H2 d = some (.dT []) := u2 _ _ g1
    have u3 : Up H H3 := (u1.tr u2).of n1 m3
    refine ⟨u, q, rfl, hu.up u3, fun y hy => (hq y hy).1.1, hwq, fun t2 M H4 u4 lay2 => ?_⟩
    walk_at "rd"
    have ln1 := nums_len L []
    have lnp := pre_kw p
    have lnl := lay1.ln
    refine ⟨d, t2, q, M, nums [] L, rfl, n3.up u4, lay2, fun y hy => (hq y hy).2, hwq, by simp only [List.length_nil] at ln1; omega, fun f2 H5 m5 n5 g5 => ?_⟩
    have hM := lay2
    obtain ⟨_, _, _, _, _, _, _, _, lay3⟩ := hM
    walk_at "rd"
    refine r_ixL g5 (v := .int ((ix (nums (nums [] L) M) q : Nat) : Int)) (by rw [lay3.eL]; exact at0) ?_
    walk_at "rd"
    have ip : inR (nums [] L) p := nums_in (by rw [lay1.eL]; simp)
    have iq : inR (nums (nums [] L) M) q := nums_in (by rw [lay3.eL]; simp)
    obtain ⟨S, eS⟩ := nums_pre M (nums [] L)
    have e : decide (((ix (nums [] L) p : Nat) : Int) = ((ix (nums (nums [] L) M) q : Nat) : Int)) = decide (kc p = kc q) := by
      have e1 : ix (nums (nums [] L) M) p = ix (nums [] L) p := by rw [eS]; exact ix_app ip
      have ip2 : inR (nums (nums [] L) M) p := by rw [eS]; exact ip.mono
      have := ix_inj ip2 iq
      rw [e1] at this
      by_cases c : kc p = kc q
      · rw [decide_eq_true c]
        have := this.mpr c
        exact decide_eq_true (by omega)
      · rw [decide_eq_false c]
        exact decide_eq_false fun z => c (this.mp (by omega))
    rw [e]
    exact k H5 ((u3.tr u4).of n1 m5)
def sp_lbag (K : PySem.W.Frag) : Sp := fun vs H Q _ => ∃ (a : Addr) (i : Int) (ns : List Int), vs = [.ref a, .int i] ∧ SqL K H a (ns.map V.int) ∧ 0 ≤ i ∧ i ≤ 10 ∧
  ∀ (b : Addr) (H' : Hp), H b = none → Up H H' → Bag H' b → Q (.ref b) H'
theorem ok_lbag (T : TX K mg w) : FG P w K mg base CX0 1 T.f_lbag T.d_lbag ["script", "at"] (sp_lbag K) := by
  refine Gd.ok T.F_lbag sc_lbag (fun vs H Q E h => ?_) (fun cdv A out s H vs Q E hg hr h => ?_)
  · obtain ⟨b, m, ns, rfl, _⟩ := h
    rfl
  · obtain ⟨a, i, ns, rfl, ha, i0, i1, k⟩ := h
    have nd := sc_lbag.nd
    refine ⟨_, (pss_cons (ps_set (i := 2) nd rfl (by first | exact Or.inl rfl | exact Or.inr rfl) (pe_ifExp (pt_cmpR op_lt (pv 1) (pe_callB call_len_seq rfl T.z_len PySem.boot_len (pa_cons (pv 0) pa_nil)) (nomark _)) (pe_ix ix_list (pv 0) (pv 1) (fun _ _ => rfl)) pe_int))
  (pss_cons (ps_set (i := 3) nd rfl (by first | exact Or.inl rfl | exact Or.inr rfl) (pe_callB call_abs rfl T.z_abs (by decide +kernel) (pa_cons (pv 2) pa_nil)))
  (pss_cons (ps_set (i := 4) nd rfl (by first | exact Or.inl rfl | exact Or.inr rfl) (pe_op op_mod (pe_op op_add (pe_op op_add (pe_op op_mul (pe_op op_mod (pv 2) pe_int) pe_int) (pe_op op_mul pe_int (pv 1))) pe_int) pe_int))
  (pss_one (ps_ret (pe_lst (pa_cons (pe_op op_mul (pv 3) (pe_callTy call_int1 rfl T.z_int (by decide +kernel) (pa_cons (pe_cmpR op_ge (pv 3) (pe_op op_pow pe_int pe_int) (nomark _)) pa_nil))) (pa_cons (pv 4) (pa_cons pe_int pa_nil))))))))), ?_⟩
    walk_at "rd"
    refine ⟨a, _, rfl, Or.inl ha, ?_⟩
    walk_at "rd"
    refine ifD (fun c => ?_) (fun c => ?_)
    · obtain ⟨v, e, hv⟩ := atI_ex (xs := ns.map V.int) i0 (by rw [List.length_map] at c ⊢; exact c)
      obtain ⟨n, _, rfl⟩ := List.mem_map.mp hv
      walk_at "rd"
      refine ⟨a, _, i, _, rfl, rfl, ha, e, ?_⟩
      walk_at "rd"
      rename_i b H1 n1 u1 g1
      refine k b H1 n1 u1 ⟨_, _, _, g1, Int.emod_nonneg _ (by decide), ?_⟩
      have := Int.emod_lt_of_pos (n % 2147483647 * 48271 + 9173 * i + 14279) (show (0 : Int) < 2147483647 by decide)
      omega
    · walk_at "rd"
      rename_i b H1 n1 u1 g1
      refine k b H1 n1 u1 ⟨_, _, _, g1, Int.emod_nonneg _ (by decide), ?_⟩
      have := Int.emod_lt_of_pos ((0 : Int) % 2147483647 * 48271 + 9173 * i + 14279) (show (0 : Int) < 2147483647 by decide)
      omega
def abc : Str := ("abcdefghijklmnopqrstuvwxyz" : Str)
theorem abc_eq : abc.cps.toList = (List.range 26).map (· + 97) := by decide +kernel
theorem abc_at {i : Int} (h0 : 0 ≤ i) (h1 : i < 26) : atI abc.cps.toList i = some (i.toNat + 97) := by
  obtain ⟨n, rfl⟩ := Int.eq_ofNat_of_zero_le h0
  refine atI_nat ?_
  rw [abc_eq, List.getElem?_map, List.getElem?_range (by omega)]
  rfl
/-- the n-th name -/
def nmAt (st : List Nat) (f pc : Int) (n : Nat) : Str := ⟨(st ++ [((f + pc * n) % 26).toNat + 97]).toArray⟩
def sp_lnames : Sp := fun vs H Q _ => ∃ (b : Addr) (m : Int), vs = [.ref b, .int m] ∧ Bag H b ∧ 0 ≤ m ∧ m ≤ 26 ∧
  ∀ (p : Addr) (st : List Nat) (f pc : Int) (H' : Hp), H p = none → Mv b H H' → Bag H' b → st.length ≤ 5 → (∀ c ∈ st, 97 ≤ c ∧ c ≤ 122) → 0 ≤ f → f < 26 → pc ∈ [1, 3, 5, 25] →
    H' p = some (.lst ((List.range m.toNat).map fun n => V.str (nmAt st f pc n))) → Q (.ref p) H'
theorem ok_lnames (T : TX K mg w) : FG P w K mg base CX0 2 T.f_lnames T.d_lnames ["bag", "many"] sp_lnames := by
  have G_ltake := ok_ltake (P := P) (w := w) (base := base) T
  refine Gd.ok T.F_lnames sc_lnames (fun vs H Q E h => ?_) (fun cdv A out s H vs Q E hg hr h => ?_)
  · obtain ⟨b, m, rfl, _⟩ := h
    rfl
  · obtain ⟨b, m, rfl, hb, m0, m1, k⟩ := h
    have nd := sc_lnames.nd
    have hr_ltake := hr
    refine ⟨_, (pss_cons (ps_set (i := 2) nd rfl (by first | exact Or.inl rfl | exact Or.inr rfl) pe_str)
  (pss_cons (ps_set (i := 3) nd rfl (by first | exact Or.inl rfl | exact Or.inr rfl) (pe_bm PySem.F.plainAttrs_str PySem.F.slot_str_join PySem.F.type_str_join mt_join pe_str (pa_cons (pe_lc (own := [("turn", 6)]) rfl nd (pi_range1 rfl T.z_range (pa_cons (pe_ix ix_list (pe_lst (pa_cons pe_int (pa_cons pe_int (pa_cons pe_int (pa_cons pe_int (pa_cons pe_int pa_nil)))))) (pe_g T.c_ltake G_ltake hg hr_ltake rfl pass0 (pa_cons (pv 0) (pa_cons pe_int pa_nil))) (fun _ _ => rfl)) pa_nil)) (blkOk_by (N := ["bag", "many", "letters", "stem", "first", "pace", "turn"]) (sc := defScope s_lnames) (by decide +kernel)) (fun _ _ _ _ _ => pg_name (i := 6) nd rfl (by first | exact Or.inl rfl | exact Or.inr rfl)) (fun _ _ _ _ _ => pts_nil) (fun _ _ _ _ _ => (pe_ix ix_str (pv 2) (pe_g T.c_ltake G_ltake hg hr_ltake rfl pass0 (pa_cons (pv 0) (pa_cons pe_int pa_nil))) (fun _ _ => rfl)))) pa_nil)))
  (pss_cons (ps_asg (pe_tup (pa_cons (pe_g T.c_ltake G_ltake hg hr_ltake rfl pass0 (pa_cons (pv 0) (pa_cons pe_int pa_nil))) (pa_cons (pe_ix ix_list (pe_lst (pa_cons pe_int (pa_cons pe_int (pa_cons pe_int (pa_cons pe_int pa_nil))))) (pe_g T.c_ltake G_ltake hg hr_ltake rfl pass0 (pa_cons (pv 0) (pa_cons pe_int pa_nil))) (fun _ _ => rfl)) pa_nil))) (pg_tup rfl (pgs_cons (pg_name (i := 4) nd rfl (by first | exact Or.inl rfl | exact Or.inr rfl)) (pgs_cons (pg_name (i := 5) nd rfl (by first | exact Or.inl rfl | exact Or.inr rfl)) pgs_nil))))
  (pss_one (ps_ret (pe_lc (own := [("turn", 6)]) rfl nd (pi_range1 rfl T.z_range (pa_cons (pv 1) pa_nil)) (blkOk_by (N := ["bag", "many", "letters", "stem", "first", "pace", "turn"]) (sc := defScope s_lnames) (by decide +kernel)) (fun _ _ _ _ _ => pg_name (i := 6) nd rfl (by first | exact Or.inl rfl | exact Or.inr rfl)) (fun _ _ _ _ _ => pts_nil) (fun _ _ _ _ _ => (pe_op op_add_str (pv 3) (pe_ix ix_str (pv 2) (pe_op op_mod (pe_op op_add (pv 4) (pe_op op_mul (pv 5) (pv 6))) pe_int) (fun _ _ => rfl)))))))))), ?_⟩
    walk_at "rd"
    rename_i p1 H1 n1 u1 g1
    refine ⟨b, 5, rfl, hb.up u1, by decide, by decide, fun r H2 r0 r1 m2 b2 => ?_⟩
    obtain ⟨v, e, hv⟩ := atI_ex (xs := [V.int 0, V.int 0, V.int 1, V.int 2, V.int 5]) r0 (by simpa using r1)
    have g2 := m2 _ _ (hb.ne n1) g1
    obtain ⟨j, rfl, j0, j5⟩ : ∃ j, v = V.int j ∧ 0 ≤ j ∧ j ≤ 5 := by
      simp only [List.mem_cons, List.not_mem_nil, or_false] at hv
      rcases hv with rfl | rfl | rfl | rfl | rfl <;> exact ⟨_, rfl, by decide, by decide⟩
    refine r_ixL g2 e ?_
    walk_at "rd"
    have m02 : Mv b H H2 := u1.mv.tr m2
    refine lc_R j0 (by omega) (fun D i acc H3 => ∃ cs : List Nat, acc = cs.map (fun c => V.str ⟨#[c]⟩) ∧ cs.length = i ∧ (∀ c ∈ cs, 97 ≤ c ∧ c ≤ 122) ∧ Mv b H H3 ∧ Bag H3 b) (fun D H3 n3 u3 g3 => ⟨[], rfl, rfl, nofun, m02.tr u3.mv, b2.up u3⟩) ?_ ?_
    · rintro D i acc H3 nD hi ⟨cs, rfl, lc, hc, m3, b3⟩ hacc hi2 hD
      walk_at "rd"
      refine ⟨b, 26, rfl, b3, by decide, by decide, fun r H4 r0 r1 m4 b4 => ?_⟩
      refine r_ixS (by decide +kernel) (abc_at r0 r1) ?_
      have nDb : D ≠ b := b2.ne nD
      refine LcE.of (m4 _ _ nDb hD) hacc hi2 fun H5 m5 g5 => ?_
      refine ⟨cs ++ [r.toNat + 97], by simp, by simp [lc], fun c h => ?_, (m3.tr m4).of (b2.fr m02 nD) m5, b4.mv nDb.symm m5⟩
      rcases List.mem_append.mp h with h | h
      · exact hc c h
      · rw [List.mem_singleton.mp h]
        omega
    · rintro D acc H3 nD ⟨cs, rfl, lc, hc, m3, b3⟩ hD
      walk_at "rd"
      have jl := chars_len cs
      have l0 : ("" : Str).length = 0 := by decide +kernel
      refine ⟨_, _, cs.map fun c => ⟨#[c]⟩, rfl, rfl, Or.inl (SqL.of (by rw [List.map_map]; exact hD)), by rw [jl, l0]; omega, ?_⟩
      rw [chars_join]
      have nDb : D ≠ b := b2.ne nD
      walk_at "rd"
      refine ⟨b, 26, rfl, b3, by decide, by decide, fun f H4 f0 f1 m4 b4 => ?_⟩
      walk_at "rd"
      rename_i p5 H5 n5 u5 g5
      refine ⟨b, 4, rfl, b4.up u5, by decide, by decide, fun r H6 r0 r1 m6 b6 => ?_⟩
      obtain ⟨v, e, hv⟩ := atI_ex (xs := [V.int 1, V.int 3, V.int 5, V.int 25]) r0 (by simpa using r1)
      have g6 := m6 _ _ (b4.ne n5) g5
      obtain ⟨pc, rfl, hpc, p0, p1⟩ : ∃ j : Int, v = V.int j ∧ j ∈ [1, 3, 5, 25] ∧ 0 ≤ j ∧ j ≤ 25 := by
        simp only [List.mem_cons, List.not_mem_nil, or_false] at hv
        rcases hv with rfl | rfl | rfl | rfl <;> exact ⟨_, rfl, by decide, by decide, by decide⟩
      refine r_ixL g6 e ?_
      walk_at "rd"
      rename_i p7 H7 n7 u7 g7
      have m7 : Mv b H H7 := m3.tr (m4.tr (u5.mv.tr (m6.tr u7.mv)))
      have b7 : Bag H7 b := b6.up u7
      refine lc_R m0 (by omega) (fun D i acc H8 => acc = (List.range i).map (fun n => V.str (nmAt cs f pc n)) ∧ Mv b H H8 ∧ Bag H8 b) (fun D H8 n8 u8 g8 => ⟨rfl, m7.tr u8.mv, b7.up u8⟩) ?_ ?_
      · rintro D i acc H8 nD hi ⟨rfl, m8, b8⟩ hacc hi2 hD
        walk_at "rd"
        refine r_ixS (by decide +kernel) (abc_at (Int.emod_nonneg _ (by decide)) (Int.emod_lt_of_pos _ (by decide))) ?_
        refine ⟨_, _, rfl, rfl, Nat.le_trans (show cs.length + 1 ≤ 100 by omega) (by decide), ?_⟩
        have nDb : D ≠ b := b7.ne nD
        refine LcE.of hD hacc hi2 fun H9 m9 g9 => ?_
        refine ⟨?_, m8.of (b7.fr m7 nD) m9, b8.mv nDb.symm m9⟩
        rw [List.range_succ, List.map_append]
        congr 2
        show V.str ⟨cs.toArray ++ #[((f + pc * (0 + (i : Int))) % 26).toNat + 97]⟩ = V.str (nmAt cs f pc i)
        rw [Int.zero_add]
        unfold nmAt
        congr 2
        simp
      · rintro D acc H8 nD ⟨rfl, m8, b8⟩ hD
        exact k D cs f pc H8 (b7.fr m7 nD) m8 b8 (by omega) hc f0 f1 hpc hD
theorem nmAt_good {st : List Nat} {f pc : Int} {n : Nat} (l : st.length ≤ 5) (h : ∀ c ∈ st, 97 ≤ c ∧ c ≤ 122) : good (nmAt st f pc n) := by
  have e : (nmAt st f pc n).cps.toList = st ++ [((f + pc * n) % 26).toNat + 97] := by simp [nmAt]
  have h0 := Int.emod_nonneg (f + pc * n) (show (26 : Int) ≠ 0 by decide)
  have h1 := Int.emod_lt_of_pos (f + pc * n) (show (0 : Int) < 26 by decide)
  refine ⟨by rw [e]; simp, ?_, fun c hc => ?_⟩
  · show (nmAt st f pc n).cps.size ≤ 6
    rw [← Array.length_toList, e, List.length_append, List.length_singleton]
    omega
  · rw [e] at hc
    rcases List.mem_append.mp hc with hc | hc
    · exact h c hc
    · rw [List.mem_singleton.mp hc]
      omega
theorem nmAt_inj {st : List Nat} {f pc : Int} {n m : Nat} (hp : pc ∈ [1, 3, 5, 25]) (hn : n < 26) (hm : m < 26) (h : nmAt st f pc n = nmAt st f pc m) : n = m := by
  have e : st ++ [((f + pc * n) % 26).toNat + 97] = st ++ [((f + pc * m) % 26).toNat + 97] := by
    have := congrArg (fun s : Str => s.cps.toList) h
    simpa [nmAt] using this
  have e2 := List.append_cancel_left e
  have e3 : ((f + pc * n) % 26).toNat + 97 = ((f + pc * m) % 26).toNat + 97 := by simpa using e2
  simp only [List.mem_cons, List.not_mem_nil, or_false] at hp
  rcases hp with rfl | rfl | rfl | rfl <;> omega
/-! the key -/
def sp_lkey (n : Nat) : Sp := fun vs H Q _ => ∃ (v : V) (d : PyData), vs = [v] ∧ Da H v d ∧ d.canLay0 = true ∧ d.depth < n ∧ n ≤ 60 ∧ kq d = true ∧ kw d ≤ 100000 ∧ ∀ (H' : Hp), Up H H' → Q (.str (lk d)) H'
theorem ok_lkey (T : TX K mg w) : ∀ n, FG P w K mg base CX0 n T.f_lkey T.d_lkey ["thing"] (sp_lkey n) := by
  intro n
  induction n with
  | zero =>
    refine ⟨fun vs H Q E h => ?_, fun A out s H as us vs Q E _ _ _ _ _ h => ?_⟩
    · obtain ⟨v, d, _, _, _, h, _⟩ := h
      exact absurd h (Nat.not_lt_zero _)
    · obtain ⟨v, d, _, _, _, h, _⟩ := h
      exact absurd h (Nat.not_lt_zero _)
  | succ n G_lkey =>
  refine Gd.ok T.F_lkey sc_lkey (fun vs H Q E h => ?_) (fun cdv A out s H vs Q E hg hr h => ?_)
  · obtain ⟨b, m, rfl, _⟩ := h
    rfl
  · obtain ⟨v, d, rfl, hv, hc, hd, hn, hq, hw, k⟩ := h
    have nd := sc_lkey.nd
    have hu := hr.units
    have hr_lkey := hr
    have h200 : (A.deeper (envOfC "_law_key" (defScope s_lkey) s.heap.objs.size T.f_lkey cdv)).units + 200 < cLine := by have := hr.un; omega
    refine ⟨_, (pss_cons (ps_if (PW.pt (pw_or (pt_val (pe_callB call_isi rfl T.z_isinstance (by decide +kernel) (pa_cons (pv 0) (pa_cons (pe_bltn (v := .ty "str") rfl T.z_str (by decide +kernel) rfl) pa_nil)))) (pw_or (pt_cmpR op_isN (pv 0) pe_non (nomark _)) (pw_or1 (pt_cmpR (op_eqD hu) (pv 0) (pe_tup pa_nil) (nomark _)))))) (pss_one (ps_ret (pe_callB (call_repr hg h200) rfl T.z_repr (by decide +kernel) (pa_cons (pv 0) pa_nil)))) pss_nil)
  (pss_cons (ps_if (pt_cmpR (op_eqD hu) (pe_ix ix_tup (pv 0) pe_int (fun _ _ => rfl)) pe_str (nomark _)) (pss_one (ps_ret (pe_op op_add_str (pe_op op_add_str pe_str (pe_bm PySem.F.plainAttrs_str PySem.F.slot_str_join PySem.F.type_str_join mt_join pe_str (pa_cons (pe_callB cr_sortedS rfl T.z_sorted (by decide +kernel) (pa_cons (pe_lc (own := [("one", 1)]) rfl nd (pi_tup (pe_ix ix_tup (pv 0) pe_int (fun _ _ => rfl))) (blkOk_by (N := ["thing", "one"]) (sc := defScope s_lkey) (by decide +kernel)) (fun _ _ _ _ _ => pg_name (i := 1) nd rfl (by first | exact Or.inl rfl | exact Or.inr rfl)) (fun _ _ _ _ _ => pts_nil) (fun _ _ _ _ _ => (pe_g T.c_lkey G_lkey hg hr_lkey rfl pass0 (pa_cons (pv 1) pa_nil)))) pa_nil)) pa_nil))) pe_str))) pss_nil)
  (pss_one (ps_ret (pe_op op_add_str (pe_op op_add_str pe_str (pe_bm PySem.F.plainAttrs_str PySem.F.slot_str_join PySem.F.type_str_join mt_join pe_str (pa_cons (pe_lc (own := [("one", 1)]) rfl nd (pi_tup (pv 0)) (blkOk_by (N := ["thing", "one"]) (sc := defScope s_lkey) (by decide +kernel)) (fun _ _ _ _ _ => pg_name (i := 1) nd rfl (by first | exact Or.inl rfl | exact Or.inr rfl)) (fun _ _ _ _ _ => pts_nil) (fun _ _ _ _ _ => (pe_g T.c_lkey G_lkey hg hr_lkey rfl pass0 (pa_cons (pv 1) pa_nil)))) pa_nil))) pe_str))))), ?_⟩
    walk_at "rd"
    cases d with
    | str x =>
      obtain rfl := hv.str_inv
      refine r_isS ?_
      walk_at "rd"
      have hl := repr_le (x := x) (by simpa [PyData.canLay0] using hc)
      refine ⟨_, .str x, rfl, .str x, rfl, by simp [PyData.depth], ?_, ?_⟩
      · simp only [kw] at hw
        simp only [PyData.shown, sizeLine_eq]
        omega
      · have := k H Up.rf
        simp only [lk] at this
        simp only [PyData.shown]
        exact this
    | none =>
      obtain rfl := hv.non_inv
      refine r_isN ?_
      walk_at "rc"
      refine ⟨_, .none, rfl, .non, rfl, by simp [PyData.depth], by simp only [PyData.shown]; decide +kernel, ?_⟩
      have := k H Up.rf
      simp only [lk] at this
      simp only [PyData.shown]
      exact this
    | tuple ds =>
      obtain ⟨a, xs, rfl, ha, t⟩ := hv.tup_inv
      refine r_isT ha ?_
      walk_at "rc"
      rename_i p1 H1 n1 u1 g1
      rw [depth_tup] at hd
      refine r_eqD (hv.up u1) (.tup g1 .nil) hc (by rw [depth_tup]; omega) rfl (by decide) ?_
      rw [eqv_unit]
      cases ds with
      | nil =>
        walk_at "rc"
        refine ⟨_, .tuple [], rfl, (hv.up u1).dp, rfl, by decide, by rw [shown_unit]; decide +kernel, ?_⟩
        have := k H1 u1
        simp only [lk, lkT] at this
        rw [shown_unit]
        exact this
      | cons d0 dr =>
        cases t with
        | cons t0 tr =>
        rename_i w0 wr
        walk_at "rc"
        have hc' := hc
        rw [canLay_tup] at hc'
        have hq' := hq
        rw [kq_tup, Bool.and_eq_true] at hq'
        rw [kw_tup] at hw
        have c0 := lay_mem hc' (m := d0) List.mem_cons_self
        have z0 := depth_mem (m := d0) (l := d0 :: dr) List.mem_cons_self
        refine r_eqD (t0.up u1) (.str ("|" : Str)) c0 (by omega) (by decide +kernel) (by simp [PyData.depth]) ?_
        rw [eqv_bar]
        have hlk := lk_le _ hc
        rw [kw_tup] at hlk
        cases hb : isBar d0 with
        | true =>
          have hbm : barM dr = true := by
            have := hq'.1
            simpa [kqT, hb] using this
          cases dr with
          | nil => simp [barM] at hbm
          | cons d1 dr2 =>
          cases d1 with
          | tuple ms =>
            have hms : ms.length < 64 := by simpa [barM] using hbm
            cases tr with
            | cons t1 tr2 =>
            obtain ⟨b, ys, rfl, hbt, ty⟩ := t1.tup_inv
            have ly := ty.length
            have cm : PyData.canLayAll0 ms = true := by
              have := lay_mem hc' (m := .tuple ms) (by simp)
              rwa [canLay_tup] at this
            have zm := depth_mem (m := .tuple ms) (l := d0 :: .tuple ms :: dr2) (by simp)
            rw [depth_tup] at zm
            have qm : kqs ms = true := by
              have := kq_mem hq'.2 (m := .tuple ms) (by simp)
              rw [kq_tup, Bool.and_eq_true] at this
              exact this.2
            have wm0 := kw_mem (m := .tuple ms) (l := d0 :: .tuple ms :: dr2) (by simp)
            rw [kw_tup] at wm0
            walk_at "rc"
            refine lc_T (u1 _ _ hbt) (by omega) (fun D i acc H3 => acc = ((ms.take i).map fun m => V.str (lk m)) ∧ Up H H3) (fun D H3 n3 u3 g3 => ⟨rfl, u1.tr u3⟩) (fun D i acc H3 r => r.2 _ _ hbt) ?_ ?_
            · rintro D i y acc H3 nD hy ⟨rfl, u3⟩ hacc hi hD
              obtain ⟨m, hm, dm⟩ := ty.at hy
              have mm : m ∈ ms := List.mem_of_getElem? hm
              walk_at "rd"
              have dp := depth_mem mm
              have wm := kw_mem mm
              refine ⟨y, m, rfl, dm.up u3, lay_mem cm mm, by omega, by omega, kq_mem qm mm, by omega, fun H4 u4 => ?_⟩
              refine LcE.of (u4 _ _ hD) hacc hi fun H5 m5 g5 => ⟨?_, Up.of (u3.tr u4) (u1.fr nD) m5⟩
              rw [List.take_add_one, hm, List.map_append]
              rfl
            · rintro D acc H3 nD ⟨rfl, u3⟩ hD
              rw [ly, List.take_of_length_le (Nat.le_refl _)] at hD
              walk_at "rd"
              refine r_sort (xs := ms.map lk) (by rw [List.map_map]; exact hD) (by rw [List.length_map]; exact hms) fun p4 H4 n4 u4 g4 => ?_
              have l1 := lks_le ms cm
              rw [lks_map] at l1
              have p1 := perm_sum (ssort_perm (ms.map lk))
              have p2 := (ssort_perm (ms.map lk)).length_eq
              rw [List.length_map] at p2
              have a5 : (" " : Str).length = 1 := by decide +kernel
              have jl := join_len (" " : Str) (ssort (ms.map lk))
              have a1 : ("{" : Str).length = 1 := by decide +kernel
              have a2 : ("}" : Str).length = 1 := by decide +kernel
              rw [p1, p2, a5] at jl
              walk_at "rd"
              refine ⟨_, _, _, rfl, rfl, Or.inl (SqL.of g4), by rw [p1, p2, a5]; omega, ?_⟩
              refine ⟨_, _, rfl, rfl, by rw [sizeLine_eq, a1]; omega, ?_⟩
              walk_at "rd"
              refine ⟨_, _, rfl, rfl, by rw [sizeLine_eq, app_len, a1, a2]; omega, ?_⟩
              have := k H4 (u3.tr u4)
              simp only [lk, lkT, hb, if_true, lkM, lks_map] at this
              exact this
          | _ => simp [barM] at hbm
        | false =>
          walk_at "rc"
          have ly := (Das.cons t0 tr).length
          have l1 := lks_le _ hc'
          rw [lks_map] at l1
          refine lc_T (xs := w0 :: wr) (u1 _ _ ha) (by omega) (fun D i acc H3 => acc = (((d0 :: dr).take i).map fun m => V.str (lk m)) ∧ Up H H3) (fun D H3 n3 u3 g3 => ⟨rfl, u1.tr u3⟩) (fun D i acc H3 r => r.2 _ _ ha) ?_ ?_
          · rintro D i y acc H3 nD hy ⟨rfl, u3⟩ hacc hi hD
            obtain ⟨m, hm, dm⟩ := (Das.cons t0 tr).at hy
            have mm : m ∈ d0 :: dr := List.mem_of_getElem? hm
            walk_at "rd"
            have dp := depth_mem mm
            have wm := kw_mem mm
            refine ⟨y, m, rfl, dm.up u3, lay_mem hc' mm, by omega, by omega, kq_mem hq'.2 mm, by omega, fun H4 u4 => ?_⟩
            refine LcE.of (u4 _ _ hD) hacc hi fun H5 m5 g5 => ⟨?_, Up.of (u3.tr u4) (u1.fr nD) m5⟩
            rw [List.take_add_one, hm, List.map_append]
            rfl
          · rintro D acc H3 nD ⟨rfl, u3⟩ hD
            rw [ly, List.take_of_length_le (Nat.le_refl _)] at hD
            have a5 : (" " : Str).length = 1 := by decide +kernel
            have a1 : ("(" : Str).length = 1 := by decide +kernel
            have a2 : (")" : Str).length = 1 := by decide +kernel
            have jl := join_len (" " : Str) ((d0 :: dr).map lk)
            rw [a5, List.length_map] at jl
            walk_at "rd"
            refine ⟨_, _, (d0 :: dr).map lk, rfl, rfl, Or.inl (SqL.of (by rw [List.map_map]; exact hD)), by rw [a5, List.length_map]; omega, ?_⟩
            refine ⟨_, _, rfl, rfl, by rw [sizeLine_eq, a1]; omega, ?_⟩
            walk_at "rd"
            refine ⟨_, _, rfl, rfl, by rw [sizeLine_eq, app_len, a1, a2]; omega, ?_⟩
            have := k H3 u3
            simp only [lk, lkT, hb, lks_map] at this
            exact this
    | _ => cases hv
end

section
variable {P : Program} {w : World} {K : PySem.W.Frag} {mg : Str → Option Value} {base : Heap}
def sp_ljoined : Sp := fun vs H Q _ => ∃ (a : Addr) (xs : List V) (ps : List Gd.P), vs = [.ref a] ∧ (H a = some (.lst xs) ∨ H a = some (.tup xs)) ∧ Das H xs (encs ps) ∧ (∀ p ∈ ps, Ok 40 90000 p ∧ hok p ∧ memb p ≠ []) ∧ ps ≠ [] ∧ (ps.flatMap memb).length ≤ 1000 ∧
  ∀ (v : V) (H' : Hp), Up H H' → Da H' v (enc (ljoin ps)) → Q v H'
theorem foundP_ne {ps : List Gd.P} (h : ∀ p ∈ ps, memb p ≠ []) (hn : ps ≠ []) : 1 ≤ (foundP ps).length := by
  cases ps with
  | nil => exact absurd rfl hn
  | cons p r =>
    unfold foundP
    have hp := h p List.mem_cons_self
    rw [List.flatMap_cons, List.foldl_append]
    cases hm : memb p with
    | nil => exact absurd hm hp
    | cons m ms =>
      have e : addP [] m = [m] := by simp [addP]
      rw [List.foldl_cons, e]
      have h1 := fold_ge ms [m]
      have h2 := fold_ge (r.flatMap memb) (ms.foldl addP [m])
      simp only [List.length_singleton] at h1
      omega
/-- the inner loop -/
theorem inner {K : PySem.W.Frag} {H H3 H4 : Hp} {D : Ends} {a f q c : Addr} {n : Nat} {E : XK} {x4 : Option V} {x1 : V} {ys fs : List V} {acc ms : List Gd.P} (hn : n = 41)
    (gc : H4 c = some (.tup ys)) (dc : Das H4 ys (encs ms)) (u : Up H H3) (u4 : Up H3 H4) (nf : H f = none) (nq : H q = none) (hfq : f ≠ q) (hf : H3 f = some (.lst fs)) (df : Das H3 fs (encs acc)) (hq : H3 q = some (.lst ((acc.map lkP).map V.str)))
    (hok : ∀ m ∈ ms, Ok 40 90000 m) (hl : acc.length + ms.length ≤ 2000)
    (hd : ∀ (x4 : Option V) (fs : List V) (H5 : Hp), Up H H5 → H5 f = some (.lst fs) → Das H5 fs (encs (ms.foldl addP acc)) → H5 q = some (.lst (((ms.foldl addP acc).map lkP).map V.str)) → D.nx [some (.ref a), some x1, some (.ref f), some (.ref q), x4] H5) :
    ∃ a', V.ref c = V.ref a' ∧ (∃ xs, SqT K H4 a' xs) ∧ ∃ W : Nat → Nat → L2.St → Hp → Prop, (∃ m, W 0 m [some (.ref a), some x1, some (.ref f), some (.ref q), x4] H4) ∧ ∀ i m σ H, W i m σ H →
      ((Itt K a').stop i H ∧ D.nx σ H) ∨ ((Itt K a').go i H ∧ ∃ N : L2.St → Hp → Prop, (∀ σ' H', N σ' H' → ∃ m', m' < m ∧ W (i + 1) m' σ' H') ∧ ∀ x H', (Itt K a').yld i H x H' → gName 4 x σ H' fun σ2 H2 =>
        tIfS (tTest (tOp (rIn K true) (fun σ H Q => tCons (tVar 4) tNil σ H fun vs H1 => sp_lkey n vs H1 Q E) (tVar 3)))
          (tSeq (tDrop (tBM K "list" rAppend (tVar 3) (tCons (fun σ H Q => tCons (tVar 4) tNil σ H fun vs H1 => sp_lkey n vs H1 Q E) tNil)))
            (tDrop (tBM K "list" rAppend (tVar 2) (tCons (tVar 4) tNil)))) tNext { D with nx := N, ct := N, bk := D.nx } σ2 H2) := by
  subst hn
  refine ⟨c, rfl, ⟨ys, SqT.of gc⟩, for_tup (K := K) (a := c) (xs := ys) (fun j σ H5 => ∃ (fs : List V) (x4 : Option V), σ = [some (.ref a), some x1, some (.ref f), some (.ref q), x4] ∧ Up H H5 ∧ H5 c = some (.tup ys) ∧ Das H5 ys (encs ms) ∧ H5 f = some (.lst fs) ∧
      Das H5 fs (encs ((ms.take j).foldl addP acc)) ∧ H5 q = some (.lst ((((ms.take j).foldl addP acc).map lkP).map V.str)))
    ⟨fs, x4, rfl, u.tr u4, gc, dc, u4 _ _ hf, df.up u4, u4 _ _ hq⟩ (fun i σ H5 _ ⟨_, _, _, _, h, _⟩ => SqT.of h) ?_ ?_⟩
  · rintro j y σ H5 hy ⟨fs, x4, rfl, u5, hc, dc, hf, df, hq⟩
    obtain ⟨d, he, dy⟩ := dc.at hy
    rw [encs_map, List.getElem?_map] at he
    cases hm : ms[j]? with
    | none => rw [hm] at he; cases he
    | some m =>
    rw [hm] at he
    obtain rfl := Option.some.inj he
    have mm : m ∈ ms := List.mem_of_getElem? hm
    have om := hok m mm
    have htk : ms.take (j + 1) = ms.take j ++ [m] := by rw [List.take_add_one, hm]; rfl
    have hst : (ms.take (j + 1)).foldl addP acc = addP ((ms.take j).foldl addP acc) m := by rw [htk, List.foldl_append]; rfl
    have fl := fold_len (ms.take j) acc
    rw [List.length_take] at fl
    have lf := df.length
    rw [encs_map, List.length_map] at lf
    walk_at "rd"
    refine ⟨y, enc m, rfl, dy, om.lay, Nat.lt_of_le_of_lt om.dep (by decide), by decide, om.bar, Nat.le_trans om.wgt (by decide), fun H6 u6 => ?_⟩
    walk_at "rd"
    refine r_niL (u6 _ _ hq) ?_
    walk_at "rd"
    refine ifN (fun hc1 => ?_) (fun hc1 => ?_)
    · have hq6 := u6 _ _ hq
      walk_at "rd"
      refine r_tyL hq6 ?_
      walk_at "rd"
      refine ⟨y, enc m, rfl, dy.up u6, om.lay, Nat.lt_of_le_of_lt om.dep (by decide), by decide, om.bar, Nat.le_trans om.wgt (by decide), fun H7 u7 => ?_⟩
      walk_at "rd"
      refine r_app (u7 _ _ hq6) (by rw [List.length_map, List.length_map]; omega) fun H8 m8 g8 => ?_
      have k8 := m8.tk (u7 _ _ hq6)
      have hf8 := m8 _ _ hfq (u7 _ _ (u6 _ _ hf))
      have k58 : Tk H5 H8 := (u6.tr u7).tk.tr k8
      walk_at "rd"
      refine r_tyL hf8 ?_
      walk_at "rd"
      refine r_app hf8 (by omega) fun H9 m9 g9 => ?_
      have k59 : Tk H5 H9 := k58.tr (m9.tk hf8)
      have e : addP ((ms.take j).foldl addP acc) m = (ms.take j).foldl addP acc ++ [m] := if_neg hc1
      refine ⟨_, _, rfl, ((u5.tr (u6.tr u7)).of nq m8).of nf m9, k59 _ _ hc, dc.tk k59, g9, ?_, ?_⟩
      · rw [hst, e, encs_app]
        exact (df.tk k59).app (.cons (dy.tk k59) .nil)
      · rw [hst, e, List.map_append, List.map_append]
        exact m9 _ _ hfq.symm g8
    · walk_at "rd"
      have e : addP ((ms.take j).foldl addP acc) m = (ms.take j).foldl addP acc := if_pos hc1
      refine ⟨fs, _, rfl, u5.tr u6, u6 _ _ hc, dc.up u6, u6 _ _ hf, ?_, ?_⟩
      · rw [hst, e]
        exact df.up u6
      · rw [hst, e]
        exact u6 _ _ hq
  · rintro σ H5 ⟨fs, x4, rfl, u5, hc, dc, hf, df, hq⟩
    have ly := dc.length
    rw [encs_map, List.length_map] at ly
    rw [ly, List.take_of_length_le (Nat.le_refl _)] at df hq
    exact hd x4 fs H5 u5 hf df hq
theorem ok_ljoined (T : TX K mg w) : FG P w K mg base CX0 42 T.f_ljoined T.d_ljoined ["terms"] sp_ljoined := by
  have G_lkey := ok_lkey (P := P) (w := w) (base := base) T 41
  refine Gd.ok T.F_ljoined sc_ljoined (fun vs H Q E h => ?_) (fun cdv A out s H vs Q E hg hr h => ?_)
  · obtain ⟨b, m, ps, rfl, _⟩ := h
    rfl
  · obtain ⟨a, xs, ps, rfl, ha, dx, hok, hne, hlen, k⟩ := h
    have nd := sc_ljoined.nd
    have hr_lkey := hr
    refine ⟨_, (pss_cons (ps_par (i := 2) (j := 3) rfl nd rfl rfl (by decide) rfl rfl (pa_cons (pe_lst pa_nil) (pa_cons (pe_lst pa_nil) pa_nil)) rfl)
  (pss_cons (ps_for PassesOwn.never rfl (pi_lt (pv 0)) (pg_name (i := 1) nd rfl (by first | exact Or.inl rfl | exact Or.inr rfl)) (pss_one (ps_for PassesOwn.never rfl (pi_tup (pe_ifExp (pt_cmpR op_eq (pe_ix ix_tup (pv 1) pe_int (fun _ _ => rfl)) pe_str (nomark _)) (pe_ix ix_tup (pv 1) pe_int (fun _ _ => rfl)) (pe_tup (pa_cons (pv 1) pa_nil)))) (pg_name (i := 4) nd rfl (by first | exact Or.inl rfl | exact Or.inr rfl)) (pss_one (ps_if (pt_cmpR op_notIn_seq (pe_g T.c_lkey G_lkey hg hr_lkey rfl pass0 (pa_cons (pv 4) pa_nil)) (pv 3) rfl) (pss_cons (ps_expr (pe_bm PySem.F.plainAttrs_list PySem.F.slot_list_append PySem.F.type_list_append mt_append (pv 3) (pa_cons (pe_g T.c_lkey G_lkey hg hr_lkey rfl pass0 (pa_cons (pv 4) pa_nil)) pa_nil)))
  (pss_one (ps_expr (pe_bm PySem.F.plainAttrs_list PySem.F.slot_list_append PySem.F.type_list_append mt_append (pv 2) (pa_cons (pv 4) pa_nil))))) pss_nil)))))
  (pss_one (ps_ret (pe_ifExp (pt_cmpR op_eq (pe_callB call_len_seq rfl T.z_len PySem.boot_len (pa_cons (pv 2) pa_nil)) pe_int (nomark _)) (pe_ix ix_list (pv 2) pe_int (fun _ _ => rfl)) (pe_tup (pa_cons pe_str (pa_cons (pe_callTy call_tuple_of rfl T.z_tuple (by decide +kernel) (pa_cons (pv 2) pa_nil)) pa_nil)))))))), ?_⟩
    have lx := dx.length
    rw [encs_map, List.length_map] at lx
    walk_at "rd"
    rename_i f H1 n1 u1 g1 q H2 n2 u2 g2
    walk_at "rd"
    have hfq : f ≠ q := ne_of_none g1 n2
    have nf : H f = none := n1
    have nq : H q = none := u1.fr n2
    refine lt_for (a := a) (xs := xs) rfl ha (fun i σ H3 => ∃ (fs : List V) (x1 x4 : Option V), σ = [some (.ref a), x1, some (.ref f), some (.ref q), x4] ∧ Up H H3 ∧ H3 f = some (.lst fs) ∧
        Das H3 fs (encs (((ps.take i).flatMap memb).foldl addP [])) ∧ H3 q = some (.lst (((((ps.take i).flatMap memb).foldl addP []).map lkP).map V.str)))
      ⟨[], none, none, rfl, u1.tr u2, u2 _ _ g1, .nil, g2⟩ (fun i σ H3 ⟨_, _, _, _, u3, _⟩ => u3) ?_ ?_
    · rintro i x σ H3 hx ⟨fs, x1, x4, rfl, u3, hf, df, hq⟩
      obtain ⟨d, hd, dd⟩ := dx.at hx
      rw [encs_map, List.getElem?_map] at hd
      cases hp : ps[i]? with
      | none => rw [hp] at hd; cases hd
      | some p =>
      rw [hp] at hd
      obtain rfl := Option.some.inj hd
      have pm : p ∈ ps := List.mem_of_getElem? hp
      obtain ⟨okp, hkp, mne⟩ := hok p pm
      have htk : ps.take (i + 1) = ps.take i ++ [p] := by rw [List.take_add_one, hp]; rfl
      have hsub : ((ps.take i).flatMap memb).length + (memb p).length ≤ 1000 := by
        have e1 : ((ps.take (i + 1)).flatMap memb).length ≤ (ps.flatMap memb).length := by
          have := congrArg (fun l : List Gd.P => (l.flatMap memb).length) (List.take_append_drop (i + 1) ps)
          simp only [List.flatMap_append, List.length_append] at this
          omega
        rw [htk, List.flatMap_append, List.length_append, List.flatMap_cons, List.flatMap_nil, List.append_nil] at e1
        omega
      have dp3 := dd.up u3
      obtain ⟨ax, w1, ws, rfl, hax, h1, t1⟩ := enc_inv dp3
      walk_at "rd"
      rw [bar_uni p hkp]
      rcases uni_or p with ⟨ms, rfl⟩ | ⟨hn1, hn2⟩
      · obtain ⟨c, ys, rfl, gc, dc⟩ := h1.tup_inv
        have u4 : Up H3 H3 := Up.rf
        have dc : Das H3 ys (encs (memb (.uni ms))) := dc
        refine ifT rfl ?_
        walk_at "rd"
        refine inner rfl gc dc u3 u4 nf nq hfq hf df hq (fun m hm => okp.memb hm) (by
          have fl := fold_len ((ps.take i).flatMap memb) []
          rw [List.length_nil] at fl
          omega) (fun y4 gs H5 u5 hf5 df5 hq5 => ⟨gs, _, y4, rfl, u5, hf5, ?_, ?_⟩)
        · rw [htk, List.flatMap_append, List.foldl_append, List.flatMap_cons, List.flatMap_nil, List.append_nil]
          exact df5
        · rw [htk, List.flatMap_append, List.foldl_append, List.flatMap_cons, List.flatMap_nil, List.append_nil]
          exact hq5
      · refine ifF hn1 ?_
        walk_at "rd"
        rename_i c H4 n4 u4 gc
        have dc : Das H4 [.ref ax] (encs (memb p)) := by
          rw [hn2]
          exact .cons (dp3.up u4) .nil
        refine inner rfl gc dc u3 u4 nf nq hfq hf df hq (fun m hm => okp.memb hm) (by
          have fl := fold_len ((ps.take i).flatMap memb) []
          rw [List.length_nil] at fl
          omega) (fun y4 gs H5 u5 hf5 df5 hq5 => ⟨gs, _, y4, rfl, u5, hf5, ?_, ?_⟩)
        · rw [htk, List.flatMap_append, List.foldl_append, List.flatMap_cons, List.flatMap_nil, List.append_nil]
          exact df5
        · rw [htk, List.flatMap_append, List.foldl_append, List.flatMap_cons, List.flatMap_nil, List.append_nil]
          exact hq5
    · rintro σ H3 ⟨fs, x1, x4, rfl, u3, hf, df, hq⟩
      rw [lx, List.take_of_length_le (Nat.le_refl _)] at df
      have lf := df.length
      rw [encs_map, List.length_map] at lf
      have fl := fold_len (ps.flatMap memb) []
      rw [List.length_nil] at fl
      walk_at "rd"
      refine ⟨f, fs, rfl, Or.inl (SqL.of hf), ?_⟩
      walk_at "rd"
      have hfp : ((ps.flatMap memb).foldl addP []) = foundP ps := rfl
      rw [hfp] at df lf fl
      refine ifD (fun c => ?_) (fun c => ?_)
      · have l1 : (foundP ps).length = 1 := by omega
        obtain ⟨p, hp⟩ := List.length_eq_one_iff.mp l1
        rw [hp] at df
        obtain ⟨v, rfl, dv⟩ := df.one
        walk_at "rd"
        refine k v H3 u3 ?_
        have e : ljoin ps = p := by unfold ljoin; rw [hp]
        rw [e]
        exact dv
      · walk_at "rd"
        refine ⟨f, fs, rfl, Or.inl ⟨SqL.of hf, fun l hl => ?_⟩⟩
        have u4 : Up H3 (upd H3 l (.tup fs)) := Up.new hl
        walk_at "rd"
        rename_i p5 H5 n5 u5 g5
        refine k _ H5 (u3.tr (u4.tr u5)) ?_
        have e : ljoin ps = .uni (foundP ps) := by
          unfold ljoin
          split
          · rename_i p hp
            rw [hp] at lf
            simp only [List.length_singleton] at lf
            exact absurd (by omega) c
          · rfl
        rw [e]
        exact .tup g5 (.cons (.str _) (.cons (.tup (u5 _ _ upd_same) (df.up (u4.tr u5))) .nil))
end

section
variable {P : Program} {w : World} {K : PySem.W.Frag} {mg : Str → Option Value} {base : Heap}
/-- eleven names stand at q -/
structure Nms (H : Hp) (b q : Addr) (ws : List Str) : Prop where
  at_ : H q = some (.lst (ws.map V.str))
  len : ws.length = 11
  ok : ∀ x ∈ ws, good x
  ne : q ≠ b
theorem Nms.mv {H H' : Hp} {b q : Addr} {ws : List Str} (h : Nms H b q ws) (m : Mv b H H') : Nms H' b q ws := ⟨m _ _ h.ne h.at_, h.len, h.ok, h.ne⟩
theorem Nms.up {H H' : Hp} {b q : Addr} {ws : List Str} (h : Nms H b q ws) (m : Up H H') : Nms H' b q ws := h.mv m.mv
theorem Nms.get {H : Hp} {b q : Addr} {ws : List Str} (h : Nms H b q ws) {i : Int} (h0 : 0 ≤ i) (h1 : i < 11) : ∃ x, good x ∧ atI (ws.map V.str) i = some (.str x) := by
  have l := h.len
  obtain ⟨v, e, hv⟩ := atI_ex (xs := ws.map V.str) h0 (by rw [List.length_map]; omega)
  obtain ⟨x, hx, rfl⟩ := List.mem_map.mp hv
  exact ⟨x, h.ok x hx, e⟩
theorem Nms.wr {H H' : Hp} {b q D : Addr} {ws : List Str} (h : Nms H b q ws) (n : q ≠ D) (m : Mv D H H') : Nms H' b q ws := ⟨m _ _ n h.at_, h.len, h.ok, h.ne⟩
/-- what the drawing defs are handed: the bag, the names, how deep (below n) -/
def sp_draw (n : Nat) (G : Nat → Gd.P → Prop) : Sp := fun vs H Q _ => ∃ (b q : Addr) (ws : List Str) (d : Nat), vs = [.ref b, .ref q, .int d] ∧ Bag H b ∧ Nms H b q ws ∧ d < n ∧ d ≤ 3 ∧
  ∀ (v : V) (p : Gd.P) (H' : Hp), Mv b H H' → Bag H' b → Da H' v (enc p) → G d p → Q v H'
abbrev ItG (d : Nat) (p : Gd.P) : Prop := Cd 2 (5 * d + 3) (Wd d + 60) p
abbrev InG (d : Nat) (p : Gd.P) : Prop := Cd 3 (5 * d + 5) (2 * Wd d + 265) p
theorem ok_litem (T : TX K mg w) {n k : Nat} (hk : 1 ≤ k) (G_lterm : FG P w K mg base CX0 k T.f_lterm T.d_lterm ["bag", "names", "deep"] (sp_draw n TmD)) : FG P w K mg base CX0 (k + 1) T.f_litem T.d_litem ["bag", "names", "deep"] (sp_draw n ItG) := by
  have G_ltake := ok_ltake (P := P) (w := w) (base := base) T
  refine Gd.ok T.F_litem sc_litem (fun vs H Q E h => ?_) (fun cdv A out s H vs Q E hg hr h => ?_)
  · obtain ⟨b, m, ws, d, rfl, _⟩ := h
    rfl
  · obtain ⟨b, q, ws, d, rfl, hb, hq, dn, d3, k⟩ := h
    have nd := sc_litem.nd
    have hr_ltake := hr.mono hk
    have hr_lterm := hr
    have wg := Wd_ge d
    refine ⟨_, (pss_cons (ps_set (i := 3) nd rfl (by first | exact Or.inl rfl | exact Or.inr rfl) (pe_g T.c_ltake G_ltake hg hr_ltake rfl pass0 (pa_cons (pv 0) (pa_cons pe_int pa_nil))))
  (pss_cons (ps_if (pt_cmpR op_eq (pv 3) pe_int (nomark _)) (pss_one (ps_ret (pe_tup (pa_cons pe_str (pa_cons (pe_ix ix_list (pv 1) pe_int (fun _ _ => rfl)) pa_nil))))) pss_nil)
  (pss_cons (ps_set (i := 4) nd rfl (by first | exact Or.inl rfl | exact Or.inr rfl) (pe_g T.c_lterm G_lterm hg hr_lterm rfl pass0 (pa_cons (pv 0) (pa_cons (pv 1) (pa_cons (pv 2) pa_nil)))))
  (pss_one (ps_ret (pe_ifExp (pt_cmpR op_eq (pv 3) pe_int (nomark _)) (pe_tup (pa_cons pe_str (pa_cons (pv 4) pa_nil))) (pv 4))))))), ?_⟩
    walk_at "rd"
    refine ⟨b, 5, rfl, hb, by decide, by decide, fun r H1 r0 r1 m1 b1 => ?_⟩
    have q1 := hq.mv m1
    walk_at "rd"
    refine ifD (fun c => ?_) (fun c => ?_)
    · walk_at "rd"
      obtain ⟨x, gx, ex⟩ := q1.get (i := 4) (by decide) (by decide)
      refine r_ixL q1.at_ ex ?_
      walk_at "rd"
      rename_i p2 H2 n2 u2 g2
      exact k _ (.star x) _ (m1.tr u2.mv) (b1.up u2) (.tup g2 (.cons (.str _) (.cons (.str _) .nil))) ((Cd.star gx).mono (by omega) (by omega))
    · walk_at "rd"
      refine ⟨b, q, ws, d, rfl, b1, q1, dn, d3, fun v p H2 m2 b2 d2 t2 => ?_⟩
      walk_at "rd"
      refine ifD (fun c2 => ?_) (fun c2 => ?_)
      · walk_at "rd"
        rename_i p3 H3 n3 u3 g3
        exact k _ (.dots p) _ (m1.tr (m2.tr u3.mv)) (b2.up u3) (.tup g3 (.cons (.str _) (.cons (d2.up u3) .nil))) (t2.cd.dots.mono (by omega) (by omega))
      · walk_at "rd"
        exact k _ p _ (m1.tr m2) b2 d2 ((t2.cd.up (by decide)).mono (by omega) (by omega))
theorem kws_le {n : Nat} : ∀ {l : List Gd.P}, (∀ p ∈ l, kw (enc p) ≤ n) → kws (encs l) ≤ l.length * (n + 5)
  | [], _ => by simp [encs, kws]
  | p :: r, h => by
    have h1 := h p List.mem_cons_self
    have h2 := kws_le (l := r) fun q hq => h q (List.mem_cons_of_mem _ hq)
    simp only [encs, kws, List.length_cons, Nat.add_mul]
    omega
/-- the state of a comprehension that draws -/
def Drawn (H0 : Hp) (b q : Addr) (ws : List Str) (G : Gd.P → Prop) : Addr → Nat → List V → Hp → Prop := fun _ i acc H =>
  ∃ its : List Gd.P, Das H acc (encs its) ∧ its.length = i ∧ (∀ x ∈ its, G x) ∧ Mv b H0 H ∧ Bag H b ∧ Nms H b q ws
theorem Drawn.turn {H0 H H' H1 : Hp} {b q D : Addr} {ws : List Str} {G : Gd.P → Prop} {i : Nat} {acc : List V} {v : V} {p : Gd.P} (h : Drawn H0 b q ws G D i acc H) (hb : Bag H0 b) (hq : Nms H0 b q ws) (nD : H1 D = none) (hb1 : Bag H1 b) (hq1 : Nms H1 b q ws) (m01 : Mv b H0 H1)
    (m : Mv b H H') (b1 : Bag H' b) (dv : Da H' v (enc p)) (g : G p) (hD : H D = some (.lst acc)) (hacc : acc.length ≤ i) (hi : i < 100000) : LcE D (Drawn H0 b q ws G D) i v H' := by
  obtain ⟨its, da, l, hG, m0, bb, qq⟩ := h
  have nDb : D ≠ b := hb1.ne nD
  have nDq : D ≠ q := (ne_of_none hq1.at_ nD).symm
  refine LcE.of (m _ _ nDb hD) hacc hi fun H2 m2 g2 => ?_
  have k1 : Tk H H' := bb.tk m
  have k2 : Tk H' H2 := m2.tk (m _ _ nDb hD)
  refine ⟨its ++ [p], ?_, by rw [List.length_append, l]; rfl, fun x hx => ?_, (m0.tr m).of (hb1.fr m01 nD) m2, b1.mv nDb.symm m2, (qq.mv m).wr nDq.symm m2⟩
  · rw [encs_app]
    exact (da.tk (k1.tr k2)).app (.cons (dv.tk k2) .nil)
  · rcases List.mem_append.mp hx with hx | hx
    · exact hG x hx
    · rw [List.mem_singleton.mp hx]; exact g
theorem ok_linputs (T : TX K mg w) {n k : Nat} (hk : 1 ≤ k) (G_litem : FG P w K mg base CX0 k T.f_litem T.d_litem ["bag", "names", "deep"] (sp_draw n ItG)) : FG P w K mg base CX0 (k + 1) T.f_linputs T.d_linputs ["bag", "names", "deep"] (sp_draw n InG) := by
  have G_ltake := ok_ltake (P := P) (w := w) (base := base) T
  refine Gd.ok T.F_linputs sc_linputs (fun vs H Q E h => ?_) (fun cdv A out s H vs Q E hg hr h => ?_)
  · obtain ⟨b, m, ws, d, rfl, _⟩ := h
    rfl
  · obtain ⟨b, q, ws, d, rfl, hb, hq, dn, d3, k⟩ := h
    have nd := sc_linputs.nd
    have hr_ltake := hr.mono hk
    have hr_litem := hr
    refine ⟨_, (pss_cons (ps_set (i := 3) nd rfl (by first | exact Or.inl rfl | exact Or.inr rfl) (pe_callTy call_tuple_of rfl T.z_tuple (by decide +kernel) (pa_cons (pe_lc (own := [("turn", 4)]) rfl nd (pi_range1 rfl T.z_range (pa_cons (pe_g T.c_ltake G_ltake hg hr_ltake rfl pass0 (pa_cons (pv 0) (pa_cons pe_int pa_nil))) pa_nil)) (blkOk_by (N := ["bag", "names", "deep", "items", "turn"]) (sc := defScope s_linputs) (by decide +kernel)) (fun _ _ _ _ _ => pg_name (i := 4) nd rfl (by first | exact Or.inl rfl | exact Or.inr rfl)) (fun _ _ _ _ _ => pts_nil) (fun _ _ _ _ _ => (pe_g T.c_litem G_litem hg hr_litem rfl pass0 (pa_cons (pv 0) (pa_cons (pv 1) (pa_cons (pv 2) pa_nil)))))) pa_nil)))
  (pss_one (ps_ret (pe_tup (pa_cons pe_str (pa_cons (pv 3) (pa_cons (pe_ix ix_list (pe_lst (pa_cons pe_non (pa_cons pe_str (pa_cons (pe_ix ix_list (pv 1) pe_int (fun _ _ => rfl)) pa_nil)))) (pe_g T.c_ltake G_ltake hg hr_ltake rfl pass0 (pa_cons (pv 0) (pa_cons pe_int pa_nil))) (fun _ _ => rfl)) pa_nil))))))), ?_⟩
    walk_at "rd"
    refine ⟨b, 3, rfl, hb, by decide, by decide, fun r H1 r0 r1 m1 b1 => ?_⟩
    have q1 := hq.mv m1
    walk_at "rd"
    refine lc_R r0 (by omega) (Drawn H b q ws (ItG d)) (fun D H2 n2 u2 g2 => ⟨[], .nil, rfl, nofun, m1.tr u2.mv, b1.up u2, q1.up u2⟩) ?_ ?_
    · rintro D i acc H2 nD hi hR hacc hi2 hD
      walk_at "rd"
      obtain ⟨its, da, l, hG, m2, b2, q2⟩ := id hR
      refine ⟨b, q, ws, d, rfl, b2, q2, dn, d3, fun v p H3 m3 b3 d3 t3 => ?_⟩
      exact hR.turn hb hq nD b1 q1 m1 m3 b3 d3 t3 hD hacc hi2
    · rintro D acc H2 nD ⟨its, da, l, hG, m2, b2, q2⟩ hD
      walk_at "rd"
      refine ⟨D, acc, rfl, Or.inl ⟨SqL.of hD, fun t ht => ?_⟩⟩
      have u3 : Up H2 (upd H2 t (.tup acc)) := Up.new ht
      have g3 : upd H2 t (.tup acc) t = some (.tup acc) := upd_same
      generalize upd H2 t (.tup acc) = H3 at u3 g3 ⊢
      have q3 := q2.up u3
      walk_at "rd"
      obtain ⟨x, gx, ex⟩ := q3.get (i := 5) (by decide) (by decide)
      refine r_ixL q3.at_ ex ?_
      walk_at "rd"
      rename_i p4 H4 n4 u4 g4
      refine ⟨b, 3, rfl, b2.up (u3.tr u4), by decide, by decide, fun r2 H5 r20 r21 m5 b5 => ?_⟩
      have b4 := b2.up (u3.tr u4)
      have g5 := m5 _ _ (b4.ne' n4 u4 (b2.up u3)) g4
      obtain ⟨v, e, hv⟩ := atI_ex (xs := [V.non, V.str ("..." : Str), V.str x]) r20 (by simpa using r21)
      refine r_ixL g5 e ?_
      obtain ⟨tl, htl, dtl⟩ : ∃ tl, tlok tl ∧ ∀ H, Da H v (tlD tl) := by
        simp only [List.mem_cons, List.not_mem_nil, or_false] at hv
        rcases hv with rfl | rfl | rfl
        · exact ⟨none, trivial, fun H => .non⟩
        · exact ⟨some ("..." : Str), Or.inl rfl, fun H => .str _⟩
        · exact ⟨some x, Or.inr gx, fun H => .str _⟩
      walk_at "rd"
      rename_i p6 H6 n6 u6 g6
      have k5 : Tk H2 H6 := (u3.tr u4).tk.tr ((b4.tk m5).tr u6.tk)
      have k36 : Tk H3 H6 := u4.tk.tr ((b4.tk m5).tr u6.tk)
      refine k _ (.inp its tl) _ (m2.tr ((u3.tr u4).mv.tr (m5.tr u6.mv))) (b5.up u6) (.tup g6 (.cons (.str _) (.cons (.tup (k36 _ _ g3) (da.tk k5)) (.cons (dtl _) .nil)))) ?_
      have hk := kws_le (n := Wd d + 60) fun p hp => (hG p hp).wgt
      have hl2 : its.length ≤ 2 := by omega
      have hm := Nat.mul_le_mul_right (Wd d + 60 + 5) hl2
      exact (Cd.inp (dp := 5 * d + 3) (fun v hv => ⟨_, hG v hv⟩) htl (Nat.le_trans hk hm)).mono (by omega) (by omega)
end

section
variable {P : Program} {w : World} {K : PySem.W.Frag} {mg : Str → Option Value} {base : Heap}
theorem Wd_le {d : Nat} (h : d ≤ 3) : Wd d ≤ 8170 := by
  have : d = 0 ∨ d = 1 ∨ d = 2 ∨ d = 3 := by omega
  rcases this with rfl | rfl | rfl | rfl <;> decide
theorem pow_le {d : Nat} (h : d ≤ 3) : 3 ^ d ≤ 27 := by
  have : d = 0 ∨ d = 1 ∨ d = 2 ∨ d = 3 := by omega
  rcases this with rfl | rfl | rfl | rfl <;> decide
theorem flat_len {d : Nat} (h3 : d ≤ 3) : ∀ {ps : List Gd.P}, (∀ p ∈ ps, TmD d p) → (ps.flatMap memb).length ≤ ps.length * 27
  | [], _ => by simp
  | p :: r, h => by
    have h1 := (h p List.mem_cons_self).mem
    have h2 := flat_len h3 (ps := r) fun q hq => h q (List.mem_cons_of_mem _ hq)
    have := pow_le h3
    rw [List.flatMap_cons, List.length_append, List.length_cons, Nat.add_mul]
    omega
theorem one_pow (d : Nat) : 1 ≤ 3 ^ d := Nat.one_le_pow _ _ (by decide)
theorem TmD_use {d s dp : Nat} {n : Str} {vs : List Gd.P} (h : Cd 0 dp s (.use n vs)) (hd : dp ≤ 5 * d + 2) (hs : s ≤ Wd d) : TmD d (.use n vs) := ⟨h.mono hd hs, one_pow d⟩
theorem TmD_sig {d s dp : Nat} {i r : Gd.P} (h : Cd 0 dp s (.sig i r)) (hd : dp ≤ 5 * d + 2) (hs : s ≤ Wd d) : TmD d (.sig i r) := ⟨h.mono hd hs, one_pow d⟩
theorem ok_lterm (T : TX K mg w) : ∀ n, FG P w K mg base CX0 (43 + 3 * n) T.f_lterm T.d_lterm ["bag", "names", "deep"] (sp_draw n TmD) := by
  intro n
  induction n with
  | zero =>
    refine ⟨fun vs H Q E h => ?_, fun A out s H as us vs Q E _ _ _ _ _ h => ?_⟩
    all_goals
      obtain ⟨b, q, ws, d, _, _, _, h, _⟩ := h
      exact absurd h (Nat.not_lt_zero _)
  | succ n G_lterm =>
  have G_ltake := ok_ltake (P := P) (w := w) (base := base) T
  have G_ljoined := ok_ljoined (P := P) (w := w) (base := base) T
  have G_litem := ok_litem T (by omega) G_lterm
  have G_linputs := ok_linputs T (by omega) G_litem
  show FG P w K mg base CX0 (43 + 3 * n + 2 + 1) _ _ _ _
  refine Gd.ok T.F_lterm sc_lterm (fun vs H Q E h => ?_) (fun cdv A out s H vs Q E hg hr h => ?_)
  · obtain ⟨b, m, ws, d, rfl, _⟩ := h
    rfl
  · obtain ⟨b, q, ws, d, rfl, hb, hq, dn, d3, k⟩ := h
    have nd := sc_lterm.nd
    have hr_ltake := hr.mono (show 1 ≤ 43 + 3 * n + 2 by omega)
    have hr_ljoined := hr.mono (show 42 ≤ 43 + 3 * n + 2 by omega)
    have hr_lterm := hr.mono (show 43 + 3 * n ≤ 43 + 3 * n + 2 by omega)
    have hr_litem := hr.mono (show 43 + 3 * n + 1 ≤ 43 + 3 * n + 2 by omega)
    have hr_linputs := hr
    refine ⟨_, (pss_cons (ps_set (i := 3) nd rfl (by first | exact Or.inl rfl | exact Or.inr rfl) (pe_g T.c_ltake G_ltake hg hr_ltake rfl pass0 (pa_cons (pv 0) (pa_cons (pe_ifExp (pt_cmpR op_gt (pv 2) pe_int (nomark _)) pe_int pe_int) pa_nil))))
  (pss_cons (ps_if (pt_cmpR op_lt (pv 3) pe_int (nomark _)) (pss_one (ps_ret (pe_tup (pa_cons (pe_ix ix_list (pv 1) (pv 3) (fun _ _ => rfl)) (pa_cons (pe_tup pa_nil) pa_nil))))) pss_nil)
  (pss_cons (ps_if (PW.pt (pw_or (pt_cmpR op_eq (pv 3) pe_int (nomark _)) (pw_or1 (pt_cmpR op_eq (pv 3) pe_int (nomark _))))) (pss_one (ps_ret (pe_tup (pa_cons (pe_ix ix_list (pv 1) (pe_ix ix_list (pe_lst (pa_cons pe_int (pa_cons pe_int pa_nil))) (pe_op op_sub (pv 3) pe_int) (fun _ _ => rfl)) (fun _ _ => rfl)) (pa_cons (pe_tup (pa_cons (pe_g T.c_lterm G_lterm hg hr_lterm rfl pass0 (pa_cons (pv 0) (pa_cons (pv 1) (pa_cons (pe_op op_sub (pv 2) pe_int) pa_nil)))) pa_nil)) pa_nil))))) pss_nil)
  (pss_cons (ps_if (PW.pt (pw_or (pt_cmpR op_eq (pv 3) pe_int (nomark _)) (pw_or1 (pt_cmpR op_eq (pv 3) pe_int (nomark _))))) (pss_cons (ps_setLc (i := 4) (own := [("turn", 6)]) rfl nd rfl rfl (sw_true rfl rfl rfl (by decide +kernel)) (pi_range1 rfl T.z_range (pa_cons (pe_g T.c_ltake G_ltake hg hr_ltake rfl pass0 (pa_cons (pv 0) (pa_cons pe_int pa_nil))) pa_nil)) (blkOk_by (N := ["bag", "names", "deep", "way", "items", "row", "turn"]) (sc := defScope s_lterm) (by decide +kernel)) (fun _ _ _ _ _ => pg_name (i := 6) nd rfl (by first | exact Or.inl rfl | exact Or.inr rfl)) (fun _ _ _ _ _ => pts_nil) (fun _ _ _ _ _ => (pe_g T.c_litem G_litem hg hr_litem rfl pass0 (pa_cons (pv 0) (pa_cons (pv 1) (pa_cons (pe_op op_sub (pv 2) pe_int) pa_nil))))))
  (pss_cons (ps_set (i := 5) nd rfl (by first | exact Or.inl rfl | exact Or.inr rfl) (pe_tup (pa_cons pe_str (pa_cons (pe_callTy call_tuple_of rfl T.z_tuple (by decide +kernel) (pa_cons (pv 4) pa_nil)) pa_nil))))
  (pss_cons (ps_if (pt_cmpR op_eq (pv 3) pe_int (nomark _)) (pss_one (ps_ret (pe_tup (pa_cons (pe_ix ix_list (pv 1) pe_int (fun _ _ => rfl)) (pa_cons (pe_tup (pa_cons (pv 5) pa_nil)) pa_nil))))) pss_nil)
  (pss_one (ps_ret (pe_tup (pa_cons (pe_ix ix_list (pv 1) pe_int (fun _ _ => rfl)) (pa_cons (pe_tup (pa_cons (pe_g T.c_lterm G_lterm hg hr_lterm rfl pass0 (pa_cons (pv 0) (pa_cons (pv 1) (pa_cons (pe_op op_sub (pv 2) pe_int) pa_nil)))) (pa_cons (pv 5) pa_nil))) pa_nil)))))))) pss_nil)
  (pss_cons (ps_if (pt_cmpR op_eq (pv 3) pe_int (nomark _)) (pss_one (ps_ret (pe_tup (pa_cons (pe_ix ix_list (pv 1) pe_int (fun _ _ => rfl)) (pa_cons (pe_tup (pa_cons (pe_g T.c_linputs G_linputs hg hr_linputs rfl pass0 (pa_cons (pv 0) (pa_cons (pv 1) (pa_cons (pe_op op_sub (pv 2) pe_int) pa_nil)))) (pa_cons (pe_g T.c_lterm G_lterm hg hr_lterm rfl pass0 (pa_cons (pv 0) (pa_cons (pv 1) (pa_cons (pe_op op_sub (pv 2) pe_int) pa_nil)))) pa_nil))) pa_nil))))) pss_nil)
  (pss_cons (ps_if (pt_cmpR op_eq (pv 3) pe_int (nomark _)) (pss_one (ps_ret (pe_tup (pa_cons pe_str (pa_cons (pe_g T.c_linputs G_linputs hg hr_linputs rfl pass0 (pa_cons (pv 0) (pa_cons (pv 1) (pa_cons (pe_op op_sub (pv 2) pe_int) pa_nil)))) (pa_cons (pe_g T.c_lterm G_lterm hg hr_lterm rfl pass0 (pa_cons (pv 0) (pa_cons (pv 1) (pa_cons (pe_op op_sub (pv 2) pe_int) pa_nil)))) pa_nil)))))) pss_nil)
  (pss_one (ps_ret (pe_g T.c_ljoined G_ljoined hg hr_ljoined rfl pass0 (pa_cons (pe_lc (own := [("turn", 6)]) rfl nd (pi_range1 rfl T.z_range (pa_cons (pe_op op_add pe_int (pe_g T.c_ltake G_ltake hg hr_ltake rfl pass0 (pa_cons (pv 0) (pa_cons pe_int pa_nil)))) pa_nil)) (blkOk_by (N := ["bag", "names", "deep", "way", "items", "row", "turn"]) (sc := defScope s_lterm) (by decide +kernel)) (fun _ _ _ _ _ => pg_name (i := 6) nd rfl (by first | exact Or.inl rfl | exact Or.inr rfl)) (fun _ _ _ _ _ => pts_nil) (fun _ _ _ _ _ => (pe_g T.c_lterm G_lterm hg hr_lterm rfl pass0 (pa_cons (pv 0) (pa_cons (pv 1) (pa_cons (pe_op op_sub (pv 2) pe_int) pa_nil)))))) pa_nil)))))))))), ?_⟩
    walk_at "rd"
    have leaf : ∀ (x : Str) (H' : Hp) (v : V), good x → Da H' v (enc (.use x [])) → Mv b H H' → Bag H' b → Q v H' := fun x H' v gx dv m bb =>
      k _ _ _ m bb dv (TmD_use (Cd.use (dp := 0) (s := 0) (.inl rfl) gx nofun (by simp [encs, kws])) (by omega) (by have := Wd_ge d; omega))
    refine ifD (fun c0 => ?_) (fun c0 => ?_)
    rotate_left
    · have hd0 : d = 0 := by omega
      walk_at "rd"
      refine ⟨b, 4, rfl, hb, by decide, by decide, fun r H1 r0 r1 m1 b1 => ?_⟩
      have q1 := hq.mv m1
      walk_at "rd"
      refine ifD (fun c => ?_) (fun c => absurd r1 c)
      walk_at "rd"
      obtain ⟨x, gx, ex⟩ := q1.get r0 (show r < 11 by omega)
      refine r_ixL q1.at_ ex ?_
      walk_at "rd"
      rename_i p2 H2 n2 u2 g2 p3 H3 n3 u3 g3
      exact leaf x _ _ gx (.tup g3 (.cons (.str _) (.cons (.tup (u3 _ _ g2) .nil) .nil))) (m1.tr (u2.tr u3).mv) (b1.up (u2.tr u3))
    · obtain ⟨e, rfl⟩ : ∃ e, d = e + 1 := ⟨d - 1, by omega⟩
      have he : ((e + 1 : Nat) : Int) - 1 = (e : Int) := by omega
      have we := Wd_ge e
      walk_at "rd"
      refine ⟨b, 12, rfl, hb, by decide, by decide, fun r H1 r0 r1 m1 b1 => ?_⟩
      have q1 := hq.mv m1
      walk_at "rd"
      refine ifD (fun c => ?_) (fun c => ?_)
      · walk_at "rd"
        obtain ⟨x, gx, ex⟩ := q1.get r0 (show r < 11 by omega)
        refine r_ixL q1.at_ ex ?_
        walk_at "rd"
        rename_i p2 H2 n2 u2 g2 p3 H3 n3 u3 g3
        exact leaf x _ _ gx (.tup g3 (.cons (.str _) (.cons (.tup (u3 _ _ g2) .nil) .nil))) (m1.tr (u2.tr u3).mv) (b1.up (u2.tr u3))
      · walk_at "rd"
        refine ifD (fun c => ?_) (fun c => ?_)
        · skip
          subst c
          walk_at "rd"
          rename_i p2 H2 n2 u2 g2
          have q2 := q1.up u2
          obtain ⟨x, gx, ex⟩ := q2.get (i := 6) (by decide) (by decide)
          refine r_ixL q2.at_ ex ?_
          walk_at "rd"
          refine ⟨b, q, ws, e, by rw [he], b1.up u2, q2, by omega, by omega, fun v p H3 m3 b3 d3 t3 => ?_⟩
          walk_at "rd"
          rename_i p4 H4 n4 u4 g4 p5 H5 n5 u5 g5
          exact k _ (.use x [p]) _ (m1.tr (u2.mv.tr (m3.tr (u4.tr u5).mv))) (b3.up (u4.tr u5)) (.tup g5 (.cons (.str _) (.cons (.tup (u5 _ _ g4) (.cons (d3.up (u4.tr u5)) .nil)) .nil)))
            (TmD_use (Cd.use (dp := 5 * e + 2) (s := Wd e + 5) (.inl rfl) gx (fun v hv => ⟨Wd e, by rw [List.mem_singleton.mp hv]; exact t3.cd.up (by decide)⟩) (by have := t3.cd.wgt; simp only [encs, kws]; omega)) (by omega) (by simp only [Wd]; omega))
        · walk_at "rd"
          refine ifD (fun c => ?_) (fun c => ?_)
          · skip
            subst c
            walk_at "rd"
            rename_i p2 H2 n2 u2 g2
            have q2 := q1.up u2
            obtain ⟨x, gx, ex⟩ := q2.get (i := 10) (by decide) (by decide)
            refine r_ixL q2.at_ ex ?_
            walk_at "rd"
            refine ⟨b, q, ws, e, by rw [he], b1.up u2, q2, by omega, by omega, fun v p H3 m3 b3 d3 t3 => ?_⟩
            walk_at "rd"
            rename_i p4 H4 n4 u4 g4 p5 H5 n5 u5 g5
            exact k _ (.use x [p]) _ (m1.tr (u2.mv.tr (m3.tr (u4.tr u5).mv))) (b3.up (u4.tr u5)) (.tup g5 (.cons (.str _) (.cons (.tup (u5 _ _ g4) (.cons (d3.up (u4.tr u5)) .nil)) .nil)))
              (TmD_use (Cd.use (dp := 5 * e + 2) (s := Wd e + 5) (.inl rfl) gx (fun v hv => ⟨Wd e, by rw [List.mem_singleton.mp hv]; exact t3.cd.up (by decide)⟩) (by have := t3.cd.wgt; simp only [encs, kws]; omega)) (by omega) (by simp only [Wd]; omega))
          · walk_at "rd"
            refine ifD (fun c => ?_) (fun c => ?_)
            · skip
              subst c
              walk_at "rd"
              refine ⟨b, 3, rfl, b1, by decide, by decide, fun r2 H2 r20 r21 m2 b2 => ?_⟩
              have q2 := q1.mv m2
              have m02 := m1.tr m2
              walk_at "rd"
              refine lc_R r20 (by omega) (Drawn H b q ws (ItG e)) (fun D H3 n3 u3 g3 => ⟨[], .nil, rfl, nofun, m02.tr u3.mv, b2.up u3, q2.up u3⟩) ?_ ?_
              · rintro D i acc H3 nD hi hR hacc hi2 hD
                walk_at "rd"
                obtain ⟨its, da, l, hG, m3, b3, q3⟩ := id hR
                refine ⟨b, q, ws, e, by rw [he], b3, q3, by omega, by omega, fun v p H4 m4 b4 d4 t4 => ?_⟩
                exact hR.turn hb hq nD b2 q2 m02 m4 b4 d4 t4 hD hacc hi2
              · rintro D acc H3 nD ⟨its, da, l, hG, m3, b3, q3⟩ hD
                walk_at "rd"
                refine ⟨D, acc, rfl, Or.inl ⟨SqL.of hD, fun t ht => ?_⟩⟩
                have u4 : Up H3 (upd H3 t (.tup acc)) := Up.new ht
                have g4 : upd H3 t (.tup acc) t = some (.tup acc) := upd_same
                generalize upd H3 t (.tup acc) = H4 at u4 g4 ⊢
                walk_at "rc"
                rename_i p5 H5 n5 u5 g5
                have q5 := q3.up (u4.tr u5)
                have b5 := b3.up (u4.tr u5)
                have hk := kws_le (n := Wd e + 60) fun p hp => (hG p hp).wgt
                have hl2 : its.length ≤ 2 := by omega
                have hm := Nat.mul_le_mul_right (Wd e + 60 + 5) hl2
                have crow : Cd 1 (5 * e + 5) (2 * (Wd e + 65) + 60) (.row its) := (Cd.row (dp := 5 * e + 3) (fun v hv => ⟨_, hG v hv⟩) (Nat.le_trans hk hm)).mono (by omega) (by omega)
                have drow : Da H5 (.ref p5) (enc (.row its)) := .tup g5 (.cons (.str _) (.cons (.tup (u5 _ _ g4) (da.up (u4.tr u5))) .nil))
                obtain ⟨x, gx, ex⟩ := q5.get (i := 9) (by decide) (by decide)
                refine r_ixL q5.at_ ex ?_
                walk_at "rd"
                rename_i p6 H6 n6 u6 g6 p7 H7 n7 u7 g7
                exact k _ (.use x [.row its]) _ (m3.tr (u4.tr (u5.tr (u6.tr u7))).mv) (b5.up (u6.tr u7)) (.tup g7 (.cons (.str _) (.cons (.tup (u7 _ _ g6) (.cons (drow.up (u6.tr u7)) .nil)) .nil)))
                  (TmD_use (Cd.use (dp := 5 * e + 5) (s := 2 * (Wd e + 65) + 65) (.inl rfl) gx (fun v hv => ⟨2 * (Wd e + 65) + 60, by rw [List.mem_singleton.mp hv]; exact crow⟩) (by have := crow.wgt; simp only [encs, kws]; omega)) (by omega) (by simp only [Wd]; omega))
            · walk_at "rd"
              refine ifD (fun c => ?_) (fun c => ?_)
              · skip
                subst c
                walk_at "rd"
                refine ⟨b, 3, rfl, b1, by decide, by decide, fun r2 H2 r20 r21 m2 b2 => ?_⟩
                have q2 := q1.mv m2
                have m02 := m1.tr m2
                walk_at "rd"
                refine lc_R r20 (by omega) (Drawn H b q ws (ItG e)) (fun D H3 n3 u3 g3 => ⟨[], .nil, rfl, nofun, m02.tr u3.mv, b2.up u3, q2.up u3⟩) ?_ ?_
                · rintro D i acc H3 nD hi hR hacc hi2 hD
                  walk_at "rd"
                  obtain ⟨its, da, l, hG, m3, b3, q3⟩ := id hR
                  refine ⟨b, q, ws, e, by rw [he], b3, q3, by omega, by omega, fun v p H4 m4 b4 d4 t4 => ?_⟩
                  exact hR.turn hb hq nD b2 q2 m02 m4 b4 d4 t4 hD hacc hi2
                · rintro D acc H3 nD ⟨its, da, l, hG, m3, b3, q3⟩ hD
                  walk_at "rd"
                  refine ⟨D, acc, rfl, Or.inl ⟨SqL.of hD, fun t ht => ?_⟩⟩
                  have u4 : Up H3 (upd H3 t (.tup acc)) := Up.new ht
                  have g4 : upd H3 t (.tup acc) t = some (.tup acc) := upd_same
                  generalize upd H3 t (.tup acc) = H4 at u4 g4 ⊢
                  walk_at "rc"
                  rename_i p5 H5 n5 u5 g5
                  have q5 := q3.up (u4.tr u5)
                  have b5 := b3.up (u4.tr u5)
                  have hk := kws_le (n := Wd e + 60) fun p hp => (hG p hp).wgt
                  have hl2 : its.length ≤ 2 := by omega
                  have hm := Nat.mul_le_mul_right (Wd e + 60 + 5) hl2
                  have crow : Cd 1 (5 * e + 5) (2 * (Wd e + 65) + 60) (.row its) := (Cd.row (dp := 5 * e + 3) (fun v hv => ⟨_, hG v hv⟩) (Nat.le_trans hk hm)).mono (by omega) (by omega)
                  have drow : Da H5 (.ref p5) (enc (.row its)) := .tup g5 (.cons (.str _) (.cons (.tup (u5 _ _ g4) (da.up (u4.tr u5))) .nil))
                  obtain ⟨x, gx, ex⟩ := q5.get (i := 7) (by decide) (by decide)
                  refine r_ixL q5.at_ ex ?_
                  walk_at "rd"
                  refine ⟨b, q, ws, e, by rw [he], b5, q5, by omega, by omega, fun v p H6 m6 b6 d6 t6 => ?_⟩
                  have drow6 := drow.tk (b5.tk m6)
                  walk_at "rd"
                  rename_i p7 H7 n7 u7 g7 p8 H8 n8 u8 g8
                  exact k _ (.use x [p, .row its]) _ (m3.tr ((u4.tr u5).mv.tr (m6.tr (u7.tr u8).mv))) (b6.up (u7.tr u8)) (.tup g8 (.cons (.str _) (.cons (.tup (u8 _ _ g7) (.cons (d6.up (u7.tr u8)) (.cons (drow6.up (u7.tr u8)) .nil))) .nil)))
                    (TmD_use (Cd.use (dp := 5 * e + 5) (s := 3 * Wd e + 200) (.inl rfl) gx (fun v hv => by
                      rcases List.mem_cons.mp hv with rfl | hv
                      · exact ⟨Wd e, (t6.cd.up (by decide)).mono (by omega) (Nat.le_refl _)⟩
                      · rw [List.mem_singleton.mp hv]; exact ⟨_, crow⟩) (by have := crow.wgt; have := t6.cd.wgt; simp only [encs, kws]; omega)) (by omega) (by simp only [Wd]; omega))
              · walk_at "rd"
                refine ifD (fun c => ?_) (fun c => ?_)
                · skip
                  subst c
                  walk_at "rd"
                  obtain ⟨x, gx, ex⟩ := q1.get (i := 8) (by decide) (by decide)
                  refine r_ixL q1.at_ ex ?_
                  walk_at "rd"
                  refine ⟨b, q, ws, e, by rw [he], b1, q1, by omega, by omega, fun v2 p2 H2 m2 b2 d2 t2 => ?_⟩
                  have q2 := q1.mv m2
                  walk_at "rd"
                  refine ⟨b, q, ws, e, by rw [he], b2, q2, by omega, by omega, fun v p H3 m3 b3 d3 t3 => ?_⟩
                  have d23 := d2.tk (b2.tk m3)
                  walk_at "rd"
                  rename_i p4 H4 n4 u4 g4 p5 H5 n5 u5 g5
                  exact k _ (.use x [p2, p]) _ (m1.tr (m2.tr (m3.tr (u4.tr u5).mv))) (b3.up (u4.tr u5)) (.tup g5 (.cons (.str _) (.cons (.tup (u5 _ _ g4) (.cons (d23.up (u4.tr u5)) (.cons (d3.up (u4.tr u5)) .nil))) .nil)))
                    (TmD_use (Cd.use (dp := 5 * e + 5) (s := 3 * Wd e + 275) (.inl rfl) gx (fun v hv => by
                      rcases List.mem_cons.mp hv with rfl | hv
                      · exact ⟨_, t2.inV⟩
                      · rw [List.mem_singleton.mp hv]; exact ⟨Wd e, (t3.cd.up (by decide)).mono (by omega) (Nat.le_refl _)⟩) (by have := t2.wgt; have := t3.cd.wgt; simp only [encs, kws]; omega)) (by omega) (by simp only [Wd]; omega))
                · skip
                  walk_at "rd"
                  refine ifD (fun c => ?_) (fun c => ?_)
                  · skip
                    subst c
                    walk_at "rd"
                    refine ⟨b, q, ws, e, by rw [he], b1, q1, by omega, by omega, fun v2 p2 H2 m2 b2 d2 t2 => ?_⟩
                    have q2 := q1.mv m2
                    walk_at "rd"
                    refine ⟨b, q, ws, e, by rw [he], b2, q2, by omega, by omega, fun v p H3 m3 b3 d3 t3 => ?_⟩
                    have d23 := d2.tk (b2.tk m3)
                    walk_at "rd"
                    rename_i p4 H4 n4 u4 g4
                    exact k _ (.sig p2 p) _ (m1.tr (m2.tr (m3.tr u4.mv))) (b3.up u4) (.tup g4 (.cons (.str _) (.cons (d23.up u4) (.cons (d3.up u4) .nil))))
                      (TmD_sig (Cd.sig (dp := 5 * e + 5) (.inl rfl) t2 (t3.cd.mono (by omega) (Nat.le_refl _))) (by omega) (by simp only [Wd]; omega))
                  · skip
                    walk_at "rd"
                    refine ⟨b, 2, rfl, b1, by decide, by decide, fun r2 H2 r20 r21 m2 b2 => ?_⟩
                    have q2 := q1.mv m2
                    have m02 := m1.tr m2
                    walk_at "rd"
                    refine lc_R (show 0 ≤ 2 + r2 by omega) (by omega) (Drawn H b q ws (TmD e)) (fun D H3 n3 u3 g3 => ⟨[], .nil, rfl, nofun, m02.tr u3.mv, b2.up u3, q2.up u3⟩) ?_ ?_
                    · rintro D i acc H3 nD hi hR hacc hi2 hD
                      walk_at "rd"
                      obtain ⟨its, da, l, hG, m3, b3, q3⟩ := id hR
                      refine ⟨b, q, ws, e, by rw [he], b3, q3, by omega, by omega, fun v p H4 m4 b4 d4 t4 => ?_⟩
                      exact hR.turn hb hq nD b2 q2 m02 m4 b4 d4 t4 hD hacc hi2
                    · rintro D acc H3 nD ⟨its, da, l, hG, m3, b3, q3⟩ hD
                      walk_at "rd"
                      have l3 : its.length ≤ 3 := by omega
                      have ne : its ≠ [] := by intro z; rw [z] at l; simp only [List.length_nil] at l; omega
                      have wl := Wd_le (show e ≤ 3 by omega)
                      have mne : ∀ p ∈ its, memb p ≠ [] := fun p hp => memb_ne' (hG p hp).cd.is
                      refine ⟨D, acc, its, rfl, Or.inl hD, da, fun p hp => ⟨(hG p hp).cd.ok.mono (by omega) (by omega), isK_hok (hG p hp).cd.is, mne p hp⟩, ne, ?_, fun v H4 u4 d4 => ?_⟩
                      · have := flat_len (show e ≤ 3 by omega) hG
                        omega
                      · exact k _ _ _ (m3.tr u4.mv) (b3.up u4) d4 (ljoin_TmD hG ne l3 (by omega) (foundP_ne mne ne))
end

section
variable {P : Program} {w : World} {K : PySem.W.Frag} {mg : Str → Option Value} {base : Heap}
/-- a part, or a tail -/
inductive Z where
  | pt (p : Gd.P)
  | tl (t : Option Str)
def Z.d : Z → PyData
  | .pt p => enc p
  | .tl t => tlD t
def Z.n : Z → Nat
  | .pt p => lsz p
  | .tl none => 0
  | .tl (some _) => 1
def Z.ok : Z → Prop
  | .pt p => ∃ k, isK p k
  | .tl _ => True
def sp_lsize (n : Nat) : Sp := fun vs H Q _ => ∃ (v : V) (z : Z), vs = [v] ∧ Da H v z.d ∧ z.ok ∧ z.d.depth < n ∧ kw z.d ≤ 90000 ∧ ∀ (H' : Hp), Up H H' → Q (.int (z.n : Int)) H'
theorem len_kws : ∀ l : List Gd.P, l.length ≤ kws (encs l)
  | [] => by simp
  | p :: r => by have := len_kws r; simp only [encs, kws, List.length_cons]; omega
/-- the sum over parts -/
theorem sums {K : PySem.W.Frag} {H H1 : Hp} {Q : VK} {σ : L2.St} {n : Nat} {c : Addr} {ys : List V} {qs : List Gd.P} {m : Nat} {E : XK} (u : Up H H1) (hc : H1 c = some (.tup ys)) (dy : Das H1 ys (encs qs)) (hk : ∀ q ∈ qs, ∃ k, isK q k)
    (hd : ∀ q ∈ qs, (enc q).depth < n) (hw : kws (encs qs) ≤ 90000) (hm : wipe (List.set (wipe σ [m]) m (some V.non)) [m] = wipe σ [m]) (hs : ∀ x : V, (List.set (wipe σ [m]) m (some x))[m]? = some (some x)) (hs2 : ∀ x : V, wipe (List.set (wipe σ [m]) m (some x)) [m] = wipe σ [m])
    (k : ∀ (D : Addr) (H2 : Hp), Up H H2 → H2 D = some (.lst ((qs.map fun q => ((lsz q : Nat) : Int)).map V.int)) → Q (.ref D) H2) :
    ∃ a', V.ref c = V.ref a' ∧ (∃ xs, SqT K H1 a' xs) ∧ lcB (Itt K a') (gName m) tYes (fun σ H Q => tCons (tVar m) tNil σ H fun vs H1 => sp_lsize n vs H1 Q E) [m] σ Q H1 := by
  have ly := dy.length
  rw [encs_map, List.length_map] at ly
  have lq := len_kws qs
  refine lc_T hc (by omega) (fun D i acc H2 => acc = ((qs.take i).map fun q => V.int ((lsz q : Nat) : Int)) ∧ Up H H2 ∧ Up H1 H2) (fun D H2 n2 u2 g2 => ⟨rfl, u.tr u2, u2⟩) (fun D i acc H2 r => r.2.2 _ _ hc) ?_ ?_
  · rintro D i y acc H2 nD hy ⟨rfl, u2, u12⟩ hacc hi hD
    obtain ⟨d, he, dx⟩ := dy.at hy
    rw [encs_map, List.getElem?_map] at he
    cases hq : qs[i]? with
    | none => rw [hq] at he; cases he
    | some q =>
    rw [hq] at he
    obtain rfl := Option.some.inj he
    have qm : q ∈ qs := List.mem_of_getElem? hq
    have wm := kw_mem (mem_encs qm)
    walk_at "rd"
    refine ⟨hs2 y, ?_⟩
    walk_at "rd"
    refine r_var (hs y) ?_
    walk_at "rd"
    refine ⟨y, .pt q, rfl, dx.up u12, hk q qm, hd q qm, by show kw (enc q) ≤ _; omega, fun H3 u3 => ?_⟩
    refine LcE.of (u3 _ _ hD) hacc hi fun H4 m4 g4 => ⟨?_, (u2.tr u3).of (u.fr nD) m4, (u12.tr u3).of nD m4⟩
    rw [List.take_add_one, hq, List.map_append]
    rfl
  · rintro D acc H2 nD ⟨rfl, u2, u12⟩ hD
    rw [ly, List.take_of_length_le (Nat.le_refl _)] at hD
    exact k D H2 u2 (by rw [List.map_map]; exact hD)
theorem ok_lsize (T : TX K mg w) : ∀ n, FG P w K mg base CX0 n T.f_lsize T.d_lsize ["thing"] (sp_lsize n) := by
  intro n
  induction n with
  | zero =>
    refine ⟨fun vs H Q E h => ?_, fun A out s H as us vs Q E _ _ _ _ _ h => ?_⟩
    all_goals
      obtain ⟨v, z, _, _, _, h, _⟩ := h
      exact absurd h (Nat.not_lt_zero _)
  | succ n G_lsize =>
  refine Gd.ok T.F_lsize sc_lsize (fun vs H Q E h => ?_) (fun cdv A out s H vs Q E hg hr h => ?_)
  · obtain ⟨b, m, rfl, _⟩ := h
    rfl
  · obtain ⟨v, z, rfl, hv, hz, hd, hw, k⟩ := h
    have nd := sc_lsize.nd
    have hr_lsize := hr
    refine ⟨_, (pss_cons (ps_if (pt_cmpR op_isN (pv 0) pe_non (nomark _)) (pss_one (ps_ret pe_int)) pss_nil)
  (pss_cons (ps_if (pt_val (pe_callB call_isi rfl T.z_isinstance (by decide +kernel) (pa_cons (pv 0) (pa_cons (pe_bltn (v := .ty "str") rfl T.z_str (by decide +kernel) rfl) pa_nil)))) (pss_one (ps_ret pe_int)) pss_nil)
  (pss_cons (ps_if (pt_cmpR op_eq (pe_ix ix_tup (pv 0) pe_int (fun _ _ => rfl)) pe_str (nomark _)) (pss_one (ps_ret pe_int)) pss_nil)
  (pss_cons (ps_if (pt_cmpR op_eq (pe_ix ix_tup (pv 0) pe_int (fun _ _ => rfl)) pe_str (nomark _)) (pss_one (ps_ret (pe_op op_add (pe_callB (cr_sum rfl) rfl T.z_sum (by decide +kernel) (pa_cons (pe_lc (own := [("one", 2)]) rfl nd (pi_tup (pe_ix ix_tup (pv 0) pe_int (fun _ _ => rfl))) (blkOk_by (N := ["thing", "parts", "one"]) (sc := defScope s_lsize) (by decide +kernel)) (fun _ _ _ _ _ => pg_name (i := 2) nd rfl (by first | exact Or.inl rfl | exact Or.inr rfl)) (fun _ _ _ _ _ => pts_nil) (fun _ _ _ _ _ => (pe_g T.c_lsize G_lsize hg hr_lsize rfl pass0 (pa_cons (pv 2) pa_nil)))) pa_nil)) (pe_g T.c_lsize G_lsize hg hr_lsize rfl pass0 (pa_cons (pe_ix ix_tup (pv 0) pe_int (fun _ _ => rfl)) pa_nil))))) pss_nil)
  (pss_cons (ps_if (pt_cmpR op_eq (pe_ix ix_tup (pv 0) pe_int (fun _ _ => rfl)) pe_str (nomark _)) (pss_one (ps_ret (pe_callB (cr_sum rfl) rfl T.z_sum (by decide +kernel) (pa_cons (pe_lc (own := [("one", 2)]) rfl nd (pi_tup (pe_ix ix_tup (pv 0) pe_int (fun _ _ => rfl))) (blkOk_by (N := ["thing", "parts", "one"]) (sc := defScope s_lsize) (by decide +kernel)) (fun _ _ _ _ _ => pg_name (i := 2) nd rfl (by first | exact Or.inl rfl | exact Or.inr rfl)) (fun _ _ _ _ _ => pts_nil) (fun _ _ _ _ _ => (pe_g T.c_lsize G_lsize hg hr_lsize rfl pass0 (pa_cons (pv 2) pa_nil)))) pa_nil)))) pss_nil)
  (pss_cons (ps_set (i := 1) nd rfl (by first | exact Or.inl rfl | exact Or.inr rfl) (pe_ifExp (pt_cmpR op_in_seq (pe_ix ix_tup (pv 0) pe_int (fun _ _ => rfl)) (pe_lst (pa_cons pe_str (pa_cons pe_str pa_nil))) rfl) (pe_slice sl_tupA (pv 0) (po_some pe_int) po_none) (pe_ix ix_tup (pv 0) pe_int (fun _ _ => rfl))))
  (pss_one (ps_ret (pe_op op_add pe_int (pe_callB (cr_sum rfl) rfl T.z_sum (by decide +kernel) (pa_cons (pe_lc (own := [("one", 2)]) rfl nd (pi_tup (pv 1)) (blkOk_by (N := ["thing", "parts", "one"]) (sc := defScope s_lsize) (by decide +kernel)) (fun _ _ _ _ _ => pg_name (i := 2) nd rfl (by first | exact Or.inl rfl | exact Or.inr rfl)) (fun _ _ _ _ _ => pts_nil) (fun _ _ _ _ _ => (pe_g T.c_lsize G_lsize hg hr_lsize rfl pass0 (pa_cons (pv 2) pa_nil)))) pa_nil))))))))))), ?_⟩
    walk_at "rd"
    cases z with
    | tl tl =>
      cases tl with
      | none =>
        obtain rfl := hv.non_inv
        walk_at "rc"
        exact k H Up.rf
      | some s =>
        obtain rfl := hv.str_inv
        walk_at "rc"
        refine r_isS ?_
        walk_at "rc"
        exact k H Up.rf
    | pt p =>
      obtain ⟨kk, hk⟩ := hz
      obtain ⟨a, w1, ws, rfl, ha, h1, t⟩ := enc_inv hv
      walk_at "rc"
      refine r_isT ha ?_
      have hd' : (enc p).depth < n + 1 := hd
      have hw' : kw (enc p) ≤ 90000 := hw
      cases p with
      | star x =>
        dsimp only [Gd.hd] at ha
        walk_at "rc"
        exact k H Up.rf
      | tail x => simp [isK] at hk
      | use x vs =>
        have gx : good x := isK_hok hk
        obtain ⟨e1, e2, e3, e4, e5, e6, e7⟩ := gx.apart
        dsimp only [Gd.hd] at ha
        obtain ⟨c, ys, rfl, hc, dy⟩ := h1.tup_inv
        simp only [isK] at hk
        simp only [enc, PyData.depth, PyData.depthAll, kw, kws] at hd' hw'
        walk_at "rc"
        rename_i p1 H1 n1 u1 g1
        refine sums (m := 2) u1 (u1 _ _ hc) (dy.up u1) (fun q hq => ⟨1, isKs_iff.mp hk.2.2 q hq⟩) (fun q hq => by have := depth_mem (mem_encs hq); omega) (by omega) rfl (fun _ => rfl) (fun _ => rfl) fun D H9 u9 g9 => ?_
        walk_at "rd"
        refine r_sum g9 ?_
        walk_at "rd"
        rw [lszs_sum]
        have := k H9 u9
        simp only [Z.n, lsz] at this
        rw [Int.natCast_add] at this
        exact this
      | uni vs =>
        dsimp only [Gd.hd] at ha
        obtain ⟨c, ys, rfl, hc, dy⟩ := h1.tup_inv
        simp only [isK] at hk
        simp only [enc, PyData.depth, PyData.depthAll, kw, kws] at hd' hw'
        walk_at "rc"
        rename_i p1 H1 n1 u1 g1
        refine sums (m := 2) u1 (u1 _ _ hc) (dy.up u1) (fun q hq => ⟨4, isKs_iff.mp hk.2.2.2 q hq⟩) (fun q hq => by have := depth_mem (mem_encs hq); omega) (by omega) rfl (fun _ => rfl) (fun _ => rfl) fun D H9 u9 g9 => ?_
        walk_at "rd"
        refine r_sum g9 ?_
        walk_at "rd"
        rw [lszs_sum]
        have := k H9 u9
        simp only [Z.n, lsz] at this
        rw [Int.natCast_add] at this
        exact this
      | sig i r =>
        dsimp only [Gd.hd] at ha
        obtain ⟨u, rfl, tu⟩ := t.one
        have dy : Das H [w1, u] (encs [i, r]) := .cons h1 (.cons tu .nil)
        simp only [isK] at hk
        simp only [enc, PyData.depth, PyData.depthAll, kw, kws] at hd' hw'
        walk_at "rc"
        rename_i p1 H1 n1 u1 g1 p2 H2 u2 g2
        refine sums (m := 2) (u1.tr u2) g2 (dy.up (u1.tr u2)) (fun q hq => by
          rcases List.mem_cons.mp hq with rfl | hq
          · exact ⟨3, hk.2.1⟩
          · rw [List.mem_singleton.mp hq]; exact ⟨0, hk.2.2⟩) (fun q hq => by
          rcases List.mem_cons.mp hq with rfl | hq
          · omega
          · rw [List.mem_singleton.mp hq]; omega) (by simp only [encs, kws]; omega) rfl (fun _ => rfl) (fun _ => rfl) fun D H9 u9 g9 => ?_
        walk_at "rd"
        refine r_sum g9 ?_
        walk_at "rd"
        rw [lszs_sum]
        have := k H9 u9
        simp only [Z.n, lsz] at this
        rw [Int.natCast_add] at this
        exact this
      | dots p =>
        dsimp only [Gd.hd] at ha
        have e : ws = [] := by cases t; rfl
        subst e
        have dy : Das H [w1] (encs [p]) := .cons h1 .nil
        simp only [isK] at hk
        simp only [enc, PyData.depth, PyData.depthAll, kw, kws] at hd' hw'
        walk_at "rc"
        rename_i p1 H1 n1 u1 g1 p2 H2 u2 g2
        refine sums (m := 2) (u1.tr u2) g2 (dy.up (u1.tr u2)) (fun q hq => by rw [List.mem_singleton.mp hq]; exact ⟨0, hk.2⟩) (fun q hq => by rw [List.mem_singleton.mp hq]; omega) (by simp only [encs, kws]; omega) rfl (fun _ => rfl) (fun _ => rfl) fun D H9 u9 g9 => ?_
        walk_at "rd"
        refine r_sum g9 ?_
        walk_at "rd"
        rw [lszs_sum]
        have := k H9 u9
        simp only [Z.n, lsz] at this
        rw [Int.natCast_add] at this
        exact this
      | row vs =>
        dsimp only [Gd.hd] at ha
        obtain ⟨c, ys, rfl, hc, dy⟩ := h1.tup_inv
        simp only [isK] at hk
        simp only [enc, PyData.depth, PyData.depthAll, kw, kws] at hd' hw'
        walk_at "rc"
        refine sums (m := 2) Up.rf hc dy (fun q hq => ⟨2, isKs_iff.mp hk.2 q hq⟩) (fun q hq => by have := depth_mem (mem_encs hq); omega) (by omega) rfl (fun _ => rfl) (fun _ => rfl) fun D H9 u9 g9 => ?_
        walk_at "rd"
        refine r_sum g9 ?_
        walk_at "rd"
        rw [lszs_sum]
        have := k H9 u9
        simp only [Z.n, lsz] at this
        exact this
      | inp vs tl =>
        dsimp only [Gd.hd] at ha
        obtain ⟨c, ys, rfl, hc, dy⟩ := h1.tup_inv
        obtain ⟨u, rfl, tu⟩ := t.one
        simp only [isK] at hk
        have ht0 : (tlD tl).depth = 0 := by cases tl <;> simp [tlD, PyData.depth]
        simp only [enc, PyData.depth, PyData.depthAll, kw, kws, ht0] at hd' hw'
        walk_at "rc"
        refine sums (m := 2) Up.rf hc dy (fun q hq => ⟨2, isKs_iff.mp hk.2.1 q hq⟩) (fun q hq => by have := depth_mem (mem_encs hq); omega) (by omega) rfl (fun _ => rfl) (fun _ => rfl) fun D H9 u9 g9 => ?_
        walk_at "rd"
        refine r_sum g9 ?_
        walk_at "rd"
        refine ⟨u, .tl tl, rfl, tu.up u9, trivial, by show (tlD tl).depth < n; omega, by show kw (tlD tl) ≤ _; omega, fun H8 u8 => ?_⟩
        walk_at "rd"
        rw [lszs_sum]
        have := k H8 (u9.tr u8)
        cases tl <;> simp only [Z.n, lsz] at this ⊢ <;> rw [Int.natCast_add] at this <;> exact this
end

section
variable {P : Program} {w : World} {K : PySem.W.Frag} {mg : Str → Option Value} {base : Heap}

section
variable {H : Hp} {Q : VK} {K : PySem.W.Frag}
theorem r_tyTs {x : Str} (q : Q (.bl false) H) : rIsi K [.str x, .ty "tuple"] H Q := ⟨_, _, _, _, false, rfl, .ty _, .base (.str x), kit_ty (by decide +kernel), q⟩
theorem r_tyTn (q : Q (.bl false) H) : rIsi K [.non, .ty "tuple"] H Q := ⟨_, _, _, _, false, rfl, .ty _, .base .non, kit_ty (by decide +kernel), q⟩
theorem r_tyTt {a : Addr} {xs : List V} (h : H a = some (.tup xs)) (q : Q (.bl true) H) : rIsi K [.ref a, .ty "tuple"] H Q := ⟨_, _, _, _, true, rfl, .ty _, .base (.tup h), kit_ty (by decide +kernel), q⟩
theorem r_neNil {a e : Addr} {xs : List V} {ds : List PyData} (h : H a = some (.lst xs)) (t : Das H xs ds) (c : PyData.canLayAll0 ds = true) (l : PyData.depthAll ds ≤ 63) (he : H e = some (.lst [])) (q : Q (.bl (!xs.isEmpty)) H) : rNeD K (.ref a) (.ref e) H Q := by
  refine ⟨.list ds, .list [], .lst (SqL.of h) t.dp, .lst (SqL.of he) .nil, shaped_of (by simpa [PyData.canLay0] using c) (by simp only [PyData.depth]; omega), shaped_of (by rfl) (by decide), ?_⟩
  have e : PyData.eqv (.list ds) (.list []) = xs.isEmpty := by
    cases t <;> simp [PyData.eqv, PyData.eqvAll]
  rw [e]
  exact q
end
def sp_lmixed (n : Nat) : Sp := fun vs H Q _ => ∃ (b : Addr) (v : V) (z : Th), vs = [.ref b, v] ∧ Bag H b ∧ Da H v z.d ∧ z.ok ∧ z.d.canLay0 = true ∧ z.d.depth < n ∧ n ≤ 30 ∧ kq z.d = true ∧ kw z.d ≤ 90000 ∧
  ∀ (v' : V) (z' : Th) (H' : Hp), Mv b H H' → Bag H' b → Da H' v' z'.d → MT z z' → Q v' H'
/-- the things of a row, each put into another order -/
theorem mixs {K : PySem.W.Frag} {H H1 : Hp} {Q : VK} {σ : L2.St} {n : Nat} {b c : Addr} {ys : List V} {zs : List Th} {m : Nat} {E : XK} (hb : Bag H b) (u : Up H H1) (hc : H1 c = some (.tup ys)) (dy : Das H1 ys (zs.map Th.d)) (hk : ∀ z ∈ zs, z.ok ∧ z.d.canLay0 = true ∧ z.d.depth < n ∧ kq z.d = true ∧ kw z.d ≤ 90000) (hn : n ≤ 30) (hl : zs.length ≤ 90000)
    (hm : wipe (List.set (wipe σ [m]) m (some V.non)) [m] = wipe σ [m]) (hs : ∀ x : V, (List.set (wipe σ [m]) m (some x))[m]? = some (some x)) (hs0 : ∀ x : V, (List.set (wipe σ [m]) m (some x))[0]? = some (some (.ref b))) (hs2 : ∀ x : V, wipe (List.set (wipe σ [m]) m (some x)) [m] = wipe σ [m])
    (k : ∀ (D : Addr) (acc : List V) (zs' : List Th) (H2 : Hp), Mv b H H2 → Bag H2 b → H2 D = some (.lst acc) → Das H2 acc (zs'.map Th.d) → A2 MT zs zs' → Q (.ref D) H2) :
    ∃ a', V.ref c = V.ref a' ∧ (∃ xs, SqT K H1 a' xs) ∧ lcB (Itt K a') (gName m) tYes (fun σ H Q => tCons (tVar 0) (tCons (tVar m) tNil) σ H fun vs H1 => sp_lmixed n vs H1 Q E) [m] σ Q H1 := by
  have ly := dy.length
  rw [List.length_map] at ly
  refine lc_T hc (by omega) (fun D i acc H2 => ∃ zs' : List Th, Mv b H H2 ∧ Bag H2 b ∧ Tk H1 H2 ∧ Das H2 acc (zs'.map Th.d) ∧ A2 MT (zs.take i) zs') (fun D H2 n2 u2 g2 => ⟨[], (u.tr u2).mv, hb.up (u.tr u2), u2.tk, .nil, .nil⟩) (fun D i acc H2 ⟨_, r⟩ => r.2.2.1 _ _ hc) ?_ ?_
  · rintro D i y acc H2 nD hy ⟨zs', m2, b2, k2, da, hA⟩ hacc hi hD
    obtain ⟨d, he, dx⟩ := dy.at hy
    rw [List.getElem?_map] at he
    cases hq : zs[i]? with
    | none => rw [hq] at he; cases he
    | some z =>
    rw [hq] at he
    obtain rfl := Option.some.inj he
    have qm : z ∈ zs := List.mem_of_getElem? hq
    obtain ⟨z1, z2, z3, z4, z5⟩ := hk z qm
    walk_at "rd"
    refine ⟨hs2 y, ?_⟩
    walk_at "rd"
    refine r_var (hs0 y) ?_
    refine r_cons ?_
    refine r_var (hs y) ?_
    walk_at "rd"
    refine ⟨b, y, z, rfl, b2, dx.tk k2, z1, z2, z3, hn, z4, z5, fun v' z' H3 m3 b3 d3 r3 => ?_⟩
    have nH : H D = none := u.fr nD
    have hne : D ≠ b := hb.ne nH
    have hD3 := m3 _ _ hne hD
    refine LcE.of hD3 hacc hi fun H4 m4 g4 => ⟨zs' ++ [z'], (m2.tr m3).of nH m4, ?_, (k2.tr (b2.tk m3)).tr (m4.tk hD3), ?_, ?_⟩
    · exact b3.mv hne.symm m4
    · rw [List.map_append]
      exact ((da.tk (b2.tk m3)).tk (m4.tk hD3)).app (.cons (d3.tk (m4.tk hD3)) .nil)
    · rw [List.take_add_one, hq]
      exact hA.snoc r3
  · rintro D acc H2 nD ⟨zs', m2, b2, k2, da, hA⟩ hD
    rw [ly, List.take_of_length_le (Nat.le_refl _)] at hA
    exact k D acc zs' H2 m2 b2 hD da hA
theorem ok_lmixed (T : TX K mg w) : ∀ n, FG P w K mg base CX0 (n + 1) T.f_lmixed T.d_lmixed ["bag", "thing"] (sp_lmixed n) := by
  have G_ltake := ok_ltake (P := P) (w := w) (base := base) T
  intro n
  induction n with
  | zero =>
    refine ⟨fun vs H Q E h => ?_, fun A out s H as us vs Q E _ _ _ _ _ h => ?_⟩
    all_goals
      obtain ⟨b, v, z, _, _, _, _, _, h, _⟩ := h
      exact absurd h (Nat.not_lt_zero _)
  | succ n G_lmixed =>
  refine Gd.ok T.F_lmixed sc_lmixed (fun vs H Q E h => ?_) (fun cdv A out s H vs Q E hg hr h => ?_)
  · obtain ⟨b, m, z, rfl, _⟩ := h
    rfl
  · obtain ⟨b, v, z, rfl, hb, hv, hz, hc, hd, hn, hq, hw, k⟩ := h
    have nd := sc_lmixed.nd
    have hu := hr.units
    have hr_lmixed := hr
    have hr_ltake := hr.mono (show 1 ≤ n + 1 by omega)
    refine ⟨_, (pss_cons (ps_if (PW.pt (pw_or (pt_not (pt_val (pe_callB call_isi rfl T.z_isinstance (by decide +kernel) (pa_cons (pv 1) (pa_cons (pe_bltn (v := .ty "tuple") rfl T.z_tuple (by decide +kernel) rfl) pa_nil))))) (pw_or1 (pt_cmpR (op_eqD hu) (pv 1) (pe_tup pa_nil) (nomark _))))) (pss_one (ps_ret (pv 1))) pss_nil)
  (pss_cons (ps_if (pt_cmpR (op_eqD hu) (pe_ix ix_tup (pv 1) pe_int (fun _ _ => rfl)) pe_str (nomark _)) (pss_cons (ps_par (i := 2) (j := 3) rfl nd rfl rfl (by decide) rfl rfl (pa_cons (pe_callTy call_list_of rfl T.z_list (by decide +kernel) (pa_cons (pe_ix ix_tup (pv 1) pe_int (fun _ _ => rfl)) pa_nil)) (pa_cons (pe_lst pa_nil) pa_nil)) rfl)
  (pss_cons (ps_while PassesOwn.never (pt_cmpR (op_neD hu) (pv 2) (pe_lst pa_nil) (nomark _)) (pss_one (ps_expr (pe_bm PySem.F.plainAttrs_list PySem.F.slot_list_append PySem.F.type_list_append mt_append (pv 3) (pa_cons (pe_g T.c_lmixed G_lmixed hg hr_lmixed rfl pass0 (pa_cons (pv 0) (pa_cons (pe_bm PySem.F.plainAttrs_list PySem.F.slot_list_pop PySem.F.type_list_pop mt_popAt (pv 2) (pa_cons (pe_g T.c_ltake G_ltake hg hr_ltake rfl pass0 (pa_cons (pv 0) (pa_cons (pe_callB call_len_seq rfl T.z_len PySem.boot_len (pa_cons (pv 2) pa_nil)) pa_nil))) pa_nil)) pa_nil))) pa_nil)))))
  (pss_one (ps_ret (pe_tup (pa_cons pe_str (pa_cons (pe_callTy call_tuple_of rfl T.z_tuple (by decide +kernel) (pa_cons (pv 3) pa_nil)) pa_nil))))))) pss_nil)
  (pss_one (ps_ret (pe_callTy call_tuple_of rfl T.z_tuple (by decide +kernel) (pa_cons (pe_lc (own := [("one", 4)]) rfl nd (pi_tup (pv 1)) (blkOk_by (N := ["bag", "thing", "members", "found", "one"]) (sc := defScope s_lmixed) (by decide +kernel)) (fun _ _ _ _ _ => pg_name (i := 4) nd rfl (by first | exact Or.inl rfl | exact Or.inr rfl)) (fun _ _ _ _ _ => pts_nil) (fun _ _ _ _ _ => (pe_g T.c_lmixed G_lmixed hg hr_lmixed rfl pass0 (pa_cons (pv 0) (pa_cons (pv 4) pa_nil))))) pa_nil)))))), ?_⟩
    walk_at "rd"
    cases z with
    | wd x =>
      obtain rfl := hv.str_inv
      refine r_tyTs ?_
      walk_at "rc"
      exact k _ (.wd x) H Mv.rf hb hv rfl
    | no =>
      obtain rfl := hv.non_inv
      refine r_tyTn ?_
      walk_at "rc"
      exact k _ .no H Mv.rf hb hv trivial
    | sq ps =>
      obtain ⟨a, xs, rfl, ha, t⟩ := hv.tup_inv
      have hd' : (PyData.tuple (encs ps)).depth < n + 1 := hd
      rw [depth_tup] at hd'
      have hc' : (PyData.tuple (encs ps)).canLay0 = true := hc
      rw [canLay_tup] at hc'
      have hq' : kq (PyData.tuple (encs ps)) = true := hq
      rw [kq_tup, Bool.and_eq_true] at hq'
      have hw' : kw (PyData.tuple (encs ps)) ≤ 90000 := hw
      rw [kw_tup] at hw'
      refine r_tyTt ha ?_
      walk_at "rc"
      rename_i p1 H1 n1 u1 g1
      refine r_eqD (hv.up u1) (.tup g1 .nil) hc (by show (PyData.tuple (encs ps)).depth ≤ 64; rw [depth_tup]; omega) rfl (by decide) ?_
      cases ps with
      | nil =>
        rw [show PyData.eqv (Th.sq []).d (.tuple []) = true from by rw [eqv_unit]; rfl]
        walk_at "rc"
        exact k _ (.sq []) H1 u1.mv (hb.up u1) (hv.up u1) A2.nil
      | cons p0 pr =>
        cases t with
        | cons t0 tr =>
        rename_i w0 wr
        rw [show PyData.eqv (Th.sq (p0 :: pr)).d (.tuple []) = false from by rw [eqv_unit]; rfl]
        walk_at "rc"
        have c0 := lay_mem hc' (m := enc p0) (by simp [encs])
        have z0 := depth_mem (m := enc p0) (l := encs (p0 :: pr)) (by simp [encs])
        refine r_eqD (t0.up u1) (.str ("|" : Str)) c0 (by omega) (by decide +kernel) (by simp [PyData.depth]) ?_
        rw [eqv_bar, enc_bar]
        walk_at "rc"
        refine mixs (n := n) (m := 4) (zs := (p0 :: pr).map Th.pt) hb u1 (u1 _ _ ha) (by rw [List.map_map]; have := (Das.cons t0 tr).up u1; rw [encs_map] at this; exact this) (fun z hz2 => ?_) (by omega) ?_ rfl (fun _ => rfl) (fun _ => rfl) (fun _ => rfl) fun D acc zs' H2 m2 b2 hD da hA => ?_
        · obtain ⟨p, hp, rfl⟩ := List.mem_map.mp hz2
          have me := mem_encs hp
          have h1 := depth_mem me
          have h2 := kw_mem me
          refine ⟨hz p hp, lay_mem hc' me, ?_, kq_mem hq'.2 me, ?_⟩
          · show (enc p).depth < n
            omega
          · show kw (enc p) ≤ 90000
            omega
        · rw [List.length_map]
          have := len_kws (p0 :: pr)
          omega
        · walk_at "rd"
          obtain ⟨qs, rfl, hA'⟩ := hA.pts
          rw [pts_d] at da
          refine ⟨D, acc, rfl, Or.inl ⟨SqL.of hD, fun t ht => ?_⟩⟩
          exact k _ (.sq qs) _ (m2.tr (Up.new ht).mv) (b2.up (Up.new ht)) (.tup upd_same (da.up (Up.new ht))) hA'
    | pt p =>
      obtain ⟨kk, hk⟩ := hz
      have hok := isK_hok hk
      have hd' : (enc p).depth < n + 1 := hd
      have hc' : (enc p).canLay0 = true := hc
      have hq' : kq (enc p) = true := hq
      have hw' : kw (enc p) ≤ 90000 := hw
      obtain ⟨a, w1, ws, rfl, ha, h1, t⟩ := enc_inv hv
      refine r_tyTt ha ?_
      walk_at "rc"
      rename_i p1 H1 n1 u1 g1
      refine r_eqD (hv.up u1) (.tup g1 .nil) hc (by show (enc p).depth ≤ 64; omega) rfl (by decide) ?_
      rw [show PyData.eqv (Th.pt p).d (.tuple []) = false from by rw [eqv_unit]; show (match enc p with | .tuple [] => true | _ => false) = false; rw [enc_eq]]
      walk_at "rc"
      have hso : PyData.strOk (Gd.hd p) = true := by
        have := hc'
        rw [enc_eq, canLay_tup] at this
        have := lay_mem this (m := .str (Gd.hd p)) (by simp)
        simpa [PyData.canLay0] using this
      refine r_eqD (d := .str (Gd.hd p)) (.str _) (.str ("|" : Str)) (by simpa [PyData.canLay0] using hso) (by simp [PyData.depth]) (by decide +kernel) (by simp [PyData.depth]) ?_
      rw [eqv_bar, show isBar (.str (Gd.hd p)) = isUni p from bar_uni p hok]
      walk_at "rd"
      rcases uni_or p with ⟨ms, rfl⟩ | ⟨hnu, _⟩
      · refine ifT rfl ?_
        obtain ⟨c, ys, rfl, hct, ty⟩ := h1.tup_inv
        have ly := ty.length
        rw [encs_len] at ly
        have hms : ms.length < 64 := by
          simp only [enc, kq_tup, kqT_cons, barM, Bool.and_eq_true, isBar, decide_true, Bool.not_true, Bool.false_or, decide_eq_true_eq, encs_len] at hq'
          exact hq'.1
        have hd2 : PyData.depthAll (encs ms) + 2 < n + 1 + 1 := by
          simp only [enc, PyData.depth, PyData.depthAll] at hd'
          omega
        have hc2 : PyData.canLayAll0 (encs ms) = true := by
          simp only [enc, PyData.canLay0, PyData.canLayAll0, Bool.and_eq_true] at hc'
          exact hc'.2.1
        have hq2 : kqs (encs ms) = true := by
          simp only [enc, kq_tup, kqs, Bool.and_eq_true] at hq'
          exact hq'.2.2.1.2
        have hw2 : kws (encs ms) ≤ 90000 := by
          simp only [enc, kw, kws] at hw'
          omega
        have hct1 := u1 _ _ hct
        walk_at "rd"
        refine ⟨c, ys, rfl, Or.inr (SqT.of hct1), fun l hl => ?_⟩
        have ul : Up H1 (upd H1 l (.lst ys)) := Up.new hl
        have gl : upd H1 l (.lst ys) l = some (.lst ys) := upd_same
        generalize upd H1 l (.lst ys) = H2 at ul gl ⊢
        walk_at "rd"
        rename_i f H3 nf uf gf
        have hlf : l ≠ f := ne_of_none gl nf
        have hlH : H l = none := u1.fr hl
        have hfH : H f = none := u1.fr (ul.fr nf)
        have u03 : Up H H3 := u1.tr (ul.tr uf)
        have hlb : l ≠ b := hb.ne hlH
        have hfb : f ≠ b := hb.ne hfH
        refine ⟨fun m σ H4 => ∃ (rem don fnd : List Gd.P) (ws' fs : List V) (x4 : Option V), σ = [some (.ref b), some (.ref a), some (.ref l), some (.ref f), x4] ∧ Mv b H H4 ∧ Bag H4 b ∧ H4 l = some (.lst ws') ∧ H4 f = some (.lst fs) ∧ Das H4 ws' (encs rem) ∧ Das H4 fs (encs fnd) ∧ A2 Mx don fnd ∧
          (don ++ rem).Perm ms ∧ m = rem.length, ⟨_, ms, [], [], ys, [], none, rfl, u03.mv, hb.up u03, uf _ _ gl, gf, ty.up u03, .nil, .nil, .refl _, rfl⟩, ?_⟩
        rintro m σ H4 ⟨rem, don, fnd, ws', fs, x4, rfl, m4, b4, hl4, hf4, dw, df, hA, hp, rfl⟩
        have lw := dw.length
        rw [encs_len] at lw
        have lf := df.length
        rw [encs_len] at lf
        have lpm := hp.length_eq
        rw [List.length_append, hA.len] at lpm
        have hmem : ∀ q ∈ rem, q ∈ ms := fun q hq => hp.mem_iff.mp (List.mem_append_right _ hq)
        have hdr : PyData.depthAll (encs rem) ≤ 63 := by
          rw [depths_eq, encs_map]
          have : ∀ l : List Gd.P, (∀ q ∈ l, q ∈ ms) → (List.map PyData.depth (List.map enc l)).foldr max 0 ≤ 63 := by
            intro l
            induction l with
            | nil => intro _; simp
            | cons x r ih =>
              intro hx
              have h1 := depth_mem (mem_encs (hx x List.mem_cons_self))
              have h2 := ih fun q hq => hx q (List.mem_cons_of_mem x hq)
              simp only [List.map_cons, List.foldr_cons]
              omega
          exact this rem hmem
        have hcr : PyData.canLayAll0 (encs rem) = true := by
          have : ∀ l : List Gd.P, (∀ q ∈ l, q ∈ ms) → PyData.canLayAll0 (encs l) = true := fun l hl => lay_all fun q hq => lay_mem hc2 (mem_encs (hl q hq))
          exact this rem hmem
        walk_at "rd"
        rename_i e H5 ne ue ge
        refine r_neNil (ue _ _ hl4) (dw.up ue) hcr hdr ge ?_
        have b5 := b4.up ue
        have hl5 := ue _ _ hl4
        have hf5 := ue _ _ hf4
        cases hr : ws' with
        | nil =>
          subst hr
          walk_at "rc"
          have : rem = [] := List.length_eq_zero_iff.mp (by rw [← lw]; rfl)
          subst this
          rw [List.append_nil] at hp
          refine ⟨f, fs, rfl, Or.inl ⟨SqL.of hf5, fun t ht => ?_⟩⟩
          have ut : Up H5 (upd H5 t (.tup fs)) := Up.new ht
          have gt : upd H5 t (.tup fs) t = some (.tup fs) := upd_same
          generalize upd H5 t (.tup fs) = H6 at ut gt ⊢
          walk_at "rd"
          rename_i r H7 nr ur gr
          have u47 : Up H4 H7 := ue.tr (ut.tr ur)
          exact k _ (.pt (.uni fnd)) _ (m4.tr u47.mv) (b4.up u47) (.tup gr (.cons (.str _) (.cons (.tup (ur _ _ gt) (df.up u47)) .nil))) (Mx.uni hk hp hA)
        | cons w0 wr =>
          subst hr
          walk_at "rc"
          refine ⟨fun σ' H' => _, fun _ _ h => h, ?_⟩
          walk_at "rd"
          refine r_tyL hf5 ?_
          walk_at "rd"
          refine r_tyL hl5 ?_
          walk_at "rd"
          refine ⟨l, _, rfl, Or.inl (SqL.of hl5), ?_⟩
          walk_at "rd"
          have lw1 : 1 ≤ (w0 :: wr).length := by simp
          refine ⟨b, _, rfl, b5, by omega, by omega, fun r H6 r0 r1 m6 b6 => ?_⟩
          obtain ⟨rn, rfl⟩ := Int.eq_ofNat_of_zero_le r0
          have hrn : rn < (w0 :: wr).length := by omega
          have hl6 := m6 _ _ hlb hl5
          have hf6 := m6 _ _ hfb hf5
          obtain ⟨y, hy⟩ : ∃ y, (w0 :: wr)[rn]? = some y := ⟨_, List.getElem?_eq_getElem hrn⟩
          have k46 : Tk H4 H6 := ue.tk.tr (b5.tk m6)
          obtain ⟨dd, hdd, dy⟩ := (dw.tk k46).at hy
          have hq0 : ∃ q, rem[rn]? = some q := ⟨_, List.getElem?_eq_getElem (by omega)⟩
          obtain ⟨q, hq0⟩ := hq0
          obtain rfl : enc q = dd := by
            rw [encs_map, List.getElem?_map, hq0] at hdd
            exact Option.some.inj hdd
          have hqm := hmem q (List.mem_of_getElem? hq0)
          have hqe := mem_encs hqm
          have hqd := depth_mem hqe
          have hqw := kw_mem hqe
          walk_at "rd"
          refine ⟨l, _, (rn : Int), rn, y, rfl, rfl, hl6, by omega, by omega, seq_of hrn, hy, ?_⟩
          have m7 : Mv l H6 (upd H6 l (.lst ((w0 :: wr).eraseIdx rn))) := Mv.wr
          have g7 : upd H6 l (.lst ((w0 :: wr).eraseIdx rn)) l = some (.lst ((w0 :: wr).eraseIdx rn)) := upd_same
          generalize upd H6 l (.lst ((w0 :: wr).eraseIdx rn)) = H7 at m7 g7 ⊢
          have k67 := m7.tk hl6
          have b7 := b6.mv hlb.symm m7
          have hf7 := m7 _ _ hlf.symm hf6
          walk_at "rd"
          simp only [isK] at hk
          refine ⟨b, y, .pt q, rfl, b7, dy.tk k67, ⟨4, isKs_iff.mp hk.2.2.2 q hqm⟩, lay_mem hc2 hqe, by show (enc q).depth < n; omega, by omega, kq_mem hq2 hqe, by show kw (enc q) ≤ 90000; omega, fun v' z' H8 m8 b8 d8 r8 => ?_⟩
          cases z' with
          | pt q' =>
            have k78 := b7.tk m8
            have hf8 := m8 _ _ hfb hf7
            walk_at "rd"
            refine r_app hf8 (by omega) fun H9 m9 g9 => ?_
            have k89 := m9.tk hf8
            have k49 := ((k46.tr k67).tr k78).tr k89
            refine ⟨(rem.eraseIdx rn).length, ?_, rem.eraseIdx rn, don ++ [q], fnd ++ [q'], _, _, _, rfl, (((m4.tr (ue.mv.tr m6)).of hlH m7).tr m8).of hfH m9, b8.mv hfb.symm m9, m9 _ _ hlf (m8 _ _ hlb g7), g9, ?_, ?_, hA.snoc r8, ?_, rfl⟩
            · rw [List.length_eraseIdx_of_lt (by omega)]
              omega
            · rw [← encs_erase]
              exact (dw.tk k49).erase rn
            · rw [encs_app]
              exact (df.tk k49).app (.cons (d8.tk k89) .nil)
            · rw [List.append_assoc]
              exact ((erase_perm hq0).append_left don).trans hp
          | _ => exact r8.elim
      · refine ifF hnu ?_
        have hda : Das H1 (V.str (Gd.hd p) :: w1 :: ws) ((Th.subs p).map Th.d) := by
          have e := subs_d p
          rw [enc_eq] at e
          rw [← PyData.tuple.inj e]
          exact ((Das.cons (.str _) (.cons h1 t)).up u1)
        have ed := subs_d p
        rw [ed, depth_tup] at hd'
        rw [ed, canLay_tup] at hc'
        rw [ed, kq_tup, Bool.and_eq_true] at hq'
        rw [ed, kw_tup] at hw'
        walk_at "rd"
        refine mixs (n := n) (m := 4) (zs := Th.subs p) hb u1 (u1 _ _ ha) hda (fun z hz2 => ?_) (by omega) ?_ rfl (fun _ => rfl) (fun _ => rfl) (fun _ => rfl) fun D acc zs' H2 m2 b2 hD da hA => ?_
        · have me : z.d ∈ (Th.subs p).map Th.d := List.mem_map.mpr ⟨z, hz2, rfl⟩
          have h1 := depth_mem me
          have h2 := kw_mem me
          exact ⟨subs_ok hk z hz2, lay_mem hc' me, by omega, kq_mem hq'.2 me, by omega⟩
        · have : (Th.subs p).length ≤ 3 := by cases p <;> simp [Th.subs]
          omega
        · walk_at "rd"
          obtain ⟨q, hq1, hq2⟩ := subs_mx hk hnu hA
          refine ⟨D, acc, rfl, Or.inl ⟨SqL.of hD, fun t ht => ?_⟩⟩
          exact k _ (.pt q) _ (m2.tr (Up.new ht).mv) (b2.up (Up.new ht)) (show Da _ _ (enc q) by rw [hq2]; exact .tup upd_same (da.up (Up.new ht))) hq1
end

section
variable {P : Program} {w : World} {K : PySem.W.Frag} {mg : Str → Option Value} {base : Heap}
def sp_joined : Sp := fun vs H Q _ => ∃ (a : Addr) (xs : List V) (ps : List Gd.P), vs = [.ref a] ∧ H a = some (.tup xs) ∧ Das H xs (encs ps) ∧ (∀ p ∈ ps, Cd 0 40 90000 p) ∧ (ps.flatMap memb).length ≤ 1000 ∧ ps ≠ [] ∧ kws (encs ps) ≤ 250000 ∧
  ∀ (v : V) (H' : Hp), Up H H' → Da H' v (enc (ljoin ps)) → Q v H'
def sp_joinedS : Sp := fun vs H Q E => vs.length ≤ sizeLine ∧ ∀ p, H p = Option.none → sp_joined [V.ref p] (upd H p (.tup vs)) Q E
theorem ok_joined (T : TX K mg w) : FS P w K mg base CX0 5 T.f_joined sp_joinedS := by
  have G_noted := ok_noted (P := P) (w := w) (base := base) T
  have G_joined_notes := ok_joined_notes (P := P) (w := w) (base := base) T
  have G_laid_out := ok_laid_out (P := P) (w := w) (base := base) T
  refine okS T.F_joined sc_joined (fun kV doc pm cdv ct an rest => by cases rest <;> rfl) (fun cdv A out s H vs Q E hg hr h => ?_)
  obtain ⟨a, xs, ps, rfl, ha, dx, hc, hl, hne, hkw, k⟩ := h
  have nd := sc_joined.nd
  have hr_noted := hr
  have hr_joined_notes := hr.mono (show 1 ≤ 4 by decide)
  have hr_laid_out := hr.mono (show 2 ≤ 4 by decide)
  have lx := das_len dx
  have lps : ps.length ≤ 9000 := by have := kws_ge ps; omega
  refine ⟨_, (pss_cons (ps_set (i := 1) nd rfl (by first | exact Or.inl rfl | exact Or.inr rfl) pe_dnewT)
  (pss_one (ps_ret (pe_ix ix_tup (pe_g T.c_joined_notes G_joined_notes hg hr_joined_notes rfl pass0 (pa_cons (pv 1) (pa_cons (pe_lc (own := [("term", 2)]) rfl nd (pi_tup (pv 0)) (blkOk_by (N := ["terms", "numbers", "term"]) (sc := defScope s_joined) (by decide +kernel)) (fun _ _ _ _ _ => pg_name (i := 2) nd rfl (by first | exact Or.inl rfl | exact Or.inr rfl)) (fun _ _ _ _ _ => pts_nil) (fun _ _ _ _ _ => (pe_g T.c_noted G_noted hg hr_noted rfl pass0 (pa_cons (pv 1) (pa_cons (pe_g T.c_laid_out G_laid_out hg hr_laid_out rfl pass0 (pa_cons (pv 2) pa_nil)) (pa_cons pe_dnewK pa_nil)))))) pa_nil))) pe_int (fun _ _ => rfl))))), ?_⟩
  walk_at "rd"
  refine r_dnewT fun d H1 n1 u1 g1 => ?_
  walk_at "rd"
  have hd1 : NumD H1 d [] := ⟨[], g1, Nm.nil⟩
  have kt : ∀ i p, ps[i]? = some p → kws (encs (ps.take (i + 1))) = kws (encs (ps.take i)) + (kw (enc p) + 5) := fun i p hp => by
    rw [List.take_add_one, hp, Option.toList_some, encs_app, kws_app]
    simp [encs, kws]
  have kle : ∀ i, kws (encs (ps.take i)) ≤ 250000 := fun i => by
    have : kws (encs ps) = kws (encs (ps.take i)) + kws (encs (ps.drop i)) := by rw [← kws_app, ← encs_app, List.take_append_drop]
    omega
  refine lc_T (u1 _ _ ha) (by omega) (fun D i acc H5 => Up H H5 ∧ D ≠ d ∧ ∃ R5, NumD H5 d R5 ∧ R5.length ≤ 2 * kws (encs (ps.take i)) ∧ acc.length = i ∧ ∀ (j : Nat) (p : Gd.P), j < i → ps[j]? = some p → ∃ v, acc[j]? = some v ∧ NoteAt H5 v R5 p false)
    (fun D H5 n5 u5 g5 => ⟨u1.tr u5, (ne_of_none g1 n5).symm, [], hd1.up u5, by simp, rfl, fun j p hj => by omega⟩) (fun D i acc H5 r => r.1 _ _ ha) ?_ ?_
  · rintro D i x acc H5 nD hx ⟨u5, hDd, R5, hd5, l5, la5, inv⟩ hacc hi hD
    obtain ⟨p, hp, dp⟩ := das_at dx hx
    have pm : p ∈ ps := List.mem_of_getElem? hp
    have cp := hc p pm
    have hv := cp.hokV (Nat.le_refl _)
    have hkp := kt i p hp
    have hk1 := kle (i + 1)
    have hpk := pre_kw p
    walk_at "rd"
    refine ⟨x, p, rfl, dp.up u5, fun q hq => (hv q hq).1.1, (hv p (self_pre p)).1.2.2, fun t L H6 u6 lay => ?_⟩
    walk_at "rd"
    refine r_dnew fun mp H7 n7 u7 g7 => ?_
    walk_at "rd"
    refine ⟨d, t, mp, p, L, R5, m0, rfl, hd5.up (u6.tr u7), lay.up u7, MapAt.nil g7, fun q hq => okB_m0 (hv q hq).2 (hv q hq).1.2.2, by omega, fun v' R6 H8 m8 n8 ex8 l8 nt8 => ?_⟩
    obtain ⟨kvb, hkb, _⟩ := hd5.up (u6.tr u7)
    have k8 := m8.tkT hkb
    rw [sb_id p 0 cp.is (by have := cp.is; cases p <;> simp only [isK] at this <;> first | rfl | omega)] at nt8
    have hlf : isLf p = false := by have := cp.is; cases p <;> simp only [isK] at this <;> first | rfl | omega
    rw [hlf] at nt8
    have hD7 := (u6.tr u7) _ _ hD
    refine LcE.of (m8 _ _ hDd hD7) hacc hi fun H9 m9 g9 => ⟨?_, hDd, R6, n8.mv hDd.symm m9, by omega, by rw [List.length_append, la5]; rfl, fun j q hj hq => ?_⟩
    · have nDH : H D = none := u1.fr nD
      exact ((u5.tr (u6.tr u7)).of n1 m8).of nDH m9
    · have k9 := m9.tk (m8 _ _ hDd hD7)
      by_cases c : j = i
      · subst c
        rw [hp] at hq
        obtain rfl := Option.some.inj hq
        exact ⟨v', by rw [List.getElem?_append_right (by omega), la5, Nat.sub_self]; rfl, nt8.tk k9⟩
      · obtain ⟨v, hv1, nt⟩ := inv j q (by omega) hq
        exact ⟨v, by rw [List.getElem?_append_left (by omega)]; exact hv1, (nt.tk (((u6.tr u7).tk.tr k8).tr k9)).ext ex8⟩
  · rintro D acc H5 nD ⟨u5, hDd, R5, hd5, l5, la5, inv⟩ hD
    have hk1 := kle xs.length
    walk_at "rd"
    refine ⟨d, D, acc, R5, ps, rfl, hd5, hD, by rw [la5, lx], hne, fun i p hp => ?_, by omega, by omega, fun v R' H6 m6 n6 ex6 l6 nt6 => ?_⟩
    · have hi : i < xs.length := by rw [lx]; exact (List.getElem?_eq_some_iff.mp hp).1
      exact ⟨(hc p (List.mem_of_getElem? hp)).is, inv i p hi hp⟩
    · obtain ⟨a6, c6, w6, e6, ha6, d6, i6⟩ := nt6.f
      subst e6
      walk_at "rd"
      exact k w6 H6 (u5.of n1 m6) d6
end

section
variable {P : Program} {w : World} {K : PySem.W.Frag} {mg : Str → Option Value} {base : Heap}
def sp_lsmall : Sp := fun vs H Q _ => ∃ (b q : Addr) (ws : List Str) (d : Nat) (mo : Int), vs = [.ref b, .ref q, .int d, .int mo] ∧ Bag H b ∧ Nms H b q ws ∧ d ≤ 3 ∧
  ∀ (v : V) (p : Gd.P) (H' : Hp), Mv b H H' → Bag H' b → Da H' v (enc p) → TmD d p → ((siz p : Nat) : Int) ≤ mo ∨ siz p ≤ 1 → Q v H'
theorem ok_lsmall (T : TX K mg w) : FG P w K mg base CX0 56 T.f_lsmall T.d_lsmall ["bag", "names", "deep", "most"] sp_lsmall := by
  have G_lterm := ok_lterm (P := P) (w := w) (base := base) T 4
  have G_lsize := ok_lsize (P := P) (w := w) (base := base) T 20
  refine Gd.ok T.F_lsmall sc_lsmall (fun vs H Q E h => ?_) (fun cdv A out s H vs Q E hg hr h => ?_)
  · obtain ⟨b, m, ws, d, mo, rfl, _⟩ := h
    rfl
  · obtain ⟨b, q, ws, d, mo, rfl, hb, hq, d3, k⟩ := h
    have nd := sc_lsmall.nd
    have hr_lterm := hr
    have hr_lsize := hr.mono (show 20 ≤ 55 by decide)
    have wl := Wd_le d3
    refine ⟨_, (pss_cons (ps_for PassesOwn.never rfl (pi_range1 rfl T.z_range (pa_cons pe_int pa_nil)) (pg_name (i := 4) nd rfl (by first | exact Or.inl rfl | exact Or.inr rfl)) (pss_cons (ps_set (i := 5) nd rfl (by first | exact Or.inl rfl | exact Or.inr rfl) (pe_g T.c_lterm G_lterm hg hr_lterm rfl pass0 (pa_cons (pv 0) (pa_cons (pv 1) (pa_cons (pv 2) pa_nil)))))
  (pss_one (ps_if (pt_cmpR op_le (pe_g T.c_lsize G_lsize hg hr_lsize rfl pass0 (pa_cons (pv 5) pa_nil)) (pv 3) (nomark _)) (pss_one (ps_ret (pv 5))) pss_nil))))
  (pss_one (ps_ret (pe_tup (pa_cons (pe_ix ix_list (pv 1) pe_int (fun _ _ => rfl)) (pa_cons (pe_tup pa_nil) pa_nil)))))), ?_⟩
    walk_at "rd"
    refine ⟨by decide, by decide, for_range (lo := 0) (n := 4) (fun i σ H1 => ∃ (x4 x5 : Option V), σ = [some (.ref b), some (.ref q), some (.int d), some (.int mo), x4, x5] ∧ Mv b H H1 ∧ Bag H1 b ∧ Nms H1 b q ws)
      ⟨_, _, rfl, Mv.rf, hb, hq⟩ ?_ ?_⟩
    · rintro i σ H1 hi ⟨x4, x5, rfl, m1, b1, q1⟩
      walk_at "rd"
      refine ⟨b, q, ws, d, rfl, b1, q1, by omega, d3, fun v p H2 m2 b2 d2 t2 => ?_⟩
      walk_at "rd"
      refine ⟨v, .pt p, rfl, d2, ⟨0, t2.cd.is⟩, by have := t2.cd.dep; show (enc p).depth < 20; omega, by have := t2.cd.wgt; show kw (enc p) ≤ _; omega, fun H3 u3 => ?_⟩
      walk_at "rd"
      refine ifD (fun c => ?_) (fun c => ?_)
      · walk_at "rd"
        exact k v p H3 (m1.tr (m2.tr u3.mv)) (b2.up u3) (d2.up u3) t2 (Or.inl (by rw [← lsz_siz]; exact c))
      · walk_at "rd"
        exact ⟨_, _, rfl, m1.tr (m2.tr u3.mv), b2.up u3, (q1.mv m2).up u3⟩
    · rintro σ H1 ⟨x4, x5, rfl, m1, b1, q1⟩
      walk_at "rd"
      obtain ⟨x, gx, ex⟩ := q1.get (i := 0) (by decide) (by decide)
      refine r_ixL q1.at_ ex ?_
      walk_at "rd"
      rename_i p2 H2 n2 u2 g2 p3 H3 n3 u3 g3
      exact k _ (.use x []) _ (m1.tr (u2.tr u3).mv) (b1.up (u2.tr u3)) (.tup g3 (.cons (.str _) (.cons (.tup (u3 _ _ g2) .nil) .nil)))
        (TmD_use (Cd.use (dp := 0) (s := 0) (.inl rfl) gx nofun (by simp [encs, kws])) (by omega) (by have := Wd_ge d; omega)) (Or.inr (by rw [← lsz_siz]; simp [lsz, lszs]))
theorem argD_P (p : Gd.P) : argD p = encs (argP p) := by cases p <;> rfl
theorem tm_of {p : Gd.P} (h : isK p 0) : isTm p = true := by
  cases p with
  | use n vs => rfl
  | sig i r => rfl
  | uni ms => rfl
  | _ => simp [isK] at h
def sp_lagain (n : Nat) : Sp := fun vs H Q _ => ∃ (v : V) (p : Gd.P) (k : Nat), vs = [v] ∧ Da H v (enc p) ∧ Cd k 40 90000 p ∧ (enc p).depth < n ∧ n ≤ 45 ∧
  ∀ (v' : V) (H' : Hp), Up H H' → Da H' v' (enc p) → Q v' H'
theorem agains {K : PySem.W.Frag} {H H1 : Hp} {Q : VK} {σ : L2.St} {n : Nat} {c : Addr} {ys : List V} {qs : List Gd.P} {m : Nat} {E : XK} (u : Up H H1) (hc : H1 c = some (.tup ys)) (dy : Das H1 ys (encs qs)) (hk : ∀ q ∈ qs, ∃ k, Cd k 40 90000 q ∧ (enc q).depth < n) (hn : n ≤ 45) (hl : qs.length ≤ 90000)
    (hm : wipe (List.set (wipe σ [m]) m (some V.non)) [m] = wipe σ [m]) (hs : ∀ x : V, (List.set (wipe σ [m]) m (some x))[m]? = some (some x)) (hs2 : ∀ x : V, wipe (List.set (wipe σ [m]) m (some x)) [m] = wipe σ [m])
    (k : ∀ (D : Addr) (acc : List V) (H2 : Hp), Up H H2 → H2 D = some (.lst acc) → Das H2 acc (encs qs) → Q (.ref D) H2) :
    ∃ a', V.ref c = V.ref a' ∧ (∃ xs, SqT K H1 a' xs) ∧ lcB (Itt K a') (gName m) tYes (fun σ H Q => tCons (tVar m) tNil σ H fun vs H1 => sp_lagain n vs H1 Q E) [m] σ Q H1 := by
  have ly := das_len dy
  refine lc_T hc (by omega) (fun D i acc H2 => Up H H2 ∧ Up H1 H2 ∧ Das H2 acc (encs (qs.take i))) (fun D H2 n2 u2 g2 => ⟨u.tr u2, u2, .nil⟩) (fun D i acc H2 r => r.2.1 _ _ hc) ?_ ?_
  · rintro D i y acc H2 nD hy ⟨u2, u12, da⟩ hacc hi hD
    obtain ⟨q, hq, dq⟩ := das_at dy hy
    obtain ⟨kk, cq, dpq⟩ := hk q (List.mem_of_getElem? hq)
    walk_at "rd"
    refine ⟨hs2 y, ?_⟩
    walk_at "rd"
    refine r_var (hs y) ?_
    walk_at "rd"
    refine ⟨y, q, kk, rfl, dq.up u12, cq, dpq, hn, fun v' H3 u3 d3 => ?_⟩
    refine LcE.of (u3 _ _ hD) hacc hi fun H4 m4 g4 => ⟨(u2.tr u3).of (u.fr nD) m4, (u12.tr u3).of nD m4, ?_⟩
    have k4 : Tk H3 H4 := m4.tk (u3 _ _ hD)
    rw [List.take_add_one, hq, Option.toList_some, encs_app]
    exact ((da.up u3).tk k4).app (.cons (d3.tk k4) .nil)
  · rintro D acc H2 nD ⟨u2, u12, da⟩ hD
    rw [ly, List.take_of_length_le (Nat.le_refl _)] at da
    exact k D acc H2 u2 hD da
theorem ok_lagain (T : TX K mg w) : ∀ n, FG P w K mg base CX0 (n + 1) T.f_lagain T.d_lagain ["thing"] (sp_lagain n) := by
  have G_origin := ok_origin (P := P) (w := w) (base := base) T
  have G_arguments := ok_arguments (P := P) (w := w) (base := base) T
  have G_made := ok_made (P := P) (w := w) (base := base) T
  intro n
  induction n with
  | zero =>
    refine ⟨fun vs H Q E h => ?_, fun A out s H as us vs Q E _ _ _ _ _ h => ?_⟩
    all_goals
      obtain ⟨v, p, k, _, _, _, h, _⟩ := h
      exact absurd h (Nat.not_lt_zero _)
  | succ n G_lagain =>
  refine Gd.ok T.F_lagain sc_lagain (fun vs H Q E h => ?_) (fun cdv A out s H vs Q E hg hr h => ?_)
  · obtain ⟨v, p, k, rfl, _⟩ := h
    rfl
  · obtain ⟨v, p, kk, rfl, dv, cd, hd', hn, k⟩ := h
    have nd := sc_lagain.nd
    have hu := hr.units
    have hr_lagain := hr
    have hr_origin := hr.mono (show 1 ≤ n + 1 by omega)
    have hr_arguments := hr.mono (show 1 ≤ n + 1 by omega)
    have hr_made := hr.mono (show 1 ≤ n + 1 by omega)
    obtain ⟨ax, w1, ws, rfl, hax, h1, t1⟩ := enc_inv dv
    refine ⟨_, (pss_cons (ps_if (pt_cmpR op_eq (pe_ix ix_tup (pv 0) pe_int (fun _ _ => rfl)) pe_str (nomark _)) (pss_one (ps_ret (pv 0))) pss_nil)
  (pss_cons (ps_if (pt_cmpR op_eq (pe_ix ix_tup (pv 0) pe_int (fun _ _ => rfl)) pe_str (nomark _)) (pss_one (ps_ret (pe_tup (pa_cons pe_str (pa_cons (pe_g T.c_lagain G_lagain hg hr_lagain rfl pass0 (pa_cons (pe_ix ix_tup (pv 0) pe_int (fun _ _ => rfl)) pa_nil)) pa_nil))))) pss_nil)
  (pss_cons (ps_if (pt_cmpR op_in_seq (pe_ix ix_tup (pv 0) pe_int (fun _ _ => rfl)) (pe_lst (pa_cons pe_str (pa_cons pe_str pa_nil))) rfl) (pss_one (ps_ret (pe_op op_catA (pe_tup (pa_cons (pe_ix ix_tup (pv 0) pe_int (fun _ _ => rfl)) (pa_cons (pe_callTy call_tuple_of rfl T.z_tuple (by decide +kernel) (pa_cons (pe_lc (own := [("item", 2)]) rfl nd (pi_tup (pe_ix ix_tup (pv 0) pe_int (fun _ _ => rfl))) (blkOk_by (N := ["thing", "part", "item"]) (sc := defScope s_lagain) (by decide +kernel)) (fun _ _ _ _ _ => pg_name (i := 2) nd rfl (by first | exact Or.inl rfl | exact Or.inr rfl)) (fun _ _ _ _ _ => pts_nil) (fun _ _ _ _ _ => (pe_g T.c_lagain G_lagain hg hr_lagain rfl pass0 (pa_cons (pv 2) pa_nil)))) pa_nil)) pa_nil))) (pe_slice sl_tupA (pv 0) (po_some pe_int) po_none)))) pss_nil)
  (pss_one (ps_ret (pe_g T.c_made G_made hg hr_made rfl pass0 (pa_cons (pe_g T.c_origin G_origin hg hr_origin rfl pass0 (pa_cons (pv 0) pa_nil)) (pa_cons (pe_callTy call_tuple_of rfl T.z_tuple (by decide +kernel) (pa_cons (pe_lc (own := [("part", 1)]) rfl nd (pi_tup (pe_g T.c_arguments G_arguments hg hr_arguments rfl pass0 (pa_cons (pv 0) pa_nil))) (blkOk_by (N := ["thing", "part", "item"]) (sc := defScope s_lagain) (by decide +kernel)) (fun _ _ _ _ _ => pg_name (i := 1) nd rfl (by first | exact Or.inl rfl | exact Or.inr rfl)) (fun _ _ _ _ _ => pts_nil) (fun _ _ _ _ _ => (pe_g T.c_lagain G_lagain hg hr_lagain rfl pass0 (pa_cons (pv 1) pa_nil)))) pa_nil)) pa_nil)))))))), ?_⟩
    walk_at "rd"
    have wg := cd.wgt
    have dp := cd.dep
    rcases kinds cd.is with ⟨x, rfl⟩ | ⟨t, rfl⟩ | ⟨⟨e1, e2, e3⟩, es, ei⟩ | ⟨⟨e1, e2, e3⟩, k0⟩
    · refine ifT (by show decide (("*" : Str) = ("*" : Str)) = true; decide +kernel) ?_
      walk_at "rd"
      exact k _ H Up.rf dv
    · refine ifF (by show decide (("..." : Str) = ("*" : Str)) = false; decide +kernel) ?_
      walk_at "rd"
      refine ifT (by show decide (("..." : Str) = ("..." : Str)) = true; decide +kernel) ?_
      walk_at "rd"
      refine ⟨w1, t, 0, rfl, h1, cd.in_dots, by simp only [enc, PyData.depth, PyData.depthAll] at hd'; omega, by omega, fun v' H2 u2 d2 => ?_⟩
      walk_at "rd"
      rename_i p3 H3 n3 u3 g3
      exact k _ H3 (u2.tr u3) (.tup g3 (.cons (.str _) (.cons (d2.up u3) .nil)))
    · refine ifF e1 ?_
      walk_at "rd"
      refine ifF e2 ?_
      walk_at "rd"
      rename_i p2 H2 n2 u2 g2
      refine ifT e3 ?_
      have hnd : isNd p = false := by rw [← nd_hd p (isK_hok cd.is), e3]; rfl
      rw [es] at h1
      obtain ⟨c, ys, rfl, gc, dc⟩ := h1.tup_inv
      walk_at "rd"
      have wi : (inn p).length ≤ 90000 := by
        have := inn_len p
        have := pre_kw p
        omega
      refine agains (n := n) u2 (u2 _ _ gc) (dc.up u2) (fun q hq => ?_) (by omega) wi rfl (fun _ => rfl) (fun _ => rfl) fun D acc H3 u3 hD da => ?_
      · obtain ⟨cq, dq⟩ := cd.innc hnd hq
        exact ⟨2, cq, by omega⟩
      walk_at "rd"
      refine ⟨D, acc, rfl, Or.inl ⟨SqL.of hD, fun t ht => ?_⟩⟩
      have u4 : Up H3 (upd H3 t (.tup acc)) := Up.new ht
      have g4 : upd H3 t (.tup acc) t = some (.tup acc) := upd_same
      generalize upd H3 t (.tup acc) = H4 at u4 g4 ⊢
      walk_at "rd"
      rename_i p5 H5 n5 u5 g5
      have hax5 := (u3.tr (u4.tr u5)) _ _ hax
      refine r_slA hax5 fun p6 H6 u6 g6 => ?_
      rw [show (some (2 : Int)) = some ((2 : Nat) : Int) from rfl, cut_from (k := 2)] at g6
      walk_at "rd"
      refine r_catA (u6 _ _ g5) g6 ?_ fun p7 H7 u7 g7 => ?_
      · have := t1.length
        have hm : (more p).length ≤ 1 := by cases p <;> simp [more]
        simp only [List.length_cons, List.length_nil, List.drop_succ_cons, List.drop_zero]
        omega
      refine k _ H7 (u3.tr (u4.tr (u5.tr (u6.tr u7)))) ?_
      rw [enc_eq, es]
      exact .tup g7 (.cons (.str _) (.cons (.tup ((u5.tr (u6.tr u7)) _ _ g4) (da.up (u4.tr (u5.tr (u6.tr u7))))) (t1.up (u3.tr (u4.tr (u5.tr (u6.tr u7)))))))
    · refine ifF e1 ?_
      walk_at "rd"
      refine ifF e2 ?_
      walk_at "rd"
      rename_i p2 H2 n2 u2 g2
      refine ifF e3 ?_
      have c0 : Cd 0 40 90000 p := ⟨k0, cd.lay, cd.dep, cd.bar, cd.wgt⟩
      walk_at "rd"
      refine ⟨_, p, rfl, dv.up u2, fun H3 u3 => ?_⟩
      walk_at "rd"
      refine ⟨_, p, rfl, (dv.up u2).up u3, isK_hok k0, tm_of k0, fun a xs H4 u4 ga da => ?_⟩
      rw [argD_P] at da
      have wi : (argP p).length ≤ 90000 := by
        have h1 := pre_kw p
        have h2 := argP_len p
        omega
      refine agains (n := n) (u2.tr (u3.tr u4)) ga da (fun q hq => ?_) (by omega) wi rfl (fun _ => rfl) (fun _ => rfl) fun D acc H5 u5 hD dq => ?_
      · obtain ⟨j, j2, cq, dq⟩ := c0.tight.argc hq
        exact ⟨j, cq.mono (by omega) wg, by omega⟩
      walk_at "rd"
      refine ⟨D, acc, rfl, Or.inl ⟨SqL.of hD, fun t ht => ?_⟩⟩
      have u6 : Up H5 (upd H5 t (.tup acc)) := Up.new ht
      have g6 : upd H5 t (.tup acc) t = some (.tup acc) := upd_same
      generalize upd H5 t (.tup acc) = H6 at u6 g6 ⊢
      have la := das_len dq
      walk_at "rd"
      refine ⟨Gd.hd p, t, acc, rfl, g6, by omega, fun b H7 u7 g7 => ?_⟩
      exact k _ H7 (u5.tr (u6.tr u7)) (made_da k0 g7 (u7 _ _ g6) (dq.up (u6.tr u7)))
def sp_lparts_size : Sp := fun vs H Q _ => ∃ (v : V) (p : Gd.P), vs = [v] ∧ Da H v (enc p) ∧ Cd 0 40 90000 p ∧ ∀ (H' : Hp), Up H H' → Q (.int ((lsz p : Nat) - 1 : Int)) H'
theorem ok_lparts_size (T : TX K mg w) : FG P w K mg base CX0 42 T.f_lparts_size T.d_lparts_size ["term"] sp_lparts_size := by
  have G_arguments := ok_arguments (P := P) (w := w) (base := base) T
  have G_size := ok_size (P := P) (w := w) (base := base) T
  have G_lsize := ok_lsize (P := P) (w := w) (base := base) T 41
  refine Gd.ok T.F_lparts_size sc_lparts_size (fun vs H Q E h => ?_) (fun cdv A out s H vs Q E hg hr h => ?_)
  · obtain ⟨v, p, rfl, _⟩ := h
    rfl
  · obtain ⟨v, p, rfl, dv, cd, k⟩ := h
    have nd := sc_lparts_size.nd
    have hr_arguments := hr.mono (show 1 ≤ 41 by decide)
    have hr_size := hr.mono (show 3 ≤ 41 by decide)
    have hr_lsize := hr.mono (show 41 ≤ 41 by decide)
    have wi : (argP p).length ≤ 90000 := by
      have h1 := pre_kw p
      have h2 := argP_len p
      have := cd.wgt
      omega
    refine ⟨_, (pss_cons (ps_set (i := 1) nd rfl (by first | exact Or.inl rfl | exact Or.inr rfl) pe_int)
  (pss_cons (ps_for PassesOwn.never rfl (pi_tup (pe_g T.c_arguments G_arguments hg hr_arguments rfl pass0 (pa_cons (pv 0) pa_nil))) (pg_name (i := 2) nd rfl (by first | exact Or.inl rfl | exact Or.inr rfl)) (pss_one (ps_set (i := 1) nd rfl (by first | exact Or.inl rfl | exact Or.inr rfl) (pe_op op_add (pv 1) (pe_ifExp (pt_cmpR op_notIn_seq (pe_ix ix_tup (pv 2) pe_int (fun _ _ => rfl)) (pe_lst (pa_cons pe_str (pa_cons pe_str pa_nil))) rfl) (pe_g T.c_size G_size hg hr_size rfl pass0 (pa_cons (pv 2) pa_nil)) (pe_g T.c_lsize G_lsize hg hr_lsize rfl pass0 (pa_cons (pv 2) pa_nil)))))))
  (pss_one (ps_ret (pv 1))))), ?_⟩
    walk_at "rd"
    refine ⟨v, p, rfl, dv, isK_hok cd.is, tm_of cd.is, fun a xs H1 u1 ga da => ?_⟩
    rw [argD_P] at da
    have lx := das_len da
    refine ⟨a, rfl, ⟨xs, SqT.of ga⟩, for_tup (K := K) (a := a) (xs := xs) (fun i σ H2 => ∃ (x2 : Option V), σ = [some v, some (.int (lszs ((argP p).take i) : Nat)), x2] ∧ Up H1 H2) ⟨none, rfl, Up.rf⟩ (fun i σ H2 _ ⟨_, _, u⟩ => SqT.of (u _ _ ga)) ?_ ?_⟩
    · rintro i y σ H2 hy ⟨x2, rfl, u2⟩
      obtain ⟨q, hq, dq⟩ := das_at da hy
      have qm : q ∈ argP p := List.mem_of_getElem? hq
      obtain ⟨j, j2, cq, dpq⟩ := cd.argc qm
      have cqd := cq.dep
      have cqw := cq.wgt
      obtain ⟨ay, y1, ys, rfl, hay, _, _⟩ := enc_inv dq
      have hay2 := u2 _ _ hay
      have es : lszs ((argP p).take (i + 1)) = lszs ((argP p).take i) + lsz q := by
        rw [List.take_add_one, hq, Option.toList_some]
        exact lszs_snoc _ _
      walk_at "rd"
      rename_i p3 H3 n3 u3 g3
      refine r_ni2L g3 ?_
      rw [nd_hd q (isK_hok cq.is)]
      have dq3 := (dq.up u2).up u3
      cases hi : isNd q with
      | true =>
        walk_at "rc"
        refine ⟨_, q, rfl, dq3, isK_pre q j cq.is, by omega, fun H4 u4 => ?_⟩
        walk_at "rd"
        refine ⟨some (.ref ay), ?_, u2.tr (u3.tr u4)⟩
        rw [es, lsz_siz q, Int.natCast_add]
        rfl
      | false =>
        walk_at "rc"
        refine ⟨_, .pt q, rfl, dq3, ⟨j, cq.is⟩, by show (enc q).depth < 41; omega, by show kw (enc q) ≤ _; omega, fun H4 u4 => ?_⟩
        walk_at "rd"
        refine ⟨some (.ref ay), ?_, u2.tr (u3.tr u4)⟩
        rw [es, Int.natCast_add]
        rfl
    · rintro σ H2 ⟨x2, rfl, u2⟩
      rw [lx, List.take_of_length_le (Nat.le_refl _)]
      walk_at "rd"
      have e : ((lsz p : Nat) - 1 : Int) = ((lszs (argP p) : Nat) : Int) := by rw [lsz_arg cd.is]; omega
      have z := k H2 (u1.tr u2)
      rw [e] at z
      exact z
def sp_ltold_joined : Sp := fun vs H Q _ => ∃ (a : Addr) (xs : List V) (ms : List Gd.P), vs = [.ref a] ∧ H a = some (.tup xs) ∧ Das H xs (encs ms) ∧ Cd 0 40 80000 (.uni ms) ∧
  ∀ (v : V) (H' : Hp), Up H H' → Da H' v (enc (.uni ms)) → Q v H'
theorem ok_ltold_joined (T : TX K mg w) : FG P w K mg base CX0 6 T.f_ltold_joined T.d_ltold_joined ["members"] sp_ltold_joined := by
  have G_joined := ok_joined (P := P) (w := w) (base := base) T
  refine Gd.ok T.F_ltold_joined sc_ltold_joined (fun vs H Q E h => ?_) (fun cdv A out s H vs Q E hg hr h => ?_)
  · obtain ⟨a, xs, ms, rfl, _⟩ := h
    rfl
  · obtain ⟨a, xs, ms, rfl, ha, dx, cd, k⟩ := h
    have nd := sc_ltold_joined.nd
    have hr_joined := hr
    obtain ⟨b, d2, l2, c⟩ := cd.in_uni
    have l64 := cd.ok.uni_len
    have ndk : (ms.map lkP).Nodup := by have := cd.is; simp only [isK] at this; exact this.2.2.1
    have is4 : ∀ m ∈ ms, isK m 4 := fun m hm => (c m hm).is
    have lx := das_len dx
    refine ⟨_, (pss_cons (ps_set (i := 1) nd rfl (by first | exact Or.inl rfl | exact Or.inr rfl) (pe_ix ix_tup (pv 0) pe_int (fun _ _ => rfl)))
  (pss_cons (ps_for PassesOwn.never rfl (pi_tup (pe_slice sl_tupA (pv 0) (po_some pe_int) po_none)) (pg_name (i := 2) nd rfl (by first | exact Or.inl rfl | exact Or.inr rfl)) (pss_one (ps_set (i := 1) nd rfl (by first | exact Or.inl rfl | exact Or.inr rfl) (pe_s T.c_joined G_joined hg hr_joined rfl pass0 (pa_cons (pv 1) (pa_cons (pv 2) pa_nil))))))
  (pss_one (ps_ret (pv 1))))), ?_⟩
    rcases xs with _ | ⟨x0, xr⟩
    · simp only [List.length_nil] at lx; omega
    obtain ⟨m0, hm0, d0⟩ := das_at dx (i := 0) rfl
    walk_at "rd"
    rename_i p1 H1 u1 g1
    simp only [List.length_cons] at lx
    refine ⟨p1, rfl, ⟨xr, SqT.of g1⟩, for_tup (K := K) (a := p1) (xs := xr) (fun i σ H2 => ∃ (f : V) (x2 : Option V), σ = [some (.ref a), some f, x2] ∧ Up H H2 ∧ Up H1 H2 ∧ Da H2 f (enc (asP (ms.take (i + 1)))))
      ⟨x0, none, rfl, u1, Up.rf, ?_⟩ (fun i σ H2 _ ⟨_, _, _, _, u, _⟩ => SqT.of (u _ _ g1)) ?_ ?_⟩
    · have e : ms.take (0 + 1) = [m0] := by rw [List.take_add_one, hm0]; rfl
      rw [e]
      exact d0.up u1
    · rintro i y σ H2 hy ⟨f, x2, rfl, u2, u12, df⟩
      obtain ⟨m, hm, dm⟩ := das_at dx (i := i + 1) hy
      have mm : m ∈ ms := List.mem_of_getElem? hm
      have et : ms.take (i + 1 + 1) = ms.take (i + 1) ++ [m] := by rw [List.take_add_one, hm]; rfl
      have hne : ms.take (i + 1) ≠ [] := fun e => by
        have := congrArg List.length e
        rw [List.length_take, List.length_nil] at this
        omega
      have h4 : ∀ x ∈ ms.take (i + 1) ++ [m], isK x 4 := fun x hx => by
        rw [← et] at hx
        exact is4 x (List.mem_of_mem_take hx)
      have n4 : ((ms.take (i + 1) ++ [m]).map lkP).Nodup := by rw [← et]; exact nd_take ndk
      have ka := asP_k (fun x hx => h4 x (List.mem_append_left _ hx)) hne (nd_take ndk)
      walk_at "rd"
      refine ⟨by rw [sizeLine_eq]; simp, fun pp hp => ⟨pp, _, [asP (ms.take (i + 1)), m], rfl, upd_same, .cons (df.up (Up.new hp)) (.cons ((dm.up u2).up (Up.new hp)) .nil), fun z hz => ?_, ?_, by simp, by
        have a1 := (cd.asP (i := i)).wgt
        have a2 := kw_in mm
        have a3 := cd.wgt
        simp only [enc, kw] at a2 a3
        simp only [encs, kws]
        omega, fun v H3 u3 dv => ?_⟩⟩
      · simp only [List.mem_cons, List.not_mem_nil, or_false] at hz
        rcases hz with rfl | rfl
        · exact cd.asP.mono (by omega) (by omega)
        · have := kw_in mm
          exact (c z mm).of4.mono (by omega) (by omega)
      · rw [List.flatMap_cons, List.flatMap_cons, List.flatMap_nil, List.append_nil, ka.2, memb4 (is4 m mm), List.length_append, List.length_take, List.length_singleton]
        omega
      · walk_at "rd"
        refine ⟨v, _, rfl, u2.tr ((Up.new hp).tr u3), u12.tr ((Up.new hp).tr u3), ?_⟩
        rw [et, ← asP_step h4 hne n4]
        exact dv
    · rintro σ H2 ⟨f, x2, rfl, u2, u12, df⟩
      have e : asP (ms.take (xr.length + 1)) = .uni ms := by
        rw [List.take_of_length_le (by omega)]
        match ms, l2 with
        | _ :: _ :: _, _ => rfl
      rw [e] at df
      walk_at "rd"
      exact k f H2 u2 df
end

section
variable {P : Program} {w : World} {K : PySem.W.Frag} {mg : Str → Option Value} {base : Heap}
def sp_law (K : PySem.W.Frag) : Sp := fun vs H Q _ => ∃ (a : Addr) (ns : List Int), vs = [.ref a] ∧ SqL K H a (ns.map V.int) ∧ ns.length ≤ 63 ∧ ∀ H', Q (.bl true) H'
theorem law_ask (K : PySem.W.Frag) (H : Hp) (a : Addr) (ns : List Int) (hl : ns.length ≤ 63) (ho : Only H) (hs : SqL K H a (ns.map V.int)) : sp_law K [.ref a] H (fun v _ => v = .bl true) fun _ _ _ => False := ⟨a, ns, rfl, hs, hl, fun _ => rfl⟩
def lawK : Nat := 64
theorem ok_law (T : TX K mg w) : FG P w K mg base CX0 lawK T.f_law T.d_law ["script"] (sp_law K) := by
  have G_lbag := ok_lbag (P := P) (w := w) (base := base) T
  have G_ltake := ok_ltake (P := P) (w := w) (base := base) T
  have G_lnames := ok_lnames (P := P) (w := w) (base := base) T
  have G_lsmall := ok_lsmall (P := P) (w := w) (base := base) T
  have G_lmixed := ok_lmixed (P := P) (w := w) (base := base) T 25
  have G_lagain := ok_lagain (P := P) (w := w) (base := base) T 42
  have G_lparts_size := ok_lparts_size (P := P) (w := w) (base := base) T
  have G_ltold_joined := ok_ltold_joined (P := P) (w := w) (base := base) T
  have G_equal := ok_equal (P := P) (w := w) (base := base) T
  have G_size := ok_size (P := P) (w := w) (base := base) T
  have G_origin := ok_origin (P := P) (w := w) (base := base) T
  have G_arguments := ok_arguments (P := P) (w := w) (base := base) T
  have G_made := ok_made (P := P) (w := w) (base := base) T
  refine Gd.ok T.F_law sc_law (fun vs H Q E h => ?_) (fun cdv A out s H vs Q E hg hr h => ?_)
  · obtain ⟨a, ns, rfl, _⟩ := h
    rfl
  · obtain ⟨a, ns, rfl, ha, hn, k⟩ := h
    have nd := sc_law.nd
    have hu := hr.units
    have hr_lbag := hr.mono (show 1 ≤ 63 by decide)
    have hr_ltake := hr.mono (show 1 ≤ 63 by decide)
    have hr_lnames := hr.mono (show 2 ≤ 63 by decide)
    have hr_lsmall := hr.mono (show 56 ≤ 63 by decide)
    have hr_lmixed := hr.mono (show 25 + 1 ≤ 63 by decide)
    have hr_lagain := hr.mono (show 42 + 1 ≤ 63 by decide)
    have hr_lparts_size := hr.mono (show 42 ≤ 63 by decide)
    have hr_ltold_joined := hr.mono (show 6 ≤ 63 by decide)
    have hr_equal := hr.mono (show 4 ≤ 63 by decide)
    have hr_size := hr.mono (show 3 ≤ 63 by decide)
    have hr_origin := hr.mono (show 1 ≤ 63 by decide)
    have hr_arguments := hr.mono (show 1 ≤ 63 by decide)
    have hr_made := hr.mono (show 1 ≤ 63 by decide)
    refine ⟨_, (pss_cons (ps_for PassesOwn.never rfl (pi_range1 rfl T.z_range (pa_cons (pe_callB (call_max2 rfl) rfl T.z_max (by decide +kernel) (pa_cons pe_int (pa_cons (pe_callB (call_min2 rfl) rfl T.z_min (by decide +kernel) (pa_cons pe_int (pa_cons (pe_callB call_len_seq rfl T.z_len PySem.boot_len (pa_cons (pv 0) pa_nil)) pa_nil))) pa_nil))) pa_nil)) (pg_name (i := 1) nd rfl (by first | exact Or.inl rfl | exact Or.inr rfl)) (pss_cons (ps_set (i := 2) nd rfl (by first | exact Or.inl rfl | exact Or.inr rfl) (pe_g T.c_lbag G_lbag hg hr_lbag rfl pass0 (pa_cons (pv 0) (pa_cons (pv 1) pa_nil))))
  (pss_cons (ps_set (i := 3) nd rfl (by first | exact Or.inl rfl | exact Or.inr rfl) (pe_g T.c_lnames G_lnames hg hr_lnames rfl pass0 (pa_cons (pv 2) (pa_cons pe_int pa_nil))))
  (pss_one (ps_for PassesOwn.never rfl (pi_range1 rfl T.z_range (pa_cons pe_int pa_nil)) (pg_name (i := 4) nd rfl (by first | exact Or.inl rfl | exact Or.inr rfl)) (pss_cons (ps_set (i := 5) nd rfl (by first | exact Or.inl rfl | exact Or.inr rfl) (pe_g T.c_lsmall G_lsmall hg hr_lsmall rfl pass0 (pa_cons (pv 2) (pa_cons (pv 3) (pa_cons (pe_op op_add pe_int (pe_g T.c_ltake G_ltake hg hr_ltake rfl pass0 (pa_cons (pv 2) (pa_cons pe_int pa_nil)))) (pa_cons pe_int pa_nil))))))
  (pss_cons (ps_set (i := 6) nd rfl (by first | exact Or.inl rfl | exact Or.inr rfl) (pe_g T.c_made G_made hg hr_made rfl pass0 (pa_cons (pe_g T.c_origin G_origin hg hr_origin rfl pass0 (pa_cons (pv 5) pa_nil)) (pa_cons (pe_callTy call_tuple_of rfl T.z_tuple (by decide +kernel) (pa_cons (pe_lc (own := [("part", 7)]) rfl nd (pi_tup (pe_g T.c_arguments G_arguments hg hr_arguments rfl pass0 (pa_cons (pv 5) pa_nil))) (blkOk_by (N := ["script", "at", "bag", "names", "turn", "term", "other", "part"]) (sc := defScope s_law) (by decide +kernel)) (fun _ _ _ _ _ => pg_name (i := 7) nd rfl (by first | exact Or.inl rfl | exact Or.inr rfl)) (fun _ _ _ _ _ => pts_nil) (fun _ _ _ _ _ => (pe_g T.c_lmixed G_lmixed hg hr_lmixed rfl pass0 (pa_cons (pv 2) (pa_cons (pv 7) pa_nil))))) pa_nil)) pa_nil))))
  (pss_cons (ps_if (PW.pt (pw_or (pt_not (pt_val (pe_g T.c_equal G_equal hg hr_equal rfl pass0 (pa_cons (pv 5) (pa_cons (pv 6) pa_nil))))) (pw_or (pt_cmpR (op_neD hu) (pe_g T.c_lagain G_lagain hg hr_lagain rfl pass0 (pa_cons (pv 5) pa_nil)) (pv 5) (nomark _)) (pw_or1 (pt_cmpR op_ne (pe_g T.c_lparts_size G_lparts_size hg hr_lparts_size rfl pass0 (pa_cons (pv 5) pa_nil)) (pe_op op_sub (pe_g T.c_size G_size hg hr_size rfl pass0 (pa_cons (pv 5) pa_nil)) pe_int) (nomark _)))))) (pss_one (ps_ret pe_bl)) pss_nil)
  (pss_cons (ps_if (PW.pt (pw_and (pt_cmpR op_eq (pe_g T.c_origin G_origin hg hr_origin rfl pass0 (pa_cons (pv 5) pa_nil)) pe_str (nomark _)) (pw_and1 (pt_cmpR (op_neD hu) (pe_g T.c_ltold_joined G_ltold_joined hg hr_ltold_joined rfl pass0 (pa_cons (pe_g T.c_arguments G_arguments hg hr_arguments rfl pass0 (pa_cons (pv 5) pa_nil)) pa_nil)) (pv 5) (nomark _))))) (pss_one (ps_ret pe_bl)) pss_nil)
  (pss_one (ps_if (pt_cmpR op_notIn_seq (pe_g T.c_origin G_origin hg hr_origin rfl pass0 (pa_cons (pv 5) pa_nil)) (pe_lst (pa_cons pe_str (pa_cons pe_str pa_nil))) rfl) (pss_cons (ps_if (pt_val (pe_g T.c_equal G_equal hg hr_equal rfl pass0 (pa_cons (pv 5) (pa_cons (pe_g T.c_made G_made hg hr_made rfl pass0 (pa_cons (pe_ifExp (pt_cmpR op_ne (pe_g T.c_origin G_origin hg hr_origin rfl pass0 (pa_cons (pv 5) pa_nil)) (pe_op op_mulS pe_str pe_int) (nomark _)) (pe_op op_mulS pe_str pe_int) (pe_op op_mulS pe_str pe_int)) (pa_cons (pe_g T.c_arguments G_arguments hg hr_arguments rfl pass0 (pa_cons (pv 5) pa_nil)) pa_nil))) pa_nil)))) (pss_one (ps_ret pe_bl)) pss_nil)
  (pss_one (ps_if (PW.pt (pw_and (pt_cmpR (op_neD hu) (pe_g T.c_arguments G_arguments hg hr_arguments rfl pass0 (pa_cons (pv 5) pa_nil)) (pe_tup pa_nil) (nomark _)) (pw_and1 (pt_val (pe_g T.c_equal G_equal hg hr_equal rfl pass0 (pa_cons (pv 5) (pa_cons (pe_g T.c_made G_made hg hr_made rfl pass0 (pa_cons (pe_g T.c_origin G_origin hg hr_origin rfl pass0 (pa_cons (pv 5) pa_nil)) (pa_cons (pe_slice sl_tupA (pe_g T.c_arguments G_arguments hg hr_arguments rfl pass0 (pa_cons (pv 5) pa_nil)) (po_some pe_int) po_none) pa_nil))) pa_nil))))))) (pss_one (ps_ret pe_bl)) pss_nil))) pss_nil)))))))))))
  (pss_one (ps_ret pe_bl))), ?_⟩
    walk_at "rd"
    refine ⟨a, _, rfl, Or.inl ha, ?_⟩
    walk_at "rd"
    generalize ((List.map V.int ns).length : Int) = L
    generalize hj : (if (if L < 2 then L else 2) > 1 then (if L < 2 then L else 2) else 1 : Int) = j
    have hj2 : 0 ≤ j ∧ j ≤ 2 := by
      subst hj
      split <;> split at * <;> omega
    obtain ⟨j0, j2⟩ := hj2
    refine ⟨by omega, by omega, for_range (lo := 0) (n := j.toNat) (fun i σ H1 => ∃ (x1 x2 x3 x4 x5 x6 x7 : Option V), σ = [some (.ref a), x1, x2, x3, x4, x5, x6, x7] ∧ Up H H1) ⟨_, _, _, _, _, _, _, rfl, Up.rf⟩ ?_ ?_⟩
    · rintro i σ H1 hi ⟨x1, x2, x3, x4, x5, x6, x7, rfl, u1⟩
      walk_at "rd"
      refine ⟨a, _, ns, rfl, SqLup u1 ha, by omega, by omega, fun b H2 n2 u2 b2 => ?_⟩
      walk_at "rd"
      refine ⟨b, 11, rfl, b2, by decide, by decide, fun q st f pc H3 n3 m3 b3 l3 hc f0 f1 hpc g3 => ?_⟩
      have q3 : Nms H3 b q ((List.range 11).map fun n => nmAt st f pc n) := ⟨by rw [List.map_map]; exact g3, by simp, fun x hx => by
        obtain ⟨n, _, rfl⟩ := List.mem_map.mp hx
        exact nmAt_good l3 hc, b2.ne n3⟩
      have nb : H b = none := u1.fr n2
      have u03 : Up H H3 := (u1.tr u2).of nb m3
      generalize (List.range 11).map (fun n => nmAt st f pc n) = ws at q3
      walk_at "rd"
      refine ⟨by decide, by decide, for_range (lo := 0) (n := 8) (fun t σ H4 => ∃ (x4 x5 x6 x7 : Option V), σ = [some (.ref a), some (.int (0 + i)), some (.ref b), some (.ref q), x4, x5, x6, x7] ∧ Mv b H3 H4 ∧ Bag H4 b ∧ Nms H4 b q ws) ⟨_, _, _, _, rfl, Mv.rf, b3, q3⟩ ?_ ?_⟩
      · rintro t σ H4 ht ⟨x4, x5, x6, x7, rfl, m4, b4, q4⟩
        walk_at "rd"
        refine ⟨b, 3, rfl, b4, by decide, by decide, fun r H5 r0 r1 m5 b5 => ?_⟩
        obtain ⟨rn, rfl⟩ := Int.eq_ofNat_of_zero_le r0
        walk_at "rd"
        refine ⟨b, q, ws, 1 + rn, 40, by rw [show (1 : Int) + (rn : Int) = ((1 + rn : Nat) : Int) by omega], b5, q4.mv m5, by omega, fun v p H6 m6 b6 d6 t6 z6 => ?_⟩
        have q6 := (q4.mv m5).mv m6
        have m46 := m4.tr (m5.tr m6)
        have wl := Wd_le (show 1 + rn ≤ 3 by omega)
        have dp6 := t6.cd.dep
        have wg6 := t6.cd.wgt
        have cd0 : Cd 0 17 9000 p := t6.cd.mono (by omega) (by omega)
        have cdb : Cd 0 40 90000 p := cd0.mono (by omega) (by omega)
        have k0 := cd0.is
        have hp0 := cdb.hokV (Nat.le_refl _)
        walk_at "rd"
        refine ⟨v, p, rfl, d6, fun H7 u7 => ?_⟩
        walk_at "rd"
        refine ⟨v, p, rfl, d6.up u7, isK_hok k0, tm_of k0, fun a2 xs H8 u8 ga da => ?_⟩
        rw [argD_P] at da
        have lx := das_len da
        have b8 := (b6.up u7).up u8
        have wi : (argP p).length ≤ 90000 := by
          have h1 := pre_kw p
          have h2 := argP_len p
          omega
        refine lc_T ga (by omega) (fun D i acc H9 => ∃ qs : List Gd.P, Mv b H8 H9 ∧ Bag H9 b ∧ Nms H9 b q ws ∧ Tk H8 H9 ∧ Das H9 acc (encs qs) ∧ A2 Mx ((argP p).take i) qs) (fun D H9 n9 u9 g9 => ⟨[], u9.mv, b8.up u9, ((q6.up u7).up u8).up u9, u9.tk, .nil, .nil⟩) (fun D i acc H9 ⟨_, r⟩ => r.2.2.2.1 _ _ ga) ?_ ?_
        · rintro D i' y acc H9 nD hy ⟨qs, m9, b9, q9, k9, dq, aq⟩ hacc hi' hD
          obtain ⟨x, hx, dx⟩ := das_at da hy
          obtain ⟨jj, jn, cx, dpx⟩ := cd0.argc (List.mem_of_getElem? hx)
          have cxd := cx.dep
          have cxw := cx.wgt
          walk_at "rd"
          refine ⟨b, y, .pt x, rfl, b9, dx.tk k9, ⟨jj, cx.is⟩, cx.lay, by show (enc x).depth < 25; omega, by decide, cx.bar, by show kw (enc x) ≤ _; omega, fun v' z' H10 m10 b10 d10 r10 => ?_⟩
          cases z' with
          | pt x' =>
            have hx1 : Mx x x' := r10
            have nDb : D ≠ b := b8.ne nD
            have hD10 := m10 _ _ nDb hD
            refine LcE.of hD10 hacc hi' fun H11 m11 g11 => ⟨qs ++ [x'], (m9.tr m10).of nD m11, b10.mv nDb.symm m11, (q9.mv m10).wr (ne_of_none ((q6.up u7).up u8).at_ nD) m11, (k9.tr (b9.tk m10)).tr (m11.tk hD10), ?_, ?_⟩
            · rw [encs_app]
              exact ((dq.tk (b9.tk m10)).tk (m11.tk hD10)).app (.cons (d10.tk (m11.tk hD10)) .nil)
            · rw [List.take_add_one, hx]
              exact aq.snoc hx1
          | _ => exact r10.elim
        · rintro D acc H9 nD ⟨qs, m9, b9, q9, k9, dq, aq⟩ hD
          rw [lx, List.take_of_length_le (Nat.le_refl _)] at aq
          obtain ⟨hx, hh, hq⟩ := Mx.args k0 aq
          walk_at "rd"
          refine ⟨D, acc, rfl, Or.inl ⟨SqL.of hD, fun t2 ht2 => ?_⟩⟩
          have u10 : Up H9 (upd H9 t2 (.tup acc)) := Up.new ht2
          have g10 : upd H9 t2 (.tup acc) t2 = some (.tup acc) := upd_same
          generalize upd H9 t2 (.tup acc) = H10 at u10 g10 ⊢
          have la := das_len dq
          have lq : qs.length = (argP p).length := aq.lenE.symm
          walk_at "rd"
          refine ⟨Gd.hd p, t2, acc, rfl, g10, by omega, fun b2 H11 u11 g11 => ?_⟩
          rw [← hh] at g11
          have dO : Da H11 (.ref b2) (enc (withA p qs)) := made_da (hx.is 0 k0) g11 (u11 _ _ g10) (by rw [hq]; exact dq.up (u10.tr u11))
          have cO := hx.cd cdb
          have d11 : Da H11 v (enc p) := (((d6.up u7).up u8).tk k9).up (u10.tr u11)
          have m11 : Mv b H3 H11 := m46.tr ((u7.tr u8).mv.tr (m9.tr (u10.tr u11).mv))
          have b11 := (b9.up u10).up u11
          have q11 := (q9.up u10).up u11
          clear g11
          walk_at "rd"
          refine ⟨v, .ref b2, p, withA p qs, rfl, d11, dO, hp0, cO.hokV (Nat.le_refl _), fun H12 u12 => ?_⟩
          rw [show decide (kc p = kc (withA p qs)) = true from decide_eq_true ((kc_lk k0 (hx.is 0 k0)).mpr hx.lk.symm)]
          walk_at "rc"
          refine ⟨v, p, 0, rfl, d11.up u12, cdb, by omega, by decide, fun v2 H13 u13 d13 => ?_⟩
          have d13' := (d11.up u12).up u13
          walk_at "rd"
          refine r_neSelf d13 d13' cdb.lay (by omega) ?_
          walk_at "rc"
          refine ⟨v, p, rfl, d13', cdb, fun H14 u14 => ?_⟩
          have d14 := d13'.up u14
          walk_at "rd"
          refine ⟨v, p, rfl, d14, isK_pre p 0 k0, by omega, fun H15 u15 => ?_⟩
          have d15 := d14.up u15
          rw [lsz_siz p]
          walk_at "rd"
          refine ifN (fun z => absurd rfl z) (fun _ => ?_)
          have u1115 : Up H11 H15 := u12.tr (u13.tr (u14.tr u15))
          have m15 := m11.tr u1115.mv
          have b15 := b11.up u1115
          have q15 := q11.up u1115
          clear d13 d13' d14 dO
          walk_at "rd"
          refine ⟨v, p, rfl, d15, fun H16 u16 => ?_⟩
          have d16 := d15.up u16
          have fin : ∀ (σ : L2.St) (H' : Hp) (y4 y5 y6 y7 : Option V), σ = [some (.ref a), some (.int (0 + i)), some (.ref b), some (.ref q), y4, y5, y6, y7] → Up H16 H' → ∃ (x4 x5 x6 x7 : Option V), σ = [some (.ref a), some (.int (0 + i)), some (.ref b), some (.ref q), x4, x5, x6, x7] ∧ Mv b H3 H' ∧ Bag H' b ∧ Nms H' b q ws :=
            fun σ H' y4 y5 y6 y7 e u => ⟨y4, y5, y6, y7, e, m15.tr (u16.tr u).mv, b15.up (u16.tr u), q15.up (u16.tr u)⟩
          walk_at "rd"
          cases p with
          | uni ms =>
            refine ifT (by show decide (("|" : Str) = ("|" : Str)) = true; decide +kernel) ?_
            walk_at "rd"
            refine ⟨v, .uni ms, rfl, d16, trivial, rfl, fun a3 ys H17 u17 ga3 da3 => ?_⟩
            walk_at "rd"
            refine ⟨a3, ys, ms, rfl, ga3, da3, cd0.mono (by omega) (by omega), fun v3 H18 u18 d18 => ?_⟩
            have d18' := (d16.up u17).up u18
            walk_at "rd"
            refine r_neSelf d18 d18' cdb.lay (by omega) ?_
            walk_at "rc"
            refine ⟨v, .uni ms, rfl, d18', fun H19 u19 => ?_⟩
            walk_at "rd"
            rename_i p20 H20 n20 u20 g20
            refine r_ni2L g20 ?_
            rw [show (!(decide (Gd.hd (.uni ms) = ("|" : Str)) || decide (Gd.hd (.uni ms) = ("->" : Str)))) = false from by show (!(decide (("|" : Str) = ("|" : Str)) || decide (("|" : Str) = ("->" : Str)))) = false; decide +kernel]
            walk_at "rc"
            exact fin _ _ _ _ _ _ rfl (u17.tr (u18.tr (u19.tr u20)))
          | sig i' r' =>
            refine ifF (by show decide (("->" : Str) = ("|" : Str)) = false; decide +kernel) ?_
            walk_at "rc"
            refine ⟨v, .sig i' r', rfl, d16, fun H17 u17 => ?_⟩
            walk_at "rd"
            rename_i p20 H20 n20 u20 g20
            refine r_ni2L g20 ?_
            rw [show (!(decide (Gd.hd (.sig i' r') = ("|" : Str)) || decide (Gd.hd (.sig i' r') = ("->" : Str)))) = false from by show (!(decide (("->" : Str) = ("|" : Str)) || decide (("->" : Str) = ("->" : Str)))) = false; decide +kernel]
            walk_at "rc"
            exact fin _ _ _ _ _ _ rfl (u17.tr u20)
          | use n vs =>
            obtain ⟨gn, _⟩ := cd0.in_use
            refine ifF (show decide (n = ("|" : Str)) = false from gn.apart.g) ?_
            walk_at "rc"
            refine ⟨v, .use n vs, rfl, d16, fun H17 u17 => ?_⟩
            walk_at "rd"
            rename_i p20 H20 n20 u20 g20
            refine r_ni2L g20 ?_
            rw [show (!(decide (Gd.hd (.use n vs) = ("|" : Str)) || decide (Gd.hd (.use n vs) = ("->" : Str)))) = true from by show (!(decide (n = ("|" : Str)) || decide (n = ("->" : Str)))) = true; rw [gn.apart.g, gn.apart.c]; rfl]
            walk_at "rc"
            have d20 := (d16.up u17).up u20
            refine ⟨v, .use n vs, rfl, d20, fun H21 u21 => ?_⟩
            walk_at "rd"
            refine r_mul6 (w := ("zzzzzz" : Str)) (by decide +kernel) (by decide +kernel) ?_
            walk_at "rd"
            refine ifN (fun hc => ?_) (fun hc => ?_)
            · skip
              walk_at "rd"
              refine r_mul6 (w := ("zzzzzz" : Str)) (by decide +kernel) (by decide +kernel) ?_
              walk_at "rd"
              refine ⟨v, .use n vs, rfl, d20.up u21, gn, rfl, fun a3 ys H22 u22 ga3 da3 => ?_⟩
              walk_at "rd"
              have ly := das_len (ps := vs) da3
              have lv : vs.length ≤ 90000 := wi
              have gm : good ("zzzzzz" : Str) := ⟨by decide +kernel, by decide +kernel, by decide +kernel⟩
              have cM : Cd 0 40 90000 (.use ("zzzzzz" : Str) vs) := (cd0.named gm).mono (by omega) (by omega)
              refine ⟨("zzzzzz" : Str), a3, ys, rfl, ga3, by omega, fun b3 H23 u23 g23 => ?_⟩
              have dM : Da H23 (.ref b3) (enc (.use ("zzzzzz" : Str) vs)) := made_da cM.is g23 (u23 _ _ ga3) (da3.up u23)
              clear g23
              have d23 := ((d20.up u21).up u22).up u23
              walk_at "rd"
              refine ⟨v, .ref b3, .use n vs, .use ("zzzzzz" : Str) vs, rfl, d23, dM, hp0, cM.hokV (Nat.le_refl _), fun H24 u24 => ?_⟩
              rw [show decide (kc (.use n vs) = kc (.use ("zzzzzz" : Str) vs)) = false from decide_eq_false (kc_name k0 cM.is hc)]
              have d24 := d23.up u24
              walk_at "rc"
              refine ⟨v, .use n vs, rfl, d24, gn, rfl, fun a4 zs H25 u25 ga4 da4 => ?_⟩
              walk_at "rd"
              rename_i p26 H26 n26 u26 g26
              have dA : Da H26 (.ref a4) (.tuple (encs vs)) := .tup (u26 _ _ ga4) (da4.up u26)
              have dl : (PyData.tuple (encs vs)).depth ≤ 64 := by
                have := cd0.dep
                simp only [enc, PyData.depth, PyData.depthAll] at this ⊢
                omega
              have ll : (PyData.tuple (encs vs)).canLay0 = true := by
                have h1 := cd0.lay
                simp only [enc] at h1
                rw [canLay_tup] at h1
                exact lay_mem h1 (m := .tuple (encs vs)) (by simp)
              have d26 := (d24.up u25).up u26
              have u1626 : Up H16 H26 := u17.tr (u20.tr (u21.tr (u22.tr (u23.tr (u24.tr (u25.tr u26))))))
              refine r_neD dA (.tup g26 .nil) ll dl rfl (by decide) ?_
              cases vs with
              | nil =>
                rw [show PyData.eqv (.tuple (encs [])) (.tuple []) = true from by rw [eqv_unit]; rfl]
                walk_at "rc"
                exact fin _ _ _ _ _ _ rfl u1626
              | cons w0 wr =>
                rw [show PyData.eqv (.tuple (encs (w0 :: wr))) (.tuple []) = false from by rw [eqv_unit]; rfl]
                walk_at "rc"
                refine ⟨v, .use n (w0 :: wr), rfl, d26, fun H27 u27 => ?_⟩
                walk_at "rd"
                refine ⟨v, .use n (w0 :: wr), rfl, d26.up u27, gn, rfl, fun a5 zs5 H28 u28 ga5 da5 => ?_⟩
                have l5 := das_len (ps := w0 :: wr) da5
                walk_at "rd"
                refine r_slA ga5 fun p29 H29 u29 g29 => ?_
                rw [show (some (1 : Int)) = some ((1 : Nat) : Int) from rfl, cut_from (k := 1)] at g29
                walk_at "rd"
                have cL : Cd 0 40 90000 (.use n ((w0 :: wr).drop 1)) := cd0.less.mono (by omega) (by omega)
                refine ⟨n, p29, zs5.drop 1, rfl, g29, by rw [List.length_drop]; omega, fun b6 H30 u30 g30 => ?_⟩
                have dL : Da H30 (.ref b6) (enc (.use n ((w0 :: wr).drop 1))) := made_da cL.is g30 (u30 _ _ g29) (by
                  have z := (da5.up (u29.tr u30)).drop 1
                  exact z)
                clear g30
                have d30 := d26.up (u27.tr (u28.tr (u29.tr u30)))
                walk_at "rd"
                refine ⟨v, .ref b6, .use n (w0 :: wr), .use n ((w0 :: wr).drop 1), rfl, d30, dL, hp0, cL.hokV (Nat.le_refl _), fun H31 u31 => ?_⟩
                rw [show decide (kc (.use n (w0 :: wr)) = kc (.use n ((w0 :: wr).drop 1))) = false from decide_eq_false (kc_less k0 cL.is (by simp))]
                walk_at "rc"
                exact fin _ _ _ _ _ _ rfl (u1626.tr (u27.tr (u28.tr (u29.tr (u30.tr u31)))))
            · have hcy : n ≠ ("yyyyyy" : Str) := fun e => by
                have hc : n = ("zzzzzz" : Str) := hc
                rw [hc] at e
                revert e
                decide +kernel
              walk_at "rd"
              refine r_mul6 (w := ("yyyyyy" : Str)) (by decide +kernel) (by decide +kernel) ?_
              walk_at "rd"
              refine ⟨v, .use n vs, rfl, d20.up u21, gn, rfl, fun a3 ys H22 u22 ga3 da3 => ?_⟩
              walk_at "rd"
              have ly := das_len (ps := vs) da3
              have lv : vs.length ≤ 90000 := wi
              have gm : good ("yyyyyy" : Str) := ⟨by decide +kernel, by decide +kernel, by decide +kernel⟩
              have cM : Cd 0 40 90000 (.use ("yyyyyy" : Str) vs) := (cd0.named gm).mono (by omega) (by omega)
              refine ⟨("yyyyyy" : Str), a3, ys, rfl, ga3, by omega, fun b3 H23 u23 g23 => ?_⟩
              have dM : Da H23 (.ref b3) (enc (.use ("yyyyyy" : Str) vs)) := made_da cM.is g23 (u23 _ _ ga3) (da3.up u23)
              clear g23
              have d23 := ((d20.up u21).up u22).up u23
              walk_at "rd"
              refine ⟨v, .ref b3, .use n vs, .use ("yyyyyy" : Str) vs, rfl, d23, dM, hp0, cM.hokV (Nat.le_refl _), fun H24 u24 => ?_⟩
              rw [show decide (kc (.use n vs) = kc (.use ("yyyyyy" : Str) vs)) = false from decide_eq_false (kc_name k0 cM.is hcy)]
              have d24 := d23.up u24
              walk_at "rc"
              refine ⟨v, .use n vs, rfl, d24, gn, rfl, fun a4 zs H25 u25 ga4 da4 => ?_⟩
              walk_at "rd"
              rename_i p26 H26 n26 u26 g26
              have dA : Da H26 (.ref a4) (.tuple (encs vs)) := .tup (u26 _ _ ga4) (da4.up u26)
              have dl : (PyData.tuple (encs vs)).depth ≤ 64 := by
                have := cd0.dep
                simp only [enc, PyData.depth, PyData.depthAll] at this ⊢
                omega
              have ll : (PyData.tuple (encs vs)).canLay0 = true := by
                have h1 := cd0.lay
                simp only [enc] at h1
                rw [canLay_tup] at h1
                exact lay_mem h1 (m := .tuple (encs vs)) (by simp)
              have d26 := (d24.up u25).up u26
              have u1626 : Up H16 H26 := u17.tr (u20.tr (u21.tr (u22.tr (u23.tr (u24.tr (u25.tr u26))))))
              refine r_neD dA (.tup g26 .nil) ll dl rfl (by decide) ?_
              cases vs with
              | nil =>
                rw [show PyData.eqv (.tuple (encs [])) (.tuple []) = true from by rw [eqv_unit]; rfl]
                walk_at "rc"
                exact fin _ _ _ _ _ _ rfl u1626
              | cons w0 wr =>
                rw [show PyData.eqv (.tuple (encs (w0 :: wr))) (.tuple []) = false from by rw [eqv_unit]; rfl]
                walk_at "rc"
                refine ⟨v, .use n (w0 :: wr), rfl, d26, fun H27 u27 => ?_⟩
                walk_at "rd"
                refine ⟨v, .use n (w0 :: wr), rfl, d26.up u27, gn, rfl, fun a5 zs5 H28 u28 ga5 da5 => ?_⟩
                have l5 := das_len (ps := w0 :: wr) da5
                walk_at "rd"
                refine r_slA ga5 fun p29 H29 u29 g29 => ?_
                rw [show (some (1 : Int)) = some ((1 : Nat) : Int) from rfl, cut_from (k := 1)] at g29
                walk_at "rd"
                have cL : Cd 0 40 90000 (.use n ((w0 :: wr).drop 1)) := cd0.less.mono (by omega) (by omega)
                refine ⟨n, p29, zs5.drop 1, rfl, g29, by rw [List.length_drop]; omega, fun b6 H30 u30 g30 => ?_⟩
                have dL : Da H30 (.ref b6) (enc (.use n ((w0 :: wr).drop 1))) := made_da cL.is g30 (u30 _ _ g29) (by
                  have z := (da5.up (u29.tr u30)).drop 1
                  exact z)
                clear g30
                have d30 := d26.up (u27.tr (u28.tr (u29.tr u30)))
                walk_at "rd"
                refine ⟨v, .ref b6, .use n (w0 :: wr), .use n ((w0 :: wr).drop 1), rfl, d30, dL, hp0, cL.hokV (Nat.le_refl _), fun H31 u31 => ?_⟩
                rw [show decide (kc (.use n (w0 :: wr)) = kc (.use n ((w0 :: wr).drop 1))) = false from decide_eq_false (kc_less k0 cL.is (by simp))]
                walk_at "rc"
                exact fin _ _ _ _ _ _ rfl (u1626.tr (u27.tr (u28.tr (u29.tr (u30.tr u31)))))
          | _ => simp [isK] at k0
      · rintro σ H4 ⟨x4, x5, x6, x7, rfl, m4, b4, q4⟩
        walk_at "rd"
        exact ⟨_, _, _, _, _, _, _, rfl, u03.of nb m4⟩
    · rintro σ H1 ⟨x1, x2, x3, x4, x5, x6, x7, rfl, u1⟩
      walk_at "rd"
      exact k H1
end

theorem all_mk {l : PySem.W.OpenLaw} {w : World} {K : PySem.W.Frag} {h : Heap} {mg : Str → Option Value} {fa f0 f1 f2 f3 f4 f5 f6 f7 f8 f9 f10 f11 f12 f13 f14 f15 f16 f17 f18 f19 f20 f21 f22 f23 f24 f25 f26 f27 f28 f29 f30 f31 f32 : Addr} (X : K.In h) (G : h.Ns mainGlobals mg) (hfa : mg "law" = some (.ref fa))
    {od0 an0 : Option Addr} {sl0 : Array (Option Value)} {oc0 kV0 dc0 pm0 cd0 ct0 : Value}
    (a0 : PySem.W.nsIn K mainGlobals "numbered" = some (some (.ref f0)))
    (l0 : K.lookup f0 = some ⟨oc0, od0, .func (PySem.W.fnOf "numbered" "numbered" (defArgs s_numbered) (defBody s_numbered) (defScope s_numbered) .none kV0 dc0 pm0 an0 cd0 ct0), sl0⟩) (x0 : PySem.W.codeIn K cd0 "numbered" = true) (k0 : PySem.W.keepIn K (.ref f0) = true)
    {od1 an1 : Option Addr} {sl1 : Array (Option Value)} {oc1 kV1 dc1 pm1 cd1 ct1 : Value}
    (a1 : PySem.W.nsIn K mainGlobals "parts_of" = some (some (.ref f1)))
    (l1 : K.lookup f1 = some ⟨oc1, od1, .func (PySem.W.fnOf "parts_of" "parts_of" (defArgs s_parts_of) (defBody s_parts_of) (defScope s_parts_of) .none kV1 dc1 pm1 an1 cd1 ct1), sl1⟩) (x1 : PySem.W.codeIn K cd1 "parts_of" = true) (k1 : PySem.W.keepIn K (.ref f1) = true)
    {od2 an2 : Option Addr} {sl2 : Array (Option Value)} {oc2 kV2 dc2 pm2 cd2 ct2 : Value}
    (a2 : PySem.W.nsIn K mainGlobals "all_parts" = some (some (.ref f2)))
    (l2 : K.lookup f2 = some ⟨oc2, od2, .func (PySem.W.fnOf "all_parts" "all_parts" (defArgs s_all_parts) (defBody s_all_parts) (defScope s_all_parts) .none kV2 dc2 pm2 an2 cd2 ct2), sl2⟩) (x2 : PySem.W.codeIn K cd2 "all_parts" = true) (k2 : PySem.W.keepIn K (.ref f2) = true)
    {od3 an3 : Option Addr} {sl3 : Array (Option Value)} {oc3 kV3 dc3 pm3 cd3 ct3 : Value}
    (a3 : PySem.W.nsIn K mainGlobals "laid_out" = some (some (.ref f3)))
    (l3 : K.lookup f3 = some ⟨oc3, od3, .func (PySem.W.fnOf "laid_out" "laid_out" (defArgs s_laid_out) (defBody s_laid_out) (defScope s_laid_out) .none kV3 dc3 pm3 an3 cd3 ct3), sl3⟩) (x3 : PySem.W.codeIn K cd3 "laid_out" = true) (k3 : PySem.W.keepIn K (.ref f3) = true)
    {od4 an4 : Option Addr} {sl4 : Array (Option Value)} {oc4 kV4 dc4 pm4 cd4 ct4 : Value}
    (a4 : PySem.W.nsIn K mainGlobals "is_node" = some (some (.ref f4)))
    (l4 : K.lookup f4 = some ⟨oc4, od4, .func (PySem.W.fnOf "is_node" "is_node" (defArgs s_is_node) (defBody s_is_node) (defScope s_is_node) .none kV4 dc4 pm4 an4 cd4 ct4), sl4⟩) (x4 : PySem.W.codeIn K cd4 "is_node" = true) (k4 : PySem.W.keepIn K (.ref f4) = true)
    {od5 an5 : Option Addr} {sl5 : Array (Option Value)} {oc5 kV5 dc5 pm5 cd5 ct5 : Value}
    (a5 : PySem.W.nsIn K mainGlobals "noted" = some (some (.ref f5)))
    (l5 : K.lookup f5 = some ⟨oc5, od5, .func (PySem.W.fnOf "noted" "noted" (defArgs s_noted) (defBody s_noted) (defScope s_noted) .none kV5 dc5 pm5 an5 cd5 ct5), sl5⟩) (x5 : PySem.W.codeIn K cd5 "noted" = true) (k5 : PySem.W.keepIn K (.ref f5) = true)
    {od6 an6 : Option Addr} {sl6 : Array (Option Value)} {oc6 kV6 dc6 pm6 cd6 ct6 : Value}
    (a6 : PySem.W.nsIn K mainGlobals "joined_notes" = some (some (.ref f6)))
    (l6 : K.lookup f6 = some ⟨oc6, od6, .func (PySem.W.fnOf "joined_notes" "joined_notes" (defArgs s_joined_notes) (defBody s_joined_notes) (defScope s_joined_notes) .none kV6 dc6 pm6 an6 cd6 ct6), sl6⟩) (x6 : PySem.W.codeIn K cd6 "joined_notes" = true) (k6 : PySem.W.keepIn K (.ref f6) = true)
    {od7 an7 : Option Addr} {sl7 : Array (Option Value)} {oc7 kV7 dc7 pm7 cd7 ct7 : Value}
    (a7 : PySem.W.nsIn K mainGlobals "_noted_part" = some (some (.ref f7)))
    (l7 : K.lookup f7 = some ⟨oc7, od7, .func (PySem.W.fnOf "_noted_part" "_noted_part" (defArgs s_noted_part) (defBody s_noted_part) (defScope s_noted_part) .none kV7 dc7 pm7 an7 cd7 ct7), sl7⟩) (x7 : PySem.W.codeIn K cd7 "_noted_part" = true) (k7 : PySem.W.keepIn K (.ref f7) = true)
    {od8 an8 : Option Addr} {sl8 : Array (Option Value)} {oc8 kV8 dc8 pm8 cd8 ct8 : Value}
    (a8 : PySem.W.nsIn K mainGlobals "_of_parts" = some (some (.ref f8)))
    (l8 : K.lookup f8 = some ⟨oc8, od8, .func (PySem.W.fnOf "_of_parts" "_of_parts" (defArgs s_of_parts) (defBody s_of_parts) (defScope s_of_parts) .none kV8 dc8 pm8 an8 cd8 ct8), sl8⟩) (x8 : PySem.W.codeIn K cd8 "_of_parts" = true) (k8 : PySem.W.keepIn K (.ref f8) = true)
    {od9 an9 : Option Addr} {sl9 : Array (Option Value)} {oc9 kV9 dc9 pm9 cd9 ct9 : Value}
    (a9 : PySem.W.nsIn K mainGlobals "_of_members" = some (some (.ref f9)))
    (l9 : K.lookup f9 = some ⟨oc9, od9, .func (PySem.W.fnOf "_of_members" "_of_members" (defArgs s_of_members) (defBody s_of_members) (defScope s_of_members) .none kV9 dc9 pm9 an9 cd9 ct9), sl9⟩) (x9 : PySem.W.codeIn K cd9 "_of_members" = true) (k9 : PySem.W.keepIn K (.ref f9) = true)
    {od10 an10 : Option Addr} {sl10 : Array (Option Value)} {oc10 kV10 dc10 pm10 cd10 ct10 : Value}
    (a10 : PySem.W.nsIn K mainGlobals "_opened" = some (some (.ref f10)))
    (l10 : K.lookup f10 = some ⟨oc10, od10, .func (PySem.W.fnOf "_opened" "_opened" (defArgs s_opened) (defBody s_opened) (defScope s_opened) .none kV10 dc10 pm10 an10 cd10 ct10), sl10⟩) (x10 : PySem.W.codeIn K cd10 "_opened" = true) (k10 : PySem.W.keepIn K (.ref f10) = true)
    {od11 an11 : Option Addr} {sl11 : Array (Option Value)} {oc11 kV11 dc11 pm11 cd11 ct11 : Value}
    (a11 : PySem.W.nsIn K mainGlobals "_gathered" = some (some (.ref f11)))
    (l11 : K.lookup f11 = some ⟨oc11, od11, .func (PySem.W.fnOf "_gathered" "_gathered" (defArgs s_gathered) (defBody s_gathered) (defScope s_gathered) .none kV11 dc11 pm11 an11 cd11 ct11), sl11⟩) (x11 : PySem.W.codeIn K cd11 "_gathered" = true) (k11 : PySem.W.keepIn K (.ref f11) = true)
    {od12 an12 : Option Addr} {sl12 : Array (Option Value)} {oc12 kV12 dc12 pm12 cd12 ct12 : Value}
    (a12 : PySem.W.nsIn K mainGlobals "size" = some (some (.ref f12)))
    (l12 : K.lookup f12 = some ⟨oc12, od12, .func (PySem.W.fnOf "size" "size" (defArgs s_size) (defBody s_size) (defScope s_size) .none kV12 dc12 pm12 an12 cd12 ct12), sl12⟩) (x12 : PySem.W.codeIn K cd12 "size" = true) (k12 : PySem.W.keepIn K (.ref f12) = true)
    {od13 an13 : Option Addr} {sl13 : Array (Option Value)} {oc13 kV13 dc13 pm13 cd13 ct13 : Value}
    (a13 : PySem.W.nsIn K mainGlobals "equal" = some (some (.ref f13)))
    (l13 : K.lookup f13 = some ⟨oc13, od13, .func (PySem.W.fnOf "equal" "equal" (defArgs s_equal) (defBody s_equal) (defScope s_equal) .none kV13 dc13 pm13 an13 cd13 ct13), sl13⟩) (x13 : PySem.W.codeIn K cd13 "equal" = true) (k13 : PySem.W.keepIn K (.ref f13) = true)
    {od14 an14 : Option Addr} {sl14 : Array (Option Value)} {oc14 kV14 dc14 pm14 cd14 ct14 : Value}
    (a14 : PySem.W.nsIn K mainGlobals "joined" = some (some (.ref f14)))
    (l14 : K.lookup f14 = some ⟨oc14, od14, .func (PySem.W.fnOf "joined" "joined" (defArgs s_joined) (defBody s_joined) (defScope s_joined) .none kV14 dc14 pm14 an14 cd14 ct14), sl14⟩) (x14 : PySem.W.codeIn K cd14 "joined" = true) (k14 : PySem.W.keepIn K (.ref f14) = true)
    {od15 an15 : Option Addr} {sl15 : Array (Option Value)} {oc15 kV15 dc15 pm15 cd15 ct15 : Value}
    (a15 : PySem.W.nsIn K mainGlobals "origin" = some (some (.ref f15)))
    (l15 : K.lookup f15 = some ⟨oc15, od15, .func (PySem.W.fnOf "origin" "origin" (defArgs s_origin) (defBody s_origin) (defScope s_origin) .none kV15 dc15 pm15 an15 cd15 ct15), sl15⟩) (x15 : PySem.W.codeIn K cd15 "origin" = true) (k15 : PySem.W.keepIn K (.ref f15) = true)
    {od16 an16 : Option Addr} {sl16 : Array (Option Value)} {oc16 kV16 dc16 pm16 cd16 ct16 : Value}
    (a16 : PySem.W.nsIn K mainGlobals "arguments" = some (some (.ref f16)))
    (l16 : K.lookup f16 = some ⟨oc16, od16, .func (PySem.W.fnOf "arguments" "arguments" (defArgs s_arguments) (defBody s_arguments) (defScope s_arguments) .none kV16 dc16 pm16 an16 cd16 ct16), sl16⟩) (x16 : PySem.W.codeIn K cd16 "arguments" = true) (k16 : PySem.W.keepIn K (.ref f16) = true)
    {od17 an17 : Option Addr} {sl17 : Array (Option Value)} {oc17 kV17 dc17 pm17 cd17 ct17 : Value}
    (a17 : PySem.W.nsIn K mainGlobals "made" = some (some (.ref f17)))
    (l17 : K.lookup f17 = some ⟨oc17, od17, .func (PySem.W.fnOf "made" "made" (defArgs s_made) (defBody s_made) (defScope s_made) .none kV17 dc17 pm17 an17 cd17 ct17), sl17⟩) (x17 : PySem.W.codeIn K cd17 "made" = true) (k17 : PySem.W.keepIn K (.ref f17) = true)
    {od18 an18 : Option Addr} {sl18 : Array (Option Value)} {oc18 kV18 dc18 pm18 cd18 ct18 : Value}
    (a18 : PySem.W.nsIn K mainGlobals "_law_bag" = some (some (.ref f18)))
    (l18 : K.lookup f18 = some ⟨oc18, od18, .func (PySem.W.fnOf "_law_bag" "_law_bag" (defArgs s_lbag) (defBody s_lbag) (defScope s_lbag) .none kV18 dc18 pm18 an18 cd18 ct18), sl18⟩) (x18 : PySem.W.codeIn K cd18 "_law_bag" = true) (k18 : PySem.W.keepIn K (.ref f18) = true)
    {od19 an19 : Option Addr} {sl19 : Array (Option Value)} {oc19 kV19 dc19 pm19 cd19 ct19 : Value}
    (a19 : PySem.W.nsIn K mainGlobals "_law_take" = some (some (.ref f19)))
    (l19 : K.lookup f19 = some ⟨oc19, od19, .func (PySem.W.fnOf "_law_take" "_law_take" (defArgs s_ltake) (defBody s_ltake) (defScope s_ltake) .none kV19 dc19 pm19 an19 cd19 ct19), sl19⟩) (x19 : PySem.W.codeIn K cd19 "_law_take" = true) (k19 : PySem.W.keepIn K (.ref f19) = true)
    {od20 an20 : Option Addr} {sl20 : Array (Option Value)} {oc20 kV20 dc20 pm20 cd20 ct20 : Value}
    (a20 : PySem.W.nsIn K mainGlobals "_law_names" = some (some (.ref f20)))
    (l20 : K.lookup f20 = some ⟨oc20, od20, .func (PySem.W.fnOf "_law_names" "_law_names" (defArgs s_lnames) (defBody s_lnames) (defScope s_lnames) .none kV20 dc20 pm20 an20 cd20 ct20), sl20⟩) (x20 : PySem.W.codeIn K cd20 "_law_names" = true) (k20 : PySem.W.keepIn K (.ref f20) = true)
    {od21 an21 : Option Addr} {sl21 : Array (Option Value)} {oc21 kV21 dc21 pm21 cd21 ct21 : Value}
    (a21 : PySem.W.nsIn K mainGlobals "_law_key" = some (some (.ref f21)))
    (l21 : K.lookup f21 = some ⟨oc21, od21, .func (PySem.W.fnOf "_law_key" "_law_key" (defArgs s_lkey) (defBody s_lkey) (defScope s_lkey) .none kV21 dc21 pm21 an21 cd21 ct21), sl21⟩) (x21 : PySem.W.codeIn K cd21 "_law_key" = true) (k21 : PySem.W.keepIn K (.ref f21) = true)
    {od22 an22 : Option Addr} {sl22 : Array (Option Value)} {oc22 kV22 dc22 pm22 cd22 ct22 : Value}
    (a22 : PySem.W.nsIn K mainGlobals "_law_joined" = some (some (.ref f22)))
    (l22 : K.lookup f22 = some ⟨oc22, od22, .func (PySem.W.fnOf "_law_joined" "_law_joined" (defArgs s_ljoined) (defBody s_ljoined) (defScope s_ljoined) .none kV22 dc22 pm22 an22 cd22 ct22), sl22⟩) (x22 : PySem.W.codeIn K cd22 "_law_joined" = true) (k22 : PySem.W.keepIn K (.ref f22) = true)
    {od23 an23 : Option Addr} {sl23 : Array (Option Value)} {oc23 kV23 dc23 pm23 cd23 ct23 : Value}
    (a23 : PySem.W.nsIn K mainGlobals "_law_item" = some (some (.ref f23)))
    (l23 : K.lookup f23 = some ⟨oc23, od23, .func (PySem.W.fnOf "_law_item" "_law_item" (defArgs s_litem) (defBody s_litem) (defScope s_litem) .none kV23 dc23 pm23 an23 cd23 ct23), sl23⟩) (x23 : PySem.W.codeIn K cd23 "_law_item" = true) (k23 : PySem.W.keepIn K (.ref f23) = true)
    {od24 an24 : Option Addr} {sl24 : Array (Option Value)} {oc24 kV24 dc24 pm24 cd24 ct24 : Value}
    (a24 : PySem.W.nsIn K mainGlobals "_law_inputs" = some (some (.ref f24)))
    (l24 : K.lookup f24 = some ⟨oc24, od24, .func (PySem.W.fnOf "_law_inputs" "_law_inputs" (defArgs s_linputs) (defBody s_linputs) (defScope s_linputs) .none kV24 dc24 pm24 an24 cd24 ct24), sl24⟩) (x24 : PySem.W.codeIn K cd24 "_law_inputs" = true) (k24 : PySem.W.keepIn K (.ref f24) = true)
    {od25 an25 : Option Addr} {sl25 : Array (Option Value)} {oc25 kV25 dc25 pm25 cd25 ct25 : Value}
    (a25 : PySem.W.nsIn K mainGlobals "_law_term" = some (some (.ref f25)))
    (l25 : K.lookup f25 = some ⟨oc25, od25, .func (PySem.W.fnOf "_law_term" "_law_term" (defArgs s_lterm) (defBody s_lterm) (defScope s_lterm) .none kV25 dc25 pm25 an25 cd25 ct25), sl25⟩) (x25 : PySem.W.codeIn K cd25 "_law_term" = true) (k25 : PySem.W.keepIn K (.ref f25) = true)
    {od26 an26 : Option Addr} {sl26 : Array (Option Value)} {oc26 kV26 dc26 pm26 cd26 ct26 : Value}
    (a26 : PySem.W.nsIn K mainGlobals "_law_size" = some (some (.ref f26)))
    (l26 : K.lookup f26 = some ⟨oc26, od26, .func (PySem.W.fnOf "_law_size" "_law_size" (defArgs s_lsize) (defBody s_lsize) (defScope s_lsize) .none kV26 dc26 pm26 an26 cd26 ct26), sl26⟩) (x26 : PySem.W.codeIn K cd26 "_law_size" = true) (k26 : PySem.W.keepIn K (.ref f26) = true)
    {od27 an27 : Option Addr} {sl27 : Array (Option Value)} {oc27 kV27 dc27 pm27 cd27 ct27 : Value}
    (a27 : PySem.W.nsIn K mainGlobals "_law_small" = some (some (.ref f27)))
    (l27 : K.lookup f27 = some ⟨oc27, od27, .func (PySem.W.fnOf "_law_small" "_law_small" (defArgs s_lsmall) (defBody s_lsmall) (defScope s_lsmall) .none kV27 dc27 pm27 an27 cd27 ct27), sl27⟩) (x27 : PySem.W.codeIn K cd27 "_law_small" = true) (k27 : PySem.W.keepIn K (.ref f27) = true)
    {od28 an28 : Option Addr} {sl28 : Array (Option Value)} {oc28 kV28 dc28 pm28 cd28 ct28 : Value}
    (a28 : PySem.W.nsIn K mainGlobals "_law_mixed" = some (some (.ref f28)))
    (l28 : K.lookup f28 = some ⟨oc28, od28, .func (PySem.W.fnOf "_law_mixed" "_law_mixed" (defArgs s_lmixed) (defBody s_lmixed) (defScope s_lmixed) .none kV28 dc28 pm28 an28 cd28 ct28), sl28⟩) (x28 : PySem.W.codeIn K cd28 "_law_mixed" = true) (k28 : PySem.W.keepIn K (.ref f28) = true)
    {od29 an29 : Option Addr} {sl29 : Array (Option Value)} {oc29 kV29 dc29 pm29 cd29 ct29 : Value}
    (a29 : PySem.W.nsIn K mainGlobals "_law_again" = some (some (.ref f29)))
    (l29 : K.lookup f29 = some ⟨oc29, od29, .func (PySem.W.fnOf "_law_again" "_law_again" (defArgs s_lagain) (defBody s_lagain) (defScope s_lagain) .none kV29 dc29 pm29 an29 cd29 ct29), sl29⟩) (x29 : PySem.W.codeIn K cd29 "_law_again" = true) (k29 : PySem.W.keepIn K (.ref f29) = true)
    {od30 an30 : Option Addr} {sl30 : Array (Option Value)} {oc30 kV30 dc30 pm30 cd30 ct30 : Value}
    (a30 : PySem.W.nsIn K mainGlobals "_law_parts_size" = some (some (.ref f30)))
    (l30 : K.lookup f30 = some ⟨oc30, od30, .func (PySem.W.fnOf "_law_parts_size" "_law_parts_size" (defArgs s_lparts_size) (defBody s_lparts_size) (defScope s_lparts_size) .none kV30 dc30 pm30 an30 cd30 ct30), sl30⟩) (x30 : PySem.W.codeIn K cd30 "_law_parts_size" = true) (k30 : PySem.W.keepIn K (.ref f30) = true)
    {od31 an31 : Option Addr} {sl31 : Array (Option Value)} {oc31 kV31 dc31 pm31 cd31 ct31 : Value}
    (a31 : PySem.W.nsIn K mainGlobals "_law_told_joined" = some (some (.ref f31)))
    (l31 : K.lookup f31 = some ⟨oc31, od31, .func (PySem.W.fnOf "_law_told_joined" "_law_told_joined" (defArgs s_ltold_joined) (defBody s_ltold_joined) (defScope s_ltold_joined) .none kV31 dc31 pm31 an31 cd31 ct31), sl31⟩) (x31 : PySem.W.codeIn K cd31 "_law_told_joined" = true) (k31 : PySem.W.keepIn K (.ref f31) = true)
    {od32 an32 : Option Addr} {sl32 : Array (Option Value)} {oc32 kV32 dc32 pm32 cd32 ct32 : Value}
    (a32 : PySem.W.nsIn K mainGlobals "law" = some (some (.ref f32)))
    (l32 : K.lookup f32 = some ⟨oc32, od32, .func (PySem.W.fnOf "law" "law" (defArgs s_law) (defBody s_law) (defScope s_law) .none kV32 dc32 pm32 an32 cd32 ct32), sl32⟩) (x32 : PySem.W.codeIn K cd32 "law" = true) (k32 : PySem.W.keepIn K (.ref f32) = true)
    {od_0 : Addr} {es_0 : Array DictEntry} {nn_0 : Nat} (ag_0 : PySem.W.nsIn K mainGlobals "_OTHERS" = some (some (.ref od_0))) (lg_0 : K.lookup od_0 = some ⟨.type "dict", none, .dict es_0 nn_0, #[]⟩) (kg_0 : es_0.toList.map He.keyOf = He.keysIn w.params ["*", "**", "->", "...", "()"]) (sg_0 : (od_0 == sysModules) = false)
    {od_1 : Addr} {es_1 : Array DictEntry} {nn_1 : Nat} (ag_1 : PySem.W.nsIn K mainGlobals "_MAKERS" = some (some (.ref od_1))) (lg_1 : K.lookup od_1 = some ⟨.type "dict", none, .dict es_1 nn_1, #[]⟩) (kg_1 : es_1.toList.map He.keyOf = He.keysIn w.params ["|", "[]", "()", "*", "**", "->", "..."]) (sg_1 : (od_1 == sysModules) = false)
    (vg_1_0 : PySem.W.nsIn K od_1 "|" = some (some (.ref f9)))
    (vg_1_1 : PySem.W.nsIn K od_1 "[]" = some (some (.ref f11)))
    (vg_1_2 : PySem.W.nsIn K od_1 "()" = some (some (.ref f11)))
    (vg_1_3 : PySem.W.nsIn K od_1 "*" = some (some (.ref f10)))
    (vg_1_4 : PySem.W.nsIn K od_1 "**" = some (some (.ref f10)))
    (vg_1_5 : PySem.W.nsIn K od_1 "->" = some (some (.ref f8)))
    (vg_1_6 : PySem.W.nsIn K od_1 "..." = some (some (.ref f8)))
    (z_abs : PySem.W.nsIn K mainGlobals "abs" = some none)
    (z_int : PySem.W.nsIn K mainGlobals "int" = some none)
    (z_isinstance : PySem.W.nsIn K mainGlobals "isinstance" = some none)
    (z_len : PySem.W.nsIn K mainGlobals "len" = some none)
    (z_list : PySem.W.nsIn K mainGlobals "list" = some none)
    (z_max : PySem.W.nsIn K mainGlobals "max" = some none)
    (z_min : PySem.W.nsIn K mainGlobals "min" = some none)
    (z_range : PySem.W.nsIn K mainGlobals "range" = some none)
    (z_repr : PySem.W.nsIn K mainGlobals "repr" = some none)
    (z_reversed : PySem.W.nsIn K mainGlobals "reversed" = some none)
    (z_sorted : PySem.W.nsIn K mainGlobals "sorted" = some none)
    (z_str : PySem.W.nsIn K mainGlobals "str" = some none)
    (z_sum : PySem.W.nsIn K mainGlobals "sum" = some none)
    (z_tuple : PySem.W.nsIn K mainGlobals "tuple" = some none)
    (z_zip : PySem.W.nsIn K mainGlobals "zip" = some none)
    : ∃ fd : FuncData, (∀ (s : Shared) (v : Value), BindsTo s fd ⟨[v], []⟩ [("script", v)]) ∧ ∀ base : Heap, K.In base → base.Ns mainGlobals mg → FG l.prog w K mg base CX0 lawK fa fd ["script"] (sp_law K) := by
  have e := hfa.symm.trans (PySem.W.mg_of X G a32)
  cases e
  have F0 := fun_mk (st := s_numbered) l0 x0 k0
  have b0 := F0.binds (ps := ["numbers", "layout"]) fun _ _ _ _ _ _ us hl => match us, hl with | [_, _], _ => rfl
  have F1 := fun_mk (st := s_parts_of) l1 x1 k1
  have b1 := F1.binds (ps := ["part"]) fun _ _ _ _ _ _ us hl => match us, hl with | [_], _ => rfl
  have F2 := fun_mk (st := s_all_parts) l2 x2 k2
  have b2 := F2.binds (ps := ["top"]) fun _ _ _ _ _ _ us hl => match us, hl with | [_], _ => rfl
  have F3 := fun_mk (st := s_laid_out) l3 x3 k3
  have b3 := F3.binds (ps := ["top"]) fun _ _ _ _ _ _ us hl => match us, hl with | [_], _ => rfl
  have F4 := fun_mk (st := s_is_node) l4 x4 k4
  have b4 := F4.binds (ps := ["part"]) fun _ _ _ _ _ _ us hl => match us, hl with | [_], _ => rfl
  have F5 := fun_mk (st := s_noted) l5 x5 k5
  have b5 := F5.binds (ps := ["numbers", "layout", "mapping"]) fun _ _ _ _ _ _ us hl => match us, hl with | [_, _, _], _ => rfl
  have F6 := fun_mk (st := s_joined_notes) l6 x6 k6
  have b6 := F6.binds (ps := ["numbers", "notes"]) fun _ _ _ _ _ _ us hl => match us, hl with | [_, _], _ => rfl
  have F7 := fun_mk (st := s_noted_part) l7 x7 k7
  have b7 := F7.binds (ps := ["numbers", "part", "inner", "mapping"]) fun _ _ _ _ _ _ us hl => match us, hl with | [_, _, _, _], _ => rfl
  have F8 := fun_mk (st := s_of_parts) l8 x8 k8
  have b8 := F8.binds (ps := ["numbers", "part", "inner", "mapping"]) fun _ _ _ _ _ _ us hl => match us, hl with | [_, _, _, _], _ => rfl
  have F9 := fun_mk (st := s_of_members) l9 x9 k9
  have b9 := F9.binds (ps := ["numbers", "part", "inner", "mapping"]) fun _ _ _ _ _ _ us hl => match us, hl with | [_, _, _, _], _ => rfl
  have F10 := fun_mk (st := s_opened) l10 x10 k10
  have b10 := F10.binds (ps := ["numbers", "part", "inner", "mapping"]) fun _ _ _ _ _ _ us hl => match us, hl with | [_, _, _, _], _ => rfl
  have F11 := fun_mk (st := s_gathered) l11 x11 k11
  have b11 := F11.binds (ps := ["numbers", "part", "inner", "mapping"]) fun _ _ _ _ _ _ us hl => match us, hl with | [_, _, _, _], _ => rfl
  have F12 := fun_mk (st := s_size) l12 x12 k12
  have b12 := F12.binds (ps := ["term"]) fun _ _ _ _ _ _ us hl => match us, hl with | [_], _ => rfl
  have F13 := fun_mk (st := s_equal) l13 x13 k13
  have b13 := F13.binds (ps := ["one", "other"]) fun _ _ _ _ _ _ us hl => match us, hl with | [_, _], _ => rfl
  have F14 := fun_mk (st := s_joined) l14 x14 k14
  have F15 := fun_mk (st := s_origin) l15 x15 k15
  have b15 := F15.binds (ps := ["term"]) fun _ _ _ _ _ _ us hl => match us, hl with | [_], _ => rfl
  have F16 := fun_mk (st := s_arguments) l16 x16 k16
  have b16 := F16.binds (ps := ["term"]) fun _ _ _ _ _ _ us hl => match us, hl with | [_], _ => rfl
  have F17 := fun_mk (st := s_made) l17 x17 k17
  have b17 := F17.binds (ps := ["origin", "arguments"]) fun _ _ _ _ _ _ us hl => match us, hl with | [_, _], _ => rfl
  have F18 := fun_mk (st := s_lbag) l18 x18 k18
  have b18 := F18.binds (ps := ["script", "at"]) fun _ _ _ _ _ _ us hl => match us, hl with | [_, _], _ => rfl
  have F19 := fun_mk (st := s_ltake) l19 x19 k19
  have b19 := F19.binds (ps := ["bag", "many"]) fun _ _ _ _ _ _ us hl => match us, hl with | [_, _], _ => rfl
  have F20 := fun_mk (st := s_lnames) l20 x20 k20
  have b20 := F20.binds (ps := ["bag", "many"]) fun _ _ _ _ _ _ us hl => match us, hl with | [_, _], _ => rfl
  have F21 := fun_mk (st := s_lkey) l21 x21 k21
  have b21 := F21.binds (ps := ["thing"]) fun _ _ _ _ _ _ us hl => match us, hl with | [_], _ => rfl
  have F22 := fun_mk (st := s_ljoined) l22 x22 k22
  have b22 := F22.binds (ps := ["terms"]) fun _ _ _ _ _ _ us hl => match us, hl with | [_], _ => rfl
  have F23 := fun_mk (st := s_litem) l23 x23 k23
  have b23 := F23.binds (ps := ["bag", "names", "deep"]) fun _ _ _ _ _ _ us hl => match us, hl with | [_, _, _], _ => rfl
  have F24 := fun_mk (st := s_linputs) l24 x24 k24
  have b24 := F24.binds (ps := ["bag", "names", "deep"]) fun _ _ _ _ _ _ us hl => match us, hl with | [_, _, _], _ => rfl
  have F25 := fun_mk (st := s_lterm) l25 x25 k25
  have b25 := F25.binds (ps := ["bag", "names", "deep"]) fun _ _ _ _ _ _ us hl => match us, hl with | [_, _, _], _ => rfl
  have F26 := fun_mk (st := s_lsize) l26 x26 k26
  have b26 := F26.binds (ps := ["thing"]) fun _ _ _ _ _ _ us hl => match us, hl with | [_], _ => rfl
  have F27 := fun_mk (st := s_lsmall) l27 x27 k27
  have b27 := F27.binds (ps := ["bag", "names", "deep", "most"]) fun _ _ _ _ _ _ us hl => match us, hl with | [_, _, _, _], _ => rfl
  have F28 := fun_mk (st := s_lmixed) l28 x28 k28
  have b28 := F28.binds (ps := ["bag", "thing"]) fun _ _ _ _ _ _ us hl => match us, hl with | [_, _], _ => rfl
  have F29 := fun_mk (st := s_lagain) l29 x29 k29
  have b29 := F29.binds (ps := ["thing"]) fun _ _ _ _ _ _ us hl => match us, hl with | [_], _ => rfl
  have F30 := fun_mk (st := s_lparts_size) l30 x30 k30
  have b30 := F30.binds (ps := ["term"]) fun _ _ _ _ _ _ us hl => match us, hl with | [_], _ => rfl
  have F31 := fun_mk (st := s_ltold_joined) l31 x31 k31
  have b31 := F31.binds (ps := ["members"]) fun _ _ _ _ _ _ us hl => match us, hl with | [_], _ => rfl
  have F32 := fun_mk (st := s_law) l32 x32 k32
  have b32 := F32.binds (ps := ["script"]) fun _ _ _ _ _ _ us hl => match us, hl with | [_], _ => rfl
  exact ⟨_, fun s v => .of_eq rfl, fun base _ _ => ok_law (P := l.prog) (w := w) (base := base) ({ f_numbered := _, d_numbered := _, F_numbered := F0, c_numbered := ⟨PySem.W.mg_of X G a0, k0, b0⟩, f_parts_of := _, d_parts_of := _, F_parts_of := F1, c_parts_of := ⟨PySem.W.mg_of X G a1, k1, b1⟩, f_all_parts := _, d_all_parts := _, F_all_parts := F2, c_all_parts := ⟨PySem.W.mg_of X G a2, k2, b2⟩, f_laid_out := _, d_laid_out := _, F_laid_out := F3, c_laid_out := ⟨PySem.W.mg_of X G a3, k3, b3⟩, f_is_node := _, d_is_node := _, F_is_node := F4, c_is_node := ⟨PySem.W.mg_of X G a4, k4, b4⟩, f_noted := _, d_noted := _, F_noted := F5, c_noted := ⟨PySem.W.mg_of X G a5, k5, b5⟩, f_joined_notes := _, d_joined_notes := _, F_joined_notes := F6, c_joined_notes := ⟨PySem.W.mg_of X G a6, k6, b6⟩, f_noted_part := _, d_noted_part := _, F_noted_part := F7, c_noted_part := ⟨PySem.W.mg_of X G a7, k7, b7⟩, f_of_parts := _, d_of_parts := _, F_of_parts := F8, c_of_parts := ⟨PySem.W.mg_of X G a8, k8, b8⟩, f_of_members := _, d_of_members := _, F_of_members := F9, c_of_members := ⟨PySem.W.mg_of X G a9, k9, b9⟩, f_opened := _, d_opened := _, F_opened := F10, c_opened := ⟨PySem.W.mg_of X G a10, k10, b10⟩, f_gathered := _, d_gathered := _, F_gathered := F11, c_gathered := ⟨PySem.W.mg_of X G a11, k11, b11⟩, f_size := _, d_size := _, F_size := F12, c_size := ⟨PySem.W.mg_of X G a12, k12, b12⟩, f_equal := _, d_equal := _, F_equal := F13, c_equal := ⟨PySem.W.mg_of X G a13, k13, b13⟩, f_joined := _, d_joined := _, F_joined := F14, c_joined := ⟨PySem.W.mg_of X G a14, k14⟩, f_origin := _, d_origin := _, F_origin := F15, c_origin := ⟨PySem.W.mg_of X G a15, k15, b15⟩, f_arguments := _, d_arguments := _, F_arguments := F16, c_arguments := ⟨PySem.W.mg_of X G a16, k16, b16⟩, f_made := _, d_made := _, F_made := F17, c_made := ⟨PySem.W.mg_of X G a17, k17, b17⟩, f_lbag := _, d_lbag := _, F_lbag := F18, c_lbag := ⟨PySem.W.mg_of X G a18, k18, b18⟩, f_ltake := _, d_ltake := _, F_ltake := F19, c_ltake := ⟨PySem.W.mg_of X G a19, k19, b19⟩, f_lnames := _, d_lnames := _, F_lnames := F20, c_lnames := ⟨PySem.W.mg_of X G a20, k20, b20⟩, f_lkey := _, d_lkey := _, F_lkey := F21, c_lkey := ⟨PySem.W.mg_of X G a21, k21, b21⟩, f_ljoined := _, d_ljoined := _, F_ljoined := F22, c_ljoined := ⟨PySem.W.mg_of X G a22, k22, b22⟩, f_litem := _, d_litem := _, F_litem := F23, c_litem := ⟨PySem.W.mg_of X G a23, k23, b23⟩, f_linputs := _, d_linputs := _, F_linputs := F24, c_linputs := ⟨PySem.W.mg_of X G a24, k24, b24⟩, f_lterm := _, d_lterm := _, F_lterm := F25, c_lterm := ⟨PySem.W.mg_of X G a25, k25, b25⟩, f_lsize := _, d_lsize := _, F_lsize := F26, c_lsize := ⟨PySem.W.mg_of X G a26, k26, b26⟩, f_lsmall := _, d_lsmall := _, F_lsmall := F27, c_lsmall := ⟨PySem.W.mg_of X G a27, k27, b27⟩, f_lmixed := _, d_lmixed := _, F_lmixed := F28, c_lmixed := ⟨PySem.W.mg_of X G a28, k28, b28⟩, f_lagain := _, d_lagain := _, F_lagain := F29, c_lagain := ⟨PySem.W.mg_of X G a29, k29, b29⟩, f_lparts_size := _, d_lparts_size := _, F_lparts_size := F30, c_lparts_size := ⟨PySem.W.mg_of X G a30, k30, b30⟩, f_ltold_joined := _, d_ltold_joined := _, F_ltold_joined := F31, c_ltold_joined := ⟨PySem.W.mg_of X G a31, k31, b31⟩, f_law := _, d_law := _, F_law := F32, c_law := ⟨PySem.W.mg_of X G a32, k32, b32⟩, o_OTHERS := _, g_OTHERS := PySem.W.mg_of X G ag_0, D_OTHERS := KD.mk' lg_0 kg_0 sg_0, o_MAKERS := _, g_MAKERS := PySem.W.mg_of X G ag_1, D_MAKERS := KD.mk' lg_1 kg_1 sg_1, v_MAKERS_0 := vg_1_0, v_MAKERS_1 := vg_1_1, v_MAKERS_2 := vg_1_2, v_MAKERS_3 := vg_1_3, v_MAKERS_4 := vg_1_4, v_MAKERS_5 := vg_1_5, v_MAKERS_6 := vg_1_6, z_abs := PySem.W.mg_none_of X G z_abs, z_int := PySem.W.mg_none_of X G z_int, z_isinstance := PySem.W.mg_none_of X G z_isinstance, z_len := PySem.W.mg_none_of X G z_len, z_list := PySem.W.mg_none_of X G z_list, z_max := PySem.W.mg_none_of X G z_max, z_min := PySem.W.mg_none_of X G z_min, z_range := PySem.W.mg_none_of X G z_range, z_repr := PySem.W.mg_none_of X G z_repr, z_reversed := PySem.W.mg_none_of X G z_reversed, z_sorted := PySem.W.mg_none_of X G z_sorted, z_str := PySem.W.mg_none_of X G z_str, z_sum := PySem.W.mg_none_of X G z_sum, z_tuple := PySem.W.mg_none_of X G z_tuple, z_zip := PySem.W.mg_none_of X G z_zip } : TX K mg w)⟩
end My
open PySem PySem.W PyProof.Rows
set_option maxRecDepth 100000 in
set_option maxHeartbeats 0 in
theorem PySem.Challenge.cw_aliasparams_k14_whole_terms_from_their_p_holds : PySem.Challenge.rw_aliasparams_k14_whole_terms_from_their_p.Holds := by
  w_on; o_law; k_head; (case hw => w_witness2)
  k_fill
  refine Gd.walk_g (l := PySem.Challenge.rw_aliasparams_k14_whole_terms_from_their_p) (n := 63) (k := My.lawK) (sp := My.sp_law) (x := "script") rfl (by decide) rfl ⟨rfl, by decide, by decide⟩ (fun w h Y => PySem.W.kIn_of Y) ?F (fun K H a ns hl ho hs => My.law_ask K H a ns hl ho hs)
  case F =>
    intro w mg fa h KX G hmg
    refine' My.all_mk (l := PySem.Challenge.rw_aliasparams_k14_whole_terms_from_their_p) KX G hmg ?a0 ?l0 ?x0 ?k0 ?a1 ?l1 ?x1 ?k1 ?a2 ?l2 ?x2 ?k2 ?a3 ?l3 ?x3 ?k3 ?a4 ?l4 ?x4 ?k4 ?a5 ?l5 ?x5 ?k5 ?a6 ?l6 ?x6 ?k6 ?a7 ?l7 ?x7 ?k7 ?a8 ?l8 ?x8 ?k8 ?a9 ?l9 ?x9 ?k9 ?a10 ?l10 ?x10 ?k10 ?a11 ?l11 ?x11 ?k11 ?a12 ?l12 ?x12 ?k12 ?a13 ?l13 ?x13 ?k13 ?a14 ?l14 ?x14 ?k14 ?a15 ?l15 ?x15 ?k15 ?a16 ?l16 ?x16 ?k16 ?a17 ?l17 ?x17 ?k17 ?a18 ?l18 ?x18 ?k18 ?a19 ?l19 ?x19 ?k19 ?a20 ?l20 ?x20 ?k20 ?a21 ?l21 ?x21 ?k21 ?a22 ?l22 ?x22 ?k22 ?a23 ?l23 ?x23 ?k23 ?a24 ?l24 ?x24 ?k24 ?a25 ?l25 ?x25 ?k25 ?a26 ?l26 ?x26 ?k26 ?a27 ?l27 ?x27 ?k27 ?a28 ?l28 ?x28 ?k28 ?a29 ?l29 ?x29 ?k29 ?a30 ?l30 ?x30 ?k30 ?a31 ?l31 ?x31 ?k31 ?a32 ?l32 ?x32 ?k32 ?ag_0 ?lg_0 ?kg_0 ?sg_0 ?ag_1 ?lg_1 ?kg_1 ?sg_1 ?vg_1_0 ?vg_1_1 ?vg_1_2 ?vg_1_3 ?vg_1_4 ?vg_1_5 ?vg_1_6 ?z_abs ?z_int ?z_isinstance ?z_len ?z_list ?z_max ?z_min ?z_range ?z_repr ?z_reversed ?z_sorted ?z_str ?z_sum ?z_tuple ?z_zip
    (case a0 => k_is)
    (case l0 => k_is)
    (case x0 => k_is)
    (case k0 => k_is)
    (case a1 => k_is)
    (case l1 => k_is)
    (case x1 => k_is)
    (case k1 => k_is)
    (case a2 => k_is)
    (case l2 => k_is)
    (case x2 => k_is)
    (case k2 => k_is)
    (case a3 => k_is)
    (case l3 => k_is)
    (case x3 => k_is)
    (case k3 => k_is)
    (case a4 => k_is)
    (case l4 => k_is)
    (case x4 => k_is)
    (case k4 => k_is)
    (case a5 => k_is)
    (case l5 => k_is)
    (case x5 => k_is)
    (case k5 => k_is)
    (case a6 => k_is)
    (case l6 => k_is)
    (case x6 => k_is)
    (case k6 => k_is)
    (case a7 => k_is)
    (case l7 => k_is)
    (case x7 => k_is)
    (case k7 => k_is)
    (case a8 => k_is)
    (case l8 => k_is)
    (case x8 => k_is)
    (case k8 => k_is)
    (case a9 => k_is)
    (case l9 => k_is)
    (case x9 => k_is)
    (case k9 => k_is)
    (case a10 => k_is)
    (case l10 => k_is)
    (case x10 => k_is)
    (case k10 => k_is)
    (case a11 => k_is)
    (case l11 => k_is)
    (case x11 => k_is)
    (case k11 => k_is)
    (case a12 => k_is)
    (case l12 => k_is)
    (case x12 => k_is)
    (case k12 => k_is)
    (case a13 => k_is)
    (case l13 => k_is)
    (case x13 => k_is)
    (case k13 => k_is)
    (case a14 => k_is)
    (case l14 => k_is)
    (case x14 => k_is)
    (case k14 => k_is)
    (case a15 => k_is)
    (case l15 => k_is)
    (case x15 => k_is)
    (case k15 => k_is)
    (case a16 => k_is)
    (case l16 => k_is)
    (case x16 => k_is)
    (case k16 => k_is)
    (case a17 => k_is)
    (case l17 => k_is)
    (case x17 => k_is)
    (case k17 => k_is)
    (case a18 => k_is)
    (case l18 => k_is)
    (case x18 => k_is)
    (case k18 => k_is)
    (case a19 => k_is)
    (case l19 => k_is)
    (case x19 => k_is)
    (case k19 => k_is)
    (case a20 => k_is)
    (case l20 => k_is)
    (case x20 => k_is)
    (case k20 => k_is)
    (case a21 => k_is)
    (case l21 => k_is)
    (case x21 => k_is)
    (case k21 => k_is)
    (case a22 => k_is)
    (case l22 => k_is)
    (case x22 => k_is)
    (case k22 => k_is)
    (case a23 => k_is)
    (case l23 => k_is)
    (case x23 => k_is)
    (case k23 => k_is)
    (case a24 => k_is)
    (case l24 => k_is)
    (case x24 => k_is)
    (case k24 => k_is)
    (case a25 => k_is)
    (case l25 => k_is)
    (case x25 => k_is)
    (case k25 => k_is)
    (case a26 => k_is)
    (case l26 => k_is)
    (case x26 => k_is)
    (case k26 => k_is)
    (case a27 => k_is)
    (case l27 => k_is)
    (case x27 => k_is)
    (case k27 => k_is)
    (case a28 => k_is)
    (case l28 => k_is)
    (case x28 => k_is)
    (case k28 => k_is)
    (case a29 => k_is)
    (case l29 => k_is)
    (case x29 => k_is)
    (case k29 => k_is)
    (case a30 => k_is)
    (case l30 => k_is)
    (case x30 => k_is)
    (case k30 => k_is)
    (case a31 => k_is)
    (case l31 => k_is)
    (case x31 => k_is)
    (case k31 => k_is)
    (case a32 => k_is)
    (case l32 => k_is)
    (case x32 => k_is)
    (case k32 => k_is)
    (case ag_0 => k_is)
    (case lg_0 => k_is)
    (case kg_0 => rfl)
    (case sg_0 => decide)
    (case ag_1 => k_is)
    (case lg_1 => k_is)
    (case kg_1 => rfl)
    (case sg_1 => decide)
    (case vg_1_0 => k_is)
    (case vg_1_1 => k_is)
    (case vg_1_2 => k_is)
    (case vg_1_3 => k_is)
    (case vg_1_4 => k_is)
    (case vg_1_5 => k_is)
    (case vg_1_6 => k_is)
    (case z_abs => k_is)
    (case z_int => k_is)
    (case z_isinstance => k_is)
    (case z_len => k_is)
    (case z_list => k_is)
    (case z_max => k_is)
    (case z_min => k_is)
    (case z_range => k_is)
    (case z_repr => k_is)
    (case z_reversed => k_is)
    (case z_sorted => k_is)
    (case z_str => k_is)
    (case z_sum => k_is)
    (case z_tuple => k_is)
    (case z_zip => k_is)
